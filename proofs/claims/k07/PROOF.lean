import PyProof.Rows.All
import Wide.FinOn
import KE.KEqDict
import KE.KSortTup
import KE.KUnpack
import KE.KRevIter
import KE.KDictOf
import KE.KFromBytes
import KE.KIsAll
import ObjForm.ListNI
import PySem.Challenge.RW_calledroom_k07_worlds_drawn
set_option Elab.async false
set_option linter.all false
set_option maxRecDepth 100000
set_option maxHeartbeats 8000000
namespace PySem.W.Fast
def tw1828200920848156231:True:=⟨⟩
def tw20617130853780578:True:=⟨⟩
def tw12067256335925134571:True:=⟨⟩
def tw2340198523531675896:True:=⟨⟩
def tw15438945224052439755:True:=⟨⟩
def tw11538595366778290288:True:=⟨⟩
def tw15624552960710409389:True:=⟨⟩
def tw17927523914780642954:True:=⟨⟩
def tw6906585360404724164:True:=⟨⟩
def tw11612432069802377385:True:=⟨⟩
def tw10966153888567390637:True:=⟨⟩
def tw11522742626490975997:True:=⟨⟩
def tw17126540586180028934:True:=⟨⟩
def tw14608283735973159723:True:=⟨⟩
def tw10246406582284126751:True:=⟨⟩
def tw10606981806416334150:True:=⟨⟩
def tw6595283883416972181:True:=⟨⟩
def tw15661694330683022199:True:=⟨⟩
def tw4238156009331104812:True:=⟨⟩
def tw16297531937178191824:True:=⟨⟩
def tw7069456668132303769:True:=⟨⟩
def tw8235456803994090021:True:=⟨⟩
def tw14443172805701456721:True:=⟨⟩
def tw17994474539186824391:True:=⟨⟩
def tw12317341288583105083:True:=⟨⟩
def tw1257622156759054350:True:=⟨⟩
def tw12006932655931624593:True:=⟨⟩
def tw2318999244897940182:True:=⟨⟩
def tw13244942089300201673:True:=⟨⟩
def tw16117657726051975255:True:=⟨⟩
def tw4029270549147615083:True:=⟨⟩
def tw3778262546491706545:True:=⟨⟩
def tw448032003818602545:True:=⟨⟩
def tw17238767873033960739:True:=⟨⟩
def tw3739972353813014519:True:=⟨⟩
def tw5573025050130653028:True:=⟨⟩
def tw12799357324431856224:True:=⟨⟩
def tw16064092278977622340:True:=⟨⟩
def tw10304183146863438546:True:=⟨⟩
def tw11235474348821223715:True:=⟨⟩
def tw12226577998831929916:True:=⟨⟩
def tw11456765055751561906:True:=⟨⟩
def tw11338400236694395443:True:=⟨⟩
def tw18177076668861773435:True:=⟨⟩
def tw8211259804658470559:True:=⟨⟩
def tw14468633078281601261:True:=⟨⟩
def tw12992914377282360490:True:=⟨⟩
def tw424051641632566151:True:=⟨⟩
def tw9451313037920939569:True:=⟨⟩
def tw10140117534569868206:True:=⟨⟩
def tw8525996508575919794:True:=⟨⟩
def tw11287349100695596401:True:=⟨⟩
def tw1426753971866613923:True:=⟨⟩
def tw8217791866661166898:True:=⟨⟩
def tw394881611932421379:True:=⟨⟩
def tw6196661610878024006:True:=⟨⟩
def tw15320873696758435808:True:=⟨⟩
def tw4791370551014387638:True:=⟨⟩
def tw2103908819732536829:True:=⟨⟩
def tw18240377269759524294:True:=⟨⟩
def tw498673830550437522:True:=⟨⟩
def tw5610258680038127748:True:=⟨⟩
def tw2758500035112587841:True:=⟨⟩
def tw2610454176591446408:True:=⟨⟩
def tw2014876001183911619:True:=⟨⟩
def tw5925802835243097006:True:=⟨⟩
def tw16060739648240341875:True:=⟨⟩
def tw16763405394625106866:True:=⟨⟩
def tw9169373278616086264:True:=⟨⟩
def tw11148073834436277852:True:=⟨⟩
def tw13674832058241744570:True:=⟨⟩
def tw10346711372806517587:True:=⟨⟩
def tw3007917135268271361:True:=⟨⟩
def tw3802756370219877193:True:=⟨⟩
def tw18391223940753793186:True:=⟨⟩
def tw16922281226237564627:True:=⟨⟩
def tw16661522343687711123:True:=⟨⟩
def tw17976595600226392175:True:=⟨⟩
def tw13350656168310230067:True:=⟨⟩
def tw7870783379715378033:True:=⟨⟩
def tw5054423966915172964:True:=⟨⟩
def tw14671277037229847187:True:=⟨⟩
def tw15329625926386583020:True:=⟨⟩
def tw5648287205088183804:True:=⟨⟩
def tw4374173408696820027:True:=⟨⟩
def tw11209095272644724152:True:=⟨⟩
def tw11814033390151777769:True:=⟨⟩
def tw1826959243078489110:True:=⟨⟩
def tw13385653647456439675:True:=⟨⟩
def tw8475344854010795566:True:=⟨⟩
def tw11307234089042024284:True:=⟨⟩
def tw1159703412096194474:True:=⟨⟩
def tw3486761370926126724:True:=⟨⟩
def tw3879918222557437150:True:=⟨⟩
def tw13312098689025307872:True:=⟨⟩
def tw7232647341815863906:True:=⟨⟩
def tw7622321671067567412:True:=⟨⟩
def tw7906806740873937289:True:=⟨⟩
def tw2899483161540116874:True:=⟨⟩
def tw14322728823683196135:True:=⟨⟩
def tw14955135176226136007:True:=⟨⟩
def tw1749071982395422282:True:=⟨⟩
def tw12271920186524566438:True:=⟨⟩
def tw14231270955021730784:True:=⟨⟩
def tw646315140268829291:True:=⟨⟩
def tw12322939362027210201:True:=⟨⟩
def tw11348010163163436972:True:=⟨⟩
def tw12872251595881505006:True:=⟨⟩
def tw16815582746239381008:True:=⟨⟩
def tw4217140911540901636:True:=⟨⟩
def tw836341758137147910:True:=⟨⟩
def tw13385874265190705250:True:=⟨⟩
def tw2314860004293394273:True:=⟨⟩
def tw11293712051521281105:True:=⟨⟩
def tw3251190195882093146:True:=⟨⟩
def tw10073223814228519799:True:=⟨⟩
def tw13381715648186973394:True:=⟨⟩
def tw13585188238127357498:True:=⟨⟩
def tw8306335355878432685:True:=⟨⟩
def tw9686900236263281256:True:=⟨⟩
def tw4830055477620495084:True:=⟨⟩
def tw1934723669159901130:True:=⟨⟩
def tw14860495758989240969:True:=⟨⟩
def tw2045206420772617384:True:=⟨⟩
def tw7905833704457085183:True:=⟨⟩
def tw5018007035720574923:True:=⟨⟩
def tw5768855963243888496:True:=⟨⟩
def tw12516127712904871026:True:=⟨⟩
def tw3919320128995740480:True:=⟨⟩
def tw2852198492151543560:True:=⟨⟩
def tw17854718471122073900:True:=⟨⟩
def tw14036364063045508615:True:=⟨⟩
def tw6547686704180658954:True:=⟨⟩
def tw10596814605078792579:True:=⟨⟩
def tw16227220291510183578:True:=⟨⟩
def tw3100850468641175507:True:=⟨⟩
def tw10422902113363445928:True:=⟨⟩
def tw11792493810350858543:True:=⟨⟩
def tw14775744358099609621:True:=⟨⟩
def tw2782103782314744429:True:=⟨⟩
def tw15137865881633472366:True:=⟨⟩
def tw12958982025361371964:True:=⟨⟩
def tw11240333182860940220:True:=⟨⟩
def tw2262887035643698711:True:=⟨⟩
def tw15960905286705985886:True:=⟨⟩
def tw8634449413866867301:True:=⟨⟩
def tw3361308258163416994:True:=⟨⟩
def tw16413741869201885243:True:=⟨⟩
def tw10853199822209659244:True:=⟨⟩
def tw17970236256667426329:True:=⟨⟩
def tw1755824108863504695:True:=⟨⟩
def tw14606384470601338758:True:=⟨⟩
def tw6039900550032044187:True:=⟨⟩
def tw10842841855060627227:True:=⟨⟩
def tw10504229848955301751:True:=⟨⟩
def tw12245825730734590593:True:=⟨⟩
def tw132381353733979800:True:=⟨⟩
def tw18374944921466464980:True:=⟨⟩
def tw13026403144317641456:True:=⟨⟩
def tw2085055572716114676:True:=⟨⟩
def tw8911207026534192073:True:=⟨⟩
def tw1762226804896680311:True:=⟨⟩
def tw7918189357451882962:True:=⟨⟩
def tw15228922256555708377:True:=⟨⟩
def tw18172280676936639674:True:=⟨⟩
def tw17795567957581041212:True:=⟨⟩
def tw8181793677600268080:True:=⟨⟩
def tw12028019637399606614:True:=⟨⟩
def tw12956828702096770349:True:=⟨⟩
def tw4194497247190602324:True:=⟨⟩
def tw9680357515869150320:True:=⟨⟩
def tw17535062113531021944:True:=⟨⟩
def tw16207829523659160536:True:=⟨⟩
def tw2580685577888190276:True:=⟨⟩
def tw11314176800395856151:True:=⟨⟩
def tw6150405569940269584:True:=⟨⟩
def tw8615890364209570252:True:=⟨⟩
def tw14253975675381146730:True:=⟨⟩
def tw16122844784702270869:True:=⟨⟩
def tw10274051571120149423:True:=⟨⟩
def tw7310336613133421388:True:=⟨⟩
def tw8915355948480205993:True:=⟨⟩
def tw284868409974133403:True:=⟨⟩
def tw18279099580574815023:True:=⟨⟩
def tw6424605888133315024:True:=⟨⟩
def tw10481082364555678313:True:=⟨⟩
def tw11338412914153246700:True:=⟨⟩
def tw801706259114628559:True:=⟨⟩
def tw3582897476989894929:True:=⟨⟩
def tw14640700108600633675:True:=⟨⟩
def tw3611960838571899575:True:=⟨⟩
def tw4155954396510452019:True:=⟨⟩
def tw12688779165770534753:True:=⟨⟩
def tw6771190720423234631:True:=⟨⟩
def tw14351867869982362045:True:=⟨⟩
def tw2264480887874017927:True:=⟨⟩
def tw2351272178545039526:True:=⟨⟩
def tw11554608301299407860:True:=⟨⟩
def tw13398237157208241205:True:=⟨⟩
def tw3014709396621025738:True:=⟨⟩
def tw13096580034053379948:True:=⟨⟩
def tw276840628579957087:True:=⟨⟩
def tw6364806877554029056:True:=⟨⟩
def tw17624354409402450518:True:=⟨⟩
def tw7712093571331429394:True:=⟨⟩
def tw11213763977717902162:True:=⟨⟩
def tw11293186143275520762:True:=⟨⟩
def tw2487389083459032753:True:=⟨⟩
def tw4959799703449753852:True:=⟨⟩
def tw10500771568169897111:True:=⟨⟩
def tw1600171473883402025:True:=⟨⟩
def tw6716255919320202928:True:=⟨⟩
def tw6879810818799573125:True:=⟨⟩
def tw10033658783435381682:True:=⟨⟩
def tw13670391978702990023:True:=⟨⟩
def tw12564198783137226882:True:=⟨⟩
def tw11289109999572362341:True:=⟨⟩
def tw6473451040927926111:True:=⟨⟩
def tw9800870141013905575:True:=⟨⟩
def tw12795594444712752356:True:=⟨⟩
def tw3052987160349411443:True:=⟨⟩
def tw17675489769043247692:True:=⟨⟩
def tw17203075140536232739:True:=⟨⟩
def tw13924092548070991547:True:=⟨⟩
def tw1044292410899596722:True:=⟨⟩
def tw7279897172756292773:True:=⟨⟩
def tw5009461619151462123:True:=⟨⟩
def tw9918413333342631899:True:=⟨⟩
def tw3511298216164825286:True:=⟨⟩
def tw18104681187684634057:True:=⟨⟩
def tw922744073715466936:True:=⟨⟩
def tw3788114473783591167:True:=⟨⟩
def tw10836797426803273071:True:=⟨⟩
def tw9967049704933485142:True:=⟨⟩
def tw14968730871694070482:True:=⟨⟩
def tw16398245714718227081:True:=⟨⟩
def tw15893586334227262049:True:=⟨⟩
def tw8301416073456889195:True:=⟨⟩
def tw8373428685904406003:True:=⟨⟩
def tw16442179112221276420:True:=⟨⟩
def tw9868014971195075377:True:=⟨⟩
def tw2053106126307862018:True:=⟨⟩
def tw14617707979072472901:True:=⟨⟩
def tw17573464666262987613:True:=⟨⟩
def tw13151041876882766389:True:=⟨⟩
def tw10230878310407581453:True:=⟨⟩
def tw17253138665259537651:True:=⟨⟩
def tw8387341499852877592:True:=⟨⟩
def tw18408027222313530336:True:=⟨⟩
def tw1789349200259392512:True:=⟨⟩
def tw12782722804578929617:True:=⟨⟩
def tw11961412587298582963:True:=⟨⟩
def tw4774976956770694693:True:=⟨⟩
def tw4387651639113715366:True:=⟨⟩
def tw18443156686459351024:True:=⟨⟩
def tw11171687670043475482:True:=⟨⟩
def tw9827522184952298129:True:=⟨⟩
def tw8724773244850197546:True:=⟨⟩
def tw17066002069079379714:True:=⟨⟩
def tw11372481949581886807:True:=⟨⟩
def tw12401269971970969637:True:=⟨⟩
def tw7522492686198078610:True:=⟨⟩
def tw8278338710391648011:True:=⟨⟩
def tw17171145088917558010:True:=⟨⟩
def tw5949780854173288294:True:=⟨⟩
def tw7030195876242443387:True:=⟨⟩
def tw9474242580563708036:True:=⟨⟩
def tw2667106138933377953:True:=⟨⟩
def tw1653126477044067787:True:=⟨⟩
def tw10236618238493566538:True:=⟨⟩
def tw7229923448309769423:True:=⟨⟩
def tw14734550637491184030:True:=⟨⟩
def tw14316123368805061912:True:=⟨⟩
def tw1220806704447964282:True:=⟨⟩
def tw1857212526055011686:True:=⟨⟩
def tw5554844560036855309:True:=⟨⟩
def tw9345305009746353771:True:=⟨⟩
def tw16932620624900335143:True:=⟨⟩
def tw13754409986817248917:True:=⟨⟩
def tw9552541638112892250:True:=⟨⟩
def tw11167514881810361900:True:=⟨⟩
end PySem.W.Fast
set_option bootstrap.genMatcherCode false
set_option genSizeOf false
def ab(h:True:=by first|exact .inl L|exact .inr L|assumption):=h
def ac(h:True:=by decide):=h
def ae(h:True:=by first|exact nobehind _ (!1) (!1)|rfl):=h
def af(h:True:=by rfl):=h
def ag(h:True:=by intro _;rfl):=h
def ah(h:True:=by with_unfolding_all rfl):=h
def ai(h:True:=by first|exact Or.inl L|exact Or.inr (Or.inl L)|exact Or.inr (Or.inr L)):=h
def aj(h:True:=by intro _ _;rfl):=h
def ak(h:True:=by first|exact Or.inl L|exact Or.inr L):=h
def am(h:True:=by decide +kernel):=h
def ao(h:True:=by first|decide|omega):=h
def ap(h:True:=by repeat (first|exact EW|refine Bi ?_)):=h
def aT(h:True:=by (repeat intro a);rfl):=h
def ba(h:True:=by intro z;cases z):=h
set_option compiler.extract_closed false
open Lean in
def Z0(s:String)(q:List Syntax:=[]):Syntax:=((s.splitOn " ").foldl (λ(st:List Syntax) t=>
 let n (k:Name) (a:List Syntax):Syntax:=.node .none k a.toArray
 let S (x:Syntax):=n `Lean.Parser.Tactic.tacticSeq [n `Lean.Parser.Tactic.tacticSeq1Indented [n `null [x]]]
 let c:=t.front
 let r:=(t.drop 1).toString
 if c='\'' then mkAtom r::st else if c='$' then (mkIdent r.toName).raw::st else if c='S' then S st.head!::st.tail! else if c='G' then n `group [mkAtom "|",S st.head!]::st.tail! else
 if c='%' then q[r.toNat!]!::st else if c='H' then n `Lean.Parser.Term.hole [mkAtom "_"]::st else if c='Y' then n `Lean.Parser.Term.syntheticHole [mkAtom "?",mkAtom "_"]::st else
 let p:=r.splitOn ","
 let m:=p.head!.toNat!
 n (((",".intercalate p.tail!).splitOn ".").foldl .str (if c='T' then `Lean.Parser.Tactic else if c='E' then `Lean.Parser.Term else .anonymous)) (st.take m).reverse::st.drop m) []).head!
def Z6{a}:Lean.MacroM a:=Lean.Macro.throwUnsupported
def Z7(s:Lean.Syntax)(n:Nat):Lean.MacroM Lean.Syntax:=match s[1].isNatLit? with|some k=>if k<n then pure<|s.setArg 1 (Lean.Syntax.mkNumLit (toString (k+1))) else Z6|none=>Z6
def Z5(s:String):String:=("@set_option§?efine $§<T2,§9 A§8 S E2,byTactic§/simp&A0!'only A1!§- S+) T3,paren+;+r§+ '§*!E2,app T2,refine §& A0!T1,optConfig §#!T1,tacticSeq1Indented T1,tacticSeq ') T3,paren G §!,null ".splitOn "§").foldl (λs t=>s.replace (t.take 1).toString (t.drop 1).toString) s
abbrev Z8:=Z5 "'@ $tactic.hygienic90!'false+in+obtain "
abbrev Z9:=Z5 "91!A0!':= %091!A2!T4,obtain S T6,@"
abbrev Y0:=Z5 "'first+(+r?_root_.xy+fun $Z1 $Z292!A0!'=> Y E4,basicFun E2,fun91*';+( "
abbrev Y1:=Z5 "-?Z2 Y91*';+clear $Z2 $Z192!<clear97#"
abbrev Y2:=Z5 "'/'[ %0+]93!%1 T6,simp"
abbrev Y3:=Z5 "'by+omega&<omega8"
abbrev Y4:=Z5 "'by+decide&<decide8"
abbrev Y5:=Z5 "'first+(+(+with_reducible+r?DL.av+( $d+:= Y+) E5,namedArgument Y Y93*S <withReducible-otate_left90!<rotateLeft+;+rfl T1,tacticRfl95#'d/A0!A0!T6,dsimp G92!<first"
def pQ9:Nat->Lean.Syntax->String
 |0,_=>""
 |n+1,s=>if s.isIdent then "$"++toString s.getId++" T1,rcasesPat.one A1,null T1,rcasesPatMed" else if s.getNumArgs=3 then let l:=s[1].getSepArgs.toList.map (pQ9 n)
  "'⟨ "++" A0,null T2,rcasesPatLo ', ".intercalate l++" A0,null T2,rcasesPatLo A"++toString (2*l.length-1)++",null '⟩ T3,rcasesPat.tuple A1,null T1,rcasesPatMed" else "'_ T1,rcasesPat.ignore A1,null T1,rcasesPatMed"
theorem xy{P:Prop}(h:∀G:Prop,(P->G)->G):P:=h P id
local macro_rules(kind:=Lean.Parser.Tactic.tacticLet__)|s=>do
 let d:=s[2][0]
 if d[0][0].getAtomVal=="#[" then
  let o:=Z8++pQ9 9 d[0]++Z9
  pure<|Z0 (if d[0][1].getNumArgs<7 then o else Y0++o++Y1++o++" G A2,null T2,first") [d[4]]
 else if d[0].getNumArgs=1&&d[1].getNumArgs=0&&d[2].getNumArgs=0 then pure<|.node .none `Lean.Parser.Tactic.tacticHave__ #[Lean.mkAtom "have",s[1],s[2]] else Z6
local macro_rules|`(#[$a,*])=>`(⟨$a,*⟩)
local macro_rules(kind:=Lean.Parser.Term.fun)|s=>do
 let d:=s[1]
 let h:=λx:Lean.Syntax=>x.isOfKind `Lean.Parser.Term.hole
 if d.getNumArgs=4&&d[1].getNumArgs=0&&d[0].getArgs.any h then pure<|s.setArg 1<|d.setArg 0<|.node .none `null<|d[0].getArgs.map λx=>if h x then Lean.mkIdent `xz else x else Z6
local macro_rules(kind:=Lean.Parser.Tactic.tacticErw___)|s=>pure<|Z0 Y2 [.node .none `null<|s[2][1].getArgs.map λr=>if r.getNumArgs=2 then Z0 "A0,null %0 %1 T3,simpLemma" [r[0],r[1]] else r,s[3]]
local macro_rules(kind:=«term!_»)|s=>match s[1].isNatLit? with
 |some 0=>pure<|Z0 Y3
 |some 1=>pure<|Z0 Y4
 |_=>Z6
open PySem PySem.Spec
abbrev X0:=Value->Shared->Prop
abbrev X1:=PySem.W.Frag
abbrev X2:=List (Addr×Obj)
abbrev X3:=Str->Option Value
abbrev X4:=Shared
abbrev X5:=List Value
abbrev X6:=List Str
abbrev X7:=List Addr
abbrev X8:=Addr
abbrev X9:=Program
abbrev X_:=Around
abbrev Xa:=Array Value
abbrev Xb:=Option Int
abbrev Xc:=World
abbrev Xd:=Value
abbrev Xe:=Heap
abbrev Xf:=Bool->Shared->Prop
abbrev L{α:Sort u}{a:α}:a=a:=rfl
noncomputable section
local macro_rules|`(tactic|omega)=>`(tactic|lia)
abbrev gQm:=@List.getElem?_map
abbrev lQm:=@List.length_map
abbrev mQg:=@List.mem_of_getElem?
abbrev oQm:=@Option.map_eq_some_iff
abbrev gQe:=@List.getElem?_eq_getElem
abbrev gQs:=@List.getElem?_eq_some_iff
abbrev lQa:=@List.length_append
abbrev nQl:=@Nat.le_of_lt
abbrev mQa:=@List.mem_append
abbrev Qaq:=@PySem.wpAny_bind
abbrev Qbq:=@Option.bind_some
abbrev Qcq:=@PySem.Heap.get?_push_of_some
abbrev Qdq:=@decide_eq_false
abbrev Qeq:=@decide_eq_true
abbrev Qfq:=@List.mem_singleton
abbrev Qgq:=@PySem.wpAny_pure
abbrev Qhq:=@if_pos
abbrev Qiq:=@PySem.Heap.lt_size
abbrev Qjq:=@List.size_toArray
abbrev Qkq:=@List.mem_map
abbrev Qlq:=@List.getD_eq_getElem?_getD
abbrev Qmq:=@Nat.le_refl
abbrev Qnq:=@List.length_cons
abbrev Qoq:=@List.mem_append_right
abbrev Qpq:=@List.mem_cons_of_mem
abbrev Qqq:=@Nat.lt_of_lt_of_le
abbrev Qrq:=@PySem.Heap.get?_push_size
abbrev Qsq:=@List.mem_cons
abbrev Qtq:=@Bool.false_ne_true
abbrev Quq:=@if_neg
abbrev Qvq:=@List.append_assoc
abbrev Qwq:=@Nat.ne_of_lt
abbrev Qxq:=@List.length_take
abbrev Qyq:=@List.getElem?_set_self
abbrev Qzq:=@List.map_append
abbrev QAq:=@Nat.le_trans
abbrev QBq:=@List.mem_cons_self
abbrev QCq:=@Bool.and_eq_true
abbrev QDq:=@List.map_cons
abbrev QEq:=@List.take_length
abbrev QFq:=@PySem.W.mg_none_of
abbrev QGq:=@List.length_nil
abbrev QHq:=@List.getElem?_append_left
abbrev QIq:=@List.length_replicate
abbrev QJq:=@List.Perm.append_right
abbrev QKq:=@List.getElem?_set_ne
abbrev QLq:=@PySem.wpAny_holding
abbrev QMq:=@PySem.wpAny_field
abbrev QNq:=@List.replicate_succ
abbrev QOq:=@List.mem_flatMap
abbrev QPq:=@List.map_map
abbrev QQq:=@List.getElem?_append_right
abbrev QRq:=@PySem.wpAny_mono
abbrev QSq:=@List.flatMap_cons
abbrev QTq:=@List.mem_or_eq_of_mem_set
abbrev QUq:=@List.all_eq_true
abbrev QVq:=@List.length_range
abbrev QWq:=@List.drop_eq_getElem_cons
abbrev QXq:=@List.not_mem_nil
abbrev QYq:=@List.take_add_one
abbrev QZq:=@of_decide_eq_true
abbrev QaQ:=@of_decide_eq_false
abbrev QbQ:=@List.getElem_of_mem
abbrev QcQ:=@List.mem_of_getLast?
abbrev QdQ:=@Option.some.inj
abbrev QeQ:=@List.of_mem_zip
abbrev QfQ:=@List.getLast?_map
abbrev QgQ:=@PySem.wpAny_ite_false
abbrev QhQ:=@PySem.wpAny_newObj_type
abbrev QiQ:=@PySem.wpAny_callSpecial?_slot
abbrev QjQ:=@List.Sublist.refl
abbrev QkQ:=@List.eq_of_mem_replicate
abbrev QlQ:=@List.map_replicate
namespace L2
open PySem PySem.Spec PyProof.Rows
abbrev Key:=Sum Int Str
def vy:Key->Value->Bool
 |.inl k,v=>Value.isInt k v
 |.inr x,v=>Value.isStrOf x v
def Nu(w:Xc):Key->Int
 |.inl k=>hashInt k
 |.inr x=>hashStr w x
def dj:∀{k:Key} {v:Xd},vy k v=true->(∃i t,k=Sum.inl i/\v=Value.int i t)\/(∃x t,k=Sum.inr x/\v=Value.str x t)
 | .inl i,v,h=>by
   let#[t,e]:=Value.isInt_shape (k:=i) (v:=v) h
   exact .inl #[i,t,L,e]
 | .inr x,v,h=>by
   let#[t,e]:=Value.isStrOf_shape (x:=x) (v:=v) h
   exact .inr #[x,t,L,e]
def BR(i:Int)(t:Tok):vy (.inl i) (.int i t)=true:=by simp[vy,Value.isInt]
def pT(x:Str)(t:Tok):vy (.inr x) (.str x t)=true:=by simp[vy,Value.isStrOf]
def JS(a b:Int):decide ((Sum.inl a:Key)=Sum.inl b)=(a==b):=by
 by_cases e:a=b
 ·subst e;simp
 ·have h:¬(Sum.inl a:Key)=Sum.inl b:=λq=>e (Sum.inl.inj q)
  rw[Qdq h]
  exact(beq_eq_false_iff_ne.mpr e).symm
def JV(a b:Str):decide ((Sum.inr a:Key)=Sum.inr b)=decide (a=b):=by
 by_cases e:a=b
 ·subst e;simp
 ·have h:¬(Sum.inr a:Key)=Sum.inr b:=λq=>e (Sum.inr.inj q)
  rw[Qdq h,Qdq e]
def Ir(a:Int)(b:Str):decide ((Sum.inl a:Key)=Sum.inr b)=false:=Qdq (λq=>nomatch q)
def IA(a:Str)(b:Int):decide ((Sum.inr a:Key)=Sum.inl b)=false:=Qdq (λq=>nomatch q)
def cH(prog:X9)(w:Xc):PySem.KeyKind prog w Key where
 is:=vy
 hash:=Nu w
 inj:=λv a b f d=>by
  rcases dj f with⟨i,t,rfl,rfl⟩|⟨x,t,rfl,rfl⟩
  ·rcases dj d with⟨j,u,rfl,e⟩|⟨y,u,rfl,e⟩
   ·injection e with c _;rw[c]
   ·exact nomatch e
  ·rcases dj d with⟨j,u,rfl,e⟩|⟨y,u,rfl,e⟩
   ·exact nomatch e
   ·injection e with c _;rw[c]
 byValue:=λk v h=>by
  rcases dj h with⟨i,t,rfl,rfl⟩|⟨x,t,rfl,rfl⟩ <;>rfl
 pyHash:=λhv h=>by
  rcases dj hv with⟨i,t,rfl,rfl⟩|⟨x,t,rfl,rfl⟩
  ·exact wpAny_pyHash_int h
  ·exact wpAny_pyHash_str h
 eqBool:=λg hv h=>by
  rcases dj g with⟨i,t,rfl,rfl⟩|⟨x,t,rfl,rfl⟩
  ·rcases dj hv with⟨j,u,rfl,rfl⟩|⟨y,u,rfl,rfl⟩
   ·rw[JS] at h;exact wpAny_eqBool_int h
   ·rw[Ir] at h;exact SeqAt.EqAt.int_str i t y u _ _ _ _ h
  ·rcases dj hv with⟨j,u,rfl,rfl⟩|⟨y,u,rfl,rfl⟩
   ·rw[IA] at h;exact SeqAt.EqAt.str_int x t j u _ _ _ _ h
   ·rw[JV] at h;exact wpAny_eqBool_str h
 «strs»:=λk x t v h=>by
  rcases dj h with⟨i,u,rfl,e⟩|⟨y,u,rfl,e⟩
  ·exact nomatch e
  ·injection e with c _
   subst c
   cases v <;>rfl
def xD(prog:X9)(w:Xc)(i:Int)(t:Tok):(cH prog w).is (.inl i) (.int i t)=true:=BR i t
def yb(prog:X9)(w:Xc)(x:Str)(t:Tok):(cH prog w).is (.inr x) (.str x t)=true:=pT x t
inductive V where
 |non|bl (b:Bool)|int (i:Int)|str (x:Str)|byt (b:Array UInt8)|flt (b:UInt64)|ref (a:X8)|ty (n:String)
 deriving DecidableEq
def RelV:V->Value->Prop
 |.non,u=>u=Value.none
 |.bl b,u=>u=Value.bool b
 |.int i,u=>∃t,u=Value.int i t
 |.str x,u=>∃t,u=Value.str x t
 |.byt b,u=>∃t,u=Value.bytes b t
 |.flt b,u=>∃t,u=Value.float b t
 |.ref a,u=>u=Value.ref a
 |.ty n,u=>u=Value.type n
abbrev bt:List V->List Value->Prop:=Paired RelV
def bt.length{xs:List V}{a:X5}(r:bt xs a):xs.length=a.length:=Paired.length r
theorem bt.get:∀{xs:List V} {a:X5} {i:Nat} {x:V},bt xs a->xs[i]?=some x->∃u,a[i]?=some u/\RelV x u
 |_,_,_,_,.nil,e=>by simp at e
 |_,_,0,_,.cons r _,e=>by simp at e;subst e;exact#[_,L,r]
 | _,_,i+1,x,.cons _ t,e=>by
   let#[u,c,b]:=bt.get (i:=i) (x:=x) t (by simpa using e)
   exact#[u,by simpa using c,b]
theorem bt.set{x:V}{u:Xd}(r:RelV x u):∀{xs:List V} {a:X5} (i:Nat),bt xs a->bt (xs.set i x) (a.set i u)
 |_,_,_,.nil=>.nil
 |_,_,0,.cons _ t=>.cons r t
 |_,_,i+1,.cons q t=>.cons q (bt.set r i t)
theorem bt.append:∀{xs ys:List V} {a ws:X5},bt xs a->bt ys ws->bt (xs++ys) (a++ws)
 |_,_,_,_,.nil,s=>s
 |_,_,_,_,.cons r t,s=>.cons r (bt.append t s)
theorem bt.take:∀{xs:List V} {a:X5} (n:Nat),bt xs a->bt (xs.take n) (a.take n)
 |_,_,0,_=>.nil
 |_,_,_+1,.nil=>.nil
 |_,_,n+1,.cons r t=>.cons r (bt.take n t)
theorem bt.drop:∀{xs:List V} {a:X5} (n:Nat),bt xs a->bt (xs.drop n) (a.drop n)
 |_,_,0,r=>r
 |_,_,_+1,.nil=>.nil
 |_,_,n+1,.cons _ t=>bt.drop n t
def t_:Option V->Option Value->Prop
 |some v,some u=>RelV v u
 |none,none=>True
 |_,_=>False
def KV{a:Type}:List (a×V)->List (a×Value)->Prop:=Paired λ(p:a×V) (q:a×Value)=>p.1=q.1/\RelV p.2 q.2
def kV:Key->V
 |.inl i=>.int i
 |.inr x=>.str x
inductive HO where
 |lst (xs:List V)
 |tup (xs:List V)
 |dK (kvs:List (Key×V))|dT (kvs:List (List Key×V))
 |set (S:Int->Bool) (n:Nat)
 |ins (C dx:X8) (fs:List (Str×V))
 |own (x:X8)
 |xd (fs:List (Str×V))
 |met (f x:X8)
 |rng (lo hi:Int)
 |frz (o:Obj) (u:HO)
 |tbl (ps:Xa)
 |ext (φ:Heap->Prop)
abbrev Hp:=Addr->Option HO
def upd(H:Hp)(a:X8)(o:HO):Hp:=λb=>if b=a then some o else H b
def bg{H:Hp}{a:X8}{o:HO}:upd H a o a=some o:=by unfold upd;rw[Qhq L]
def a7{H:Hp}{a b:X8}{o:HO}(h:b≠a):upd H a o b=H b:=by unfold upd;rw[Quq h]
def GX{H:Hp}{a b:X8}{o u:HO}(h:H a=some o)(h':H b=some u)(d:o≠u):a≠b:=by
 intro e;subst e;rw[h] at h';exact d (QdQ h')
def eR{H:Hp}{a b:X8}{o:HO}(h:H a=some o)(h':H b=none):a≠b:=by
 intro e;subst e;rw[h] at h';cases h'
def xj(h:Xe)(a:X8)(items:Xa):Prop:=∃o,h.get? a=some o/\o.cls=.type "tuple" /\o.dict=none/\∃n,o.data=.seq items n
def xj.it{h:Xe}{a:X8}{items:Xa}(x:xj h a items):IsTup h a items:=by
 let#[o,e,c,_,d]:=x
 exact#[o,e,c,d]
def xj.new(h:Xe)(items:Xa):xj (h.push {cls:=.type "tuple",data:=.seq items}) h.objs.size items:=#[_,Qrq _ L,L,L,_,L]
section
variable(P:X9)(w:Xc)
def cJ(H:Hp)(h:Xe)(a:X8):HO->Prop
 |.lst d=>d.length<=sizeLine/\∃(c:X5) (n:Nat),bt d c/\h.get? a=some {cls:=.type "list",data:=.seq c.toArray n}
 |.tup d=>d.length<=sizeLine/\∃c:List Value,bt d c/\xj h a c.toArray
 |.dK b=>b.length<=sizeLine/\(a==sysModules)=false/\∃l,KV b l/\h.DictOf (cH P w) a l
 |.dT b=>b.length<=sizeLine/\(a==sysModules)=false/\∃d:List (List Key×Addr×Value),
   Paired (λ(p:List Key×V) (q:List Key×Addr×Value)=>p.1=q.1/\H q.2.1=some (.tup (p.1.map kV))/\RelV p.2 q.2.2) b d∧
   ∃o r z,h.get? a=some o/\o.ExactDict/\o.data=.dict r z/\r.toList=d.map (entryOfKey (tupleKind (cH P w)))/\(d.map (·.1)).Nodup
 |.set S n=>h.SetOf (intKind P w) a S n
 |.ins C i g=>H i=some (.own a)/\g.length<=1000/\i≠a/\h.get? a=some (PySem.W.instObj C i)∧
   ∃e,h.Ns1 i e/\(∀f,t_ (g.lookup f) (e f))/\PySem.Within e (g.map (·.1))
 |.own _=>∃o,h.get? a=some o
 |.xd g=>∃e,h.Ns1 a e/\∀f,t_ (g.lookup f) (e f)
 |.rng A y=>∃t u v,h.get? a=some {cls:=.type "range",data:=.fields (List.toArray [.int A t,.int y u,.int 1 v])}
 |.frz o u=>h.get? a=some o/\cJ H h a u
 |.tbl s=>h.get? a=some {cls:=.none,data:=.fields s}
 |.met f x=>h.get? a=some (PySem.W.methodObj (.ref f) (.ref x))
 |.ext j=>j h/\(∃o,h.get? a=some o)/\∀m k:Heap,j m->(∀o,m.get? a=some o->k.get? a=some o)->j k
def og(H:Hp)(h:Xe):Prop:=∀a o,H a=some o->cJ P w H h a o
end
section
variable{P:X9}{w:Xc}{H H':Hp}{h h':Xe}{a:X8}{o:HO}
theorem cJ.lt(x:cJ P w H h a o):a<h.objs.size:=by
 cases o with
 |lst c=>let#[_,_,_,_,e]:=x;exact Qiq e
 |tup c=>let#[_,_,_,p]:=x;exact p.it.lt
 |dK b=>let#[_,_,_,_,o,_,_,e,_]:=x;exact Qiq e
 |dT b=>let#[_,_,_,_,o,_,_,e,_]:=x;exact Qiq e
 |set S n=>let#[o,_,_,_,e,_]:=x;exact Qiq e
 |ins C l d=>let#[_,_,_,e,_]:=x;exact Qiq e
 |own y=>let#[_,e]:=x;exact Qiq e
 |xd d=>let#[_,#[_,_,_,e,_],_]:=x;exact Qiq e
 |rng m k=>let#[_,_,_,e]:=x;exact Qiq e
 |frz j u=>let#[e,_]:=x;exact Qiq e
 |tbl i=>exact Qiq (show h.get? a=some _ from x)
 |met f y=>exact Qiq (show h.get? a=some _ from x)
 |ext g=>let#[_,#[_,e],_]:=x;exact Qiq e
theorem Paired.mapP{α β:Type}{F G:α->β->Prop}:∀{l₁:List α} {l₂:List β},Paired F l₁ l₂->(∀a b,F a b->G a b)->Paired G l₁ l₂
 |_,_,.nil,_=>.nil
 |_,_,.cons r t,f=>.cons (f _ _ r) (Paired.mapP t f)
def cJ.stay(x:cJ P w H h a o)(k:∀b u,(b=a\/H b=some (.own a))->h.get? b=some u->h'.get? b=some u)
  (K:∀b,H b=some (.own a)->H' b=some (.own a)) (ht:∀b xs,H b=some (.tup xs)->H' b=some (.tup xs)):cJ P w H' h' a o:=by
 induction o with
 |lst xs=>let#[z,l,n,r,e]:=x;exact#[z,l,n,r,k _ _ (.inl L) e]
 |tup xs=>let#[z,l,r,g,e,c]:=x;exact#[z,l,r,g,k _ _ (.inl L) e,c]
 |dK m=>let#[z,y,I,r,g,i,j,e,c]:=x;exact#[z,y,I,r,g,i,j,k _ _ (.inl L) e,c]
 | dT m=>
   let#[z,y,xs,r,g,i,j,e,c]:=x
   exact#[z,y,xs,Paired.mapP r λp q z=>#[z.1,ht _ _ z.2.1,z.2.2],g,i,j,k _ _ (.inl L) e,c]
 |set S n=>let#[g,i,j,t,e,c]:=x;exact#[g,i,j,t,k _ _ (.inl L) e,c]
 | ins C U M=>
   let#[d,z,ne,e,s,#[A,i,j,J,c],r]:=x
   exact#[K _ d,z,ne,k _ _ (.inl L) e,s,#[A,i,j,k _ _ (.inr d) J,c],r]
 |own y=>let#[g,e]:=x;exact#[g,k _ _ (.inl L) e]
 |xd M=>let#[s,#[A,i,j,e,c],r]:=x;exact#[s,#[A,i,j,k _ _ (.inl L) e,c],r]
 |rng X R=>let#[t,u,v,e]:=x;exact#[t,u,v,k _ _ (.inl L) e]
 |frz g u N=>let#[e,q]:=x;exact#[k _ _ (.inl L) e,N q]
 | tbl B=>
   have e:h.get? a=some {cls:=.none,data:=.fields B}:=x
   show h'.get? a=some {cls:=.none,data:=.fields B}
   exact k a _ (.inl L) e
 | met f y=>
   have e:h.get? a=some (PySem.W.methodObj (.ref f) (.ref y)):=x
   show h'.get? a=some (PySem.W.methodObj (.ref f) (.ref y))
   exact k a _ (.inl L) e
 |ext Q=>let#[p,#[o,e],F]:=x;exact#[F _ _ p λo q=>k _ _ (.inl L) q,#[o,k _ _ (.inl L) e],F]
def og.lt(x:og P w H h)(e:H a=some o):a<h.objs.size:=(x a o e).lt
def og.fresh(x:og P w H h)(e:h.objs.size<=a):H a=none:=by
 cases q:H a with
 |none=>rfl
 |some u=>exact absurd (Qqq (x.lt q) e) (Nat.lt_irrefl _)
def og.kept(x:og P w H h)(k:∀b u,h.get? b=some u->h'.get? b=some u):og P w H h':=λa o e=>
 (x a o e).stay (λb u _ q=>k b u q) (λ_ q=>q) λ_ _ q=>q
def og.laid(x:og P w H h)(k:∀b u,h.get? b=some u->h'.get? b=some u)(g:h.objs.size<=a)(new:cJ P w (upd H a o) h' a o):og P w (upd H a o) h':=λb u e=>by
 let f:=x.fresh g
 by_cases d:b=a
 ·subst d;rw[bg] at e;cases e;exact new
 ·rw[a7 d] at e
  exact(x b u e).stay (λc v _ q=>k c v q) (λc q=>by rw[a7 (eR q f)];exact q) λc i q=>by rw[a7 (eR q f)];exact q
end
def Rd(H:Hp)(a:X8)(u:HO):Prop:=H a=some u\/∃o,H a=some (.frz o u)
def Rd.ok{P:X9}{w:Xc}{H:Hp}{h:Xe}{a:X8}{u:HO}(r:Rd H a u)(x:og P w H h):cJ P w H h a u:=by
 rcases r with r|⟨o,r⟩
 ·exact x a u r
 ·let#[_,q]:=x a _ r
  exact q
def Lh:Option HO->Prop
 |some (.lst _)=>True
 |some (.dK _)=>True
 |some (.dT _)=>True
 |some (.set _ _)=>True
 |some (.ins _ _ _)=>True
 |some (.ext _)=>True
 |_=>False
section
variable{P:X9}{w:Xc}{H:Hp}{h h':Xe}{x e:X8}{o':HO}
def og.write(ok:og P w H h)(j:Lh (H x))(he:e=x\/H e=some (.own x))(k:∀b u,b≠e->h.get? b=some u->h'.get? b=some u)(m:∃u,h'.get? e=some u)
  (new:cJ P w (upd H x o') h' x o'):og P w (upd H x o') h':=λb u q=>by
 have d:∀c y,H c=some (.own y)->c≠x:=λc y r z=>by subst z;rw[r] at j;exact j
 have f:∀c i,H c=some (.tup i)->c≠x:=λc i r z=>by subst z;rw[r] at j;exact j
 by_cases g:b=x
 ·subst g;rw[bg] at q;cases q;exact new
 ·rw[a7 g] at q
  by_cases a:b=e
  ·have n:H b=some (.own x):=by
    rcases he with z|z
    ·exact absurd (a.trans z) g
    ·rw[a];exact z
   rw[q] at n;cases n
   let#[v,hv]:=m
   exact#[v,by rw[a];exact hv]
  ·refine(ok b u q).stay (λc v l r=>k c v ?_ r) (λc r=>by rw[a7 (d c b r)];exact r) λc i r=>by rw[a7 (f c i r)];exact r
   rcases l with rfl|l
   ·exact a
   ·rintro rfl
    rcases he with z|z
    ·exact d c b l z
    ·rw[l] at z;cases z;exact g L
end
structure Un(fs ex:X7)(H H':Hp)(h h':Xe):Prop where
 keep:∀b o,h.get? b=some o->H b=none->b∉fs->b∉ex->h'.get? b=some o
 slot:∀b o,h.get? b=some o->H b=none->b∈fs->b∉ex->∃sl,h'.get? b=some {o with slots:=sl}
 free:∀b o,h.get? b=some o->H b=none->b∉ex->H' b=none
 there:∀b o,h.get? b=some o->b∉ex->∃o',h'.get? b=some o'
 tups:∀b xs,H b=some (.tup xs)->H' b=some (.tup xs)
 frzs:∀b o u,H b=some (.frz o u)->H' b=some (.frz o u)
 tbls:∀b ps,H b=some (.tbl ps)->∃more,H' b=some (.tbl (ps++more))
section
variable{fs fs' ex ex':X7}{H H1 H2:Hp}{h h1 h2 h':Xe}{a x e:X8}{o:HO}
def Un.any(u:Un fs ex H H1 h h1){b:X8}{c:Obj}(q:h.get? b=some c)(n:H b=none)(f:b∉ex):∃sl,h1.get? b=some {c with slots:=sl}:=by
 by_cases d:b∈fs
 ·exact u.slot b c q n d f
 ·exact#[c.slots,u.keep b c q n d f]
def Un.kept(k:∀b u,h.get? b=some u->h'.get? b=some u):Un fs ex H H h h':=
 #[λb c q _ _ _=>k b c q,λb c q _ _ _=>#[c.slots,k b c q],λ_ _ _ n _=>n,λb c q _=>#[c,k b c q],λ_ _ q=>q,λ_ _ _ q=>q,λ_ d q=>#[(List.toArray []),by rw[q];simp]]
def Un.refl:Un fs ex H H h h:=Un.kept λ_ _ q=>q
def Un.laid(k:∀b u,h.get? b=some u->h'.get? b=some u)(d:h.objs.size<=a)(c:H a=none):Un fs ex H (upd H a o) h h' where
 keep:=λb u q _ _ _=>k b u q
 slot:=λb u q _ _ _=>#[u.slots,k b u q]
 free:=λb u q n _=>by rw[a7 (Qwq (Qqq (Qiq q) d))];exact n
 there:=λb u q _=>#[u,k b u q]
 tups:=λb f q=>by rw[a7 (eR q c)];exact q
 frzs:=λb u f q=>by rw[a7 (eR q c)];exact q
 tbls:=λb g q=>#[(List.toArray []),by rw[a7 (eR q c),q];simp]
def Un.write(d:Lh (H x))(he:e=x\/H e=some (.own x))(k:∀b u,b≠e->h.get? b=some u->h'.get? b=some u)(g:∃u,h'.get? e=some u):Un fs ex H (upd H x o) h h':=by
 have j:∀b,H b=none->b≠x:=λb n z=>by subst z;rw[n] at d;exact d
 have i:∀b,H b=none->b≠e:=λb n z=>by
  subst z
  rcases he with r|r
  ·exact j b n r
  ·rw[n] at r;cases r
 have f:∀b u,H b=some u->¬Lh (some u)->b≠x:=λb u q nm z=>by subst z;rw[q] at d;exact nm d
 refine⟨λb u q n _ _=>k b u (i b n) q,λb u q n _ _=>⟨u.slots,k b u (i b n) q⟩,λb u q n _=>by rw[a7 (j b n)];exact n,λb u q _=>?_,
  λb l q=>by rw[a7 (f b _ q λz=>z)];exact q,λb u l q=>by rw[a7 (f b _ q λz=>z)];exact q,λb m q=>#[(List.toArray []),by rw[a7 (f b _ q λz=>z),q];simp]⟩
 by_cases c:b=e
 ·subst c;exact g
 ·exact#[u,k b u c q]
end
def MC(h:Xe)(H:Hp):List Addr:=(List.range h.objs.size).filter λa=>(H a).isSome
def wF(h:Xe)(H:Hp):Heap:=PySem.W.hideAll h (MC h H)
def BK(h:Xe)(H:Hp):(wF h H).objs.size=h.objs.size:=PySem.W.hideAll_size _ _
def D9{h:Xe}{H:Hp}{b:X8}{o:Obj}(e:h.get? b=some o)(n:H b=none):(wF h H).get? b=some o:=
 PySem.W.hideAll_get _ e λa=>by
  have q:(H b).isSome=true:=(List.mem_filter.mp a).2
  rw[n] at q;simp at q
def GT{h:Xe}{H:Hp}{b:X8}{o:Obj}(e:(wF h H).get? b=some o):h.get? b=some o/\H b=none:=by
 have a:h.get? b=some o:=PySem.W.of_hideAll (MC h H) e
 refine#[a,?_]
 cases q:H b with
 |none=>rfl
 | some x=>
   have c:b∈MC h H:=List.mem_filter.mpr #[List.mem_range.mpr (Qiq a),by simp[q]]
   have z:(wF h H).get? b=none:=PySem.W.hideAll_none (MC h H) c
   rw[z] at e;cases e
structure Mod(K:X1)(mg:X3)(base:Xe):Prop where
 kin:K.In base
 glob:base.Ns mainGlobals mg
 blt:∃mb,base.Ns builtinsNs mb/\∀x:Str,x≠"__name__" ->mb x=bootBuiltins x
 nolimit:base.NoLimit
structure Cx where
 prog:Program
 w:World
 K:PySem.W.Frag
 mg:Str->Option Value
 base:Heap
 A:Around
 N:List Str
 s₀:Shared
 H₀:Hp
 env:Env
 outer:List Env
 stack:List Env
 ex:List Addr
 fn:Str->Bool
 calm:Bool
 pn:List (Addr×Obj)
 xe:Value->Shared->Prop
def Dv(l:List Env):List Addr:=l.filterMap (·.frame)
abbrev Cx.fs(X:Cx):List Addr:=Dv X.outer
def HU(a:Scope)(x:Str):Prop:=a.names.lookup x=some .local\/a.names.lookup x=some .cell\/a.names.lookup x=some .free
def Loc(a:Scope)(x:Str):Prop:=a.names.lookup x=some .local\/a.names.lookup x=some .cell
def Look(env:Env)(h:Xe)(m:X3)(x:Str)(u:Xd):Prop:=
 (env.kindOf x=some .local/\m x=some u)\/((env.kindOf x=some .cell\/env.kindOf x=some .free)/\∃c,env.cells.lookup x=some c/\h.IsCell c (some u))
structure Cx.Ok(X:Cx):Prop where
 mod:Mod X.K X.mg X.base
 kind:X.env.scope.kind=.function
 glob:X.env.globals=mainGlobals
 blt:X.env.builtins=builtinsNs
 above:X.s₀.heap.objs.size<=X.env.locals
 inj:∀x y c,X.env.cells.lookup x=some c->X.env.cells.lookup y=some c->x=y
 has:∀x,(X.env.kindOf x=some .cell\/X.env.kindOf x=some .free)->∃c,X.env.cells.lookup x=some c
 cab:∀x c,X.fn x=true->X.env.cells.lookup x=some c->X.s₀.heap.objs.size<=c
 hd:X.calm=true->X.A.handled=none
 frames:X.A.frames=some X.stack
 stk:X.stack=X.outer\/(X.stack=X.env::X.outer/\X.env.frame=some X.env.locals)
 exf:∀b∈X.ex,b≠X.env.locals/\∀x c,X.env.cells.lookup x=some c->c≠b
 bs:∀b o,X.base.get? b=some o->X.s₀.heap.get? b=some o/\X.H₀ b=none
 bsz:X.base.objs.size<=X.s₀.heap.objs.size
 noex:∀b o,X.base.get? b=some o->b∉X.ex
 exfs:∀b∈X.ex,b∉X.fs
 funs:X.s₀.heap.FunFrames X.base X.outer
 frf:∀b∈X.fs,X.H₀ b=none
structure Inv(X:Cx)(pins:X2)(σ:List (Option V))(H:Hp)(s:X4):Prop where
 ok:X.Ok
 os:s.os=X.s₀.os
 bare:AllBare s.gens
 base:Un X.fs X.ex X.H₀ H X.s₀.heap s.heap
 loc:∃m,s.heap.Ns X.env.locals m/\∀(i:Nat) (x:Str) (v:V),X.N[i]?=some x->σ[i]?=some (some v)->HU X.env.scope x->∃u,RelV v u/\Look X.env s.heap m x u
 cell:∀x c,X.env.cells.lookup x=some c->∃v,s.heap.IsCell c v
 free:H X.env.locals=none
 freeC:∀x c,X.env.cells.lookup x=some c->H c=none
 pin:∀p∈X.pn++pins,s.heap.get? p.1=some p.2/\H p.1=none/\p.1≠X.env.locals/\p.1∉X.fs/\∀v,p.2.data≠.cell v
 hok:og X.prog X.w H s.heap
 len:σ.length=X.N.length
section
variable{X:Cx}{pins:X2}{σ:List (Option V)}{H H':Hp}{s:X4}{h':Xe}
def Cx.Ok.nofr(ok:X.Ok){b:X8}{o:Obj}(e:X.base.get? b=some o):b∉X.fs:=λa=>by
 have:=(ok.funs.mem a).1
 rw[e] at this;cases this
def Inv.bs(I:Inv X pins σ H s):∀b o,X.base.get? b=some o->s.heap.get? b=some o/\H b=none:=λb o e=>
 #[I.base.keep b o (I.ok.bs b o e).1 (I.ok.bs b o e).2 (I.ok.nofr e) (I.ok.noex b o e),I.base.free b o (I.ok.bs b o e).1 (I.ok.bs b o e).2 (I.ok.noex b o e)]
def Inv.bk(I:Inv X pins σ H s):∀b o,X.base.get? b=some o->s.heap.get? b=some o:=λb o e=>(I.bs b o e).1
def Inv.mod(I:Inv X pins σ H s):Mod X.K X.mg X.base:=I.ok.mod
def Inv.kIn(I:Inv X pins σ H s):X.K.In s.heap:=I.ok.mod.kin.keeps I.bk
def Inv.lt(I:Inv X pins σ H s):X.env.locals<s.heap.objs.size:=let ⟨_,hn,_⟩:=I.loc;hn.lt
def Inv.sz(I:Inv X pins σ H s):X.s₀.heap.objs.size<=s.heap.objs.size:=QAq I.ok.above (nQl I.lt)
def Inv.nofs(I:Inv X pins σ H s){a:X8}(h:s.heap.objs.size<=a):a∉X.fs:=λc=>by
 let#[_,o,b,_]:=I.ok.funs.mem c
 exact absurd (Qqq (Qiq b) (QAq I.sz h)) (Nat.lt_irrefl _)
def Inv.cne(I:Inv X pins σ H s):∀x c,X.env.cells.lookup x=some c->c≠X.env.locals:=λx c e z=>by
 let#[v,o,f,d]:=I.cell x c e
 let#[m,#[i,h,g,b,a,_],_]:=I.loc
 rw[z,b] at f;cases f;rw[a] at d;cases d
theorem Inv.funs(I:Inv X pins σ H s):s.heap.FunFrames X.base X.outer:=by
 have f:∀(l:List Env),(∀b∈Dv l,b∈X.fs)->X.s₀.heap.FunFrames X.base l->s.heap.FunFrames X.base l:=by
  intro l
  induction l with
  |nil=>intro _ _;trivial
  | cons j r q=>
    intro g m
    let#[i,#[L,o,d,p,k,h],n]:=m
    have c:L∈X.fs:=g L (by unfold Dv;rw[List.filterMap_cons,d];exact QBq)
    let#[sl,e]:=I.base.slot L o k (I.ok.frf L c) c λz=>I.ok.exfs L z c
    exact#[i,#[L,_,d,p,e,h],q (λb a=>g b (by unfold Dv;rw[List.filterMap_cons,d];exact Qpq _ a)) n]
 exact f X.outer (λ_ a=>a) I.ok.funs
def Inv.stack(I:Inv X pins σ H s):s.heap.FunFrames X.base X.stack:=by
 rcases I.ok.stk with e|⟨e,a⟩
 ·rw[e];exact I.funs
 ·rw[e]
  let#[m,b,_]:=I.loc
  refine .cons (by rw[I.ok.kind];decide) a b ?_ I.funs
  exact Heap.get?_none_of_le (QAq I.ok.bsz I.ok.above)
def Inv.stkSub(I:Inv X pins σ H s):∀b∈Dv X.stack,b∈X.env.locals::X.fs:=λb a=>by
 rcases I.ok.stk with e|⟨e,c⟩
 ·rw[e] at a;exact Qpq _ a
 ·rw[e] at a
  unfold Dv at a
  rw[List.filterMap_cons,c] at a
  exact a
def Inv.stkFree(I:Inv X pins σ H s):∀b∈Dv X.stack,H b=none:=λb a=>by
 rcases Qsq.mp (I.stkSub b a) with e|a
 ·rw[e];exact I.free
 ·let#[_,o,c,_]:=I.ok.funs.mem a
  exact I.base.free b o c (I.ok.frf b a) λz=>I.ok.exfs b z a
def Inv.step{g':Array GenState}{t':Nat}{d':Drawn}{ch:X7}(I:Inv X pins σ H s)
  (h:∀b∈ch,(b∈X.ex\/X.s₀.heap.objs.size<=b)/\b≠X.env.locals/\(∀x c,X.env.cells.lookup x=some c->c≠b)/\∀p∈X.pn++pins,p.1≠b)
  (keep:∀b o,b≠X.env.locals->b∉X.fs->b∉ch->s.heap.get? b=some o->H b=none->h'.get? b=some o)
  (slot:∀b o,b≠X.env.locals->b∈X.fs->b∉ch->s.heap.get? b=some o->H b=none->∃sl,h'.get? b=some {o with slots:=sl}) (free:∀b o,b∉ch->s.heap.get? b=some o->H b=none->H' b=none)
  (there:∀b o,b∉ch->s.heap.get? b=some o->∃o',h'.get? b=some o')
  (tups:∀b xs,H b=some (.tup xs)->H' b=some (.tup xs)) (frzs:∀b o u,H b=some (.frz o u)->H' b=some (.frz o u)) (tbls:∀b ps,H b=some (.tbl ps)->∃B,H' b=some (.tbl (ps++B)))
  (ns:∀m,s.heap.Ns X.env.locals m->h'.Ns X.env.locals m) (K:og X.prog X.w H' h') (S:AllBare g'):
  Inv X pins σ H' {s with heap:=h',gens:=g',drawn:=d',toks:=t'}:=by
 have C:∀b o,X.s₀.heap.get? b=some o->b≠X.env.locals:=λb o e=>Qwq (Qqq (Qiq e) I.ok.above)
 have j:∀b o,X.s₀.heap.get? b=some o->b∉X.ex->b∉ch:=λb o e a y=>by
  rcases(h b y).1 with z|z
  ·exact a z
  ·exact absurd (Qqq (Qiq e) z) (Nat.lt_irrefl _)
 have f:∀x c,X.env.cells.lookup x=some c->∀v,s.heap.IsCell c v->h'.IsCell c v:=λx c e v U=>by
  let#[o,A,J]:=U
  have g:c∉ch:=λz=>(h c z).2.2.1 x c e L
  by_cases Q:c∈X.fs
  ·let#[sl,q]:=slot c o (I.cne x c e) Q g A (I.freeC x c e)
   exact#[_,q,J]
  ·exact#[o,keep c o (I.cne x c e) Q g A (I.freeC x c e),J]
 refine#[I.ok,I.os,S,#[λb o e n y a=>?_,λb o e n y a=>?_,λb o e n a=>?_,λb o e a=>?_,λb xs e=>tups b xs (I.base.tups b xs e),λb o xs e=>frzs b o xs (I.base.frzs b o xs e),λb ps e=>?_],?_,λx c e=>?_,?_,λx c e=>?_,λp N=>?_,K,I.len]
 ·exact keep b o (C b o e) y (j b o e a) (I.base.keep b o e n y a) (I.base.free b o e n a)
 ·let#[sl,t]:=I.base.slot b o e n y a
  let#[M,F]:=slot b _ (C b o e) y (j b o e a) t (I.base.free b o e n a)
  exact#[M,F]
 ·let#[o',t]:=I.base.there b o e a
  exact free b o' (j b o e a) t (I.base.free b o e n a)
 ·let#[o',t]:=I.base.there b o e a
  exact there b o' (j b o e a) t
 ·let#[Y,t]:=I.base.tbls b ps e
  let#[R,F]:=tbls b _ t
  exact#[Y++R,by rw[F,Array.append_assoc]]
 ·let#[m,Z,W]:=I.loc
  refine#[m,ns m Z,λi x v t F e3=>?_]
  let#[u,r,l]:=W i x v t F e3
  refine#[u,r,?_]
  rcases l with l|⟨k,c,e,z⟩
  ·exact .inl l
  ·exact .inr #[k,c,e,f x c e _ z]
 ·let#[v,z]:=I.cell x c e
  exact#[v,f x c e v z]
 ·let#[m,#[o,_,_,A,_],_]:=I.loc
  exact free _ o (λz=>(h _ z).2.1 L) A I.free
 ·let#[v,o,A,J]:=I.cell x c e
  exact free c o (λz=>(h c z).2.2.1 x c e L) A (I.freeC x c e)
 ·let#[e,n,ne,P,d]:=I.pin p N
  have g:p.1∉ch:=λz=>(h p.1 z).2.2.2 p N L
  exact#[keep p.1 p.2 ne P g e n,free p.1 p.2 g e n,ne,P,d]
def Inv.un{t':Nat}(I:Inv X pins σ H s)(u:Un X.fs [] H H' s.heap h')(g:og X.prog X.w H' h'):Inv X pins σ H' {s with heap:=h',toks:=t'}:=by
 let#[m,#[o,l,t,h,r],_]:=id I.loc
 let#[sl,j]:=u.any h I.free (by simp)
 exact I.step (g':=s.gens) (d':=s.drawn) (ch:= []) (λ_ z=>nomatch z) (λb o _ c _ e n=>u.keep b o e n c (by simp)) (λb o _ c _ e n=>u.slot b o e n c (by simp)) (λb o _ e n=>u.free b o e n (by simp)) (λb o _ e=>u.there b o e (by simp)) u.tups u.frzs u.tbls (λq k=>by
  let#[p,f,d,a,i]:=k
  rw[h] at a;cases a
  exact#[_,f,d,j,i]) g I.bare
def Inv.call{g':Array GenState}{t':Nat}{d':Drawn}{ch:X7}(I:Inv X pins σ H s)(u:Un (Dv X.stack) ch H H' s.heap h')(j:og X.prog X.w H' h')(t:AllBare g')
  (f:∀b∈ch,(b∈X.ex\/X.s₀.heap.objs.size<=b)/\b≠X.env.locals/\(∀x c,X.env.cells.lookup x=some c->c≠b)/\∀p∈X.pn++pins,p.1≠b):
  Inv X pins σ H' {s with heap:=h',gens:=g',drawn:=d',toks:=t'}:=by
 let#[m,#[o,y,C,k,r],_]:=id I.loc
 let#[sl,h]:=u.any k I.free λz=>(f _ z).2.1 L
 exact I.step (ch:=ch) f (λb o h q a e n=>u.keep b o e n (λz=>(Qsq.mp (I.stkSub b z)).elim h q) a) (λb o _ _ a e n=>u.any e n a) (λb o a e n=>u.free b o e n a) (λb o a e=>u.there b o e a) u.tups u.frzs u.tbls (λB v=>by
  let#[A,i,g,d,l]:=v
  rw[k] at d;cases d
  exact#[_,i,g,h,l]) j t
def Inv.turned{t':Nat}{it:X8}(I:Inv X pins σ H s)(k:∀b o,b≠it->s.heap.get? b=some o->h'.get? b=some o)(w:H it=none)(f:it≠X.env.locals)
  (i:it∈X.ex\/X.s₀.heap.objs.size<=it) (g:∀x c,X.env.cells.lookup x=some c->c≠it) (t:∀p∈X.pn++pins,p.1≠it):Inv X pins σ H {s with heap:=h',toks:=t'}:=by
 have d:∀b u,H b=some u->b≠it:=λb u e z=>by rw[z,w] at e;cases e
 refine I.step (g':=s.gens) (d':=s.drawn) (ch:= [it]) (λb h=>?_) (λb o _ _ a e _=>k b o (λz=>a (by simp[z])) e) (λb o _ _ a e _=>#[o.slots,k b o (λz=>a (by simp[z])) e]) (λ_ _ _ _ n=>n)
  (λb o a e=>#[o,k b o (λz=>a (by simp[z])) e]) (λ_ _ e=>e) (λ_ _ _ e=>e) (λb B e=>#[(List.toArray []),by rw[e];simp]) (λm y=>?_) (λb u e=>?_) I.bare
 ·have e:b=it:=by simpa using h
  subst e
  exact#[i,f,g,t]
 ·let#[o,l,A,j,r]:=y
  exact#[o,l,A,k _ o (Ne.symm f) j,r]
 ·refine(I.hok b u e).stay (λc v a q=>k c v ?_ q) (λ_ q=>q) λ_ _ q=>q
  rcases a with z|z
  ·rw[z];exact d b u e
  ·exact d c _ z
def Inv.tok(I:Inv X pins σ H s)(t:Nat):Inv X pins σ H {s with toks:=t}:=I.un (h':=s.heap) (t':=t) Un.refl I.hok
def Inv.kept{t':Nat}(I:Inv X pins σ H s)(k:∀b u,s.heap.get? b=some u->h'.get? b=some u):Inv X pins σ H {s with heap:=h',toks:=t'}:=I.un (Un.kept k) (I.hok.kept k)
def Inv.laid{a:X8}{o:HO}{t':Nat}(I:Inv X pins σ H s)(k:∀b u,s.heap.get? b=some u->h'.get? b=some u)(c:s.heap.objs.size<=a)(new:cJ X.prog X.w (upd H a o) h' a o):
  Inv X pins σ (upd H a o) {s with heap:=h',toks:=t'}:=I.un (Un.laid k c (I.hok.fresh c)) (I.hok.laid k c new)
def Inv.write{x e:X8}{o:HO}{t':Nat}(I:Inv X pins σ H s)(c:Lh (H x))(he:e=x\/H e=some (.own x))(k:∀b u,b≠e->s.heap.get? b=some u->h'.get? b=some u)(a:∃u,h'.get? e=some u)
  (new:cJ X.prog X.w (upd H x o) h' x o):Inv X pins σ (upd H x o) {s with heap:=h',toks:=t'}:=I.un (Un.write c he k a) (I.hok.write c he k a new)
def Inv.pins_of{a:X2}(I:Inv X pins σ H s)(h:∀p∈a,s.heap.get? p.1=some p.2/\H p.1=none/\p.1≠X.env.locals/\p.1∉X.fs/\∀v,p.2.data≠.cell v):Inv X a σ H s:=
 #[I.ok,I.os,I.bare,I.base,I.loc,I.cell,I.free,I.freeC,λp b=>(mQa.mp b).elim (λz=>I.pin p (List.mem_append_left _ z)) (h p),I.hok,I.len]
def xN{N:X6}(d:N.Nodup){i j:Nat}{x:Str}(a:N[i]?=some x)(b:N[j]?=some x):i=j:=by
 let#[g,c]:=gQs.mp a
 let#[f,e]:=gQs.mp b
 exact(List.getElem_inj d).mp (c.trans e.symm)
def CG{M:Model}{A:X_}{E:X0}{i:Nat}{x:Str}{v:V}{u:Xd}{Q:Unit->Shared->Prop}(I:Inv X pins σ H s)(hN:X.N.Nodup)(hi:X.N[i]?=some x)(B:Loc X.env.scope x)(r:RelV v u)
  (h:∀s',Inv X pins (σ.set i (some v)) H s'->(∃a,Heap.SameBut a s.heap s'.heap/\(a=X.env.locals\/X.env.cells.lookup x=some a))->Q () s') (hf:autoParam (X.fn x=true\/X.env.scope.names.lookup x=some .local) ab._auto_1):wpAny M A (storeName X.env x u) Q E s:=by
 let#[m,hn,hl]:=id I.loc
 have a1:(X.env.scope.kind==.class||(X.env.scope.kind==.module&&X.env.locals !=X.env.globals))=false:=by rw[I.ok.kind];rfl
 have K:i<σ.length:=by rw[I.len];exact(gQs.mp hi).1
 let R:=I.cne
 have g:∀{a:X8} {h':Xe},(∃o,s.heap.get? a=some o/\H a=none)->Heap.SameBut a s.heap h'->og X.prog X.w H h':=λ{a h'} ha f b ob e=>by
  let#[_,_,C]:=ha
  refine(I.hok b ob e).stay (λc w' t q=>(f.2 c ?_).trans q) (λ_ q=>q) λ_ _ q=>q
  rintro rfl
  rcases t with rfl|t
  ·rw[C] at e;cases e
  ·rw[C] at t;cases t
 rcases B with J|J
 ·refine wpAny_storeName_local J hn (λh' a2 f=>?_) a1
  let#[oL,_,_,a3,_]:=id hn
  refine h _ #[I.ok,I.os,I.bare,#[λb o e n P B=>?_,λb o e n P B=>?_,I.base.free,λb o e B=>?_,I.base.tups,I.base.frzs,I.base.tbls],#[_,a2,λj y v' l F e3=>?_],λy c e=>?_,I.free,I.freeC,λp hp=>?_,g #[oL,a3,I.free] f,by simpa using I.len] #[_,f,.inl L]
  ·exact(f.2 b (Qwq (Qqq (Qiq e) I.ok.above))).trans (I.base.keep b o e n P B)
  ·let#[sl,l]:=I.base.slot b o e n P B
   exact#[sl,(f.2 b (Qwq (Qqq (Qiq e) I.ok.above))).trans l]
  ·let#[o',l]:=I.base.there b o e B
   exact#[o',(f.2 b (Qwq (Qqq (Qiq e) I.ok.above))).trans l]
  ·by_cases S:j=i
   ·subst S
    rw[hi] at l;cases l
    rw[Qyq K] at F
    cases F
    exact#[u,r,.inl #[J,by simp]]
   ·rw[QKq (Ne.symm S)] at F
    let#[u',r',q]:=hl j y v' l F e3
    refine#[u',r',?_]
    rcases q with⟨k,e⟩|⟨k,c,e,z⟩
    ·refine .inl #[k,?_]
     have:y≠x:=λe=>S (xN hN l (e▸hi))
     simp[this,e]
    ·exact .inr #[k,c,e,z.sameBut f (R y c e)]
  ·let#[w',z]:=I.cell y c e
   exact#[w',z.sameBut f (R y c e)]
  ·let#[e,n,ne,nf,d]:=I.pin p hp
   exact#[(f.2 p.1 ne).trans e,n,ne,nf,d]
 ·have U:X.fn x=true:=by
   rcases hf with z|z
   ·exact z
   ·rw[z] at J;cases J
  let#[c,t]:=I.ok.has x (.inl J)
  let#[w',z]:=I.cell x c t
  refine wpAny_storeName_cell I.ok.kind J t z (λh' a0 f=>?_)
  let#[oc,W,Y]:=id z
  refine h {s with heap:=h'} #[I.ok,I.os,I.bare,#[λb o e n P B=>?_,λb o e n P B=>?_,I.base.free,λb o e B=>?_,I.base.tups,I.base.frzs,I.base.tbls],#[m,hn.sameBut f (Ne.symm (R x c t)),λj y v' l F e3=>?_],λy c' e=>?_,I.free,I.freeC,λp hp=>?_,g #[oc,W,I.freeC x c t] f,by simpa using I.len] #[c,f,.inr t]
  ·exact(f.2 b (Qwq (Qqq (Qiq e) (I.ok.cab x c U t)))).trans (I.base.keep b o e n P B)
  ·let#[sl,l]:=I.base.slot b o e n P B
   exact#[sl,(f.2 b (Qwq (Qqq (Qiq e) (I.ok.cab x c U t)))).trans l]
  ·let#[o',l]:=I.base.there b o e B
   exact#[o',(f.2 b (Qwq (Qqq (Qiq e) (I.ok.cab x c U t)))).trans l]
  ·by_cases S:j=i
   ·subst S
    rw[hi] at l;cases l
    rw[Qyq K] at F
    cases F
    exact#[u,r,.inr #[.inl J,c,t,a0]]
   ·rw[QKq (Ne.symm S)] at F
    let#[u',r',q]:=hl j y v' l F e3
    refine#[u',r',?_]
    rcases q with q|⟨k,c',e,z'⟩
    ·exact .inl q
    ·refine .inr #[k,c',e,z'.sameBut f ?_]
     rintro rfl
     exact S (xN hN l (I.ok.inj _ _ _ e t▸hi))
  ·by_cases Z:c'=c
   ·subst Z;exact#[_,a0]
   ·let#[w2,z2]:=I.cell y c' e
    exact#[w2,z2.sameBut f Z]
  ·let#[e,n,ne,nf,d]:=I.pin p hp
   refine#[(f.2 p.1 ?_).trans e,n,ne,nf,d]
   intro q
   rw[q,W] at e
   have q':oc=p.2:=QdQ e
   exact d w' (by rw[<-q'];exact Y)
def oB{M:Model}{A:X_}{E:X0}{i:Nat}{x:Str}{v:V}{u:Xd}{Q:Unit->Shared->Prop}(I:Inv X pins σ H s)(d:X.N.Nodup)(hi:X.N[i]?=some x)(e:Loc X.env.scope x)(r:RelV v u)
  (h:∀a,Inv X pins (σ.set i (some v)) H a->Q () a) (b:autoParam (X.fn x=true\/X.env.scope.names.lookup x=some .local) ab._auto_1):wpAny M A (storeName X.env x u) Q E s:=
 CG I d hi e r (λa c _=>h a c) b
def Inv.call'{a:X4}{ch:X7}(I:Inv X pins σ H s)(g:a.os=s.os)(u:Un (Dv X.stack) ch H H' s.heap a.heap)(d:og X.prog X.w H' a.heap)(h:AllBare a.gens)
  (f:∀b∈ch,(b∈X.ex\/X.s₀.heap.objs.size<=b)/\b≠X.env.locals/\(∀x c,X.env.cells.lookup x=some c->c≠b)/\∀p∈X.pn++pins,p.1≠b):Inv X pins σ H' a:=by
 let#[h',g',d',t',i]:=a
 have e:i=s.os:=g
 subst e
 exact I.call (g':=g') (t':=t') (d':=d') u d h f
end
abbrev XK:=Value->Option Addr->Hp->Prop
abbrev St:=List (Option V)
abbrev VK:=V->Hp->Prop
abbrev TE:=St->Hp->VK->Prop
abbrev TT:=St->Hp->(Bool->Hp->Prop)->Prop
abbrev TA:=St->Hp->(List V->Hp->Prop)->Prop
structure Ends where
 nx:St->Hp->Prop
 rt:VK
 bk:St->Hp->Prop:=λ_ _=>False
 ct:St->Hp->Prop:=λ_ _=>False
abbrev TS:=Ends->St->Hp->Prop
def EP(X:Cx)(a:X2)(d:St)(Q:VK)(u:Xd)(c:X4):Prop:=∃v b,Inv X a d b c/\RelV v u/\Q v b
def TP(X:Cx)(a:X2)(e:St)(Q:Bool->Hp->Prop)(b:Bool)(d:X4):Prop:=∃c,Inv X a e c d/\Q b c
def AP(X:Cx)(a:X2)(f:St)(Q:List V->Hp->Prop)(e:X5)(d:X4):Prop:=∃b c,Inv X a f c d/\bt b e/\Q b c
def SP(X:Cx)(b:X2)(D:Ends)(f:Flow)(d:X4):Prop:=
 match f with
 |.next=>∃a c,Inv X b a c d/\D.nx a c
 |.brk=>∃a c,Inv X b a c d/\D.bk a c
 |.cont=>∃a c,Inv X b a c d/\D.ct a c
 |.ret u=>∃v a c,Inv X b a c d/\RelV v u/\D.rt v c
def PE(X:Cx)(e:Expr)(t:TE):Prop:=
 ∀(a:X2) (s:X4) (b:St) (H:Hp) (Q:VK),Inv X a b H s->t b H Q->wpAny (model X.prog X.w) X.A (eval e X.env) (EP X a b Q) X.xe s
def PT(X:Cx)(e:Expr)(t:TT):Prop:=
 ∀(a:X2) (s:X4) (b:St) (H:Hp) (Q:Bool->Hp->Prop),Inv X a b H s->t b H Q->wpAny (model X.prog X.w) X.A (isTrue e X.env (eval e X.env)) (TP X a b Q) X.xe s
def PW(X:Cx)(e:Expr)(t:TT):Prop:=
 ∀(b:Sem Value) (a:X2) (s:X4) (c:St) (H:Hp) (Q:Bool->Hp->Prop),Inv X a c H s->t c H Q->wpAny (model X.prog X.w) X.A (isTrue e X.env b) (TP X a c Q) X.xe s
def PW.pt{X:Cx}{e:Expr}{t:TT}(h:PW X e t):PT X e t:=h _
def PA(X:Cx)(es:List Expr)(t:TA):Prop:=
 ∀(b:Pos) (a:X2) (s:X4) (c:St) (H:Hp) (Q:List V->Hp->Prop),Inv X a c H s->t c H Q->wpAny (model X.prog X.w) X.A (spliced (backTo b (starEach es X.env))) (AP X a c Q) X.xe s
def PS(X:Cx)(st:Stmt)(t:TS):Prop:=
 ∀(a:X2) (s:X4) (b:St) (H:Hp) (D:Ends),Inv X a b H s->t D b H->wpAny (model X.prog X.w) X.A (exec st X.env) (SP X a D) X.xe s
def rA(X:Cx)(st:List Stmt)(t:TS):Prop:=
 ∀(a:X2) (s:X4) (b:St) (H:Hp) (D:Ends),Inv X a b H s->t D b H->wpAny (model X.prog X.w) X.A (execs st X.env) (SP X a D) X.xe s
def bZ{α:Type}{t:Sem α}{Q b:α->Shared->Prop}{M:Model}{A:X_}{E:X0}{s:X4}(h:wpAny M A t Q E s)(c:∀a s,Q a s->b a s):wpAny M A t b E s:=QRq h c λ_ _ x=>x
section
variable{X:Cx}
def JP(i:Nat):TE:=λa H Q=>∃v,a[i]?=some (some v)/\Q v H
def tC(v:V):TE:=λ_ H Q=>Q v H
def IK{i:Nat}{x:Str}{pos:Pos}(p:X.N[i]?=some x)(hv:HU X.env.scope x)(g:autoParam ((x==("__debug__":Str))=false) ac._auto_1)(j:autoParam ((x==("__classdict__":Str))=false) ac._auto_1):PE X (.Name x pos) (JP i):=by
 intro f s o H Q I h
 let#[v,e,h]:=h
 let#[m,q,n]:=I.loc
 let#[u,r,l]:=n i x v p e hv
 have b:EP X f o Q u s:=#[v,H,I,r,h]
 rcases l with⟨d,t⟩|⟨d,c,k,a⟩
 ·exact wpAny_Name (wpAny_loadName_local I.ok.kind d q t b) g
 ·rcases d with d|d
  ·exact wpAny_Name (wpAny_loadName_cell I.ok.kind d k a b) g
  ·exact wpAny_Name (wpAny_loadName_free I.ok.kind d k a b j) g
def JW{i j pos}:PE X (.Constant (.int i) j pos) (tC (.int i)):=λ_ _ _ H _ I h=>wpAny_Constant_int #[.int i,H,I.tok _,#[_,L],h]
def LG{b j pos}:PE X (.Constant (.bool b) j pos) (tC (.bl b)):=λ_ _ _ H _ I h=>Constant_bool #[.bl b,H,I,L,h]
def Ji{j pos}:PE X (.Constant .none j pos) (tC .non):=λ_ _ _ H _ I h=>Constant_none #[.non,H,I,L,h]
def Eb{x j pos}:PE X (.Constant (.str x) j pos) (tC (.str x)):=λ_ _ _ H _ I h=>Calls.Constant_str #[.str x,H,I.tok _,#[_,L],h]
def Gl(X:Cx)(x:Str):Prop:=X.env.kindOf x=some .globalImplicit
def BD{E:X0}{a:X2}{s:X4}{e:St}{H:Hp}{x:Str}{u:Xd}{pos:Pos}{Q:X0}(I:Inv X a e H s)(d:Gl X x)(c:X.mg x=some u)(h:Q u s)
  (b:autoParam ((x==("__debug__":Str))=false) ac._auto_1):wpAny (model X.prog X.w) X.A (eval (.Name x pos) X.env) Q E s:=
 Calls.Name_function_global I.ok.kind d (Calls.loadGlobal_global (by rw[I.ok.glob];exact I.mod.glob.keeps I.bk) c h) b
def lD{E:X0}{a:X2}{s:X4}{f:St}{H:Hp}{x:Str}{u:Xd}{pos:Pos}{Q:X0}(I:Inv X a f H s)(d:Gl X x)(i:X.mg x=none)(hv:bootBuiltins x=some u)(h:Q u s)
  (g:autoParam (x≠"__name__") ac._auto_1) (b:autoParam ((x==("__debug__":Str))=false) ac._auto_1):wpAny (model X.prog X.w) X.A (eval (.Name x pos) X.env) Q E s:=by
 let#[j,e,c]:=I.mod.blt
 exact Calls.Name_function_global I.ok.kind d (Calls.loadGlobal_builtin (by rw[I.ok.glob];exact I.mod.glob.keeps I.bk) i (by rw[I.ok.blt];exact e.keeps I.bk) ((c x g).trans hv) h) b
def dF{x:Str}{v:V}{u:Xd}{pos:Pos}(c:Gl X x)(b:X.mg x=some u)(r:RelV v u)(a:autoParam ((x==("__debug__":Str))=false) ac._auto_1):PE X (.Name x pos) (tC v):=
 λ_ _ _ H _ I h=>BD I c b #[v,H,I,r,h] a
def di{x:Str}{v:V}{u:Xd}{pos:Pos}(c:Gl X x)(b:X.mg x=none)(hv:bootBuiltins x=some u)(r:RelV v u)(d:autoParam (x≠"__name__") ac._auto_1)(a:autoParam ((x==("__debug__":Str))=false) ac._auto_1):PE X (.Name x pos) (tC v):=
 λ_ _ _ H _ I h=>lD I c b hv #[v,H,I,r,h] d a
variable{a b:Expr}{ta tb:TE}{pos:Pos}
def PC(X:Cx)(g:CmpOp)(a b:Expr)(t:TE):Prop:=
 ∀ (c:X2) (s:X4) (f:St) (H:Hp) (Q:VK),Inv X c f H s->t f H Q->
   wpAny (model X.prog X.w) X.A (eval a X.env) (λv e=>wpAny (model X.prog X.w) X.A (eval b X.env) (λu d=>wpAny (model X.prog X.w) X.A (compareOp g v u) (EP X c f Q) X.xe d) X.xe e) X.xe s
def tB(t:TE):TT:=λd H Q=>t d H λx H1=>∃c,x=.bl c/\Q c H1
def Io{d:CmpOp}{t:TE}(h:PC X d a b t)(f:autoParam (behindInMarks d b=false) ae._auto_1):PE X (.Compare a [d] [b] pos) t:=λc s g H Q I e=>wpAny_Compare1 (h c s g H Q I e) f
def JL{g:CmpOp}{t:TE}(h:PC X g a b t)(f:autoParam (behindInMarks g b=false) ae._auto_1):PT X (.Compare a [g] [b] pos) (tB t):=by
 intro e s n H Q I m
 refine wpAny_isTrue_Compare1 (bZ (h e s n H _ I m) λv p f=>bZ f λu o i=>bZ i λc r ⟨x,H1,k,j,l⟩=>?_) f
 let#[d,rfl,q]:=l
 cases j
 exact wpAny_truthy_bool #[H1,k,q]
variable{tA tB':TT}{rest:List Expr}
def MG(t u:TT):TT:=λd H Q=>t d H λc H1=>if c=true then u d H1 Q else Q false H1
def NY(t u:TT):TT:=λd H Q=>t d H λc H1=>if c=true then Q true H1 else u d H1 Q
def Ni(t:TT):TT:=λd H Q=>t d H λc H1=>Q (!c) H1
def Gf(f:PT X a tA):PW X (.BoolOp .And [a] pos) tA:=by
 intro i d s g H Q I h
 refine isTrue_and (bZ (f d s g H Q I h) λc j e=>?_)
 cases c with
 |true=>exact isTrue_and_nil e
 |false=>exact e
def IU(f:PT X a tA):PW X (.BoolOp .Or [a] pos) tA:=by
 intro i d s g H Q I h
 refine isTrue_or (bZ (f d s g H Q I h) λc j e=>?_)
 cases c with
 |false=>exact isTrue_or_nil e
 |true=>exact e
def IQ(i:PT X a tA)(l:PW X (.BoolOp .And (b::rest) pos) tB'):PW X (.BoolOp .And (a::b::rest) pos) (MG tA tB'):=by
 intro j d s g H Q I h
 refine isTrue_and (bZ (i d s g H _ I h) λc k m=>?_)
 let#[H1,f,e]:=m
 cases c with
 |true=>exact l j d k g H1 Q f e
 |false=>exact#[H1,f,e]
def LK(i:PT X a tA)(l:PW X (.BoolOp .Or (b::rest) pos) tB'):PW X (.BoolOp .Or (a::b::rest) pos) (NY tA tB'):=by
 intro j d s g H Q I h
 refine isTrue_or (bZ (i d s g H _ I h) λc k m=>?_)
 let#[H1,f,e]:=m
 cases c with
 |true=>exact#[H1,f,e]
 |false=>exact l j d k g H1 Q f e
def Ij(e:PT X a tA):PT X (.UnaryOp .Not a pos) (Ni tA):=by
 intro d s f H Q I h
 exact isTrue_not (e d s f H (λc H1=>Q (!c) H1) I h)
def KP(ta tb:TE):TE:=λd H Q=>ta d H λx H1=>∃c,x=.bl c/\if c=true then tb d H1 Q else Q (.bl false) H1
def M_(ta tb:TE):TE:=λd H Q=>ta d H λx H1=>∃c,x=.bl c/\if c=true then Q (.bl true) H1 else tb d H1 Q
def Lw(ta:TE):TE:=λd H Q=>ta d H λx H1=>∃c,x=.bl c/\Q (.bl (!c)) H1
def IE{op}{t:TE}(h:PE X a t):PE X (.BoolOp op [a] pos) t:=λc s e H Q I d=>BoolOp_one (h c s e H Q I d)
def HE(m:PE X a ta)(j:PE X (.BoolOp .And (b::rest) pos) tb):PE X (.BoolOp .And (a::b::rest) pos) (KP ta tb):=by
 intro d s g H Q I h
 refine BoolOp_and (bZ (m d s g H _ I h) λv k l=>?_)
 let#[x,H1,f,i,e]:=l
 let#[c,rfl,e]:=e
 cases i
 refine wpAny_truthy_bool ?_
 cases c with
 |true=>exact j d k g H1 Q f e
 |false=>exact#[.bl false,H1,f,L,e]
def LN(m:PE X a ta)(j:PE X (.BoolOp .Or (b::rest) pos) tb):PE X (.BoolOp .Or (a::b::rest) pos) (M_ ta tb):=by
 intro d s g H Q I h
 refine BoolOp_or (bZ (m d s g H _ I h) λv k l=>?_)
 let#[x,H1,f,i,e]:=l
 let#[c,rfl,e]:=e
 cases i
 refine wpAny_truthy_bool ?_
 cases c with
 |false=>exact j d k g H1 Q f e
 |true=>exact#[.bl true,H1,f,L,e]
def JI(f:PE X a ta):PE X (.UnaryOp .Not a pos) (Lw ta):=by
 intro d s k H Q I h
 refine UnaryOp_ (bZ (f d s k H _ I h) λv l j=>?_)
 let#[x,H1,i,g,e]:=j
 let#[c,rfl,e]:=e
 cases g
 exact not_of (wpAny_truthy_bool #[.bl (!c),H1,i,L,e])
def N4(t:TT)(ta tb:TE):TE:=λd H Q=>t d H λc H1=>if c=true then ta d H1 Q else tb d H1 Q
def D7{c:Expr}(n:PT X c tA)(k:PE X a ta)(l:PE X b tb):PE X (.IfExp c a b pos) (N4 tA ta tb):=by
 intro e s f H Q I h
 refine wpAny_IfExp (bZ (n e s f H _ I h) λd i m=>?_)
 let#[H1,j,g]:=m
 cases d with
 |true=>exact k e i f H1 Q j g
 |false=>exact l e i f H1 Q j g
end
def iD(K:X1)(H:Hp)(a:X8)(xs:List V):Prop:=
 Rd H a (.lst xs)∨
  ∃(o:Obj) (b:Xa) (n:Nat),K.lookup a=some o/\o.cls=.type "list" /\o.dict=none/\o.data=.seq b n/\b.size<=sizeLine/\bt xs b.toList
def iC(K:X1)(H:Hp)(a:X8)(xs:List V):Prop:=
 Rd H a (.tup xs)∨
  ∃(o:Obj) (b:Xa) (n:Nat),K.lookup a=some o/\o.cls=.type "tuple" /\o.data=.seq b n/\b.size<=sizeLine/\bt xs b.toList
def Nw:Value->Option V
 |.none=>some .non
 |.bool b=>some (.bl b)
 |.int i _=>some (.int i)
 |.str x _=>some (.str x)
 |.bytes b _=>some (.byt b)
 |.float b _=>some (.flt b)
 |.ref a=>some (.ref a)
 |.type n=>some (.ty n)
 |_=>none
def RelV.abs{x:V}{u:Xd}(r:RelV x u):Nw u=some x:=by
 cases x with
 |non=>cases r;rfl
 |bl _=>cases r;rfl
 |int _=>let#[t,rfl]:=r;rfl
 |str _=>let#[t,rfl]:=r;rfl
 |byt _=>let#[t,rfl]:=r;rfl
 |flt _=>let#[t,rfl]:=r;rfl
 |ref _=>cases r;rfl
 |ty _=>cases r;rfl
def RelV.inj{x y:V}{u:Xd}(r:RelV x u)(q:RelV y u):x=y:=QdQ (r.abs.symm.trans q.abs)
theorem bt.inj:∀{xs ys:List V} {a:X5},bt xs a->bt ys a->xs=ys
 |_,_,_,.nil,.nil=>rfl
 |_,_,_,.cons r t,.cons r' t'=>by rw[r.inj r',bt.inj t t']
section
variable{X:Cx}{pins:X2}{σ:St}{H:Hp}{s:X4}{a:X8}{xs ys:List V}
def iD.of{K:X1}(h:H a=some (.lst xs)):iD K H a xs:=.inl (.inl h)
def iC.of{K:X1}(h:H a=some (.tup xs)):iC K H a xs:=.inl (.inl h)
def Inv.list(I:Inv X pins σ H s)(h:iD X.K H a xs):∃b:List Value,bt xs b/\PlainL s.heap a b.toArray/\xs.length<=sizeLine:=by
 rcases h with h|⟨o,b,n,d,g,c,f,i,r⟩
 ·let#[z,b,n,r,e]:=h.ok I.hok
  exact#[b,r,#[_,n,e,L,L,L],z]
 ·refine#[b.toList,r,#[o,n,I.kIn a o d,g,c,by simpa using f],?_]
  let e:=r.length
  erw[Array.length_toList] at e
  omega
def Inv.tuple(I:Inv X pins σ H s)(h:iC X.K H a xs):∃b:List Value,bt xs b/\IsTup s.heap a b.toArray/\xs.length<=sizeLine:=by
 rcases h with h|⟨o,b,n,c,f,d,g,r⟩
 ·let#[z,b,r,p]:=h.ok I.hok
  exact#[b,r,p.it,z]
 ·refine#[b.toList,r,#[o,I.kIn a o c,f,n,by simpa using d],?_]
  let e:=r.length
  erw[Array.length_toList] at e
  omega
def Inv.list_inj(I:Inv X pins σ H s)(h:iD X.K H a xs)(h':iD X.K H a ys):xs=ys:=by
 let#[c,r,#[o,n,e,_,_,d],_]:=I.list h
 let#[b,i,#[l,k,g,_,_,f],_]:=I.list h'
 rw[e] at g;cases g
 rw[d] at f
 injection f with j _
 have:c=b:=by simpa using congrArg Array.toList j
 subst this
 exact r.inj i
def Inv.tuple_inj(I:Inv X pins σ H s)(h:iC X.K H a xs)(h':iC X.K H a ys):xs=ys:=by
 let#[c,r,#[o,e,_,n,d],_]:=I.tuple h
 let#[b,i,#[l,g,_,k,f],_]:=I.tuple h'
 rw[e] at g;cases g
 rw[d] at f
 injection f with j _
 have:c=b:=by simpa using congrArg Array.toList j
 subst this
 exact r.inj i
end
abbrev Cx.wish(X:Cx)(E:X0):Cx:={X with xe:=E}
abbrev Cx.nox(X:Cx):Cx:=X.wish λ_ _=>False
def Cx.Ok.wish{X:Cx}(ok:X.Ok)(E:X0):(X.wish E).Ok:=
 #[ok.mod,ok.kind,ok.glob,ok.blt,ok.above,ok.inj,ok.has,ok.cab,ok.hd,ok.frames,ok.stk,ok.exf,ok.bs,ok.bsz,ok.noex,ok.exfs,ok.funs,ok.frf]
def Cx.Ok.unwish{X:Cx}{E:X0}(ok:(X.wish E).Ok):X.Ok:=
 #[ok.mod,ok.kind,ok.glob,ok.blt,ok.above,ok.inj,ok.has,ok.cab,ok.hd,ok.frames,ok.stk,ok.exf,ok.bs,ok.bsz,ok.noex,ok.exfs,ok.funs,ok.frf]
section
variable{X:Cx}{pins:X2}{σ:St}{H:Hp}{s:X4}{E:X0}
def Inv.wish(I:Inv X pins σ H s)(E:X0):Inv (X.wish E) pins σ H s:=#[I.ok.wish E,I.os,I.bare,I.base,I.loc,I.cell,I.free,I.freeC,I.pin,I.hok,I.len]
def Inv.unwish(I:Inv (X.wish E) pins σ H s):Inv X pins σ H s:=#[I.ok.unwish,I.os,I.bare,I.base,I.loc,I.cell,I.free,I.freeC,I.pin,I.hok,I.len]
theorem SP.unwish{D:Ends}{f:Flow}{c:X4}(h:SP (X.wish E) pins D f c):SP X pins D f c:=by
 cases f with
 |next=>let#[a,b,I,q]:=h;exact#[a,b,I.unwish,q]
 |brk=>let#[a,b,I,q]:=h;exact#[a,b,I.unwish,q]
 |cont=>let#[a,b,I,q]:=h;exact#[a,b,I.unwish,q]
 |ret u=>let#[v,a,b,I,r,q]:=h;exact#[v,a,b,I.unwish,r,q]
def rA.nox{st:List Stmt}{t:TS}(h:rA X.nox st t):rA X st t:=λpins s σ H D I a=>
 QRq (h pins s σ H D (I.wish _) a) (λ_ _ q=>q.unwish) λ_ _ z=>False.elim z
end
section
variable{X:Cx}{st:Stmt}{rest:List Stmt}{t u:TS}{e:Expr}{te:TE}{pos:Pos}
def Ld:TS:=λD a H=>D.nx a H
def MK(t u:TS):TS:=λD a H=>t {D with nx:=u D} a H
def FC:rA X [] Ld:=λ_ _ a H _ I h=>wpAny_execs_nil #[a,H,I,h]
def C6(d:PS X st t)(c:rA X rest u):rA X (st::rest) (MK t u):=by
 intro a s k H D I h
 refine wpAny_execs_cons (bZ (d a s k H {D with nx:=u D} I h) λf i q=>?_)
 cases f with
 | next=>
   let#[b,j,g,q]:=q
   exact c a i b j D g q
 |ret v=>exact q
 |brk=>exact q
 |cont=>exact q
def FA(b:PS X st t):rA X [st] t:=by
 intro a s c H D I h
 refine wpAny_execs_cons (bZ (b a s c H D I h) λf d q=>?_)
 cases f with
 |next=>exact wpAny_execs_nil q
 |ret v=>exact q
 |brk=>exact q
 |cont=>exact q
def Inv.quiet{a:X2}{b:St}{H:Hp}{s:X4}(I:Inv X a b H s):interactive X.env=false:=by simp[interactive,I.ok.kind]
def LB(te:TE):TS:=λD a H=>te a H λ_ H1=>D.nx a H1
def Gc(he:PE X e te)(d:autoParam (swapsWith e none pos.line X.env=pure false) af._auto_1):PS X (.Expr e pos) (LB te):=by
 intro a s b H D I h
 exact wpAny_Expr_any (bZ (he a s b H _ I h) λv i ⟨x,H1,f,g,c⟩=>#[b,H1,f,c]) I.quiet d
def M3(te:TE):TS:=λD a H=>te a H D.rt
def Dw(he:PE X e te):PS X (.Return (some e) pos) (M3 te):=by
 intro a s b H D I h
 exact wpAny_Return_some (bZ (he a s b H _ I h) λv g ⟨x,H1,f,c,d⟩=>#[x,b,H1,f,c,d])
def Nq(c:TT)(t u:TS):TS:=λD a H=>c a H λb H1=>if b=true then t D a H1 else u D a H1
def Mh{c:Expr}{a b:List Stmt}{j:TT}(p:PT X c j)(o:rA X a t)(m:rA X b u):PS X (.If c a b pos) (Nq j t u):=by
 intro f s g H D I h
 refine wpAny_If (bZ (p f s g H _ I h) λd l n=>?_)
 let#[H1,i,k]:=n
 cases d with
 |true=>exact o f l g H1 D i k
 |false=>exact m f l g H1 D i k
end
abbrev TG:=V->St->Hp->(St->Hp->Prop)->Prop
abbrev Gj:=List V->St->Hp->(St->Hp->Prop)->Prop
def PG(X:Cx)(a:Expr)(t:TG):Prop:=
 ∀ (b:X2) (s:X4) (e:St) (H:Hp) (v:V) (u:Xd) (Q:St->Hp->Prop),Inv X b e H s->RelV v u->t v e H Q->
   wpAny (model X.prog X.w) X.A (assign a X.env u) (λ_ f=>∃c d,Inv X b c d f/\Q c d) X.xe s
def Fg(X:Cx)(h:List Expr)(t:Gj):Prop:=
 ∀ (a:X2) (s:X4) (f:St) (H:Hp) (d:List V) (c:X5) (Q:St->Hp->Prop),Inv X a f H s->bt d c->t d f H Q->
   wpAny (model X.prog X.w) X.A (assignInOrder ((assignEach h X.env).map (·.2)) c) (λ_ g=>∃b e,Inv X a b e g/\Q b e) X.xe s
abbrev Jl:=V->V->V->Hp->(Hp->Prop)->Prop
def LU(X:Cx)(t:Jl):Prop:=
 ∀ (a:X2) (s:X4) (e:St) (H:Hp) (o i v:V) (d b u:Xd) (Q:Hp->Prop),Inv X a e H s->RelV o d->RelV i b->RelV v u->t o i v H Q->
   wpAny (model X.prog X.w) X.A (setItem d b u) (λ_ f=>∃c,Inv X a e c f/\Q c) X.xe s
section
variable{X:Cx}{pos:Pos}
def uY(i:Nat):TG:=λv a H Q=>Q (a.set i (some v)) H
def xu{i:Nat}{x:Str}(d:X.N.Nodup)(hi:X.N[i]?=some x)(e:Loc X.env.scope x)(b:autoParam (X.fn x=true\/X.env.scope.names.lookup x=some .local) ab._auto_1):PG X (.Name x pos) (uY i):=by
 intro a s g H v u Q I r h
 exact wpAny_assign_Name (oB I d hi e r (λf c=>#[_,H,c,h]) b)
def MR:Gj:=λb a H Q=>b= []/\Q a H
def Lu(t:TG)(u:Gj):Gj:=λb d H Q=>∃v r,b=v::r/\t v d H λa c=>u r a c Q
def Gn:Fg X [] MR:=by
 intro a s b H d c Q I r h
 let#[e,h]:=h
 subst e
 cases r
 exact assignInOrder_nil #[b,H,I,h]
def E4{e:Expr}{es:List Expr}{t:TG}{u:Gj}(g:PG X e t)(c:Fg X es u)
  (k:autoParam ((assignEach (e::es) X.env).map (·.2)=assign e X.env::(assignEach es X.env).map (·.2)) af._auto_1):Fg X (e::es) (Lu t u):=by
 intro a s m H o q Q I r h
 let#[v,p,n,h]:=h
 subst n
 cases r with
 | cons r i=>
   rw[k]
   refine assignInOrder_cons (bZ (g a s m H _ _ _ I r h) λ_ j l=>?_)
   let#[b,H1,d,f]:=l
   exact c a j b H1 _ _ Q d i f
def Nd(K:X1)(n:Nat)(t:Gj):TG:=λv c H Q=>∃a b,v=.ref a/\iC K H a b/\b.length=n/\t b c H Q
def Jv{es:List Expr}{k:Nat}{t:Gj}{n:Nat}(B:X.calm=true)(h:Fg X es t)
  (y:autoParam ((assignEach es X.env).length=n) af._auto_1) (d:autoParam ((assignEach es X.env).findIdx? (·.1)=none) af._auto_1):PG X (.Tuple es k pos) (Nd X.K n t):=by
 intro c s i H v u Q I r f
 let#[a,x,A,p,w,f]:=f
 subst A
 cases r
 let#[q,g,j,C]:=I.tuple p
 refine assign_Tuple_tuple (I.ok.hd B) j (by simp[y,<-w,g.length]) d λm z=>?_
 have l:Inv X c i H {s with heap:=m}:=I.kept (t':=s.toks) λb o e=>z b o (Qwq (Qiq e)) e
 exact h c _ i H x _ Q l (by simpa using g) f
def L9(c b:TE)(t:Jl):TG:=λv a H Q=>c a H λo H1=>b a H1 λi H2=>t o i v H2 λH3=>Q a H3
def Hy{o i:Expr}{f g:TE}{t:Jl}(w:PE X o f)(hi:PE X i g)(A:LU X t)
  (C:autoParam (∀v,assign (.Subscript o i pos) X.env v=(do
   let b<-holding [v] (eval o X.env)
   let d<-holding [v,b] (eval i X.env)
   standAt pos
   holding [v,b,d] (setItem b d v)
   release [v,b,d] [])) ag._auto_1):PG X (.Subscript o i pos) (L9 f g t):=by
 intro a s e H v u Q I r h
 rw[C]
 refine Qaq (QLq (bZ (w a s e H _ I h) λb z c=>?_))
 let#[x,H1,k,j,n]:=c
 refine Qaq (QLq (bZ (hi a z e H1 _ k n) λd m c=>?_))
 let#[y,H2,q,B,F]:=c
 refine Qaq (wpAny_standAt (Qaq (QLq (bZ (A a m e H2 x y v b d u _ q j B r F) λ_ J c=>?_))))
 let#[H3,l,p]:=c
 exact wpAny_release #[e,H3,l,p]
def Dt(b:TE)(g:TG):TS:=λD a H=>b a H λx H1=>g x a H1 D.nx
def IS{b e:Expr}{c:TE}{g:TG}(he:PE X e c)(i:PG X b g)(o:autoParam (swapsWithSole [b] e pos.line X.env=pure false) af._auto_1)(m:autoParam (swappedStores [b] e X.env=pure none) af._auto_1)
  (l:autoParam ((assignEach [b] X.env).map (·.2)= [assign b X.env]) af._auto_1):PS X (.Assign [b] e pos) (Dt c g):=by
 intro a s d H D I h
 refine wpAny_Assign_stores (bZ (he a s d H _ I h) λv n ⟨x,H1,j,f,k⟩=>?_) o m
 rw[l]
 exact bZ (i a n d H1 x v _ j f k) λ_ p q=>q
def JU{i:Nat}{x:Str}{e:Expr}{c:TE}{a:Pos}(n:X.N.Nodup)(hi:X.N[i]?=some x)(o:Loc X.env.scope x)(he:PE X e c)(l:autoParam (swapsWith e (some (.Name x a)) pos.line X.env=pure false) af._auto_1)(k:autoParam (X.fn x=true\/X.env.scope.names.lookup x=some .local) ab._auto_1):
  PS X (.Assign [.Name x a] e pos) (Dt c (uY i)):=by
 intro b s m H D I h
 refine wpAny_Assign_Name (bZ (he b s m H _ I h) λv q ⟨y,H1,f,d,g⟩=>?_) l
 exact oB f n hi o d (λp j=>#[_,H1,j,g]) k
def KR(i j:Nat)(c:TA):TS:=λD a H=>c a H λb H1=>∃v w,b= [v,w]/\D.nx ((a.set i (some v)).set j (some w)) H1
def z9{i j:Nat}{x y:Str}{a b:Expr}{z:TA}{l t n:Pos}{kt k2 pt2}(hc:X.calm=true)(J:X.N.Nodup)(hi:X.N[i]?=some x)(hj:X.N[j]?=some y)(m:i≠j)
  (C:X.env.scope.names.lookup x=some .local) (B:X.env.scope.names.lookup y=some .local) (ha:PA X [a,b] z)
  (S:swappedStores [.Tuple [.Name x l,.Name y t] kt n] (.Tuple [a,b] k2 pt2) X.env=pure (some [x,y]))
  (U:autoParam (swapsWithSole [.Tuple [.Name x l,.Name y t] kt n] (.Tuple [a,b] k2 pt2) pos.line X.env=pure false) af._auto_1):
  PS X (.Assign [.Tuple [.Name x l,.Name y t] kt n] (.Tuple [a,b] k2 pt2) pos) (KR i j z):=by
 intro c s F H D I h
 rw[exec_Assign_arm]
 refine Qaq (wpAny_standAt ?_)
 rw[U]
 refine Qaq (Qgq ?_)
 rw[Quq (!1)]
 refine Qaq (Tuple_ (bZ (ha _ c s F H _ I h) λY g W=>?_))
 let#[vs,H1,P,K,r]:=W
 let#[v,w,Z,r]:=r
 subst Z
 obtain⟨f,d,rfl,rv,rw'⟩:∃f d,Y= [f,d]/\RelV v f/\RelV w d:=by
  cases K with
  | cons p q=>
    cases q with
    | cons p' q'=>
      cases q'
      exact#[_,_,L,p,p']
 refine QhQ ?_ (by show 2<=_;decide)
 have R:Inv X c F H1 {g with heap:=g.heap.push {cls:=.type "tuple",data:=.seq [f,d].toArray}}:=P.kept (t':=g.toks) λb o e=>Qcq _ e
 rw[S]
 refine Qaq (Qgq ?_)
 show wpAny (model X.prog X.w) X.A (do rule "assign.swapped-stores";let items<-unpackItems (.ref g.heap.objs.size) 2 none;assignInOrder [λv=>bindName X.env y v,λv=>bindName X.env x v] items.reverse;pure Flow.next) _ _ _
 refine Qaq (wpAny_rule (Qaq (unpackItems_tuple (items:= (List.toArray [f,d])) (I.ok.hd hc) (IsTup.new g.heap _) λh' k=>?_)))
 let Q:=R.kept (h':=h') (t':=g.toks) λb o e=>k b o (Qwq (Qiq e)) e
 show wpAny _ _ (assignInOrder [λv=>bindName X.env y v,λv=>bindName X.env x v] [d,f] >>= λ_=>pure Flow.next) _ _ _
 refine Qaq (assignInOrder_cons (wpAny_bindName (oB Q J hj (.inl B) rw' (λs2 M=>?_) (.inr B))))
 refine assignInOrder_cons (wpAny_bindName (oB M J hi (.inl C) rv (λs3 u=>assignInOrder_nil (Qgq ?_)) (.inr C)))
 rw[List.set_comm _ _ (Ne.symm m)] at u
 exact#[_,H1,u,r]
end
section
variable{X:Cx}{pos:Pos}
def Iy(c:TT)(g:TS):TS:=λD a H=>∃W:Nat->St->Hp->Prop,(∃m,W m a H)/\∀m a H,W m a H->
 c a H λb H1=>if b=true then∃N:St->Hp->Prop,(∀d f,N d f->∃e,e<m/\W e d f)/\g {D with nx:=N,ct:=N,bk:=D.nx} a H1 else D.nx a H1
def ET{c:Expr}{g:List Stmt}{t:TT}{x:TS}(y:PassesOwn (model X.prog X.w) X.A X.env X.xe)(Y:PT X c t)(J:rA X g x):PS X (.While c g [] pos) (Iy t x):=by
 intro d s U H D I h
 let#[W,#[P,Q],j]:=h
 refine wpAny_While (codeAny_whileLoop (λn C=>∃i z,Inv X d i z C/\W n i z) ?_ P #[U,H,I,Q])
 rintro n R ⟨e,H1,K,F⟩
 refine wpAny_passesOwn y (bZ (Y d R e H1 _ K (j n e H1 F)) λb M S=>?_)
 let#[H2,u,l]:=S
 cases b with
 | true=>
   let#[N,B,l]:=l
   rw[Qhq L]
   refine wpAny_passesOwn y (bZ (J d M e H2 _ u l) λf Z k=>?_)
   cases f with
   | next=>
     let#[a,H3,p,o]:=k
     let#[q,r,m]:=B a H3 o
     exact#[q,r,a,H3,p,m]
   | cont=>
     let#[a,H3,p,o]:=k
     let#[q,r,m]:=B a H3 o
     exact#[q,r,a,H3,p,m]
   |brk=>exact k
   |ret v=>exact k
 | false=>
   rw[Quq Qtq]
   exact wpAny_execs_nil #[e,H2,u,l]
end
structure It where
 go:Nat->Hp->Prop
 yld:Nat->Hp->V->Hp->Prop
 stop:Nat->Hp->Prop
def oJ(X:Cx)(a:X2)(H:Hp)(b:X8):Prop:=
 H b=none/\b≠X.env.locals/\b∉X.fs/\(b∈X.ex\/X.s₀.heap.objs.size<=b)/\(∀x c,X.env.cells.lookup x=some c->c≠b)/\∀p∈X.pn++a,p.1≠b
def Inv.fpOk{X:Cx}{a:X2}{h:St}{H f:Hp}{s:X4}{b:X8}(I:Inv X a h H s)(d:s.heap.objs.size<=b)(i:f b=none):oJ X a f b:=by
 refine#[i,Nat.ne_of_gt (Qqq I.lt d),I.nofs d,.inr (QAq I.sz d),λx c e z=>?_,λp g z=>?_]
 ·let#[v,q]:=I.cell x c e
  exact absurd (Qqq q.lt (by rw[z];exact d)) (Nat.lt_irrefl _)
 ·exact absurd (Qqq (Qiq (I.pin p g).1) (by rw[z];exact d)) (Nat.lt_irrefl _)
structure Turn(P:X9)(w:Xc)(K:X1)(tg:Expr)(J:It)(fp:X7)(it:X8)(tn:Nat->Heap->Prop):Prop where
 mem:it∈fp
 obj:∀i h,tn i h->∀b∈fp,∃o,h.get? b=some o/\∀v,o.data≠.cell v
 keep:∀i h h',tn i h->(∀b∈fp,∀o,h.get? b=some o->h'.get? b=some o)->tn i h'
 item:∀(X:Cx),X.prog=P->X.w=w->X.K=K->X.calm=true->∀(i:Nat) (pins:X2) (s:X4) (σ:St) (H:Hp) (E:X0),Inv X pins σ H s->(∀b∈fp,oJ X pins H b)->tn i s.heap->J.go i H->
  wpAny (model P w) X.A (pyNext (.ref it)) (λr s1=>∃u,r=some u∧
   wpAny (model P w) X.A (letOwnedTupleGo tg (.ref it) u) (λ_ s2=>∃x H',Inv X pins σ H' s2/\RelV x u/\J.yld i H x H'/\tn (i+1) s2.heap/\∀b∈fp,H' b=none) E s1) E s
 done:∀(X:Cx),X.prog=P->X.w=w->X.K=K->X.calm=true->∀(i:Nat) (pins:X2) (s:X4) (σ:St) (H:Hp) (E:X0),Inv X pins σ H s->(∀b∈fp,oJ X pins H b)->tn i s.heap->J.stop i H->
  wpAny (model P w) X.A (pyNext (.ref it)) (λr s1=>r=none/\Inv X pins σ H s1) E s
 self:∀(A:X_) (i:Nat) (s:X4) (Q:X0) (E:X0),tn i s.heap->Q (.ref it) s->wpAny (model P w) A (pyIter (.ref it)) Q E s
abbrev TI:=St->Hp->(It->Hp->Prop)->Prop
def NA(X:Cx)(a:X2)(j:St)(i:Expr)(R:It->Hp->Prop)(c:Xd)(g:X4):Prop:=
 ∃(e:X8) (h:X7) (f:Nat->Heap->Prop) (J:It) (d:Hp),c=.ref e/\Inv X a j d g/\Turn X.prog X.w X.K i J h e f/\f 0 g.heap/\(∀b∈h,oJ X a d b)/\R J d
def PI(X:Cx)(e b:Expr)(d:TI):Prop:=
 ∀ (a:X2) (s:X4) (c:St) (H:Hp) (R:It->Hp->Prop),Inv X a c H s->d c H R->
   wpAny (model X.prog X.w) X.A (eval b X.env) (λv f=>wpAny (model X.prog X.w) X.A (pyIter v) (NA X a c e R) X.xe f) X.xe s
def uX{M:Model}{A:X_}{E:X0}{s:X4}{b:Expr}{it:X8}{u:Xd}{o:Obj}{n:String}{vs:Xa}{Q:Unit->Shared->Prop}(d:s.heap.get? it=some o)(e:o.cls=.type n)(c:o.data=.fields vs)
    (f: ["enumerate","zip","dict_itemiterator","dict_reverseitemiterator","odict_iterator","itertools.zip_longest","itertools.pairwise"].contains n=false) (a:Q () s):wpAny M A (letOwnedTupleGo b (.ref it) u) Q E s:=by
  unfold letOwnedTupleGo
  cases b <;>first
    |exact Qgq a
    |(cases u <;>first
        |exact Qgq a
        |(refine Qaq (wpAny_load d ?_)
          rw[e,c]
          show wpAny M A (if (["enumerate","zip","dict_itemiterator","dict_reverseitemiterator","odict_iterator","itertools.zip_longest","itertools.pairwise"].contains n&&vs[0]? ==some (rawInt _))=true then _ else _) Q E s
          rw[Quq (by intro h;rw[f,Bool.false_and] at h;cases h)]
          exact Qgq a))
def NB(K:X1)(a:X8):It:=
 #[λi H=>∃b x,iD K H a b/\b[i]?=some x,λi H x c=>c=H/\∀b,iD K H a b->b[i]?=some x,λi H=>∃b,iD K H a b/\b.length<=i]
def NM(K:X1)(a:X8):It:=
 #[λi H=>∃b x,iC K H a b/\b[i]?=some x,λi H x c=>c=H/\∀b,iC K H a b->b[i]?=some x,λi H=>∃b,iC K H a b/\b.length<=i]
def LA(lo:Int)(n:Nat):It:=#[λi _=>i<n,λi H x a=>a=H/\x=.int (lo+i),λi _=>n<=i]
def Cu{P:X9}{w:Xc}{K:X1}{tg:Expr}(a it:X8):Turn P w K tg (NB K a) [it] it (λi h=>h.IsListIter it a i) where
 mem:=by simp
 obj:=λi h f b j=>by
  have e:b=it:=by simpa using j
  subst e
  let#[o,e,c,d]:=f
  exact#[o,e,λv z=>by rw[d] at z;cases z]
 keep:=λi h m f k=>f.at λo e=>k it (by simp) o e
 item:=by
  intro X Q F B U i g s S H E I q f r
  subst Q F B
  let#[xs,x,n,M]:=r
  let#[A,C,p,hz]:=I.list n
  let#[u,hu,ru]:=C.get M
  let#[t,y,f2,R,N,J]:=q it (by simp)
  refine wpAny_pyNext_list_item f p.isList (x:=u) (by simpa using hu) λm l sb=>?_
  have Y:Inv X g S H {s with heap:=m}:=I.turned (t':=s.toks) (λb o j e=>(sb.2 b j).trans e) t y R N J
  let#[o,e,c,d]:=id l
  exact#[u,L,uX (s:={s with heap:=m}) e c d (!1) #[x,H,Y,ru,#[L,λys hy=>by rw[I.list_inj hy n];exact M],l,λb j=>(q b j).1]]
 done:=by
  intro X Q F B U i g s S H E I q f r
  subst Q F B
  let#[xs,n,M]:=r
  let#[A,C,p,hz]:=I.list n
  let#[t,y,f2,R,N,J]:=q it (by simp)
  let hl:=C.length
  exact wpAny_pyNext_list_end (I.ok.hd U) f p.isList (by simp;omega) λm Z=>#[L,I.turned (t':=s.toks) (λb o j e=>Z b o j e) t y R N J]
 self:=λ_ _ _ _ _ f h=>wpAny_pyIter_listiter f h
def As{P:X9}{w:Xc}{K:X1}{tg:Expr}(a it:X8):Turn P w K tg (NM K a) [it] it (λi h=>h.IsTupleIter it a i) where
 mem:=by simp
 obj:=λi h f b j=>by
  have e:b=it:=by simpa using j
  subst e
  let#[o,e,c,d]:=f
  exact#[o,e,λv z=>by rw[d] at z;cases z]
 keep:=λi h n f k=>f.at λo e=>k it (by simp) o e
 item:=by
  intro X Q F B U i g s S H E I r f t
  subst Q F B
  let#[xs,x,q,M]:=t
  let#[l,C,p,hz]:=I.tuple q
  let#[u,hu,ru]:=C.get M
  let#[y,A,f2,R,N,J]:=r it (by simp)
  refine wpAny_pyNext_tuple_item f (show s.heap.IsTuple a l.toArray from p) (x:=u) (by simpa using hu) λn m sb=>?_
  have Y:Inv X g S H {s with heap:=n}:=I.turned (t':=s.toks) (λb o j e=>(sb.2 b j).trans e) y A R N J
  let#[o,e,c,d]:=id m
  exact#[u,L,uX (s:={s with heap:=n}) e c d (!1) #[x,H,Y,ru,#[L,λys hy=>by rw[I.tuple_inj hy q];exact M],m,λb j=>(r b j).1]]
 done:=by
  intro X Q F B U i g s S H E I r f t
  subst Q F B
  let#[xs,q,M]:=t
  let#[l,C,p,hz]:=I.tuple q
  let#[y,A,f2,R,N,J]:=r it (by simp)
  let hl:=C.length
  exact wpAny_pyNext_tuple_end (I.ok.hd U) f (show s.heap.IsTuple a l.toArray from p) (by simp;omega) λn Z=>#[L,I.turned (t':=s.toks) (λb o j e=>Z b o j e) y A R N J]
 self:=λ_ _ _ _ _ f h=>wpAny_pyIter_tupleiter f h
def zX{P:X9}{w:Xc}{K:X1}{R:Expr}(it:X8)(lo:Int)(n:Nat):Turn P w K R (LA lo n) [it] it (λi h=>IsRangeIter h it (lo+(i:Nat)*1) ((n:Int)-(i:Nat)) 1) where
 mem:=by simp
 obj:=λi h a b d=>by
  have e:b=it:=by simpa using d
  subst e
  exact⟨_,a,λv z=>by
   have J:Data.fields _=Data.cell v:=z
   cases J⟩
 keep:=λi h g a k=>k it (by simp) _ a
 item:=by
  intro X A u q r i c s F H E I j a l
  subst A u q
  let#[m,p,S,B,y,x]:=j it (by simp)
  let W:=Walks.range (prog:=X.prog) (w:=X.w) (I.ok.hd r) it lo 1 n
  refine W.item i s _ _ l a λv g C hv f N=>?_
  let#[t,rfl]:=hv
  have M:Inv X c F H {s with heap:=g,toks:=C}:=I.turned (λb o d e=>N b o (by simpa using d) e) m p B y x
  refine#[_,L,uX (s:={s with heap:=g,toks:=C}) (n:="range_iterator") f L L (!1) #[.int (lo+i),H,M,#[t,?_],#[L,L],f,λb d=>(j b d).1]]
  rw[Int.mul_one]
 done:=by
  intro X A u q r i c s F H E I j a l
  subst A u q
  let#[m,p,S,B,y,x]:=j it (by simp)
  exact wpAny_pyNext_range_end (I.ok.hd r) a (by have:n<=i:=l;omega) λg Q=>#[L,I.turned (t':=s.toks) (λb o d e=>Q b o d e) m p B y x]
 self:=λ_ _ _ _ _ a h=>wpAny_pyIter_rangeiter a h
section
variable{X:Cx}{tg:Expr}
def xE{a:X2}{f:St}{H:Hp}{s:X4}{R:It->Hp->Prop}{E:X0}{lo hi:Int}{t u v:Tok}{d:Nat}(I:Inv X a f H s)(j: -(2^62)<=lo)(g:lo<2^62)(l: -(2^62)<=hi)(i:hi<2^62)
  (q:R (LA lo (hi-lo).toNat) H):wpAny (model X.prog X.w) X.A (pyIter (.ref s.heap.objs.size)) (NA X a f tg R) E {s with heap:=s.heap.push {cls:=.type "range",data:=.fields (List.toArray [.int lo t,.int hi u,.int 1 v])},toks:=d}:=by
 refine wpAny_pyIter_range (IsRange.new ..) (small_one j g l i) ?_
 have c:Inv X a f H {s with heap:=s.heap.push {cls:=.type "range",data:=.fields (List.toArray [.int lo t,.int hi u,.int 1 v])},toks:=d}:=I.kept λb o e=>Qcq _ e
 refine⟨(s.heap.push {cls:=.type "range",data:=.fields (List.toArray [.int lo t,.int hi u,.int 1 v])}).objs.size,[(s.heap.push {cls:=.type "range",data:=.fields (List.toArray [.int lo t,.int hi u,.int 1 v])}).objs.size],_,_,H,L,
  c.kept (t':=d) λb o e=>Qcq _ e,zX _ lo (hi-lo).toNat,?_,λb h=>?_,q⟩
 ·have m:lo+((0:Nat):Int)*1=lo:=by simp
  have k:(((hi-lo).toNat:Nat):Int)-((0:Nat):Int)=Builtin.Range.rangeSize lo hi 1:=by rw[rangeSize_one];split <;>omega
  show IsRangeIter _ _ (lo+((0:Nat):Int)*1) ((((hi-lo).toNat:Nat):Int)-((0:Nat):Int)) 1
  rw[m,k]
  exact Qrq _ L
 ·have e:b=(s.heap.push {cls:=.type "range",data:=.fields (List.toArray [.int lo t,.int hi u,.int 1 v])}).objs.size:=by simpa using h
  subst e
  exact c.fpOk (Qmq _) (c.hok.fresh (Qmq _))
def KC(b:TA):TI:=λc H R=>b c H λa H1=>∃j:Int,a= [.int j]/\ -(2^62)<=j/\j<2^62/\R (LA 0 j.toNat) H1
def Lp(b:TA):TI:=λc H R=>b c H λa H1=>∃i j:Int,a= [.int i,.int j]/\(-(2^62)<=i/\i<2^62/\ -(2^62)<=j/\j<2^62)/\R (LA i (j-i).toNat) H1
def CU{a:Expr}{d:TA}{p pos:Pos}(g:Gl X "range")(n:X.mg "range"=none)(o:PA X [a] d)(l:autoParam (starEach [a] X.env= [(false,eval a X.env)]) af._auto_1):PI X tg (.Call (.Name "range" p) [a] [] pos) (KC d):=by
 intro b s m H R I h
 refine Call_ (lD I g n boot_range (PyProof.Rows.callWith_type1 (bZ (o pos b s m H _ I h) λx w ⟨v,H1,i,f,c⟩=>?_) l L))
 let#[j,e,c,u,q]:=c
 subst e
 cases f with
 | cons r k=>
   cases k
   let#[t,rfl]:=r
   exact call_range_1 (xE i (!0) (!0) c u (by simpa using q))
def B9{a b:Expr}{k:TA}{p pos:Pos}(n:Gl X "range")(y:X.mg "range"=none)(z:PA X [a,b] k)(w:autoParam (starEach [a,b] X.env= [(false,eval a X.env),(false,eval b X.env)]) af._auto_1)(d:autoParam (starEach [b] X.env= [(false,eval b X.env)]) af._auto_1):
  PI X tg (.Call (.Name "range" p) [a,b] [] pos) (Lp k):=by
 intro c s x H R I h
 refine Call_ (lD I n y boot_range (PyProof.Rows.callWith_type1 (bZ (z pos c s x H _ I h) λJ F ⟨C,H1,o,m,f⟩=>?_) (by rw[w,d]) (by rw[d];rfl)))
 let#[i,j,e,#[f,A,u,v],q]:=f
 subst e
 cases m with
 | cons r g=>
   cases g with
   | cons l g=>
     cases g
     let#[t,rfl]:=r
     let#[B,rfl]:=l
     exact call_range_2 (xE o f A u v q)
def Nh(f:TI)(g:TG)(h:TS):TS:=λD a H=>f a H λJ H1=>∃W:Nat->Nat->St->Hp->Prop,(∃m,W 0 m a H1)/\∀i m a H,W i m a H->
 (J.stop i H/\D.nx a H)\/(J.go i H/\∃N:St->Hp->Prop,(∀b c,N b c->∃e,e<m/\W (i+1) e b c)/\∀x c,J.yld i H x c->g x a c λd H2=>h {D with nx:=N,ct:=N,bk:=D.nx} d H2)
def gH(fp:X7)(h:Xe):List (Addr×Obj):=fp.filterMap λb=>(h.get? b).map λo=>(b,o)
def cv{fp:X7}{h:Xe}{b:X8}{o:Obj}(a:b∈fp)(e:h.get? b=some o):(b,o)∈gH fp h:=List.mem_filterMap.mpr #[b,a,by rw[e];rfl]
def Cf{fp:X7}{h:Xe}{p:Addr×Obj}(a:p∈gH fp h):p.1∈fp/\h.get? p.1=some p.2:=by
 let#[b,c,e]:=List.mem_filterMap.mp a
 cases q:h.get? b with
 |none=>rw[q] at e;cases e
 | some o=>
   rw[q] at e
   have d:(b,o)=p:=QdQ e
   subst d
   exact#[c,q]
def Inv.pinned{a:X2}{g:St}{H:Hp}{s:X4}{fp:X7}(I:Inv X a g H s)(k:∀b∈fp,oJ X a H b)(l:∀b∈fp,∃o,s.heap.get? b=some o/\∀v,o.data≠.cell v):Inv X (a++gH fp s.heap) g H s:=
 I.pins_of λp j=>(mQa.mp j).elim (λz=>I.pin p (Qoq _ z)) λz=>by
  let#[c,e]:=Cf z
  let#[h,i,m,_]:=k p.1 c
  let#[o,f,d]:=l p.1 c
  rw[e] at f;cases f
  exact#[e,h,i,m,d]
def Inv.unpinned{a pl:X2}{b:St}{H:Hp}{s:X4}(I:Inv X (a++pl) b H s):Inv X a b H s:=I.pins_of λp c=>I.pin p (Qoq _ (List.mem_append_left _ c))
def Ja{p:Expr}{F:List Stmt}{wi:TI}{g:TG}{tb:TS}{pos:Pos}(Y:PassesOwn (model X.prog X.w) X.A X.env X.xe)(hc:X.calm=true)(hi:PI X tg p wi)(hg:PG X tg g)(k:rA X F tb)
  (hs:autoParam (∀x,foldedSetIterable p X.env x=pure x) ag._auto_1):PS X (.For tg p F [] pos) (Nh wi g tb):=by
 intro c s σ H D I h
 refine wpAny_For (bZ (hi c s σ H _ I h) λv s1 h1=>bZ h1 λa4 s2 h2=>?_) hs
 let#[it,Q,tn,J,H2,e,I2,T,a2,f2,W,#[m0,w0],Z]:=h2
 subst e
 have l:∀{B:Hp},(∀b∈Q,B b=none)->∀b∈Q,oJ X c B b:=λhn b k=>#[hn b k,(f2 b k).2]
 refine codeAny_forLoop_any (λn s'=>∃i z B,Inv X c z B s'/\tn i s'.heap/\(∀b∈Q,B b=none)/\W i n z B) ?_ m0 #[0,σ,H2,I2,a2,λb k=>(f2 b k).1,w0]
 rintro n s3 ⟨i,j,H3,I3,S,U,w3⟩
 rcases Z i n j H3 w3 with⟨stop,qn⟩|⟨go,N,hN,R⟩
 ·refine wpAny_passesOwn Y (bZ (T.done X L L L hc i c s3 j H3 X.xe I3 (l U) S stop) λr s4 M=>?_)
  let#[hr,I4]:=M
  subst hr
  exact wpAny_execs_nil #[j,H3,I4,qn]
 ·refine wpAny_passesOwn Y (bZ (T.item X L L L hc i c s3 j H3 X.xe I3 (l U) S go) λr s4 M=>?_)
  let#[u,hr,h4]:=M
  subst hr
  refine wpAny_passesOwn Y (bZ h4 λ_ s5 M=>?_)
  let#[x,H5,I5,r5,y5,K,a0]:=M
  let a3:=I5.pinned (l a0) (T.obj _ _ K)
  refine wpAny_passesOwn Y (bZ (hg _ s5 j H5 x u _ a3 r5 (R x H5 y5)) λ_ s6 M=>?_)
  let#[a1,H6,I6,q6]:=M
  refine wpAny_passesOwn Y (bZ (k _ s6 a1 H6 _ I6 q6) λf s7 C=>?_)
  have q:∀{a:St} {t:Hp},Inv X (c++gH Q s5.heap) a t s7->N a t->∃m,m<n/\∃i z B,Inv X c z B s7/\tn i s7.heap/\(∀b∈Q,B b=none)/\W i m z B:=λ{a t} y P=>by
   let#[m',hm,w7]:=hN a t P
   refine#[m',hm,i+1,a,t,y.unpinned,T.keep _ _ _ K λb k o e=>(y.pin (b,o) (Qoq _ (Qoq _ (cv k e)))).1,λb k=>?_,w7]
   let#[o,e,d]:=T.obj _ _ K b k
   exact(y.pin (b,o) (Qoq _ (Qoq _ (cv k e)))).2.1
  cases f with
  |next=>let#[a,t,y,P]:=C;exact q y P
  |cont=>let#[a,t,y,P]:=C;exact q y P
  |brk=>let#[a,t,y,C]:=C;exact#[a,t,y.unpinned,C]
  |ret v=>let#[x7,a,t,y,r7,C]:=C;exact#[x7,a,t,y.unpinned,r7,C]
end
abbrev R2:=V->V->Hp->VK->Prop
def hJ(X:Cx)(f:Value->Value->Sem Value)(r:R2):Prop:=
 ∀ (a:X2) (s:X4) (b:St) (H:Hp) (x y:V) (v u:Xd) (Q:VK),Inv X a b H s->RelV x v->RelV y u->r x y H Q->
   wpAny (model X.prog X.w) X.A (f v u) (EP X a b Q) X.xe s
def Nv(X:Cx)(f:Value->Sem Value)(r:V->Hp->VK->Prop):Prop:=
 ∀ (a:X2) (s:X4) (b:St) (H:Hp) (x:V) (v:Xd) (Q:VK),Inv X a b H s->RelV x v->r x H Q->
   wpAny (model X.prog X.w) X.A (f v) (EP X a b Q) X.xe s
def ff(X:Cx)(f:Xd)(r:List V->Hp->VK->Prop):Prop:=
 ∀ (a:X2) (s:X4) (d:St) (H:Hp) (c:List V) (b:X5) (Q:VK),Inv X a d H s->bt c b->r c H Q->
   wpAny (model X.prog X.w) X.A (call f b) (EP X a d Q) X.xe s
def Nk(X:Cx)(r:V->Hp->(Bool->Hp->Prop)->Prop):Prop:=
 ∀ (a:X2) (s:X4) (b:St) (H:Hp) (x:V) (v:Xd) (Q:Bool->Hp->Prop),Inv X a b H s->RelV x v->r x H Q->
   wpAny (model X.prog X.w) X.A (truthy v) (TP X a b Q) X.xe s
def Ff(r:R2)(c b:TE):TE:=λa H Q=>c a H λx H1=>b a H1 λy H2=>r x y H2 Q
def N8(r:V->Hp->VK->Prop)(a:TE):TE:=λb H Q=>a b H λx H1=>r x H1 Q
def rI(C:Int->Int->Prop)(g:Int->Int->V):R2:=λx y H Q=>∃i j,x=.int i/\y=.int j/\C i j/\Q (g i j) H
def BP(g:Int->Int->V):R2:=λx y H Q=>∃i j,x=.int i/\y=.int j/\Q (g i j) H
def rU(g:Int->V):V->Hp->VK->Prop:=λx H Q=>∃i,x=.int i/\Q (g i) H
section
variable{X:Cx}{a b c:Expr}{ta tb tc:TE}{pos:Pos}
def JR(z:PE X a ta)(m:PE X b tb){d:X2}{s:X4}{e:St}{H:Hp}{R:V->V->Hp->Prop}(I:Inv X d e H s)
  (h:ta e H λx H1=>tb e H1 λy H2=>R x y H2) {Q:X0} {f:Value->Value->Sem Value}
  (q:∀v u j x y H2,Inv X d e H2 j->RelV x v->RelV y u->R x y H2->wpAny (model X.prog X.w) X.A (f v u) Q X.xe j):
  wpAny (model X.prog X.w) X.A (eval a X.env) (λv i=>wpAny (model X.prog X.w) X.A (eval b X.env) (λu g=>wpAny (model X.prog X.w) X.A (f v u) Q X.xe g) X.xe i) X.xe s:=by
 refine bZ (z d s e H _ I h) λv r k=>?_
 let#[x,H1,n,l,o]:=k
 refine bZ (m d r e H1 _ n o) λu j k=>?_
 let#[y,H2,p,t,B]:=k
 exact q v u j x y H2 p l t B
def nj{e:Operator}{r:R2}(j:hJ X (binaryOp e) r)(n:PE X a ta)(f:PE X b tb):PE X (.BinOp a e b pos) (Ff r ta tb):=by
 intro d s m H Q I h
 exact wpAny_BinOp (JR n f I h λv u g x y H2 i k l q=>j d g m H2 x y v u Q i k l q)
def L5{e:UnaryOp}{r:V->Hp->VK->Prop}(g:Nv X (unaryOp e) r)(i:PE X a ta):PE X (.UnaryOp e a pos) (N8 r ta):=by
 intro d s f H Q I h
 exact UnaryOp_ (bZ (i d s f H _ I h) λv l ⟨x,H1,m,j,k⟩=>g d l f H1 x v Q m j k)
def MB{f:Value->Value->Sem Value}{C:Int->Int->Prop}{g:Int->Int->Int}
  (d:∀(i j:Int) (t u:Tok) (s:X4) (Q:X0) (E:X0),C i j->Q (.int (g i j) s.toks) {s with toks:=s.toks+1}->wpAny (model X.prog X.w) X.A (f (.int i t) (.int j u)) Q E s):
  hJ X f (rI C λi j=>.int (g i j)):=by
 intro e s n H x y v u Q I l m h
 let#[i,j,rfl,rfl,hc,q]:=h
 let#[t,rfl]:=l
 let#[k,rfl]:=m
 exact d i j t k s _ _ hc #[.int (g i j),H,I.tok _,#[_,L],q]
def Lx{f:Value->Value->Sem Value}{g:Int->Int->Int}
  (d:∀(i j:Int) (t u:Tok) (s:X4) (Q:X0) (E:X0),Q (.int (g i j) s.toks) {s with toks:=s.toks+1}->wpAny (model X.prog X.w) X.A (f (.int i t) (.int j u)) Q E s):
  hJ X f (BP λi j=>.int (g i j)):=by
 intro e s n H x y v u Q I l m h
 let#[i,j,rfl,rfl,q]:=h
 let#[t,rfl]:=l
 let#[k,rfl]:=m
 exact d i j t k s _ _ #[.int (g i j),H,I.tok _,#[_,L],q]
def GU{f:Value->Value->Sem Value}{g:Int->Int->Bool}
  (d:∀(i j:Int) (t u:Tok) (s:X4) (Q:X0) (E:X0),Q (.bool (g i j)) s->wpAny (model X.prog X.w) X.A (f (.int i t) (.int j u)) Q E s):
  hJ X f (BP λi j=>.bl (g i j)):=by
 intro e s n H x y v u Q I l m h
 let#[i,j,rfl,rfl,q]:=h
 let#[t,rfl]:=l
 let#[k,rfl]:=m
 exact d i j t k s _ _ #[.bl (g i j),H,I,L,q]
def Dx(i j:Int):Prop:=0<j/\j<1073741824
def DU(i j:Int):Prop:=0<=j/\j<=1000000/\i.natAbs<2^64
def Jk(i j:Int):Prop:=(-(2^64)<i/\i<2^64)\/(-(2^64)<j/\j<2^64)
def Jk.ok{i j:Int}(h:Jk i j):IntMulOk i j:=by
 rcases h with⟨e,d⟩|⟨e,d⟩
 ·exact .of_left (intBits_le_64 e d)
 ·exact .of_right (intBits_le_64 e d)
def I_:hJ X (binaryOp .Add) (BP λi j=>.int (i+j)):=Lx λ_ _ _ _ _ _ _ q=>add_int q
def HJ:hJ X (binaryOp .Sub) (BP λi j=>.int (i-j)):=Lx λ_ _ _ _ _ _ _ q=>sub_int q
def GL:hJ X (binaryOp .FloorDiv) (rI Dx λi j=>.int (i/j)):=MB λi j _ _ _ _ _ d q=>by
 have f:(0:Int)<j:=d.1
 have e:j<1073741824:=d.2
 exact floordiv_int (!0) (by rw[Int.fdiv_eq_ediv_of_nonneg i (!0)];exact q) (.inl (PyProof.noPylong_small (!0)))
def HY:hJ X (binaryOp .Mod) (rI (λ_ j=>0<j) λi j=>.int (i%j)):=MB λi j _ _ _ _ _ d q=>by
 have e:(0:Int)<j:=d
 exact mod_int' (!0) (by rw[Int.fmod_eq_emod_of_nonneg i (!0)];exact q)
def JE:hJ X (binaryOp .Pow) (rI DU λi j=>.int (i^j.toNat)):=MB λ_ _ _ _ _ _ _ d q=>pow_int_small d.1 d.2.1 d.2.2 q
def NV{f:Value->Sem Value}{g:Int->Int}
  (d:∀(i:Int) (t:Tok) (s:X4) (Q:X0) (E:X0),Q (.int (g i) s.toks) {s with toks:=s.toks+1}->wpAny (model X.prog X.w) X.A (f (.int i t)) Q E s):
  Nv X f (rU λi=>.int (g i)):=by
 intro e s k H x v Q I j h
 let#[i,rfl,q]:=h
 let#[t,rfl]:=j
 exact d i t s _ _ #[.int (g i),H,I.tok _,#[_,L],q]
def IG:Nv X (unaryOp .USub) (rU λi=>.int (-i)):=NV λ_ _ _ _ _ q=>neg_int q
end
def yM:V->V->Bool
 |.non,.non=>true|.non,.int _=>true|.int _,.non=>true|.non,.bl _=>true|.bl _,.non=>true|.non,.str _=>true|.str _,.non=>true
 |.int _,.int _=>true|.bl _,.bl _=>true|.str _,.str _=>true|.byt _,.byt _=>true
 |.int _,.str _=>true|.str _,.int _=>true|.bl _,.str _=>true|.str _,.bl _=>true
 |_,_=>false
def NH:R2:=λx y H Q=>yM x y=true/\Q (.bl (decide (x=y))) H
def NF:R2:=λx y H Q=>yM x y=true/\Q (.bl (!decide (x=y))) H
def Bg{i j:Int}:decide (V.int i=V.int j)=(i==j):=by
 rw[Bool.eq_iff_iff]
 simp
def D5{i j:Bool}:decide (V.bl i=V.bl j)=(i==j):=by
 rw[Bool.eq_iff_iff]
 simp
def AY{i j:Str}:decide (V.str i=V.str j)=(i==j):=by
 rw[Bool.eq_iff_iff]
 simp
def BE{i j:Array UInt8}:decide (V.byt i=V.byt j)=(i.toList==j.toList):=by
 rw[Bool.eq_iff_iff]
 cases i
 cases j
 simp
section
variable{X:Cx}{a b c:Expr}{ta tb tc:TE}{pos:Pos}
def bN{d:X2}{g:St}{H:Hp}{s:X4}{Q:VK}{k f:Bool}(I:Inv X d g H s)(q:Q (.bl k) H)(e:k=f):EP X d g Q (.bool f) s:=by
 subst e
 exact#[.bl k,H,I,L,q]
def dP:hJ X (compareOp .Eq) NH:=by
 intro k s l H x y v u Q I g d h
 let#[f,q]:=h
 cases x with
 | non=>
   cases g
   cases y with
   |non=>cases d;exact PySem.EqNone.eq_none_none (bN I q (by simp))
   |bl j=>cases d;exact PySem.EqNone.eq_none_bool (bN I q (by simp))
   |int j=>let#[e,rfl]:=d;exact PySem.EqNone.eq_none_int (bN I q (by simp))
   |str j=>let#[e,rfl]:=d;exact PySem.EqNone.eq_none_str (bN I q (by simp))
   |_=>exact absurd (show false=true from f) Qtq
 | bl i=>
   cases g
   cases y with
   |non=>cases d;exact PySem.EqNone.eq_bool_none (bN I q (by simp))
   |bl j=>cases d;exact eq_bool (bN I q D5)
   |str j=>let#[e,rfl]:=d;exact PySem.EqMixed.eq_bool_str (bN I q (by simp))
   |_=>exact absurd (show false=true from f) Qtq
 | int i=>
   let#[t,rfl]:=g
   cases y with
   |non=>cases d;exact PySem.EqNone.eq_int_none (bN I q (by simp))
   |int j=>let#[e,rfl]:=d;exact eq_int (bN I q Bg)
   |str j=>let#[e,rfl]:=d;exact PySem.EqMixed.eq_int_str (bN I q (by simp))
   |_=>exact absurd (show false=true from f) Qtq
 | str i=>
   let#[t,rfl]:=g
   cases y with
   |non=>cases d;exact PySem.EqNone.eq_str_none (bN I q (by simp))
   |bl j=>cases d;exact PySem.EqMixed.eq_str_bool (bN I q (by simp))
   |int j=>let#[e,rfl]:=d;exact PySem.EqMixed.eq_str_int (bN I q (by simp))
   |str j=>let#[e,rfl]:=d;exact eq_str (bN I q AY)
   |_=>exact absurd (show false=true from f) Qtq
 | byt i=>
   let#[t,rfl]:=g
   cases y with
   |byt j=>let#[e,rfl]:=d;exact PySem.W.eq_bytes (bN I q BE)
   |_=>exact absurd (show false=true from f) Qtq
 |_=>cases y <;>exact absurd (show false=true from f) Qtq
def tW:hJ X (compareOp .NotEq) NF:=by
 intro k s l H x y v u Q I g d h
 let#[f,q]:=h
 cases x with
 | non=>
   cases g
   cases y with
   |non=>cases d;exact PySem.EqNone.ne_none_none (bN I q (by simp))
   |bl j=>cases d;exact PySem.EqNone.ne_none_bool (bN I q (by simp))
   |int j=>let#[e,rfl]:=d;exact PySem.EqNone.ne_none_int (bN I q (by simp))
   |str j=>let#[e,rfl]:=d;exact PySem.EqNone.ne_none_str (bN I q (by simp))
   |_=>exact absurd (show false=true from f) Qtq
 | bl i=>
   cases g
   cases y with
   |non=>cases d;exact PySem.EqNone.ne_bool_none (bN I q (by simp))
   |bl j=>cases d;exact ne_bool (bN I q (congrArg not D5))
   |str j=>let#[e,rfl]:=d;exact PySem.EqMixed.ne_bool_str (bN I q (by simp))
   |_=>exact absurd (show false=true from f) Qtq
 | int i=>
   let#[t,rfl]:=g
   cases y with
   |non=>cases d;exact PySem.EqNone.ne_int_none (bN I q (by simp))
   |int j=>let#[e,rfl]:=d;exact ne_int (bN I q (congrArg not Bg))
   |str j=>let#[e,rfl]:=d;exact PySem.EqMixed.ne_int_str (bN I q (by simp))
   |_=>exact absurd (show false=true from f) Qtq
 | str i=>
   let#[t,rfl]:=g
   cases y with
   |non=>cases d;exact PySem.EqNone.ne_str_none (bN I q (by simp))
   |bl j=>cases d;exact PySem.EqMixed.ne_str_bool (bN I q (by simp))
   |int j=>let#[e,rfl]:=d;exact PySem.EqMixed.ne_str_int (bN I q (by simp))
   |str j=>let#[e,rfl]:=d;exact ne_str (bN I q (congrArg not AY))
   |_=>exact absurd (show false=true from f) Qtq
 | byt i=>
   let#[t,rfl]:=g
   cases y with
   |byt j=>let#[e,rfl]:=d;exact PySem.W.ne_bytes (bN I q (congrArg not BE))
   |_=>exact absurd (show false=true from f) Qtq
 |_=>cases y <;>exact absurd (show false=true from f) Qtq
def Bv:hJ X (compareOp .Lt) (BP λi j=>.bl (decide (i<j))):=GU λ_ _ _ _ _ _ _ q=>lt_int q
def lT:hJ X (compareOp .LtE) (BP λi j=>.bl (decide (i<=j))):=GU λ_ _ _ _ _ _ _ q=>le_int q
def Lj:hJ X (compareOp .Gt) (BP λi j=>.bl (decide (j<i))):=GU λ_ _ _ _ _ _ _ q=>gt_int q
def Lv:hJ X (compareOp .GtE) (BP λi j=>.bl (decide (j<=i))):=GU λ_ _ _ _ _ _ _ q=>ge_int q
def CO:hJ X (compareOp .Lt) (λx y H Q=>∃i j,x=.str i/\y=.str j/\Q (.bl (decide (i.cps.toList<j.cps.toList))) H):=by
 intro d s k H x y v u Q I e f h
 let#[i,j,rfl,rfl,q]:=h
 let#[t,rfl]:=e
 let#[g,rfl]:=f
 exact lt_str (bN I q L)
def B1:hJ X (compareOp .In) (λx y H Q=>∃i j,x=.str i/\y=.str j/\Q (.bl (!(Builtin.Str.occurrences j i 0 j.length 1).isEmpty)) H):=by
 intro d s k H x y v u Q I e f h
 let#[i,j,rfl,rfl,q]:=h
 let#[t,rfl]:=e
 let#[g,rfl]:=f
 exact in_str (bN I q L)
def HA:hJ X (compareOp .Is) (λx y H Q=>y=.non/\Q (.bl (decide (x=.non))) H):=by
 intro d s g H x y v u Q I e f h
 let#[rfl,q]:=h
 cases f
 refine is_none_gen (bN I q ?_)
 cases x <;>first
  |(cases e;rfl)
  |(let#[t,rfl]:=e;rfl)
def hJ.or{f:Value->Value->Sem Value}{r e:R2}(h:hJ X f r)(h':hJ X f e):hJ X f (λx y H Q=>r x y H Q\/e x y H Q):=by
 intro d s j H x y v u Q I g i q
 rcases q with q|q
 ·exact h d s j H x y v u Q I g i q
 ·exact h' d s j H x y v u Q I g i q
def bp(b:Expr){d:CmpOp}(h:autoParam (d≠.In) ac._auto_1)(f:autoParam (d≠.NotIn) ac._auto_1):behindInMarks d b=false:=by
 have e:(d==CmpOp.In)=false:=by cases d <;>first|rfl|exact absurd L h
 have g:(d==CmpOp.NotIn)=false:=by cases d <;>first|rfl|exact absurd L f
 cases b <;>simp[behindInMarks,e,g]
def r8{e:CmpOp}{r:R2}(j:hJ X (compareOp e) r)(o:PE X a ta)(f:PE X b tb)(n:behindInMarks e b=false):PE X (.Compare a [e] [b] pos) (Ff r ta tb):=by
 intro d s m H Q I h
 exact wpAny_Compare1 (JR o f I h λv u g x y H2 i k l q=>j d g m H2 x y v u Q i k l q) n
def A9(t:TE):TT:=λe H Q=>t e H λx d=>∃k,x=.bl k/\Q k d
def rS{g:CmpOp}{r:R2}(w:hJ X (compareOp g) r)(F:PE X a ta)(l:PE X b tb)(C:behindInMarks g b=false):PT X (.Compare a [g] [b] pos) (A9 (Ff r ta tb)):=by
 intro d s f H Q I h
 refine wpAny_isTrue_Compare1 (bZ (F d s f H _ I h) λv A ⟨x,H1,m,j,p⟩=>bZ (l d A f H1 _ m p) λu o ⟨y,H2,t,B,J⟩=>
  bZ (w d o f H2 x y v u _ t j B J) λc K ⟨z,H3,n,i,k,e,q⟩=>?_) C
 subst e
 cases i
 exact wpAny_truthy_bool #[H3,n,q]
def zO(r e:R2)(ta tb tc:TE):TE:=λd H Q=>ta d H λx H1=>tb d H1 λy H2=>r x y H2 λz H3=>∃k,z=.bl k∧
 (if k=true then tc d H3 λf H4=>e y f H4 Q else Q (.bl false) H3)
def Es{l g:CmpOp}{r m:R2}(R:hJ X (compareOp l) r)(j:hJ X (compareOp g) m)(Z:PE X a ta)(C:PE X b tb)(hc:PE X c tc)
  (W:autoParam (lastMarks [l,g] [b,c]=false) ah._auto_1):PE X (.Compare a [l,g] [b,c] pos) (zO r m ta tb tc):=by
 intro f s i H Q I h
 refine Compare_chain (bZ (Z f s i H _ I h) λv U ⟨x,H1,J,A,N⟩=>chain_link (bZ (C f U i H1 _ J N) λu M ⟨y,H2,P,p,q2⟩=>
  bZ (R f M i H2 x y v u _ P A p q2) λd Y ⟨z,H3,n,q,k,e,o⟩=>?_)) W
 subst e
 cases q
 refine wpAny_truthy_bool ?_
 cases k with
 |false=>exact ite_ff #[.bl false,H3,n,L,o]
 |true=>exact ite_tt (chain_last (bZ (hc f Y i H3 _ n o) λt w ⟨F,H4,B,K,S⟩=>j f w i H4 y F u t Q B p K S))
def ED{l g:CmpOp}{r m:R2}(Z:hJ X (compareOp l) r)(j:hJ X (compareOp g) m)(ha:PE X a ta)(C:PE X b tb)(hc:PE X c tc)
  (hm:autoParam (lastMarks [l,g] [b,c]=false) ah._auto_1):PT X (.Compare a [l,g] [b,c] pos) (A9 (zO r m ta tb tc)):=by
 intro f s i H Q I h
 refine isTrue_chain (bZ (ha f s i H _ I h) λv s1 ⟨x,H1,J,A,P⟩=>test_link (bZ (C f s1 i H1 _ J P) λu M ⟨y,H2,S,p,q2⟩=>
  bZ (Z f M i H2 x y v u _ S A p q2) λd s3 ⟨z,H3,n,q,k,e,o⟩=>?_)) hm
 subst e
 cases q
 refine wpAny_truthy_bool ?_
 cases k with
 | false=>
   let#[k',R,q']:=o
   cases R
   exact ite_ff #[H3,n,q']
 | true=>
   refine ite_tt (test_last (bZ (hc f s3 i H3 _ n o) λt w ⟨F,H4,B,K,q4⟩=>bZ (j f w i H4 y F u t _ B p K q4) λd' s5 qr=>?_))
   let#[z2,H5,N,W,k2,U,Y]:=qr
   subst U
   cases W
   exact wpAny_truthy_bool #[H5,N,Y]
def JH(K:X1)(x:V)(H:Hp)(k:Bool):Prop:=
 match x with
 |.non=>k=false
 |.bl b=>k=b
 |.int i=>k=(i !=0)
 |.str y=>y.length<=sizeLine/\k=((y.length:Int) !=0)
 |.byt y=>y.size<=sizeLine/\k=((y.size:Int) !=0)
 |.ref p=>(∃e,iD K H p e/\k= !e.isEmpty)\/(∃e,iC K H p e/\k= !e.isEmpty)\/∃d,H p=some (.dK d)/\k= !d.isEmpty
 |_=>False
def Ar{d:Type}{kvs:List (d×V)}{vs:List (d×Value)}(r:KV kvs vs):(!vs.isEmpty)= !kvs.isEmpty:=by
 cases r <;>rfl
def r_{xs:List V}{d:X5}(r:bt xs d):(!d.toArray.isEmpty)= !xs.isEmpty:=by
 cases r <;>simp
def kZ:(sizeLine:Nat)<2^63:=by rw[sizeLine_eq];decide
def IH:Nk X (λx H Q=>∃k,JH X.K x H k/\Q k H):=by
 intro B s N H x v Q I l h
 let#[k,e,q]:=h
 let J:=kZ
 have M:sizeLine=16777216:=sizeLine_eq
 cases x with
 | non=>
   cases l
   have d:k=false:=e
   subst d
   exact truthy_none #[H,I,q]
 | bl b=>
   cases l
   have d:k=b:=e
   subst d
   exact wpAny_truthy_bool #[H,I,q]
 | int i=>
   let#[t,rfl]:=l
   have d:k=(i !=0):=e
   subst d
   exact PySem.P.truthy_int #[H,I,q]
 | str y=>
   let#[t,rfl]:=l
   obtain⟨C,d⟩:y.length<=sizeLine/\k=((y.length:Int) !=0):=e
   subst d
   exact PySem.P.truthy_str (!0) #[H,I.tok _,q]
 | byt y=>
   let#[t,rfl]:=l
   obtain⟨C,d⟩:y.size<=sizeLine/\k=((y.size:Int) !=0):=e
   subst d
   exact PySem.W.truthy_bytes (!0) #[H,I.tok _,q]
 | ref p=>
   cases l
   have d:(∃j,iD X.K H p j/\k= !j.isEmpty)\/(∃j,iC X.K H p j/\k= !j.isEmpty)\/∃f,H p=some (.dK f)/\k= !f.isEmpty:=e
   rcases d with⟨j,n,d⟩|⟨j,n,d⟩|⟨f,n,d⟩
   · subst d
     let#[u,r,z,A]:=I.list n
     let g:=r.length
     exact wpAny_truthy_list z.isList (by erw[Qjq];omega) #[H,I.tok _,by rw[r_ r];exact q]
   · subst d
     let#[u,r,z,A]:=I.tuple n
     let g:=r.length
     exact truthy_tuple z (by erw[Qjq];omega) ⟨H,I.tok _,by rw[r_ r];exact q⟩
   · subst d
     obtain⟨A,F,o,r,m⟩:f.length<=sizeLine/\(p==sysModules)=false/\∃o,KV f o/\s.heap.DictOf (cH X.prog X.w) p o:=I.hok p _ n
     have g:f.length=o.length:=Paired.length r
     exact wpAny_truthy_dict F m (!0) #[H,I.tok _,by rw[Ar r];exact q]
 |_=>exact(show False from e).elim
def DV(n:PE X a ta)(he:∀d,isTrue a X.env d=(do let v<-d;standAt a.pos;holding [v] (truthy v))):
  PT X a (λf H Q=>ta f H λx g=>∃k,JH X.K x g k/\Q k g):=by
 intro e s f H Q I h
 exact isTrue_plain (bZ (n e s f H _ I h) λv m ⟨x,H1,j,i,l⟩=>IH e m f H1 x v Q j i l) (he _)
def zT:hJ X (binaryOp .Add) (λx y H Q=>∃i j,x=.str i/\y=.str j/\i.length+j.length<=sizeLine/\Q (.str (i++j)) H):=by
 intro d s l H x y v u Q I f g h
 let#[i,j,rfl,rfl,hz,q]:=h
 let#[t,rfl]:=f
 let#[e,rfl]:=g
 exact add_str (λe k=>#[.str (i++j),H,I.tok _,#[_,L],q]) hz
def vals1{x:V}{d:X5}(r:bt [x] d):∃u,d= [u]/\RelV x u:=by
 cases r with
 |cons f e=>cases e;exact#[_,L,f]
def vals2{x y:V}{d:X5}(r:bt [x,y] d):∃u e,d= [u,e]/\RelV x u/\RelV y e:=by
 cases r with
 | cons i f=>
   cases f with
   |cons h g=>cases g;exact#[_,_,L,i,h]
def Cv(f:X.calm=true):ff X (.builtin "max") (λxs H Q=>∃i j,xs= [.int i,.int j]/\Q (.int (if j>i then j else i)) H):=by
 intro e s n H xs o Q I r h
 let#[i,j,rfl,q]:=h
 let#[u,g,rfl,#[t,rfl],#[t',rfl]]:=vals2 r
 refine max_two_ints (I.ok.hd f) λl m k=>#[_,H,I.kept k,?_,q]
 by_cases d:j>i
 ·rw[Qhq d,Qhq d];exact#[_,L]
 ·rw[Quq d,Quq d];exact#[_,L]
def uW(f:X.calm=true):ff X (.builtin "min") (λxs H Q=>∃i j,xs= [.int i,.int j]/\Q (.int (if j<i then j else i)) H):=by
 intro e s n H xs o Q I r h
 let#[i,j,rfl,q]:=h
 let#[u,g,rfl,#[t,rfl],#[t',rfl]]:=vals2 r
 refine min_two_ints (I.ok.hd f) λl m k=>#[_,H,I.kept k,?_,q]
 by_cases d:j<i
 ·rw[Qhq d,Qhq d];exact#[_,L]
 ·rw[Quq d,Quq d];exact#[_,L]
def fP:ff X (.type "int") (λxs H Q=>(∃i,xs= [.int i]/\Q (.int i) H)\/∃k,xs= [.bl k]/\Q (.int (if k then 1 else 0)) H):=by
 intro d s f H xs e Q I r h
 rcases h with⟨i,rfl,q⟩|⟨k,rfl,q⟩
 ·let#[u,rfl,t,rfl]:=vals1 r
  exact call_int_int #[.int i,H,I,#[_,L],q]
 ·let#[u,rfl,r1]:=vals1 r
  cases r1
  exact call_int_bool #[.int (if k then 1 else 0),H,I.tok _,#[_,L],q]
end
structure J0(h:Xe)(x dx C:X8)(mA:X3):Prop where
 obj:h.get? x=some (PySem.W.instObj C dx)
 ns:h.Ns1 dx mA
 ne:dx≠x
def CC{h:Xe}{f:X8}{d:X3}(n:h.Ns1 f d):∃od,h.get? f=some od/\∀name,PySem.W.lookIn name od=some (d name):=by
 let#[o,c,p,k,g,i,_,m]:=n
 refine#[o,k,λname=>?_]
 let e:=m name
 unfold nsFind findBy at e
 rw[<-Array.find?_toList] at e
 unfold PySem.W.lookIn
 rw[g]
 dsimp only
 split
 ·rename_i y q
  rw[q] at e
  exact congrArg some e
 ·rename_i q
  rw[q] at e
  have a:c.toList.any (·.refKey)=false:=by
   rw[List.any_eq_false]
   intro y l
   let#[z,t,b]:=i y (Array.mem_toList_iff.mp l)
   simp[DictEntry.refKey,b]
  have j:¬c.toList.any (·.refKey)=true:=by rw[a];exact Qtq
  rw[Quq j]
  exact congrArg some e
def J0.look{h:Xe}{x a C:X8}{b:X3}(I:J0 h x a C b):∃od,PySem.W.InstAt h x (PySem.W.instObj C a) C (some od)/\∀name,PySem.W.lookIn name od=some (b name):=
 let ⟨od,ho,hl⟩:=CC I.ns
 #[od,#[I.obj,L,L,ho],hl]
def t_.some_of{v:V}{o:Option Value}(r:t_ (some v) o):∃u,o=some u/\RelV v u:=by
 cases o with
 |none=>exact(show False from r).elim
 |some u=>exact#[u,L,r]
section
variable{P:X9}{w:Xc}{H H':Hp}{h h':Xe}{a C dx:X8}{fs fs':List (Str×V)}
def F_(c:og P w H h)(e:H a=some (.ins C dx fs)):∃b,J0 h a dx C b/\(∀f,t_ (fs.lookup f) (b f))/\PySem.Within b (fs.map (·.1))/\fs.length<=1000/\H dx=some (.own a):=by
 let#[d,z,ne,g,b,n,r,q]:=(show cJ P w H h a (.ins C dx fs) from c a _ e)
 exact#[b,#[g,n,ne],r,q,z,d]
end
structure M5(K:X1)(C:X8):Prop where
 pg:PySem.W.plainGet K C Str.empty=true
 hd:PySem.W.hasDictIn K C=true
 po:PySem.W.plainOver K C=true
 sa:PySem.W.findIn K (.ref C) "__setattr__"=some (some (.builtin "object.__setattr__"))
def M5.get{K:X1}{C:X8}(c:M5 K C)(f:Str):PySem.W.plainGet K C f=true:=c.pg
section
variable{X:Cx}{pins:X2}{σ:St}{H:Hp}{s:X4}{A:X_}{E:X0}{Q:X0}{c:Xd}{b:Bool}
inductive qc(K:X1)(H:Hp):V->Value->Prop where
 |non:qc K H .non (.type "NoneType")
 |bl (x:Bool):qc K H (.bl x) (.type "bool")
 |int (i:Int):qc K H (.int i) (.type "int")
 |str (x:Str):qc K H (.str x) (.type "str")
 |flt (x:UInt64):qc K H (.flt x) (.type "float")
 |lst {a:X8} {xs:List V} (e:H a=some (.lst xs)):qc K H (.ref a) (.type "list")
 |frz {a:X8} {o:Obj} {xs:List V} (e:H a=some (.frz o (.lst xs))):qc K H (.ref a) (.type "list")
 |tup {a:X8} {xs:List V} (e:H a=some (.tup xs)):qc K H (.ref a) (.type "tuple")
 |dK {a:X8} {kvs:List (Key×V)} (e:H a=some (.dK kvs)):qc K H (.ref a) (.type "dict")
 |dT {a:X8} {kvs:List (List Key×V)} (e:H a=some (.dT kvs)):qc K H (.ref a) (.type "dict")
 |ins {a C dx:X8} {fs:List (Str×V)} (e:H a=some (.ins C dx fs)) (cl:M5 K C) (ha:PySem.W.findIn K (.ref C) "__class__"=some (some (.builtin "object.__class__")))
   (hn:PySem.W.specialIn K (.builtin "object.__class__") "__get__"=some (some (.builtin "getset_descriptor.__get__"))) (htk:PySem.W.takesIn K (.builtin "object.__class__")=some true)
   (hm:PySem.W.mroIn K C (.type "object")=some true):qc K H (.ref a) (.ref C)
def Cb{x:V}{u t:Xd}(I:Inv X pins σ H s)(d:RelV x u)(m:qc X.K H x t)(e:PySem.W.kitOne X.K t c=some b)(h:∀k,Q (.bool b) {s with toks:=k}):
  wpAny (model X.prog X.w) A (call (.builtin "isinstance") [u,c]) Q E s:=by
 cases m with
 |non=>cases (show u=Value.none from d);exact PySem.W.kia_one PySem.W.kitx_none I.kIn True.intro e (λz=>nomatch z) h
 |bl y=>cases (show u=Value.bool y from d);exact PySem.W.kia_one PySem.W.kitx_bool I.kIn True.intro e (λz=>nomatch z) h
 |int i=>let#[t,q]:=(show∃t,u=Value.int i t from d);cases q;exact PySem.W.kia_one PySem.W.kitx_int I.kIn True.intro e (λz=>nomatch z) h
 |str y=>let#[t,q]:=(show∃t,u=Value.str y t from d);cases q;exact PySem.W.kia_one PySem.W.kitx_str I.kIn True.intro e (λz=>nomatch z) h
 |flt y=>let#[t,q]:=(show∃t,u=Value.float y t from d);cases q;exact PySem.W.kia_one PySem.W.kitx_float I.kIn True.intro e (λz=>nomatch z) h
 | @lst a g ea=>
   cases (show u=Value.ref a from d)
   let#[_,_,n,_,f]:=(show cJ X.prog X.w H s.heap a (.lst g) from I.hok a _ ea)
   exact PySem.W.kia_one PySem.W.kitx_list I.kIn #[_,f,L] e (λz=>nomatch z) h
 | @frz a ob g ea=>
   cases (show u=Value.ref a from d)
   let#[_,_,_,n,_,f]:=(show cJ X.prog X.w H s.heap a (.frz ob (.lst g)) from I.hok a _ ea)
   exact PySem.W.kia_one PySem.W.kitx_list I.kIn #[_,f,L] e (λz=>nomatch z) h
 | @tup a g ea=>
   cases (show u=Value.ref a from d)
   let#[_,_,_,p]:=(show cJ X.prog X.w H s.heap a (.tup g) from I.hok a _ ea)
   let#[o,f,j,_]:=p
   exact PySem.W.kia_one PySem.W.kitx_tuple I.kIn #[o,f,j] e (λz=>nomatch z) h
 | @dK a kvs ea=>
   cases (show u=Value.ref a from d)
   let#[_,_,v,_,p]:=(show cJ X.prog X.w H s.heap a (.dK kvs) from I.hok a _ ea)
   let#[o,l,r,f,j,_]:=p
   exact PySem.W.kia_one PySem.W.kitx_dict I.kIn #[o,f,j.1] e (λz=>nomatch z) h
 | @dT a kvs ea=>
   cases (show u=Value.ref a from d)
   let#[_,_,g,_,o,l,r,f,j,_]:=(show cJ X.prog X.w H s.heap a (.dT kvs) from I.hok a _ ea)
   exact PySem.W.kia_one PySem.W.kitx_dict I.kIn #[o,f,j.1] e (λz=>nomatch z) h
 | @ins a C dx fs ea cl ha hn htk hm=>
   cases (show u=Value.ref a from d)
   let#[B,O,_]:=F_ I.hok ea
   let#[F,J,_]:=O.look
   exact PySem.W.kia_one (PySem.W.kitx_own (cl.get _) cl.hd ha hn htk hm) I.kIn J e (λz=>nomatch z) h
end
structure ed(k:Nat)(A:X_):Prop where
 hd:A.handled=none
 dp:A.depth+3*k+5<recursionLimit
 un:A.units+16*k+200<cLine
 gd:A.guards=some []
def ed.mono{j k:Nat}{A:X_}(r:ed k A)(h:j<=k):ed j A:=#[r.hd,by have:=r.dp;omega,by have:=r.un;omega,r.gd]
def ed.deeper{k:Nat}{A:X_}(r:ed (k+1) A)(env:Env):ed k (A.deeper env):=
 #[r.hd,by have:=r.dp;show A.depth+1+3*k+5<_;omega,by have:=r.un;show A.units+3+16*k+200<_;omega,r.gd]
def ed.depth{k:Nat}{A:X_}(r:ed k A):A.depth<recursionLimit:=by have:=r.dp;omega
def ed.units{k:Nat}{A:X_}(r:ed k A):A.units+64<cLine:=by have:=r.un;omega
def ed.units0{k:Nat}{A:X_}(r:ed k A):A.units<cLine:=by have:=r.un;omega
def K7:TA:=λ_ H Q=>Q [] H
def G4(d:TE)(b:TA):TA:=λa H Q=>d a H λx H1=>b a H1 λc H2=>Q (x::c) H2
section
variable{X:Cx}{e:Expr}{es:List Expr}{te:TE}{t:TA}{pos:Pos}
def fN:PA X [] K7:=λ_ _ _ _ H Q I h=>Calls.spliced_nil #[[],H,I,.nil,h]
def dE(o:PE X e te)(i:PA X es t)(l:autoParam (starEach (e::es) X.env=(false,eval e X.env)::starEach es X.env) af._auto_1):PA X (e::es) (G4 te t):=by
 intro pos a s b H Q I h
 rw[l]
 show wpAny _ _ (spliced ((false,eval e X.env)::backTo pos (starEach es X.env))) _ _ s
 refine Calls.spliced_cons (bZ (o a s b H _ I h) λu k m=>?_)
 let#[x,H1,d,c,f]:=m
 exact bZ (i pos a k b H1 _ d f) λr q ⟨j,H2,g,n,p⟩=>#[x::j,H2,g,.cons c n,p]
def M4(t:TA):TE:=λb H Q=>t b H λa H1=>a.length<=sizeLine/\∀p,H1 p=none->Q (.ref p) (upd H1 p (.tup a))
def MI(t:TA):TE:=λb H Q=>t b H λa H1=>a.length<=sizeLine/\∀p,H1 p=none->Q (.ref p) (upd H1 p (.lst a))
def Ih{x1}(h:PA X es t):PE X (.Tuple es x1 pos) (M4 t):=by
 intro a s j H Q I f
 refine wpAny_Tuple_spliced (bZ (h pos a s j H _ I f) λk c ⟨i,H1,d,r,z,q⟩=>#[by rw[<-r.length];exact z,?_])
 have g:H1 c.heap.objs.size=none:=d.hok.fresh (Qmq _)
 refine#[.ref c.heap.objs.size,upd H1 c.heap.objs.size (.tup i),d.laid (t':=c.toks) (λb u e=>Qcq _ e) (Qmq _) ?_,L,q _ g]
 exact#[z,k,r,#[_,Qrq _ L,L,L,_,L]]
def JT(h:PA X es t):PE X (.List es pos) (MI t):=by
 intro a s j H Q I f
 refine wpAny_List_spliced (bZ (h pos a s j H _ I f) λk c ⟨i,H1,d,r,z,q⟩=>#[by rw[<-r.length];exact z,?_])
 have g:H1 c.heap.objs.size=none:=d.hok.fresh (Qmq _)
 refine#[.ref c.heap.objs.size,upd H1 c.heap.objs.size (.lst i),d.laid (t':=c.toks) (λb u e=>Qcq _ e) (Qmq _) ?_,L,q _ g]
 exact#[z,k,0,r,Qrq _ L]
end
abbrev Sp:=List V->Hp->VK->XK->Prop
abbrev Df:=List Env->Hp->Shared->XK->Value->Shared->Prop
structure FU(P:X9)(w:Xc)(K:X1)(mg:X3)(base:Xe)(A:X_)(outer:List Env)(s:X4)(H:Hp):Prop where
 frames:A.frames=some outer
 mod:Mod K mg base
 bs:∀b o,base.get? b=some o->s.heap.get? b=some o/\H b=none
 bsz:base.objs.size<=s.heap.objs.size
 funs:s.heap.FunFrames base outer
 frf:∀b∈Dv outer,H b=none
 hok:og P w H s.heap
 bare:AllBare s.gens
def CE(outer:List Env)(P:X9)(w:Xc)(H:Hp)(s:X4)(Q:VK)(u:Xd)(a:X4):Prop:=
 ∃v b,a.os=s.os/\AllBare a.gens/\Un (Dv outer) [] H b s.heap a.heap/\og P w b a.heap/\RelV v u/\Q v b
def CR(CX:Df)(outer:List Env)(P:X9)(w:Xc)(H:Hp)(s:X4)(Q:VK)(E:XK)(r:Result)(a:X4):Prop:=
 match r with
 |.ok (.ret u)=>CE outer P w H s Q u a
 |.ok _=>False
 |.error e=>CX outer H s E e a
structure bP(P:X9)(w:Xc)(K:X1)(mg:X3)(base:Xe)(CX:Df)(k:Nat)(f:X8)(fd:FuncData)(ps:X6)(sp:Sp):Prop where
 len:∀vs H Q E,sp vs H Q E->vs.length=ps.length
 run:∀(A:X_) (outer:List Env) (s:X4) (H:Hp) (args:Args) (us:X5) (vs:List V) (Q:VK) (E:XK),ed k A->FU P w K mg base A outer s H->BindsTo s fd args (ps.zip us)->bt vs us->sp vs H Q E->
  codeAny (model P w) A (.call (.ref f) args) (CR CX outer P w H s Q E) s
def bP.imp{P:X9}{w:Xc}{K:X1}{mg:X3}{base:Xe}{CX:Df}{k:Nat}{f:X8}{d:FuncData}{ps:X6}{sp c:Sp}(F:bP P w K mg base CX k f d ps sp)
  (h:∀vs H Q E,c vs H Q E->sp vs H Q E):bP P w K mg base CX k f d ps c:=
 #[λvs H Q E q=>F.len vs H Q E (h _ _ _ _ q),λA a s H b j vs Q E g l e hv i=>F.run A a s H b j vs Q E g l e hv (h _ _ _ _ i)]
section
variable{X:Cx}{pins:X2}{σ:St}{H:Hp}{s s':X4}
def Inv.env0(I:Inv X pins σ H s):FU X.prog X.w X.K X.mg X.base X.A X.stack s H:=
 #[I.ok.frames,I.ok.mod,I.bs,QAq I.ok.bsz I.sz,I.stack,I.stkFree,I.hok,I.bare]
def Inv.after{Q:VK}{u:Xd}(I:Inv X pins σ H s)(h:CE X.stack X.prog X.w H s Q u s'):EP X pins σ Q u s':=by
 let#[v,k,f,a,i,e,r,q]:=h
 let#[j,g,d,t,c]:=s'
 obtain rfl:c=s.os:=f
 exact#[v,k,I.call (h':=j) (g':=g) (d':=d) (t':=t) (ch:= []) i e a (λb z=>absurd z (by simp)),r,q]
end
def DA(sp:Sp)(a:List V)(E:XK)(t:TA):TE:=λc H Q=>t c H λb H1=>sp (b++a) H1 Q E
def Binds(K:X1)(b:FuncData)(ps:X6)(ds:X5):Prop:=
 ∀(s:X4) (a:X5),K.In s.heap->(a++ds).length=ps.length->BindsTo s b #[a,[]] (ps.zip (a++ds))
def Binds.all{K:X1}{b:FuncData}{ps:X6}(h:∀a:List Value,a.length=ps.length->bindArgs b #[a,[]]=pure (ps.zip a)):Binds K b ps []:=λs a _ c=>by
 rw[List.append_nil] at c|-
 exact .of_eq (h a c)
def Ag(CX:Df)(X:Cx)(E:XK):Prop:=∀(a:X2) (c:St) (H:Hp) (s:X4) (e:Xd) (b:X4),Inv X a c H s->CX X.stack H s E e b->X.xe e b
section
variable{X:Cx}{CX:Df}{k:Nat}{f C:X8}{fd:FuncData}{ps:X6}{sp:Sp}{dvs:List V}{ds:X5}{E:XK}{x m:Str}{p pos apos:Pos}{e o:Expr}{es:List Expr}{ta:TE}{t:TA}
def J_{a:X2}{d:St}{H:Hp}{s:X4}{Q:VK}{b:X5}{vs:List V}(F:bP X.prog X.w X.K X.mg X.base CX k f fd ps sp)(q:ed k X.A)(l:Binds X.K fd ps ds)(i:bt dvs ds)(y:Ag CX X E)
  (I:Inv X a d H s) (r:bt vs b) (h:sp (vs++dvs) H Q E):wpAny (model X.prog X.w) X.A (call (.ref f) b) (EP X a d Q) X.xe s:=by
 have g:bt (vs++dvs) (b++ds):=r.append i
 have n:(b++ds).length=ps.length:=by rw[<-g.length];exact F.len _ _ _ _ h
 refine wpAny_call (codeAny_mono (F.run X.A X.stack s H #[b,[]] (b++ds) (vs++dvs) Q E q I.env0 (l s b I.kIn n) g h) λr j c=>?_)
 cases r with
 |error e=>exact y a d H s e j I c
 | ok v=>
   cases v with
   |ret u=>exact I.after c
   |next=>exact False.elim c
   |brk=>exact False.elim c
   |cont=>exact False.elim c
def A0(F:bP X.prog X.w X.K X.mg X.base CX k f fd ps sp)(l:ed k X.A)(i:Gl X x)(v:X.mg x=some (.ref f))(j:PySem.W.keepIn X.K (.ref f)=true)(g:Binds X.K fd ps ds)(d:bt dvs ds)(u:Ag CX X E)
  (y:PA X (e::es) t) (b:autoParam ((x==("__debug__":Str))=false) ac._auto_1) (he:autoParam (starEach (e::es) X.env=(false,eval e X.env)::starEach es X.env) af._auto_1) (hpl:autoParam ((backTo pos (starEach es X.env)).any (·.1)=false) af._auto_1):
  PE X (.Call (.Name x p) (e::es) [] pos) (DA sp dvs E t):=by
 intro a s n H Q I h
 refine wpAny_Call_Name_kw (BD I i v ?_ b)
 refine PySem.W.callWith_K (h₀:=X.base) I.ok.mod.kin j (bZ (y pos a s n H _ I h) λJ B ⟨z,H1,c,r,q⟩=>#[c.kIn,?_]) he hpl
 exact J_ F l g d u c r q
end
structure aM(N P:X6)(sc:Scope):Prop where
 kind:sc.kind=.function
 co:sc.isCoroutine=false
 gen:sc.isGenerator=false
 nd:N.Nodup
 pre:N.take P.length=P
 par:∀x∈P,sc.names.lookup x=some .local\/sc.names.lookup x=some .cell
 nofree:∀y∈sc.names,y.2≠.free
theorem vx{b:Str->Option NameKind}{x:Str}:∀{a:List (Str×Value)} {m:X3},(∀v,(x,v)∉a)->bindL b a m x=m x
 | [],_,_=>rfl
 | (n,v)::r,m,h=>by
   unfold bindL
   rw[vx λw c=>h w (Qpq _ c)]
   split
   · have:x≠n:=by rintro rfl;exact h v QBq
     simp[this]
   · rfl
theorem vL{b:Str->Option NameKind}{x:Str}:∀{a:List (Str×Value)} {m:X3},(∀v,(x,v)∉a)->bindC b a m x=m x
 | [],_,_=>rfl
 | (n,v)::r,m,h=>by
   unfold bindC
   rw[vL λw c=>h w (Qpq _ c)]
   split
   · rfl
   · have:x≠n:=by rintro rfl;exact h v QBq
     simp[this]
theorem vd{a:Str->Option NameKind}{x:Str}{v:Xd}:∀{P:X6} {vs:X5} {i:Nat} {m:X3},P.Nodup->P[i]?=some x->vs[i]?=some v->a x=some .local->
  bindL a (P.zip vs) m x=some v
 | [],_,_,_,_,h,_,_=>by simp at h
 |_::_,[],_,_,_,_,h,_=>by simp at h
 | p::P,w::vs,0,m,nd,h1,h2,hk=>by
   simp at h1 h2;subst h1;subst h2
   show bindL a ((p,w)::P.zip vs) m p=_
   unfold bindL
   rw[vx λv hv=>(List.nodup_cons.mp nd).1 (QeQ hv).1,Qhq hk]
   simp
 | p::P,w::vs,i+1,m,nd,h1,h2,hk=>by
   show bindL a ((p,w)::P.zip vs) m x=_
   unfold bindL
   exact vd (i:=i) (List.nodup_cons.mp nd).2 (by simpa using h1) (by simpa using h2) hk
theorem vK{a:Str->Option NameKind}{x:Str}{v:Xd}:∀{P:X6} {vs:X5} {i:Nat} {m:X3},P.Nodup->P[i]?=some x->vs[i]?=some v->a x≠some .local->
  bindC a (P.zip vs) m x=some v
 | [],_,_,_,_,h,_,_=>by simp at h
 |_::_,[],_,_,_,_,h,_=>by simp at h
 | p::P,w::vs,0,m,nd,h1,h2,hk=>by
   simp at h1 h2;subst h1;subst h2
   show bindC a ((p,w)::P.zip vs) m p=_
   unfold bindC
   rw[vL λv hv=>(List.nodup_cons.mp nd).1 (QeQ hv).1,Quq hk]
   simp
 | p::P,w::vs,i+1,m,nd,h1,h2,hk=>by
   show bindC a ((p,w)::P.zip vs) m x=_
   unfold bindC
   exact vK (i:=i) (List.nodup_cons.mp nd).2 (by simpa using h1) (by simpa using h2) hk
def start(N:X6)(vs:List V):St:=vs.map some++List.replicate (N.length-vs.length) none
def yB(CX:Df)(P:X9)(w:Xc)(K:X1)(mg:X3)(base:Xe)(N:X6)(b:Str)(a:Scope)(f:X8)(d:Xd)(A:X_)(outer:List Env)(s:X4)(H:Hp)(E:XK):Cx where
 prog:=P
 w:=w
 K:=K
 mg:=mg
 base:=base
 A:=A.deeper (envOfC b a s.heap.objs.size f d)
 N:=N
 s₀:=s
 H₀:=H
 env:=envOfC b a s.heap.objs.size f d
 outer:=outer
 stack:=envOfC b a s.heap.objs.size f d::outer
 ex:= []
 calm:=true
 fn:=λ_=>true
 pn:= []
 xe:=λe g=>wpAny (model P w) (A.deeper (envOfC b a s.heap.objs.size f d)) (leaving (envOfC b a s.heap.objs.size f d) e) (λ_ c=>CX outer H s E e c) (λh c=>CX outer H s E h c) g
def xT{a:Scope}{n:Nat}{x:Str}(h:a.names.lookup x=some .cell):∃c,(cellsFrom n a.names []).lookup x=some c:=by
 let q:=PySem.W.cellsFrom_some a.names n [] (.inl h)
 exact Option.isSome_iff_exists.mp q
def Cm{CX:Df}{P:X9}{w:Xc}{K:X1}{mg:X3}{base:Xe}{N ps:X6}{g:Str}{d:Scope}{f:X8}{F:Xd}{A:X_}{outer:List Env}{s Q:X4}{H:Hp}{E:XK}{J:X5}{vs:List V}
  (S:aM N ps d) (R:A.handled=none) (l:FU P w K mg base A outer s H) (hl:vs.length=ps.length) (r:bt vs J)
  (x:InCallC s s.heap.objs.size (bindL (envOfC g d s.heap.objs.size f F).kindOf (ps.zip J) λ_=>none) (cellsFrom (s.heap.objs.size+1) d.names []) (bindC (envOfC g d s.heap.objs.size f F).kindOf (ps.zip J) λ_=>none) Q):
  Inv (yB CX P w K mg base N g d f F A outer s H E) [] (start N vs) H Q:=by
 have U:ps.length<=N.length:=by have:=congrArg List.length S.pre;rw[Qxq] at this;omega
 let#[C,Z,rfl,hk]:=x.done
 have o:∀b:Addr,b∉(yB CX P w K mg base N g d f F A outer s H E).ex:=λb z=>absurd (show b∈([]:List Addr) from z) (by simp)
 refine⟨⟨l.mod,S.kind,L,L,Qmq _,λy z c C j=>?_,λy m=>?_,λy c _ h=>?_,λ_=>R,Around.frames_deeper l.frames,.inr ⟨rfl,L⟩,λb z=>absurd z (o b),l.bs,l.bsz,λb _ _=>o b,λb z=>absurd z (o b),l.funs,l.frf⟩,
  rfl,l.bare,Un.kept hk,#[_,x.toInCall.ns,λi y v C j h3=>?_],λy c h=>#[_,x.cell y c h],l.hok.fresh (Qmq _),λy c h=>?_,λp t=>absurd (show p∈([]:List (Addr×Obj)) from t) (by simp),l.hok.kept hk,?_⟩
 ·exact name_of_addr x.apart (PySem.mem_of_lookup C) (PySem.mem_of_lookup j)
 ·have m:d.names.lookup y=some .cell\/d.names.lookup y=some .free:=m
  rcases m with m|m
  ·exact xT m
  ·exact absurd L (S.nofree _ (PySem.mem_of_lookup m))
 ·exact nQl (x.above y c (PySem.mem_of_lookup h))
 ·have I:i<vs.length:=by
   unfold start at j
   by_cases I:i<vs.length
   ·exact I
   ·rw[QQq (by simpa using I)] at j
    rw[List.getElem?_replicate] at j
    split at j <;>cases j
  have Y:vs[i]?=some v:=by
   unfold start at j
   rw[QHq (by simpa using I),gQm] at j
   cases e:vs[i]? with
   |none=>rw[e] at j;cases j
   |some a=>rw[e] at j;cases j;rfl
  let#[u,M,X]:=r.get Y
  have t:ps[i]?=some y:=by
   rw[<-S.pre,List.getElem?_take_of_lt (!0)];exact C
  have B:ps.Nodup:=by rw[<-S.pre];exact S.nd.sublist (List.take_sublist _ _)
  refine#[u,X,?_]
  rcases S.par y (mQg t) with k|k
  ·exact .inl #[k,vd B t M k]
  ·let#[c,e]:=xT (n:=s.heap.objs.size+1) k
   refine .inr #[.inl k,c,e,?_]
   let q:=x.cell y c e
   rw[vK B t M (by show d.names.lookup y≠_;rw[k];decide)] at q
   exact q
 ·exact l.hok.fresh (nQl (x.above y c (PySem.mem_of_lookup h)))
 ·unfold start
  show _=N.length
  rw[lQa,lQm,QIq]
  omega
def Kn{CX:Df}{P:X9}{w:Xc}{K:X1}{mg:X3}{base:Xe}{k:Nat}{f:X8}{name c:Str}{g:Arguments}{h:List Stmt}{a:Scope}{dV kV C pm d ct oc:Xd}{an od:Option Addr}
  {R:Array (Option Value)} {N ps:X6} {sp:Sp} (lk:K.lookup f=some #[oc,od,.func (PySem.W.fnOf name c g h a dV kV C pm an d ct),R]) (Z:PySem.W.codeIn K d c=true) (S:aM N ps a)
  (len:∀vs H Q E,sp vs H Q E->vs.length=ps.length)
  (m:∀(A:X_) (outer:List Env) (s:X4) (H:Hp) (vs:List V) (Q:VK) (E:XK),ed k (A.deeper (envOfC c a s.heap.objs.size f d))->sp vs H Q E->
   ∃t,rA (yB CX P w K mg base N c a f d A outer s H E) h t/\t {nx:=λ_ j=>Q .non j,rt:=Q} (start N vs) H):
  bP P w K mg base CX (k+1) f (PySem.W.fnOf name c g h a dV kV C pm an d ct) ps sp:=by
 refine#[len,λA outer s H a0 us vs Q E Y z hb r F=>?_]
 let hl:=len _ _ _ _ F
 have KX:K.In s.heap:=z.mod.kin.keeps λb o e=>(z.bs b o e).1
 have M:s.heap.NoLimit:=z.mod.nolimit.keeps λb o e=>(z.bs b o e).1
 have l:∀y∈ps.zip us,a.names.lookup y.1=some .local\/(a.names.lookup y.1=some .cell/\((cellsFrom (s.heap.objs.size+1) a.names []).lookup y.1).isSome=true):=λ⟨n,v⟩ hy=>by
  rcases S.par n (QeQ hy).1 with q|q
  ·exact .inl q
  ·exact .inr #[q,PySem.W.cellsFrom_some _ _ _ (.inl q)]
 refine codeAny_call_function Y.depth (KX _ _ lk) L S.co S.gen L (PySem.W.codeRec_of KX Z) (hb _ _ _ _ ?_)
 refine wpAny_newFunctionEnv_cells S.kind l λa1 he s1 x=>?_
 subst he
 refine#[M.keeps x.toInCall.keep,codeAny_func ?_]
 let#[t,ht,hq]:=m A outer s H vs Q E (Y.deeper _) F
 have I:Inv (yB CX P w K mg base N c a f d A outer s H E) [] (start N vs) H s1:=Cm S Y.hd z hl r x
 refine QRq (ht [] s1 (start N vs) H _ I hq) (λfl U p=>?_) λe U p=>p
 have B:∀{i:St} {j:Hp} {v:V} {u:Xd},Inv (yB CX P w K mg base N c a f d A outer s H E) [] i j U->RelV v u->Q v j->CE outer P w H s Q u U:=
  λ{i j v u} J X q=>#[v,j,J.os,J.bare,J.base,J.hok,X,q]
 cases fl with
 | ret u=>
   let#[v,i,j,J,X,q]:=p
   exact B J X q
 | next=>
   let#[i,j,J,q]:=p
   exact B (v:=V.non) (u:=Value.none) J L q
 | brk=>
   let#[_,_,_,q]:=p
   exact False.elim q
 | cont=>
   let#[_,_,_,q]:=p
   exact False.elim q
section
variable{X:Cx}{x:Str}{p pos:Pos}{e:Expr}{es:List Expr}{t:TA}{id T:String}{r:List V->Hp->VK->Prop}
def Ng(r:List V->Hp->VK->Prop)(t:TA):TE:=λb H Q=>t b H λa H1=>r a H1 Q
def eM(k:ff X (.builtin id) r)(f:Gl X x)(n:X.mg x=none)(hv:bootBuiltins x=some (.builtin id))(q:PA X (e::es) t)(m:autoParam (x≠"__name__") ac._auto_1)(b:autoParam ((x==("__debug__":Str))=false) ac._auto_1)
  (he:autoParam (starEach (e::es) X.env=(false,eval e X.env)::starEach es X.env) af._auto_1) (hpl:autoParam ((backTo pos (starEach es X.env)).any (·.1)=false) af._auto_1):PE X (.Call (.Name x p) (e::es) [] pos) (Ng r t):=by
 intro a s c H Q I h
 refine wpAny_Call_Name_kw (lD I f n hv ?_ m b)
 exact PyProof.Rows.callWith_builtin1 (bZ (q pos a s c H _ I h) λo l ⟨i,H1,g,d,j⟩=>k a l c H1 i o Q g d j) he hpl
def dX(k:ff X (.type T) r)(f:Gl X x)(n:X.mg x=none)(hv:bootBuiltins x=some (.type T))(q:PA X (e::es) t)(m:autoParam (x≠"__name__") ac._auto_1)(b:autoParam ((x==("__debug__":Str))=false) ac._auto_1)
  (he:autoParam (starEach (e::es) X.env=(false,eval e X.env)::starEach es X.env) af._auto_1) (hpl:autoParam ((backTo pos (starEach es X.env)).any (·.1)=false) af._auto_1):PE X (.Call (.Name x p) (e::es) [] pos) (Ng r t):=by
 intro a s c H Q I h
 refine wpAny_Call_Name_kw (lD I f n hv ?_ m b)
 exact PyProof.Rows.callWith_type1 (bZ (q pos a s c H _ I h) λo l ⟨i,H1,g,d,j⟩=>k a l c H1 i o Q g d j) he hpl
end
section
variable{κ:Type}[DecidableEq κ]
def mT(kvs:List (κ×V))(k:κ):Option V:=(kvs.find? λa=>decide (a.1=k)).map (·.2)
def putK(kvs:List (κ×V))(k:κ)(v:V):List (κ×V):=
 if (kvs.any λa=>decide (a.1=k))=true then kvs.map (λa=>if a.1=k then(a.1,v) else a) else kvs++ [(k,v)]
def yS{p:κ×V}{r:List (κ×V)}{k:κ}(e:p.1=k):mT (p::r) k=some p.2:=by simp[mT,List.find?_cons,e]
def yx{p:κ×V}{r:List (κ×V)}{k:κ}(e:¬p.1=k):mT (p::r) k=mT r k:=by simp[mT,List.find?_cons,e]
def zi(kvs:List (κ×V))(k:κ)(v:V):(putK kvs k v).length<=kvs.length+1:=by
 unfold putK
 split
 ·rw[lQm];omega
 ·rw[lQa,Qnq,QGq];omega
def t_.isSome_eq{o:Option V}{u:Option Value}(r:t_ o u):o.isSome=u.isSome:=by
 cases o with
 | none=>cases u with
   |none=>rfl
   |some _=>exact(show False from r).elim
 | some _=>cases u with
   |none=>exact(show False from r).elim
   |some _=>rfl
def KV.val{kvs:List (κ×V)}{vs:List (κ×Value)}(r:KV kvs vs)(k:κ):t_ (mT kvs k) (valueAt vs k):=by
 unfold KV at r
 induction r with
 |nil=>exact True.intro
 | @cons p q ps qs h t ih=>
   let#[c,d]:=h
   by_cases e:p.1=k
   · have a:q.1=k:=c.symm.trans e
     have b:valueAt (q::qs) k=some q.2:=by simp[valueAt,List.find?_cons,a]
     rw[yS e,b];exact d
   · have a:¬q.1=k:=λz=>e (c.trans z)
     have b:valueAt (q::qs) k=valueAt qs k:=by simp[valueAt,List.find?_cons,a]
     rw[yx e,b];exact ih
theorem KV.any{kvs:List (κ×V)}{vs:List (κ×Value)}(r:KV kvs vs)(k:κ):(kvs.any λa=>decide (a.1=k))=vs.any λa=>decide (a.1=k):=by
 unfold KV at r
 induction r with
 |nil=>rfl
 |cons h t b=>rw[List.any_cons,List.any_cons,b,h.1]
def KV.repl{kvs:List (κ×V)}{vs:List (κ×Value)}(r:KV kvs vs)(k:κ){y:V}{u:Xd}(d:RelV y u):
  KV (kvs.map λa=>if a.1=k then(a.1,y) else a) (vs.map λa=>if a.1=k then(a.1,u) else a):=by
 unfold KV at r|-
 induction r with
 |nil=>exact .nil
 | @cons p q ps qs h t ih=>
   rw[QDq,QDq]
   refine .cons ?_ ih
   let#[b,c]:=h
   by_cases e:p.1=k
   · rw[Qhq e,Qhq (b.symm.trans e)];exact#[b,d]
   · rw[Quq e,Quq (λz=>e (b.trans z))];exact#[b,c]
def KV.put{kvs:List (κ×V)}{vs:List (κ×Value)}(r:KV kvs vs)(k:κ){y:V}{u:Xd}(a:RelV y u):KV (putK kvs k y) (stored vs k u):=by
 unfold putK stored
 rw[r.any k]
 by_cases e:(vs.any λb=>decide (b.1=k))=true
 ·rw[Qhq e,Qhq e];exact r.repl k a
 ·rw[Quq e,Quq e];exact Paired.snoc r #[L,a]
def KV.length{kvs:List (κ×V)}{vs:List (κ×Value)}(r:KV kvs vs):kvs.length=vs.length:=Paired.length r
end
def BF{P:X9}{w:Xc}{k:Key}{u:Xd}(r:RelV (kV k) u):(cH P w).is k u=true:=by
 cases k with
 |inl i=>let#[t,e]:=(show∃t,u=Value.int i t from r);subst e;exact xD P w i t
 |inr x=>let#[t,e]:=(show∃t,u=Value.str x t from r);subst e;exact yb P w x t
theorem vb{P:X9}{w:Xc}:∀{a:List Key} {b:X5},bt (a.map kV) b->ItemsAre (cH P w) a b
 | [],_,r=>by rw[List.map_nil] at r;cases r;exact .nil
 | k::a,_,r=>by
   rw[QDq] at r
   cases r with
   |cons h t=>exact .cons (BF h) (vb t)
abbrev KT(H:Hp):List (List Key×V)->List (List Key×Addr×Value)->Prop:=Paired λp q=>p.1=q.1/\H q.2.1=some (.tup (p.1.map kV))/\RelV p.2 q.2.2
def KT.val{H:Hp}{kvs:List (List Key×V)}{xs:List (List Key×Addr×Value)}(r:KT H kvs xs)(k:List Key):t_ (mT kvs k) ((atKey xs k).map (·.2)):=by
 induction r with
 |nil=>exact True.intro
 | @cons p q ps qs h t ih=>
   let#[c,_,d]:=h
   by_cases e:p.1=k
   · have a:q.1=k:=c.symm.trans e
     have b:atKey (q::qs) k=some q.2:=by simp[atKey,List.find?_cons,a]
     rw[yS e,b];exact d
   · have a:¬q.1=k:=λz=>e (c.trans z)
     have b:atKey (q::qs) k=atKey qs k:=by simp[atKey,List.find?_cons,a]
     rw[yx e,b];exact ih
section
variable{P:X9}{w:Xc}{H:Hp}{h:Xe}{a:X8}
def Ho{u:HO}(ok:og P w H h)(e:Rd H a u):cJ P w H h a u:=e.ok ok
def BG{kvs:List (Key×V)}(ok:og P w H h)(e:Rd H a (.dK kvs)):kvs.length<=sizeLine/\(a==sysModules)=false/\∃vs,KV kvs vs/\h.DictOf (cH P w) a vs:=
 show cJ P w H h a (.dK kvs) from Ho ok e
def Hm{kvs:List (Key×V)}(ok:og P w H h)(e:H a=some (.dK kvs)):kvs.length<=sizeLine/\(a==sysModules)=false/\∃vs,KV kvs vs/\h.DictOf (cH P w) a vs:=BG ok (.inl e)
def Am{c:List Key}(ok:og P w H h)(e:H a=some (.tup (c.map kV))):(tupleKind (cH P w)).is h c a:=by
 let#[_,b,r,o,f,d,_,n,g]:=(show cJ P w H h a (.tup (c.map kV)) from ok a _ e)
 exact#[o,b.toArray,n,f,d,g,by simpa using vb r]
def ER{kvs:List (List Key×V)}(ok:og P w H h)(e:Rd H a (.dT kvs)):kvs.length<=sizeLine/\(a==sysModules)=false∧
  ∃xs,KT H kvs xs/\h.DictOfH (tupleKind (cH P w)) a xs:=by
 let#[z,y,xs,r,o,j,n,g,d,k,f,i]:=(show cJ P w H h a (.dT kvs) from Ho ok e)
 refine#[z,y,xs,r,o,j,n,g,d,k,f,λx b=>?_,i]
 have c:∀{l:List (List Key×V)} {m:List (List Key×Addr×Value)},KT H l m->∀x∈m,(tupleKind (cH P w)).is h x.1 x.2.1:=by
  intro l m q
  induction q with
  |nil=>intro x b;exact nomatch b
  | @cons p q ps qs hq t ih=>
    intro x b
    rcases Qsq.mp b with e|b
    · subst e
      exact Am ok (by rw[<-hq.1];exact hq.2.1)
    · exact ih x b
 exact c r x b
end
def we(H:Hp)(a:X8)(y:V)(r:Option V):Prop:=
 (∃c k,Rd H a (.dK c)/\y=kV k/\r=mT c k)\/∃c k b,Rd H a (.dT c)/\y=.ref b/\H b=some (.tup (k.map kV))/\r=mT c k
def we.k{H:Hp}{a:X8}{kvs:List (Key×V)}{k:Key}(e:H a=some (.dK kvs)):we H a (kV k) (mT kvs k):=.inl #[kvs,k,.inl e,L,L]
section
variable{X:Cx}{pins:X2}{σ:St}{H:Hp}{s:X4}{a:X8}{y v:V}{u r:Xd}{o:Option V}{A:X_}{E:X0}
def Inv.big(I:Inv X pins σ H s):sysModules<s.heap.objs.size:=by
 have h:mainGlobals<s.heap.objs.size:=(I.mod.glob.keeps I.bk).lt
 exact Nat.lt_trans (!1) h
def Cp{Q:X0}(M:A.units+1<cLine)(I:Inv X pins σ H s)(g:we H a y (some v))(x:RelV y u)(h:∀f t,Inv X pins σ H t->RelV v f->Q f t):
  wpAny (model X.prog X.w) A (getItem (.ref a) u) Q E s:=by
 rcases g with⟨i,k,e,q,l⟩|⟨i,k,b,e,q,F,l⟩
 ·subst q
  let#[z,B,C,d,n]:=BG I.hok e
  let#[f,m,c]:=t_.some_of (v:=v) (o:=valueAt C k) (by rw[l];exact d.val k)
  exact wpAny_getItem_of (BF x) n.mapOf m (h f _ (I.tok _) c)
 ·subst q
  cases (show u=Value.ref b from x)
  let#[z,B,K,d,n]:=ER I.hok e
  let#[f,m,c]:=t_.some_of (v:=v) (o:=(atKey K k).map (·.2)) (by rw[l];exact d.val k)
  let#[p,J,j]:=oQm.mp m
  refine wpAny_getItem_heap (tupleKind_room_in1 M) (Am I.hok F) n J ?_
  rw[j]
  exact h f _ (I.tok _) c
def Gv{Q:X0}(t:A.units+1<cLine)(I:Inv X pins σ H s)(g:we H a y o)(n:RelV y u)(h:∀m,Inv X pins σ H m->Q (.bool (!o.isSome)) m):
  wpAny (model X.prog X.w) A (compareOp .NotIn u (.ref a)) Q E s:=by
 rcases g with⟨f,k,e,j,l⟩|⟨f,k,b,e,j,p,l⟩
 ·subst j
  let#[z,d,x,c,i]:=BG I.hok e
  refine wpAny_notIn_of (BF n) d i.mapOf ?_
  rw[<-(c.val k).isSome_eq,<-l]
  exact h _ (I.tok _)
 ·subst j
  cases (show u=Value.ref b from n)
  let#[z,d,B,c,i]:=ER I.hok e
  refine wpAny_notIn_heap (tupleKind_room_in1 t) (Am I.hok p) d i ?_
  let q:=(c.val k).isSome_eq
  rw[Option.isSome_map] at q
  rw[<-q,<-l]
  exact h _ (I.tok _)
def vV{h':Xe}{t':Nat}{c:HO}(I:Inv X pins σ H s)(g:Lh (H a))(f:Heap.SameBut a s.heap h')(he:∃q,h'.get? a=some q)(new:cJ X.prog X.w (upd H a c) h' a c):
  Inv X pins σ (upd H a c) {s with heap:=h',toks:=t'}:=
 I.write (x:=a) (e:=a) g (.inl L) (λb q d z=>(f.2 b d).trans z) he new
def Dh{P:X9}{w:Xc}{d:Hp}{h':Xe}{kvs:List (Key×V)}{vs:List (Key×Value)}(z:kvs.length<=sizeLine)(c:(a==sysModules)=false)(b:KV kvs vs)(e:h'.DictOf (cH P w) a vs):
  cJ P w d h' a (.dK kvs):=#[z,c,vs,b,e]
end
def Ed(i:Expr):Prop:=∀b a,subscripted i false b a=operate [b,a] (getItem b a)
def Bz{prog:X9}{w:Xc}{A:X_}{E:X0}{s:X4}{env:Env}{b a:Expr}{pos:Pos}{T id:String}{Q:X0}
  (m:typeLookup (.type T) "__getitem__"=pure (some (.builtin id))) (n:Ed a)
  (h:wpAny (model prog w) A (eval b env) (λo f=>wpAny (model prog w) A (eval a env) (λi c=>c.TypeIs o T/\wpAny (model prog w) A (getItem o i) Q E c) E f) E s):
  wpAny (model prog w) A (eval (.Subscript b a pos) env) Q E s:=by
 refine Subscript_ (QRq h (λo f j=>QRq j (λi c d=>?_) λ_ _ x=>x) λ_ _ x=>x)
 let#[l,d]:=d
 unfold subscriptTail
 refine Qaq ?_
 rw[getitemInPython_of_ne l.not_modules]
 refine Qaq (wpAny_specialOf l m ?_)
 have g:wpAny (model prog w) A (subscripted a false o i) (λr e=>wpAny (model prog w) A (letTemporaryGo b o r >>= λ_=>pure r) Q E e) E c:=by
  rw[n o i]
  exact wpAny_operating (QRq d (λr e k=>Qaq (wpAny_letTemporaryGo (Qgq k))) λ_ _ x=>x)
 first
  |exact Qgq (Qaq g)
  |exact Qaq (Qgq (Qaq g))
  |exact Qaq g
def yy{X:Cx}{c:X2}{h:St}{H:Hp}{s:X4}{a:X8}{y:V}{o:Option V}(I:Inv X c h H s)(g:we H a y o):s.TypeIs (.ref a) "dict":=by
 rcases g with⟨d,k,e,_,_⟩|⟨d,k,b,e,_,_,_⟩
 ·let#[_,_,i,_,f]:=BG I.hok e
  exact f.typeIs
 ·let#[_,_,j,_,f]:=ER I.hok e
  exact f.typeIs
def KY(c d:TE):TE:=λb H Q=>c b H λx H1=>d b H1 λy H2=>∃a v,x=.ref a/\we H2 a y (some v)/\Q v H2
def AW(d c:TE):TE:=λb H Q=>d b H λy H1=>c b H1 λx H2=>∃a o,x=.ref a/\we H2 a y o/\Q (.bl (!o.isSome)) H2
section
variable{X:Cx}{o i e value:Expr}{pos pos' tpos:Pos}{td ty tv:TE}
def Fl(p:X.A.units+1<cLine)(n:PE X o td)(hi:PE X i ty)(t:Ed i):PE X (.Subscript o i pos) (KY td ty):=by
 intro b s f H Q I h
 refine Bz PySem.F.slot_dict_getitem.lookup t (bZ (n b s f H _ I h) λu q ⟨x,H1,k,r,m⟩=>bZ (hi b q f H1 _ k m) λM J w=>?_)
 let#[y,H2,d,z,a,v,j,g,B]:=w
 subst j
 obtain rfl:u=Value.ref a:=r
 exact#[yy d g,Cp p d g z λC K l c=>#[v,H2,l,c,B]]
def CB(n:X.A.units+1<cLine)(hi:PE X i ty)(m:PE X o td):PC X .NotIn i o (AW ty td):=by
 intro b s c H Q I h
 refine bZ (hi b s c H _ I h) λC p ⟨y,H1,f,t,k⟩=>bZ (m b p c H1 _ f k) λu z v=>?_
 let#[x,H2,l,q,a,r,d,g,w]:=v
 subst d
 obtain rfl:u=Value.ref a:=q
 exact Gv n l g t λB j=>#[.bl (!r.isSome),H2,j,L,w]
end
def DQ{P:X9}{w:Xc}{H:Hp}(h:Xe)(a:sysModules<h.objs.size):cJ P w H (h.push {cls:=.type "dict",data:=.dict (List.toArray [])}) h.objs.size (.dK []):=
 #[Nat.zero_le _,beq_eq_false_iff_ne.mpr (Ne.symm (Qwq a)),[],.nil,Heap.DictOf.new h]
def wG:List (TE×TE)->St->Hp->(List (V×V)->Hp->Prop)->Prop
 | [],_,H,Q=>Q [] H
 |(tk,tv)::r,σ,H,Q=>tk σ H λx H1=>tv σ H1 λy H2=>wG r σ H2 λa H3=>Q ((x,y)::a) H3
abbrev VV:List (V×V)->List (Value×Value)->Prop:=Paired λp q=>RelV p.1 q.1/\RelV p.2 q.2
def L0(X:Cx)(pos:Pos)(c:List (Option Expr))(a:List Expr)(d:List (TE×TE)):Prop:=
 ∀ (b:X2) (s:X4) (e:St) (H:Hp) (Q:List (V×V)->Hp->Prop),Inv X b e H s->wG d e H Q->
   wpAny (model X.prog X.w) X.A (evalPairs (pairTrees c a X.env pos)) (λh i=>∃f g,Inv X b e g i/\VV f h/\Q f g) X.xe s
def GE{X:Cx}{pos:Pos}:L0 X pos [] [] []:=λa s b H Q I h=>pairTrees_nil_walk #[[],H,I,.nil,h]
def Eg{X:Cx}{pos:Pos}{k v:Expr}{e:List (Option Expr)}{vs:List Expr}{g f:TE}{b:List (TE×TE)}(j:PE X k g)(hv:PE X v f)(r:L0 X pos e vs b):
  L0 X pos (some k::e) (v::vs) ((g,f)::b):=λa s d H Q I h=>
 pairTrees_cons_walk (bZ (j a s d H _ I h) λu t ⟨x,H1,i,w,o⟩=>bZ (hv a t d H1 _ i o) λF m ⟨y,H2,q,z,A⟩=>
  bZ (r a m d H2 _ q A) λB C ⟨l,H3,n,c,p⟩=>#[(x,y)::l,H3,n,.cons #[w,z] c,p])
def jf(kvs a:List (Key×V)):List (Key×V):=a.foldl (λb c=>putK b c.1 c.2) kvs
def KV.merge:∀{a:List (Key×V)} {b:List (Key×Value)} {kvs:List (Key×V)} {vs:List (Key×Value)},KV a b->KV kvs vs->KV (jf kvs a) (merged vs b):=by
 intro a b kvs vs r
 unfold KV at r
 induction r generalizing kvs vs with
 |nil=>intro q;exact q
 | @cons p q ps qs h t ih=>
   intro c
   have e:KV (putK kvs p.1 p.2) (stored vs q.1 q.2):=by
     have:=c.put p.1 h.2
     rw[<-h.1];exact this
   exact ih e
theorem mq:∀(a kvs:List (Key×V)),(jf kvs a).length<=kvs.length+a.length
 | [],kvs=>by show kvs.length<=kvs.length+0;omega
 | p::r,kvs=>by
   let c:=mq r (putK kvs p.1 p.2)
   let b:=zi kvs p.1 p.2
   show(jf (putK kvs p.1 p.2) r).length<=_
   rw[Qnq];omega
theorem sA{P:X9}{w:Xc}:∀{kvs:List (Key×V)} {ws:List (Value×Value)},VV (kvs.map λe=>(kV e.1,e.2)) ws->∃d,Carries (cH P w) ws d/\KV kvs d
 | [],_,r=>by rw[List.map_nil] at r;cases r;exact#[[],True.intro,.nil]
 | p::kvs,_,r=>by
   rw[QDq] at r
   cases r with
   | @cons a b as bs h t=>
     let#[d,c,q]:=sA (P:=P) (w:=w) t
     let#[g,f]:=b
     exact#[(p.1,f)::d,#[BF h.1,L,c],.cons #[L,h.2] q]
def Mm(b:List (TE×TE)):TE:=λe H Q=>∀p,H p=none->wG b e (upd H p (.dK [])) λd H2=>H2 p=some (.dK [])/\∃a:List (Key×V),d=a.map (λc=>(kV c.1,c.2))/\a.length<=15/\Q (.ref p) (upd H2 p (.dK (jf [] a)))
def Fx{X:Cx}{pos:Pos}{b:List (Option Expr)}{d:List Expr}{g:List (TE×TE)}(h:L0 X pos b d g)(j:b.all (·.isSome)=true)(B:b.length=d.length)(r:b≠[])
  (l:b.length<=15):PE X (.Dict b d pos) (Mm g):=by
 intro i s J H Q I q
 let K:=I.hok.fresh (Qmq s.heap.objs.size)
 let t:=I.laid (a:=s.heap.objs.size) (o:=.dK []) (h':=s.heap.push {cls:=.type "dict",data:=.dict (List.toArray [])}) (t':=s.toks) (λ_ _ q=>Qcq _ q) (Qmq _) (DQ s.heap I.big)
 refine wpAny_Dict_walk (knd:=cH X.prog X.w) j B r l (bZ (h i _ J _ _ t (q _ K)) λws Z F=>?_)
 let#[Y,H2,n,m,e,f,N,W,U]:=F
 subst N
 let#[A,c,x]:=sA (P:=X.prog) (w:=X.w) m
 let#[z,p,R,u,M]:=Hm n.hok e
 cases u
 refine#[A,c,M,λh' k C=>#[.ref s.heap.objs.size,_,?_,L,U]]
 have y:(jf [] f).length<=sizeLine:=by
  let v:=mq f []
  rw[QGq] at v
  rw[sizeLine_eq];omega
 have S:∃q,h'.get? s.heap.objs.size=some q:=let ⟨q,_,_,hq,_⟩:=k;#[q,hq]
 exact vV n (by rw[e];exact True.intro) C S (Dh y p (x.merge .nil) k)
end L2
namespace HT
open PySem PyProof.Rows
section
open PySem.SeqAt
open PySem.AutoSeq1 (wpAny_loadPart')
open PySem.MeetsSeq PySem.MeetsSeq2 PySem.MeetsSeq3
end
section
variable{prog:X9}{w:Xc}{A:X_}{E:X0}{s:X4}
def Ge{t b:X8}{vs ws:X5}{Q:X0}(ht:IsTup s.heap t vs.toArray)(u:IsTup s.heap b ws.toArray)(hv:vs≠[])
  (v:ws= []->Q (.ref t) s) (r:ws≠[]->Q (.ref s.heap.objs.size) {s with heap:=s.heap.push {cls:=.type "tuple",data:=.seq (vs++ws).toArray}})
  (j:vs.length+ws.length<=sizeLine):wpAny (model prog w) A (binaryOp .Add (.ref t) (.ref b)) Q E s:=by
 let#[#[cls,o,data,sl],i,q,n,l]:=id ht
 let#[#[m,d,k,g],a,f,p,c]:=id u
 simp only at q l f c
 subst q l f c
 have e:vs.toArray++ws.toArray=(vs++ws).toArray:=by simp
 by_cases h:ws= []
 ·exact concat_meets #[_,i,L] #[_,a,L] noFill_tuple_add seq_tuple_add PySem.F.slot_tuple_add PySem.F.entry_tuple_add (PySem.F.args_tuple_add_2 _ _)
   (tuple_addW1 t b vs.toArray ws.toArray n p o d sl g (by simpa using hv) (by simp[h])) #[i,a,v h]
 ·refine concat_meets #[_,i,L] #[_,a,L] noFill_tuple_add seq_tuple_add PySem.F.slot_tuple_add PySem.F.entry_tuple_add (PySem.F.args_tuple_add_2 _ _)
   (tuple_addW2 t b vs.toArray ws.toArray n p o d sl g (by simpa using hv) (by simpa using h) (by rw[Qjq,Qjq];exact j)) #[i,a,?_]
  rw[e]
  exact r h
def ef(n d:Nat):Option Int->Nat
 |none=>d
 |some v=>if v<0 then(v+(n:Int)).toNat else min v.toNat n
def nK(n d:Nat):ef n d none=d:=rfl
def rV(n d k:Nat):ef n d (some (k:Int))=min k n:=by
 show(if (k:Int)<0 then((k:Int)+(n:Int)).toNat else min (k:Int).toNat n)=min k n
 rw[Quq (!0),Int.toNat_natCast]
def IM(n d:Nat)(a:d<=n)(o:Xb):ef n d o<=n:=by
 cases o with
 |none=>exact a
 | some v=>
   show(if v<0 then(v+(n:Int)).toNat else min v.toNat n)<=n
   by_cases hv:v<0
   · rw[Qhq hv];omega
   · rw[Quq hv];exact Nat.min_le_right _ _
def AL(v:Int)(n d:Nat):(if v<0 then max (v+(n:Int)) 0 else min v (n:Int))=((ef n d (some v):Nat):Int):=by
 show(if v<0 then max (v+(n:Int)) 0 else min v (n:Int))=(((if v<0 then(v+(n:Int)).toNat else min v.toNat n):Nat):Int)
 by_cases hv:v<0
 ·erw[Qhq hv];omega
 ·erw[Quq hv];omega
def zV(lo hi:Xb)(n:Nat):Builtin.Slice.sliceAdjust lo hi 1 (n:Int)=(((ef n 0 lo:Nat):Int),((ef n n hi:Nat):Int)):=by
 have a:¬((1:Int)<0):=by omega
 unfold Builtin.Slice.sliceAdjust
 erw[a,if_false]
 refine Prod.ext ?_ ?_
 ·cases lo with
  |none=>rfl
  |some v=>exact AL v n 0
 ·cases hi with
  |none=>rfl
  |some v=>exact AL v n n
def Al(i j:Nat):Builtin.Slice.slicePlaces (i:Int) (j:Int) 1=j-i:=by
 unfold Builtin.Slice.slicePlaces
 have a:(1:Int)>0:=by omega
 erw[a,if_true,Int.ediv_one]
 split <;>omega
def tT{v:Xd}{o:Xb}{Q:Option Int->Shared->Prop}(p:IsPart v o)(h:Q o s):wpAny (model prog w) A (Builtin.Slice.slicePartIndex v) Q E s:=by
 cases p with
 |none=>exact slicePart_none h
 |int i t=>exact slicePart_int h
def jA{sl:X8}{d c:Xd}{lo hi:Xb}{n:Nat}{Q:Int×Int×Nat->Shared->Prop}(g:s.heap.IsSliceOf sl d c .none)(pl:IsPart d lo)(e:IsPart c hi)
  (h:Q (((ef n 0 lo:Nat):Int),1,ef n n hi-ef n 0 lo) s):wpAny (model prog w) A (Builtin.Slice.sliceApplied (.ref sl) (pure (n:Int))) Q E s:=by
 let#[i,a,f,b]:=id g
 unfold Builtin.Slice.sliceApplied Builtin.Slice.sliceFields
 refine Qaq (Qaq (QMq a b (x:=d) L (Qaq (QMq a b (x:=c) L (Qaq (QMq a b (x:=.none) L (Qgq ?_)))))))
 refine Qaq (slicePart_none ?_)
 show wpAny _ _ (if ((1:Int)==0)=true then _ else _) _ _ s
 rw[Quq (!1)]
 refine Qaq (tT pl (Qaq (tT e (Qaq (Qgq ?_)))))
 show wpAny _ _ (match Builtin.Slice.sliceAdjust lo hi 1 (n:Int) with|(lo,hi)=>pure (lo,(1:Int),Builtin.Slice.slicePlaces lo hi 1)) _ _ s
 rw[zV lo hi n]
 show wpAny _ _ (pure (((ef n 0 lo:Nat):Int),(1:Int),Builtin.Slice.slicePlaces ((ef n 0 lo:Nat):Int) ((ef n n hi:Nat):Int) 1)) _ _ s
 rw[Al]
 exact Qgq h
def El(xs:Xa)(i k:Nat):((List.range k).filterMap λ(m:Nat)=>xs[((i:Int)+(m:Int)*1).toNat]?).toArray=((xs.toList.drop i).take k).toArray:=by
 have e:(λ(m:Nat)=>xs[((i:Int)+(m:Int)*1).toNat]?)=λm=>xs[i+m]? :=by
  funext m
  have:((i:Int)+(m:Int)*1).toNat=i+m:=by omega
  rw[this]
 rw[e]
 have:=pick_run xs i k
 rw[List.filterMap_map] at this
 have a:((λx=>xs[x]?)∘λx=>i+x)=λm=>xs[i+m]? :=rfl
 rw[a] at this
 rw[this]
def n9{t sl:X8}{items:Xa}{g f:Xd}{lo hi:Xb}{Q:X0}(ht:IsTup s.heap t items)(i:s.heap.IsSliceOf sl g f .none)(pl:IsPart g lo)(o:IsPart f hi)
  (n:¬(ef items.size 0 lo=0/\ef items.size items.size hi=items.size))
  (h:Q (.ref s.heap.objs.size) {s with heap:=s.heap.push {cls:=.type "tuple",data:=.seq ((items.toList.drop (ef items.size 0 lo)).take (ef items.size items.size hi-ef items.size 0 lo)).toArray}})
  (l:items.size<=sizeLine):wpAny (model prog w) A (getItem (.ref t) (.ref sl)) Q E s:=by
 have a:sizeOk (.seq ((items.toList.drop (ef items.size 0 lo)).take (ef items.size items.size hi-ef items.size 0 lo)).toArray):=by
  show((items.toList.drop (ef items.size 0 lo)).take (ef items.size items.size hi-ef items.size 0 lo)).toArray.size<=sizeLine
  rw[Qjq,Qxq,List.length_drop,Array.length_toList]
  omega
 have r:ef items.size items.size hi<=items.size:=IM _ _ (Qmq _) hi
 let#[k,d,c,j]:=id i
 have e:s.TypeIs (.ref sl) "slice":=#[k,d,c]
 unfold getItem
 try with_reducible refine QLq ?_
 first|refine Qaq (Qgq ?_)|skip
 refine Qaq (wpAny_sequenceKey ht.typeIs (!1) ?_)
 refine Qaq (QiQ (name:=Str.ofString "__getitem__") ht.typeIs PyProof.Rows.slot_tuple_getitem
  (wpAny_call_entry PyProof.Rows.slot_tuple_getitem ht.typeIs entry_tuple_getitem ?_ (args_tuple_getitem _ _)))
 show wpAny _ _ (Builtin.Tuple.tupleItemsOf (.ref t) >>= _) _ _ s
 refine Qaq (tupleItemsOf_ ht ?_)
 refine Qaq (wpAny_typeOf e ?_)
 rw[Qhq (!1)]
 refine Qaq (jA i pl o ?_)
 have b:¬((((ef items.size 0 lo:Nat):Int)==0&&(1:Int)==1&&(ef items.size items.size hi-ef items.size 0 lo)==items.size)=true):=by
  intro q
  rw[QCq,QCq] at q
  have p:((ef items.size 0 lo:Nat):Int)=0:=eq_of_beq q.1.1
  have u:ef items.size items.size hi-ef items.size 0 lo=items.size:=eq_of_beq q.2
  exact n #[by omega,by omega]
 show wpAny _ _ (if (((ef items.size 0 lo:Nat):Int)==0&&(1:Int)==1&&(ef items.size items.size hi-ef items.size 0 lo)==items.size)=true then _ else _) _ _ s
 rw[Quq b,El]
 first
  |exact Qaq (m:=Builtin.Tuple.tupleExact _) (QhQ (Qgq #[_,L,Qgq h]) a)
  |exact Qaq (m:=Builtin.Tuple.tupleExact _) (QhQ (Qaq (Qgq (Qgq #[_,L,Qgq h]))) a)
  |exact Qaq (Qaq (m:=Builtin.Tuple.tupleExact _) (QhQ (Qgq (Qgq #[_,L,Qgq h])) a))
  |exact Qaq (Qaq (m:=Builtin.Tuple.tupleExact _) (QhQ (Qgq #[_,L,Qgq h]) a))
end
end HT
namespace L2
open PySem PySem.Spec PyProof.Rows
abbrev TO:=St->Hp->(Option Int->Hp->Prop)->Prop
def PO(X:Cx)(e:Option Expr)(t:TO):Prop:=
 ∀ (a:X2) (s:X4) (b:St) (H:Hp) (Q:Option Int->Hp->Prop),Inv X a b H s->t b H Q->
   wpAny (model X.prog X.w) X.A (evalPart e X.env) (λu d=>∃o c,Inv X a b c d/\IsPart u o/\Q o c) X.xe s
def GA:TO:=λ_ H Q=>Q none H
def KZ(t:TE):TO:=λa H Q=>t a H λx H1=>∃i,x=.int i/\Q (some i) H1
section
variable{X:Cx}{e:Expr}{te:TE}{lo hi:Option Expr}{tl th:TO}{pos p2:Pos}
def FY:PO X none GA:=by
 intro a s b H Q I h
 rw[evalPart_none]
 exact Qgq #[none,H,I,.none,h]
def Gd(h:PE X e te):PO X (some e) (KZ te):=by
 intro a s j H Q I b
 rw[evalPart_some]
 refine bZ (h a s j H _ I b) λu k g=>?_
 let#[x,H1,f,c,d]:=g
 let#[i,rfl,q]:=d
 let#[t,rfl]:=c
 exact#[some i,H1,f,.int i t,q]
def Mw(X:Cx)(r:V->Option Int->Option Int->Hp->VK->Prop):Prop:=
 ∀ (a:X2) (s:X4) (d:St) (H:Hp) (x:V) (v c b:Xd) (lo hi:Xb) (sl:X8) (Q:VK),Inv X a d H s->RelV x v->s.heap.IsSliceOf sl c b .none->IsPart c lo->IsPart b hi->r x lo hi H Q->
   ∃T id,typeLookup (.type T) "__getitem__"=pure (some (.builtin id))/\s.TypeIs v T/\wpAny (model X.prog X.w) X.A (getItem v (.ref sl)) (EP X a d Q) X.xe s
def N7(r:V->Option Int->Option Int->Hp->VK->Prop)(te:TE)(tl th:TO):TE:=λa H Q=>te a H λx H1=>tl a H1 λl H2=>th a H2 λu H3=>r x l u H3 Q
def yF{r:V->Option Int->Option Int->Hp->VK->Prop}(B:Mw X r)(he:PE X e te)(z:PO X lo tl)(J:PO X hi th):PE X (.Subscript e (.Slice lo hi none p2) pos) (N7 r te tl th):=by
 intro a s d H Q I h
 refine Subscript_ (bZ (he a s d H _ I h) λv K i=>?_)
 let#[x,H1,m,j,p]:=i
 refine wpAny_Slice (bZ (z a K d H1 _ m p) λg o ⟨l,H2,y,C,M⟩=>bZ (J a o d H2 _ y M) λf c i=>?_)
 let#[u,H3,n,F,t]:=i
 rw[evalPart_none]
 refine Qgq ?_
 have k:Inv X a d H3 {c with heap:=c.heap.push {cls:=.type "slice",data:=.fields (List.toArray [g,f,.none])}}:=n.kept (t':=c.toks) λb N q=>Qcq _ q
 let#[T,id,hT,ht,hg]:=B a {c with heap:=c.heap.push {cls:=.type "slice",data:=.fields (List.toArray [g,f,.none])}} d H3 x v g f l u c.heap.objs.size Q k j (Heap.IsSliceOf.new ..) C F t
 show wpAny (model X.prog X.w) X.A (subscriptTail e (.Slice lo hi none p2) v (.ref c.heap.objs.size)) (EP X a d Q) X.xe {c with heap:=c.heap.push {cls:=.type "slice",data:=.fields (List.toArray [g,f,.none])}}
 exact tail_any (ops:= [.ref c.heap.objs.size,v]) ht hT hg (by with_unfolding_all rfl)
def wb(xs:List V)(lo hi:Xb):List V:=(xs.drop (HT.ef xs.length 0 lo)).take (HT.ef xs.length xs.length hi-HT.ef xs.length 0 lo)
def qi(xs:List V)(lo hi:Xb):(wb xs lo hi).length<=xs.length:=by
 unfold wb
 rw[Qxq,List.length_drop]
 omega
def Nb(K:X1):V->Option Int->Option Int->Hp->VK->Prop:=λx lo hi H Q=>∃a b,x=.ref a/\iC K H a b∧
 ¬(HT.ef b.length 0 lo=0/\HT.ef b.length b.length hi=b.length)/\∀p,H p=none->Q (.ref p) (upd H p (.tup (wb b lo hi)))
def II:Mw X (Nb X.K):=by
 intro j s w H x v u p lo hi sl Q I m n k l h
 let#[a,d,rfl,hx,hw,q]:=h
 cases m
 let#[f,r,g,i]:=I.tuple hx
 have c:f.toArray.size=d.length:=by rw[Qjq];exact r.length.symm
 refine#["tuple",_,PyProof.Rows.slot_tuple_getitem.lookup,g.typeIs,?_]
 refine HT.n9 g n k l (by rw[c];exact hw) ?_ (by rw[c];exact i)
 rw[c]
 refine#[.ref s.heap.objs.size,_,I.laid (t':=s.toks) (o:=.tup (wb d lo hi)) (λb t q=>Qcq _ q) (Qmq _) ?_,L,q _ (I.hok.fresh (Qmq _))]
 exact#[QAq (qi d lo hi) i,_,(r.drop (HT.ef d.length 0 lo)).take (HT.ef d.length d.length hi-HT.ef d.length 0 lo),xj.new _ _]
def G3(K:X1):R2:=λx y H Q=>∃a b d c,x=.ref a/\y=.ref b/\iC K H a d/\iC K H b c/\d≠[]/\d.length+c.length<=sizeLine∧
 (c= []->Q (.ref a) H)/\(c≠[]->∀p,H p=none->Q (.ref p) (upd H p (.tup (d++c))))
def bt.nil_iff{xs:List V}{a:X5}(r:bt xs a):a= []↔xs= []:=by
 cases r with
 |nil=>simp
 |cons _ _=>simp
def FT:hJ X (binaryOp .Add) (G3 X.K):=by
 intro f s r H x y v u Q I l m h
 let#[a,b,k,n,rfl,rfl,ha,hb,hx,hz,q1,q2]:=h
 cases l
 cases m
 let#[i,d,j,_]:=I.tuple ha
 let#[g,c,p2,_]:=I.tuple hb
 refine HT.Ge j p2 (λz=>hx (d.nil_iff.mp z)) (λz=>#[.ref a,H,I,L,q1 (c.nil_iff.mp z)]) (λz=>?_) (by rw[<-d.length,<-c.length];exact hz)
 refine#[.ref s.heap.objs.size,_,I.laid (t':=s.toks) (o:=.tup (k++n)) (λb p q=>Qcq _ q) (Qmq _) ?_,L,q2 (λw=>z (c.nil_iff.mpr w)) _ (I.hok.fresh (Qmq _))]
 exact#[by rw[lQa];exact hz,_,d.append c,xj.new _ _]
end
def Ce(n:Nat)(i:Int):Option Nat:=if 0<=i then(if i<n then some i.toNat else none) else if -(n:Int)<=i then some (i+n).toNat else none
def oW{α:Type}(xs:List α)(i:Int):Option α:=(Ce xs.length i).bind λj=>xs[j]?
def rQ{n:Nat}{i:Int}{j:Nat}(h:Ce n i=some j):seqIndex? i n=some j/\j<n/\ -(n:Int)<=i/\i<n:=by
 unfold Ce at h
 by_cases b:0<=i
 ·rw[Qhq b] at h
  by_cases a:i<n
  ·rw[Qhq a] at h
   have e:i.toNat=j:=QdQ h
   exact#[by rw[seqIndex_of b a,e],by omega,by omega,a]
  ·rw[Quq a] at h;cases h
 ·rw[Quq b] at h
  by_cases a: -(n:Int)<=i
  ·rw[Qhq a] at h
   have e:(i+n).toNat=j:=QdQ h
   exact#[by rw[seqIndex_neg (!0) a,e],by omega,a,by omega]
  ·rw[Quq a] at h;cases h
def vY{α:Type}{xs:List α}{i:Int}{v:α}(h:oW xs i=some v):∃j,seqIndex? i xs.length=some j/\xs[j]?=some v/\j<xs.length/\ -(xs.length:Int)<=i/\i<xs.length:=by
 unfold oW at h
 cases e:Ce xs.length i with
 |none=>rw[e] at h;cases h
 | some j=>
   rw[e] at h
   let#[c,a,d,b]:=rQ e
   exact#[j,c,h,a,d,b]
def Bk(b:Expr):Prop:=∀o i,subscripted b false o i=operate [o,i] (getItem o i)
def Fj(X:Cx)(r:R2):Prop:=
 ∀ (c a:Expr) (b:X2) (s:X4) (d:St) (H:Hp) (x y:V) (v u:Xd) (Q:VK),Inv X b d H s->RelV x v->RelV y u->r x y H Q->
   subscripted a false v u=operate [v,u] (getItem v u)->wpAny (model X.prog X.w) X.A (subscriptTail c a v u) (EP X b d Q) X.xe s
def NT(X:Cx)(id:String)(r:V->List V->Hp->VK->Prop):Prop:=
 ∀ (a:X2) (s:X4) (d:St) (H:Hp) (x:V) (c:List V) (v:Xd) (b:X5) (Q:VK),Inv X a d H s->RelV x v->bt c b->r x c H Q->
   wpAny (model X.prog X.w) X.A (call (.builtin id) (v::b)) (EP X a d Q) X.xe s
section
variable{X:Cx}{a b:Expr}{ta tb:TE}{pos:Pos}
def Fj.or{r f:R2}(h:Fj X r)(h':Fj X f):Fj X (λx y H Q=>r x y H Q\/f x y H Q):=by
 intro d c e s k H x y v u Q I g j q i
 rcases q with q|q
 ·exact h d c e s k H x y v u Q I g j q i
 ·exact h' d c e s k H x y v u Q I g j q i
def Lm{r:R2}(g:Fj X r)(m:PE X a ta)(d:PE X b tb)(j:Bk b):PE X (.Subscript a b pos) (Ff r ta tb):=by
 intro c s l H Q I h
 exact Subscript_ (JR m d I h λv u e x y H2 f i k q=>g a b c e l H2 x y v u Q f i k q (j _ _))
def LL(K:X1):R2:=λx y H Q=>∃p c i v,x=.ref p/\y=.int i/\iD K H p c/\oW c i=some v/\Q v H
def Ko(K:X1):R2:=λx y H Q=>∃p c i v,x=.ref p/\y=.int i/\iC K H p c/\oW c i=some v/\Q v H
def Kx:R2:=λx y H Q=>∃z i c,x=.str z/\y=.int i/\z.length<=sizeLine/\oW z.cps.toList i=some c/\Q (.str #[(List.toArray [c])]) H
def FZ:Fj X (LL X.K):=by
 intro g f c s C H x y v u Q I R S h B
 let#[p,W,i,z,rfl,rfl,hq,he,q]:=h
 cases R
 let#[t,rfl]:=S
 let#[l,r,m,U]:=I.list hq
 let#[j,e,J,Y,M,N]:=vY he
 let#[w,A,k]:=r.get J
 let P:=r.length
 let Z:=kZ
 have d:EP X c C Q w s:=#[z,H,I,k,q]
 by_cases o:0<=i
 ·have n:i.toNat=j:=by
   rw[seqIndex_of o N] at e
   exact QdQ e
  exact item_listR m.isList o (!0) (by rw[n];simpa using A) d B
 ·have n:(i+(l.toArray.size:Int)).toNat=j:=by
   rw[seqIndex_neg (!0) M] at e
   rw[Qjq,<-P]
   exact QdQ e
  exact subscriptTail_builtinR (x:=w) m.isList.typeIs slot_list_getitem.lookup
   (wpAny_getItem_list_neg (Q:=λr F=>r=w/\EP X c C Q r F) m.isList (!0) (by rw[Qjq] <;>omega) (!0) (by rw[n];simpa using A) #[L,d]) B
def Jf:Fj X (Ko X.K):=by
 intro e d c s l H x y v u Q I F M h J
 let#[p,S,i,z,rfl,rfl,hq,he,q]:=h
 cases F
 let#[t,rfl]:=M
 let#[o,r,k,R]:=I.tuple hq
 let#[j,A,n,U,N,P]:=vY he
 let#[w,B,g]:=r.get n
 let C:=r.length
 let W:=kZ
 have f:EP X c l Q w s:=#[z,H,I,g,q]
 exact subscriptTail_builtinR (x:=w) k.typeIs slot_tuple_getitem.lookup
  (getItem_tuple (j:=j) (Q:=λr m=>r=w/\EP X c l Q r m) k (!0) (!0) (by rw[Qjq,<-C];exact A) (by simpa using B) #[L,f]) J
def I0:Fj X Kx:=by
 intro e d g s F H x y v u Q I p w h r
 let#[z,i,c,rfl,rfl,hz,he,q]:=h
 let#[t,rfl]:=p
 let#[B,rfl]:=w
 let#[j,f,k,C,l,m]:=vY he
 have o:z.cps.toList.length=z.length:=by simp[Str.length]
 rw[o] at f l m
 let J:=kZ
 exact tail_any (typeIs_str s z t) slot_str_getitem.lookup (getItem_str (c:=c) (by
  have A:decide (i< -(2^63:Int))=false:=Qdq (!0)
  have n:decide (i>=2^63)=false:=Qdq (!0)
  rw[A,n,Bool.or_false]) (by rw[f];simpa using k) #[.str #[(List.toArray [c])],H,I.tok _,#[_,L],q]) r
def NP(K:X1):R2:=λx y H Q=>LL K x y H Q\/Ko K x y H Q\/Kx x y H Q
def JM:Fj X (NP X.K):=FZ.or (Jf.or I0)
def zS(c:X5)(n j:Nat)(u:Xd):Obj.mapSeq (·.setIfInBounds j u) {cls:=.type "list",data:=.seq c.toArray n}={cls:=.type "list",data:=.seq (c.set j u).toArray n}:=by
 simp[Obj.mapSeq]
def Inv.lst{d:X2}{f:St}{H:Hp}{s:X4}{p:X8}{xs:List V}(I:Inv X d f H s)(h:H p=some (.lst xs)):
  ∃(c:X5) (n:Nat),bt xs c/\s.heap.get? p=some {cls:=.type "list",data:=.seq c.toArray n}/\xs.length<=sizeLine:=by
 let#[z,c,n,r,e]:=I.hok p _ h
 exact#[c,n,r,e,z]
def Inv.lstUpd{c:X2}{j:St}{H:Hp}{s:X4}{p:X8}{xs ys:List V}{d its':X5}{n g:Nat}{f:Obj->Obj}(I:Inv X c j H s)(h:H p=some (.lst xs))
  (m:s.heap.get? p=some {cls:=.type "list",data:=.seq d.toArray n}) (i:f {cls:=.type "list",data:=.seq d.toArray n}={cls:=.type "list",data:=.seq its'.toArray g}) (r:bt ys its') (l:ys.length<=sizeLine) (t:Nat):
  Inv X c j (upd H p (.lst ys)) {s with heap:=s.heap.update p f,toks:=t}:=by
 have e:(s.heap.update p f).get? p=some {cls:=.type "list",data:=.seq its'.toArray g}:=by
  rw[Heap.get?_update_self f m (by rw[i] <;>rfl),i]
 refine I.write (x:=p) (e:=p) (by rw[h];trivial) (.inl L) (λb u k q=>(Heap.get?_update_other _ _ (Ne.symm k)).trans q) #[_,e] ?_
 exact#[l,its',g,r,e]
def GZ:V->V->V->Hp->(Hp->Prop)->Prop:=λo i v H Q=>∃p c k j,o=.ref p/\i=.int k/\H p=some (.lst c)/\Ce c.length k=some j/\Q (upd H p (.lst (c.set j v)))
def set_list:LU X GZ:=by
 intro d s F H o i v M P u Q I z J A h
 let#[p,C,k,j,rfl,rfl,hp,hj,q]:=h
 cases z
 let#[t,rfl]:=J
 let#[c,n,r,g,B]:=I.lst hp
 let#[e,K,y,w]:=rQ hj
 let l:=r.length
 let N:=kZ
 have x:Inv X d F (upd H p (.lst (C.set j v))) {s with heap:=s.heap.update p (Obj.mapSeq (·.setIfInBounds j u))}:=
  I.lstUpd hp g (zS c n j u) (r.set A j) (by rw[List.length_set];exact B) s.toks
 by_cases m:0<=k
 ·have f:k.toNat=j:=by
   rw[seqIndex_of m w] at e
   exact QdQ e
  exact PySem.W.ki_setAt g m (!0) (by rw[Qjq,<-l];exact w) (by rw[f];exact#[_,x,q])
 ·have f:(k+(c.toArray.size:Int)).toNat=j:=by
   rw[seqIndex_neg (!0) y] at e
   rw[Qjq,<-l]
   exact QdQ e
  exact PySem.W.ki_setBack g (!0) (by rw[Qjq,<-l];exact y) (!0) (by rw[f];exact#[_,x,q])
def wU(lo hi:Xb)(n:Nat):(sliceBounds lo hi none n).1=((HT.ef n 0 lo:Nat):Int)/\(sliceBounds lo hi none n).2.1=((HT.ef n n hi:Nat):Int)/\(sliceBounds lo hi none n).2.2=1:=by
 refine#[?_,?_,L]
 ·cases lo with
  |none=>simp[sliceBounds,HT.ef]
  | some i=>
    erw[sliceBounds,HT.ef,Option.getD_none,show(1:Int)>0 by decide,if_true]
    by_cases h:i<0
    · erw[h,if_true] <;>omega
    · erw[h,if_false] <;>omega
 ·cases hi with
  |none=>simp[sliceBounds,HT.ef]
  | some i=>
    erw[sliceBounds,HT.ef,Option.getD_none,show(1:Int)>0 by decide,if_true]
    by_cases h:i<0
    · erw[h,if_true] <;>omega
    · erw[h,if_false] <;>omega
def uj(c:X5)(lo hi:Xb):slicePick c.toArray lo hi none=((c.drop (HT.ef c.length 0 lo)).take (HT.ef c.length c.length hi-HT.ef c.length 0 lo)).toArray:=by
 let#[e,d,f]:=wU lo hi c.toArray.size
 unfold slicePick
 rw[e,d,f]
 erw[sliceRange_one,pick_run,Qjq] <;>rfl
def MV(K:X1):V->Option Int->Option Int->Hp->VK->Prop:=λx d e H Q=>∃a c,x=.ref a/\iD K H a c/\∀p,H p=none->Q (.ref p) (upd H p (.lst (wb c d e)))
def Fw:Mw X (MV X.K):=by
 intro i s y H x v w t e f sl Q I n p l m h
 let#[a,c,rfl,hx,q]:=h
 cases n
 let#[j,r,g,k]:=I.list hx
 let d:=r.length
 refine#["list",_,slot_list_getitem.lookup,g.isList.typeIs,?_]
 refine wpAny_getItem_list_slice g.isList p l m .none (by simp) ?_ (by rw[Qjq] <;>omega)
 rw[uj,<-d]
 refine#[.ref s.heap.objs.size,_,I.laid (t':=s.toks) (o:=.lst (wb c e f)) (λb u q=>Qcq _ q) (Qmq _) ?_,L,q _ (I.hok.fresh (Qmq _))]
 exact#[QAq (qi c e f) k,_,0,(r.drop (HT.ef c.length 0 e)).take (HT.ef c.length c.length f-HT.ef c.length 0 e),Qrq _ L]
def iR:V->Bool
 |.non=>true
 |.bl _=>true
 |.int _=>true
 |.str _=>true
 |_=>false
def x9:V->V->Bool
 |.non,.non=>true
 |.bl a,.bl b=>a==b
 |.bl a,.int b=>(if a then 1 else 0)==b
 |.int a,.bl b=>a==(if b then 1 else 0)
 |.int a,.int b=>a==b
 |.str a,.str b=>a==b
 |_,_=>false
def D3{A:X_}{s:X4}{y x:V}{u v:Xd}(f:RelV y u)(c:RelV x v)(g:iR y=true)(e:iR x=true):SeqAt.EqAt A s u v (x9 y x):=by
 cases y with
 | non=>
   cases f
   cases x with
   |non=>cases c;exact SeqAt.EqAt.same _
   |bl b=>cases c;exact SeqAt.EqAt.none_bool b
   |int b=>let#[t,rfl]:=c;exact SeqAt.EqAt.none_int b t
   |str b=>let#[t,rfl]:=c;exact SeqAt.EqAt.none_str b t
   |_=>exact absurd (show false=true from e) Qtq
 | bl a=>
   cases f
   cases x with
   |non=>cases c;exact SeqAt.EqAt.bool_none a
   |bl b=>cases c;exact SeqAt.EqAt.bool_bool a b
   |int b=>let#[t,rfl]:=c;exact SeqAt.EqAt.bool_int a b t
   |str b=>let#[t,rfl]:=c;exact SeqAt.EqAt.bool_str a b t
   |_=>exact absurd (show false=true from e) Qtq
 | int a=>
   let#[d,rfl]:=f
   cases x with
   |non=>cases c;exact SeqAt.EqAt.int_none a d
   |bl b=>cases c;exact SeqAt.EqAt.int_bool a d b
   |int b=>let#[t,rfl]:=c;exact SeqAt.EqAt.int_int a d b t
   |str b=>let#[t,rfl]:=c;exact SeqAt.EqAt.int_str a d b t
   |_=>exact absurd (show false=true from e) Qtq
 | str a=>
   let#[d,rfl]:=f
   cases x with
   |non=>cases c;exact SeqAt.EqAt.str_none a d
   |bl b=>cases c;exact SeqAt.EqAt.str_bool a d b
   |int b=>let#[t,rfl]:=c;exact SeqAt.EqAt.str_int a d b t
   |str b=>let#[t,rfl]:=c;exact SeqAt.EqAt.str_str a d b t
   |_=>exact absurd (show false=true from e) Qtq
 |_=>exact absurd (show false=true from g) Qtq
def An(x:V)(u:Xd):Bool:=match u with
 |.none=>x9 .non x
 |.bool b=>x9 (.bl b) x
 |.int i _=>x9 (.int i) x
 |.str z _=>x9 (.str z) x
 |_=>false
def DE{x y:V}{u:Xd}(r:RelV y u)(f:iR y=true):An x u=x9 y x:=by
 cases y with
 |non=>cases r;rfl
 |bl b=>cases r;rfl
 |int i=>let#[t,rfl]:=r;rfl
 |str z=>let#[t,rfl]:=r;rfl
 |_=>exact absurd (show false=true from f) Qtq
theorem n_{x:V}:∀{xs:List V} {c:X5},bt xs c->xs.all iR=true->c.any (An x)=xs.any λy=>x9 y x
 |_,_,.nil,_=>rfl
 | y::xs,u::c,.cons r t,f=>by
   rw[List.all_cons,QCq] at f
   rw[List.any_cons,List.any_cons,DE r f.1,n_ t f.2]
theorem kN{A:X_}{s:X4}{x:V}{v:Xd}(g:RelV x v)(e:iR x=true):∀{xs:List V} {d:X5},bt xs d->xs.all iR=true->∀u∈d,SeqAt.EqAt A s u v (An x u)
 |_,_,.nil,_=>λu c=>by cases c
 | y::xs,u::d,.cons r t,f=>λh c=>by
   rw[List.all_cons,QCq] at f
   rcases Qsq.mp c with rfl|c
   · rw[DE r f.1];exact D3 r g f.1 e
   · exact kN g e t f.2 h c
def G_(x:V)(xs:List V):Bool:=xs.any λy=>x9 y x
def My(K:X1)(d:Bool):R2:=λx y H Q=>∃p c,y=.ref p/\(iD K H p c\/iC K H p c)/\iR x=true/\c.all iR=true/\Q (.bl (if d then !G_ x c else G_ x c)) H
def vF:hJ X (compareOp .In) (My X.K false):=by
 intro g s m H x y v u Q I i k h
 let#[p,l,rfl,d,fx,fs,q]:=h
 cases k
 rcases d with d|d
 ·let#[c,r,f,j]:=I.list d
  refine SeqAt.in_listAt (An x) f.isList (λw e=>kN i fx r fs w (by simpa using e)) #[.bl _,H,I,L,?_]
  rw[show c.toArray.any (An x)=c.any (An x) by simp,n_ r fs]
  exact q
 ·let#[c,r,f,j]:=I.tuple d
  refine SeqAt.in_tupleAt (An x) f (λw e=>kN i fx r fs w (by simpa using e)) #[.bl _,H,I,L,?_]
  rw[show c.toArray.any (An x)=c.any (An x) by simp,n_ r fs]
  exact q
def vS:hJ X (compareOp .NotIn) (My X.K true):=by
 intro g s m H x y v u Q I i k h
 let#[p,l,rfl,d,fx,fs,q]:=h
 cases k
 rcases d with d|d
 ·let#[c,r,f,j]:=I.list d
  refine SeqAt.notIn_listAt (An x) f.isList (λw e=>kN i fx r fs w (by simpa using e)) #[.bl _,H,I,L,?_]
  rw[show c.toArray.any (An x)=c.any (An x) by simp,n_ r fs]
  exact q
 ·let#[c,r,f,j]:=I.tuple d
  refine SeqAt.notIn_tupleAt (An x) f (λw e=>kN i fx r fs w (by simpa using e)) #[.bl _,H,I,L,?_]
  rw[show c.toArray.any (An x)=c.any (An x) by simp,n_ r fs]
  exact q
def nU:ff X (.builtin "len") (λxs H Q=>∃p ys,xs= [.ref p]/\(iD X.K H p ys\/iC X.K H p ys)/\Q (.int ys.length) H):=by
 intro i s k H xs m Q I r h
 let#[p,ys,rfl,d,q]:=h
 let#[u,rfl,rx]:=vals1 r
 cases rx
 let l:=kZ
 rcases d with d|d
 ·let#[f,e,g,j]:=I.list d
  let c:=e.length
  exact Calls.call_len_list g.isList (by erw[Qjq] <;>omega) #[.int ys.length,H,I.tok _,#[s.toks+1,by rw[Qjq,c]],q]
 ·let#[f,e,g,j]:=I.tuple d
  let c:=e.length
  exact len_tuple g (by erw[Qjq] <;>omega) #[.int ys.length,H,I.tok _,#[s.toks+1,by rw[Qjq,c]],q]
def wy:ff X (.builtin "len") (λxs H Q=>∃z,xs= [.str z]/\z.length<=sizeLine/\Q (.int z.length) H):=by
 intro c s e H xs d Q I r h
 let#[z,rfl,hz,q]:=h
 let#[u,rfl,t,rfl]:=vals1 r
 let f:=kZ
 exact len_str (!0) #[.int z.length,H,I.tok _,#[_,L],q]
def ff.or{f:Xd}{r e:List V->Hp->VK->Prop}(h:ff X f r)(h':ff X f e):ff X f (λxs H Q=>r xs H Q\/e xs H Q):=by
 intro c s i H xs g Q I d q
 rcases q with q|q
 ·exact h c s i H xs g Q I d q
 ·exact h' c s i H xs g Q I d q
def xp:ff X (.type "list") (λxs H Q=>∃p ys,xs= [.ref p]/\(iD X.K H p ys\/iC X.K H p ys)/\∀l,H l=none->Q (.ref l) (upd H l (.lst ys))):=by
 intro v s C H xs F Q I r h
 let#[p,ys,rfl,k,q]:=h
 let#[u,rfl,rx]:=vals1 r
 cases rx
 have j:∀(c:X5),bt ys c->ys.length<=sizeLine->∀(d:Xe) (g:Nat),(∀b B,s.heap.get? b=some B->d.get? b=some B)->
   d.get? s.heap.objs.size=some {cls:=.type "list",dict:=none,data:=.seq c.toArray g,slots:= (List.toArray [])}->EP X v C Q (.ref s.heap.objs.size) {s with heap:=d}:=λc f t d g i e=>
  #[.ref s.heap.objs.size,_,I.laid (t':=s.toks) i (Qmq _) (show cJ X.prog X.w _ d _ (.lst ys) from#[t,c,g,f,e]),L,q _ (I.hok.fresh (Qmq _))]
 rcases k with k|k
 ·let#[c,f,z,t]:=I.list k
  let m:=f.length
  let#[o,y,A,n,x]:=z.isList
  exact call_list_seq p (.inl L) y A x (λd g i e=>j c f t d g i e) (by erw[Qjq] <;>omega)
 ·let#[c,f,z,t]:=I.tuple k
  let m:=f.length
  let#[o,y,A,n,x]:=z
  exact call_list_seq p (.inr L) y A x (λd g i e=>j c f t d g i e) (by erw[Qjq] <;>omega)
def uL:ff X (.type "tuple") (λxs H Q=>∃p ys,xs= [.ref p]/\((iD X.K H p ys/\∀l,H l=none->Q (.ref l) (upd H l (.tup ys)))\/(iC X.K H p ys/\Q (.ref p) H))):=by
 intro c s t H xs y Q I r h
 let#[p,ys,rfl,h]:=h
 let#[u,rfl,rx]:=vals1 r
 cases rx
 rcases h with⟨i,q⟩|⟨i,q⟩
 ·let#[d,g,j,n]:=I.list i
  let m:=g.length
  refine call_tuple_list j.isList (λf v=>?_) (by erw[Qjq] <;>omega)
  have k:Inv X c t H {s with heap:=f}:=I.kept (t':=s.toks) v
  have x:Inv X c t (upd H f.objs.size (.tup ys)) {s with heap:=f.push {cls:=.type "tuple",data:=.seq d.toArray}}:=
   k.laid (t':=s.toks) (λb o e=>Qcq _ e) (Qmq _) (show cJ X.prog X.w _ _ _ (.tup ys) from#[n,d,g,xj.new _ _])
  exact#[.ref f.objs.size,_,x,L,q _ (k.hok.fresh (Qmq _))]
 ·let#[d,g,j,n]:=I.tuple i
  exact call_tuple_same j #[.ref p,H,I,L,q]
def NR(K:X1)(T:String)(x:V)(H:Hp):Prop:=match x with
 |.str _=>T="str"
 |.int _=>T="int"
 |.ref p=>(T="list" /\∃d,iD K H p d)\/(T="tuple" /\∃o,K.lookup p=some o/\o.cls=.type "tuple" /\o.dict=none)∨
   (T="dict" /\((∃c,H p=some (.dK c))\/∃c,H p=some (.dT c)))\/(T="set" /\∃S n,H p=some (.set S n))
 |_=>False
def IB{g:X2}{w:St}{H:Hp}{s:X4}{T:String}{x:V}{v:Xd}(I:Inv X g w H s)(r:RelV x v)(h:NR X.K T x H):
  s.TypeIs v T/\∀a,v=.ref a->∃m,s.heap.get? a=some m/\m.dict=none:=by
 cases x with
 | str z=>
   let#[t,rfl]:=r
   cases (show T="str" from h)
   exact#[typeIs_str s z t,λ_ e=>nomatch e]
 | int i=>
   let#[t,rfl]:=r
   cases (show T="int" from h)
   exact#[typeIs_int s i t,λ_ e=>nomatch e]
 | ref p=>
   cases r
   rcases h with⟨rfl,xs,hq⟩|⟨rfl,o,d,hc,j⟩|⟨rfl,d⟩|⟨rfl,S,n,d⟩
   · let#[u,_,q,_]:=I.list hq
     refine#[q.isList.typeIs,λa e=>?_]
     cases e
     let#[o,n,e,c,j,_]:=q
     exact#[o,e,j]
   · refine#[#[o,I.kIn p o d,hc],λa e=>?_]
     cases e
     exact#[o,I.kIn _ o d,j]
   · have z:∃o,s.heap.get? p=some o/\o.ExactDict:=by
       rcases d with⟨k,d⟩|⟨k,d⟩
       · let#[_,_,_,_,o,_,_,e,f,_]:=I.hok p _ d
         exact#[o,e,f]
       · let#[_,_,_,_,o,_,_,e,f,_]:=I.hok p _ d
         exact#[o,e,f]
     let#[o,e,f]:=z
     refine#[#[o,e,f.1],λa l=>?_]
     cases l
     exact#[o,e,f.2.1]
   · let#[o,_,_,_,e,f,_]:=I.hok p _ d
     refine#[#[o,e,f.1],λa l=>?_]
     cases l
     exact#[o,e,f.2.1]
 |_=>exact False.elim h
def MM(K:X1)(T:String)(r:V->List V->Hp->VK->Prop)(d:TE)(t:TA):TE:=λc H Q=>d c H λx H1=>NR K T x H1/\t c H1 λe H2=>r x e H2 Q
variable{o e:Expr}{es:List Expr}{to:TE}{t:TA}{name:Str}{apos cpos:Pos}{T id:String}{r:V->List V->Hp->VK->Prop}
def y0(S:PlainAttrs T)(slot:Slot T name id)(j:typeOf (.builtin id)=pure (.type "method_descriptor"))(N:NT X id r)(A:PE X o to)(R:PA X (e::es) t)
  (f:autoParam (attributeBase o name X.env (eval o X.env)=eval o X.env) af._auto_1)
  (i:autoParam (((backTo cpos (starEach (e::es) X.env)).all (λx=> !x.1)&&(backToKw cpos (keywordEach [] X.env)).all (λx=>x.1.isSome)
   &&decide ((e::es).length+([]:List Keyword).length+(if ([]:List Keyword).isEmpty then 0 else 1)<30))=true) af._auto_1)
  (g:autoParam ((apos.endLine==cpos.line)=true) af._auto_1) (C:autoParam (starEach (e::es) X.env=(false,eval e X.env)::starEach es X.env) af._auto_1) (d:autoParam ((backTo cpos (starEach es X.env)).any (·.1)=false) af._auto_1):
  PE X (.Call (.Attribute o name apos) (e::es) [] cpos) (MM X.K T r to t):=by
 intro c s k H Q I h
 refine wpAny_Call_method_late f i g L (bZ (A c s k H _ I h) λv B F=>?_)
 let#[x,H1,m,l,J,w]:=F
 let#[y,p]:=IB m l J
 refine#[T,id,S,slot,j,y,p,?_]
 let n:=R cpos c B k H1 _ m w
 rw[C] at n|-
 refine Calls.callWith_builtin (by show(false||(backTo cpos (starEach es X.env)).any (·.1))=false;rw[d] <;>rfl) (Calls.evalArgs_plain ?_)
 exact bZ n λP u ⟨q,H2,z,M,U⟩=>N c u k H2 x q v P Q z l M U
end
def MF(X:Cx)(id:String)(r:V->List V->Hp->VK->Prop):Prop:=
 ∀ (a:X2) (s:X4) (d:St) (H:Hp) (x:V) (c:List V) (v:Xd) (b:X5) (Q:VK),Inv X a d H s->RelV x v->bt c b->r x c H Q->
   wpAny (model X.prog X.w) X.A (call (.builtin id) (v::b)) (EP X a d Q) X.xe s
def bt.one:∀{x:V} {a:X5},bt [x] a->∃u,a= [u]/\RelV x u
 |_,_,.cons r .nil=>#[_,L,r]
def bt.two:∀{x y:V} {a:X5},bt [x,y] a->∃u v,a= [u,v]/\RelV x u/\RelV y v
 |_,_,_,.cons r (.cons q .nil)=>#[_,_,L,r,q]
theorem bt.eraseIdx:∀{xs:List V} {a:X5} (i:Nat),bt xs a->bt (xs.eraseIdx i) (a.eraseIdx i)
 |_,_,_,.nil=>.nil
 |_,_,0,.cons _ t=>t
 |_,_,i+1,.cons r t=>.cons r (bt.eraseIdx i t)
theorem bt.rep{xs:List V}{a:X5}(h:bt xs a):∀k:Nat,bt (List.replicate k xs).flatten (List.replicate k a).flatten
 |0=>.nil
 | k+1=>by
   rw[QNq,QNq,List.flatten_cons,List.flatten_cons]
   exact bt.append h (bt.rep h k)
theorem u7{α:Type}:∀(l:List α) (i:Nat),(l.eraseIdx i).length<=l.length
 | [],_=>Qmq _
 |_::_,0=>Nat.le_succ _
 |_::r,i+1=>Nat.succ_le_succ (u7 r i)
theorem foldl_rep(a:X5):∀(k:Nat) (b:X5),
  List.foldl (λd f=>d++f) b.toArray (List.replicate k a.toArray)=(b++(List.replicate k a).flatten).toArray
 |0,b=>by simp
 | k+1,b=>by
   have e:b.toArray++a.toArray=(b++a).toArray:=by simp
   have c:(b++a)++(List.replicate k a).flatten=b++(List.replicate (k+1) a).flatten:=by
     rw[QNq,List.flatten_cons,Qvq]
   rw[<-c,<-foldl_rep a k (b++a),<-e,QNq,List.foldl_cons]
section
variable{X:Cx}{pins:X2}{σ:St}{H:Hp}{s:X4}{l b:X8}{xs ys zs:List V}
def Inv.lset{a its':X5}{n:Nat}{f:Array Value->Array Value}{t':Nat}(I:Inv X pins σ H s)(d:H l=some (.lst xs))
  (e:s.heap.get? l=some {cls:=.type "list",data:=.seq a.toArray n}) (c:f a.toArray=its'.toArray) (hv:bt ys its') (i:ys.length<=sizeLine):
  Inv X pins σ (upd H l (.lst ys)) {s with heap:=s.heap.update l (Obj.mapSeq f),toks:=t'}:=by
 let q:=PySem.IsL.update e f
 rw[c] at q
 refine I.write (x:=l) (e:=l) (by rw[d];exact trivial) (.inl L) (λj u h g=>(Heap.get?_update_other s.heap (Obj.mapSeq f) (Ne.symm h)).trans g) #[_,q] ?_
 exact#[i,its',_,hv,q]
def Inv.lnew{a:X5}{t':Nat}(I:Inv X pins σ H s)(hv:bt ys a)(c:ys.length<=sizeLine):
  Inv X pins σ (upd H s.heap.objs.size (.lst ys)) {s with heap:=s.heap.push {cls:=.type "list",data:=.seq a.toArray},toks:=t'}:=
 I.laid (λ_ _ q=>Qcq _ q) (Qmq _) #[c,a,0,hv,Qrq _ L]
def Inv.fresh(I:Inv X pins σ H s):H s.heap.objs.size=none:=I.hok.fresh (Qmq _)
def Inv.lstM(I:Inv X pins σ H s)(c:H l=some (.lst xs)):xs.length<=sizeLine/\∃(a:X5) (n:Nat),bt xs a/\xs.length=a.length/\s.heap.get? l=some {cls:=.type "list",data:=.seq a.toArray n}:=by
 let#[z,a,n,r,e]:=I.hok l _ c
 exact#[z,a,n,r,r.length,e]
def yX{n:Nat}(h:n<=sizeLine):Builtin.List.listTooLong n=false:=by
 unfold Builtin.List.listTooLong
 exact Qdq (!0)
end
section
variable{X:Cx}
def Bj:V->List V->Hp->VK->Prop:=λx b H Q=>∃l a y,x=.ref l/\b= [y]/\H l=some (.lst a)/\a.length<sizeLine/\Q .non (upd H l (.lst (a++ [y])))
def lK:MF X "list.append" Bj:=by
 intro b s j H x f v k Q I d c h
 let#[l,i,y,rfl,rfl,hH,hz,q]:=h
 cases d
 let#[u,rfl,ru]:=c.one
 let#[z,a,n,r,g,e]:=I.lstM hH
 refine call_meets F.slot_list_append #[_,e,L] F.entry_list_append (F.args_list_append_2 _ _) (PySem.list_append l a.toArray n u (by rw[Qjq];omega)) #[e,?_]
 refine#[.non,_,I.lset (its':=a++ [u]) hH e (by simp) (r.append (.cons ru .nil)) ?_,L,q]
 rw[lQa,List.length_singleton]
 omega
def BI:V->List V->Hp->VK->Prop:=λx d H Q=>∃l b a c,x=.ref l/\d= [.ref b]/\H l=some (.lst a)/\H b=some (.lst c)/\a.length+c.length<=sizeLine/\Q .non (upd H l (.lst (a++c)))
def B5:MF X "list.extend" BI:=by
 intro g s C H x y v J Q I m j h
 let#[l,b,B,t,rfl,rfl,hH,hB,hz,q]:=h
 cases m
 let#[u,rfl,ru]:=j.one
 cases ru
 let#[z,c,n,r,A,e]:=I.lstM hH
 let#[w,a,p,o,i,k]:=I.lstM hB
 have f:c.toArray.size+a.toArray.size<=sizeLine:=by rw[Qjq,Qjq];omega
 have d:¬(!c.toArray.isEmpty&&Builtin.List.listTooLong (c.toArray.size+a.toArray.size))=true:=by
  rw[yX f,Bool.and_false]
  exact Qtq
 refine call_meets F.slot_list_extend #[_,e,L] F.entry_list_extend (F.args_list_extend_2 _ _)
  (AutoSeq1.list_extend_list_list_0 l c.toArray n b a.toArray p d (by rw[Qjq];omega) (!0)) #[e,k,?_]
 refine#[.non,_,I.lset (its':=c++a) hH e (by simp) (r.append o) ?_,L,q]
 rw[lQa]
 omega
def Em:V->List V->Hp->VK->Prop:=λx b H Q=>∃l a i k y,x=.ref l/\b= [.int i]/\H l=some (.lst a)/\ -(2^63)<=i/\i<2^63/\seqIndex? i a.length=some k/\a[k]?=some y/\Q y (upd H l (.lst (a.eraseIdx k)))
def DM:MF X "list.pop" Em:=by
 intro c s p H x o v A Q I m d h
 let#[l,j,i,k,y,rfl,rfl,hH,h1,h2,hk,hy,q]:=h
 cases m
 let#[u,rfl,ru]:=d.one
 let#[t,rfl]:=ru
 let#[z,a,n,r,g,e]:=I.lstM hH
 let#[w,f,b]:=r.get hy
 refine call_meets F.slot_list_pop #[_,e,L] F.entry_list_pop (F.args_list_pop_2 _ _)
  (MeetsSeq.list_pop_at l a.toArray n i t k w (fitsIndex_both h1 h2) (by rw[Qjq,<-g];exact hk) (by rw[<-Array.getElem?_toList];exact f) (by rw[Qjq];omega)) #[e,?_]
 refine#[y,_,I.lset (its':=a.eraseIdx k) hH e ?_ (r.eraseIdx k) ?_,b,q]
 ·show a.toArray.eraseIdxIfInBounds k=(a.eraseIdx k).toArray
  rw[List.eraseIdxIfInBounds_toArray]
 ·have:=u7 j k
  omega
def Nc:R2:=λx y H Q=>∃l b a c,x=.ref l/\y=.ref b/\H l=some (.lst a)/\H b=some (.lst c)/\a.length+c.length<=sizeLine/\∀p,H p=none->Q (.ref p) (upd H p (.lst (a++c)))
def IZ:hJ X (binaryOp .Add) Nc:=by
 intro d s A H x y v u Q I i j h
 let#[l,b,w,o,rfl,rfl,hH,hB,hz,q]:=h
 cases i
 cases j
 let#[z,c,n,r,t,e]:=I.lstM hH
 let#[p,a,B,k,f,g]:=I.lstM hB
 refine PySem.P.add_list e g ?_ (by rw[Qjq,Qjq];omega)
 have m:c.toArray++a.toArray=(c++a).toArray:=by simp
 rw[m]
 exact#[.ref _,_,I.lnew (t':=s.toks) (r.append k) (by rw[lQa];omega),L,q _ I.fresh]
def MO:R2:=λx y H Q=>∃l k a,x=.ref l/\y=.int k/\H l=some (.lst a)/\ -(2^63)<=k/\k<2^63/\a.length*k.toNat<=sizeLine∧
 ∀p,H p=none->Q (.ref p) (upd H p (.lst (List.replicate k.toNat a).flatten))
def len_rep{α:Type}(xs:List α)(k:Nat):(List.replicate k xs).flatten.length=k*xs.length:=by
 induction k with
 |zero=>simp
 |succ k a=>rw[QNq,List.flatten_cons,lQa,a,Nat.succ_mul,Nat.add_comm]
def Im:hJ X (binaryOp .Mult) MO:=by
 intro p s N H x y v u Q I C J h
 let#[l,k,M,rfl,rfl,hH,h1,h2,hz,q]:=h
 cases C
 let#[t,rfl]:=J
 let#[z,b,n,r,B,e]:=I.lstM hH
 have f:b.toArray.size*k.toNat<=sizeLine:=by rw[Qjq,<-B];exact hz
 have d:¬b.toArray.size*k.toNat>(2^63-1)/8:=by
  have:(sizeLine:Nat)<=(2^63-1)/8:=by decide
  omega
 have i:¬(!Builtin.List.listFitsIndex k)=true:=by
  rw[fitsIndex_both h1 h2]
  exact Qtq
 have c:¬Builtin.List.listTooLong (b.toArray.size*k.toNat)=true:=by
  rw[yX f]
  exact Qtq
 have g:List.foldl (λo j=>o++j) (List.toArray []) (List.replicate (if b.toArray.isEmpty=true then 0 else k.toNat) b.toArray)=(List.replicate k.toNat b).flatten.toArray:=by
  have A:∀m:Nat,List.foldl (λo j=>o++j) (List.toArray []) (List.replicate m b.toArray)=(List.replicate m b).flatten.toArray:=λm=>by
   have:=foldl_rep b m []
   rw[List.nil_append] at this
   exact this
  rw[A]
  cases b with
  |nil=>simp
  |cons a K=>rw[Quq (by simp)]
 refine wpAny_binaryOp_repeat_ref (T:="list") (U:="int") (!1) #[_,e,L] (λw=>typeIs_int w k t) noFill_list_mul F.fills_int_mul F.slot_int_rmul repeat_list F.slot_int_index.lookup
  (call_meets F.slot_int_rmul (typeIs_int s k t) F.entry_int_rmul (F.args_int_rmul_2 _ _) (int___rmul___int_list k t l b.toArray n)
   #[e,L,#[_,e,L],call_meets F.slot_list_mul #[_,e,L] F.entry_list_mul (F.args_list_mul_2 _ _) (AutoListH.list___mul___list_int_3 l b.toArray n k t i d c) #[e,?_]])
 rw[g]
 exact#[.ref _,_,I.lnew (t':=s.toks) (r.rep k.toNat) (by rw[len_rep,Nat.mul_comm];exact hz),L,q _ I.fresh]
end
end L2
namespace Att
open PySem PySem.W PySem.Calls PyProof.Rows
def rq{P:Params}{h:Xe}:∀(ns:List Int) (vs:X5),WellAll P h vs (ns.map WData.int)->IntsAre vs ns:=by
 intro ns
 induction ns with
 | nil=>
   intro vs w
   rw[List.map_nil] at w
   cases w
   exact .nil
 | cons n ns c=>
   intro vs w
   rw[QDq] at w
   cases w with
   | cons a b=>
     cases a
     exact .cons _ _ (c _ b)
def CT{l:OpenLaw}{n:Nat}(p:l.most=some n){P:Params}{h:Xe}{args:List WData}{b:X5}
  (c:l.row.toRowW.claim.pre args=true) (j:WellAll P h b args):
  ∃a vs ns,b= [Value.ref a]/\args= [WData.list (ns.map WData.int)]/\h.get? a=some {cls:=.type "list",data:=.seq vs.toArray}/\IntsAre vs ns/\ns.length<=n:=by
 have Mn:WShape.hasAll [] args [.list .int]=true:=(pre_splitW c).1
 have k:l.pre.holds [] {args:=args}=true:=(pre_splitW c).2
 let#[d,r,rfl,h1,h2]:=hasAllW_cons Mn
 obtain rfl:=hasAllW_nil h2
 let#[u,rfl,h3]:=hasW_list h1
 let#[ns,rfl]:=items_int h3
 have e:ns.length<=n:=by
  unfold OpenLaw.pre at k
  have g:(WTm.not (.lt (.lit (.int (n:Int))) (.len (.arg 0)))).holds [] {args:= [.list (ns.map .int)]}=true:=by
   let g:=(holds_andW k).1
   rw[p] at g
   exact g
  let i:=condW_of g (w_not (w_lt w_lit (w_len_list (w_arg L))))
  rw[lQm] at i
  refine Nat.le_of_not_lt λq=>?_
  have t:(n:Int)<((ns.length:Nat):Int):=by omega
  first
   |(rw[Qeq t] at i;exact absurd i (!1))
   |(simp at i;omega)
 cases j with
 | cons m s=>
   cases s
   cases m with
   |list o f=>exact#[_,_,ns,L,L,o,rq ns _ f,e]
def Cw(l:OpenLaw)(args:List WData):l.row.toRowW.claim.post args (.bool true) args=true:=
 postW_of (r:=l.row.toRowW) (X:=(true==true))
  (show WShape.has [] (.bool true) .bool=true by first|rfl|decide|simp[WShape.has,WShape.arms,WShape.armsAll])
  (show(WTm.eq .res (.lit (.bool true))).value [] {args:=args,res:=some (.bool true),after:=args}=some (.bool (true==true)) from w_eq_bool (w_res L) w_lit) L
def yj{l:OpenLaw}{n:Nat}{q:X9}{c:X6}{B:(Str->Option Value)->Heap->Prop}{A:World->Heap->Prop}{d:DefRec}
  (K:l.most=some n) (s:d.params.defaults= [])
  (g:∀(w:Xc) (s₀ b:X4) (mg t:X3) (h:X8) (o:Obj) (m k e:Xd) (a:X8) (vs:X5) (ns:List Int),
   Ground q c [] B w s₀ mg t b.heap->A w b.heap->
   b.heap.get? h=some o->o.data=.func (docDef d.name d.params d.body d.scope m k e)->b.heap.CodeRec k d.name->mg d.name=some (.ref h)->
   b.heap.get? a=some {cls:=.type "list",data:=.seq vs.toArray}->IntsAre vs ns->ns.length<=n->b.gens= (List.toArray [])->
   codeAny (model l.prog w) callerA (.call (.ref h) #[[.ref a],[]]) (λr j=>r=.ok (.ret (.bool true))/\OldK b.heap j.heap/\j.os=b.os/\AllBare j.gens) b):
  WalkO q c B A l.row.toRowW d [] (λf vs=>PySem.call f vs):=by
 intro w s₀ b mg t G Y h o m k e P kV J F v z u H x y R i C Q p N
 obtain rfl:P=.none:=Dflts.none z s
 obtain rfl:kV=.none:=Dflts.noKw z
 let#[a,vs,ns,rfl,rfl,hobj,hints,hlen]:=CT K i p
 refine enter_call (codeAny_mono (g w s₀ b mg t h o m k e a vs ns G Y J (fd_plain F) v u hobj hints hlen H) λr j I=>?_)
 let#[rfl,h2,h3,h4]:=I
 exact#[.inl #[.bool true,.bool true,[],L,λ_=>rfl,.bool true,Cw l _,λ_=>#[List.Pairwise.nil,λ_ M=>(nomatch M)]],h2,h3,h4]
end Att
namespace L2
open PySem PySem.Spec PyProof.Rows
theorem uU:∀{vs:X5} {ns:List Int},IntsAre vs ns->bt (ns.map V.int) vs
 |_,_,.nil=>.nil
 |_,_,.cons n t h=>.cons #[t,L] (uU h)
def Gz(H:Hp):Prop:=∀b,H b=none\/∃o a,H b=some (.frz o (.lst a))
def Eh{P:X9}{w:Xc}{K:X1}{mg Y:X3}{CX:Df}{k:Nat}{fa a:X8}{fd:FuncData}{x:Str}{sp:Sp}{c:X4}{vs:X5}{ns:List Int}
  (KX:K.In c.heap) (N:c.heap.Ns mainGlobals mg) (g:c.heap.Ns builtinsNs Y) (S:∀x:Str,x≠"__name__" ->Y x=bootBuiltins x) (Q:c.heap.NoLimit) (hg:c.gens= (List.toArray []))
  (R:c.heap.get? a=some {cls:=.type "list",data:=.seq vs.toArray}) (hi:IntsAre vs ns) (hl:ns.length<=sizeLine) (hr:ed k callerA)
  (F:∀base:Heap,K.In base->base.Ns mainGlobals mg->bP P w K mg base CX k fa fd [x] sp) (p:∀(s:X4) (u:Xd),BindsTo s fd #[[u],[]] [(x,u)])
  (a0:∀H:Hp,Gz H->iD K H a (ns.map V.int)->sp [.ref a] H (λv _=>v=.bl true) λ_ _ _=>False)
  (Z:∀H e i,CX [] H c (λ_ _ _=>False) e i->False):
  codeAny (model P w) callerA (.call (.ref fa) #[[.ref a],[]]) (λr i=>r=.ok (.ret (.bool true))/\OldK c.heap i.heap/\i.os=c.os/\AllBare i.gens) c:=by
 let rv:=uU hi
 let I:=hi.length
 have l:∀H:Hp,Gz H->iD K H a (ns.map V.int)->og P w H c.heap->(∀b,H b≠none->b=a)->(H a≠none->K.lookup a=none)->
   codeAny (model P w) callerA (.call (.ref fa) #[[.ref a],[]]) (λr i=>r=.ok (.ret (.bool true))/\OldK c.heap i.heap/\i.os=c.os/\AllBare i.gens) c:=by
  intro H hO hS y hA hK
  have f:∀{b:X8} {o:Obj},c.heap.get? b=some o->H b=none->(wF c.heap H).get? b=some o:=λe n=>D9 e n
  have U:∀{b:X8} {o:Obj} {C:Array DictEntry} {J:Nat},c.heap.get? b=some o->o.data=.dict C J->H b=none:=λ{b o C J} e d=>by
   cases q:H b with
   |none=>rfl
   | some u=>
     have e':b=a:=hA b (by rw[q];simp)
     subst e'
     rw[R] at e;cases e
     have d':Data.seq vs.toArray _=Data.dict C J:=d
     cases d'
  have j:∀{b:X8} {m:X3},c.heap.Ns b m->(wF c.heap H).Ns b m:=λ{b m} ⟨o,C,J,e,d,r⟩=>#[o,C,J,f e (U e d),d,r]
  have A:K.In (wF c.heap H):=λb o e=>f (KX b o e) (by
   cases q:H b with
   |none=>rfl
   | some u=>
     have e':b=a:=hA b (by rw[q];simp)
     subst e'
     rw[hK (by rw[q];simp)] at e;cases e)
  have hM:Mod K mg (wF c.heap H):=#[A,j N,#[Y,j g,S],let ⟨mc,h1,h2⟩:=Q;#[mc,j h1,h2]]
  have e0:FU P w K mg (wF c.heap H) callerA [] c H:=#[L,hM,λb o e=>GT e,Nat.le_of_eq (BK _ _),trivial,λb g=>absurd (show b∈([]:List Addr) from g) (by simp),y,.of_eq hg]
  refine codeAny_mono ((F _ A (j N)).run callerA [] c H #[[.ref a],[]] [.ref a] [.ref a] _ _ hr e0 (p c (.ref a)) (.cons L .nil) (a0 H hO hS)) λr i h=>?_
  cases r with
  |error e=>exact(Z H e i h).elim
  | ok fl=>
    cases fl with
    |next=>exact False.elim h
    |brk=>exact False.elim h
    |cont=>exact False.elim h
    | ret u=>
      let#[v,H',os,t,un,M,r',q]:=h
      have q':v=.bl true:=q
      subst q'
      obtain rfl:u=Value.bool true:=r'
      refine#[L,OldK.of_keep λb o e=>?_,os,t]
      cases q:H b with
      |none=>exact un.keep b o e q (by intro z;exact absurd (show b∈([]:List Addr) from z) (by simp)) (by simp)
      | some u=>
        rcases hO b with z|⟨ob,xs,z⟩
        · rw[q] at z;cases z
        · have z2:=un.frzs b ob _ z
          let#[e1,_]:=y b _ z
          let#[e2,_]:=M b _ z2
          rw[e] at e1;cases e1
          exact e2
 cases X:K.lookup a with
 | some o=>
   let e:=KX a o X
   rw[R] at e
   cases e
   refine l (λ_=>none) (λ_=>.inl L) (.inr #[_,vs.toArray,_,X,L,L,L,by rw[Qjq,I];exact hl,by simpa using rv]) (λb u z=>by have B:(none:Option HO)=some u:=z;cases B) (λb z=>absurd L z) λz=>absurd L z
 | none=>
   refine l (λb=>if b=a then some (.frz {cls:=.type "list",data:=.seq vs.toArray} (.lst (ns.map V.int))) else none) (λb=>?_) (.inl (.inr #[{cls:=.type "list",data:=.seq vs.toArray},Qhq L])) (λb u z=>?_) (λb z=>?_) λ_=>X
   · by_cases g:b=a
     · exact .inr #[_,_,Qhq g]
     · exact .inl (Quq g)
   · by_cases g:b=a
     · have B:=(Qhq g).symm.trans z
       cases B
       subst g
       exact#[R,by rw[lQm];exact hl,vs,_,rv,R]
     · have B:=(Quq g).symm.trans z
       cases B
   · by_cases g:b=a
     · exact g
     · exact absurd (Quq g) z
def GK{l:PySem.W.OpenLaw}{n k:Nat}{q:X9}{i:X6}{R:(Str->Option Value)->Heap->Prop}{N:World->Heap->Prop}{d:DefRec}{K:Params->PySem.W.Frag}{CX:World->Df}{sp:World->Sp}{x:Str}
  (hn:l.most=some n) (B:n<=sizeLine) (z:d.params.defaults= []) (Z:ed k callerA)
  (X:∀(w:Xc) (h:Xe),N w h->(K w.params).In h)
  (F:∀(w:Xc) (mg:X3) (r:X8) (h:Xe),(K w.params).In h->h.Ns mainGlobals mg->mg d.name=some (.ref r)->
   ∃ y:FuncData,(∀(s:X4) (u:Xd),BindsTo s y #[[u],[]] [(x,u)])∧
     ∀base:Heap,(K w.params).In base->base.Ns mainGlobals mg->bP l.prog w (K w.params) mg base (CX w) k r y [x] (sp w))
  (I:∀(w:Xc) (H:Hp) (a:X8) (ns:List Int),ns.length<=n->Gz H->iD (K w.params) H a (ns.map V.int)->sp w [.ref a] H (λv _=>v=.bl true) λ_ _ _=>False)
  (A:∀(w:Xc) (H:Hp) (s:X4) (e:Xd) (t:X4),CX w [] H s (λ_ _ _=>False) e t->False):
  PySem.W.WalkO q i R N l.row.toRowW d [] (λf vs=>PySem.call f vs):=by
 refine Att.yj hn z λw M p mg mb r o pm cd a0 a vs ns G Y ho hd a1 C m j c Q=>?_
 let J:=X w _ Y
 let#[y,P,U]:=F w mg r _ J G.T.g C
 exact Eh J G.T.g G.T.b G.T.builtins G.T.nolimit Q m j (QAq c B) Z U P (λH S hS=>I w H a ns c S hS) λH e t=>A w H p e t
def gN(s:Stmt):Arguments:=match s with
 |.FunctionDef _ a _ _ _ _ _ _ _ _=>a
 |_=>{posonlyargs:= [],args:= [],vararg:=none,kwonlyargs:= [],kw_defaults:= [],kwarg:=none,defaults:= []}
def eQ(s:Stmt):List Stmt:=match s with
 |.FunctionDef _ _ b _ _ _ _ _ _ _=>b
 |_=> []
def aD(s:Stmt):Scope:=match s with
 |.FunctionDef _ _ _ _ _ _ a _ _ _=>a
 |_=>{kind:=.function,names:= [],isGenerator:=false,isCoroutine:=false}
abbrev eH:Df:=λ_ _ _ _ _ _=>False
abbrev E0:XK:=λ_ _ _=>False
def Hb{X:Cx}:Ag eH X E0:=λ_ _ _ _ _ _ _ h=>h.elim
structure fI(K:X1)(x qual:Str)(st:Stmt)(f:X8)(fd:FuncData):Prop where
 ex:∃(oc:Xd) (od:Option Addr) (kV doc pm:Xd) (an:Option Addr) (cdv ct:Xd) (osl:Array (Option Value)),
  fd=PySem.W.fnOf x qual (gN st) (eQ st) (aD st) .none kV doc pm an cdv ct/\K.lookup f=some #[oc,od,.func fd,osl]/\PySem.W.codeIn K cdv qual=true
 kp:PySem.W.keepIn K (.ref f)=true
section
variable{P:X9}{w:Xc}{K:X1}{mg:X3}{base:Xe}
def fI.ok{x a:Str}{st:Stmt}{f:X8}{e:FuncData}{N ps:X6}{k:Nat}{sp:Sp}(F:fI K x a st f e)(S:aM N ps (aD st))(len:∀vs H Q E,sp vs H Q E->vs.length=ps.length)
  (c:∀(b:Xd) (A:X_) (outer:List Env) (s:X4) (H:Hp) (vs:List V) (Q:VK) (E:XK),ed k (A.deeper (envOfC a (aD st) s.heap.objs.size f b))->sp vs H Q E->
   ∃t,rA (yB eH P w K mg base N a (aD st) f b A outer s H E).nox (eQ st) t/\t {nx:=λ_ j=>Q .non j,rt:=Q} (start N vs) H):bP P w K mg base eH (k+1) f e ps sp:=by
 let#[n,p,kV,i,m,o,b,r,l,rfl,lk,hcd]:=F.ex
 refine Kn lk hcd S len λA outer s H vs Q E g d=>?_
 let#[t,h,q]:=c b A outer s H vs Q E g d
 exact#[t,h.nox,q]
def fI.binds{x a:Str}{st:Stmt}{f:X8}{i:FuncData}{ps:X6}(F:fI K x a st f i)
  (h:∀(kV c e:Xd) (d:Option Addr) (b ct:Xd) (g:X5),g.length=ps.length->bindArgs (PySem.W.fnOf x a (gN st) (eQ st) (aD st) .none kV c e d b ct) #[g,[]]=pure (ps.zip g)):Binds K i ps []:=by
 let#[l,k,kV,c,e,d,b,ct,j,rfl,lk,hcd]:=F.ex
 exact .all (h kV c e d b ct)
def Ap{x a:Str}{st:Stmt}{f:X8}{i:Xd}{od g:Option Addr}{e:Array (Option Value)}{kV d h b ct:Xd}(l:K.lookup f=some #[i,od,.func (PySem.W.fnOf x a (gN st) (eQ st) (aD st) .none kV d h g b ct),e])
  (c:PySem.W.codeIn K b a=true) (k:PySem.W.keepIn K (.ref f)=true):fI K x a st f (PySem.W.fnOf x a (gN st) (eQ st) (aD st) .none kV d h g b ct):=#[#[i,od,kV,d,h,g,b,ct,e,L,l,c],k]
end
def Bb{A:X_}{k:Nat}(a:ed k A):A.units+1<cLine:=Nat.lt_of_le_of_lt (Nat.add_le_add_left (by decide:1<=64) _) a.units
def vA{n:Nat}(h:n<=1000):n<sizeLine:=Nat.lt_of_le_of_lt h (!1)
section
variable{X:Cx}
def pv(i:Nat){x:Str}{pos:Pos}(c:autoParam (X.N[i]?=some x) af._auto_1)(hv:autoParam (HU X.env.scope x) ai._auto_1)(b:autoParam ((x==("__debug__":Str))=false) ac._auto_1)
  (a:autoParam ((x==("__classdict__":Str))=false) ac._auto_1):PE X (.Name x pos) (JP i):=IK c hv b a
end
section
variable{prog:X9}{w:Xc}{A:X_}{s:X4}
def oP{o a l:Expr}{t:List Expr}{e:Scope}{pos:Pos}{it p:Xd}{env:Env}{R:Result->Shared->Prop}(I:Nat->Shared->Prop)
  (B:∀n s,I n s->wpAny (model prog w) A (pyNext it) (λr f=>match r with
   |none=>R (.ok .next) f
   |some v=>wpAny (model prog w) A (letOwnedTupleGo a it v) (λ_ b=>wpAny (model prog w) A (assign a env v) (λ_ k=>
     wpAny (model prog w) A (forIn t true λc r=>if r=true then do let ok<-isTrue c env (eval c env);pure (ForInStep.yield ok) else pure (ForInStep.yield r)) (λok s₃=>
      if ok=true then wpAny (model prog w) A (eval o env) (λx i=>
       wpAny (model prog w) A (call (.builtin "list.append") [p,x]) (λ_ j=>∃m,m<n/\I m j) (λ_ _=>False) i) (λ_ _=>False) s₃
      else∃m,m<n/\I m s₃) (λ_ _=>False) k) (λ_ _=>False) b) (λ_ _=>False) f) (λ_ _=>False) s)
  (n:Nat) (h:I n s):codeAny (model prog w) A (.compLoop (.ListComp o [#[a,l,t,0]] e pos) 0 it p env) R s:=by
 refine codeAny_loop L I (λn s C=>?_) n h
 show wpAny _ A ((compTurn (.ListComp o [#[a,l,t,0]] e pos) 0 it p env).onRaise (λx=>do noteFrame x env;theTreesLotGoes x)) _ _ s
 refine wpAny_noted ?_
 rw[compTurn_list]
 refine Qaq (wpAny_standAt (Qaq (QRq (B n s C) (λr f g=>?_) λ_ _ d=>d.elim)))
 cases r with
 |none=>exact Qgq g
 | some v=>
   refine Qaq (QRq g (λ_ b q=>?_) λ_ _ d=>d.elim)
   refine Qaq (QRq q (λ_ k y=>Qaq (QRq y (λok s₃ h₃=>?_) λ_ _ d=>d.elim)) λ_ _ d=>d.elim)
   cases ok with
   |false=>exact Qgq #[L,h₃]
   | true=>
     exact Qaq (Qaq (QRq h₃ (λx i u=>Qaq (QRq u (λ_ j z=>Qgq (Qgq #[L,z])) λ_ _ d=>d.elim)) λ_ _ d=>d.elim))
end
def aP(X:Cx)(N:X6)(a:Scope)(b:List (Str×Addr))(C:X8)(s:X4)(H:Hp)(fp:X7):Cx where
 prog:=X.prog
 w:=X.w
 K:=X.K
 mg:=X.mg
 base:=X.base
 A:=X.A
 N:=N
 s₀:=s
 H₀:=H
 env:=compEnvC a b C X.env
 outer:=X.stack
 stack:=X.stack
 ex:=fp
 fn:=λ_=>false
 calm:=X.calm
 pn:= []
 xe:=λ_ _=>False
def kh(js:List (Option Nat))(a:St):St:=js.map λo=>o.bind λj=>a.getD j none
structure aK(X:Cx)(N:X6)(js:List (Option Nat))(scope:Scope)(cl:List (Str×Addr)):Prop where
 kind:scope.kind=.function
 nocell:∀y∈scope.names,y.2≠.cell
 names:∀y∈scope.names,y.2=.local->scope.names.lookup y.1=some .local
 clos:closureFor scope X.env=pure cl
 sub:∀x c,cl.lookup x=some c->X.env.cells.lookup x=some c
 has:∀x,((relabel scope X.env).names.lookup x=some .cell\/(relabel scope X.env).names.lookup x=some .free)->∃c,cl.lookup x=some c
 cap:∀(k j:Nat) (x:Str),js[k]?=some (some j)->N[k]?=some x->X.N[j]?=some x/\(X.env.kindOf x=some .cell\/X.env.kindOf x=some .free)/\((relabel scope X.env).names.lookup x=some .cell\/(relabel scope X.env).names.lookup x=some .free)
 len:js.length=N.length
def nE(X:Cx)(d:List Expr)(t:TT):Prop:=
 ∀ (a:X2) (s:X4) (b:St) (H:Hp) (Q:Bool->Hp->Prop),Inv X a b H s->t b H Q->
   wpAny (model X.prog X.w) X.A (forIn d true λc r=>if r=true then do let ok<-isTrue c X.env (eval c X.env);pure (ForInStep.yield ok) else pure (ForInStep.yield r)) (TP X a b Q) X.xe s
def IV{X:Cx}:nE X [] (λ_ H Q=>Q true H):=λ_ _ _ H _ I h=>wpAny_tests_nil #[H,I,h]
def HG{X:Cx}{c:Expr}{t:TT}(b:PT X c t):nE X [c] t:=λa s d H Q I h=>
 wpAny_tests_one (bZ (b a s d H Q I h) λok s' h'=>h')
def KU(J:It)(g:TG)(l:TT)(k:TE)(Q:VK)(D:X8)(n:St)(H:Hp):Prop:=
 ∃ W:Nat->Nat->St->Hp->Prop,(∃m,W 0 m n H)/\∀i m d e,W i m d e->
   (J.stop i e/\Q (.ref D) e)\/(J.go i e/\∃f:St->Hp->Prop,(∀b c,f b c->∃j,j<m/\W (i+1) j b c)∧
     ∀ x H2,J.yld i e x H2->g x d H2 λa H3=>l a H3 λok H4=>
       if ok=true then k a H4 λy H5=>∃h,H5 D=some (.lst h)/\h.length<sizeLine/\f a (upd H5 D (.lst (h++ [y]))) else f a H4)
def E8(js:List (Option Nat))(b:TI)(g:TG)(d:TT)(c:TE):TE:=λa H Q=>b a H λJ H1=>∀D,H1 D=none->KU J g d c Q D (kh js a) (upd H1 D (.lst []))
def F5{X:Cx}{N:X6}{js:List (Option Nat)}{a:Scope}{Y:List (Str×Addr)}{tg U b3:Expr}{b7:List Expr}{pos:Pos}{wi:TI}{g:TG}{tt:TT}{te:TE}
  (S:aK X N js a Y) (hc:X.calm=true) (hi:PI X tg U wi)
  (hg:∀C s H fp,PG (aP X N a Y C s H fp) tg g) (ht:∀C s H fp,nE (aP X N a Y C s H fp) b7 tt) (he:∀C s H fp,PE (aP X N a Y C s H fp) b3 te)
  (hs:autoParam (∀x,foldedSetIterable U X.env x=pure x) ag._auto_1):PE X (.ListComp b3 [⟨tg,U,b7,0⟩] a pos) (E8 js wi g tt te):=by
 intro b1 s σ H Q I h
 rw[eval_ListComp]
 refine wpAny_comprehension_free (use:=none) L hs S.clos S.kind S.names (bZ (hi b1 s σ H _ I h) λv s1 h1=>bZ h1 λd5 f h2=>?_)
 let#[it,fp,tn,J,H2,e,B,T,b5,f2,hD]:=h2
 subst e
 refine QhQ (wpAny_newFunctionEnv S.nocell (by intro y hy;simp at hy) (λP K t=>?_) S.kind)
 dsimp only at K t|-
 generalize b4:f.heap.push {cls:=.type "list",dict:=none,data:=.seq ([]:List Value).toArray}=P2 at K t|-
 have hC:P2.objs.size=f.heap.objs.size+1:=by rw[<-b4,Heap.size_push]
 have c9:f.heap.objs.size≠P2.objs.size:=by rw[hC];exact Qwq (Nat.lt_succ_self _)
 have a6:f.heap.objs.size<=P2.objs.size:=by rw[hC];exact Nat.le_succ _
 have F:∀b,b<f.heap.objs.size->b≠P2.objs.size:=λb k=>by rw[hC];exact Qwq (Nat.lt_succ_of_lt k)
 have Z:∀b o,f.heap.get? b=some o->P.get? b=some o:=λb o e=>t.extBut b o (F b (Qiq e)) (Qcq _ (b4▸Qcq _ e))
 have c8:P.get? f.heap.objs.size=some {cls:=.type "list",dict:=none,data:=.seq ([]:List Value).toArray}:=t.extBut _ _ c9 (Qcq _ (b4▸Qrq _ L))
 have nD:H2 f.heap.objs.size=none:=B.fresh
 have nC:H2 P2.objs.size=none:=B.hok.fresh a6
 have b6:∀b∈fp,b<f.heap.objs.size:=λb k=>by
  let#[o,e,_]:=T.obj _ _ b5 b k
  exact Qiq e
 let#[W,#[m0,w0],d1]:=hD f.heap.objs.size nD
 have b8:(aP X N a Y P2.objs.size f H2 fp).Ok:=by
  refine⟨B.ok.mod,S.kind,B.ok.glob,B.ok.blt,a6,λx y c h1 h2=>B.ok.inj x y c (S.sub x c h1) (S.sub y c h2),S.has,(λx c h=>by cases h),B.ok.hd,B.ok.frames,.inl L,
   λb k=>#[F b (b6 b k),λx c h=>(f2 b k).2.2.2.2.1 x c (S.sub x c h)],B.bs,QAq B.ok.bsz B.sz,λb o e k=>?_,λb k z=>?_,B.stack,B.stkFree⟩
  ·rcases(f2 b k).2.2.2.1 with z|z
   ·exact B.ok.noex b o e z
   ·exact absurd (Qqq (Qqq (Qiq e) B.ok.bsz) z) (Nat.lt_irrefl _)
  ·rcases Qsq.mp (B.stkSub b z) with q|q
   ·exact(f2 b k).2.1 q
   ·exact(f2 b k).2.2.1 q
 have c7:cJ X.prog X.w (upd H2 f.heap.objs.size (.lst [])) P f.heap.objs.size (.lst []):=#[Nat.zero_le _,[],0,.nil,c8]
 have I4:Inv (aP X N a Y P2.objs.size f H2 fp) [] (kh js σ) (upd H2 f.heap.objs.size (.lst [])) {f with heap:=P,toks:=f.toks+([]:List (Str×Value)).length}:=by
  refine#[b8,L,B.bare,Un.laid Z (Qmq _) nD,#[_,K,λi x v h1 h2 h3=>?_],λx c h=>?_,by show upd H2 _ _ P2.objs.size=none;rw[a7 c9.symm];exact nC,λx c h=>?_,λp hp=>absurd (show p∈([]:List (Addr×Obj)) from hp) (by simp),B.hok.laid Z (Qmq _) c7,by show(kh js σ).length=N.length;unfold kh;rw[lQm];exact S.len]
  ·unfold kh at h2
   rw[gQm] at h2
   cases e:js[i]? with
   |none=>rw[e] at h2;cases h2
   | some o=>
     rw[e] at h2
     cases o with
     |none=>cases h2
     | some j=>
       have a2:σ.getD j none=some v:=QdQ h2
       have hj:σ[j]?=some (some v):=by
         rw[Qlq] at a2
         cases q:σ[j]? with
         |none=>rw[q] at a2;cases a2
         |some y=>rw[q] at a2;exact congrArg some a2
       let#[c1,c2,c3]:=S.cap i j x e h1
       let#[m,hn,hl]:=B.loc
       have d3:HU X.env.scope x:=by
         rcases c2 with z|z
         · exact .inr (.inl z)
         · exact .inr (.inr z)
       let#[u,r,l]:=hl j x v c1 hj d3
       refine#[u,r,.inr #[c3,?_]]
       let#[c,c5]:=S.has x c3
       refine#[c,c5,?_]
       rcases l with⟨z,_⟩|⟨_,c',e',z⟩
       · rcases c2 with y|y <;>rw[y] at z <;>cases z
       · rw[S.sub x c c5] at e'
         cases e'
         let#[o,ho,hd]:=z
         exact#[o,Z _ _ ho,hd]
  ·let#[v,o,ho,hd]:=B.cell x c (S.sub x c h)
   exact#[v,o,Z _ _ ho,hd]
  ·let#[v,o,ho,hd]:=B.cell x c (S.sub x c h)
   rw[a7 (Qwq (Qiq ho))]
   exact B.freeC x c (S.sub x c h)
 have a0:∀{R:X2} {H':Hp},R= []->(∀b∈fp,H' b=none)->∀b∈fp,oJ (aP X N a Y P2.objs.size f H2 fp) R H' b:=λ{R H'} ep hn b k=>by
  subst ep
  refine#[hn b k,F b (b6 b k),λz=>b8.exfs b k z,.inl k,λx c h=>(f2 b k).2.2.2.2.1 x c (S.sub x c h),λp hp=>absurd (show p∈([]:List (Addr×Obj)) from hp) (by simp)]
 have b0:codeAny (model X.prog X.w) X.A (.compLoop (.ListComp b3 [⟨tg,U,b7,0⟩] a pos) 0 (.ref it) (.ref f.heap.objs.size) (compEnvC a Y P2.objs.size X.env))
   (compPost (model X.prog X.w) X.A X.xe none (EP X b1 σ Q) (.ref f.heap.objs.size) P2.objs.size) {f with heap:=P,toks:=f.toks+([]:List (Str×Value)).length}:=by
  refine oP (λn s'=>∃i a3 H',Inv (aP X N a Y P2.objs.size f H2 fp) [] a3 H' s'/\tn i s'.heap/\(∀b∈fp,H' b=none)/\W i n a3 H') ?_ m0
   #[0,_,_,I4,T.keep _ _ _ b5 λb _ o e=>Z b o e,λb k=>by rw[a7 (Qwq (b6 b k))];exact(f2 b k).1,w0]
  rintro n s3 ⟨i,a4,H3,I3,c4,c6,w3⟩
  rcases d1 i n a4 H3 w3 with⟨stop,q⟩|⟨go,Nx,hN,b9⟩
  ·refine bZ (T.done (aP X N a Y P2.objs.size f H2 fp) L L L hc i [] s3 a4 H3 _ I3 (a0 L c6) c4 stop) λr s4 qr=>?_
   let#[hr,I5]:=qr
   subst hr
   let#[m,hn,_]:=id I5.loc
   refine#[m,hn,λh' a5=>#[.ref f.heap.objs.size,H3,?_,L,q]]
   let u:=I5.base
   have ne:∀b o,f.heap.get? b=some o->b≠P2.objs.size:=λb o e=>F b (Qiq e)
   refine B.call' (ch:=fp) I5.os #[λb o e n k hx=>(a5.2 b (ne b o e)).trans (u.keep b o e n k hx),λb o e n k hx=>?_,u.free,λb o e hx=>?_,u.tups,u.frzs,u.tbls] (λb ob e=>?_) I5.bare λb k=>#[(f2 b k).2.2.2.1,(f2 b k).2.1,(f2 b k).2.2.2.2.1,(f2 b k).2.2.2.2.2]
   ·let#[sl,e1]:=u.slot b o e n k hx
    exact#[sl,(a5.2 b (ne b o e)).trans e1]
   ·let#[o',e1]:=u.there b o e hx
    exact#[o',(a5.2 b (ne b o e)).trans e1]
   ·refine(I5.hok b ob e).stay (λc w' hc q=>(a5.2 c ?_).trans q) (λ_ q=>q) λ_ _ q=>q
    have fC:H3 P2.objs.size=none:=I5.free
    rintro rfl
    rcases hc with z|z
    ·rw[<-z,fC] at e;cases e
    ·rw[fC] at z;cases z
  ·refine bZ (T.item (aP X N a Y P2.objs.size f H2 fp) L L L hc i [] s3 a4 H3 _ I3 (a0 L c6) c4 go) λr s4 qr=>?_
   let#[u,hr,h4]:=qr
   subst hr
   refine bZ h4 λ_ s5 qr=>?_
   let#[x,H5,I5,r5,y5,b2,d2]:=qr
   let d4:=I5.pinned (a0 L d2) (T.obj _ _ b2)
   refine bZ (hg P2.objs.size f H2 fp _ s5 a4 H5 x u _ d4 r5 (b9 x H5 y5)) λ_ s6 qr=>?_
   let#[M,H6,I6,q6]:=qr
   refine bZ (ht P2.objs.size f H2 fp _ s6 M H6 _ I6 q6) λok s7 qr=>?_
   let#[H7,I7,q7]:=qr
   have a1:∀{s8:X4} {H8:Hp},Inv (aP X N a Y P2.objs.size f H2 fp) ([]++gH fp s5.heap) M H8 s8->Nx M H8->∃m,m<n/\∃i a3 H',Inv (aP X N a Y P2.objs.size f H2 fp) [] a3 H' s8/\tn i s8.heap/\(∀b∈fp,H' b=none)/\W i m a3 H':=λ{s8 H8} I8 n8=>by
    let#[m',hm,w8]:=hN M H8 n8
    refine#[m',hm,i+1,M,H8,I8.unpinned,T.keep _ _ _ b2 λb k o e=>(I8.pin (b,o) (Qoq _ (Qoq _ (cv k e)))).1,λb k=>?_,w8]
    let#[o,e,d]:=T.obj _ _ b2 b k
    exact(I8.pin (b,o) (Qoq _ (Qoq _ (cv k e)))).2.1
   cases ok with
   |false=>exact a1 I7 q7
   | true=>
     refine bZ (he P2.objs.size f H2 fp _ s7 M H7 _ I7 q7) λyv s8 qr=>?_
     let#[y,H8,I8,ry,xs,hx,hl,n8]:=qr
     refine bZ (lK (X:=aP X N a Y P2.objs.size f H2 fp) _ s8 M H8 (.ref f.heap.objs.size) [y] (.ref f.heap.objs.size) [yv] (λ_ H'=>Nx M H') I8 L (.cons ry .nil) #[_,xs,y,L,L,hx,hl,n8]) λ_ s9 qr=>?_
     let#[z,H9,I9,_,q9]:=qr
     exact a1 I9 q9
 exact codeAny_compStart_list b0 (T.self _ 0 _ _ _ (T.keep _ _ _ b5 λb _ o e=>Z b o e) b0)
section
variable{X:Cx}
def Dj:ff X (.builtin "isinstance") (λxs H Q=>∃x T t b,xs= [x,.ty T]/\qc X.K H x t/\PySem.W.kitOne X.K t (.type T)=some b/\Q (.bl b) H):=by
 intro a s g H xs f Q I r h
 let#[x,T,t,b,rfl,ty,e,q]:=h
 let#[u,c,rfl,rx,rt]:=vals2 r
 cases (show c=Value.type T from rt)
 exact Cb I rx ty e λd=>#[.bl b,H,I.tok d,L,q]
def Hj:List V->List V->Bool
 | [],[]=>true
 |x::xs,y::ys=>x9 x y&&Hj xs ys
 |_,_=>false
theorem AF:∀{xs ys:List V},xs.length≠ys.length->Hj xs ys=false
 | [],[],h=>absurd L h
 | [],_::_,_=>rfl
 |_::_,[],_=>rfl
 | x::xs,y::ys,h=>by
   have:=AF (xs:=xs) (ys:=ys) λe=>h (by simp[e])
   show(x9 x y&&Hj xs ys)=false
   rw[this,Bool.and_false]
theorem Bw:∀{xs ys:List V},xs.length=ys.length->(List.range xs.length).all (λj=>x9 (xs.getD j .non) (ys.getD j .non))=Hj xs ys
 | [],[],_=>rfl
 | [],_::_,h=>by cases h
 |_::_,[],h=>by cases h
 | x::xs,y::ys,h=>by
   let a:=Bw (xs:=xs) (ys:=ys) (Nat.succ.inj h)
   rw[Qnq,List.range_succ_eq_map,List.all_cons,List.all_map]
   show(x9 x y&&_)=(x9 x y&&Hj xs ys)
   rw[<-a]
   rfl
def JX{A:X_}{s:X4}{xs ys:List V}{a vs:X5}(r:bt xs a)(d:bt ys vs)(f:xs.all iR=true)(m:ys.all iR=true)(j:Nat)(i:j<a.toArray.size)(g:j<vs.toArray.size):
  SeqAt.EqAt A s a.toArray[j] vs.toArray[j] (x9 (xs.getD j .non) (ys.getD j .non)):=by
 let p:=r.length
 let q:=d.length
 have c:j<xs.length:=by rw[p];simpa using i
 have b:j<ys.length:=by rw[q];simpa using g
 let#[u,n,h]:=r.get (gQe c)
 let#[v,l,w]:=d.get (gQe b)
 have k:xs.getD j .non=xs[j]:=by rw[Qlq,gQe c];rfl
 have e:ys.getD j .non=ys[j]:=by rw[Qlq,gQe b];rfl
 have o:a.toArray[j]=u:=by
  have:=(gQs.mp n).2
  simpa using this
 have t:vs.toArray[j]=v:=by
  have:=(gQs.mp l).2
  simpa using this
 rw[o,t,k,e]
 exact D3 h w (QUq.mp f _ (List.getElem_mem c)) (QUq.mp m _ (List.getElem_mem b))
def MN(K:X1)(e:Bool):R2:=λx y H Q=>∃a b d c,x=.ref a/\y=.ref b/\iD K H a d/\iD K H b c/\d.all iR=true/\c.all iR=true/\Q (.bl (if e then !Hj d c else Hj d c)) H
def JN(o:X.A.units<cLine):hJ X (compareOp .NotEq) (MN X.K true):=by
 intro p s M H x y v u Q I B C h
 let#[a,b,g,m,rfl,rfl,ha,hb,fa,fb,q]:=h
 cases B
 cases C
 let#[c,r,n,J]:=I.list ha
 let#[l,i,d,F]:=I.list hb
 by_cases f:g.length=m.length
 ·have k:c.toArray.size=l.toArray.size:=by simp[<-r.length,<-i.length,f]
  refine SeqAt.RcNeAt.lists (e:=λj=>x9 (g.getD j .non) (m.getD j .non)) n.isList d.isList k o (λj z w=>JX r i fa fb j z w) _ _ _ _ #[.bl _,H,I,L,?_]
  rw[show c.toArray.size=g.length by simp[r.length],Bw f]
  exact q
 ·refine SeqAt.RcNeAt.lists_lengths n.isList d.isList (by simpa [<-r.length,<-i.length] using f) o _ _ _ _ #[.bl _,H,I,L,?_]
  have t:Q (.bl (!Hj g m)) H:=q
  rw[AF f] at t
  exact t
end
section
variable{X:Cx}
def zp{bs:List Bool}{a:X5}(r:bt (bs.map V.bl) a){i:Nat}{v:Xd}(h:a.toArray[i]?=some v):v=.bool (bs.getD i false):=by
 have f:i<a.length:=by
  have:=(Array.getElem?_eq_some_iff.mp h).1
  simpa using this
 let l:=r.length
 rw[lQm] at l
 have b:i<bs.length:=by omega
 let#[u,e,q]:=r.get (i:=i) (x:=V.bl bs[i]) (by rw[gQm,gQe b];rfl)
 have c:a[i]?=some v:=by simpa using h
 rw[e] at c
 cases c
 have d:bs.getD i false=bs[i]:=by rw[Qlq,gQe b];rfl
 rw[d]
 exact q
theorem yY:∀bs:List Bool,(List.range bs.length).all (λi=>bs.getD i false)=bs.all id
 | []=>rfl
 | b::bs=>by
   rw[Qnq,List.range_succ_eq_map,List.all_cons,List.all_map,List.all_cons,<-yY bs]
   rfl
theorem xI:∀bs:List Bool,(List.range bs.length).any (λi=>bs.getD i false)=bs.any id
 | []=>rfl
 | b::bs=>by
   rw[Qnq,List.range_succ_eq_map,List.any_cons,List.any_map,List.any_cons,<-xI bs]
   rfl
def G1(K:X1)(f:List Bool->Bool):List V->Hp->VK->Prop:=λc H Q=>∃a b,c= [.ref a]/\iD K H a (b.map V.bl)/\Q (.bl (f b)) H
def Cn(n:X.calm=true):ff X (.builtin "all") (G1 X.K λbs=>bs.all id):=by
 intro j s z H y C Q I r h
 let#[a,bs,rfl,ha,q]:=h
 let#[u,rfl,rx]:=vals1 r
 cases (show u=Value.ref a from rx)
 let#[c,g,f,x]:=I.list ha
 have m:c.toArray.size=bs.length:=by have:=g.length;simp at this;simp[this]
 have d:a<s.heap.objs.size:=by let#[o,e,_]:=f.isList;exact Qiq e
 refine call_all_walk (wpAny_pyIter_list f.isList #[s.heap.objs.size,_,_,_,_,_,λi=>bs.getD i false,L,Walks.list (A:=X.A.in1) (show X.A.in1.handled=none from I.ok.hd n) s.heap.objs.size a (Qwq d) c.toArray,#[#[_,Qrq _ L,L,L],f.isList.at λo e=>Qcq _ e],?_,λh' t k=>?_])
 ·intro i v p B w hv l
  rw[zp g hv]
  exact wpAny_truthy_bool l
 ·rw[m,yY]
  refine#[.bl _,H,I.kept (h':=h') λb o e=>k b o ?_ (Qcq _ e),L,q]
  have:=Qiq e
  simp
  exact Qwq this
def B0(n:X.calm=true):ff X (.builtin "any") (G1 X.K λbs=>bs.any id):=by
 intro j s z H y C Q I r h
 let#[a,bs,rfl,ha,q]:=h
 let#[u,rfl,rx]:=vals1 r
 cases (show u=Value.ref a from rx)
 let#[c,g,f,x]:=I.list ha
 have m:c.toArray.size=bs.length:=by have:=g.length;simp at this;simp[this]
 have d:a<s.heap.objs.size:=by let#[o,e,_]:=f.isList;exact Qiq e
 refine call_any_walk (wpAny_pyIter_list f.isList #[s.heap.objs.size,_,_,_,_,_,λi=>bs.getD i false,L,Walks.list (A:=X.A.in1) (show X.A.in1.handled=none from I.ok.hd n) s.heap.objs.size a (Qwq d) c.toArray,#[#[_,Qrq _ L,L,L],f.isList.at λo e=>Qcq _ e],?_,λh' t k=>?_])
 ·intro i v p B w hv l
  rw[zp g hv]
  exact wpAny_truthy_bool l
 ·rw[m,xI]
  refine#[.bl _,H,I.kept (h':=h') λb o e=>k b o ?_ (Qcq _ e),L,q]
  have:=Qiq e
  simp
  exact Qwq this
end
def Nl(x:Str):It:=#[λi _=>∃c,x.cps[i]?=some c,λi H v a=>a=H/\∃c,x.cps[i]?=some c/\v=.str #[(List.toArray [c])],λi _=>x.cps[i]?=none]
def BW{P:X9}{w:Xc}{K:X1}{U:Expr}(x:Str)(t:Tok)(it:X8):Turn P w K U (Nl x) [it] it (λi h=>h.IsStrIter it "str_ascii_iterator" x t i) where
 mem:=by simp
 obj:=λi h a b g=>by
  have e:b=it:=by simpa using g
  subst e
  let#[o,e,c,d]:=a
  exact#[o,e,λv z=>by rw[d] at z;cases z]
 keep:=λi h l a k=>by
  let#[o,e,r]:=a
  exact#[o,k it (by simp) o e,r]
 item:=by
  intro X C y u N i f s J H E I m a n
  subst C y u
  let#[c,M]:=n
  let#[p,q,Y,F,B,A]:=m it (by simp)
  refine wpAny_pyNext_ascii_item a M λl j Z=>?_
  have R:Inv X f J H {s with heap:=l,toks:=s.toks+1}:=I.turned (t':=s.toks+1) (λb o g e=>(Z.2 b g).trans e) p q F B A
  let#[o,e,Q,d]:=id j
  exact#[_,L,uX (s:={s with heap:=l,toks:=s.toks+1}) e Q d (!1) #[.str #[(List.toArray [c])],H,R,#[_,L],#[L,c,M,L],j,λb g=>(m b g).1]]
 done:=by
  intro X C y u N i f s J H E I m a n
  subst C y u
  let#[p,q,Y,F,B,A]:=m it (by simp)
  exact wpAny_pyNext_ascii_end (I.ok.hd N) a n λl S=>#[L,I.turned (t':=s.toks) (λb o g e=>S b o g e) p q F B A]
 self:=λ_ _ _ _ _ a h=>wpAny_pyIter_striter_ascii a h
def CH{P:X9}{w:Xc}{K:X1}{U:Expr}(x:Str)(t:Tok)(it:X8):Turn P w K U (Nl x) [it] it (λi h=>h.IsStrIter it "str_iterator" x t i) where
 mem:=by simp
 obj:=λi h a b g=>by
  have e:b=it:=by simpa using g
  subst e
  let#[o,e,c,d]:=a
  exact#[o,e,λv z=>by rw[d] at z;cases z]
 keep:=λi h l a k=>by
  let#[o,e,r]:=a
  exact#[o,k it (by simp) o e,r]
 item:=by
  intro X C y u N i f s J H E I m a n
  subst C y u
  let#[c,M]:=n
  let#[p,q,Y,F,B,A]:=m it (by simp)
  refine wpAny_pyNext_wide_item a M λl j Z=>?_
  have R:Inv X f J H {s with heap:=l,toks:=s.toks+1}:=I.turned (t':=s.toks+1) (λb o g e=>(Z.2 b g).trans e) p q F B A
  let#[o,e,Q,d]:=id j
  exact#[_,L,uX (s:={s with heap:=l,toks:=s.toks+1}) e Q d (!1) #[.str #[(List.toArray [c])],H,R,#[_,L],#[L,c,M,L],j,λb g=>(m b g).1]]
 done:=by
  intro X C y u N i f s J H E I m a n
  subst C y u
  let#[p,q,Y,F,B,A]:=m it (by simp)
  exact wpAny_pyNext_wide_end (I.ok.hd N) a n λl S=>#[L,I.turned (t':=s.toks) (λb o g e=>S b o g e) p q F B A]
 self:=λ_ _ _ _ _ a h=>wpAny_pyIter_striter_wide a h
def Nf(a:TE):TI:=λb H R=>a b H λx H1=>∃z,x=.str z/\R (Nl z) H1
def JK{X:Cx}{m l:Expr}{f:TE}(n:PE X l f):PI X m l (Nf f):=by
 intro a s r H R I h
 refine bZ (n a s r H _ I h) λv c p=>?_
 let#[x,H1,d,j,z,e,q]:=p
 subst e
 let#[t,rfl]:=(show∃t,v=Value.str z t from j)
 have g:∀{o:Obj},∀b∈[c.heap.objs.size],oJ X a H1 b:=λb k=>by
  have e:b=c.heap.objs.size:=by simpa using k
  subst e
  exact d.fpOk (Qmq _) (d.hok.fresh (Qmq _))
 cases i:z.cps.all (·<128)
 ·refine wpAny_pyIter_wide i ?_
  exact#[c.heap.objs.size,[c.heap.objs.size],_,_,H1,L,d.kept (t':=c.toks) λb o e=>Qcq _ e,CH z t _,#[_,Qrq _ L,L,L],g (o:=default),q]
 ·refine wpAny_pyIter_ascii i ?_
  exact#[c.heap.objs.size,[c.heap.objs.size],_,_,H1,L,d.kept (t':=c.toks) λb o e=>Qcq _ e,BW z t _,#[_,Qrq _ L,L,L],g (o:=default),q]
end L2
namespace Dk
open PySem
end Dk
namespace L2
open PySem PySem.Spec PyProof.Rows
end L2
namespace Dk
open PySem
end Dk
namespace L2
open PySem PySem.Spec PyProof.Rows
def FL{X:Cx}{N:X6}{js:List (Option Nat)}{a:Scope}{cl:List (Str×Addr)}{tg Q b1 K:Expr}{b3:List Expr}{pos b4:Pos}{wi:TI}{g gt:TG}{tt:TT}{te:TE}
  (S:aK X N js a cl) (hc:X.calm=true) (hi:PI X tg Q wi)
  (hg:∀C s H fp,PG (aP X N a cl C s H fp) tg g) (ht:∀C s H fp,nE (aP X N a cl C s H fp) b3 tt) (he:∀C s H fp,PE (aP X N a cl C s H fp) b1 te) (e2:PG X K gt)
  (hs:autoParam (∀x,foldedSetIterable Q X.env x=pure x) ag._auto_1) (e3:autoParam (swapsWithSole [K] (.ListComp b1 [⟨tg,Q,b3,0⟩] a pos) b4.line X.env=pure true) af._auto_1)
  (h1:autoParam ((assignEach [K] X.env).map (·.2)= [assign K X.env]) af._auto_1):PS X (.Assign [K] (.ListComp b1 [#[tg,Q,b3,0]] a pos) b4) (Dt (E8 js wi g tt te) gt):=by
 intro Z s σ H Dn I h
 rw[exec_Assign_arm]
 refine Qaq (wpAny_standAt (Qaq (wpAny_of_eq e3 (wpAny_ite_true L (Qaq ?_)))))
 rw[h1]
 show wpAny _ _ (do let _<-comprehension _ _ _ _ _ _ _ (some λv=>assignAll v [assign K X.env]);pure ()) _ _ _
 refine Qaq ?_
 refine wpAny_comprehension_free (use:=some λv=>assignAll v [assign K X.env]) L hs S.clos S.kind S.names (bZ (hi Z s σ H _ I h) λv s1 h1=>bZ h1 λe5 k h2=>?_)
 let#[it,fp,tn,J,H2,e,B,T,b8,f2,hD]:=h2
 subst e
 refine QhQ (wpAny_newFunctionEnv S.nocell (by intro y hy;simp at hy) (λR P t=>?_) S.kind)
 dsimp only at P t|-
 generalize b7:k.heap.push {cls:=.type "list",dict:=none,data:=.seq ([]:List Value).toArray}=P2 at P t|-
 have hC:P2.objs.size=k.heap.objs.size+1:=by rw[<-b7,Heap.size_push]
 have d3:k.heap.objs.size≠P2.objs.size:=by rw[hC];exact Qwq (Nat.lt_succ_self _)
 have a2:k.heap.objs.size<=P2.objs.size:=by rw[hC];exact Nat.le_succ _
 have M:∀b,b<k.heap.objs.size->b≠P2.objs.size:=λb f=>by rw[hC];exact Qwq (Nat.lt_succ_of_lt f)
 have a0:∀b o,k.heap.get? b=some o->R.get? b=some o:=λb o e=>t.extBut b o (M b (Qiq e)) (Qcq _ (b7▸Qcq _ e))
 have d2:R.get? k.heap.objs.size=some {cls:=.type "list",dict:=none,data:=.seq ([]:List Value).toArray}:=t.extBut _ _ d3 (Qcq _ (b7▸Qrq _ L))
 have nD:H2 k.heap.objs.size=none:=B.fresh
 have nC:H2 P2.objs.size=none:=B.hok.fresh a2
 have b9:∀b∈fp,b<k.heap.objs.size:=λb f=>by
  let#[o,e,_]:=T.obj _ _ b8 b f
  exact Qiq e
 let#[W,#[m0,w0],d5]:=hD k.heap.objs.size nD
 have c4:(aP X N a cl P2.objs.size k H2 fp).Ok:=by
  refine⟨B.ok.mod,S.kind,B.ok.glob,B.ok.blt,a2,λx y c h1 h2=>B.ok.inj x y c (S.sub x c h1) (S.sub y c h2),S.has,(λx c h=>by cases h),B.ok.hd,B.ok.frames,.inl L,
   λb f=>#[M b (b9 b f),λx c h=>(f2 b f).2.2.2.2.1 x c (S.sub x c h)],B.bs,QAq B.ok.bsz B.sz,λb o e f=>?_,λb f z=>?_,B.stack,B.stkFree⟩
  ·rcases(f2 b f).2.2.2.1 with z|z
   ·exact B.ok.noex b o e z
   ·exact absurd (Qqq (Qqq (Qiq e) B.ok.bsz) z) (Nat.lt_irrefl _)
  ·rcases Qsq.mp (B.stkSub b z) with q|q
   ·exact(f2 b f).2.1 q
   ·exact(f2 b f).2.2.1 q
 have d1:cJ X.prog X.w (upd H2 k.heap.objs.size (.lst [])) R k.heap.objs.size (.lst []):=#[Nat.zero_le _,[],0,.nil,d2]
 have I4:Inv (aP X N a cl P2.objs.size k H2 fp) [] (kh js σ) (upd H2 k.heap.objs.size (.lst [])) {k with heap:=R,toks:=k.toks+([]:List (Str×Value)).length}:=by
  refine#[c4,L,B.bare,Un.laid a0 (Qmq _) nD,#[_,P,λi x v h1 h2 h3=>?_],λx c h=>?_,by show upd H2 _ _ P2.objs.size=none;rw[a7 d3.symm];exact nC,λx c h=>?_,λp hp=>absurd (show p∈([]:List (Addr×Obj)) from hp) (by simp),B.hok.laid a0 (Qmq _) d1,by show(kh js σ).length=N.length;unfold kh;rw[lQm];exact S.len]
  ·unfold kh at h2
   rw[gQm] at h2
   cases e:js[i]? with
   |none=>rw[e] at h2;cases h2
   | some o=>
     rw[e] at h2
     cases o with
     |none=>cases h2
     | some j=>
       have a5:σ.getD j none=some v:=QdQ h2
       have hj:σ[j]?=some (some v):=by
         rw[Qlq] at a5
         cases q:σ[j]? with
         |none=>rw[q] at a5;cases a5
         |some y=>rw[q] at a5;exact congrArg some a5
       let#[c1,c2,c3]:=S.cap i j x e h1
       let#[m,hn,hl]:=B.loc
       have e0:HU X.env.scope x:=by
         rcases c2 with z|z
         · exact .inr (.inl z)
         · exact .inr (.inr z)
       let#[u,r,l]:=hl j x v c1 hj e0
       refine#[u,r,.inr #[c3,?_]]
       let#[c,c7]:=S.has x c3
       refine#[c,c7,?_]
       rcases l with⟨z,_⟩|⟨_,c',e',z⟩
       · rcases c2 with y|y <;>rw[y] at z <;>cases z
       · rw[S.sub x c c7] at e'
         cases e'
         let#[o,ho,hd]:=z
         exact#[o,a0 _ _ ho,hd]
  ·let#[v,o,ho,hd]:=B.cell x c (S.sub x c h)
   exact#[v,o,a0 _ _ ho,hd]
  ·let#[v,o,ho,hd]:=B.cell x c (S.sub x c h)
   rw[a7 (Qwq (Qiq ho))]
   exact B.freeC x c (S.sub x c h)
 have a3:∀{U:X2} {H':Hp},U= []->(∀b∈fp,H' b=none)->∀b∈fp,oJ (aP X N a cl P2.objs.size k H2 fp) U H' b:=λ{U H'} ep hn b f=>by
  subst ep
  refine#[hn b f,M b (b9 b f),λz=>c4.exfs b f z,.inl f,λx c h=>(f2 b f).2.2.2.2.1 x c (S.sub x c h),λp hp=>absurd (show p∈([]:List (Addr×Obj)) from hp) (by simp)]
 have b5:codeAny (model X.prog X.w) X.A (.compLoop (.ListComp b1 [⟨tg,Q,b3,0⟩] a pos) 0 (.ref it) (.ref k.heap.objs.size) (compEnvC a cl P2.objs.size X.env))
   (compPost (model X.prog X.w) X.A X.xe (some λv=>assignAll v [assign K X.env]) (λ_ s9=>wpAny (model X.prog X.w) X.A (pure ()) (λ_ d6=>wpAny (model X.prog X.w) X.A (pure Flow.next) (SP X Z Dn) X.xe d6) X.xe s9) (.ref k.heap.objs.size) P2.objs.size) {k with heap:=R,toks:=k.toks+([]:List (Str×Value)).length}:=by
  refine oP (λn s'=>∃i a6 H',Inv (aP X N a cl P2.objs.size k H2 fp) [] a6 H' s'/\tn i s'.heap/\(∀b∈fp,H' b=none)/\W i n a6 H') ?_ m0
   #[0,_,_,I4,T.keep _ _ _ b8 λb _ o e=>a0 b o e,λb f=>by rw[a7 (Qwq (b9 b f))];exact(f2 b f).1,w0]
  rintro n s3 ⟨i,b0,H3,I3,c6,c9,w3⟩
  rcases d5 i n b0 H3 w3 with⟨stop,q⟩|⟨go,Nx,hN,c5⟩
  ·refine bZ (T.done (aP X N a cl P2.objs.size k H2 fp) L L L hc i [] s3 b0 H3 _ I3 (a3 L c9) c6 stop) λr s4 Y=>?_
   let#[hr,I5]:=Y
   subst hr
   let#[m,hn,_]:=id I5.loc
   have d8:∀h',Heap.SameBut P2.objs.size s4.heap h'->Inv X Z σ H3 {s4 with heap:=h'}:=by
    intro h' a1
    let u:=I5.base
    have ne:∀b o,k.heap.get? b=some o->b≠P2.objs.size:=λb o e=>M b (Qiq e)
    refine B.call' (ch:=fp) I5.os #[λb o e n f hx=>(a1.2 b (ne b o e)).trans (u.keep b o e n f hx),λb o e n f hx=>?_,u.free,λb o e hx=>?_,u.tups,u.frzs,u.tbls] (λb ob e=>?_) I5.bare λb f=>#[(f2 b f).2.2.2.1,(f2 b f).2.1,(f2 b f).2.2.2.2.1,(f2 b f).2.2.2.2.2]
    ·let#[sl,e1]:=u.slot b o e n f hx
     exact#[sl,(a1.2 b (ne b o e)).trans e1]
    ·let#[o',e1]:=u.there b o e hx
     exact#[o',(a1.2 b (ne b o e)).trans e1]
    ·refine(I5.hok b ob e).stay (λc w' hc q=>(a1.2 c ?_).trans q) (λ_ q=>q) λ_ _ q=>q
     have fC:H3 P2.objs.size=none:=I5.free
     rintro rfl
     rcases hc with z|z
     ·rw[<-z,fC] at e;cases e
     ·rw[fC] at z;cases z
   let IX:=d8 s4.heap #[L,λ_ _=>rfl]
   have b2:oJ X Z H3 P2.objs.size:=B.fpOk a2 I5.free
   let#[oC,es,ep,d4,c8,d7]:=hn
   let IP:=IX.pinned (fp:= [P2.objs.size]) (λb f=>by rw[Qfq] at f;rw[f];exact b2) (λb f=>by rw[Qfq] at f;rw[f];exact#[oC,d4,λv=>by rw[c8];simp])
   show wpAny _ _ (assignAll (.ref k.heap.objs.size) [assign K X.env]) _ _ _
   rw[assignAll.eq_2]
   refine bZ (e2 _ s4 σ H3 (.ref k.heap.objs.size) (.ref k.heap.objs.size) _ IP L q) λ_ s6 Y=>?_
   let#[F,H6,I6,q6]:=Y
   let pC:=I6.pin (P2.objs.size,oC) (Qoq _ (Qoq _ (cv (Qfq.mpr L) d4)))
   refine#[m,#[oC,es,ep,pC.1,c8,d7],λh' a1=>Qgq (Qgq #[F,H6,?_,q6])]
   exact I6.unpinned.turned (it:=P2.objs.size) (t':=s6.toks) (λb o' f e=>(a1.2 b f).trans e) pC.2.1 pC.2.2.1 b2.2.2.2.1 b2.2.2.2.2.1 b2.2.2.2.2.2
  ·refine bZ (T.item (aP X N a cl P2.objs.size k H2 fp) L L L hc i [] s3 b0 H3 _ I3 (a3 L c9) c6 go) λr s4 Y=>?_
   let#[u,hr,h4]:=Y
   subst hr
   refine bZ h4 λ_ s5 Y=>?_
   let#[x,H5,I5,r5,y5,b6,d9]:=Y
   let e4:=I5.pinned (a3 L d9) (T.obj _ _ b6)
   refine bZ (hg P2.objs.size k H2 fp _ s5 b0 H5 x u _ e4 r5 (c5 x H5 y5)) λ_ s6 Y=>?_
   let#[F,H6,I6,q6]:=Y
   refine bZ (ht P2.objs.size k H2 fp _ s6 F H6 _ I6 q6) λok s7 Y=>?_
   let#[H7,I7,q7]:=Y
   have a4:∀{s8:X4} {H8:Hp},Inv (aP X N a cl P2.objs.size k H2 fp) ([]++gH fp s5.heap) F H8 s8->Nx F H8->∃m,m<n/\∃i a6 H',Inv (aP X N a cl P2.objs.size k H2 fp) [] a6 H' s8/\tn i s8.heap/\(∀b∈fp,H' b=none)/\W i m a6 H':=λ{s8 H8} I8 n8=>by
    let#[m',hm,w8]:=hN F H8 n8
    refine#[m',hm,i+1,F,H8,I8.unpinned,T.keep _ _ _ b6 λb f o e=>(I8.pin (b,o) (Qoq _ (Qoq _ (cv f e)))).1,λb f=>?_,w8]
    let#[o,e,d]:=T.obj _ _ b6 b f
    exact(I8.pin (b,o) (Qoq _ (Qoq _ (cv f e)))).2.1
   cases ok with
   |false=>exact a4 I7 q7
   | true=>
     refine bZ (he P2.objs.size k H2 fp _ s7 F H7 _ I7 q7) λyv s8 Y=>?_
     let#[y,H8,I8,ry,xs,hx,hl,n8]:=Y
     refine bZ (lK (X:=aP X N a cl P2.objs.size k H2 fp) _ s8 F H8 (.ref k.heap.objs.size) [y] (.ref k.heap.objs.size) [yv] (λ_ H'=>Nx F H') I8 L (.cons ry .nil) #[_,xs,y,L,L,hx,hl,n8]) λ_ s9 Y=>?_
     let#[z,H9,I9,_,q9]:=Y
     exact a4 I9 q9
 exact codeAny_compStart_list b5 (T.self _ 0 _ _ _ (T.keep _ _ _ b8 λb _ o e=>a0 b o e) b5)
end L2
namespace Dk
open PySem
def SS(prog:X9)(w:Xc)(h:Xe)(a:X8)(es:Array (Int×Value))(L:Bool):Prop:=
 ∃o b t,h.get? a=some o/\o.ExactSet/\o.data=.set es b t/\ElemsOf (strKind prog w) es.toList/\es.size<scanBound/\t.fits es.size=true/\t.led=L/\(es.size≠0->t.plain=false)
def zZ(t:SetTable)(es:Array (Int×Value))(h:Int)(x:Xd):(layNew t es h x).2.1.led=t.led:=by
 unfold layNew
 split
 ·have a:∀(b:SetTable) (n:Nat),(b.orStandIn n).led=b.led:=λb n=>by
   unfold SetTable.orStandIn
   split <;>rfl
  exact a _ _
 ·rfl
def CA(t:SetTable)(es:Array (Int×Value))(n:Nat):(relayAll t es n).2.1.led=t.led/\(t.plain=false->(relayAll t es n).2.1.plain=false):=by
 unfold relayAll
 split
 ·rename_i c a e
  have f:c.led=t.led/\c.plain=t.plain:=by
   unfold SetTable.relaid SetTable.laid at e
   cases b:SetTable.layClean (SetTable.sizeAbove n-1) (Array.map (λx=>x.fst) es) with
   |none=>rw[b] at e;cases e
   | some g=>
     rw[b] at e
     have:=QdQ e
     let d:=congrArg Prod.fst this
     dsimp only at d
     rw[<-d]
     exact#[L,L]
  dsimp only
  split
  ·exact#[f.1,λh=>by rw[f.2];exact h]
  ·exact#[L,λ_=>rfl]
 ·exact#[L,λ_=>rfl]
section
variable{prog:X9}{w:Xc}{A:X_}{E:X0}
def bx{h:Xe}{a:X8}{f:Obj->Obj}:Heap.SameBut a h (h.update a f):=#[Heap.size_update _ _ _,λb c=>by rw[Heap.get?_update_ne];exact c]
def y4{h:Xe}{a:X8}{o:Obj}{es:Array (Int×Value)}{ep:Nat}{t:SetTable}{L:Bool}(m:h.get? a=some o)(d:o.ExactSet)(j:o.data=.set es ep t){b:Array (Int×Value)}{t':SetTable}
  (c:ElemsOf (strKind prog w) b.toList) (f:b.size<scanBound) (i:t'.fits b.size=true) (n:t'.led=L) (l:t'.plain=false):SS prog w (h.update a (Obj.putSet b t')) a b L/\(h.update a (Obj.putSet b t')).get? a=some {cls:=o.cls,dict:=o.dict,data:=.set b (ep+1) t',slots:=o.slots}:=by
 let g:=(SetOf_store (knd:=strKind prog w) (S':=λk=>b.toList.any λe=>(strKind prog w).is k e.snd) m d j c (λk=>by rw[List.any_eq_true]) f i).1
 exact#[#[_,_,_,g,d,rfl,c,f,i,n,λ_=>l],g]
def xA{s:X4}{g:Bool->Sem Unit}(B:∀(b:Bool) (f:X4) (x:Unit->Shared->Prop),x () f->wpAny (model prog w) A (g b) x E f){a:X8}{o:Obj}{es:Array (Int×Value)}{ep:Nat}{t:SetTable}{L:Bool}
  (u:s.heap.get? a=some o) (j:o.ExactSet) (p:o.data=.set es ep t) {c:Array (Int×Value)} {e:SetTable} (h:ElemsOf (strKind prog w) c.toList) (m:c.size<scanBound) (C:e.fits c.size=true) (v:e.led=L) (q:e.plain=false)
  {d:Bool} {R:Option Bool->Shared->Prop} (k:∀(h':Xe) (i:Array (Int×Value)),Heap.SameBut a s.heap h'->SS prog w h' a i L->i.toList.Perm c.toList->R (some true) {s with heap:=h'}):
  wpAny (model prog w) A (do
   storeSet a c e
   if (!d&&e.tooFull)=true then do
       g (relayAll e c (SetTable.grown c.size)).snd.snd
       storeSet a (relayAll e c (SetTable.grown c.size)).fst (relayAll e c (SetTable.grown c.size)).snd.fst
       pure (some true)
    else pure (some true)) R E s:=by
 let n:=y4 (prog:=prog) (w:=w) u j p h m C v q
 refine Qaq (wpAny_storeSet_of u p ?_ (fits_of_scanBound m))
 split
 ·let rp:=relayAll_perm e c (SetTable.grown c.size)
  have r:(relayAll e c (SetTable.grown c.size)).1.size=c.size:=by
   have:=rp.length_eq
   simpa using this
  let y:=CA e c (SetTable.grown c.size)
  let z:=y4 (prog:=prog) (w:=w) (L:=L) n.2 j rfl (h.perm rp) (by rw[r];exact m) (relayAll_fits e c (SetTable.grown c.size)) (by rw[y.1];exact v) (y.2 q)
  refine Qaq (B _ _ _ (Qaq (wpAny_storeSet_of n.2 rfl (Qgq (k _ _ ?_ z.1 rp)) (by rw[r];exact fits_of_scanBound m))))
  exact#[by rw[bx.1,bx.1],λb l=>by rw[bx.2 b l,bx.2 b l]]
 ·exact Qgq (k _ _ bx n.1 (List.Perm.refl _))
def Gb{prog:X9}{w:Xc}{A:X_}{E:X0}{s:X4}{a:X8}{y:Str}{f:Tok}{es:Array (Int×Value)}{L:Bool}{Q:Xf}
  (hS:SS prog w s.heap a es L) (room:es.size+1<scanBound)
  (q:∀(b:Bool) (h':Xe) (c:Array (Int×Value)) (P:Nat),Heap.SameBut a s.heap h'->SS prog w h' a c L->((∃e∈es.toList,Value.isStrOf y e.2=true)/\c=es\/(¬∃e∈es.toList,Value.isStrOf y e.2=true)/\c.toList.Perm (es.push (hashStr w y,.str y f)).toList)->Q b {s with heap:=h',toks:=P}):
  wpAny (model prog w) A (setAdd a (.str y f)) Q E s:=by
 let#[o,ep,t,z,m,r,i,R,M,K,H]:=hS
 unfold setAdd setAddHashed
 refine QLq (Qaq ((strKind prog w).pyHash (k:=y) (by simp[strKind,Value.isStrOf]) (QLq ?_)))
 rw[show(100000:Nat)=Nat.succ 99999 from rfl,setAddHashedIn.eq_2]
 refine Qaq (wpAny_setState_of z r M ?_)
 dsimp only
 rw[Qhq (byScan_of (knd:=strKind prog w) rfl R i)]
 unfold setAddByScan
 refine Qaq (Qaq (wpAny_rule (Qaq (wpAny_setScan_of (knd:=strKind prog w) (k:=y) (by simp[strKind,Value.isStrOf]) z r M i ?_))))
 cases e:List.findIdx? (λe=>(strKind prog w).is y e.snd) es.toList with
 | some j=>
   refine Qgq (Qgq (q _ s.heap es _ #[rfl,λ_ _=>rfl] #[o,ep,t,z,m,r,i,R,M,K,H] (.inl #[?_,rfl])))
   let#[hj,hp,_]:=List.findIdx?_eq_some_iff_getElem.mp e
   exact#[_,List.getElem_mem hj,hp]
 | none=>
   dsimp only
   have l:¬∃e∈es.toList,Value.isStrOf y e.2=true:=by
     rintro⟨S,Y,X⟩
     have:=List.findIdx?_eq_none_iff.mp e S Y
     have N:(strKind prog w).is y S.snd=true:=X
     rw[N] at this
     cases this
   let J:=layNew_perm t es ((strKind prog w).hash y) (.str y f)
   let U:=layNew_fits t es ((strKind prog w).hash y) (.str y f)
   let W:=zZ t es ((strKind prog w).hash y) (.str y f)
   have B:(layNew t es ((strKind prog w).hash y) (.str y f)).1.size=es.size+1:=by
     have:=J.length_eq
     simpa using this
   have C:ElemsOf (strKind prog w) (layNew t es ((strKind prog w).hash y) (.str y f)).1.toList:=by
     refine ElemsOf.perm ?_ J
     rw[Array.toList_push]
     exact i.push (by simp[strKind,Value.isStrOf]) rfl
   have I:∀(b:Bool) (d:X4) (n:Unit->Shared->Prop),n () d->∀{g:Bool->Sem Unit},g true=rule "set.scan.the-table-gave-way" ->g false=pure ()->wpAny (model prog w) A (g b) n E d:=by
     intro b d n h g e1 Z
     cases b
     · rw[Z];exact Qgq h
     · rw[e1];exact wpAny_rule h
   refine Qaq (I _ _ _ ?_ rfl rfl)
   have x:∀(h':Xe) (c:Array (Int×Value)),Heap.SameBut a s.heap h'->SS prog w h' a c L->c.toList.Perm (layNew t es ((strKind prog w).hash y) (.str y f)).1.toList->wpAny (model prog w) A (pure true) Q E {s with heap:=h',toks:=s.toks+1}:=
     λh' c F v u=>Qgq (q _ h' c _ F v (.inr #[l,u.trans J]))
   by_cases p:(layNew t es ((strKind prog w).hash y) (.str y f)).2.1.plain=true
   · rw[Qhq p]
     refine Qaq (wpAny_of_eq (hashByValue_scannable 8 rfl) ?_)
     rw[show plainKind (Value.str y f)=false from rfl]
     erw[Bool.false_eq_true,if_false]
     refine xA (s:={s with toks:=s.toks+1}) (L:=L) ?_ z m r ?_ ?_ ?_ ?_ ?_ ?_
     · exact λb d n h=>I b d n h rfl rfl
     · exact C
     · rw[B];exact room
     · exact U
     · exact W.trans K
     · rfl
     · exact λh' c F v u=>x h' c F v u
   · rw[Quq p]
     refine Qaq (Qgq ?_)
     erw[if_true]
     refine xA (s:={s with toks:=s.toks+1}) (L:=L) ?_ z m r ?_ ?_ ?_ ?_ ?_ ?_
     · exact λb d n h=>I b d n h rfl rfl
     · exact C
     · rw[B];exact room
     · exact U
     · exact W.trans K
     · exact Bool.eq_false_iff.mpr p
     · exact λh' c F v u=>x h' c F v u
end
section
variable{prog:X9}{w:Xc}{A:X_}{E:X0}{s:X4}
def fm(w:Xc):Obj:={cls:=.type "set",data:=.set (List.toArray []) 0 (SetTable.fresh 0 0 !(w.params.followText "set-order"))}
def sj(a:Xd){Q₁:X0}(h:Q₁ (.ref s.heap.objs.size) {s with heap:=s.heap.push (fm w)}):
  codeAny (model prog w) A (.call (.builtin "set.__new__") {pos:= [.type "set",a]}) (wants Q₁ E) s:=by
 refine codeAny_of_tree ?_
 refine Qaq (wpAny_of_eq (F.newCall_set_1 a) (Qgq #[plainId_quiet F.plain_set_new _,codeAny_builtin F.entry_set_new ?_]))
 rw[Around.under_plainId F.plain_set_new]
 unfold Builtin.«set.__new__» Builtin.Frozenset.newClass
 refine Qaq (Qaq (Qgq (QgQ L (Qaq (wpAny_of_eq sub_set_self (QgQ L (Qgq ?_)))))))
 unfold newSet setsByText
 refine Qaq (Qaq (Qaq (wpAny_askSetting (Qgq ?_))))
 have e:newObj (.type "set") (.set (List.toArray []) 0 (SetTable.fresh 0 0 !(w.params.followText "set-order")))=newObjAsIs (.type "set") (.set (List.toArray []) 0 (SetTable.fresh 0 0 !(w.params.followText "set-order"))):=by
  unfold newObj
  simp
 show wpAny _ _ (newObj (.type "set") (.set (List.toArray []) 0 (SetTable.fresh 0 0 !(w.params.followText "set-order")))) _ _ _
 rw[e]
 exact Qaq (wpAny_alloc (Qgq (Qgq h)))
def Af{a:Xd}{Q:X0}
  (h:wpAny (model prog w) A.in1.in1 (Builtin.«set.__init__» {pos:= [.ref s.heap.objs.size,a]})
   (λm l=>match m with|.done f=>wants (λr b=>r=.none/\Q (.ref s.heap.objs.size) b) E (.ok f) l|.again x=>x.quiet=true/\codeAny (model prog w) A.in1 x (wants (λr b=>r=.none/\Q (.ref s.heap.objs.size) b) E) l)
   (λe l=>wants (λr b=>r=.none/\Q (.ref s.heap.objs.size) b) E (.error e) l) {s with heap:=s.heap.push (fm w)}):
  wpAny (model prog w) A (call (.type "set") [a]) Q E s:=by
 let#[c,C,k]:=F.called_set.mro
 let g:=F.called_set.made
 let j:=F.called_set.sub
 refine wpAny_call (codeAny_of_tree ?_)
 refine Qgq #[Code.quiet_builtin _ (by decide +kernel),codeAny_builtin F.entry_type_call ?_]
 rw[Around.under_plain (weight_type_call_type "set" [a] []) L]
 let H:=F.called_set.notType
 let y:=F.called_set.canCreate
 let q:=F.typeCall_set_1 a
 unfold Builtin.«type.__call__»
 dsimp only
 refine QgQ L ?_
 refine QgQ (by rw[y];rfl) ?_
 refine Qaq (wpAny_of_eq q (Qaq (wpAny_of_eq k (QgQ L (Qaq (wpAny_of_eq g (Qaq (Qgq (Qaq (QLq (wpAny_call (codeAny_mono (sj (E:=E) (Q₁:=λv d=>v=.ref s.heap.objs.size/\d={s with heap:=s.heap.push (fm w)}) a #[L,L]) λr d i=>?_))))))))))))
 cases r with
 |error e=>exact i
 | ok t=>
   cases t with
   | ret z=>
     let#[rfl,rfl]:=i
     let B:=Qrq s.heap (o:=fm w) L
     have n:Shared.TypeIs {s with heap:=s.heap.push (fm w)} (.ref s.heap.objs.size) "set":=#[_,B,L]
     let u:=F.called_set.init.lookup
     let p:=F.called_set.init.bind (.ref s.heap.objs.size)
     refine Qaq (wpAny_isInstance n j (QgQ L (Qaq (QLq ?_))))
     unfold callSpecial?
     refine Qaq (wpAny_specialOf n u (QLq (Qaq (wpAny_of_eq p (Qaq (wpAny_call (codeAny_mono (codeAny_call_builtin F.called_set.init.plain F.entry_set_init (check_set_init_1 n h)) λr b i=>?_)))))))
     cases r with
     |error e=>exact i
     | ok t=>
       cases t with
       | ret v=>
         let#[rfl,hq]:=i
         exact Qgq (QgQ L (Qgq hq))
       |_=>exact i.elim
   |_=>exact i.elim
def HK:SS prog w (s.heap.push (fm w)) s.heap.objs.size (List.toArray []) (!(w.params.followText "set-order")):=
 #[_,_,_,Qrq s.heap L,#[L,L,L],L,(λe h=>by cases h),by decide,(by simp[SetTable.fits,SetTable.fresh,SetTable.fill]),L,λh=>absurd L h]
def rj{l:X8}{xs:Xa}{k:Nat}{sl:Array (Option Value)}{Q:X0}
  (i:s.heap.get? l=some {cls:=.type "list",data:=.seq xs k,slots:=sl})
  (h:wpAny (model prog w) A.in1.in1 (pyIter (.ref l)) (λit b=>wpAny (model prog w) A.in1.in1 (runValue (.builtin "set.update.loop" {pos:= [.ref s.heap.objs.size,it]})) (λ_ a=>Q (.ref s.heap.objs.size) a) E b) E {s with heap:=s.heap.push (fm w)}):
  wpAny (model prog w) A (call (.type "set") [.ref l]) Q E s:=by
 refine Af ?_
 let f:=Qrq s.heap (o:=fm w) L
 have g:Shared.TypeIs {s with heap:=s.heap.push (fm w)} (.ref s.heap.objs.size) "set":=#[_,f,L]
 let d:=Qcq (fm w) i
 have c:Shared.TypeIs {s with heap:=s.heap.push (fm w)} (.ref l) "list":=#[_,d,L]
 unfold Builtin.«set.__init__»
 dsimp only
 refine Qaq ?_
 unfold noKeywords
 refine wpAny_ite_true L (Qgq ?_)
 unfold typeNameOfCut shownTypeOf
 refine Qaq (Qaq (Qaq (wpAny_typeOf g (QgQ L (Qgq ?_)))))
 refine Qgq ?_
 refine Qaq ?_
 unfold checkCount
 refine QgQ L (QgQ L (QgQ L (Qgq ?_)))
 refine Qaq (Qgq (Qaq ?_))
 unfold setUsed
 refine Qaq (wpAny_setState_of f L (by simp[SetTable.fits,SetTable.fresh,SetTable.fill]) (Qgq (QgQ (by simp[SetTable.fresh,SetTable.fill]) (Qaq ?_))))
 unfold Builtin.Frozenset.updateFrom Builtin.Frozenset.isAnySet
 refine Qaq (Qaq (wpAny_isInstance c F.sub_list_set ?_))
 refine wpAny_isInstance c F.sub_list_frozenset (QgQ L (Qaq (wpAny_typeOf c (QgQ L (Qaq ?_)))))
 exact QRq h (λit b q=>Qaq (QRq q (λ_ a j=>Qgq (Qgq #[L,j])) λe b q=>q)) λe b q=>q
end
def txt:Value->Str
 |.str x _=>x
 |_=>""
def qt{y:Str}{v:Xd}:Value.isStrOf y v=true↔∃t,v=.str y t:=by
 constructor
 ·intro h
  cases v <;>simp[Value.isStrOf] at h
  exact#[_,by rw[h]]
 ·rintro⟨t,rfl⟩
  simp[Value.isStrOf]
def Mem(es:Array (Int×Value))(a:Nat->Str)(i:Nat):Prop:=
 (∀e∈es.toList,∃x t,e.2=.str x t)/\(es.toList.map λe=>txt e.2).Nodup/\(∀x,x∈(es.toList.map λe=>txt e.2)↔∃j,j<i/\a j=x)/\es.size<=i
def Mem.has{es:Array (Int×Value)}{c:Nat->Str}{i:Nat}(h:Mem es c i)(y:Str):(∃e∈es.toList,Value.isStrOf y e.2=true)↔y∈(es.toList.map λe=>txt e.2):=by
 constructor
 ·rintro⟨e,a,b⟩
  let#[t,d]:=qt.mp b
  exact Qkq.mpr #[e,a,by rw[d];rfl]
 ·intro f
  let#[e,a,b]:=Qkq.mp f
  let#[x,t,d]:=h.1 e a
  refine#[e,a,qt.mpr #[t,?_]]
  rw[d] at b|-
  rw[<-b]
  rfl
def Mem.old{es:Array (Int×Value)}{a:Nat->Str}{i:Nat}(h:Mem es a i)(f:∃e∈es.toList,Value.isStrOf (a i) e.2=true):Mem es a (i+1):=by
 let c:=(h.has _).mp f
 refine#[h.1,h.2.1,λx=>?_,by have:=h.2.2.2;omega]
 rw[h.2.2.1]
 constructor
 ·rintro⟨j,d,e⟩
  exact#[j,by omega,e]
 ·rintro⟨j,d,e⟩
  by_cases b:j=i
  ·subst b
   rw[<-e]
   exact(h.2.2.1 _).mp c
  ·exact#[j,by omega,e]
def Mem.anew{es f:Array (Int×Value)}{c:Nat->Str}{i:Nat}{s:Int}{q:Tok}(h:Mem es c i)(r:¬∃e∈es.toList,Value.isStrOf (c i) e.2=true)(k:f.toList.Perm (es.push (s,.str (c i) q)).toList):Mem f c (i+1):=by
 have n:c i∉(es.toList.map λe=>txt e.2):=λz=>r ((h.has _).mpr z)
 rw[Array.toList_push] at k
 let d:=k.map λe=>txt e.2
 rw[Qzq] at d
 refine#[λe u=>?_,?_,λx=>?_,?_]
 ·rcases mQa.mp (k.mem_iff.mp u) with g|g
  ·exact h.1 e g
  ·rw[Qfq] at g
   rw[g]
   exact#[_,_,L]
 ·rw[d.nodup_iff,List.nodup_append]
  refine#[h.2.1,by simp,λa v b p=>?_]
  have o:b=c i:=by simpa [txt] using p
  rw[o]
  intro e
  exact n (e▸v)
 ·rw[d.mem_iff,mQa,h.2.2.1]
  constructor
  ·rintro(⟨j,w,e⟩|t)
   ·exact#[j,by omega,e]
   ·have l:x=c i:=by simpa [txt] using t
    exact#[i,by omega,l.symm]
  ·rintro⟨j,w,e⟩
   by_cases m:j=i
   ·subst m
    exact .inr (by simp[txt,e])
   ·exact .inl #[j,by omega,e]
 ·have:=k.length_eq
  let y:=h.2.2.2
  simp at this
  omega
section
variable{prog:X9}{w:Xc}{A:X_}
def D4{I:X8}{fp J:X7}{n:Nat}{P:Nat->Value->Prop}{St:Nat->Heap->Prop}{R:Result->Shared->Prop}{L:Bool}(W:Walks prog w A.in1 I fp J n P St)(S:X8)(H:S∉fp)(k:Nat->Str)
  (hP:∀i v,i<n->P i v->∃t,v=.str (k i) t) (hn:n+1<scanBound):
  ∀ (m i:Nat) (s:X4) (es:Array (Int×Value)),n-i=m->i<=n->St i s.heap->SS prog w s.heap S es L->Mem es k i->
    (∀h' g a,SS prog w h' S a L->Mem a k n->(∀b o,b∉J->b≠S->s.heap.get? b=some o->h'.get? b=some o)->R (.ok (.ret .none)) {s with heap:=h',toks:=g})->
    codeAny (model prog w) A (.builtin "set.update.loop" {pos:= [.ref S,.ref I]}) R s:=by
 have p:∀{h h':Xe} {es:Array (Int×Value)},SS prog w h S es L->(∀b o,b∉J->h.get? b=some o->h'.get? b=some o)->SS prog w h' S es L:=by
  intro h h' es y j
  let#[o,ep,t,q,r]:=y
  exact#[o,ep,t,j _ _ (λhw=>H (W.sub _ hw)) q,r]
 have x:∀(i:Nat) (s:X4) (es:Array (Int×Value)),i<=n->St i s.heap->SS prog w s.heap S es L->Mem es k i->
   (i=n->∀h' g,(∀b o,b∉J->s.heap.get? b=some o->h'.get? b=some o)->R (.ok (.ret .none)) {s with heap:=h',toks:=g})->
   (i<n->∀h' g a,St (i+1) h'->SS prog w h' S a L->Mem a k (i+1)->(∀b o,b∉J->b≠S->s.heap.get? b=some o->h'.get? b=some o)->codeAny (model prog w) A (.builtin "set.update.loop" {pos:= [.ref S,.ref I]}) R {s with heap:=h',toks:=g})->
   codeAny (model prog w) A (.builtin "set.update.loop" {pos:= [.ref S,.ref I]}) R s:=by
  intro i s es N f y u h0 h1
  refine codeAny_builtin PyProof.Rows.F.entry_set_update_loop ?_
  rw[Around.under_plainId PyProof.Rows.F.plain_set_update_loop]
  show wpAny _ _ (do let __x<-pyNext (.ref I);_) _ _ _
  by_cases d:i<n
  ·refine Qaq (W.item i s _ _ d f λv hp g pv l j=>?_)
   let#[t,rfl]:=hP i v d pv
   let z:=p y j
   refine Qaq (QLq (Gb z (by have:=u.2.2.2;omega) λb h' a B sb X hm=>?_))
   refine Qgq #[plainId_quiet PyProof.Rows.F.plain_set_update_loop _,h1 d h' B a ?_ X ?_ λc o hc a0 q=>?_]
   ·exact W.frame _ _ _ l λc hc o q=>by
     have U:c≠S:=λe=>H (e▸hc)
     rw[sb.2 c U]
     exact q
   ·rcases hm with⟨Y,rfl⟩|⟨Y,h3⟩
    ·exact u.old Y
    ·exact u.anew Y h3
   ·rw[sb.2 c a0]
    exact j c o hc q
  ·have e:i=n:=by omega
   subst e
   refine Qaq (W.done s _ _ f λhp g j=>?_)
   exact Qgq (h0 rfl hp g j)
 intro m
 induction m with
 | zero=>
   intro i s es hm N f y u h
   have e:i=n:=by omega
   refine x i s es N f y u (λ_ h' g j=>h h' g es (p y j) (e▸u) λb o M _ q=>j b o M q) (λd=>absurd d (!0))
 | succ m ih=>
   intro i s es hm N f y u h
   refine x i s es N f y u (λe=>absurd e (!0)) (λd h' g a l z a1 j=>?_)
   exact ih (i+1) {s with heap:=h',toks:=g} a (!0) (!0) l z a1 (λZ B K X mm Q=>h Z B K X mm λb o M C q=>Q b o M C (j b o M C q))
end
def cz:Slot "set_iterator" (Str.ofString "__next__") "set_iterator.__next__":=
 Slot.of (owner:="set_iterator") (n:="__next__") (by rw[typeLookup_type,builtinLookup_eq_fast];rfl) (by decide +kernel) (by decide +kernel) (by decide +kernel) (.inl (by decide +kernel)) (by rw[isSubtype_type];rfl) (by decide +kernel)
def fX:entryFor table "set_iterator.__next__"=some Builtin.«set_iterator.__next__»:=by rfl
def gP(a:Xd):argsOk "set_iterator.__next__" {pos:= [a]}:=by with_unfolding_all rfl
def sP:entryFor table "set.__iter__"=some Builtin.«frozenset.__iter__»:=entryFor_alias (by rfl) L (show _="frozenset.__iter__" by decide +kernel) (by rfl)
section
variable{prog:X9}{w:Xc}{A:X_}{E:X0}{s:X4}
def xx(h:Xe)(I S:X8)(a:Xd)(i n ep:Nat):Prop:=∃o,h.get? I=some o/\o.cls=.type "set_iterator" /\o.data=.fields (List.toArray [a,.int i 0,.ref S,.int n 0,.int ep 0])
def xY(h:Xe)(S:X8)(es:Array (Int×Value))(ep:Nat)(t:SetTable):Prop:=∃o,h.get? S=some o/\o.data=.set es ep t/\t.fits es.size=true
def yl{I S:X8}{slot:Int}{p:Tok}{i ep nx:Nat}{es:Array (Int×Value)}{t:SetTable}{x:Xd}{Q:Option Value->Shared->Prop}(u:xx s.heap I S (.int slot p) i es.size ep)(y:xY s.heap S es ep t)
  (z:∀(A:X_) (n:X0) (l:Option (Value×Nat)->Shared->Prop),l (some (x,nx)) s->wpAny (model prog w) A (setNext S slot.toNat i ep) l n s)
  (q:∀h',Heap.SameBut I s.heap h'->xx h' I S (.int nx 0) (i+1) es.size ep->Q (some x) {s with heap:=h'}):wpAny (model prog w) A (pyNext (.ref I)) Q E s:=by
 let#[o,a,m,c]:=u
 let#[B,d,e,r]:=y
 have h:s.TypeIs (.ref I) "set_iterator":=#[o,a,m]
 unfold pyNext
 refine Qaq (wpAny_attempt (QiQ h cz (wpAny_call_entry cz h fX ?_ (gP _))))
 unfold Builtin.«set_iterator.__next__» slotArgs
 refine Qaq (QgQ L (QgQ L (Qgq (Qaq ?_))))
 unfold fieldsOf
 refine Qaq (wpAny_load' a ?_)
 rw[c]
 refine Qgq ?_
 show wpAny _ _ (do let __do_lift<-setEntries S;_) _ _ _
 unfold setEntries
 refine Qaq (Qaq (wpAny_setState_of d e r (Qgq (QgQ (by simp) ?_))))
 show wpAny _ _ (do let __do_lift<-setNext S slot.toNat ((i:Nat):Int).toNat ((ep:Nat):Int).toNat;_) _ _ _
 rw[Int.toNat_natCast,Int.toNat_natCast]
 refine Qaq (z _ _ _ ?_)
 have f:(Obj.mapFields (λv=>v.setIfInBounds 0 (rawInt nx)) o).data=.fields (List.toArray [.int nx 0,.int i 0,.ref S,.int es.size 0,.int ep 0]):=by rw[Obj.data_mapFields c];rfl
 have k:(s.heap.update I (Obj.mapFields λv=>v.setIfInBounds 0 (rawInt nx))).get? I=some (Obj.mapFields (λv=>v.setIfInBounds 0 (rawInt nx)) o):=Heap.get?_update_self _ a (Obj.isFreed_of_fields f)
 refine Qaq (wpAny_setField a c (by simp) ?_)
 refine Qaq (wpAny_setField k f (by simp) (Qgq #[_,L,Qgq (q _ ?_ ?_)]))
 ·exact#[by rw[bx.1,bx.1],λb g=>by rw[bx.2 b g,bx.2 b g]]
 ·have j:(Obj.mapFields (λv=>v.setIfInBounds 1 (rawInt (i+1))) (Obj.mapFields (λv=>v.setIfInBounds 0 (rawInt nx)) o)).data=.fields (List.toArray [.int nx 0,.int ((i+1:Nat):Int) 0,.ref S,.int es.size 0,.int ep 0]):=by rw[Obj.data_mapFields f];rfl
  exact#[_,Heap.get?_update_self _ k (Obj.isFreed_of_fields j),by rw[Obj.cls_mapFields,Obj.cls_mapFields];exact m,j]
def AR{Q:Option Value->Shared->Prop}{h:Xe}{g:Array GenState}{d:Drawn}{f:Nat}{os:OsState}(i:A.handled=none)(q:∀h',(∀b o,h.get? b=some o->h'.get? b=some o)->Q none #[h',g,d,f,os]):
  wpAny (model prog w) A.in1 (do let e<-newExc (.type "StopIteration") [];raiseNew e:Sem PySem.Fin) (λc a=>∃v,c=Fin.done (Flow.ret v)/\wpAny (model prog w) A (pure (some v)) Q E a)
   (λe a=>wpAny (model prog w) A (do let b<-isInstance e (.type "StopIteration");if b=true then pure none else throw e) Q E a) #[h,g,d,f,os]:=by
 unfold newExc
 refine Qaq (Qaq (wpAny_newTuple (Qaq (wpAny_of_eq (show firstArgMember (Value.type "StopIteration") []=pure Value.none from L) (QhQ ?_ (sizeOk_excFields _ _ _ _ _ _ _ _)))) (!1)))
 refine wpAny_raiseNew_none (by exact i) ?_
 refine Qaq (wpAny_isInstance #[_,Qrq _ L,L] isSubtype_stop (wpAny_ite_true L (Qgq (q _ λb o e=>?_))))
 exact Qcq _ (Qcq _ e)
def kg{I S:X8}{slot:Int}{m:Tok}{i ep:Nat}{es:Array (Int×Value)}{t:SetTable}{Q:Option Value->Shared->Prop}(r:A.handled=none)(p:xx s.heap I S (.int slot m) i es.size ep)(v:xY s.heap S es ep t)
  (x:∀(A:X_) (l:X0) (h:Option (Value×Nat)->Shared->Prop),h none s->wpAny (model prog w) A (setNext S slot.toNat i ep) h l s)
  (q:∀h',(∀b o,b≠I->s.heap.get? b=some o->h'.get? b=some o)->Q none {s with heap:=h'}):wpAny (model prog w) A (pyNext (.ref I)) Q E s:=by
 let#[o,c,y,f]:=p
 let#[z,a,d,n]:=v
 have g:s.TypeIs (.ref I) "set_iterator":=#[o,c,y]
 unfold pyNext
 refine Qaq (wpAny_attempt (QiQ g cz (wpAny_call_entry cz g fX ?_ (gP _))))
 unfold Builtin.«set_iterator.__next__» slotArgs
 refine Qaq (QgQ L (QgQ L (Qgq (Qaq ?_))))
 unfold fieldsOf
 refine Qaq (wpAny_load' c ?_)
 rw[f]
 refine Qgq ?_
 show wpAny _ _ (do let __do_lift<-setEntries S;_) _ _ _
 unfold setEntries
 refine Qaq (Qaq (wpAny_setState_of a d n (Qgq (QgQ (by simp) ?_))))
 show wpAny _ _ (do let __do_lift<-setNext S slot.toNat ((i:Nat):Int).toNat ((ep:Nat):Int).toNat;_) _ _ _
 rw[Int.toNat_natCast,Int.toNat_natCast]
 refine Qaq (x _ _ _ ?_)
 refine Qaq (wpAny_setField c f (by simp) ?_)
 exact AR r λh' k=>q h' λb u j e=>k b u (by rw[bx.2 b j];exact e)
def EA{I S T:X8}{i ep pl:Nat}{es:Array (Int×Value)}{t:SetTable}{x:Int×Value}{a:Xa}{ptk:Tok}{Q:Option Value->Shared->Prop}(p:xx s.heap I S (.ref T) i es.size ep)(y:xY s.heap S es ep t)(m:s.heap.IsTuple T a)
  (n:a[i]?=some (.int pl ptk)) (r:es[pl]?=some x) (q:∀h',Heap.SameBut I s.heap h'->xx h' I S (.ref T) (i+1) es.size ep->Q (some x.2) {s with heap:=h'}):wpAny (model prog w) A (pyNext (.ref I)) Q E s:=by
 let#[o,e,l,f]:=p
 let#[C,c,d,k]:=y
 let#[z,h,u,B,g]:=m
 have b:s.TypeIs (.ref I) "set_iterator":=#[o,e,l]
 unfold pyNext
 refine Qaq (wpAny_attempt (QiQ b cz (wpAny_call_entry cz b fX ?_ (gP _))))
 unfold Builtin.«set_iterator.__next__» slotArgs
 refine Qaq (QgQ L (QgQ L (Qgq (Qaq ?_))))
 unfold fieldsOf
 refine Qaq (wpAny_load' e ?_)
 rw[f]
 refine Qgq ?_
 show wpAny _ _ (do let __do_lift<-setEntries S;_) _ _ _
 unfold setEntries
 refine Qaq (Qaq (wpAny_setState_of c d k (Qgq (QgQ (by simp) ?_))))
 show wpAny _ _ (do let __x<-seqItems? (.ref T);_) _ _ _
 unfold seqItems?
 refine Qaq (Qaq (wpAny_load' h ?_))
 rw[g]
 refine Qgq ?_
 dsimp only
 rw[Int.toNat_natCast,n]
 dsimp only
 rw[Int.toNat_natCast,Int.toNat_natCast]
 unfold setNextDrawn
 refine Qaq (Qaq (wpAny_setState_of c d k ?_))
 dsimp only
 refine QgQ (by simp) ?_
 rw[r]
 refine Qgq ?_
 refine Qaq (wpAny_setField e f (by simp) (Qgq #[_,L,Qgq (q _ bx ?_)]))
 have j:(Obj.mapFields (λv=>v.setIfInBounds 1 (rawInt (i+1))) o).data=.fields (List.toArray [.ref T,.int ((i+1:Nat):Int) 0,.ref S,.int es.size 0,.int ep 0]):=by rw[Obj.data_mapFields f];rfl
 exact#[_,Heap.get?_update_self _ e (Obj.isFreed_of_fields j),by rw[Obj.cls_mapFields];exact l,j]
def wu{I S T:X8}{i ep:Nat}{es:Array (Int×Value)}{t:SetTable}{a:Xa}{Q:Option Value->Shared->Prop}(z:A.handled=none)(x:xx s.heap I S (.ref T) i es.size ep)(F:xY s.heap S es ep t)(p:s.heap.IsTuple T a)
  (r:a[i]?=none) (q:∀h',(∀b o,b≠I->s.heap.get? b=some o->h'.get? b=some o)->Q none {s with heap:=h'}):wpAny (model prog w) A (pyNext (.ref I)) Q E s:=by
 let#[o,d,H,f]:=x
 let#[M,j,k,u]:=F
 let#[J,h,C,K,g]:=p
 have c:s.TypeIs (.ref I) "set_iterator":=#[o,d,H]
 unfold pyNext
 refine Qaq (wpAny_attempt (QiQ c cz (wpAny_call_entry cz c fX ?_ (gP _))))
 unfold Builtin.«set_iterator.__next__» slotArgs
 refine Qaq (QgQ L (QgQ L (Qgq (Qaq ?_))))
 unfold fieldsOf
 refine Qaq (wpAny_load' d ?_)
 rw[f]
 refine Qgq ?_
 show wpAny _ _ (do let __do_lift<-setEntries S;_) _ _ _
 unfold setEntries
 refine Qaq (Qaq (wpAny_setState_of j k u (Qgq (QgQ (by simp) ?_))))
 show wpAny _ _ (do let __x<-seqItems? (.ref T);_) _ _ _
 unfold seqItems?
 refine Qaq (Qaq (wpAny_load' h ?_))
 rw[g]
 refine Qgq ?_
 dsimp only
 rw[Int.toNat_natCast,r]
 dsimp only
 have m:(Obj.mapFields (λv=>v.setIfInBounds 0 (rawInt 0)) o).data=.fields (List.toArray [rawInt 0,.int i 0,.ref S,.int es.size 0,.int ep 0]):=by rw[Obj.data_mapFields f];rfl
 have y:(s.heap.update I (Obj.mapFields λv=>v.setIfInBounds 0 (rawInt 0))).get? I=some (Obj.mapFields (λv=>v.setIfInBounds 0 (rawInt 0)) o):=Heap.get?_update_self _ d (Obj.isFreed_of_fields m)
 refine Qaq (wpAny_setField d f (by simp) (Qaq (wpAny_setField y m (by simp) ?_)))
 exact AR z λh' n=>q h' λb B l e=>n b B (by rw[bx.2 b l,bx.2 b l];exact e)
end
theorem m_{α:Type}:∀{xs:List α} {i:Nat} (h:i<xs.length),(xs[i]::xs.eraseIdx i).Perm xs
 |x::xs,0,h=>by simp
 | x::xs,i+1,h=>by
   have a:i<xs.length:=by simpa using h
   rw[List.eraseIdx_cons_succ,List.getElem_cons_succ]
   exact(List.Perm.swap _ _ _).trans ((m_ a).cons x)
def ny:Slot "set_iterator" (Str.ofString "__iter__") "set_iterator.__iter__":=
 Slot.of (owner:="set_iterator") (n:="__iter__") (by rw[typeLookup_type,builtinLookup_eq_fast];rfl) (by decide +kernel) (by decide +kernel) (by decide +kernel) (.inl (by decide +kernel)) (by rw[isSubtype_type];rfl) (by decide +kernel)
def uC:entryFor table "set_iterator.__iter__"=some Builtin.«dict_keyiterator.__iter__»:=entryFor_alias (by rfl) L (show _="dict_keyiterator.__iter__" by decide +kernel) (by rfl)
def vN(a:Xd):argsOk "set_iterator.__iter__" {pos:= [a]}:=by with_unfolding_all rfl
theorem A4{α:Type}(d:Nat->Nat):∀(c k:Nat) (b:List α) (out:Array α),b.length<=c->(pickOrder.go d c k b out).toList.Perm (out.toList++b)
 | 0,k,b,out,h=>by
   have e:b= []:=List.length_eq_zero_iff.mp (!0)
   subst e
   rw[pickOrder.go.eq_1,List.append_nil]
 | c+1,k,b,out,h=>by
   rw[pickOrder.go.eq_2]
   cases f:b[d k%b.length]? with
   | none=>
     let i:=List.getElem?_eq_none_iff.mp f
     have e:b= []:=by
       cases b with
       |nil=>rfl
       |cons a l=>exact absurd (Nat.mod_lt (d k) (Nat.succ_pos l.length)) (by simpa using i)
     subst e
     simp
   | some x=>
     let#[g,j]:=gQs.mp f
     dsimp only
     refine(A4 d c (k+1) _ _ (by rw[List.length_eraseIdx];split <;>omega)).trans ?_
     rw[Array.toList_push,Qvq]
     refine List.Perm.append_left _ ?_
     rw[<-j]
     exact m_ g
def B8{α:Type}(a:Nat->Nat)(xs:Array α):(pickOrder a xs).toList.Perm xs.toList:=by
 unfold pickOrder
 refine(A4 a xs.size 0 xs.toList (List.toArray []) (by simp)).trans ?_
 simp
section
variable{prog:X9}{w:Xc}{A:X_}{E:X0}
def Cy{M:Model}{s:X4}{a:Source}{n:Nat}{Q:Nat->Shared->Prop}(e:n≠0)(q:∀i d,i<n->Q i {s with drawn:=d}):wpAny M A (choose a n) Q E s:=by
 intro c p b
 show Sem.wp M c (Sem.choose a n Sem.pure) _ _ p s
 rw[Sem.wp_choose]
 exact#[e,by rw[Sem.wp_pure];exact q _ _ (Nat.mod_lt _ (!0))]
theorem nz{α:Type}:∀(n:Nat) (xs:List α) {s:X4} {Q:List α->Shared->Prop},xs.length<=n->(∀ys d,ys.Perm xs->Q ys {s with drawn:=d})->wpAny (model prog w) A (drawOrder n xs) Q E s
 | 0,xs,s,Q,h,q=>by
   have e:xs= []:=List.length_eq_zero_iff.mp (!0)
   subst e
   rw[drawOrder.eq_1]
   exact Qgq (q [] s.drawn (List.Perm.refl _))
 | n+1,[],s,Q,h,q=>by
   rw[drawOrder.eq_2 _ (!0)]
   exact Qgq (q [] s.drawn (List.Perm.refl _))
 | n+1,x::xs,s,Q,h,q=>by
   rw[drawOrder.eq_3 _ _ (by simp)]
   refine Qaq (Cy (by simp) λi d a=>?_)
   let e:=gQe a
   rw[e]
   refine Qaq (nz n _ (by rw[List.length_eraseIdx,Qhq a];simp at h|-;omega) λys c b=>Qgq (q _ _ ?_))
   exact(b.cons _).trans (m_ a)
def oy(prog:X9)(w:Xc)(es:Array (Int×Value))(S:X8)(m:Nat)(I:X8)(h:Xe):Prop:=
 ∃(d c:X7) (St:Nat->Heap->Prop) (a:X5),(∀A:Around,A.handled=none->Walks prog w A I d c es.size (λi v=>a[i]?=some v) St)/\St 0 h/\(∀b∈d,b<h.objs.size/\(b=S\/m<=b))/\c= [I]/\a.Perm (es.toList.map (·.2))
def xx.at{h h':Xe}{I S:X8}{f:Xd}{i n ep:Nat}(b:xx h I S f i n ep)(k:∀o,h.get? I=some o->h'.get? I=some o):xx h' I S f i n ep:=by
 let#[o,a,r]:=b
 exact#[o,k o a,r]
def xY.at{h h':Xe}{S:X8}{es:Array (Int×Value)}{ep:Nat}{t:SetTable}(b:xY h S es ep t)(k:∀o,h.get? S=some o->h'.get? S=some o):xY h' S es ep t:=by
 let#[o,a,r]:=b
 exact#[o,k o a,r]
def rR{s:X4}{I S:X8}{f:Xd}{i n ep:Nat}{Q:X0}(b:xx s.heap I S f i n ep)(q:Q (.ref I) s):wpAny (model prog w) A (pyIter (.ref I)) Q E s:=by
 let#[o,c,d,e]:=b
 have a:s.TypeIs (.ref I) "set_iterator":=#[o,c,d]
 exact wpAny_pyIter_slot a ny (wpAny_call_entry ny a uC (Qgq #[_,L,"set_iterator",_,a,cz.lookup,q]) (vN _))
def B7{h:Xe}{I S:X8}{ep:Nat}{es:Array (Int×Value)}{t:SetTable}(v:S≠I)(c:w.params.followText "set-order"=true)(K:xx h I S (.int 0 0) 0 es.size ep)(z:xY h S es ep t)(l:I<h.objs.size/\S<h.objs.size){m:Nat}(N:m<=I):oy prog w es S m I h:=by
 let y:=B8 (w.params.setOrder S ep) es
 refine#[[I,S],[I],λi h=>xx h I S (.int 0 0) i es.size ep/\xY h S es ep t,(pickOrder (w.params.setOrder S ep) es).toList.map (·.2),λA J=>?_,#[K,z],λb c=>?_,L,y.map _]
 ·have d:∀(s:X4) (i:Nat),xY s.heap S es ep t->∀(A:X_) (g:X0) (f:Option (Value×Nat)->Shared->Prop),f (Option.map (λe=>(e.snd,0)) (pickOrder (w.params.setOrder S ep) es)[i]?) s->wpAny (model prog w) A (setNext S (0:Int).toNat i ep) f g s:=by
   intro s i z A g f q
   let#[P,n,p,B]:=z
   unfold setNext setsByText
   refine Qaq (wpAny_setState_of n p B ?_)
   dsimp only
   refine Qaq (Qaq (wpAny_askSetting (Qgq (wpAny_ite_true (Qeq c) (QgQ (by simp) (Qaq ?_))))))
   unfold setWalk setsByText
   refine Qaq (wpAny_setState_of n p B ?_)
   dsimp only
   refine Qaq (Qaq (wpAny_askSetting (Qgq (wpAny_ite_true (Qeq c) (Qaq (wpAny_askSetting (Qgq (Qgq q))))))))
  refine#[λb c=>by simp at c;simp[c],λi h r a k=>#[a.1.at λo e=>k I (by simp) o e,a.2.at λo e=>k S (by simp) o e],λi s Q E R a j=>?_,λs Q E a j=>?_,λi s Q E a j=>rR a.1 j]
  ·have M:i<(pickOrder (w.params.setOrder S ep) es).size:=by
    have:=y.length_eq
    simp at this
    omega
   have u:(pickOrder (w.params.setOrder S ep) es)[i]?=some (pickOrder (w.params.setOrder S ep) es)[i]:=Array.getElem?_eq_getElem M
   refine yl (x:=(pickOrder (w.params.setOrder S ep) es)[i].2) (nx:=0) a.1 a.2 (λA g f q=>d s i a.2 A g f (by rw[u];exact q)) λr C H=>?_
   refine j _ r s.toks ?_ #[H,a.2.at λo e=>by rw[C.2 S v];exact e] λb o c e=>by rw[C.2 b (by simpa using c)];exact e
   rw[gQm,Array.getElem?_toList,u]
   rfl
  ·have u:(pickOrder (w.params.setOrder S ep) es)[es.size]?=none:=by
    rw[Array.getElem?_eq_none_iff]
    have:=y.length_eq
    simp at this
    omega
   refine kg J a.1 a.2 (λA g f q=>d s es.size a.2 A g f (by rw[u];exact q)) λr F=>j r s.toks λb o c e=>F b o (by simpa using c) e
 ·simp at c
  rcases c with rfl|rfl
  ·exact#[l.1,.inr N]
  ·exact#[l.2,.inl L]
end
section
variable{prog:X9}{w:Xc}{A:X_}{E:X0}
def Aj{h:Xe}{I S T:X8}{ep:Nat}{es:Array (Int×Value)}{t:SetTable}{pl:List Nat}(v:S≠I)(J:T≠I)(z:pl.Perm (List.range es.size))(M:xx h I S (.ref T) 0 es.size ep)(P:xY h S es ep t)(u:h.IsTuple T (pl.map λ(i:Nat)=>rawInt (i:Int)).toArray)
  (d:I<h.objs.size/\S<h.objs.size/\T<h.objs.size) {m:Nat} (C:m<=I/\m<=T):oy prog w es S m I h:=by
 have R:pl.length=es.size:=by have:=z.length_eq;simpa using this
 have zu:∀j∈pl,j<es.size:=λj N=>by simpa using (z.mem_iff.mp N)
 have y:∀i,i<es.size->∃j x,pl[i]?=some j/\es[j]?=some x:=λi f=>by
  let r:=gQe (l:=pl) (i:=i) (!0)
  let p:=zu _ (List.getElem_mem (l:=pl) (n:=i) (!0))
  exact#[_,_,r,Array.getElem?_eq_getElem p]
 refine#[[I,S,T],[I],λi h=>xx h I S (.ref T) i es.size ep/\xY h S es ep t/\h.IsTuple T (pl.map λ(i:Nat)=>rawInt (i:Int)).toArray,pl.map λj=>((es[j]?.map (·.2)).getD .none),λA K=>?_,#[M,P,u],λb c=>?_,L,?_]
 ·refine#[λb c=>by simp at c;simp[c],λi h q a k=>#[a.1.at λo e=>k I (by simp) o e,a.2.1.at λo e=>k S (by simp) o e,a.2.2.at λo e=>k T (by simp) o e],λi s Q E f a g=>?_,λs Q E a g=>?_,λi s Q E a g=>rR a.1 g]
  ·let#[j,x,r,p]:=y i f
   refine EA (pl:=j) (ptk:=0) (x:=x) a.1 a.2.1 a.2.2 (by rw[List.getElem?_toArray,gQm,r];rfl) p λq B H=>?_
   refine g _ q s.toks ?_ #[H,a.2.1.at λo e=>by rw[B.2 S v];exact e,a.2.2.at λo e=>by rw[B.2 T J];exact e] λb o c e=>by rw[B.2 b (by simpa using c)];exact e
   rw[gQm,r,Option.map_some,p]
   rfl
  ·refine wu K a.1 a.2.1 a.2.2 (by rw[List.getElem?_toArray,gQm,List.getElem?_eq_none (!0)];rfl) λq F=>g q s.toks λb o c e=>F b o (by simpa using c) e
 ·simp at c
  rcases c with rfl|rfl|rfl
  ·exact#[d.1,.inr C.1]
  ·exact#[d.2.1,.inl L]
  ·exact#[d.2.2,.inr C.2]
 ·refine(z.map _).trans ?_
  have e:(List.range es.size).map (λj=>((es[j]?.map (·.2)).getD Value.none))=es.toList.map (·.2):=by
   apply List.ext_getElem?
   intro i
   rw[gQm,gQm]
   by_cases f:i<es.size
   ·rw[List.getElem?_range f,Array.getElem?_toList,Array.getElem?_eq_getElem f,Option.map_some,Option.map_some,Array.getElem?_eq_getElem f]
    rfl
   ·rw[List.getElem?_eq_none (by simp;omega),List.getElem?_eq_none (by simp;omega)]
    rfl
  rw[e]
def HR(p:Nat):SetTable.below (List.toArray [p]) 0=0/\SetTable.below (List.toArray [p]) (p+1)=1:=by
 constructor <;>simp[SetTable.below,SetTable.below.go]
def mB{s:X4}{S:X8}{ep slot i:Nat}{es:Array (Int×Value)}{t:SetTable}(e:w.params.followText "set-order"=false)(l:es.size<=1)(g:t.led=true)(k:xY s.heap S es ep t)(A:X_)(f:X0)(d:Option (Value×Nat)->Shared->Prop)
  (q:d (match es[SetTable.below t.place slot]?,t.place[SetTable.below t.place slot]? with|some (_,x),some j=>some (x,j+1)|_,_=>none) s):wpAny (model prog w) A (setNext S slot i ep) d f s:=by
 let#[m,a,b,h]:=k
 unfold setNext setsByText
 refine Qaq (wpAny_setState_of a b h ?_)
 dsimp only
 refine Qaq (Qaq (wpAny_askSetting (Qgq (QgQ (Qdq (by intro z;have c:w.params.followText "set-order"=true:=z;rw[e] at c;cases c)) ?_))))
 refine QgQ ?_ ?_
 ·refine Qdq ?_
  show¬((!t.plain&&decide (es.size>1))=true)
  simp
  omega
 ·refine Qaq ?_
  refine QgQ ?_ ?_
  ·exact Qdq (by rw[g];simp)
  ·exact Qgq (Qgq q)
def Er{h:Xe}{I S:X8}{ep:Nat}{es:Array (Int×Value)}{t:SetTable}(C:S≠I)(c:w.params.followText "set-order"=false)(J:es.size<=1)(K:t.led=true)(W:xx h I S (.int 0 0) 0 es.size ep)(P:xY h S es ep t)(v:I<h.objs.size/\S<h.objs.size){m:Nat}(hm:m<=I):oy prog w es S m I h:=by
 have y:t.place.size=es.size:=by
  let#[_,_,_,U]:=P
  simp[SetTable.fits] at U
  exact U.1
 have N:es.size=0\/es.size=1:=by omega
 have f:∀b∈[I,S],b<h.objs.size/\(b=S\/m<=b):=λb c=>by
  simp at c
  rcases c with rfl|rfl
  ·exact⟨v.1,.inr hm⟩
  ·exact⟨v.2,.inl L⟩
 rcases N with g|g
 ·refine⟨[I,S],[I],λi h=>xx h I S (.int 0 0) i es.size ep/\xY h S es ep t,[],λA M=>?_,⟨W,P⟩,f,L,?_⟩
  ·refine⟨λb c=>by simp at c;simp[c],λi h l a k=>⟨a.1.at λo e=>k I (by simp) o e,a.2.at λo e=>k S (by simp) o e⟩,λi s Q E X a d=>absurd X (!0),λs Q E a d=>?_,λi s Q E a d=>rR a.1 d⟩
   refine kg M a.1 a.2 (λA r n q=>mB c J K a.2 A r n ?_) λl F=>d l s.toks λb o c e=>F b o (by simpa using c) e
   have e:es= (List.toArray []):=Array.eq_empty_of_size_eq_zero g
   subst e
   simpa using q
  ·have e:es= (List.toArray []):=Array.eq_empty_of_size_eq_zero g
   subst e
   simp
 ·obtain⟨x,B⟩:∃x,es= (List.toArray [x]):=Array.size_eq_one_iff.mp g
  obtain⟨z,u⟩:∃p,t.place= (List.toArray [p]):=Array.size_eq_one_iff.mp (by rw[y,g])
  let R:=HR z
  refine#[[I,S],[I],λi h=>xx h I S (.int ((if i=0 then 0 else z+1:Nat):Int) 0) i es.size ep/\xY h S es ep t,[x.2],λA M=>?_,#[W,P],f,L,by rw[B];exact List.Perm.refl _]
  refine#[λb c=>by simp at c;simp[c],λi h l a k=>#[a.1.at λo e=>k I (by simp) o e,a.2.at λo e=>k S (by simp) o e],λi s Q E X a d=>?_,λs Q E a d=>?_,λi s Q E a d=>rR a.1 d]
  ·have H:i=0:=by omega
   subst H
   refine yl (x:=x.2) (nx:=z+1) a.1 a.2 (λA r n q=>mB c J K a.2 A r n ?_) λl Y Z=>?_
   ·show n (match es[SetTable.below t.place 0]?,t.place[SetTable.below t.place 0]? with|some (_,x),some j=>some (x,j+1)|_,_=>none) s
    rw[B,u,R.1]
    exact q
   ·exact d _ l s.toks L #[Z,a.2.at λo e=>by rw[Y.2 S C];exact e] λb o c e=>by rw[Y.2 b (by simpa using c)];exact e
  ·rw[g] at a
   refine kg M (by rw[g];exact a.1) a.2 (λA r n q=>mB c J K a.2 A r n ?_) λl F=>d l s.toks λb o c e=>F b o (by simpa using c) e
   show n (match es[SetTable.below t.place (z+1)]?,t.place[SetTable.below t.place (z+1)]? with|some (_,x),some j=>some (x,j+1)|_,_=>none) s
   rw[B,u,R.2]
   exact q
end
section
variable{prog:X9}{w:Xc}{A:X_}{E:X0}{s:X4}
def Fb{S:X8}{es:Array (Int×Value)}{Q:X0}(hS:SS prog w s.heap S es (!(w.params.followText "set-order")))
  (q:∀I h' d,(∀b o,s.heap.get? b=some o->h'.get? b=some o)->s.heap.get? I=none->oy prog w es S s.heap.objs.size I h'->Q (.ref I) {s with heap:=h',drawn:=d}):wpAny (model prog w) A (pyIter (.ref S)) Q E s:=by
 let#[o,h,t,j,M,p,a0,Z,u,hL,z]:=hS
 have R:s.TypeIs (.ref S) "set":=#[o,j,M.1]
 have n:S<s.heap.objs.size:=Qiq j
 refine wpAny_pyIter_slot R F.slot_set_iter (wpAny_call_entry F.slot_set_iter R sP ?_ (F.args_set_iter_1 _))
 unfold Builtin.«frozenset.__iter__» Builtin.Frozenset.slot0 slotArgs
 refine Qaq (Qaq (QgQ L (QgQ L (Qgq (Qgq ?_)))))
 unfold Builtin.Frozenset.sizeOf setEntries
 refine Qaq (Qaq (Qaq (wpAny_setState_of j p u (Qgq (Qgq ?_)))))
 unfold setDrawn setsByText
 refine Qaq (Qaq (wpAny_setState_of j p u ?_))
 dsimp only
 refine Qaq (Qaq (wpAny_askSetting (Qgq (Qgq ?_))))
 have f:∀(a:Xd) (h':Xe) (d:Drawn),(∀b o,s.heap.get? b=some o->h'.get? b=some o)->s.heap.objs.size<=h'.objs.size->
   (xx (h'.push {cls:=.type "set_iterator",data:=.fields (List.toArray [a,rawInt 0,.ref S,rawInt es.size,rawInt h])}) h'.objs.size S a 0 es.size h->xY (h'.push {cls:=.type "set_iterator",data:=.fields (List.toArray [a,rawInt 0,.ref S,rawInt es.size,rawInt h])}) S es h t->
    h'.objs.size<(h'.push {cls:=.type "set_iterator",data:=.fields (List.toArray [a,rawInt 0,.ref S,rawInt es.size,rawInt h])}).objs.size->S<(h'.push {cls:=.type "set_iterator",data:=.fields (List.toArray [a,rawInt 0,.ref S,rawInt es.size,rawInt h])}).objs.size->oy prog w es S s.heap.objs.size h'.objs.size (h'.push {cls:=.type "set_iterator",data:=.fields (List.toArray [a,rawInt 0,.ref S,rawInt es.size,rawInt h])}))->
   wpAny (model prog w) A.in1 (do let e<-setEpoch S;let r<-newFields "set_iterator" [a,rawInt 0,.ref S,rawInt es.size,rawInt e];ret r)
    (λf P=>∃v,f=Fin.done (Flow.ret v)/\∃X r,P.TypeIs v X/\typeLookup (.type X) (Str.ofString "__next__")=pure (some r)/\Q v P) E #[h',s.gens,d,s.toks,s.os]:=by
  intro a h' d l a1 hw
  unfold setEpoch newFields
  refine Qaq (Qaq (wpAny_setState_of (l _ _ j) p u (Qgq (Qaq (QhQ ?_ ?_)))))
  ·let U:=Qrq h' (o:={cls:=.type "set_iterator",data:=.fields (List.toArray [a,rawInt 0,.ref S,rawInt es.size,rawInt h])}) L
   refine Qgq #[_,L,"set_iterator",_,#[_,U,L],cz.lookup,?_]
   refine q h'.objs.size _ d (λb o e=>Qcq _ (l b o e)) ?_ (hw #[_,U,L,L] #[o,Qcq _ (l _ _ j),p,u] (by rw[Heap.size_push];exact Nat.lt_succ_self _) (by rw[Heap.size_push];exact Nat.lt_succ_of_lt (Qiq (l _ _ j))))
   cases e:s.heap.get? h'.objs.size with
   |none=>rfl
   |some ob=>exact absurd (Qiq (l _ _ e)) (Nat.lt_irrefl _)
  ·show(5:Nat)<=_
   decide
 have g:∀h':Heap,s.heap.objs.size<=h'.objs.size->S≠h'.objs.size:=λh' m=>Qwq (Qqq n m)
 by_cases k:w.params.followText "set-order"=true
 ·refine QgQ (Qdq ?_) ?_
  ·show¬((!w.params.followText "set-order" &&(!t.plain&&decide (es.size>1)))=true)
   rw[k]
   simp
  ·refine Qaq (Qgq ?_)
   exact f (rawInt 0) s.heap s.drawn (λ_ _ e=>e) (Qmq _) λC Y h3 h4=>B7 (g _ (Qmq _)) k C Y #[h3,h4] (Qmq _)
 ·have c:w.params.followText "set-order"=false:=Bool.eq_false_iff.mpr k
  have N:t.led=true:=by rw[hL,c];rfl
  by_cases C:es.size<=1
  ·refine QgQ (Qdq ?_) ?_
   ·show¬((!w.params.followText "set-order" &&(!t.plain&&decide (es.size>1)))=true)
    rw[show decide (es.size>1)=false from Qdq (!0)]
    simp
   ·refine Qaq (Qgq ?_)
    exact f (rawInt 0) s.heap s.drawn (λ_ _ e=>e) (Qmq _) λJ B x H=>Er (g _ (Qmq _)) c C N J B #[x,H] (Qmq _)
  ·refine wpAny_ite_true (Qeq ?_) ?_
   ·show(!w.params.followText "set-order" &&(!t.plain&&decide (es.size>1)))=true
    rw[c,z (!0),show decide (es.size>1)=true from Qeq (!0)]
    rfl
   ·refine Qaq (nz _ _ (by simp) λK d W=>?_)
    have hl:K.length=es.size:=by have:=W.length_eq;simpa using this
    refine Qaq (wpAny_newTuple ?_ ?_)
    ·refine f (.ref s.heap.objs.size) _ d (λb o e=>Qcq _ e) (by rw[Heap.size_push];exact Nat.le_succ _) λJ B x H=>?_
     let y:=Qrq s.heap (o:={cls:=.type "tuple",data:=.seq (K.map λ(i:Nat)=>rawInt (i:Int)).toArray}) L
     have m:s.heap.objs.size<(s.heap.push {cls:=.type "tuple",data:=.seq (K.map λ(i:Nat)=>rawInt (i:Int)).toArray}).objs.size:=by rw[Heap.size_push];exact Nat.lt_succ_self _
     exact Aj (T:=s.heap.objs.size) (g _ (by rw[Heap.size_push];exact Nat.le_succ _)) (Qwq m) W J B #[_,Qcq _ y,L,_,L] #[x,H,Nat.lt_trans m x] #[nQl m,Qmq _]
    ·rw[lQm,hl]
     exact fits_of_scanBound Z
end
section
variable{prog:X9}{w:Xc}{A:X_}{E:X0}{s:X4}
def SS.at{h h':Xe}{S:X8}{es:Array (Int×Value)}{L:Bool}(c:SS prog w h S es L)(k:∀o,h.get? S=some o->h'.get? S=some o):SS prog w h' S es L:=by
 let#[o,a,t,b,r]:=c
 exact#[o,a,t,k o b,r]
def ye{S:X8}{es:Array (Int×Value)}{Q:List Value->Shared->Prop}(hh:A.handled=none)(hS:SS prog w s.heap S es (!(w.params.followText "set-order")))
  (q:∀vs h' d tk,vs.Perm (es.toList.map (·.2))->(∀b o,s.heap.get? b=some o->h'.get? b=some o)->s.heap.objs.size<=h'.objs.size->Q vs {s with heap:=h',drawn:=d,toks:=tk}):wpAny (model prog w) A (collect (.ref S)) Q E s:=by
 let U:=hS
 let#[o,ep,t,N,M,hd,b0,r,hf,hL,a6]:=hS
 have g:S<s.heap.objs.size:=Qiq N
 unfold collect
 refine Qaq (wpAny_runValue (codeAny_builtin F.entry_proto_collect ?_))
 rw[Around.under_plainId F.plain_proto_collect]
 unfold Builtin.«proto.collect»
 refine Qaq (wpAny_newList (Qgq #[plainId_quiet F.plain_list_iadd _,codeAny_builtin F.entry_list_iadd ?_]) (!1))
 rw[Around.under_plainId F.plain_list_iadd]
 unfold Builtin.«list.__iadd__» slotArgs
 refine Qaq (QgQ L (QgQ L (Qgq ?_)))
 show wpAny _ _ (Builtin.List.listExtendWith (.ref s.heap.objs.size) (.ref S) (.ref s.heap.objs.size)) _ _ _
 unfold Builtin.List.listExtendWith
 let H:=Qcq {cls:=.type "list",data:=.seq ([]:List Value).toArray} N
 let a2:=Qrq s.heap (o:={cls:=.type "list",data:=.seq ([]:List Value).toArray}) L
 have X:Shared.TypeIs {s with heap:=s.heap.push {cls:=.type "list",data:=.seq ([]:List Value).toArray}} (.ref S) "set":=#[o,H,M.1]
 refine Qaq (wpAny_typeOf X (QgQ ?_ ?_))
 ·refine Qdq ?_
  have:(s.heap.objs.size==S)=false:=beq_eq_false_iff_ne.mpr (Nat.ne_of_gt g)
  show¬((Builtin.List.listSameRef (.ref s.heap.objs.size) (.ref S)||Value.type "set"==Value.type "list" ||Value.type "set"==Value.type "tuple")=true)
  have e:Builtin.List.listSameRef (.ref s.heap.objs.size) (.ref S)=false:=this
  rw[e]
  decide +kernel
 refine Qaq (Fb (U.at λo e=>Qcq _ e) λI u d2 i y hW=>?_)
 let m:=i _ _ a2
 let a4:=i _ _ H
 have l:∀d,Shared.TypeIs ⟨u,s.gens,d,s.toks,s.os⟩ (.ref S) "set":=λd=>#[o,a4,M.1]
 refine Qaq (QLq ?_)
 unfold Builtin.List.listLengthHint
 refine Qaq (wpAny_specialOf (l _) F.slot_set_len.lookup ?_)
 have Y:splitId "set.__len__"=some ("set","__len__"):=by decide +kernel
 dsimp only
 rw[Y]
 dsimp only
 refine Qaq (wpAny_isInstance (l _) sub_set_self (QgQ L ?_))
 refine wpAny_ite_true ?_ (Qaq (wpAny_typeOf (l _) (Qgq ?_)))
 ·decide +kernel
 refine wpAny_ite_true ?_ (Qaq (wpAny_rule (Qaq ?_)))
 ·decide +kernel
 unfold Builtin.List.listTouch
 have b1:s.heap.objs.size<u.objs.size:=Qiq m
 refine Qaq (PyProof.Rows.listUpdate_at m L ?_ (!1) (!1))
 let g1:=PyProof.Rows.get?_update_seq (c:="list") (xs:= (List.toArray [])) (n:=0) m (λx=>x.push Value.none)
 refine PyProof.Rows.listUpdate_at g1 L ?_ (!1) (!1)
 let g2:=PyProof.Rows.get?_update_seq g1 (λx=>x.pop)
 have C:Heap.SameBut s.heap.objs.size u ((u.update s.heap.objs.size (Obj.mapSeq λx=>x.push Value.none)).update s.heap.objs.size (Obj.mapSeq λx=>x.pop)):=
  #[by rw[bx.1,bx.1],λb r=>by rw[bx.2 b r,bx.2 b r]]
 let#[fp,wr,St,J,W,a0,a3,rfl,hperm]:=hW
 have B:s.heap.objs.size∉fp:=λhm=>by
  rcases(a3 _ hm).2 with e|e
  ·exact absurd e (Nat.ne_of_gt g)
  ·rw[Heap.size_push] at e
   exact absurd e (Nat.not_succ_le_self _)
 let a5:=W A.in1.in1 (by exact hh)
 refine Qgq #[plainId_quiet F.plain_extend_loop _,?_]
 refine codeAny_extend_loopS (A:=A) (W A.in1 (by exact hh)).toS (fits_of_scanBound r) s.heap.objs.size B (.ref s.heap.objs.size) es.size 0 _ (List.toArray []) _ (!0) (Nat.zero_le _) ?_ g2 #[L,λj v h=>by simp at h] λs' p c' a K z=>?_
 ·exact(W A.in1 (by exact hh)).frame _ _ _ a0 λb r o N=>by
   rw[C.2 b (λe=>B (e▸r))]
   exact N
 ·let#[h',g',d',Z,P]:=s'
  have e1:g'=s.gens:=a.gens
  have e2:d'=d2:=a.drawn
  have e3:P=s.os:=a.os
  subst e1 e2 e3
  refine Qaq (wpAny_load' K (Qgq (q p.toList h' d' Z ?_ (λb o k=>?_) (nQl (Qiq K)))))
  ·have R:J.length=es.size:=by have:=hperm.length_eq;simpa using this
   have e:p.toList=J:=by
    apply List.ext_getElem?
    intro j
    by_cases hj:j<p.size
    ·rw[Array.getElem?_toList,Array.getElem?_eq_getElem hj,z.2 j _ (Array.getElem?_eq_getElem hj)]
    ·rw[Array.getElem?_toList,Array.getElem?_eq_none (!0),List.getElem?_eq_none (by rw[R,<-z.1];omega)]
   rw[e]
   exact hperm
  ·let f:=Qiq k
   let a1:=i b o (Qcq _ k)
   refine a.heap b o ?_ ?_
   ·intro hm
    rcases Qsq.mp hm with e|e
    ·exact absurd e (Qwq f)
    ·rw[Qfq] at e
     rw[<-e,Qcq _ k] at y
     cases y
   ·show((u.update s.heap.objs.size (Obj.mapSeq λx=>x.push Value.none)).update s.heap.objs.size (Obj.mapSeq λx=>x.pop)).get? b=some o
    rw[C.2 b (Qwq f)]
    exact a1
def zB{S:X8}{es:Array (Int×Value)}{Q:X0}(X:A.handled=none)(hS:SS prog w s.heap S es (!(w.params.followText "set-order")))(F:es.size<64)(m:∀e∈es.toList,∃x t,e.2=Value.str x t)
  (q:∀(l:X8) (out:Xa) (ss:X6) (h':Xe) (d:Drawn) (R n:Nat),PyProof.Rows.StrsAre out.toList ss->ss.Perm (es.toList.map λe=>txt e.2)->PyProof.Rows.sortedS ss=true->s.heap.objs.size<=l->h'.get? l=some (PyProof.Rows.seqObj "list" out n)->(∀b o,s.heap.get? b=some o->h'.get? b=some o)->Q (.ref l) {s with heap:=h',drawn:=d,toks:=R}):
  wpAny (model prog w) A (call (.builtin "sorted") [.ref S]) Q E s:=by
 refine Calls.call_function_entry PyProof.Rows.kind_sorted PyProof.Rows.plain_sorted PyProof.Rows.entry_sorted (PyProof.Rows.args_sorted1 (.ref S)) ?_
 refine Qaq (Qgq (Qaq (ye (by exact X) hS λg U W i B P z=>?_)))
 have j:g.length=es.size:=by have:=B.length_eq;simpa using this
 have zJ:∀v∈g,∃x t,v=Value.str x t:=λv hv=>by
  let#[e,he,p]:=Qkq.mp (B.mem_iff.mp hv)
  rw[<-p]
  exact m e he
 have H:∀{l:X5},(∀v∈l,∃x t,v=Value.str x t)->PyProof.Rows.StrsAre l (l.map txt):=by
  intro l
  induction l with
  |nil=>intro _;exact .nil
  | cons v l ih=>
    intro h
    let#[x,t,e]:=h v (QBq ..)
    subst e
    exact .cons x t (ih λu Y=>h u (Qpq _ Y))
 let y:=H zJ
 refine Qaq (wpAny_newList ?_ (by rw[j];exact fits_of_scanBound (Nat.lt_trans F (!1))))
 let a:=Qrq U (o:={cls:=.type "list",data:=.seq g.toArray}) L
 refine Qaq (QLq (wpAny_call_entry PyProof.Rows.slot_list_sort #[_,a,L] PyProof.Rows.entry_list_sort ?_ (PyProof.Rows.args_list_sort _)))
 refine PyProof.Rows.list_sort_treeK PyProof.Rows.strKind_oneLt (n:=0) a y.keysOf (λI J K e=>PyProof.Rows.keyKind_strs (ss:=g.map txt) (by rw[<-e];exact y)) (!0) λC a1 a2=>?_
 let#[r,M,Z,N]:=PyProof.Rows.sorted_out_str y a1 a2
 let#[n,hn]:=PyProof.Rows.sortedHeap_at (out:=Array.map (λx=>x.snd) (PyProof.Rows.arrOf C)) a
 refine#[.none,L,Qgq #[_,L,q _ _ r _ W i n M (Z.trans ?_) N ?_ hn λb o k=>?_]]
 ·have:=B.map txt
  rw[QPq] at this
  exact this
 ·exact z
 ·let f:=P b o k
  let c:=Qiq f
  rw[PyProof.Rows.sortedHeap_old (Qwq c) (by rw[Heap.size_push];exact Nat.lt_succ_of_lt c),Qcq _ f]
end
end Dk
namespace L2
open PySem PySem.Spec PyProof.Rows
def Mk(ss:X6):Prop:=sortedS ss=true/\ss.Nodup
section
variable{X:Cx}
def Inv.drawnTo{a:X2}{b:St}{H:Hp}{s:X4}(I:Inv X a b H s)(d:Drawn):Inv X a b H {s with drawn:=d}:=#[I.ok,I.os,I.bare,I.base,I.loc,I.cell,I.free,I.freeC,I.pin,I.hok,I.len]
def GN{ss:X6}{a:X5}(r:bt (ss.map V.str) a){i:Nat}{v:Xd}(h:a.toArray[i]?=some v):∃t,v=.str (ss.getD i "") t:=by
 have f:i<a.length:=by
  have:=(Array.getElem?_eq_some_iff.mp h).1
  simpa using this
 let l:=r.length
 rw[lQm] at l
 have b:i<ss.length:=by omega
 let#[u,e,q]:=r.get (i:=i) (x:=V.str ss[i]) (by rw[gQm,gQe b];rfl)
 have c:a[i]?=some v:=by simpa using h
 rw[e] at c
 cases c
 have d:ss.getD i ""=ss[i]:=by rw[Qlq,gQe b];rfl
 rw[d]
 exact q
def zt{y:X2}{Z:St}{H:Hp}{s:X4}{a:X8}{ss:X6}{A:X_}{E:X0}{Q:X0}(R:A.handled=none)(I:Inv X y Z H s)(ha:iD X.K H a (ss.map V.str))(p:ss.length+1<scanBound)
  (q:∀S es h' C,Dk.SS X.prog X.w h' S es (!(X.w.params.followText "set-order"))->Dk.Mem es (λi=>ss.getD i "") ss.length->(∀b o,s.heap.get? b=some o->h'.get? b=some o)->Q (.ref S) {s with heap:=h',toks:=C}):
  wpAny (model X.prog X.w) A (call (.type "set") [.ref a]) Q E s:=by
 let#[m,r,Y,hz]:=I.list ha
 have U:m.toArray.size=ss.length:=by have:=r.length;simp at this;simp[this]
 let#[#[c,M,N,sl],n,B,u,k,g]:=Y
 cases u
 cases k
 cases g
 have j:a<s.heap.objs.size:=Qiq B
 refine Dk.rj B ?_
 let t:=Qcq (Dk.fm X.w) B
 refine wpAny_pyIter_list #[_,t,rfl,_,rfl] ?_
 have f:(s.heap.push (Dk.fm X.w)).objs.size=s.heap.objs.size+1:=Heap.size_push _ _
 let W:=Walks.list (prog:=X.prog) (w:=X.w) (A:=A.in1.in1.in1) (by exact R) (s.heap.push (Dk.fm X.w)).objs.size a (by rw[f];exact Qwq (Nat.lt_succ_of_lt j)) m.toArray
 rw[U] at W
 refine wpAny_runValue ?_
 refine Dk.D4 (L:= !(X.w.params.followText "set-order")) W s.heap.objs.size ?_ (λi=>ss.getD i "") (λi v _ pv=>GN r pv) p ss.length 0 _ (List.toArray []) (!0) (Nat.zero_le _) ?_ ?_ ?_ ?_
 ·intro z
  rw[f] at z
  simp at z
  exact absurd z (Nat.ne_of_gt j)
 ·exact#[#[_,Qrq _ rfl,rfl,rfl],_,Qcq _ t,rfl,_,rfl]
 ·exact Dk.HK.at λo e=>Qcq _ e
 ·exact#[λe h=>by simp at h,by simp,λx=>by simp,by simp]
 ·intro h' C J F z P
  refine q _ J h' C F z λb o l=>?_
  let d:=Qiq l
  refine P b o ?_ (Qwq d) (Qcq _ (Qcq _ l))
  rw[f]
  simp
  exact Qwq (Nat.lt_succ_of_lt d)
def N3(K:X1)(d:TE):TE:=λe H Q=>d e H λx H1=>∃(a:X8) (c:X6),x=.ref a/\iD K H1 a (c.map V.str)/\c.length<64/\∀(l:X8) (b:X6),H1 l=none->Mk b->(∀x,x∈b↔x∈c)->Q (.ref l) (upd H1 l (.lst (b.map V.str)))
def xo{e:Expr}{te:TE}{pa w k pd:Pos}(hc:X.calm=true)(A:Gl X "sorted")(J:X.mg "sorted"=none)(hg:Gl X "set")(hm:X.mg "set"=none)(he:PE X e te)
  (W:autoParam (starEach [.Call (.Name "set" w) [e] [] k] X.env=(false,eval (.Call (.Name "set" w) [e] [] k) X.env)::starEach [] X.env) af._auto_1) (R:autoParam (starEach [e] X.env=(false,eval e X.env)::starEach [] X.env) af._auto_1):
  PE X (.Call (.Name "sorted" pa) [.Call (.Name "set" w) [e] [] k] [] pd) (N3 X.K te):=by
 intro d s σ H Q I h
 refine wpAny_Call_Name_kw (lD I A J boot_sorted ?_ (!1) (!1))
 refine PyProof.Rows.callWith_builtin1 ?_ W (by rfl)
 rw[W]
 show wpAny _ _ (spliced ((false,eval (.Call (.Name "set" w) [e] [] k) X.env)::backTo pd (starEach [] X.env))) _ _ s
 refine Calls.spliced_cons ?_
 refine wpAny_Call_Name_kw (lD I hg hm boot_set ?_ (!1) (!1))
 refine PyProof.Rows.callWith_type1 ?_ R (by rfl)
 rw[R]
 show wpAny _ _ (spliced ((false,eval e X.env)::backTo k (starEach [] X.env))) _ _ s
 refine Calls.spliced_cons (bZ (he d s σ H _ I h) λu F ⟨x,H1,v,r1,q1⟩=>Calls.spliced_nil ?_)
 let#[a,p,rfl,hL,h64,q]:=q1
 cases r1
 refine zt (v.ok.hd hc) v hL (Qqq (show p.length+1<65 by omega) (!1)) λS es h' U B r hk=>Calls.spliced_nil ?_
 have Y:Inv X d σ H1 {F with heap:=h',toks:=U}:=v.kept hk
 have P:es.size<64:=by have:=r.2.2.2;omega
 refine Dk.zB (s:={F with heap:=h',toks:=U}) (v.ok.hd hc) B P r.1 λl f b h3 d3 m n3 Z z c i M N=>?_
 have hf:H1 l=none:=Y.hok.fresh i
 have C:bt (b.map V.str) f.toList:=by
  clear z c
  generalize f.toList=vs at Z
  induction Z with
  |nil=>exact .nil
  |cons y t _ ih=>exact .cons #[t,L] ih
 have g:b.length<=64:=by
  have:=z.length_eq
  rw[lQm] at this
  simp at this
  omega
 refine#[.ref l,upd H1 l (.lst (b.map V.str)),?_,L,q l b hf #[c,z.nodup_iff.mpr r.2.1] λx=>?_]
 ·refine Inv.drawnTo (s:={F with heap:=h3,toks:=m}) ?_ d3
  exact Y.laid (a:=l) (o:=.lst (b.map V.str)) (h':=h3) (t':=m) N i #[by rw[lQm];exact QAq g (!1),f.toList,n3,C,by simpa using M]
 ·rw[z.mem_iff,r.2.2.1]
  constructor
  ·rintro⟨j,n,e⟩
   rw[<-e]
   show p.getD j ""∈p
   rw[Qlq,gQe n]
   exact List.getElem_mem n
  ·intro hx
   let#[j,n,e]:=QbQ hx
   exact#[j,n,by show p.getD j ""=x;rw[Qlq,gQe n];exact e]
def Fo(K:X1):List V->Hp->VK->Prop:=λd H Q=>∃(a:X8) (c:X6),d= [.ref a]/\iD K H a (c.map V.str)/\c.length<64/\∀(l:X8) (b:X6),H l=none->sortedS b=true->b.Perm c->Q (.ref l) (upd H l (.lst (b.map V.str)))
theorem u9:∀{ys:X6} {a:X5},bt (ys.map V.str) a->StrsAre a ys
 | [],_,r=>by cases r;exact .nil
 | y::ys,_,r=>by
   cases r with
   | cons h t=>
     let#[b,rfl]:=h
     exact .cons y b (u9 t)
def wK{ss:X6}{vs:X5}(h:StrsAre vs ss):bt (ss.map V.str) vs:=by
 induction h with
 |nil=>exact .nil
 |cons y t _ a=>exact .cons #[t,L] a
def wQ:ff X (.builtin "sorted") (Fo X.K):=by
 intro m s A H z B Q I r h
 let#[a,j,rfl,ha,h64,q]:=h
 let#[u,rfl,rx]:=vals1 r
 cases (show u=Value.ref a from rx)
 let#[f,k,t,y]:=I.list ha
 have v:f.length=j.length:=by have:=k.length;simpa using this.symm
 have g:s.heap.objs.size<=s.heap.objs.size+1:=Nat.le_succ _
 refine sorted_strs t.isList (u9 k) (!0) λc d p l w=>?_
 let#[e,x]:=sortedAll_at s.heap f c
 have i:d.length=j.length:=l.length_eq
 refine#[.ref (s.heap.objs.size+1),_,I.laid (a:=s.heap.objs.size+1) (o:=.lst (d.map V.str)) (h':=sortedAll s.heap f c) (t':=s.toks) (λb o n=>?_) g #[?_,c.toList,e,wK p,?_],L,q _ d (I.hok.fresh g) w l]
 ·exact sortedAll_old n
 ·rw[lQm,i]
  exact QAq (nQl h64) (!1)
 ·simpa using x
end
end L2
namespace Zp
open PySem
section
variable{prog:X9}{w:Xc}{A:X_}{E:X0}{s:X4}
def K9{i t:X8}{k:Nat}{vs:Xa}{v:Xd}{Q:X0}(c:s.heap.IsTupleIter i t k)(g:s.heap.IsTuple t vs)(hv:vs[k]?=some v)
  (q:∀h',h'.IsTupleIter i t (k+1)->Heap.SameBut i s.heap h'->Q v {s with heap:=h'}):wpAny (model prog w) A (Builtin.SmallTypes.nextOf (.ref i)) Q E s:=by
 let#[h,b,e,a]:=id c
 let#[l,f,_,j,d]:=g
 unfold Builtin.SmallTypes.nextOf
 refine Qaq (QiQ (name:=Str.ofString "__next__") c.typeIs F.slot_tuple_iterator_next (wpAny_call_entry F.slot_tuple_iterator_next c.typeIs F.entry_tuple_iterator_next ?_ (F.args_tuple_iterator_next_1 _)))
 refine(?_:wpAny _ _ (field (.ref i) 0 >>= _) _ _ s)
 refine Qaq (QMq b a (x:=.ref t) L ?_)
 refine(?_:wpAny _ _ (if (Value.ref t==Value.none)=true then _ else _) _ _ s)
 rw[Quq (λz=>by cases (show false=true from z))]
 refine(?_:wpAny _ _ (field (.ref i) 1 >>= _) _ _ s)
 refine Qaq (QMq b a (x:=.int k 0) L ?_)
 refine(?_:wpAny _ _ (seqItems? (.ref t) >>= _) _ _ s)
 refine Qaq (wpAny_seqItems f d ?_)
 erw[Int.toNat_natCast,hv]
 refine Qaq (wpAny_setField b a (by simp) (Qgq #[v,L,Qgq (q _ #[_,Heap.get?_update_self _ b (Obj.isFreed_of_fields (Obj.data_mapFields a _)),(Obj.cls_mapFields ..).trans e,?_] (Heap.SameBut.update ..))]))
 rw[Obj.data_mapFields a]
 simp[rawInt]
def LD{i t:X8}{k:Nat}{vs:Xa}{Q:X0}(f:A.handled=none)(b:s.heap.IsTupleIter i t k)(j:s.heap.IsTuple t vs)(hv:vs[k]?=none)
  (q:∀h' e,Heap.ExtBut i s.heap h'->(∃o,h'.get? e=some o/\o.cls=.type "StopIteration")->E (.ref e) {s with heap:=h'}):wpAny (model prog w) A (Builtin.SmallTypes.nextOf (.ref i)) Q E s:=by
 let#[n,c,l,d]:=id b
 let#[r,h,_,p,g]:=j
 unfold Builtin.SmallTypes.nextOf
 refine Qaq (QiQ (name:=Str.ofString "__next__") b.typeIs F.slot_tuple_iterator_next (wpAny_call_entry F.slot_tuple_iterator_next b.typeIs F.entry_tuple_iterator_next ?_ (F.args_tuple_iterator_next_1 _)))
 refine(?_:wpAny _ _ (field (.ref i) 0 >>= _) _ _ s)
 refine Qaq (QMq c d (x:=.ref t) L ?_)
 refine(?_:wpAny _ _ (if (Value.ref t==Value.none)=true then _ else _) _ _ s)
 rw[Quq (λz=>by cases (show false=true from z))]
 refine(?_:wpAny _ _ (field (.ref i) 1 >>= _) _ _ s)
 refine Qaq (QMq c d (x:=.int k 0) L ?_)
 refine(?_:wpAny _ _ (seqItems? (.ref t) >>= _) _ _ s)
 refine Qaq (wpAny_seqItems h g ?_)
 erw[Int.toNat_natCast,hv]
 refine Qaq (wpAny_rule (Qaq (wpAny_setField c d (by simp) ?_)))
 refine(?_:wpAny _ _ (newExc (.type "StopIteration") [] >>= _) _ _ _)
 refine Qaq ?_
 erw[newExc,newTuple]
 refine Qaq (QhQ ?_ (by size_fits))
 refine Qaq (m:=firstArgMember _ _) (wpAny_of_eq (a:=Value.none) (by first|rfl|(erw[firstArgMember];rfl)) (QhQ ?_ (by size_fits)))
 erw[raiseNew]
 refine Qaq (wpAny_handled ?_)
 first|rw[show A.in1.handled=none from f]|rw[f]
 exact Qaq (Qgq (wpAny_throw (q _ _ (((Heap.SameBut.update ..).extBut.push _).push _) #[_,Qrq _ L,L])))
end
def Rest(z O i j:X8)(h h':Xe):Prop:=∀c o,c≠z->c≠O->c≠i->c≠j->h.get? c=some o->h'.get? c=some o
end Zp
namespace L2
open PySem PySem.Spec PyProof.Rows
section
variable{X:Cx}{pins:X2}{σ:St}{H:Hp}{s:X4}{h':Xe}
def Inv.turnedL{t':Nat}{fp:X7}(I:Inv X pins σ H s)(d:∀b∈fp,oJ X pins H b)(k:∀b o,b∉fp->s.heap.get? b=some o->h'.get? b=some o):Inv X pins σ H {s with heap:=h',toks:=t'}:=by
 have f:∀b u,H b=some u->b∉fp:=λb u e z=>by rw[(d b z).1] at e;cases e
 refine I.step (g':=s.gens) (d':=s.drawn) (ch:=fp) (λb g=>#[(d b g).2.2.2.1,(d b g).2.1,(d b g).2.2.2.2.1,(d b g).2.2.2.2.2]) (λb o _ _ a e _=>k b o a e) (λb o _ _ a e _=>#[o.slots,k b o a e]) (λ_ _ _ _ n=>n)
  (λb o a e=>#[o,k b o a e]) (λ_ _ e=>e) (λ_ _ _ e=>e) (λb p e=>#[(List.toArray []),by rw[e];simp]) (λm j=>?_) (λb u e=>?_) I.bare
 ·let#[o,i,l,h,r]:=j
  exact#[o,i,l,k _ o (λz=>(d _ z).2.1 L) h,r]
 ·refine(I.hok b u e).stay (λc v a q=>k c v ?_ q) (λ_ q=>q) λ_ _ q=>q
  rcases a with z|z
  ·rw[z];exact f b u e
  ·exact f c _ z
def Inv.turnedNew{t':Nat}{fp:X7}{p:X8}{o:HO}(I:Inv X pins σ H s)(f:∀b∈fp,oJ X pins H b)(k:∀b u,b∉fp->s.heap.get? b=some u->h'.get? b=some u)(i:s.heap.objs.size<=p)
  (new:cJ X.prog X.w (upd H p o) h' p o):Inv X pins σ (upd H p o) {s with heap:=h',toks:=t'}:=by
 let t:=I.hok.fresh i
 have h:∀b u,H b=some u->b∉fp:=λb u e z=>by rw[(f b z).1] at e;cases e
 have g:∀b u,H b=some u->upd H p o b=some u:=λb u e=>by rw[a7 (eR e t)];exact e
 refine I.step (g':=s.gens) (d':=s.drawn) (ch:=fp) (λb a=>#[(f b a).2.2.2.1,(f b a).2.1,(f b a).2.2.2.2.1,(f b a).2.2.2.2.2]) (λb o _ _ d e _=>k b o d e) (λb o _ _ d e _=>#[o.slots,k b o d e])
  (λb u _ e n=>by rw[a7 (λz=>Nat.lt_irrefl _ (Qqq (Qiq e) (by rw[z];exact i)))];exact n)
  (λb o d e=>#[o,k b o d e]) (λb B e=>g b _ e) (λb u v e=>g b _ e) (λb A e=>#[(List.toArray []),by rw[g b _ e];simp]) (λm x=>?_) (λb u e=>?_) I.bare
 ·let#[o,l,y,j,r]:=x
  exact#[o,l,y,k _ o (λz=>(f _ z).2.1 L) j,r]
 ·by_cases a:b=p
  ·subst a
   rw[bg] at e
   cases e
   exact new
  ·rw[a7 a] at e
   refine(I.hok b u e).stay (λc v d q=>k c v ?_ q) (λc q=>g c _ q) λc _ q=>g c _ q
   rcases d with z|z
   ·rw[z];exact h b u e
   ·exact h c _ z
end
end L2
namespace Zp
open PySem PySem.W PyProof.Rows
end Zp
namespace L2
open PySem PySem.Spec PyProof.Rows
mutual
inductive jY(N:Addr->Prop)(H:Hp):PyData->V->Prop
 |non:jY N H .none .non
 |bl (b:Bool):jY N H (.bool b) (.bl b)
 |int (i:Int):jY N H (.int i) (.int i)
 |str (x:Str):jY N H (.str x) (.str x)
 |tup {a:X8} {us:List V} {xs:List PyData}:H a=some (.tup us)->oK N H xs us->jY N H (.tuple xs) (.ref a)
 |lst {a:X8} {us:List V} {xs:List PyData}:H a=some (.lst us)->N a->oK N H xs us->jY N H (.list xs) (.ref a)
 |dct {a:X8}:H a=some (.dK [])->jY N H (.dict []) (.ref a)
inductive oK(N:Addr->Prop)(H:Hp):List PyData->List V->Prop
 |nil:oK N H [] []
 |cons {x:PyData} {u:V} {xs:List PyData} {us:List V}:jY N H x u->oK N H xs us->oK N H (x::xs) (u::us)
end
section
variable{X:Cx}
mutual
theorem jz{g:X2}{K:St}{H:Hp}{s:X4}{N:Addr->Prop}(I:Inv X g K H s)(q:∀a,N a->a≠sysModules):∀{d:PyData} {v:V} {u:Xd},jY N H d v->RelV v u->∃as,Reads s.heap u d as/\sysModules∉as
 |_,_,_,.non,r=>by cases r;exact#[_,.none,by simp]
 |_,_,_,.bl b,r=>by cases r;exact#[_,.bool b,by simp]
 |_,_,_,.int i,r=>by let#[t,rfl]:=r;exact#[_,.int i t,by simp]
 |_,_,_,.str x,r=>by let#[t,rfl]:=r;exact#[_,.str x t,by simp]
 | _,_,_,.tup (a:=a) h hs,r=>by
   cases r
   let#[k,l,#[o,f,c,n,p],A]:=I.tuple (iC.of h)
   let#[as,j,m]:=gV I q hs l
   exact#[as,.tuple f c p (by simpa using j),m]
 | _,_,_,.lst (a:=a) h n hs,r=>by
   cases r
   let#[k,l,C,A]:=I.list (iD.of h)
   let#[o,f,c,P,p]:=C.isList
   let#[as,j,m]:=gV I q hs l
   exact#[_,.list f c p (by simpa using j),by rw[Qsq];exact λe=>e.elim (λe=>q _ n e.symm) m]
 | _,_,_,.dct (a:=a) h,r=>by
   cases r
   let#[_,y,Q,J,z]:=Hm I.hok h
   cases J
   let#[o,F,R,f,M,c,_,B,_]:=z
   have w:F.toList= []:=List.eq_nil_of_length_eq_zero B.length
   exact⟨_,.dict (as:= []) (bs:= []) (kvs:= []) f M.1 c (by rw[w];exact .nil) (by rw[w];exact .nil),by
     simp
     intro e
     rw[e] at y
     simp at y⟩
theorem gV{b:X2}{l:St}{H:Hp}{s:X4}{N:Addr->Prop}(I:Inv X b l H s)(d:∀a,N a->a≠sysModules):∀{xs:List PyData} {c:List V} {vs:X5},oK N H xs c->bt c vs->∃as,ReadsAll s.heap vs xs as/\sysModules∉as
 |_,_,_,.nil,r=>by cases r;exact#[_,.nil,by simp]
 | _,_,_,.cons h hs,r=>by
   cases r with
   | cons r i=>
     let#[as,f,j]:=jz I d h r
     let#[m,k,g]:=gV I d hs i
     exact#[_,.cons f k,by rw[mQa];exact λe=>e.elim j g]
end
end
section
variable{X:Cx}
def Fm:hJ X (binaryOp .Mult) (rI IntMulOk λi j=>.int (i*j)):=MB λ_ _ _ _ _ _ _ a q=>mul_int q a
end
section
variable{X:Cx}
def DX(K:X1):R2:=λx y H Q=>∃a b c,x=.ref a/\y=.ref b/\iD K H a c/\iD K H b []/\Q (.bl (!c.isEmpty)) H
def xU(e:X.A.units<cLine):hJ X (compareOp .NotEq) (DX X.K):=by
 intro c s n H x y v u Q I f g h
 let#[a,b,m,rfl,rfl,ha,hb,q]:=h
 cases m with
 |nil=>exact JN e c s n H _ _ v u Q I f g #[a,b,[],[],L,L,ha,hb,L,L,q]
 | cons z w=>
   cases f
   cases g
   let#[j,r,l,B]:=I.list ha
   let#[k,i,d,t]:=I.list hb
   let o:=r.length
   let p:=i.length
   exact SeqAt.RcNeAt.lists_lengths l.isList d.isList (by simp[<-o,<-p]) e _ _ _ _ #[.bl true,H,I,L,q]
end
end L2
namespace HT
open PySem PySem.Spec PyProof.Rows
section
variable{prog:X9}{w:Xc}{A:X_}{E:X0}{s:X4}
def lS{t sl:X8}{items:Xa}{g e:Xd}{lo hi:Xb}{Q:X0}(ht:IsTup s.heap t items)(i:s.heap.IsSliceOf sl g e .none)(pl:IsPart g lo)(n:IsPart e hi)
  (f:ef items.size 0 lo=0/\ef items.size items.size hi=items.size) (h:Q (.ref t) s):wpAny (model prog w) A (getItem (.ref t) (.ref sl)) Q E s:=by
 let#[l,c,b,k]:=id i
 have d:s.TypeIs (.ref sl) "slice":=#[l,c,b]
 unfold getItem
 try with_reducible refine QLq ?_
 first|refine Qaq (Qgq ?_)|skip
 refine Qaq (wpAny_sequenceKey ht.typeIs (!1) ?_)
 refine Qaq (QiQ (name:=Str.ofString "__getitem__") ht.typeIs PyProof.Rows.slot_tuple_getitem
  (wpAny_call_entry PyProof.Rows.slot_tuple_getitem ht.typeIs entry_tuple_getitem ?_ (args_tuple_getitem _ _)))
 show wpAny _ _ (Builtin.Tuple.tupleItemsOf (.ref t) >>= _) _ _ s
 refine Qaq (tupleItemsOf_ ht ?_)
 refine Qaq (wpAny_typeOf d ?_)
 rw[Qhq (!1)]
 refine Qaq (jA i pl n ?_)
 have a:(((ef items.size 0 lo:Nat):Int)==0&&(1:Int)==1&&(ef items.size items.size hi-ef items.size 0 lo)==items.size)=true:=by
  rw[f.1,f.2]
  simp
 show wpAny _ _ (if (((ef items.size 0 lo:Nat):Int)==0&&(1:Int)==1&&(ef items.size items.size hi-ef items.size 0 lo)==items.size)=true then _ else _) _ _ s
 rw[Qhq a]
 have j:∀{A:X_} {E:X0} {R:Xf},R true s->wpAny (model prog w) A (Builtin.Tuple.tupleIsExact (.ref t)) R E s:=λ{A E R} h=>by
  unfold Builtin.Tuple.tupleIsExact
  exact Qaq (wpAny_typeOf ht.typeIs (Qgq h))
 refine Qaq (m:=Builtin.Tuple.tupleIsExact _) (j ?_)
 rw[Qhq L]
 refine Qaq (wpAny_rule ?_)
 exact Qgq #[_,L,Qgq h]
end
end HT
namespace L2
open PySem PySem.Spec PyProof.Rows
def MY(K:X1):V->Option Int->Option Int->Hp->VK->Prop:=λx c d H Q=>∃a b,x=.ref a/\iC K H a b∧
 (HT.ef b.length 0 c=0/\HT.ef b.length b.length d=b.length->Q (.ref a) H)/\(¬(HT.ef b.length 0 c=0/\HT.ef b.length b.length d=b.length)->∀p,H p=none->Q (.ref p) (upd H p (.tup (wb b c d))))
def F0{X:Cx}:Mw X (MY X.K):=by
 intro d s q H x v p o n m sl Q I k l i j h
 let#[a,b,rfl,hx,q1,q2]:=h
 by_cases e:HT.ef b.length 0 n=0/\HT.ef b.length b.length m=b.length
 ·cases k
  let#[f,r,g,t]:=I.tuple hx
  have c:f.toArray.size=b.length:=by rw[Qjq];exact r.length.symm
  refine#["tuple",_,PyProof.Rows.slot_tuple_getitem.lookup,g.typeIs,?_]
  exact HT.lS g l i j (by rw[c];exact e) #[.ref a,H,I,L,q1 e]
 ·exact II d s q H _ v p o n m sl Q I k l i j #[a,b,L,hx,e,q2 e]
end L2
namespace ST
open PySem
end ST
namespace ST
open PySem PySem.SetTable
def rn(m:Nat)(h:Int):Nat->Nat×Nat
 |0=>(bits h%(m+1),bits h)
 |n+1=>leap m (rn m h n).1 (rn m h n).2
def L(m i:Nat):Nat:=runEnd m i-i
def sl(m:Nat)(h:Int)(n r:Nat):Nat:=(rn m h n).1+r
def N5(m:Nat)(h:Int)(n r:Nat)(V:Nat->Prop):Prop:=(∀b a,b<n->a<=L m (rn m h b).1->V (sl m h b a))/\∀a,a<r->V (sl m h n a)
def N6(m:Nat)(h:Int)(V:Nat->Prop)(j:Nat):Prop:=∃n r,r<=L m (rn m h n).1/\j=sl m h n r/\N5 m h n r V
structure TI(t:SetTable)(es:Array (Int×Value)):Prop where
 pw:∃k,t.mask+1=2^k/\1<=k
 dm:t.dummies= (List.toArray [])
 rise:t.place.toList.Pairwise (·<·)
 sz:t.place.size=es.size
 room:es.size<=t.mask
 rch:∀(i:Nat) (h:Int) (v:Xd) (j:Nat),es[i]?=some (h,v)->t.place[i]?=some j->N6 t.mask h (·∈t.place.toList) j
mutual
def nu:Nat->PyData->Bool
 |_,.int _=>true
 |n+1,.tuple ps=>Na n ps
 |_,_=>false
def Na:Nat->List PyData->Bool
 |_,[]=>true
 |n,p::ps=>nu n p&&Na n ps
end
mutual
def Mn:PyData->Int
 |.int i=>hashInt i
 |.tuple a=>reduceHash (Builtin.Tuple.tupleHashOf (Lk a))
 |_=>0
def Lk:List PyData->List Int
 | []=> []
 |p::ps=>Mn p::Lk ps
end
def Kj(a:X8)(c:List (PyData×Addr))(h:Xe):Prop:=∃o b d t,h.get? a=some o/\o.ExactSet/\o.data=.set b d t/\TI t b/\b.size*5<t.mask*3/\b.toList.Perm (c.map λe=>(Mn e.1,.ref e.2))
mutual
def nv:Nat->PyData->Bool
 |_,.int _=>true
 |_,.str x=>PyData.strOk x
 |n+1,.tuple ps=>pM n ps
 |_,_=>false
def pM:Nat->List PyData->Bool
 |_,[]=>true
 |n,p::ps=>nv n p&&pM n ps
end
mutual
def hv(w:Xc):PyData->Int
 |.int i=>hashInt i
 |.str x=>hashStr w x
 |.tuple a=>reduceHash (Builtin.Tuple.tupleHashOf (zJ w a))
 |_=>0
def zJ(w:Xc):List PyData->List Int
 | []=> []
 |p::ps=>hv w p::zJ w ps
end
mutual
theorem BH:∀{n:Nat} {p q:PyData} {m:Nat},nv n p=true->nv m q=true->PyData.eqv p q=true->p=q
 |_,.str x,.str y,_,_,_,h=>by simp[PyData.eqv] at h;rw[h]
 |_,.str x,.int j,_,_,_,h=>by simp[PyData.eqv] at h
 |_,.int i,.str y,_,_,_,h=>by simp[PyData.eqv] at h
 |_,.str x,.tuple qs,_,_,_,h=>by simp[PyData.eqv] at h
 |_,.tuple ps,.str y,_,_,_,h=>by simp[PyData.eqv] at h
 |_,.int i,.int j,_,_,_,h=>by simp[PyData.eqv] at h;rw[h]
 | n+1,.tuple ps,.tuple qs,m+1,h1,h2,h=>by
   erw[nv] at h1 h2
   rw[PyData.eqv] at h
   rw[DH h1 h2 h]
 |_,.int i,.tuple qs,_,_,_,h=>by simp[PyData.eqv] at h
 |_,.tuple ps,.int j,_,_,_,h=>by simp[PyData.eqv] at h
 |_,.none,_,_,h,_,_=>by simp[nv] at h
 |_,.bool _,_,_,h,_,_=>by simp[nv] at h
 |_,.list _,_,_,h,_,_=>by simp[nv] at h
 |_,.dict _,_,_,h,_,_=>by simp[nv] at h
 |_,_,.none,_,_,h,_=>by simp[nv] at h
 |_,_,.bool _,_,_,h,_=>by simp[nv] at h
 |_,_,.list _,_,_,h,_=>by simp[nv] at h
 |_,_,.dict _,_,_,h,_=>by simp[nv] at h
 |0,.tuple _,_,_,h,_,_=>by simp[nv] at h
 |_,_,.tuple _,0,_,h,_=>by simp[nv] at h
theorem DH:∀{n:Nat} {ps a:List PyData} {m:Nat},pM n ps=true->pM m a=true->PyData.eqvAll ps a=true->ps=a
 |_,[],[],_,_,_,_=>rfl
 | _,p::ps,q::a,_,h1,h2,h=>by
   erw[pM,QCq] at h1 h2
   erw[PyData.eqvAll,QCq] at h
   rw[BH h1.1 h2.1 h.1,DH h1.2 h2.2 h.2]
 |_,[],_::_,_,_,_,h=>by simp[PyData.eqvAll] at h
 |_,_::_,[],_,_,_,h=>by simp[PyData.eqvAll] at h
end
mutual
theorem my:∀{n:Nat} {p:PyData},nv n p=true->p.canLay0=true/\p.depth<=n+1
 |_,.int _,_=>#[rfl,by simp[PyData.depth]]
 | n+1,.tuple ps,h=>by
   let#[a,b]:=AZ (n:=n) (ps:=ps) h
   exact#[a,by erw[PyData.depth];omega]
 |_,.none,h=>by simp[nv] at h
 |_,.bool _,h=>by simp[nv] at h
 |_,.str x,h=>#[h,by simp[PyData.depth]]
 |_,.list _,h=>by simp[nv] at h
 |_,.dict _,h=>by simp[nv] at h
 |0,.tuple _,h=>by simp[nv] at h
theorem AZ:∀{n:Nat} {ps:List PyData},pM n ps=true->PyData.canLayAll0 ps=true/\PyData.depthAll ps<=n+1
 |_,[],_=>#[rfl,by simp[PyData.depthAll]]
 | n,p::ps,h=>by
   erw[pM,QCq] at h
   let#[a,c]:=my h.1
   let#[b,d]:=AZ h.2
   refine#[by erw[PyData.canLayAll0,QCq];exact#[a,b],by erw[PyData.depthAll];omega]
end
mutual
def Fe:PyData->Nat
 |.int _=>1
 |.str _=>1
 |.tuple a=>1+v7 a
 |_=>0
def v7:List PyData->Nat
 | []=>0
 |p::ps=>Fe p+v7 ps
end
section
variable{prog:X9}{w:Xc}
mutual
theorem A3:∀{n:Nat} {p:PyData} {v:Xd} {as:X7} {A:X_} {E:X0} {s:X4} {Q:Xf} {m:Nat},Reads s.heap v p as->nv n p=true->n<=m->Q true s->wpAny (model prog w) A (eqIsQuiet m v) Q E s
 |_,.int i,_,_,A,E,s,Q,m,.int _ t,_,_,q=>by rw[eqIsQuiet_byValue m rfl];exact Qgq q
 | n+1,.tuple ps,_,_,A,E,s,Q,m+1,.tuple (a:=a) (o:=o) (vs:=vs) ho hc hd hi,hn,hm,q=>by
   have b:s.TypeIs (.ref a) "tuple":=#[o,ho,hc]
   unfold eqIsQuiet
   refine Qaq (wpAny_specialOf b F.slot_tuple_eq.lookup ?_)
   show wpAny _ _ (isInstance (.ref a) (.type "tuple") >>= _) _ _ s
   refine Qaq (wpAny_isInstance b isSubtype_tuple_tuple ?_)
   erw[Bool.not_true,Bool.false_eq_true,if_false]
   refine Qaq (wpAny_seqItems ho hd (Qaq ?_))
   show wpAny _ _ (forIn vs _ _) _ _ s
   rw[<-Array.forIn_toList]
   exact xB (n:=n) hi hn (!0) (Qgq q)
 |n+1,.tuple _,_,_,_,_,_,_,0,_,_,hm,_=>absurd hm (Nat.not_succ_le_zero n)
 |_,.none,_,_,_,_,_,_,_,_,h,_,_=>by simp[nv] at h
 |_,.bool _,_,_,_,_,_,_,_,_,h,_,_=>by simp[nv] at h
 |_,.str x,_,_,A,E,s,Q,m,.str _ t,_,_,q=>by rw[eqIsQuiet_byValue m rfl];exact Qgq q
 |_,.list _,_,_,_,_,_,_,_,_,h,_,_=>by simp[nv] at h
 |_,.dict _,_,_,_,_,_,_,_,_,h,_,_=>by simp[nv] at h
 |0,.tuple _,_,_,_,_,_,_,_,_,h,_,_=>by simp[nv] at h
theorem xB:∀{n:Nat} {ps:List PyData} {vs:X5} {as:X7} {A:X_} {E:X0} {s:X4} {R:Option Bool×Unit->Shared->Prop} {m:Nat},ReadsAll s.heap vs ps as->pM n ps=true->n<=m->R (none,()) s->
  wpAny (model prog w) A (forIn vs (none,()) λy (r:Option Bool×Unit)=>do let b<-eqIsQuiet m y;if (!b)=true then pure (ForInStep.done (some false,())) else pure (ForInStep.yield (none,()))) R E s
 |_,[],_,_,A,E,s,R,_,.nil,_,_,q=>by rw[List.forIn_nil];exact Qgq q
 | n,p::ps,_,_,A,E,s,R,m,.cons h hs,hn,hm,q=>by
   erw[pM,QCq] at hn
   rw[List.forIn_cons]
   refine Qaq (Qaq (A3 h hn.1 hm ?_))
   erw[Bool.not_true,Bool.false_eq_true,if_false]
   exact Qgq (xB hs hn.2 hm q)
end
end
section
variable{prog:X9}{w:Xc}
mutual
theorem Bc:∀{n:Nat} {p:PyData} {v:Xd} {as:X7} {A:X_} {E:X0} {s:X4} {Q:Int->Shared->Prop},Reads s.heap v p as->nv n p=true->A.units+n<cLine->Q (hv w p) {s with toks:=s.toks+Fe p}->wpAny (model prog w) A (pyHash v) Q E s
 |_,.int i,_,_,A,E,s,Q,.int _ t,_,_,q=>wpAny_pyHash_int q
 | n+1,.tuple ps,_,_,A,E,s,Q,.tuple (a:=a) (o:=o) (vs:=vs) ho hc hd hi,hn,hu,q=>by
   have b:s.TypeIs (.ref a) "tuple":=#[o,ho,hc]
   unfold pyHash
   first|unfold pyHashByItsType|skip
   refine Qaq (wpAny_cRoomFor_or (.inr (!0)) (Qaq (wpAny_specialOf b F.slot_tuple_hash.lookup ?_)))
   show wpAny _ _ (if (some (Value.builtin "tuple.__hash__")==some Value.none)=true then _ else _) Q E s
   rw[Quq (by rw[beq_builtin_none];exact Qtq)]
   refine Qaq (wpAny_specialOf b F.slot_tuple_hash.lookup ?_)
   show wpAny _ _ (callSpecialIfBoundUnlessNone? (.ref a) "__hash__" _ >>= _) Q E s
   refine Qaq (wpAny_callSpecialIfBoundUnlessNone?_slot b F.slot_tuple_hash (wpAny_call_entry F.slot_tuple_hash b F.entry_tuple_hash ?_ (F.args_tuple_hash_1 _)))
   show wpAny _ _ (Builtin.Tuple.tupleItemsOf (.ref a) >>= _) _ _ s
   refine Qaq (wpAny_tupleItemsOf ho hd (Qaq ?_))
   rw[<-Array.forIn_toList]
   refine vv (n:=n) (List.toArray []) hi hn (show A.in1.units+n<cLine from by have:A.in1.units=A.units+1:=rfl;omega) ?_
   show wpAny _ _ (retInt (Builtin.Tuple.tupleHashOf ((List.toArray [])++(zJ w ps).toArray).toList)) _ _ _
   rw[show((List.toArray [])++(zJ w ps).toArray:Array Int).toList=zJ w ps by simp]
   refine wpAny_ret_mkInt ?_
   let q:=q
   erw[hv,Fe] at q
   rw[show s.toks+(1+v7 ps)=s.toks+v7 ps+1 by omega] at q
   generalize Builtin.Tuple.tupleHashOf (zJ w ps)=z at q
   show wpAny _ _ (if (decide (-(2:Int)^63<=z)&&decide (z<2^63))=true then _ else _) Q E _
   unfold reduceHash at q
   by_cases c:(decide (-(2:Int)^63<=z)&&decide (z<2^63))=true
   · rw[Qhq c]
     rw[Qhq c] at q
     exact Qgq q
   · rw[Quq c]
     rw[Quq c] at q
     exact Qaq (wpAny_rule (Qgq q))
 |_,.none,_,_,_,_,_,_,_,h,_,_=>by simp[nv] at h
 |_,.bool _,_,_,_,_,_,_,_,h,_,_=>by simp[nv] at h
 |_,.str x,_,_,A,E,s,Q,.str _ t,_,_,q=>wpAny_pyHash_str q
 |_,.list _,_,_,_,_,_,_,_,h,_,_=>by simp[nv] at h
 |_,.dict _,_,_,_,_,_,_,_,h,_,_=>by simp[nv] at h
 |0,.tuple _,_,_,_,_,_,_,_,h,_,_=>by simp[nv] at h
theorem vv:∀{n:Nat} {ps:List PyData} {vs:X5} {as:X7} {A:X_} {E:X0} {s:X4} {R:Array Int->Shared->Prop} (a:Array Int),ReadsAll s.heap vs ps as->pM n ps=true->A.units+n<cLine->R (a++(zJ w ps).toArray) {s with toks:=s.toks+v7 ps}->
  wpAny (model prog w) A (forIn vs a λx b=>do let h<-pyHash x;pure (ForInStep.yield (b.push h))) R E s
 | _,[],_,_,A,E,s,R,a,.nil,_,_,q=>by
   rw[List.forIn_nil]
   simp[zJ,v7] at q
   exact Qgq q
 | n,p::ps,_,_,A,E,s,R,a,.cons h b,hn,hu,q=>by
   erw[pM,QCq] at hn
   rw[List.forIn_cons]
   refine Qaq (Qaq (Bc h hn.1 hu (Qgq ?_)))
   refine vv (s:={s with toks:=s.toks+Fe p}) (a.push (hv w p)) b hn.2 hu ?_
   erw[zJ,v7] at q
   rw[show a.push (hv w p)++(zJ w ps).toArray=a++(hv w p::zJ w ps).toArray by apply Array.toList_inj.mp;simp]
   rw[show s.toks+(Fe p+v7 ps)=s.toks+Fe p+v7 ps by omega] at q
   exact q
end
mutual
theorem tK:∀{n:Nat} {p:PyData} {v:Xd} {as:X7} {h h':Xe} {d:X8} {o:Obj} {es:Array DictEntry} {ep:Nat},Reads h v p as->nv n p=true->h.get? d=some o->o.data=.dict es ep->Heap.SameBut d h h'->Reads h' v p as
 |_,.int i,_,_,h,h',d,o,es,ep,.int _ t,_,_,_,_=>.int _ t
 | n+1,.tuple ps,_,_,h,h',d,o,es,ep,.tuple ho hc hd hi,hn,hg,hdd,sb=>by
   refine .tuple ((sb.2 _ λz=>?_).trans ho) hc hd (qp (n:=n) hi hn hg hdd sb)
   subst z
   rw[hg] at ho
   cases ho
   rw[hd] at hdd
   cases hdd
 |_,.none,_,_,_,_,_,_,_,_,_,h,_,_,_=>by simp[nv] at h
 |_,.bool _,_,_,_,_,_,_,_,_,_,h,_,_,_=>by simp[nv] at h
 |_,.str x,_,_,_,_,_,_,_,_,.str _ t,_,_,_,_=>.str _ t
 |_,.list _,_,_,_,_,_,_,_,_,_,h,_,_,_=>by simp[nv] at h
 |_,.dict _,_,_,_,_,_,_,_,_,_,h,_,_,_=>by simp[nv] at h
 |0,.tuple _,_,_,_,_,_,_,_,_,_,h,_,_,_=>by simp[nv] at h
theorem qp:∀{n:Nat} {ps:List PyData} {vs:X5} {as:X7} {h h':Xe} {d:X8} {o:Obj} {es:Array DictEntry} {ep:Nat},ReadsAll h vs ps as->pM n ps=true->h.get? d=some o->o.data=.dict es ep->Heap.SameBut d h h'->ReadsAll h' vs ps as
 |_,[],_,_,_,_,_,_,_,_,.nil,_,_,_,_=>.nil
 | n,p::ps,_,_,_,_,_,_,_,_,.cons h hs,hn,hg,hdd,sb=>by
   erw[pM,QCq] at hn
   exact .cons (tK h hn.1 hg hdd sb) (qp hs hn.2 hg hdd sb)
end
noncomputable instance:DecidableEq PyData:=λa b=>Classical.propDecidable (a=b)
def NZ(h:Xe)(p:PyData)(a:X8):Prop:=nv 8 p=true/\∃b,Reads h (.ref a) p b
def jB(prog:X9)(w:Xc):HeapKind prog w PyData where
 is:=NZ
 hash:=hv w
 draws:=Fe
 room:=λA=>A.units+16<cLine
 inj:=λ⟨c,_,d⟩ ⟨_,_,f⟩=>SeqAt.Reads.unique _ _ _ _ _ (my c).1 d f
 keeps:=λ⟨c,l,d⟩ i h k=>#[c,l,tK d c i h k]
 pyHash:=λj ⟨c,_,d⟩ q=>Bc d c (!0) q
 eqBool:=λ{A E s x y a b Q} j ⟨c,_,d⟩ ⟨h3,_,f⟩ q=>by
  refine SeqAt.eqBoolOverData _ _ _ _ _ _ _ _ _ _ _ _ d f (my c).1 (my h3).1 (by have:=(my c).2;omega) ?_
  cases g:PyData.eqv x y with
  | true=>
    have:=BH c h3 g
    rw[Qeq this] at q
    exact q
  | false=>
    have:¬x=y:=λe=>by
      subst e
      rw[SeqAt.eqv_refl _ (my c).1] at g
      cases g
    rw[Qdq this] at q
    exact q
 quiet:=λ⟨c,_,d⟩ q=>A3 d c (Qmq _) q
end
end ST
namespace L2
open PySem PySem.Spec PyProof.Rows
def nx{prog:X9}{w:Xc}{A:X_}{E:X0}{s:X4}{it d:X8}{i n ep:Nat}{o:Obj}{es:Array DictEntry}{e:DictEntry}{Q:Option Value->Shared->Prop}
 (hi:s.heap.IsKeyIter it d i n ep) (h:s.heap.get? d=some o) (m:o.ExactDict) (f:o.data=.dict es ep) (k:es.size=n) (he:es[i]?=some e)
 (q:∀h':Heap,h'.IsKeyIter it d (i+1) n ep->Heap.SameBut it s.heap h'->Q (some e.key) {s with heap:=h'}):wpAny (model prog w) A (pyNext (.ref it)) Q E s:=by
 let#[l,b,j,a]:=id hi
 unfold pyNext
 refine Qaq (wpAny_attempt (QiQ hi.typeIs F.slot_dict_keyiterator_next (wpAny_call_entry F.slot_dict_keyiterator_next hi.typeIs F.entry_dict_keyiterator_next ?_ (F.args_dict_keyiterator_next_1 _))))
 refine Qaq ?_
 refine Qaq ?_
 refine Qgq ?_
 refine Qgq ?_
 refine Qaq ?_
 refine Qaq ?_
 refine Qaq ?_
 refine wpAny_typeNameOfWhole_keyiter hi.typeIs ?_
 refine Qgq ?_
 show wpAny _ A.in1 (fieldsOf (.ref it) >>= _) _ _ s
 refine Qaq (wpAny_fieldsOf b a ?_)
 show wpAny _ A.in1 (if (Value.ref d==Value.none)=true then _ else _) _ _ s
 rw[Quq (by simp)]
 refine Qaq (Qgq ?_)
 refine Qaq (wpAny_dictEntries h f ?_)
 show wpAny _ A.in1 (if (((es.size:Nat):Int) !=((n:Nat):Int))=true then _ else _) _ _ s
 rw[Quq (by rw[k];simp)]
 refine Qaq (Qgq ?_)
 refine Qaq (wpAny_dictEpoch h f ?_)
 show wpAny _ A.in1 (if (((ep:Nat):Int) !=((ep:Nat):Int))=true then _ else _) _ _ s
 rw[Quq (by simp)]
 refine Qgq ?_
 show wpAny _ A.in1 (match (if ((i:Nat):Int)<0 then none else es[((i:Nat):Int).toNat]?) with|some e=>_|none=>_) _ _ s
 rw[Quq (!0),Int.toNat_natCast,he]
 refine Qaq (Qaq (wpAny_typeNameOfWhole_keyiter hi.typeIs (Qgq ?_)))
 refine Qaq (wpAny_isOneOf_keyiter hi.typeIs ?_)
 refine Qaq (wpAny_setField b a (by show 0+1<4;decide) ?_)
 have c:(s.heap.update it (Obj.mapFields λx=>x.setIfInBounds 1 (rawInt ((i:Int)+1)))).IsKeyIter it d (i+1) n ep:=by
  refine#[_,Heap.get?_update_self _ b ?_,?_,?_]
  ·exact Obj.isFreed_of_fields (Obj.data_mapFields a _)
  ·rw[Obj.cls_mapFields];exact j
  ·rw[Obj.data_mapFields a _];rfl
 have g:Heap.SameBut it s.heap (s.heap.update it (Obj.mapFields λx=>x.setIfInBounds 1 (rawInt ((i:Int)+1)))):=Heap.SameBut.update ..
 show wpAny _ A.in1 _ _ _ {s with heap:=s.heap.update it (Obj.mapFields λx=>x.setIfInBounds 1 (rawInt ((i:Int)+1)))}
 let q:=q _ c g
 generalize s.heap.update it (Obj.mapFields λx=>x.setIfInBounds 1 (rawInt ((i:Int)+1)))=h' at c g q|-
 refine Qaq (QLq ?_)
 refine Qaq (wpAny_isOneOf_keyiter c.typeIs ?_)
 rw[Qhq (by rfl)]
 exact Qgq (Qgq #[_,L,Qgq q])
def Ii{prog:X9}{w:Xc}{A:X_}{E:X0}{s:X4}{it d:X8}{i n ep:Nat}{o:Obj}{es:Array DictEntry}{Q:Option Value->Shared->Prop}(h:A.handled=none)
 (hi:s.heap.IsKeyIter it d i n ep) (c:s.heap.get? d=some o) (a:o.data=.dict es ep) (j:es.size=n) (he:es[i]?=none)
 (q:∀h':Heap,Heap.ExtBut it s.heap h'->Q none {s with heap:=h'}):wpAny (model prog w) A (pyNext (.ref it)) Q E s:=by
 let#[l,f,k,g]:=id hi
 unfold pyNext
 refine Qaq (wpAny_attempt (QiQ hi.typeIs F.slot_dict_keyiterator_next (wpAny_call_entry F.slot_dict_keyiterator_next hi.typeIs F.entry_dict_keyiterator_next ?_ (F.args_dict_keyiterator_next_1 _))))
 refine Qaq ?_
 refine Qaq ?_
 refine Qgq ?_
 refine Qgq ?_
 refine Qaq ?_
 refine Qaq ?_
 refine Qaq ?_
 refine wpAny_typeNameOfWhole_keyiter hi.typeIs ?_
 refine Qgq ?_
 show wpAny _ A.in1 (fieldsOf (.ref it) >>= _) _ _ s
 refine Qaq (wpAny_fieldsOf f g ?_)
 show wpAny _ A.in1 (if (Value.ref d==Value.none)=true then _ else _) _ _ s
 rw[Quq (by simp)]
 refine Qaq (Qgq ?_)
 refine Qaq (wpAny_dictEntries c a ?_)
 show wpAny _ A.in1 (if (((es.size:Nat):Int) !=((n:Nat):Int))=true then _ else _) _ _ s
 rw[Quq (by rw[j];simp)]
 refine Qaq (Qgq ?_)
 refine Qaq (wpAny_dictEpoch c a ?_)
 show wpAny _ A.in1 (if (((ep:Nat):Int) !=((ep:Nat):Int))=true then _ else _) _ _ s
 rw[Quq (by simp)]
 refine Qgq ?_
 show wpAny _ A.in1 (match (if ((i:Nat):Int)<0 then none else es[((i:Nat):Int).toNat]?) with|some e=>_|none=>_) _ _ s
 rw[Quq (!0),Int.toNat_natCast,he]
 refine Qaq (Qaq (wpAny_typeNameOfWhole_keyiter hi.typeIs (Qgq ?_)))
 refine Qaq (wpAny_setField f g (by show 0<4;decide) ?_)
 have b:Heap.SameBut it s.heap (s.heap.update it (Obj.mapFields λx=>x.setIfInBounds 0 Value.none)):=Heap.SameBut.update ..
 show wpAny _ A.in1 _ _ _ {s with heap:=s.heap.update it (Obj.mapFields λx=>x.setIfInBounds 0 Value.none)}
 generalize s.heap.update it (Obj.mapFields λx=>x.setIfInBounds 0 Value.none)=h' at b|-
 refine Qaq ?_
 show wpAny _ A.in1 (newTuple [] >>= _) _ _ _
 refine Qaq ?_
 show wpAny _ A.in1 (newObj (.type "tuple") _) _ _ _
 refine QhQ ?_
 refine Qaq (Qgq ?_)
 refine QhQ ?_ (by first|exact sizeOk_excFields .. |exact Nat.le_of_ble_eq_true L)
 show wpAny _ A.in1 (handled >>= _) _ _ _
 refine Qaq (wpAny_handled ?_)
 rw[show A.in1.handled=none from h]
 refine wpAny_throw ?_
 refine Qaq (wpAny_isInstance (T:="StopIteration") #[_,Qrq _ L,L] isSubtype_stop ?_)
 rw[Qhq L]
 exact Qgq (q _ ((b.extBut.push _).push _))
abbrev yz:=PyData×Addr×V
def CZ(e:yz)(x:PyData×Addr×Value):Prop:=e.1=x.1/\e.2.1=x.2.1/\RelV e.2.2 x.2.2
def vE(w:Xc)(x:PyData×Addr×Value):DictEntry:=#[ST.hv w x.1,.ref x.2.1,x.2.2]
def fU(w:Xc)(a:X8)(b:List yz)(ep:Nat)(h:Xe):Prop:=(a==sysModules)=false/\∃o d c,h.get? a=some o/\o.ExactDict/\o.data=.dict d ep/\d.toList=c.map (vE w)/\Paired CZ b c/\(b.map (·.1)).Nodup
def fU.keep{w:Xc}{a:X8}{b:List yz}{ep:Nat}{h h':Xe}(x:fU w a b ep h)(k:∀o,h.get? a=some o->h'.get? a=some o):fU w a b ep h':=by
 let#[g,o,f,e,d,c]:=x
 exact#[g,o,f,e,k _ d,c]
def EL(H:Hp)(a:List yz):Prop:=∀e∈a,ST.nv 8 e.1=true/\jY (λ_=>False) H e.1 (.ref e.2.1)
def rZ{a:List yz}{xs:List (PyData×Addr×Value)}(h:Paired CZ a xs):a.map (·.1)=xs.map (·.1):=by
 induction h with
 |nil=>rfl
 |cons h _ b=>rw[QDq,QDq,b,h.1]
def IJ{a:List yz}{xs:List (PyData×Addr×Value)}(h:Paired CZ a xs):∀x∈xs,∃e∈a,CZ e x:=by
 induction h with
 |nil=>intro x b;cases b
 | cons h _ c=>
   intro x b
   rcases Qsq.mp b with rfl|b
   · exact#[_,QBq,h]
   · let#[e,d,r]:=c x b
     exact#[e,Qpq _ d,r]
def kW(a:List yz)(p:PyData):Option V:=(a.find? λe=>PyData.eqv e.1 p).map (·.2.2)
def IY{x y:PyData}(b:ST.nv 8 x=true)(c:ST.nv 8 y=true):PyData.eqv x y=decide (x=y):=by
 cases a:PyData.eqv x y with
 |true=>exact(Qeq (ST.BH b c a)).symm
 | false=>
   have:¬x=y:=λe=>by
     subst e
     rw[SeqAt.eqv_refl _ (ST.my b).1] at a
     cases a
   exact(Qdq this).symm
def EU{a:List yz}{xs:List (PyData×Addr×Value)}{p:PyData}(h:Paired CZ a xs)(c:∀e∈a,ST.nv 8 e.1=true)(f:ST.nv 8 p=true):
  (atKey xs p=none/\kW a p=none)\/∃q v,atKey xs p=some q/\kW a p=some v/\RelV v q.2:=by
 induction h with
 |nil=>exact .inl #[L,L]
 | @cons e x es xs h _ b=>
   let b:=b λe g=>c e (Qpq _ g)
   let d:=IY (c e QBq) f
   unfold atKey kW at b|-
   rw[List.find?_cons,List.find?_cons,d,h.1]
   by_cases z:x.1=p
   · rw[Qeq z]
     exact .inr #[_,_,L,L,h.2.2]
   · rw[Qdq z]
     exact b
section
variable{X:Cx}{pins:X2}{σ:St}{H:Hp}{s:X4}{a b:X8}{els:List yz}{p:PyData}
def D1{P:X9}{w d:Xc}{h:Xe}{ep:Nat}(x:fU d a els ep h):cJ P w H h a (.ext (fU d a els ep)):=by
 refine#[x,?_,λc e p k=>p.keep k]
 let#[_,o,g,f,c,_]:=x
 exact#[o,c]
abbrev sQ(w:Xc)(h:Xe)(a:X8)(o:Obj)(es:Array DictEntry)(ep:Nat)(xs:List (PyData×Addr×Value)):Prop:=h.get? a=some o/\o.ExactDict/\o.data=.dict es ep/\es.toList=xs.map (vE w)
def nH{ep:Nat}(I:Inv X pins σ H s)(h:H a=some (.ext (fU X.w a els ep)))(t:EL H els):(a==sysModules)=false/\∃xs o es,sQ X.w s.heap a o es ep xs/\s.heap.DictOfH (ST.jB X.prog X.w) a xs/\Paired CZ els xs:=by
 let#[m,o,es,xs,i,f,k,g,d,v]:=(show cJ X.prog X.w H s.heap a (.ext _) from I.hok a _ h).1
 refine#[m,xs,o,es,#[i,f,k,g],#[o,es,ep,i,f,k,g,λx q=>?_,by rw[<-rZ d];exact v],d]
 let#[e,y,r]:=IJ d x q
 let#[j,n]:=t e y
 let#[l,c,_]:=jz I (λa z=>z.elim) n (u:=.ref e.2.1) L
 rw[r.1] at j c
 rw[r.2.1] at c
 exact#[j,l,c]
def wq(I:Inv X pins σ H s)(c:jY (λ_=>False) H p (.ref b))(f:ST.nv 8 p=true):(ST.jB X.prog X.w).is s.heap p b:=by
 let#[d,e,_]:=jz I (λa z=>z.elim) c (u:=.ref b) L
 exact#[f,d,e]
def Bp{A:X_}(c:A.units+64<cLine):(ST.jB X.prog X.w).room A.in1:=show A.in1.units+16<cLine from by
 have:A.in1.units=A.units+1:=rfl
 omega
end
def Lb(w:Xc)(g f:TE):TE:=λd H Q=>g d H λy H1=>f d H1 λx H2=>∃a b c e p,x=.ref a/\y=.ref b/\H2 a=some (.ext (fU w a c e))/\EL H2 c/\jY (λ_=>False) H2 p (.ref b)/\ST.nv 8 p=true/\Q (.bl (kW c p).isSome) H2
def LQ(w:Xc)(f g:TE):TE:=λd H Q=>f d H λx H1=>g d H1 λy H2=>∃a b c e p v,x=.ref a/\y=.ref b/\H2 a=some (.ext (fU w a c e))/\EL H2 c/\jY (λ_=>False) H2 p (.ref b)/\ST.nv 8 p=true/\kW c p=some v/\Q v H2
def K0(w:Xc)(g h f:TE):TS:=λD d H=>f d H λv H1=>g d H1 λx H2=>h d H2 λy H3=>∃a b c e p,x=.ref a/\y=.ref b/\H3 a=some (.ext (fU w a c e))/\EL H3 c/\jY (λ_=>False) H3 p (.ref b)/\ST.nv 8 p=true/\c.length<=5000/\kW c p=none/\D.nx d (upd H3 a (.ext (fU w a (c++ [(p,b,v)]) (e+1))))
section
variable{X:Cx}{o i value k v:Expr}{pos pos':Pos}{td ty tv tk:TE}
def Jq(M:X.A.units+64<cLine)(hi:PE X i ty)(J:PE X o td):PC X .In i o (Lb X.w ty td):=by
 intro c s m H Q I h
 refine bZ (hi c s m H _ I h) λZ N ⟨y,H1,C,R,F⟩=>bZ (J c N m H1 _ C F) λu s2 S=>?_
 let#[x,H2,d,P,a,b,g,ep,p,z,Y,W,q,t,n,q2]:=S
 subst z Y
 obtain rfl:u=Value.ref a:=P
 obtain rfl:Z=Value.ref b:=R
 let#[B,K,oo,es,l,U,r]:=nH d W q
 refine wpAny_in_heap (Bp M) (wq d t n) B U ?_
 have:(atKey K p).isSome=(kW g p).isSome:=by
  rcases EU r (λe h=>(q e h).1) n with⟨j,f⟩|⟨_,_,j,f,_⟩
  ·rw[j,f];rfl
  ·rw[j,f];rfl
 rw[this]
 exact#[.bl _,H2,d.tok _,L,q2]
def FR(N:X.A.units+64<cLine)(M:PE X o td)(hi:PE X i ty)(S:Ed i):PE X (.Subscript o i pos) (LQ X.w td ty):=by
 intro c s l H Q I h
 refine Bz PySem.F.slot_dict_getitem.lookup S (bZ (M c s l H _ I h) λu P ⟨x,H1,J,R,K⟩=>bZ (hi c P l H1 _ J K) λiv s2 U=>?_)
 let#[y,H2,f,W,a,b,Y,ep,p,v,C,ey,hS,z,B,m,g,q2]:=U
 subst C ey
 obtain rfl:u=Value.ref a:=R
 obtain rfl:iv=Value.ref b:=W
 let#[h0,xs,oo,es,j,n,r]:=nH f hS z
 refine#[n.typeIs,?_]
 rcases EU r (λe h=>(z e h).1) m with⟨t,d⟩|⟨q,v',t,d,Z⟩
 ·rw[g] at d;cases d
 ·rw[g] at d
  cases d
  exact wpAny_getItem_heap (Bp N) (wq f B m) n t #[v,H2,f.tok _,Z,q2]
def Ju{a:List yz}{xs:List (PyData×Addr×Value)}{e:yz}{x:PyData×Addr×Value}(h:Paired CZ a xs)(r:CZ e x):Paired CZ (a++ [e]) (xs++ [x]):=by
 induction h with
 |nil=>exact .cons r .nil
 |cons h _ b=>exact .cons h b
def pq{a:List yz}{xs:List (PyData×Addr×Value)}(h:Paired CZ a xs):xs.length=a.length:=by
 induction h with
 |nil=>rfl
 |cons h _ b=>rw[Qnq,Qnq,b]
def HX{prog:X9}{w:Xc}{A:X_}{E:X0}{s:X4}{d a:X8}{o:Obj}{es:Array DictEntry}{ep:Nat}{xs:List (PyData×Addr×Value)}{k:PyData}{v:Xd}{Q:Unit->Shared->Prop}(n:A.units+16<cLine)
  (l:(ST.jB prog w).is s.heap k a) (z:sQ w s.heap d o es ep xs) (t:s.heap.DictOfH (ST.jB prog w) d xs) (h:atKey xs k=none)
  (q:∀(h':Xe) (o':Obj) (f:Array DictEntry),sQ w h' d o' f (ep+1) (xs++ [(k,a,v)])->Heap.SameBut d s.heap h'->Q () {s with heap:=h',toks:=s.toks+ST.Fe k}) (M:xs.length<=10000):
  wpAny (model prog w) A (dictSet d (.ref a) v) Q E s:=by
 let#[c,x,b,e]:=z
 let#[J,H,y,m,I,r,K,C,u]:=t
 rw[c] at m;cases m
 rw[b] at r;cases r
 have g:es.size=xs.length:=by have:=congrArg List.length e;simpa using this
 unfold dictSet
 refine QLq (Qaq ((ST.jB prog w).pyHash (show A.units+16<cLine from n) l ?_))
 unfold dictSetHashed
 refine QLq (Qaq (wpAny_dictFind_heap (knd:=ST.jB prog w) (show A.units+16<cLine from n) l c b e C u (λ_=>?_) λj p F=>?_))
 ·refine Qaq (wpAny_rule ?_)
  refine wpAny_updateDictKeys c b ?_ (by rw[g,sizeLine_eq];omega) (by simp)
  refine q _ _ _ #[Heap.get?_update_self _ c (Obj.isFreed_of_dict (Obj.data_mapDictKeys b _)),x.mapDictKeys _,Obj.data_mapDictKeys b _,?_] (Heap.SameBut.update ..)
  rw[Array.toList_push,e,Qzq]
  rfl
 ·exfalso
  unfold atKey at h
  have B:(k,p)∈xs:=mQg F
  rw[Option.map_eq_none_iff,List.find?_eq_none] at h
  exact h _ B (by simp)
def GF(hu:X.A.units+64<cLine)(ho:PE X o td)(hi:PE X i ty)(hv:PE X value tv)(hs:swapsWith value (some (.Subscript o i pos')) pos.line X.env=pure false):
  PS X (.Assign [.Subscript o i pos'] value pos) (K0 X.w td ty tv):=by
 intro d s n H D I h
 refine wpAny_Assign_Subscript (bZ (hv d s n H _ I h) λr s1 ⟨v,H1,I1,rv,q1⟩=>bZ (ho d s1 n H1 _ I1 q1) λu s2 ⟨x,H2,I2,rx,q2⟩=>bZ (hi d s2 n H2 _ I2 q2) λiv S ⟨y,H3,B,ry,a,b,l,ep,p,Z,ey,W,U,Y,R,hl,hg,q3⟩=>?_) hs
 subst Z ey
 obtain rfl:u=Value.ref a:=rx
 obtain rfl:iv=Value.ref b:=ry
 let#[h0,xs,oo,es,g,f,j]:=nH B W U
 rcases EU j (λe h=>(U e h).1) R with⟨m,C⟩|⟨q,v',m,C,e3⟩
 ·unfold setItem
  refine QLq (Qaq (wpAny_sequenceKey f.typeIs (!1) ?_))
  refine Qaq (QiQ f.typeIs F.slot_dict_setitem (wpAny_call_entry F.slot_dict_setitem f.typeIs F.entry_dict_setitem ?_ (F.args_dict_setitem_3 ..)))
  show wpAny _ X.A.in1 (Builtin.Dict.notOrdered _ _ >>= _) _ _ S
  refine Qaq (wpAny_notOrdered_dict f.typeIs ?_)
  show wpAny _ X.A.in1 (dictSet a (.ref b) r >>= _) _ _ S
  refine Qaq (HX (by have:X.A.in1.units=X.A.units+1:=rfl;omega) (wq B Y R) g f m (λP o' K c sb=>?_) (by have:=pq j;omega))
  refine Qgq #[_,L,Qgq ?_]
  have nn:((l++ [(p,b,v)]).map (·.1)).Nodup:=by
   let#[_,_,_,_,_,_,_,_,z]:=f
   rw[Qzq,List.nodup_append]
   refine#[by rw[rZ j];exact z,by simp,λx N y Q M=>?_]
   erw[QDq,List.map_nil,Qfq] at Q
   subst Q
   subst M
   rw[rZ j] at N
   let#[q,hq,t]:=Qkq.mp N
   unfold atKey at m
   rw[Option.map_eq_none_iff,List.find?_eq_none] at m
   exact m q hq (by simpa using t)
  have hN:fU X.w a (l++ [(p,b,v)]) (ep+1) P:=#[h0,o',K,_,c.1,c.2.1,c.2.2.1,c.2.2.2,Ju j #[L,L,rv],nn]
  have J:∃q,P.get? a=some q:=#[_,c.1]
  exact#[n,_,vV B (by rw[W];exact True.intro) sb J (D1 hN),q3]
 ·rw[hg] at C;cases C
end
end L2
namespace DL
open PySem PySem.Spec PyProof.Rows L2
inductive D where
 |non|bl (b:Bool)|int (i:Int)|str (x:Str)|tup (xs:List D)|ref (k:Nat)|fn (x:Str)|mt (xs:X6)
inductive O where
 |lst (xs:List D)|frz (xs:List D)|dct (kvs:List (Key×D))|sett (xs:List D)|dctN (e:Nat) (ks vs:List D)
abbrev aH:=List O
mutual
def ji:D->Option PyData
 |.int i=>some (.int i)
 |.str x=>if PyData.strOk x=true then some (.str x) else none
 |.tup a=>(dM a).map .tuple
 |_=>none
def dM:List D->Option (List PyData)
 | []=>some []
 |d::ds=>(ji d).bind λp=>(dM ds).map (p::·)
end
abbrev cI:=List (Option D)
structure Md where
 K:PySem.W.Frag
 mg:Str->Option Value
 w:World
mutual
inductive Rel(M:Md)(ρ:X7)(H:Hp):D->V->Prop
 |non:Rel M ρ H .non .non
 |bl (b:Bool):Rel M ρ H (.bl b) (.bl b)
 |int (i:Int):Rel M ρ H (.int i) (.int i)
 |str (x:Str):Rel M ρ H (.str x) (.str x)
 |tup {a:X8} {vs:List V} {ds:List D}:H a=some (.tup vs)->bb M ρ H ds vs->Rel M ρ H (.tup ds) (.ref a)
 |ref {k:Nat} {a:X8}:ρ[k]?=some a->Rel M ρ H (.ref k) (.ref a)
 |fn {x:Str} {a:X8}:M.mg x=some (.ref a)->Rel M ρ H (.fn x) (.ref a)
 |mt {a:X8} {o:Obj} {its:Xa} {n:Nat} {xs:X6}:M.K.lookup a=some o->o.cls=.type "tuple" ->o.data=.seq its n->its.size<=sizeLine->bt (xs.map V.str) its.toList->Rel M ρ H (.mt xs) (.ref a)
inductive bb(M:Md)(ρ:X7)(H:Hp):List D->List V->Prop
 |nil:bb M ρ H [] []
 |cons {d:D} {v:V} {ds:List D} {vs:List V}:Rel M ρ H d v->bb M ρ H ds vs->bb M ρ H (d::ds) (v::vs)
end
theorem Bu{M:Md}{ρ:X7}{H:Hp}:∀xs:List Str,bb M ρ H (xs.map D.str) (xs.map V.str)
 | []=>.nil
 |x::xs=>.cons (.str x) (Bu xs)
section
variable{M:Md}{ρ ρ':X7}{H H':Hp}
def Mx:HO->Prop
 |.tup _=>True
 |.frz _ _=>True
 |_=>False
structure bQ(ρ:X7)(H:Hp)(ρ':X7)(H':Hp):Prop where
 pre:ρ <+: ρ'
 new:∀a∈ρ',a∈ρ\/H a=none
 keep:∀a o,H a=some o->a∉ρ\/Mx o->H' a=some o
 grow:∀a,H' a=none->H a=none
def bQ.refl:bQ ρ H ρ H:=#[List.prefix_refl _,λ_ h=>.inl h,λ_ _ h _=>h,λ_ h=>h]
def bQ.trans{b d:X7}{H1 H2:Hp}(e:bQ ρ H b H1)(f:bQ b H1 d H2):bQ ρ H d H2 where
 pre:=e.pre.trans f.pre
 new:=λa h=>(f.new a h).elim (λh=>e.new a h) λh=>.inr (e.grow a h)
 keep:=λa o h c=>f.keep a o (e.keep a o h c) (c.imp (λn m=>(e.new a m).elim n λz=>by rw[z] at h;cases h) id)
 grow:=λa h=>e.grow a (f.grow a h)
def bQ.laid{a:X8}{o:HO}(h:H a=none):bQ ρ H ρ (upd H a o) where
 pre:=List.prefix_refl _
 new:=λ_ h=>.inl h
 keep:=λb c e _=>by rw[a7];exact e;intro z;subst z;rw[h] at e;cases e
 grow:=λb e=>by
  by_cases z:b=a
  ·subst z;exact h
  ·rw[a7 z] at e;exact e
theorem oG{α:Type}:∀{l:List α},l.Nodup->∀{i j:Nat} {a:α},l[i]?=some a->l[j]?=some a->i=j
 | [],_,_,_,_,h,_=>by simp at h
 |x::l,n,0,0,_,_,_=>rfl
 | x::l,n,0,j+1,a,h1,h2=>by
   rw[List.nodup_cons] at n
   simp at h1 h2
   subst h1
   exact absurd (mQg h2) n.1
 | x::l,n,i+1,0,a,h1,h2=>by
   rw[List.nodup_cons] at n
   simp at h1 h2
   subst h2
   exact absurd (mQg h1) n.1
 | x::l,n,i+1,j+1,a,h1,h2=>by
   rw[List.nodup_cons] at n
   simp at h1 h2
   exact congrArg (·+1) (oG n.2 h1 h2)
def bI{α β:Type}{a c:α}{b d:β}(h:some (a,b)=some (c,d)):a=c/\b=d:=by cases h;exact#[L,L]
def dD{α:Type}{l b:List α}(h:l <+: b){k:Nat}{a:α}(e:l[k]?=some a):b[k]?=some a:=by
 let#[t,rfl]:=h
 rw[QHq (gQs.mp e).1]
 exact e
mutual
theorem Rel.ext(e:bQ ρ H ρ' H'):∀{d:D} {v:V},Rel M ρ H d v->Rel M ρ' H' d v
 |_,_,.non=>.non
 |_,_,.bl b=>.bl b
 |_,_,.int i=>.int i
 |_,_,.str x=>.str x
 |_,_,.tup h hs=>.tup (e.keep _ _ h (.inr trivial)) (bb.ext e hs)
 |_,_,.ref h=>.ref (dD e.pre h)
 |_,_,.fn h=>.fn h
 |_,_,.mt h1 h2 h3 h4 h5=>.mt h1 h2 h3 h4 h5
theorem bb.ext(e:bQ ρ H ρ' H'):∀{ds:List D} {vs:List V},bb M ρ H ds vs->bb M ρ' H' ds vs
 |_,_,.nil=>.nil
 |_,_,.cons h hs=>.cons (Rel.ext e h) (bb.ext e hs)
end
mutual
theorem Rel.pre(e:ρ <+: ρ'):∀{d:D} {v:V},Rel M ρ H d v->Rel M ρ' H d v
 |_,_,.non=>.non
 |_,_,.bl b=>.bl b
 |_,_,.int i=>.int i
 |_,_,.str x=>.str x
 |_,_,.tup h hs=>.tup h (bb.pre e hs)
 |_,_,.ref h=>.ref (dD e h)
 |_,_,.fn h=>.fn h
 |_,_,.mt h1 h2 h3 h4 h5=>.mt h1 h2 h3 h4 h5
theorem bb.pre(e:ρ <+: ρ'):∀{ds:List D} {vs:List V},bb M ρ H ds vs->bb M ρ' H ds vs
 |_,_,.nil=>.nil
 |_,_,.cons h hs=>.cons (Rel.pre e h) (bb.pre e hs)
end
theorem bb.length:∀{ds:List D} {vs:List V},bb M ρ H ds vs->ds.length=vs.length
 |_,_,.nil=>rfl
 |_,_,.cons _ h=>congrArg (·+1) h.length
theorem bb.append:∀{ds es:List D} {vs ws:List V},bb M ρ H ds vs->bb M ρ H es ws->bb M ρ H (ds++es) (vs++ws)
 |_,_,_,_,.nil,h=>h
 |_,_,_,_,.cons h hs,h'=>.cons h (hs.append h')
theorem bb.get:∀{ds:List D} {vs:List V} {i:Nat} {d:D},bb M ρ H ds vs->ds[i]?=some d->∃v,vs[i]?=some v/\Rel M ρ H d v
 |_,_,0,_,.cons h _,e=>by cases e;exact#[_,L,h]
 |_,_,i+1,_,.cons _ hs,e=>hs.get (i:=i) (by simpa using e)
 |_,_,_,_,.nil,e=>by simp at e
theorem bb.set{d:D}{v:V}(h:Rel M ρ H d v):∀{ds:List D} {vs:List V} (i:Nat),bb M ρ H ds vs->bb M ρ H (ds.set i d) (vs.set i v)
 |_,_,_,.nil=>.nil
 |_,_,0,.cons _ t=>.cons h t
 |_,_,i+1,.cons q t=>.cons q (bb.set h i t)
theorem bb.take:∀{ds:List D} {vs:List V} (n:Nat),bb M ρ H ds vs->bb M ρ H (ds.take n) (vs.take n)
 |_,_,0,_=>.nil
 |_,_,_+1,.nil=>.nil
 |_,_,n+1,.cons h hs=>.cons h (hs.take n)
theorem bb.drop:∀{ds:List D} {vs:List V} (n:Nat),bb M ρ H ds vs->bb M ρ H (ds.drop n) (vs.drop n)
 |_,_,0,h=>h
 |_,_,_+1,.nil=>.nil
 |_,_,n+1,.cons _ hs=>hs.drop n
theorem bb.eraseIdx:∀{ds:List D} {vs:List V} (n:Nat),bb M ρ H ds vs->bb M ρ H (ds.eraseIdx n) (vs.eraseIdx n)
 |_,_,_,.nil=>.nil
 |_,_,0,.cons _ h=>h
 |_,_,n+1,.cons h hs=>.cons h (hs.eraseIdx n)
theorem bb.rep{ds:List D}{vs:List V}(h:bb M ρ H ds vs):∀k:Nat,bb M ρ H (List.replicate k ds).flatten (List.replicate k vs).flatten
 |0=>.nil
 |k+1=>by rw[QNq,QNq,List.flatten_cons,List.flatten_cons];exact h.append (h.rep k)
def cg(M:Md)(ρ:X7)(H:Hp):List (Key×D)->List (Key×V)->Prop
 | [],kv=>kv= []
 |(k,d)::r,kv=>∃v t,kv=(k,v)::t/\Rel M ρ H d v/\cg M ρ H r t
theorem cg.imp{ρ':X7}{H':Hp}(f:∀d v,Rel M ρ H d v->Rel M ρ' H' d v):∀{l:List (Key×D)} {a:List (Key×V)},cg M ρ H l a->cg M ρ' H' l a
 | [],_,h=>h
 |(_,_)::_,_,#[v,t,e,h,hs]=>#[v,t,e,f _ _ h,cg.imp f hs]
def nW(M:Md)(ρ:X7)(H:Hp)(a:X8):O->Prop
 |.lst d=>∃c,H a=some (.lst c)/\bb M ρ H d c
 |.frz d=>∃c o,H a=some (.frz o (.lst c))/\bb M ρ H d c
 |.dct f=>∃h,H a=some (.dK h)/\cg M ρ H f h
 |.sett d=>∃(i:X7) (g:List PyData),H a=some (.ext (ST.Kj a (List.zip g i)))/\bb M ρ H d (i.map V.ref)/\dM d=some g/\ST.Na 8 g=true
 |.dctN k j c=>∃b:List yz,H a=some (.ext (fU M.w a b k))/\bb M ρ H j (b.map λe=>V.ref e.2.1)/\bb M ρ H c (b.map (·.2.2))/\dM j=some (b.map (·.1))/\ST.pM 8 (b.map (·.1))=true
structure gy(M:Md)(ρ:X7)(S:aH)(H:Hp):Prop where
 len:ρ.length=S.length
 nd:ρ.Nodup
 obj:∀(k:Nat) (a:X8) (o:O),ρ[k]?=some a->S[k]?=some o->nW M ρ H a o
def nW.lay{a b:X8}{o:O}{u:HO}(h:nW M ρ H a o)(j:H b=none):nW M ρ (upd H b u) a o:=by
 have e:bQ ρ H ρ (upd H b u):=bQ.laid j
 have ne:∀{x},H a=some x->upd H b u a=some x:=λ{x} h=>by rw[a7];exact h;intro z;subst z;rw[j] at h;cases h
 cases o with
 |lst k=>let#[f,d,c]:=h;exact#[f,ne d,c.ext e]
 |frz k=>let#[f,o,d,c]:=h;exact#[f,o,ne d,c.ext e]
 |dct l=>let#[q,d,c]:=h;exact#[q,ne d,c.imp λ_ _ r=>r.ext e]
 |sett k=>let#[m,n,d,c,g]:=h;exact#[m,n,ne d,c.ext e,g]
 |dctN t s f=>let#[i,d,c,g,p]:=h;exact#[i,ne d,c.ext e,g.ext e,p]
def gy.lay{S:aH}{b:X8}{u:HO}(h:gy M ρ S H)(e:H b=none):gy M ρ S (upd H b u):=#[h.len,h.nd,λk a o d c=>(h.obj k a o d c).lay e]
theorem nW.pre{a:X8}{o:O}(e:ρ <+: ρ')(h:nW M ρ H a o):nW M ρ' H a o:=by
 cases o with
 |lst i=>let#[d,c,b]:=h;exact#[d,c,b.pre e]
 |frz i=>let#[d,o,c,b]:=h;exact#[d,o,c,b.pre e]
 |dct j=>let#[n,c,b]:=h;exact#[n,c,b.imp λ_ _ r=>r.pre e]
 |sett i=>let#[k,l,c,b,f]:=h;exact#[k,l,c,b.pre e,f]
 |dctN q p d=>let#[g,c,b,f,m]:=h;exact#[g,c,b.pre e,f.pre e,m]
def gy.box{S:aH}{a:X8}{o:O}(h:gy M ρ S H)(l:a∉ρ)(g:nW M (ρ++ [a]) H a o):gy M (ρ++ [a]) (S++ [o]) H where
 len:=by rw[lQa,lQa,h.len];rfl
 nd:=by rw[List.nodup_append];exact#[h.nd,by simp,λx j y f=>by rw[Qfq] at f;subst f;exact λz=>l (z▸j)]
 obj:=λk b u d e=>by
  by_cases c:k<ρ.length
  ·rw[QHq c] at d
   rw[QHq (h.len▸c)] at e
   exact(h.obj k b u d e).pre (List.prefix_append _ _)
  ·have c:ρ.length<=k:=Nat.le_of_not_lt c
   rw[QQq c] at d
   rw[QQq (h.len▸c)] at e
   have z:k-ρ.length=0:=by
    have:=(gQs.mp d).1
    simp at this
    omega
   have i:k-S.length=0:=by rw[<-h.len];exact z
   rw[z] at d
   rw[i] at e
   cases d
   cases e
   exact g
def gy.put{S:aH}{k:Nat}{a:X8}{o o':O}{u:HO}(h:gy M ρ S H)(s:ρ[k]?=some a)(N:S[k]?=some o)(Q:nW M ρ (upd H a u) a o')(ne:∀x,H a=some x->¬Mx x):gy M ρ (S.set k o') (upd H a u)/\bQ ρ H ρ (upd H a u):=by
 have K:a∈ρ:=mQg s
 have e:bQ ρ H ρ (upd H a u):=by
  refine#[List.prefix_refl _,λ_ h=>.inl h,λb x A c=>?_,λb m=>?_]
  ·rw[a7]
   ·exact A
   ·intro z
    subst z
    exact c.elim (λn=>n K) λU=>ne _ A U
  ·by_cases z:b=a
   ·subst z;rw[bg] at m;cases m
   ·rw[a7 z] at m;exact m
 refine#[#[by rw[List.length_set];exact h.len,h.nd,λj b p g l=>?_],e]
 by_cases c:j=k
 ·subst c
  rw[s] at g
  cases g
  rw[Qyq (gQs.mp N).1] at l
  cases l
  exact Q
 ·rw[QKq (Ne.symm c)] at l
  have i:b≠a:=by
   intro z
   subst z
   let B:=(gQs.mp g)
   let C:=(gQs.mp s)
   let#[B,Z]:=B
   let#[C,X]:=C
   exact c (oG h.nd g s)
  let q:=h.obj j b p g l
  cases p with
  |lst y=>let#[t,d,f]:=q;exact#[t,by rw[a7 i];exact d,f.ext e]
  |frz y=>let#[t,o,d,f]:=q;exact#[t,o,by rw[a7 i];exact d,f.ext e]
  |dct F=>let#[R,d,f]:=q;exact#[R,by rw[a7 i];exact d,f.imp λ_ _ r=>r.ext e]
  |sett y=>let#[I,J,d,f,v]:=q;exact#[I,J,by rw[a7 i];exact d,f.ext e,v]
  |dctN Y W t=>let#[w,d,f,v,P]:=q;exact#[w,by rw[a7 i];exact d,f.ext e,v.ext e,P]
end
structure En(M:Md)(ρ:X7)(H:Hp)(Γ:cI)(σ:L2.St):Prop where
 len:σ.length=Γ.length
 get:∀(i:Nat) (d:D),Γ[i]?=some (some d)->∃v,σ[i]?=some (some v)/\Rel M ρ H d v
def En.ext{M:Md}{ρ a:X7}{H b:Hp}{c:cI}{f:L2.St}(h:En M ρ H c f)(e:bQ ρ H a b):En M a b c f:=#[h.len,λi d q=>by let#[v,j,g]:=h.get i d q;exact#[v,j,g.ext e]]
def En.set{M:Md}{ρ:X7}{H:Hp}{a:cI}{b:L2.St}{i:Nat}{d:D}{v:V}(h:En M ρ H a b)(r:Rel M ρ H d v):En M ρ H (a.set i (some d)) (b.set i (some v)) where
 len:=by rw[List.length_set,List.length_set];exact h.len
 get:=λj e q=>by
  by_cases c:i=j
  ·subst c
   have l:i<a.length:=by
    have:=(gQs.mp q).1
    rwa [List.length_set] at this
   rw[Qyq l] at q
   cases q
   exact#[v,Qyq (h.len▸l),r]
  ·rw[QKq c] at q|-
   exact h.get j e q
structure Ok(M:Md)(ρ:X7)(Γ:cI)(S:aH)(σ:L2.St)(H:Hp):Prop where
 en:En M ρ H Γ σ
 st:gy M ρ S H
def Ok.to{M:Md}{ρ a:X7}{c:cI}{S S':aH}{d:L2.St}{H b:Hp}(h:Ok M ρ c S d H)(e:bQ ρ H a b)(s:gy M a S' b):Ok M a c S' d b:=#[h.en.ext e,s]
abbrev bc:=cI->aH->Option (D×aH)
abbrev fF:=cI->aH->Option (List D×aH)
abbrev iB:=cI->aH->Option (Bool×aH)
def tD(M:Md)(f:bc):TE:=λh H Q=>∃e g S d c,Ok M e g S h H/\f g S=some (d,c)/\∀a v b,bQ e H a b->gy M a c b->Rel M a b d v->Q v b
def tL(M:Md)(f:fF):TE:=λj H Q=>∃g h S i d,Ok M g h S j H/\f h S=some (i,d)∧
 ∀b a e c,bQ g H b c->gy M b d c->H a=none->a∉b->c a=some (.lst e)->bb M b c i e->Q (.ref a) c
def xW(M:Md)(f:fF):TA:=λi H Q=>∃e g S h c,Ok M e g S i H/\f g S=some (h,c)/\∀a d b,bQ e H a b->gy M a c b->bb M a b h d->Q d b
def tB(M:Md)(f:iB):TT:=λh H Q=>∃e g S b d,Ok M e g S h H/\f g S=some (b,d)/\∀a c,bQ e H a c->gy M a d c->Q b c
section
variable{X:Cx}
abbrev md(X:Cx):Md:=#[X.K,X.mg,X.w]
def gX{e:Expr}{t t':TE}(h:PE X e t)(w:∀b H Q,t' b H Q->t b H Q):PE X e t':=λa s b H Q I q=>h a s b H Q I (w _ _ _ q)
def L8{e:Expr}{t t':TT}(h:PT X e t)(w:∀b H Q,t' b H Q->t b H Q):PT X e t':=λa s b H Q I q=>h a s b H Q I (w _ _ _ q)
def NO{e:Expr}{t t':TT}(h:PW X e t)(w:∀b H Q,t' b H Q->t b H Q):PW X e t':=λc a s b H Q I q=>h c a s b H Q I (w _ _ _ q)
def NS{es:List Expr}{t t':TA}(h:PA X es t)(w:∀b H Q,t' b H Q->t b H Q):PA X es t':=λc a s b H Q I q=>h c a s b H Q I (w _ _ _ q)
def CV{e:Stmt}{t t':TS}(h:PS X e t)(w:∀D b H,t' D b H->t D b H):PS X e t':=λa s b H D I q=>h a s b H D I (w _ _ _ q)
def Lq{e:List Stmt}{t t':TS}(h:rA X e t)(w:∀D b H,t' D b H->t D b H):rA X e t':=λa s b H D I q=>h a s b H D I (w _ _ _ q)
noncomputable def ax(i:Nat):bc:=λa S=>match a[i]? with
 |some (some d)=>some (d,S)
 |_=>none
def B3{i:Nat}{a:cI}{S:aH}{d:D}{S':aH}(h:ax i a S=some (d,S')):a[i]?=some (some d)/\S'=S:=by
 unfold ax at h
 split at h
 ·cases h;exact#[by assumption,L]
 ·cases h
def Kp{e:Expr}{i:Nat}(h:PE X e (JP i)):PE X e (tD (md X) (ax i)):=gX h λl H Q b=>by
 let#[c,k,S,d,j,ok,e,q]:=b
 let#[a,rfl]:=B3 e
 let#[v,g,f]:=ok.en.get i d a
 exact#[v,g,q c v H bQ.refl ok.st f]
noncomputable def cF(d:D):bc:=λ_ S=>some (d,S)
def c_{e:Expr}{v:V}{d:D}(h:PE X e (tC v))(r:∀ρ H,Rel (md X) ρ H d v):PE X e (tD (md X) (cF d)):=gX h λg H Q a=>by
 let#[ρ,f,S,c,b,ok,e,q]:=a
 cases e
 exact q ρ v H bQ.refl ok.st (r _ _)
def aA{i:Int}{j pos}:PE X (.Constant (.int i) j pos) (tD (md X) (cF (.int i))):=c_ JW λ_ _=>.int i
def ft{b:Bool}{j pos}:PE X (.Constant (.bool b) j pos) (tD (md X) (cF (.bl b))):=c_ LG λ_ _=>.bl b
def G9{j pos}:PE X (.Constant .none j pos) (tD (md X) (cF .non)):=c_ Ji λ_ _=>.non
def a8{x:Str}{j pos}:PE X (.Constant (.str x) j pos) (tD (md X) (cF (.str x))):=c_ Eb λ_ _=>.str x
def bR(f:fF):bc:=λb S=>(f b S).bind λ(c,a)=>some (.ref a.length,a++ [.lst c])
def bG{e:Expr}{f:fF}(h:PE X e (tL (md X) f)):PE X e (tD (md X) (bR f)):=gX h λy H Q s=>by
 let#[t,k,S,d,z,ok,e,q]:=s
 unfold bR at e
 cases j:f k S with
 |none=>rw[j] at e;cases e
 | some p=>
   let#[n,v]:=p
   rw[j] at e
   let#[rfl,rfl]:=bI e
   refine#[t,k,S,n,v,ok,j,λg a m w x l fr r u o=>?_]
   let i:=o.pre (List.prefix_append g [a])
   refine q (g++ [a]) (.ref a) w #[x.pre.trans (List.prefix_append _ _),λb c=>?_,x.keep,x.grow] (l.box r #[m,u,i]) (.ref ?_)
   · rcases mQa.mp c with c|c
     · exact x.new b c
     · rw[Qfq] at c;subst c;exact .inr fr
   · rw[<-l.len,QQq (Qmq _)]
     simp
noncomputable def az:fF:=λ_ S=>some ([],S)
noncomputable def au(f:bc)(g:fF):fF:=λa S=>(f a S).bind λ(d,c)=>(g a c).bind λ(e,b)=>some (d::e,b)
def ar{α β:Type}{o:Option α}{f:α->Option β}{b:β}(h:o.bind f=some b):∃a,o=some a/\f a=some b:=by
 cases o with
 |none=>cases h
 |some a=>exact#[a,L,h]
def aw:PA X [] (xW (md X) az):=NS fN λg H Q a=>by
 let#[b,f,S,d,c,ok,e,q]:=a
 cases e
 exact q b [] H bQ.refl ok.st .nil
def aq{e:Expr}{es:List Expr}{f:bc}{g:fF}(A:PE X e (tD (md X) f))(t:PA X es (xW (md X) g))(w:autoParam (starEach (e::es) X.env=(false,eval e X.env)::starEach es X.env) af._auto_1):PA X (e::es) (xW (md X) (au f g)):=
 NS (dE A t w) λB H Q r=>by
  let#[s,i,S,d,C,ok,e,q]:=r
  let#[#[x,k],z,e]:=ar e
  let#[#[u,p],o,e]:=ar e
  let#[rfl,rfl]:=bI e
  refine#[s,i,S,x,k,ok,z,λh v H1 l a m=>#[h,i,k,u,p,ok.to l a,o,λb n H2 j c y=>?_]]
  exact q b (v::n) H2 (l.trans j) c (.cons (m.ext j) y)
def cm(f:fF):bc:=λc S=>(f c S).bind λ(a,b)=>if a.length<=sizeLine then some (.tup a,b) else none
def bV{es:List Expr}{f:fF}{k pos}(h:PA X es (xW (md X) f)):PE X (.Tuple es k pos) (tD (md X) (cm f)):=gX (Ih h) λu H Q l=>by
 let#[m,n,S,d,v,ok,e,q]:=l
 let#[#[j,r],o,e]:=ar e
 dsimp only at e
 split at e
 ·rename_i c
  let#[rfl,rfl]:=bI e
  refine#[m,n,S,j,r,ok,o,λb t H1 s a i=>#[i.length▸c,λp g=>?_]]
  exact q b (.ref p) _ (s.trans (bQ.laid g)) (a.lay g) (.tup bg (i.ext (bQ.laid g)))
 ·cases e
def bJ(f:fF):fF:=λc S=>(f c S).bind λ(a,b)=>if a.length<=sizeLine then some (a,b) else none
def cn{M:Md}{ρ a:X7}{S:aH}{H f:Hp}{p:X8}(x:bQ ρ H a f)(st:gy M a S f)(b:f p=none):p∉a:=λm=>by
 let#[k,g]:=List.getElem?_of_mem m
 have l:k<S.length:=st.len▸(gQs.mp g).1
 have:=st.obj k p _ g (gQe l)
 cases e:S[k] with
 |lst d=>rw[e] at this;let#[c,h,_]:=this;rw[b] at h;cases h
 |frz d=>rw[e] at this;let#[c,o,h,_]:=this;rw[b] at h;cases h
 |dct d=>rw[e] at this;let#[c,h,_]:=this;rw[b] at h;cases h
 |sett d=>rw[e] at this;let#[_,_,h,_]:=this;rw[b] at h;cases h
 |dctN j i c=>rw[e] at this;let#[_,h,_]:=this;rw[b] at h;cases h
def cj{es:List Expr}{f:fF}{pos}(h:PA X es (xW (md X) f)):PE X (.List es pos) (tL (md X) (bJ f)):=gX (JT h) λt H Q m=>by
 let#[n,o,S,d,u,ok,e,q]:=m
 let#[#[l,s],r,e]:=ar e
 dsimp only at e
 split at e
 ·rename_i c
  let#[rfl,rfl]:=bI e
  refine#[n,o,S,l,s,ok,r,λg k H1 i a j=>#[j.length▸c,λp b=>?_]]
  exact q g p k _ (i.trans (bQ.laid b)) (a.lay b) (i.grow p b) (cn i a b) bg (j.ext (bQ.laid b))
 ·cases e
end
section
variable{X:Cx}{a b c e:Expr}{pos:Pos}
def Et:hJ X (binaryOp .Add) (λx y H Q=>∃a b ys,x=.ref a/\y=.ref b/\iC X.K H a []/\iC X.K H b ys/\Q (.ref b) H):=by
 intro w s S H x y v u Q I M N h
 let#[a,b,ys,rfl,rfl,ha,j,q]:=h
 cases M
 cases N
 let#[J,B,C,_]:=I.tuple ha
 let#[g,U,j,_]:=I.tuple j
 cases B
 let#[#[A,P,p,sl],t,z,n,o]:=id C
 let#[#[r,k,m,l],i,f,R,d]:=id j
 simp only at z o f d
 subst z o f d
 exact concat_meets #[_,t,L] #[_,i,L] noFill_tuple_add seq_tuple_add PySem.F.slot_tuple_add PySem.F.entry_tuple_add (PySem.F.args_tuple_add_2 _ _)
   (tuple_addW0 a b _ g.toArray n R P k sl l (by simp)) #[t,i,.ref b,H,I,L,q]
abbrev ni:=aH->D->D->Option D
def gA(M:Md)(r:R2)(o:ni):Prop:=∀{f:X7} {S:aH} {H:Hp} {x y d:D} {u v:V} {Q:VK},gy M f S H->Rel M f H x u->Rel M f H y v->o S x y=some d->(∀w g,bQ f H f g->gy M f S g->Rel M f g d w->Q w g)->r u v H Q
noncomputable def bo(o:ni)(f g:bc):bc:=λi S=>(f i S).bind λ(x,j)=>(g i j).bind λ(y,h)=>(o h x y).bind λd=>some (d,h)
def nF{r:R2}{o:ni}{f g:bc}(I:gA (md X) r o)(h:PE X e (Ff r (tD (md X) f) (tD (md X) g))):PE X e (tD (md X) (bo o f g)):=gX h λU H Q J=>by
 let#[K,n,S,d,W,ok,e,q]:=J
 let#[#[x,s],N,e]:=ar e
 let#[#[y,F],C,e]:=ar e
 let#[R,P,e]:=ar e
 let#[rfl,rfl]:=bI e
 refine#[K,n,S,x,s,ok,N,λm v H1 t i A=>#[m,n,s,y,F,ok.to t i,C,λj w H2 p l M=>?_]]
 exact I l (A.ext p) M P λz H3 B k u=>q j z H3 ((t.trans p).trans B) k u
def dy:ni:=λ_ x y=>match x,y with
 |.int i,.int j=>some (.int (i+j))
 |.str i,.str j=>if i.length+j.length<=sizeLine then some (.str (i++j)) else none
 |.tup i,.tup j=>if i.length+j.length<=sizeLine then some (.tup (i++j)) else none
 |_,_=>none
abbrev Lz(K:X1):R2:=λx y H Q=>(∃i j,x=.int i/\y=.int j/\Q (.int (i+j)) H)\/(∃i j,x=.str i/\y=.str j/\i.length+j.length<=sizeLine/\Q (.str (i++j)) H)∨
 (∃a b d,x=.ref a/\y=.ref b/\iC K H a []/\iC K H b d/\Q (.ref b) H)\/G3 K x y H Q
def GS:hJ X (binaryOp .Add) (Lz X.K):=I_.or (zT.or (Et.or FT))
def HW{M:Md}:gA M (Lz M.K) dy:=by
 intro w S H x y d u v Q h o n e q
 cases o with
 |int i=>cases n <;>erw[dy,reduceCtorEq] at e;cases e;exact .inl #[_,_,L,L,q _ _ bQ.refl h (.int _)]
 | str i=>
   cases n <;>erw[dy,reduceCtorEq] at e
   split at e <;>cases e
   exact .inr (.inl #[_,_,L,L,by assumption,q _ _ bQ.refl h (.str _)])
 | tup k f=>
   cases n with
   | tup m j=>
     erw[dy] at e
     split at e <;>cases e
     rename_i r
     let s:=f.length
     let t:=j.length
     cases f with
     |nil=>exact .inr (.inr (.inl #[_,_,_,L,L,iC.of k,iC.of m,q _ _ bQ.refl h (.tup m j)]))
     | cons f g=>
       refine .inr (.inr (.inr #[_,_,_,_,L,L,iC.of k,iC.of m,by simp,by rw[<-s,<-t];exact r,λz=>?_,λz p l=>?_]))
       · subst z
         cases j
         rw[List.append_nil] at q
         exact q _ _ bQ.refl h (.tup k (.cons f g))
       · exact q _ _ (bQ.laid l) (h.lay l) (.tup bg ((bb.append (.cons f g) j).ext (bQ.laid l)))
   |_=>erw[dy,reduceCtorEq] at e
 |_=>erw[dy,reduceCtorEq] at e
def d_{f g:bc}(d:PE X a (tD (md X) f))(h:PE X b (tD (md X) g)):PE X (.BinOp a .Add b pos) (tD (md X) (bo dy f g)):=nF HW (nj GS d h)
def intD(C:Int->Int->Prop)[∀i j,Decidable (C i j)](k:Int->Int->D):ni:=λ_ x y=>match x,y with
 |.int i,.int j=>if C i j then some (k i j) else none
 |_,_=>none
def wZ{M:Md}{C:Int->Int->Prop}[∀i j,Decidable (C i j)]{k:Int->Int->D}{g:Int->Int->V}(h:∀i j ρ H,Rel M ρ H (k i j) (g i j)):gA M (rI C g) (intD C k):=by
 intro ρ S H x y d u v Q l f m e q
 cases f <;>cases m <;>erw[intD,reduceCtorEq] at e
 split at e <;>cases e
 exact#[_,_,L,L,by assumption,q _ _ bQ.refl l (h _ _ _ _)]
def oV{M:Md}{k:Int->Int->D}{g:Int->Int->V}(h:∀i j ρ H,Rel M ρ H (k i j) (g i j)):gA M (BP g) (intD (λ_ _=>True) k):=by
 intro ρ S H x y d u v Q l f m e q
 cases f <;>cases m <;>erw[intD,reduceCtorEq] at e
 rw[Qhq trivial] at e
 cases e
 exact#[_,_,L,L,q _ _ bQ.refl l (h _ _ _ _)]
instance{i j:Int}:Decidable (Dx i j):=by unfold Dx;infer_instance
instance{i j:Int}:Decidable (DU i j):=by unfold DU;infer_instance
open Classical in
noncomputable instance{i j:Int}:Decidable (IntMulOk i j):=Classical.propDecidable _
abbrev Ax:ni:=intD (λ_ _=>True) λi j=>.int (i-j)
noncomputable abbrev sX:ni:=intD IntMulOk λi j=>.int (i*j)
abbrev qS:ni:=intD (λ_ j=>0<j) λi j=>.int (i%j)
abbrev s_:ni:=intD Dx λi j=>.int (i/j)
abbrev De:ni:=intD DU λi j=>.int (i^j.toNat)
def yP{f g:bc}(d:PE X a (tD (md X) f))(h:PE X b (tD (md X) g)):PE X (.BinOp a .Sub b pos) (tD (md X) (bo Ax f g)):=nF (oV λi j _ _=>.int _) (nj HJ d h)
def qf{f g:bc}(d:PE X a (tD (md X) f))(h:PE X b (tD (md X) g)):PE X (.BinOp a .Mult b pos) (tD (md X) (bo sX f g)):=nF (wZ λi j _ _=>.int _) (nj Fm d h)
def nV{f g:bc}(d:PE X a (tD (md X) f))(h:PE X b (tD (md X) g)):PE X (.BinOp a .Mod b pos) (tD (md X) (bo qS f g)):=nF (wZ λi j _ _=>.int _) (nj HY d h)
def xc{f g:bc}(d:PE X a (tD (md X) f))(h:PE X b (tD (md X) g)):PE X (.BinOp a .FloorDiv b pos) (tD (md X) (bo s_ f g)):=nF (wZ λi j _ _=>.int _) (nj GL d h)
def Hx{f g:bc}(d:PE X a (tD (md X) f))(h:PE X b (tD (md X) g)):PE X (.BinOp a .Pow b pos) (tD (md X) (bo De f g)):=nF (wZ λi j _ _=>.int _) (nj JE d h)
def Kh(f:bc):bc:=λh S=>(f h S).bind λ(d,g)=>match d with
 |.int i=>some (.int (-i),g)
 |_=>none
def L_{f:bc}(n:PE X a (tD (md X) f)):PE X (.UnaryOp .USub a pos) (tD (md X) (Kh f)):=gX (L5 IG n) λr H Q j=>by
 let#[k,l,S,d,s,ok,e,q]:=j
 let#[#[x,o],m,e]:=ar e
 dsimp only at e
 split at e
 ·let#[rfl,rfl]:=bI e
  refine#[k,l,S,_,o,ok,m,λi v H1 p g h=>?_]
  cases h
  exact#[_,L,q _ _ _ p g (.int _)]
 ·cases e
def Ak:D->Option V
 |.non=>some .non
 |.bl b=>some (.bl b)
 |.int i=>some (.int i)
 |.str x=>some (.str x)
 |_=>none
def mZ{M:Md}{ρ:X7}{H:Hp}{d:D}{u v:V}(r:Rel M ρ H d u)(e:Ak d=some v):u=v:=by
 cases r <;>simp[Ak] at e <;>exact e
def iQ(d:Bool):ni:=λ_ x y=>match Ak x,Ak y with
 |some u,some v=>if yM u v=true then some (.bl (if d then !decide (u=v) else decide (u=v))) else none
 |_,_=>none
def yD{f:Bool}{S:aH}{x y d:D}(e:iQ f S x y=some d):∃u v,Ak x=some u/\Ak y=some v/\yM u v=true/\d=.bl (if f then !decide (u=v) else decide (u=v)):=by
 unfold iQ at e
 split at e
 ·split at e <;>cases e
  exact#[_,_,by assumption,by assumption,by assumption,L]
 ·cases e
def dQ{M:Md}:gA M NH (iQ false):=by
 intro n S H x y d u v Q j g k e q
 let#[m,l,h,f,i,rfl]:=yD e
 cases mZ g h
 cases mZ k f
 exact#[i,q _ _ bQ.refl j (.bl _)]
def ud{M:Md}:gA M NF (iQ true):=by
 intro n S H x y d u v Q j g k e q
 let#[m,l,h,f,i,rfl]:=yD e
 cases mZ g h
 cases mZ k f
 exact#[i,q _ _ bQ.refl j (.bl _)]
abbrev K_:ni:=intD (λ_ _=>True) λi j=>.bl (decide (i<j))
abbrev CY:ni:=intD (λ_ _=>True) λi j=>.bl (decide (i<=j))
abbrev NL:ni:=intD (λ_ _=>True) λi j=>.bl (decide (j<i))
abbrev NC:ni:=intD (λ_ _=>True) λi j=>.bl (decide (j<=i))
def AO{M:Md}:gA M (BP λi j=>.bl (decide (i<j))) K_:=oV λi j _ _=>.bl _
def lU{M:Md}:gA M (BP λi j=>.bl (decide (i<=j))) CY:=oV λi j _ _=>.bl _
def LS{M:Md}:gA M (BP λi j=>.bl (decide (j<i))) NL:=oV λi j _ _=>.bl _
def KW{M:Md}:gA M (BP λi j=>.bl (decide (j<=i))) NC:=oV λi j _ _=>.bl _
def isNone:D->Bool
 |.non=>true
 |_=>false
def Fz(d:Bool):ni:=λ_ x y=>match y with
 |.non=>some (.bl (if d then !isNone x else isNone x))
 |_=>none
def CD{M:Md}{ρ:X7}{H:Hp}{d:D}{u:V}(r:Rel M ρ H d u):decide (u=V.non)=isNone d:=by
 cases r <;>simp[isNone]
def JG{M:Md}:gA M (λx y H Q=>y=.non/\Q (.bl (decide (x=.non))) H) (Fz false):=by
 intro i S H x y d u v Q h g f e q
 cases f <;>erw[Fz,reduceCtorEq] at e
 cases e
 rw[CD g]
 exact#[L,q _ _ bQ.refl h (.bl _)]
def kT{d:CmpOp}{r:R2}{o:ni}{f g:bc}(j:hJ X (compareOp d) r)(h:gA (md X) r o)(k:PE X a (tD (md X) f))(l:PE X b (tD (md X) g))(i:behindInMarks d b=false):PE X (.Compare a [d] [b] pos) (tD (md X) (bo o f g)):=nF h (r8 j k l i)
noncomputable def bw(f:bc):iB:=λh S=>(f h S).bind λ(d,g)=>match d with
 |.bl k=>some (k,g)
 |_=>none
def sV{f:bc}{g:cI}{S S':aH}{k:Bool}(e:bw f g S=some (k,S')):f g S=some (.bl k,S'):=by
 let#[#[d,i],h,e]:=ar e
 dsimp only at e
 split at e
 ·cases e;exact h
 ·cases e
def LZ{r:R2}{o:ni}{f g:bc}(F:gA (md X) r o)(h:PT X e (A9 (Ff r (tD (md X) f) (tD (md X) g)))):PT X e (tB (md X) (bw (bo o f g))):=L8 h λU H Q I=>by
 let#[J,n,S,d,W,ok,e,q]:=I
 let e:=sV e
 let#[#[x,s],M,e]:=ar e
 let#[#[y,C],B,e]:=ar e
 let#[R,N,e]:=ar e
 let#[rfl,rfl]:=bI e
 refine#[J,n,S,x,s,ok,M,λm v H1 t i z=>#[m,n,s,y,C,ok.to t i,B,λj w H2 p l K=>?_]]
 exact F l (z.ext p) K N λP H3 A k u=>by cases u;exact#[_,L,q j H3 ((t.trans p).trans A) k]
def cZ{d:CmpOp}{r:R2}{o:ni}{f g:bc}(j:hJ X (compareOp d) r)(h:gA (md X) r o)(k:PE X a (tD (md X) f))(l:PE X b (tD (md X) g))(i:behindInMarks d b=false):PT X (.Compare a [d] [b] pos) (tB (md X) (bw (bo o f g))):=LZ h (rS j k l i)
def Ai(S:aH):D->Option Bool
 |.non=>some false
 |.bl b=>some b
 |.int i=>some (i !=0)
 |.str y=>if y.length<=sizeLine then some ((y.length:Int) !=0) else none
 |.tup d=>some (!d.isEmpty)
 | .ref k=>match S[k]? with
   |some (.lst d)=>some (!d.isEmpty)
   |some (.dct d)=>some (!d.isEmpty)
   |_=>none
 |.fn _=>none
 |.mt _=>none
def bb.isEmpty{M:Md}{ρ:X7}{H:Hp}{ds:List D}{vs:List V}(h:bb M ρ H ds vs):ds.isEmpty=vs.isEmpty:=by cases h <;>rfl
theorem cg.isEmpty{M:Md}{ρ:X7}{H:Hp}{ds:List (Key×D)}{vs:List (Key×V)}(h:cg M ρ H ds vs):ds.isEmpty=vs.isEmpty:=by
 cases ds with
 |nil=>cases h;rfl
 |cons p r=>let#[v,t,e,_]:=h;subst e;rfl
def F8{M:Md}{ρ:X7}{S:aH}{H:Hp}{d:D}{u:V}{k:Bool}(st:gy M ρ S H)(r:Rel M ρ H d u)(e:Ai S d=some k):JH M.K u H k:=by
 cases r with
 |non=>cases e;rfl
 |bl=>cases e;rfl
 |int=>cases e;rfl
 |str=>erw[Ai] at e;split at e <;>cases e;exact#[by assumption,L]
 |tup h j=>cases e;exact .inr (.inl #[_,iC.of h,by rw[j.isEmpty]])
 |fn=>cases e
 |mt=>cases e
 | ref h=>
   erw[Ai] at e
   split at e
   · cases e
     let#[f,i,g]:=st.obj _ _ _ h (by assumption)
     exact .inl #[f,iD.of i,by rw[g.isEmpty]]
   · cases e
     let#[f,i,g]:=st.obj _ _ _ h (by assumption)
     exact .inr (.inr #[f,i,by rw[g.isEmpty]])
   · cases e
def dI(f:bc):iB:=λh S=>(f h S).bind λ(d,g)=>(Ai g d).bind λk=>some (k,g)
def cB{f:bc}(r:PE X a (tD (md X) f))(he:autoParam (∀d,isTrue a X.env d=(do let v<-d;standAt a.pos;holding [v] (truthy v))) ag._auto_1):PT X a (tB (md X) (dI f)):=L8 (DV r he) λu H Q m=>by
 let#[n,o,S,k,w,ok,e,q]:=m
 let#[#[x,s],p,e]:=ar e
 let#[j,l,e]:=ar e
 let#[rfl,rfl]:=bI e
 exact#[n,o,S,x,s,ok,p,λi v H1 t g h=>#[j,F8 g h l,q _ _ t g]]
def ez(f:iB):iB:=λg S=>(f g S).bind λ(k,d)=>some (!k,d)
def cQ{f:iB}(n:PT X a (tB (md X) f)):PT X (.UnaryOp .Not a pos) (tB (md X) (ez f)):=L8 (Ij n) λr H Q i=>by
 let#[j,l,S,k,s,ok,e,q]:=i
 let#[#[g,o],m,e]:=ar e
 let#[rfl,rfl]:=bI e
 exact#[j,l,S,g,o,ok,m,λh H1 p d=>q _ _ p d]
def xZ(f g:iB):iB:=λh S=>(f h S).bind λ(k,d)=>if k=true then g h d else some (false,d)
def ue(f g:iB):iB:=λh S=>(f h S).bind λ(k,d)=>if k=true then some (true,d) else g h d
def wB{f:iB}(d:PT X a (tB (md X) f)):PW X (.BoolOp .And [a] pos) (tB (md X) f):=Gf d
def gK{f:iB}(d:PT X a (tB (md X) f)):PW X (.BoolOp .Or [a] pos) (tB (md X) f):=IU d
def w_and{d:List Expr}{f g:iB}(x:PT X a (tB (md X) f))(p:PW X (.BoolOp .And (b::d) pos) (tB (md X) g)):PW X (.BoolOp .And (a::b::d) pos) (tB (md X) (xZ f g)):=NO (IQ x p) λy H Q s=>by
 let#[t,m,S,k,v,ok,e,q]:=s
 let#[#[o,n],w,e]:=ar e
 refine#[t,m,S,o,n,ok,w,λj H1 l h=>?_]
 dsimp only at e
 split at e
 ·rename_i c
  rw[Qhq c]
  exact#[j,m,n,k,v,ok.to l h,e,λr H2 u i=>q _ _ (l.trans u) i]
 ·rename_i c
  rw[Quq c]
  let#[rfl,rfl]:=bI e
  exact q _ _ l h
def w_or{d:List Expr}{f g:iB}(x:PT X a (tB (md X) f))(p:PW X (.BoolOp .Or (b::d) pos) (tB (md X) g)):PW X (.BoolOp .Or (a::b::d) pos) (tB (md X) (ue f g)):=NO (LK x p) λy H Q s=>by
 let#[t,m,S,k,v,ok,e,q]:=s
 let#[#[o,n],w,e]:=ar e
 refine#[t,m,S,o,n,ok,w,λj H1 l h=>?_]
 dsimp only at e
 split at e
 ·rename_i c
  rw[Qhq c]
  let#[rfl,rfl]:=bI e
  exact q _ _ l h
 ·rename_i c
  rw[Quq c]
  exact#[j,m,n,k,v,ok.to l h,e,λr H2 u i=>q _ _ (l.trans u) i]
def iZ(f g:bc):bc:=λi S=>(f i S).bind λ(d,h)=>match d with
 |.bl true=>g i h
 |.bl false=>some (.bl false,h)
 |_=>none
def G7(f g:bc):bc:=λi S=>(f i S).bind λ(d,h)=>match d with
 |.bl true=>some (.bl true,h)
 |.bl false=>g i h
 |_=>none
def E_(f:bc):bc:=λh S=>(f h S).bind λ(d,g)=>match d with
 |.bl k=>some (.bl (!k),g)
 |_=>none
def eY{op}{f:bc}(h:PE X a (tD (md X) f)):PE X (.BoolOp op [a] pos) (tD (md X) f):=IE h
def gf{h:List Expr}{f g:bc}(B:PE X a (tD (md X) f))(p:PE X (.BoolOp .And (b::h) pos) (tD (md X) g)):PE X (.BoolOp .And (a::b::h) pos) (tD (md X) (iZ f g)):=gX (HE B p) λC H Q s=>by
 let#[t,n,S,d,z,ok,e,q]:=s
 let#[#[x,o],A,e]:=ar e
 refine#[t,n,S,x,o,ok,A,λk v H1 l i m=>?_]
 dsimp only at e
 split at e
 ·cases m
  refine#[_,L,?_]
  rw[Qhq L]
  exact#[k,n,o,d,z,ok.to l i,e,λr w H2 u j y=>q _ _ _ (l.trans u) j y]
 ·cases m
  refine#[_,L,?_]
  rw[Quq Qtq]
  let#[rfl,rfl]:=bI e
  exact q _ _ _ l i (.bl _)
 ·cases e
def FQ{h:List Expr}{f g:bc}(B:PE X a (tD (md X) f))(p:PE X (.BoolOp .Or (b::h) pos) (tD (md X) g)):PE X (.BoolOp .Or (a::b::h) pos) (tD (md X) (G7 f g)):=gX (LN B p) λC H Q s=>by
 let#[t,n,S,d,z,ok,e,q]:=s
 let#[#[x,o],A,e]:=ar e
 refine#[t,n,S,x,o,ok,A,λk v H1 l i m=>?_]
 dsimp only at e
 split at e
 ·cases m
  refine#[_,L,?_]
  rw[Qhq L]
  let#[rfl,rfl]:=bI e
  exact q _ _ _ l i (.bl _)
 ·cases m
  refine#[_,L,?_]
  rw[Quq Qtq]
  exact#[k,n,o,d,z,ok.to l i,e,λr w H2 u j y=>q _ _ _ (l.trans u) j y]
 ·cases e
def Ht{f:bc}(n:PE X a (tD (md X) f)):PE X (.UnaryOp .Not a pos) (tD (md X) (E_ f)):=gX (JI n) λr H Q j=>by
 let#[k,l,S,d,s,ok,e,q]:=j
 let#[#[x,o],m,e]:=ar e
 refine#[k,l,S,x,o,ok,m,λi v H1 p g h=>?_]
 dsimp only at e
 split at e
 ·cases h
  let#[rfl,rfl]:=bI e
  exact#[_,L,q _ _ _ p g (.bl _)]
 ·cases e
def DB(c:iB)(f g:bc):bc:=λd S=>(c d S).bind λ(k,h)=>if k=true then f d h else g d h
def Ku{h:iB}{f g:bc}(A:PT X c (tB (md X) h))(z:PE X a (tD (md X) f))(u:PE X b (tD (md X) g)):PE X (.IfExp c a b pos) (tD (md X) (DB h f g)):=gX (D7 A z u) λB H Q v=>by
 let#[x,n,S,d,s,ok,e,q]:=v
 let#[#[t,r],y,e]:=ar e
 refine#[x,n,S,t,r,ok,y,λk H1 l j=>?_]
 dsimp only at e
 split at e
 ·rename_i c
  rw[Qhq c]
  exact#[k,n,r,d,s,ok.to l j,e,λm w H2 o i p=>q _ _ _ (l.trans o) i p]
 ·rename_i c
  rw[Quq c]
  exact#[k,n,r,d,s,ok.to l j,e,λm w H2 o i p=>q _ _ _ (l.trans o) i p]
def eg:ni:=λS x y=>match x,y with
 |.tup xs,.int i=>oW xs i
 |.str z,.int i=>if z.length<=sizeLine then(oW z.cps.toList i).map λc=>.str #[(List.toArray [c])] else none
 | .ref k,.int i=>match S[k]? with
   |some (.lst xs)=>oW xs i
   |some (.frz xs)=>oW xs i
   |_=>none
 |_,_=>none
def Gp{α β:Type}{xs:List α}{ys:List β}{i:Int}{x:α}(h:oW xs i=some x)(l:xs.length=ys.length):∃j:Nat,xs[j]?=some x/\∀y,ys[j]?=some y->oW ys i=some y:=by
 unfold oW at h
 let#[j,e,h]:=ar h
 exact#[j,h,λy d=>by unfold oW;rw[<-l,e];exact d]
def bb.atI{M:Md}{ρ:X7}{H:Hp}{ds:List D}{vs:List V}{i:Int}{d:D}(h:bb M ρ H ds vs)(e:L2.oW ds i=some d):∃v,L2.oW vs i=some v/\Rel M ρ H d v:=by
 let#[j,k,f]:=Gp e h.length
 let#[v,l,g]:=h.get k
 exact#[v,f v l,g]
def Lc{M:Md}:gA M (NP M.K) eg:=by
 intro r S H x y d u v Q i l p e q
 cases p <;>cases l <;>erw[eg,reduceCtorEq] at e
 ·split at e
  ·let#[c,g,f]:=oQm.mp e
   subst f
   exact .inr (.inr #[_,_,c,L,L,by assumption,g,q _ _ bQ.refl i (.str _)])
  ·cases e
 ·rename_i h n
  let#[v,g,f]:=n.atI e
  exact .inr (.inl #[_,_,_,v,L,L,iC.of h,g,q _ _ bQ.refl i f])
 ·rename_i h
  split at e
  ·let#[m,k,j]:=i.obj _ _ _ h (by assumption)
   let#[v,g,f]:=j.atI e
   exact .inl #[_,_,_,v,L,L,iD.of k,g,q _ _ bQ.refl i f]
  ·let#[m,o,k,j]:=i.obj _ _ _ h (by assumption)
   let#[v,g,f]:=j.atI e
   exact .inl #[_,_,_,v,L,L,.inl (.inr #[o,k]),g,q _ _ bQ.refl i f]
  ·cases e
def bU{f g:bc}(d:PE X a (tD (md X) f))(h:PE X b (tD (md X) g))(i:autoParam (Bk b) aj._auto_1):PE X (.Subscript a b pos) (tD (md X) (bo eg f g)):=nF Lc (Lm JM d h i)
end
inductive Tag where
 |tu|fr|st (k:Nat)|fz (k:Nat)
def zL(M:Md)(ρ:X7)(H:Hp)(a:X8)(vs:List V):Tag->Prop
 |.tu=>iC M.K H a vs
 |.fr=>H a=some (.lst vs)/\a∉ρ
 |.st k=>ρ[k]?=some a/\H a=some (.lst vs)
 |.fz k=>ρ[k]?=some a/\∃o,H a=some (.frz o (.lst vs))
abbrev eF:=cI->aH->Option ((List D×Tag)×aH)
def tQ(M:Md)(f:eF):TE:=λj H Q=>∃g h S i t d,Ok M g h S j H/\f h S=some ((i,t),d)∧
 ∀b a e c,bQ g H b c->gy M b d c->zL M b c a e t->bb M b c i e->Q (.ref a) c
def zL.sq{M:Md}{ρ:X7}{H:Hp}{a:X8}{vs:List V}{t:Tag}(h:zL M ρ H a vs t):iD M.K H a vs\/iC M.K H a vs:=by
 cases t with
 |tu=>exact .inr h
 |fr=>exact .inl (iD.of h.1)
 |st k=>exact .inl (iD.of h.2)
 |fz k=>let#[_,o,h]:=h;exact .inl (.inl (.inr #[o,h]))
def Tag.isL:Tag->Bool
 |.tu=>false
 |_=>true
def Tag.isM:Tag->Bool
 |.fr=>true
 |.st _=>true
 |_=>false
def zL.sqL{M:Md}{ρ:X7}{H:Hp}{a:X8}{vs:List V}{t:Tag}(h:zL M ρ H a vs t)(c:t.isL=true):iD M.K H a vs:=by
 cases t with
 |tu=>cases c
 |fr=>exact iD.of h.1
 |st k=>exact iD.of h.2
 |fz k=>let#[_,o,h]:=h;exact .inl (.inr #[o,h])
def zL.sqM{M:Md}{ρ:X7}{H:Hp}{a:X8}{vs:List V}{t:Tag}(h:zL M ρ H a vs t)(c:t.isM=true):H a=some (.lst vs):=by
 cases t with
 |tu=>cases c
 |fr=>exact h.1
 |st k=>exact h.2
 |fz k=>cases c
def zL.sqT{M:Md}{ρ:X7}{H:Hp}{a:X8}{vs:List V}{t:Tag}(h:zL M ρ H a vs t)(c:t.isL=false):iC M.K H a vs:=by
 cases t with
 |tu=>exact h
 |fr=>cases c
 |st k=>cases c
 |fz k=>cases c
def Tag.stays(S:aH)(ds:List D):Tag->Prop
 |.st k=>S[k]?=some (.lst ds)
 |.fz k=>S[k]?=some (.frz ds)
 |_=>True
def iC.ext{K:X1}{ρ b:X7}{H c:Hp}{a:X8}{vs:List V}(e:bQ ρ H b c)(h:iC K H a vs):iC K c a vs:=by
 rcases h with(h|⟨o,h⟩)|h
 ·exact .inl (.inl (e.keep _ _ h (.inr trivial)))
 ·exact .inl (.inr #[o,e.keep _ _ h (.inr trivial)])
 ·exact .inr h
def zL.to{M:Md}{ρ d:X7}{S:aH}{H i:Hp}{a:X8}{vs:List V}{ds:List D}{t:Tag}(h:zL M ρ H a vs t)(r:bb M ρ H ds vs)(e:bQ ρ H d i)(st:gy M d S i)(c:t.stays S ds):∃b,zL M d i a b t/\bb M d i ds b:=by
 cases t with
 |tu=>exact#[vs,iC.ext e h,r.ext e]
 |fr=>exact#[vs,#[e.keep _ _ h.1 (.inl h.2),λm=>(e.new a m).elim h.2 λz=>by have f:=h.1;rw[z] at f;cases f],r.ext e]
 | st k=>
   let g:=dD e.pre h.1
   let#[b,f,j]:=st.obj k a _ g c
   exact#[b,#[g,f],j]
 | fz k=>
   let g:=dD e.pre h.1
   let#[b,o,f,j]:=st.obj k a _ g c
   exact#[b,#[g,o,f],j]
section
variable{X:Cx}{a b c e:Expr}{pos:Pos}
def eo(f:fF):eF:=λg S=>(f g S).bind λ(h,d)=>some ((h,.fr),d)
def fG{f:fF}(h:PE X e (tL (md X) f)):PE X e (tQ (md X) (eo f)):=gX h λw H Q l=>by
 let#[m,n,S,v,t,y,ok,e,q]:=l
 let#[#[d,s],p,e]:=ar e
 let#[i,rfl]:=bI e
 let#[rfl,rfl]:=Prod.mk.inj i
 exact#[m,n,S,d,s,ok,p,λg a u z x o fr k r j=>q _ _ _ _ x o #[r,k] j]
def mS(S:aH):D->Option (List D×Tag)
 |.tup d=>some (d,.tu)
 |.mt f=>some (f.map .str,.tu)
 | .ref k=>match S[k]? with
   |some (.lst d)=>some (d,.st k)
   |some (.frz d)=>some (d,.fz k)
   |_=>none
 |_=>none
def aY(f:bc):eF:=λh S=>(f h S).bind λ(d,g)=>(mS g d).bind λp=>some (p,g)
def AQ{M:Md}{ρ:X7}{S:aH}{H:Hp}{d:D}{v:V}{ds:List D}{t:Tag}(st:gy M ρ S H)(r:Rel M ρ H d v)(e:mS S d=some (ds,t)):∃a vs,v=.ref a/\zL M ρ H a vs t/\bb M ρ H ds vs:=by
 cases r with
 |tup h l=>erw[mS] at e;cases e;exact#[_,_,L,iC.of h,l]
 |mt g f k i j=>erw[mS] at e;cases e;exact#[_,_,L,.inr #[_,_,_,g,f,k,i,j],Bu _]
 | ref h=>
   erw[mS] at e
   split at e
   · rename_i q
     cases e
     let#[vs,g,f]:=st.obj _ _ _ h q
     exact#[_,vs,L,#[h,g],f]
   · rename_i q
     cases e
     let#[vs,o,g,f]:=st.obj _ _ _ h q
     exact#[_,vs,L,#[h,o,g],f]
   · cases e
 |_=>erw[mS,reduceCtorEq] at e
def cP{f:bc}(h:PE X e (tD (md X) f)):PE X e (tQ (md X) (aY f)):=gX h λz H Q l=>by
 let#[m,n,S,y,t,A,ok,e,q]:=l
 let#[#[d,s],o,e]:=ar e
 let#[#[k,u],j,e]:=ar e
 let#[p,rfl]:=bI e
 let#[rfl,rfl]:=Prod.mk.inj p
 refine#[m,n,S,d,s,ok,o,λi v B x g r=>?_]
 let#[a,w,rfl,h1,h2]:=AQ g r j
 exact q _ _ _ _ x g h1 h2
def eL{f:eF}{p:Pos}(m:Gl X "len")(v:X.mg "len"=none)(y:PE X a (tQ (md X) f))(k:autoParam (starEach [a] X.env= [(false,eval a X.env)]) af._auto_1):
  PE X (.Call (.Name "len" p) [a] [] pos) (tD (md X) λg S=>(f g S).bind λ(p,i)=>some (.int p.1.length,i)):=
 gX (eM nU m v PySem.boot_len (dE y fN k) (he:=k)) λz H Q o=>by
  let#[s,g,S,d,A,ok,e,q]:=o
  let#[#[#[n,t],i],w,e]:=ar e
  let#[rfl,rfl]:=bI e
  refine#[s,g,S,n,t,i,ok,w,λl a j B x u h r=>#[a,j,L,h.sq,?_]]
  have:=q _ (.int j.length) _ x u (by rw[<-r.length];exact .int _)
  exact this
def gQ(f:eF):bc:=λg S=>(f g S).bind λ(p,d)=>some (.int p.1.length,d)
def tupQ(f:eF):bc:=λg S=>(f g S).bind λ(p,d)=>some (.tup p.1,d)
def iO{f:eF}{p:Pos}(n:Gl X "tuple")(w:X.mg "tuple"=none)(y:PE X a (tQ (md X) f))(j:autoParam (starEach [a] X.env= [(false,eval a X.env)]) af._auto_1)(ht:∀i S ds t S',f i S=some ((ds,t),S')->t.isL=true):
  PE X (.Call (.Name "tuple" p) [a] [] pos) (tD (md X) (tupQ f)):=
 gX (dX uL n w (by rfl) (dE y fN j) (he:=j)) λA H Q s=>by
  let#[u,i,S,d,S',ok,e,q]:=s
  let#[#[#[ds,t],z],k,e]:=ar e
  let#[rfl,rfl]:=bI e
  refine#[u,i,S,ds,t,z,ok,k,λm a o B x v h r=>#[a,o,L,.inl #[h.sqL (ht _ _ _ _ _ k),λl g=>?_]]]
  exact q _ _ _ (x.trans (bQ.laid g)) (v.lay g) (.tup bg (r.ext (bQ.laid g)))
def rN{f:fF}:∀d S ds t S',eo f d S=some ((ds,t),S')->t.isL=true:=λd S ds t S' e=>by
 let#[#[g,i],h,e]:=ar e
 cases e
 rfl
def fV(f:eF):eF:=λg S=>(f g S).bind λ(p,d)=>if p.2.isL=true then some (p,d) else none
def iV{f:eF}:∀d S ds t S',fV f d S=some ((ds,t),S')->t.isL=true:=λd S ds t S' e=>by
 let#[#[#[g,j],i],h,e]:=ar e
 dsimp only at e
 split at e <;>cases e
 assumption
def A8{f:eF}(h:PE X e (tQ (md X) f)):PE X e (tQ (md X) (fV f)):=gX h λr H Q i=>by
 let#[j,n,S,p,t,o,ok,e,q]:=i
 let#[#[#[d,m],l],g,e]:=ar e
 dsimp only at e
 split at e
 ·let#[k,rfl]:=bI e
  let#[rfl,rfl]:=Prod.mk.inj k
  exact#[j,n,S,d,m,l,ok,g,q]
 ·cases e
def JY{f:eF}{p:Pos}(o:Gl X "list")(y:X.mg "list"=none)(A:PE X a (tQ (md X) f))(k:autoParam (starEach [a] X.env= [(false,eval a X.env)]) af._auto_1):
  PE X (.Call (.Name "list" p) [a] [] pos) (tL (md X) λi S=>(f i S).bind λ(p,j)=>some (p.1,j)):=
 gX (dX xp o y (by rfl) (dE A fN k) (he:=k)) λB H Q v=>by
  let#[w,i,S,d,C,ok,e,q]:=v
  let#[#[#[u,t],j],z,e]:=ar e
  let#[rfl,rfl]:=bI e
  refine#[w,i,S,u,t,j,ok,z,λn a s F x m h r=>#[a,s,L,h.sq,λl g=>?_]]
  exact q _ _ _ _ (x.trans (bQ.laid g)) (m.lay g) (x.grow _ g) (cn x m g) bg (r.ext (bQ.laid g))
def Ey(f:eF):fF:=λg S=>(f g S).bind λ(p,d)=>some (p.1,d)
def F2:List D->Option (List Bool)
 | []=>some []
 |.bl b::r=>(F2 r).bind λd=>some (b::d)
 |_::_=>none
theorem Au{M:Md}{ρ:X7}{H:Hp}:∀{ds:List D} {vs:List V} {bs:List Bool},bb M ρ H ds vs->F2 ds=some bs->vs=bs.map V.bl
 | [],_,_,h,e=>by cases h;cases e;rfl
 | d::ds,_,_,h,e=>by
   cases d with
   | bl b=>
     erw[F2] at e
     let#[g,f,e]:=ar e
     cases e
     cases h with
     | cons h i=>
       cases h
       rw[Au i f]
       rfl
   |_=>cases e
def i6(f:eF):bc:=λg S=>(f g S).bind λ(p,d)=>if p.2.isL=true then(F2 p.1).bind λh=>some (.bl (h.all id),d) else none
def yt(f:eF):bc:=λg S=>(f g S).bind λ(p,d)=>if p.2.isL=true then(F2 p.1).bind λh=>some (.bl (h.any id),d) else none
def iy{f:eF}{p:Pos}(A:X.calm=true)(k:Gl X "all")(v:X.mg "all"=none)(y:PE X a (tQ (md X) f))(g:autoParam (starEach [a] X.env= [(false,eval a X.env)]) af._auto_1):
  PE X (.Call (.Name "all" p) [a] [] pos) (tD (md X) (i6 f)):=
 gX (eM (Cn A) k v (by rfl) (dE y fN g) (he:=g)) λC H Q n=>by
  let#[o,s,S,d,F,ok,e,q]:=n
  let#[#[#[l,t],z],w,e]:=ar e
  dsimp only at e
  split at e
  ·rename_i c
   let#[j,m,e]:=ar e
   let#[rfl,rfl]:=bI e
   refine#[o,s,S,l,t,z,ok,w,λi a B I x u h r=>#[a,j,L,?_,q _ _ _ x u (.bl _)]]
   rw[<-Au r m]
   exact h.sqL c
  ·cases e
def Be{f:eF}{p:Pos}(A:X.calm=true)(k:Gl X "any")(v:X.mg "any"=none)(y:PE X a (tQ (md X) f))(g:autoParam (starEach [a] X.env= [(false,eval a X.env)]) af._auto_1):
  PE X (.Call (.Name "any" p) [a] [] pos) (tD (md X) (yt f)):=
 gX (eM (B0 A) k v (by rfl) (dE y fN g) (he:=g)) λC H Q n=>by
  let#[o,s,S,d,F,ok,e,q]:=n
  let#[#[#[l,t],z],w,e]:=ar e
  dsimp only at e
  split at e
  ·rename_i c
   let#[j,m,e]:=ar e
   let#[rfl,rfl]:=bI e
   refine#[o,s,S,l,t,z,ok,w,λi a B I x u h r=>#[a,j,L,?_,q _ _ _ x u (.bl _)]]
   rw[<-Au r m]
   exact h.sqL c
  ·cases e
def Jw(S:aH)(T:String):D->Option Bool
 |.non=>some (T=="NoneType")
 |.bl _=>some (T=="bool" ||T=="int")
 |.int _=>some (T=="int")
 |.str _=>some (T=="str")
 |.tup _=>some (T=="tuple")
 | .ref k=>match S[k]? with
   |some (.lst _)=>some (T=="list")
   |some (.frz _)=>some (T=="list")
   |some (.dct _)=>some (T=="dict")
   |_=>none
 |.fn _=>none
 |.mt _=>none
def KM(K:X1)(T:String):Prop:=(PySem.W.kitOne K (.type "NoneType") (.type T)=some (T=="NoneType"))/\(PySem.W.kitOne K (.type "bool") (.type T)=some (T=="bool" ||T=="int"))/\(PySem.W.kitOne K (.type "int") (.type T)=some (T=="int"))/\(PySem.W.kitOne K (.type "str") (.type T)=some (T=="str"))∧
 (PySem.W.kitOne K (.type "tuple") (.type T)=some (T=="tuple"))/\(PySem.W.kitOne K (.type "list") (.type T)=some (T=="list"))/\(PySem.W.kitOne K (.type "dict") (.type T)=some (T=="dict"))
def jo(T:String)(f:bc):bc:=λh S=>(f h S).bind λ(d,g)=>(Jw g T d).bind λk=>some (.bl k,g)
def gc{T:String}{l:Expr}{f:bc}{p:Pos}(C:KM X.K T)(A:Gl X "isinstance")(R:X.mg "isinstance"=none)(Y:PE X a (tD (md X) f))(ht:PE X l (tC (.ty T)))(t:autoParam (starEach [a,l] X.env= [(false,eval a X.env),(false,eval l X.env)]) af._auto_1)(j:autoParam (starEach [l] X.env= [(false,eval l X.env)]) af._auto_1):
  PE X (.Call (.Name "isinstance" p) [a,l] [] pos) (tD (md X) (jo T f)):=
 gX (eM Dj A R boot_isinstance (dE Y (dE ht fN j) (by rw[t,j])) (he:=by rw[t,j]) (hpl:=by rw[j];rfl)) λσ H Q J=>by
  let#[M,P,S,d,S',ok,e,q]:=J
  let#[#[N,Z],W,e]:=ar e
  let#[k,i,e]:=ar e
  let#[rfl,rfl]:=bI e
  let#[y,U,F,k4,I,w,B]:=C
  refine#[M,P,S,N,Z,ok,W,λz v H' x s r=>?_]
  let g:=q _ _ _ x s (.bl _)
  cases r with
  |non=>cases i;exact#[_,_,_,_,L,.non,y,g]
  |bl=>cases i;exact#[_,_,_,_,L,.bl _,U,g]
  |int=>cases i;exact#[_,_,_,_,L,.int _,F,g]
  |str=>cases i;exact#[_,_,_,_,L,.str _,k4,g]
  |tup h t=>cases i;exact#[_,_,_,_,L,.tup h,I,g]
  |fn=>cases i
  |mt=>cases i
  | ref h=>
    erw[Jw] at i
    split at i
    · rename_i n;cases i;let#[u,m,_]:=s.obj _ _ _ h n;exact#[_,_,_,_,L,.lst m,w,g]
    · rename_i n;cases i;let#[u,o,m,_]:=s.obj _ _ _ h n;exact#[_,_,_,_,L,.frz m,w,g]
    · rename_i n;cases i;let#[u,m,_]:=s.obj _ _ _ h n;exact#[_,_,_,_,L,.dK m,B,g]
    · cases i
abbrev J7:=List D->Option D
def Ft(M:Md)(r:List V->Hp->VK->Prop)(o:J7):Prop:=∀{f:X7} {S:aH} {H:Hp} {h:List D} {d:D} {g:List V} {Q:VK},gy M f S H->bb M f H h g->o h=some d->(∀w,Rel M f H d w->Q w H)->r g H Q
def Aa(o:J7)(f:fF):bc:=λi S=>(f i S).bind λ(h,g)=>(o h).bind λd=>some (d,g)
def uO{r:List V->Hp->VK->Prop}{o:J7}{f:fF}(l:Ft (md X) r o)(h:PE X e (Ng r (xW (md X) f))):PE X e (tD (md X) (Aa o f)):=gX h λA H Q m=>by
 let#[n,s,S,d,B,ok,e,q]:=m
 let#[#[p,v],t,e]:=ar e
 let#[z,u,e]:=ar e
 let#[rfl,rfl]:=bI e
 exact#[n,s,S,p,v,ok,t,λi y H1 x g k=>l g k u λw j=>q i w H1 x g j]
def maxD:J7
 | [.int i,.int j]=>some (.int (if j>i then j else i))
 |_=>none
def minD:J7
 | [.int i,.int j]=>some (.int (if j<i then j else i))
 |_=>none
def intOfD:J7
 | [.int i]=>some (.int i)
 | [.bl k]=>some (.int (if k then 1 else 0))
 |_=>none
def JB{M:Md}:Ft M (λxs H Q=>∃i j,xs= [.int i,.int j]/\Q (.int (if j>i then j else i)) H) maxD:=by
 intro k S H xs d h Q l r e q
 unfold maxD at e
 split at e <;>cases e
 cases r with|cons r f=>cases f with|cons g f=>cases f;cases r;cases g;exact#[_,_,L,q _ (.int _)]
def EB{M:Md}:Ft M (λxs H Q=>∃i j,xs= [.int i,.int j]/\Q (.int (if j<i then j else i)) H) minD:=by
 intro k S H xs d h Q l r e q
 unfold minD at e
 split at e <;>cases e
 cases r with|cons r f=>cases f with|cons g f=>cases f;cases r;cases g;exact#[_,_,L,q _ (.int _)]
def ia{M:Md}:Ft M (λxs H Q=>(∃i,xs= [.int i]/\Q (.int i) H)\/∃k,xs= [.bl k]/\Q (.int (if k then 1 else 0)) H) intOfD:=by
 intro h S H xs d g Q j r e q
 unfold intOfD at e
 split at e <;>cases e
 ·cases r with|cons r f=>cases f;cases r;exact .inl #[_,L,q _ (.int _)]
 ·cases r with|cons r f=>cases f;cases r;exact .inr #[_,L,q _ (.int _)]
def vM:List D->Option (List V)
 | []=>some []
 |d::r=>(Ak d).bind λv=>(vM r).bind λf=>some (v::f)
def sC{d:D}{v:V}(e:Ak d=some v):iR v=true:=by
 cases d <;>simp[Ak] at e <;>subst e <;>rfl
theorem ub{M:Md}{ρ:X7}{H:Hp}:∀{ds:List D} {d vs:List V},bb M ρ H ds d->vM ds=some vs->d=vs/\vs.all iR=true
 |_,_,_,.nil,e=>by cases e;exact#[L,L]
 | _,_,_,.cons h hs,e=>by
   let#[v,f,e]:=ar e
   let#[vs,j,e]:=ar e
   cases e
   let#[i,g]:=ub hs j
   rw[mZ h f,i]
   exact#[L,by rw[List.all_cons,sC f,g];rfl]
def xv(d:Bool)(f:bc)(g:eF):bc:=λi S=>(f i S).bind λ(x,k)=>(g i k).bind λ(p,j)=>(Ak x).bind λv=>(vM p.1).bind λh=>some (.bl (if d then !G_ v h else G_ v h),j)
def KH{i:Bool}{f:bc}{g:eF}(h:PE X e (Ff (My X.K i) (tD (md X) f) (tQ (md X) g))):PE X e (tD (md X) (xv i f g)):=gX h λW H Q C=>by
 let#[F,m,S,d,Y,ok,e,q]:=C
 let#[#[x,o],P,e]:=ar e
 let#[#[#[z,t],B],A,e]:=ar e
 let#[v,n,e]:=ar e
 let#[U,R,e]:=ar e
 let#[rfl,rfl]:=bI e
 refine#[F,m,S,x,o,ok,P,λl u H1 p j s=>#[l,m,o,z,t,B,ok.to p j,A,λw a N H2 J k r M=>?_]]
 cases mZ s n
 let#[I,y]:=ub M R
 subst I
 exact#[a,N,L,r.sq,sC n,y,q _ _ _ (p.trans J) k (.bl _)]
def sv{f:bc}{t:TE}(g:∀d H Q,tD (md X) f d H Q->t d H Q)(h:PT X e (A9 t)):PT X e (tB (md X) (bw f)):=L8 h λd H Q ⟨j,m,S,k,i,ok,e,q⟩=>
 g _ _ _ #[j,m,S,.bl k,i,ok,sV e,λl v o x n r=>by cases r;exact#[k,L,q _ _ x n]]
def Hu{h:Bool}{f:bc}{g:eF}:∀l H Q,tD (md X) (xv h f g) l H Q->Ff (My X.K h) (tD (md X) f) (tQ (md X) g) l H Q:=λl H Q C=>by
 let#[F,m,S,d,W,ok,e,q]:=C
 let#[#[x,o],P,e]:=ar e
 let#[#[#[z,t],B],A,e]:=ar e
 let#[v,n,e]:=ar e
 let#[U,R,e]:=ar e
 let#[rfl,rfl]:=bI e
 refine#[F,m,S,x,o,ok,P,λk u H1 p i s=>#[k,m,o,z,t,B,ok.to p i,A,λw a N H2 J j r M=>?_]]
 cases mZ s n
 let#[I,y]:=ub M R
 subst I
 exact#[a,N,L,r.sq,sC n,y,q _ _ _ (p.trans J) j (.bl _)]
def E7{f:bc}{g:eF}(h:PE X a (tD (md X) f))(i:PE X b (tQ (md X) g))(d:autoParam (behindInMarks .In b=false) af._auto_1):PE X (.Compare a [.In] [b] pos) (tD (md X) (xv false f g)):=KH (r8 vF h i d)
def Jn{f:bc}{g:eF}(h:PE X a (tD (md X) f))(i:PE X b (tQ (md X) g))(d:autoParam (behindInMarks .In b=false) af._auto_1):PT X (.Compare a [.In] [b] pos) (tB (md X) (bw (xv false f g))):=sv Hu (rS vF h i d)
def Bf{f:bc}{g:eF}(h:PE X a (tD (md X) f))(i:PE X b (tQ (md X) g))(d:autoParam (behindInMarks .NotIn b=false) af._auto_1):PT X (.Compare a [.NotIn] [b] pos) (tB (md X) (bw (xv true f g))):=sv Hu (rS vS h i d)
end
inductive Out where
 |nx (Γ:cI) (S:aH)|bk (Γ:cI) (S:aH)|ct (Γ:cI) (S:aH)|rt (d:D) (S:aH)|rl (ds:List D) (S:aH)
abbrev dr:=cI->aH->Option Out
def xl(M:Md)(ρ:X7)(H:Hp)(D:Ends):Out->Prop
 |.nx f g=>∀b e c,bQ ρ H b c->Ok M b f g e c->D.nx e c
 |.bk f g=>∀b e c,bQ ρ H b c->Ok M b f g e c->D.bk e c
 |.ct f g=>∀b e c,bQ ρ H b c->Ok M b f g e c->D.ct e c
 |.rt d g=>∀b v c,bQ ρ H b c->gy M b g c->Rel M b c d v->D.rt v c
 |.rl i g=>∀b a h c,bQ ρ H b c->gy M b g c->H a=none->a∉b->c a=some (.lst h)->bb M b c i h->D.rt (.ref a) c
def xl.to{M:Md}{ρ c:X7}{H H1:Hp}{D:Ends}{o:Out}(h:xl M ρ H D o)(e:bQ ρ H c H1):xl M c H1 D o:=by
 cases o with
 |nx=>exact λb d f x ok=>h _ _ _ (e.trans x) ok
 |bk=>exact λb d f x ok=>h _ _ _ (e.trans x) ok
 |ct=>exact λb d f x ok=>h _ _ _ (e.trans x) ok
 |rt=>exact λb v f x g r=>h _ _ _ (e.trans x) g r
 |rl=>exact λb a k f x g fr i j r=>h _ _ _ _ (e.trans x) g (e.grow _ fr) i j r
def tS(M:Md)(g:dr):TS:=λD c H=>∃a b S o,Ok M a b S c H/\g b S=some o/\xl M a H D o
section
variable{X:Cx}{a b c e:Expr}{pos:Pos}{st:Stmt}{rest body other:List Stmt}
def gM:dr:=λd S=>some (.nx d S)
def bK:rA X [] (tS (md X) gM):=Lq FC λD g H ⟨d,f,S,o,ok,e,q⟩=>by cases e;exact q _ _ _ bQ.refl ok
noncomputable def aQ(f g:dr):dr:=λi S=>(f i S).bind λo=>match o with
 |.nx d h=>g d h
 |o=>some o
def aB{f g:dr}(l:PS X st (tS (md X) f))(k:rA X rest (tS (md X) g)):rA X (st::rest) (tS (md X) (aQ f g)):=Lq (C6 l k) λD v H n=>by
 let#[p,r,S,o,ok,e,q]:=n
 let#[j,s,e]:=ar e
 refine#[p,r,S,j,ok,s,?_]
 cases j with
 |nx i t=>exact λd m H1 u h=>#[d,i,t,o,h,e,q.to u]
 |bk=>cases e;exact q
 |ct=>cases e;exact q
 |rt=>cases e;exact q
 |rl=>cases e;exact q
def aG{f:dr}(d:PS X st (tS (md X) f)):rA X [st] (tS (md X) f):=FA d
def uv(f:bc):dr:=λd S=>(f d S).bind λ(_,g)=>some (.nx d g)
def fS{f:bc}(h:PE X e (tD (md X) f))(l:autoParam (swapsWith e none pos.line X.env=pure false) af._auto_1):PS X (.Expr e pos) (tS (md X) (uv f)):=CV (Gc h l) λD p H i=>by
 let#[j,k,S,o,ok,e,q]:=i
 let#[#[d,n],m,e]:=ar e
 cases e
 exact#[j,k,S,d,n,ok,m,λg v s x st r=>q _ _ _ x (ok.to x st)]
noncomputable def da(f:bc):dr:=λh S=>(f h S).bind λ(d,g)=>some (.rt d g)
def aN{f:bc}(h:PE X e (tD (md X) f)):PS X (.Return (some e) pos) (tS (md X) (da f)):=CV (Dw h) λD m H i=>by
 let#[j,l,S,o,ok,e,q]:=i
 let#[#[d,k],g,e]:=ar e
 cases e
 exact#[j,l,S,d,k,ok,g,q]
noncomputable def Js(f:fF):dr:=λg S=>(f g S).bind λ(h,d)=>some (.rl h d)
def wI{f:fF}(h:PE X e (tL (md X) f)):PS X (.Return (some e) pos) (tS (md X) (Js f)):=CV (Dw h) λD m H i=>by
 let#[j,l,S,o,ok,e,q]:=i
 let#[#[d,k],g,e]:=ar e
 cases e
 exact#[j,l,S,d,k,ok,g,q]
def gu(c:iB)(f g:dr):dr:=λd S=>(c d S).bind λ(k,h)=>if k=true then f d h else g d h
def cM{h:iB}{f g:dr}(u:PT X c (tB (md X) h))(t:rA X body (tS (md X) f))(n:rA X other (tS (md X) g)):PS X (.If c body other pos) (tS (md X) (gu h f g)):=CV (Mh u t n) λD v H p=>by
 let#[r,l,S,o,ok,e,q]:=p
 let#[#[k,m],s,e]:=ar e
 refine#[r,l,S,k,m,ok,s,λi H1 j d=>?_]
 dsimp only at e
 split at e
 ·rename_i c
  rw[Qhq c]
  exact#[i,l,m,o,ok.to j d,e,q.to j]
 ·rename_i c
  rw[Quq c]
  exact#[i,l,m,o,ok.to j d,e,q.to j]
abbrev kA:=D->cI->aH->Option (cI×aH)
abbrev rE:=List D->cI->aH->Option (cI×aH)
def tG(M:Md)(g:kA):TG:=λv n H Q=>∃j m S d f l,Ok M j m S n H/\Rel M j H d v/\g d m S=some (f,l)/\∀h i k,bQ j H h k->Ok M h f l i k->Q i k
def MD(M:Md)(g:rE):Gj:=λn o H Q=>∃i l S m f k,Ok M i l S o H/\bb M i H m n/\g m l S=some (f,k)/\∀h d j,bQ i H h j->Ok M h f k d j->Q d j
def MW{t t':TG}(h:PG X e t)(w:∀v f H Q,t' v f H Q->t v f H Q):PG X e t':=λd s f H v u Q I r q=>h d s f H v u Q I r (w _ _ _ _ q)
def KA{es:List Expr}{t t':Gj}(h:Fg X es t)(w:∀v f H Q,t' v f H Q->t v f H Q):Fg X es t':=λd s f H v u Q I r q=>h d s f H v u Q I r (w _ _ _ _ q)
def cW(i:Nat):kA:=λd f S=>some (f.set i (some d),S)
def E6{i:Nat}(h:PG X e (uY i)):PG X e (tG (md X) (cW i)):=MW h λv m H Q f=>by
 let#[k,l,S,d,g,j,ok,r,e,q]:=f
 cases e
 exact q _ _ _ bQ.refl #[ok.en.set r,ok.st]
def jh:rE:=λd f S=>match d with
 | []=>some (f,S)
 |_=>none
def bD(f:kA)(g:rE):rE:=λk j S=>match k with
 |d::r=>(f d j S).bind λ(h,i)=>g r h i
 | []=>none
def d0:Fg X [] (MD (md X) jh):=KA Gn λh l H Q d=>by
 let#[i,j,S,k,f,g,ok,r,e,q]:=d
 cases r with
 |nil=>cases e;exact#[L,q _ _ _ bQ.refl ok]
 |cons=>cases e
def aR{es:List Expr}{f:kA}{g:rE}(p:PG X e (tG (md X) f))(n:Fg X es (MD (md X) g))(x:autoParam ((assignEach (e::es) X.env).map (·.2)=assign e X.env::(assignEach es X.env).map (·.2)) af._auto_1):Fg X (e::es) (MD (md X) (bD f g)):=
 KA (E4 p n x) λC I H Q u=>by
  let#[v,w,S,F,k,z,ok,r,e,q]:=u
  cases r with
  |nil=>cases e
  | cons r s=>
    let#[#[d,l],A,e]:=ar e
    refine#[_,_,L,v,w,S,_,d,l,ok,r,A,λi t H1 m j=>#[i,d,l,_,k,z,j,s.ext m,e,λo B H2 y h=>q _ _ _ (m.trans y) h]]
def uw(g:rE):kA:=λd f S=>match d with
 |.tup h=>g h f S
 |_=>none
def nG(n:Nat)(g:rE):rE:=λd f S=>if d.length=n then g d f S else none
def fL{es:List Expr}{k:Nat}{g:rE}{n:Nat}(s:X.calm=true)(h:Fg X es (MD (md X) g))(o:autoParam ((assignEach es X.env).length=n) af._auto_1)(f:autoParam ((assignEach es X.env).findIdx? (·.1)=none) af._auto_1):
  PG X (.Tuple es k pos) (tG (md X) (uw (nG n g))):=MW (Jv s h o f) λv t H Q ⟨l,m,S,d,i,p,ok,r,e,q⟩=>by
 cases r with
 | tup h j=>
   erw[uw,nG] at e
   split at e
   · rename_i c
     exact#[_,_,L,iC.of h,by rw[<-j.length];exact c,l,m,S,_,i,p,ok,j,e,q]
   · cases e
 |_=>cases e
def Fh(f:bc)(g:kA):dr:=λi S=>(f i S).bind λ(d,k)=>(g d i k).bind λ(h,j)=>some (.nx h j)
def Kl{f:bc}{g:kA}:∀D k H,tS (md X) (Fh f g) D k H->Dt (tD (md X) f) (tG (md X) g) D k H:=λD k H w=>by
 let#[x,m,S,o,ok,e,q]:=w
 let#[#[d,n],z,e]:=ar e
 let#[#[l,u],t,e]:=ar e
 cases e
 exact#[x,m,S,d,n,ok,z,λj v H1 p h r=>#[j,m,n,d,l,u,ok.to p h,r,t,λs A H2 y i=>q _ _ _ (p.trans y) i]]
def uT{d:Expr}{f:bc}{g:kA}(he:PE X e (tD (md X) f))(k:PG X d (tG (md X) g))(j:autoParam (swapsWithSole [d] e pos.line X.env=pure false) af._auto_1)(h:autoParam (swappedStores [d] e X.env=pure none) af._auto_1)
  (i:autoParam ((assignEach [d] X.env).map (·.2)= [assign d X.env]) af._auto_1):PS X (.Assign [d] e pos) (tS (md X) (Fh f g)):=CV (IS he k j h i) Kl
noncomputable def cf(i:Nat)(f:bc):dr:=λg S=>(f g S).bind λ(d,h)=>some (.nx (g.set i (some d)) h)
def L3{i:Nat}{f:bc}(h:PS X st (Dt (tD (md X) f) (uY i))):PS X st (tS (md X) (cf i f)):=CV h λD t H m=>by
 let#[n,p,S,o,ok,e,q]:=m
 let#[#[d,s],r,e]:=ar e
 cases e
 exact#[n,p,S,d,s,ok,r,λl v H1 j g k=>q _ _ _ j #[(ok.en.ext j).set k,g]]
abbrev qh:=cI->aH->Option ((List D×(aH->Prop))×aH)
def Walks(M:Md)(J:It)(ρ:X7)(H:Hp)(ds:List D)(W:aH->Prop):Prop:=∀(i:Nat) (f:X7) (j:aH) (h:Hp),bQ ρ H f h->gy M f j h->W j->
 (∀d,ds[i]?=some d->J.go i h/\∀x g,J.yld i h x g->bQ f h f g/\gy M f j g/\Rel M f g d x)/\(i=ds.length->J.stop i h)
def tI(M:Md)(f:qh):TI:=λl H R=>∃i j S k W h,Ok M i j S l H/\f j S=some ((k,W),h)/\∀d J g,bQ i H d g->gy M d h g->Walks M J d g k W->R J g
def Kf{g:Expr}{t t':TI}(h:PI X g e t)(w:∀f H R,t' f H R->t f H R):PI X g e t':=λd s f H R I q=>h d s f H R I (w _ _ _ q)
def Jt{y l:Expr}{r:TE}(z:PE X l r):PI X y l (λn H R=>r n H λx H1=>∃a,x=.ref a/\((∃xs,iD X.K H1 a xs)/\R (NB X.K a) H1\/(∃xs,iC X.K H1 a xs)/\R (NM X.K a) H1)):=by
 intro i s n H R I h
 refine bZ (z i s n H _ I h) λv d A=>?_
 let#[x,H1,f,t,m]:=A
 let#[a,e,m]:=m
 subst e
 cases t
 rcases m with⟨⟨xs,k⟩,q⟩|⟨⟨xs,k⟩,q⟩
 ·let#[g,u,p,w]:=f.list k
  refine wpAny_pyIter_list p.isList ?_
  refine#[d.heap.objs.size,[d.heap.objs.size],_,_,H1,L,f.kept (t':=d.toks) λb o e=>Qcq _ e,Cu a _,#[_,Qrq _ L,L,L],λb j=>?_,q]
  have e:b=d.heap.objs.size:=by simpa using j
  subst e
  exact f.fpOk (Qmq _) (f.hok.fresh (Qmq _))
 ·let#[g,u,p,w]:=f.tuple k
  refine wpAny_pyIter_tuple (show d.heap.IsTuple a g.toArray from p) ?_
  refine#[d.heap.objs.size,[d.heap.objs.size],_,_,H1,L,f.kept (t':=d.toks) λb o e=>Qcq _ e,As a _,#[_,Qrq _ L,L,L],λb j=>?_,q]
  have e:b=d.heap.objs.size:=by simpa using j
  subst e
  exact f.fpOk (Qmq _) (f.hok.fresh (Qmq _))
def gL(f:eF):qh:=λh S=>(f h S).bind λ(p,g)=>some ((p.1,λd=>p.2.stays d p.1),g)
def bW{J l:Expr}{f:eF}(M:PE X l (tQ (md X) f)):PI X J l (tI (md X) (gL f)):=Kf (Jt M) λZ H R K=>by
 let#[N,P,S,Y,W,S',ok,e,q]:=K
 let#[#[#[u,t],U],Q,e]:=ar e
 let#[F,rfl]:=bI e
 let#[rfl,rfl]:=Prod.mk.inj F
 refine#[N,P,S,u,t,U,ok,Q,λC a B H' x st h r=>#[a,L,?_]]
 cases c:t.isL with
 | true=>
   refine .inl #[#[B,h.sqL c],q _ _ _ x st λi p I H2 z j w=>?_]
   let#[g,s,n]:=h.to r z j w
   let k:=s.sqL c
   refine#[λd o=>?_,λA=>#[g,k,by rw[A,n.length];exact Qmq _]]
   let#[v,hv,y]:=n.get o
   refine#[#[g,v,k,hv],λx H3 m=>?_]
   let#[rfl,m]:=m
   have:=m g k
   rw[hv] at this
   cases this
   exact#[bQ.refl,j,y]
 | false=>
   refine .inr #[#[B,h.sqT c],q _ _ _ x st λi p I H2 z j w=>?_]
   let#[g,s,n]:=h.to r z j w
   let k:=s.sqT c
   refine#[λd o=>?_,λA=>#[g,k,by rw[A,n.length];exact Qmq _]]
   let#[v,hv,y]:=n.get o
   refine#[#[g,v,k,hv],λx H3 m=>?_]
   let#[rfl,m]:=m
   have:=m g k
   rw[hv] at this
   cases this
   exact#[bQ.refl,j,y]
def lQ(lo hi:Int):List D:=(List.range (hi-lo).toNat).map λ(i:Nat)=>D.int (lo+(i:Int))
def x_(f:bc):qh:=λh S=>(f h S).bind λ(d,g)=>match d with
 |.int j=>if -(2^62)<=j/\j<2^62 then some ((lQ 0 j,λ_=>True),g) else none
 |_=>none
def u0{M:Md}{ρ:X7}{H:Hp}{lo hi:Int}:Walks M (LA lo (hi-lo).toNat) ρ H (lQ lo hi) (λ_=>True):=λi l o H2 p g w=>by
 unfold lQ
 refine#[λd h=>?_,λhi=>by rw[lQm,QVq] at hi;exact Nat.le_of_eq hi.symm]
 rw[gQm] at h
 let#[k,m,rfl]:=oQm.mp h
 let f:=(gQs.mp m)
 let#[f,j]:=f
 rw[List.getElem_range] at j
 subst j
 rw[QVq] at f
 refine#[f,λx H3 n=>?_]
 let#[rfl,rfl]:=n
 exact#[bQ.refl,g,.int _]
def sr{n a:Expr}{f:bc}{p:Pos}(k:Gl X "range")(t:X.mg "range"=none)(v:PE X a (tD (md X) f))(h:autoParam (starEach [a] X.env= [(false,eval a X.env)]) af._auto_1):PI X n (.Call (.Name "range" p) [a] [] pos) (tI (md X) (x_ f)):=
 Kf (CU k t (aq v aw h) h) λB H R o=>by
  let#[ρ,s,S,A,W,C,ok,e,q]:=o
  let#[#[d,w],u,e]:=ar e
  dsimp only at e
  split at e
  ·rename_i j
   split at e
   ·rename_i i
    let#[l,rfl]:=bI e
    let#[rfl,rfl]:=Prod.mk.inj l
    refine#[ρ,s,S,[.int j],w,ok,by unfold au az;rw[u];rfl,λg z y x st r=>?_]
    cases r with
    | cons r m=>
      cases m
      cases r
      refine#[j,L,i.1,i.2,q _ _ _ x st ?_]
      have:=u0 (M:=md X) (ρ:=g) (H:=y) (lo:=0) (hi:=j)
      rw[Int.sub_zero] at this
      exact this
   ·cases e
  ·cases e
def GO(f g:bc):qh:=λh S=>(f h S).bind λ(d,m)=>(g h m).bind λ(l,k)=>match d,l with
 |.int i,.int j=>if -(2^62)<=i/\i<2^62/\ -(2^62)<=j/\j<2^62 then some ((lQ i j,λ_=>True),k) else none
 |_,_=>none
def J9{w a b:Expr}{f g:bc}{p:Pos}(t:Gl X "range")(B:X.mg "range"=none)(J:PE X a (tD (md X) f))(s:PE X b (tD (md X) g))(l:autoParam (starEach [a,b] X.env= [(false,eval a X.env),(false,eval b X.env)]) af._auto_1)(h:autoParam (starEach [b] X.env= [(false,eval b X.env)]) af._auto_1):PI X w (.Call (.Name "range" p) [a,b] [] pos) (tI (md X) (GO f g)):=
 Kf (B9 t B (aq J (aq s aw h) (by rw[l,h])) l h) λN H R y=>by
  let#[z,A,S,M,W,P,ok,e,q]:=y
  let#[#[d,Q],C,e]:=ar e
  let#[#[m,v],u,e]:=ar e
  cases d with
  | int i=>
    cases m with
    | int j=>
      dsimp only at e
      split at e
      · rename_i I
        let#[F,rfl]:=bI e
        let#[rfl,rfl]:=Prod.mk.inj F
        refine#[z,A,S,[.int i,.int j],v,ok,by erw[au,az,C,Qbq,u],λo K U x st r=>?_]
        cases r with
        | cons r k=>
          cases k with
          | cons n k=>
            cases k
            cases r
            cases n
            exact#[i,j,L,I,q _ _ _ x st u0]
      · cases e
    |_=>cases e
  |_=>cases e
open Classical in
def forL(g:kA)(b:dr)(W:aH->Prop):List D->cI->aH->Option Out
 | [],Γ,S=>if W S then some (.nx Γ S) else none
 |d ::ds,Γ,S=>if W S then(g d Γ S).bind λ(i,j)=>(b i j).bind λo=>match o with
    |.nx f h=>forL g b W ds f h
    |.ct f h=>forL g b W ds f h
    |.bk f h=>some (.nx f h)
    |.rt x h=>some (.rt x h)
    |.rl x h=>some (.rl x h)
  else none
def ja(i:qh)(g:kA)(b:dr):dr:=λd S=>(i d S).bind λ(p,f)=>forL g b p.2 p.1 d f
def iq{tg j:Expr}{i:qh}{g:kA}{f:dr}(hp:PassesOwn (model X.prog X.w) X.A X.env X.xe)(hc:X.calm=true)(hi:PI X tg j (tI (md X) i))(hg:PG X tg (tG (md X) g))(hb:rA X body (tS (md X) f))
  (hs:autoParam (∀x,foldedSetIterable j X.env x=pure x) ag._auto_1):PS X (.For tg j body [] pos) (tS (md X) (ja i g f)):=CV (Ja hp hc hi hg hb hs) λD σ H ⟨ρ,Γ,S,o,ok,e,q⟩=>by
 let#[#[#[h,W],S1],e1,e]:=ar e
 refine#[ρ,Γ,S,h,W,S1,ok,e1,λu J H1 x1 a0 wk=>?_]
 let P:=q.to x1
 let Q:=ok.to x1 a0
 refine#[λi m t B=>m=h.length-i/\i<=h.length/\∃d r z,bQ u H1 d B/\Ok (md X) d r z t B/\forL g f W (h.drop i) r z=some o,#[h.length,by simp,Nat.zero_le _,u,Γ,S1,bQ.refl,Q,e],?_]
 rintro i m a2 H2 ⟨rfl,hi,d,r,z,x2,ok2,e2⟩
 by_cases v:i<h.length
 ·have hd:h[i]?=some h[i]:=gQe v
  rw[QWq v] at e2
  unfold forL at e2
  split at e2
  ·rename_i w
   let#[w1,w2]:=wk i d z H2 x2 ok2.st w
   let#[go,R]:=w1 _ hd
   refine .inr #[go,λt B=>∃n p N,bQ u H1 n B/\Ok (md X) n p N t B/\forL g f W (h.drop (i+1)) p N=some o,λt B ⟨n,p,N,h1,h2,h3⟩=>#[h.length-(i+1),by omega,L,v,n,p,N,h1,h2,h3],λx H3 hy=>?_]
   let#[x3,U,r3]:=R x H3 hy
   let#[#[F,S4],e4,e5]:=ar e2
   refine#[d,r,z,_,F,S4,ok2.to x3 U,r3,e4,λY a1 H4 x4 Z=>?_]
   let#[o5,e6,C]:=ar e5
   let I:=(x2.trans x3).trans x4
   refine#[Y,F,S4,o5,Z,e6,?_]
   cases o5 with
   |nx s y=>exact λl K H6 M k=>#[l,s,y,I.trans M,k,C]
   |ct s y=>exact λl K H6 M k=>#[l,s,y,I.trans M,k,C]
   |bk s y=>cases C;exact λl K H6 M k=>P _ _ _ (I.trans M) k
   |rt d6 y=>cases C;exact P.to I
   |rl d6 y=>cases C;exact P.to I
  ·cases e2
 ·have e3:i=h.length:=by omega
  subst e3
  rw[List.drop_length] at e2
  unfold forL at e2
  split at e2
  ·rename_i w
   cases e2
   let#[w1,w2]:=wk h.length d z H2 x2 ok2.st w
   exact .inl #[w2 L,P _ _ _ x2 ok2]
  ·cases e2
end
section
variable{M:Md}{ρ:X7}{H:Hp}{b:X8}{us ws:List V}
mutual
theorem Rel.off(a:H b=some (.lst us)):∀{d:D} {v:V},Rel M ρ H d v->Rel M ρ (upd H b (.lst ws)) d v
 |_,_,.non=>.non
 |_,_,.bl x=>.bl x
 |_,_,.int i=>.int i
 |_,_,.str x=>.str x
 |_,_,.tup h hs=>.tup (by rw[a7 (GX h a (by intro z;cases z))];exact h) (bb.off a hs)
 |_,_,.ref h=>.ref h
 |_,_,.fn h=>.fn h
 |_,_,.mt h1 h2 h3 h4 h5=>.mt h1 h2 h3 h4 h5
theorem bb.off(a:H b=some (.lst us)):∀{ds:List D} {vs:List V},bb M ρ H ds vs->bb M ρ (upd H b (.lst ws)) ds vs
 |_,_,.nil=>.nil
 |_,_,.cons h hs=>.cons (Rel.off a h) (bb.off a hs)
end
theorem gy.off{S:aH}(st:gy M ρ S H)(e:H b=some (.lst us))(n:b∉ρ):gy M ρ S (upd H b (.lst ws)):=⟨st.len,st.nd,λk a o j p=>by
 let q:=st.obj k a o j p
 have f:a≠b:=λz=>n (z▸mQg j)
 cases o with
 |lst l=>let#[g,c,d]:=q;exact#[g,by rw[a7 f];exact c,d.off e]
 |frz l=>let#[g,o,c,d]:=q;exact#[g,o,by rw[a7 f];exact c,d.off e]
 |dct m=>let#[v,c,d]:=q;exact#[v,by rw[a7 f];exact c,d.imp λ_ _ r=>r.off e]
 |sett l=>let#[s,t,c,d,h]:=q;exact#[s,t,by rw[a7 f];exact c,d.off e,h]
 |dctN x w g=>let#[i,c,d,h,u]:=q;exact#[i,by rw[a7 f];exact c,d.off e,h.off e,u]⟩
def En.off{a:cI}{c:L2.St}(h:En M ρ H a c)(g:H b=some (.lst us)):En M ρ (upd H b (.lst ws)) a c:=#[h.len,λi d q=>by let#[v,f,e]:=h.get i d q;exact#[v,f,e.off g]]
def bQ.off{d:X7}{f:Hp}(e:bQ d f ρ H)(g:f b=none)(u:HO):bQ d f ρ (upd H b u):=⟨e.pre,e.new,λa o h c=>by rw[a7 (eR h g)];exact e.keep a o h c,λa h=>by
 by_cases z:a=b
 ·subst z;exact g
 ·rw[a7 z] at h;exact e.grow a h⟩
end
def oF(js:List (Option Nat))(a:cI):cI:=js.map λo=>o.bind λj=>a.getD j none
def En.sig{M:Md}{ρ:X7}{H:Hp}{a:cI}{c:L2.St}(js:List (Option Nat))(h:En M ρ H a c):En M ρ H (oF js a) (kh js c) where
 len:=by unfold oF kh;rw[lQm,lQm]
 get:=λi d q=>by
  unfold oF at q
  unfold kh
  rw[gQm] at q|-
  cases e:js[i]? with
  |none=>rw[e] at q;cases q
  | some o=>
    rw[e] at q
    cases o with
    |none=>cases q
    | some j=>
      have b:a.getD j none=some d:=QdQ q
      have k:a[j]?=some (some d):=by
        rw[Qlq] at b
        cases z:a[j]? with
        |none=>rw[z] at b;cases b
        |some y=>rw[z] at b;exact congrArg some b
      let#[v,g,f]:=h.get j d k
      refine#[v,?_,f]
      show some (c.getD j none)=some (some v)
      rw[Qlq,g]
      rfl
open Classical in
def mv(g:kA)(t:iB)(f:bc)(W:aH->Prop):List D->cI->aH->List D->Option (List D×aH)
 | [],Γ,S,acc=>if W S then some (acc,S) else none
 |d ::ds,Γ,S,acc=>if W S then(g d Γ S).bind λ(a,e)=>(t a e).bind λ(k,b)=>
    if k=true then(f a b).bind λ(y,c)=>if acc.length<sizeLine then mv g t f W ds a c (acc++ [y]) else none
    else mv g t f W ds a b acc
  else none
def bT(js:List (Option Nat))(i:qh)(g:kA)(t:iB)(f:bc):fF:=λa S=>(i a S).bind λ(p,b)=>mv g t f p.2 p.1 (oF js a) b []
section
variable{M:Md}
def EE{js:List (Option Nat)}{i:qh}{g:kA}{t:iB}{f:bc}:∀σ H Q,tL M (bT js i g t f) σ H Q->E8 js (tI M i) (tG M g) (tB M t) (tD M f) σ H Q:=λσ H Q qq=>by
 let#[ρ,Γ,S,rs,S',ok,e,q]:=qq
 let#[#[#[j,W],S1],e1,e]:=ar e
 refine#[ρ,Γ,S,j,W,S1,ok,e1,λl J H1 x1 U wk D N=>?_]
 have n1:D∉l:=cn x1 U N
 have a1:Ok M l (oF js Γ) S1 (kh js σ) (upd H1 D (.lst [])):=#[((ok.en.ext x1).ext (bQ.laid N)).sig js,U.lay N]
 refine⟨λi m B d=>m=j.length-i/\i<=j.length/\∃c s P b h,bQ l H1 c d/\Ok M c s P B d/\D∉c/\d D=some (.lst h)/\bb M c d b h/\mv g t f W (j.drop i) s P b=some (rs,S'),
  #[j.length,by simp,Nat.zero_le _,l,_,S1,[],[],bQ.laid N,a1,n1,bg,.nil,e],?_⟩
 rintro i m b1 H2 ⟨rfl,hi,c,s,P,b,h,x2,ok2,n2,hD2,racc,e2⟩
 by_cases I:i<j.length
 ·have hd:j[i]?=some j[i]:=gQe I
  rw[QWq I] at e2
  unfold mv at e2
  split at e2
  ·rename_i w
   let#[w1,w2]:=wk i c P H2 x2 ok2.st w
   let#[go,a2]:=w1 _ hd
   refine .inr ⟨go,λB d=>∃a r A b h,bQ l H1 a d/\Ok M a r A B d/\D∉a/\d D=some (.lst h)/\bb M a d b h/\mv g t f W (j.drop (i+1)) r A b=some (rs,S'),
    λB d ⟨a,r,A,b,h,h1,h2,h3,h4,h5,h6⟩=>#[j.length-(i+1),by omega,L,I,a,r,A,b,h,h1,h2,h3,h4,h5,h6],λx H3 hy=>?_⟩
   let#[x3,a3,r3]:=a2 x H3 hy
   let#[#[n,S4],e4,e5]:=ar e2
   refine#[c,s,P,_,n,S4,ok2.to x3 a3,r3,e4,λa5 b0 H4 x4 p=>?_]
   let#[#[k,S5],e6,Y]:=ar e5
   refine#[a5,n,S4,k,S5,p,e6,λX H5 Z R=>?_]
   let o:=(x3.trans x4).trans Z
   have C:∀{a d},bQ c H2 a d->d D=some (.lst h)/\D∉a:=λ{a d} x=>#[x.keep _ _ hD2 (.inl n2),λm=>(x.new _ m).elim n2 λz=>by rw[z] at hD2;cases hD2]
   dsimp only at Y|-
   split at Y
   ·rename_i ck
    rw[Qhq ck]
    let#[#[y,S6],e8,e9]:=ar Y
    refine#[X,n,S5,y,S6,p.to Z R,e8,λa0 v H6 x6 a4 r6=>?_]
    let K:=o.trans x6
    let#[u,n6]:=C K
    let F:=racc.ext K
    dsimp only at e9
    split at e9
    ·rename_i cl
     refine#[h,u,by rw[<-racc.length];exact cl,a0,n,S6,b++ [y],h++ [v],(x2.trans K).off N _,#[((p.en.ext Z).ext x6).off u,a4.off u n6],n6,bg,(F.append (.cons r6 .nil)).off u,e9]
    ·cases e9
   ·rename_i ck
    rw[Quq ck]
    let#[a6,n5]:=C o
    exact#[X,n,S5,b,h,x2.trans o,p.to Z R,n5,a6,racc.ext o,Y]
  ·cases e2
 ·have e3:i=j.length:=by omega
  subst e3
  rw[List.drop_length] at e2
  unfold mv at e2
  split at e2
  ·rename_i w
   let#[rfl,rfl]:=bI e2
   let#[w1,w2]:=wk j.length c P H2 x2 ok2.st w
   exact .inl #[w2 L,q c D h H2 (x1.trans x2) ok2.st (x1.grow _ N) n2 hD2 racc]
  ·cases e2
end
section
variable{X:Cx}{a b c e:Expr}{pos:Pos}{st:Stmt}{rest body other:List Stmt}
def b_:iB:=λ_ S=>some (true,S)
def Kw{f:List Expr}{t t':TT}(h:nE X f t)(w:∀g H Q,t' g H Q->t g H Q):nE X f t':=λd s g H Q I q=>h d s g H Q I (w _ _ _ q)
def cV:nE X [] (tB (md X) b_):=Kw IV λh H Q ⟨f,g,S,k,d,ok,e,q⟩=>by cases e;exact q _ _ bQ.refl ok.st
def yg{f:iB}(d:PT X c (tB (md X) f)):nE X [c] (tB (md X) f):=HG d
def cu{N:X6}{js:List (Option Nat)}{d:Scope}{l:List (Str×Addr)}{m h j:Expr}{k:List Expr}{i:qh}{g:kA}{t:iB}{f:bc}
  (S:aK X N js d l) (p:X.calm=true) (hi:PI X m h (tI (md X) i))
  (n:∀C s H fp,PG (aP X N d l C s H fp) m (tG (md X) g)) (ht:∀C s H fp,nE (aP X N d l C s H fp) k (tB (md X) t)) (he:∀C s H fp,PE (aP X N d l C s H fp) j (tD (md X) f))
  (o:autoParam (∀x,foldedSetIterable h X.env x=pure x) ag._auto_1):PE X (.ListComp j [⟨m,h,k,0⟩] d pos) (tL (md X) (bT js i g t f)):=gX (F5 S p hi n ht he o) EE
def tP{N:X6}{js:List (Option Nat)}{h:Scope}{w:List (Str×Addr)}{v j p k:Expr}{r:List Expr}{i:qh}{g:kA}{t:iB}{f:bc}{n:Nat}{l:Pos}
  (S:aK X N js h w) (hc:X.calm=true) (hi:PI X v j (tI (md X) i))
  (M:∀C s H fp,PG (aP X N h w C s H fp) v (tG (md X) g)) (ht:∀C s H fp,nE (aP X N h w C s H fp) r (tB (md X) t)) (he:∀C s H fp,PE (aP X N h w C s H fp) p (tD (md X) f)) (y:PG X k (uY n))
  (hs:autoParam (∀x,foldedSetIterable j X.env x=pure x) ag._auto_1) (B:autoParam (swapsWithSole [k] (.ListComp p [⟨v,j,r,0⟩] h pos) l.line X.env=pure true) af._auto_1)
  (Q:autoParam ((assignEach [k] X.env).map (·.2)= [assign k X.env]) af._auto_1):PS X (.Assign [k] (.ListComp p [#[v,j,r,0]] h pos) l) (tS (md X) (cf n (bR (bT js i g t f)))):=
 CV (FL S hc hi M ht he y hs B Q) λD σ H Z=>by
  let#[J,Γ,S,o,ok,e,q]:=Z
  let#[#[d,S1],e1,e]:=ar e
  cases e
  let#[#[I,U],R,e3]:=ar e1
  let#[rfl,rfl]:=bI e3
  refine EE σ H _ #[J,Γ,S,I,U,ok,R,λm a P K x st fr Y ha W=>?_]
  let z:=W.pre (List.prefix_append m [a])
  let A:=st.box (o:=.lst I) Y #[P,ha,z]
  have F:bQ J H (m++ [a]) K:=⟨x.pre.trans (List.prefix_append _ _),λb u=>by
   rcases mQa.mp u with u|u
   ·exact x.new b u
   ·rw[Qfq] at u;subst u;exact .inr fr,x.keep,x.grow⟩
  refine q (m++ [a]) _ K F #[((ok.en.ext F).set (.ref ?_)),A]
  rw[<-st.len,QQq (Qmq _)]
  simp
def C0(c:iB)(b:dr):Nat->cI->aH->Option Out
 |0,_,_=>none
 |n +1,Γ,S=>(c Γ S).bind λ(k,g)=>if k=true then(b Γ g).bind λo=>match o with
    |.nx d f=>C0 c b n d f
    |.ct d f=>C0 c b n d f
    |.bk d f=>some (.nx d f)
    |.rt x f=>some (.rt x f)
    |.rl x f=>some (.rl x f)
  else some (.nx Γ g)
def A6{h:iB}{f:dr}(n:Nat)(hp:PassesOwn (model X.prog X.w) X.A X.env X.xe)(hc:PT X c (tB (md X) h))(W:rA X body (tS (md X) f)):PS X (.While c body [] pos) (tS (md X) (C0 h f n)):=CV (ET hp hc W) λD σ H qq=>by
 let#[M,Γ,S,o,ok,e,q]:=qq
 refine#[λm r v=>∃d g t,bQ M H d v/\Ok (md X) d g t r v/\C0 h f m g t=some o,#[n,M,Γ,S,bQ.refl,ok,e],?_]
 rintro m a0 H1 ⟨J,B,S1,x1,y,i⟩
 cases m with
 |zero=>cases i
 | succ m=>
   unfold C0 at i
   let#[#[k,P],e2,i]:=ar i
   refine#[J,B,S1,k,P,y,e2,λF H2 R I=>?_]
   dsimp only at i|-
   let x:=y.to R I
   let j:=x1.trans R
   split at i
   · rename_i K
     rw[Qhq K]
     let#[Q,e3,i]:=ar i
     refine#[λr v=>∃d g t,bQ M H d v/\Ok (md X) d g t r v/\C0 h f m g t=some o,λr v ⟨d,g,t,Y,U,h3⟩=>#[m,Nat.lt_succ_self _,d,g,t,Y,U,h3],F,B,P,Q,x,e3,?_]
     cases Q with
     |nx s u=>exact λp C N z l=>#[p,s,u,j.trans z,l,i]
     |ct s u=>exact λp C N z l=>#[p,s,u,j.trans z,l,i]
     |bk s u=>cases i;exact λp C N z l=>q _ _ _ (j.trans z) l
     |rt Z u=>cases i;exact q.to j
     |rl Z u=>cases i;exact q.to j
   · rename_i K
     rw[Quq K]
     cases i
     exact q _ _ _ j x
end
inductive Res where
 |d (x:D)|l (ds:List D)
abbrev eG:=List D->aH->Option (Res×aH)
def Ik(M:Md)(ρ:X7)(H b:Hp)(v:V):Res->Prop
 |.d x=>Rel M ρ b x v
 |.l e=>∃a c,v=.ref a/\H a=none/\a∉ρ/\b a=some (.lst c)/\bb M ρ b e c
def fE(M:Md)(n:Nat)(F:eG):Sp:=λf H Q _=>∃c S d r e,d.length=n/\bb M c H d f/\gy M c S H/\F d S=some (r,e)/\∀a v b,bQ c H a b->gy M a e b->Ik M a H b v r->Q v b
mutual
def cy(m:Nat):D->Bool
 |.ref k=>decide (k<m)
 |.tup a=>bz m a
 |_=>true
def bz(m:Nat):List D->Bool
 | []=>true
 |d::ds=>cy m d&&bz m ds
end
def t9(m:Nat):O->Bool
 |.lst a=>bz m a
 |.frz a=>bz m a
 |.dct b=>bz m (b.map (·.2))
 |.sett a=>bz m a
 |.dctN e d c=>bz m d&&bz m c
section
variable{M:Md}{ρ ρ':X7}{H:Hp}
mutual
theorem Rel.cut(e:ρ <+: ρ'):∀{d:D} {v:V},Rel M ρ' H d v->cy ρ.length d=true->Rel M ρ H d v
 |_,_,.non,_=>.non
 |_,_,.bl x,_=>.bl x
 |_,_,.int i,_=>.int i
 |_,_,.str x,_=>.str x
 |_,_,.tup h hs,b=>.tup h (bb.cut e hs (by simpa [cy] using b))
 | _,_,.ref (k:=k) (a:=a) h,b=>.ref (by
   let#[t,rfl]:=e
   have c:k<ρ.length:=by simpa [cy] using b
   rwa [QHq c] at h)
 |_,_,.fn h,_=>.fn h
 |_,_,.mt h1 h2 h3 h4 h5,_=>.mt h1 h2 h3 h4 h5
theorem bb.cut(e:ρ <+: ρ'):∀{ds:List D} {vs:List V},bb M ρ' H ds vs->bz ρ.length ds=true->bb M ρ H ds vs
 |_,_,.nil,_=>.nil
 | _,_,.cons h hs,b=>by
   let a:=b
   erw[bz,QDq,QCq] at a
   exact .cons (Rel.cut e h a.1) (bb.cut e hs a.2)
end
theorem cg.cut(e:ρ <+: ρ'):∀{l:List (Key×D)} {c:List (Key×V)},cg M ρ' H l c->bz ρ.length (l.map (·.2))=true->cg M ρ H l c
 | [],_,h,_=>h
 | (_,_)::_,_,#[v,t,q,h,hs],b=>by
   let a:=b
   erw[bz,QDq,QCq] at a
   exact#[v,t,q,h.cut e a.1,cg.cut e hs a.2]
theorem nW.cut{a:X8}{o:O}(e:ρ <+: ρ')(h:nW M ρ' H a o)(b:t9 ρ.length o=true):nW M ρ H a o:=by
 cases o with
 |lst j=>let#[f,d,c]:=h;exact#[f,d,c.cut e b]
 |frz j=>let#[f,o,d,c]:=h;exact#[f,o,d,c.cut e b]
 |dct k=>let#[l,d,c]:=h;exact#[l,d,c.cut e b]
 |sett j=>let#[p,m,d,c,i]:=h;exact#[p,m,d,c.cut e b,i]
 |dctN q r f=>let#[g,d,c,i,n]:=h;erw[t9,QCq] at b;exact#[g,d,c.cut e b.1,i.cut e b.2,n]
mutual
theorem Rel.low:∀{d:D} {v:V},Rel M ρ H d v->cy ρ.length d=true
 |_,_,.non=>rfl
 |_,_,.bl x=>rfl
 |_,_,.int i=>rfl
 |_,_,.str x=>rfl
 |_,_,.tup h hs=>by erw[cy];exact bb.low hs
 |_,_,.ref h=>by erw[cy];exact Qeq (gQs.mp h).1
 |_,_,.fn h=>rfl
 |_,_,.mt _ _ _ _ _=>rfl
theorem bb.low:∀{ds:List D} {vs:List V},bb M ρ H ds vs->bz ρ.length ds=true
 |_,_,.nil=>rfl
 |_,_,.cons h hs=>by erw[bz];rw[Rel.low h,bb.low hs];rfl
end
theorem cg.low:∀{l:List (Key×D)} {a:List (Key×V)},cg M ρ H l a->bz ρ.length (l.map (·.2))=true
 | [],_,_=>rfl
 |(_,_)::_,_,#[v,t,q,h,hs]=>by erw[QDq,bz];rw[h.low,cg.low hs];rfl
theorem nW.low{a:X8}{o:O}(h:nW M ρ H a o):t9 ρ.length o=true:=by
 cases o with
 |lst f=>let#[d,c,b]:=h;exact b.low
 |frz f=>let#[d,o,c,b]:=h;exact b.low
 |dct i=>let#[j,c,b]:=h;exact b.low
 |sett f=>let#[n,k,c,b,e]:=h;exact b.low
 |dctN m p d=>let#[g,c,b,e,l]:=h;erw[t9,QCq];exact#[b.low,e.low]
end
def kB(S S':aH):Prop:=S.length<=S'.length/\∀k o,k<S.length->S'[k]?=some o->S[k]?=some o\/t9 S.length o=true
open Classical in
def settle(S:aH)(d:D)(S':aH):Option (Res×aH):=if kB S S' then match d with
  | .ref k=>if k<S.length then some (.d (.ref k),S'.take S.length) else match S'[k]? with
    |some (.lst ds)=>if bz S.length ds=true then some (.l ds,S'.take S.length) else none
    |_=>none
  |d=>if cy S.length d=true then some (.d d,S'.take S.length) else none
 else none
open Classical in
def gR(S:aH)(ds:List D)(S':aH):Option (Res×aH):=if kB S S'/\bz S.length ds=true then some (.l ds,S'.take S.length) else none
noncomputable def gD(n:Nat)(b:dr):eG:=λc S=>(b (c.map some++List.replicate (n-c.length) none) S).bind λo=>match o with
 |.nx _ a=>settle S .non a
 |.rt d a=>settle S d a
 |.rl l a=>gR S l a
 |_=>none
noncomputable def IW(n:Nat)(b:dr):eG:=λc S=>(b (c.map some++List.replicate (n-c.length) none) S).bind λo=>match o with
 |.nx _ a=>some (.d .non,a)
 |.rt d a=>some (.d d,a)
 |.rl l a=>some (.l l,a)
 |_=>none
def gy.clean{M:Md}{ρ b:X7}{S S':aH}{H e:Hp}(st:gy M ρ S H)(x:bQ ρ H b e)(i:gy M b S' e)(c:kB S S'):gy M ρ (S'.take S.length) e/\bQ ρ H ρ e:=by
 refine#[#[?_,st.nd,λk a o g f=>?_],List.prefix_refl _,λ_ h=>.inl h,x.keep,x.grow]
 ·rw[Qxq,st.len]
  have:=c.1
  omega
 ·have j:k<ρ.length:=(gQs.mp g).1
  have d:k<S.length:=st.len▸j
  rw[List.getElem?_take_of_lt d] at f
  refine(i.obj k a o (dD x.pre g) f).cut x.pre ?_
  rcases c.2 k o d f with z|z
  ·exact(st.obj k a o g z).low
  ·rw[st.len];exact z
def u_{M:Md}{ρ b:X7}{S S' h:aH}{H g:Hp}{d:D}{v:V}{r:Res}(st:gy M ρ S H)(x:bQ ρ H b g)(f:gy M b S' g)(l:Rel M b g d v)(e:settle S d S'=some (r,h)):
  bQ ρ H ρ g/\gy M ρ h g/\Ik M ρ H g v r:=by
 unfold settle at e
 split at e
 ·rename_i c
  let#[o,q]:=st.clean x f c
  cases d with
  | ref k=>
    dsimp only at e
    split at e
    · rename_i n
      let#[rfl,rfl]:=bI e
      exact#[q,o,l.cut x.pre (by erw[cy];rw[st.len];exact Qeq n)]
    · rename_i n
      split at e
      · rename_i A z
        split at e
        · rename_i i
          let#[rfl,rfl]:=bI e
          cases l with
          | ref p=>
            rename_i a
            let#[w,y,u]:=f.obj k a _ p z
            have s:a∉ρ:=λm=>by
              let#[j,t]:=List.getElem?_of_mem m
              have:=oG f.nd (dD x.pre t) p
              subst this
              exact n (st.len▸(gQs.mp t).1)
            refine#[q,o,a,w,L,(x.new a (mQg p)).resolve_left s,s,y,u.cut x.pre (by rw[st.len];exact i)]
        · cases e
      · cases e
  | _=>
    dsimp only at e
    split at e
    · rename_i i
      let#[rfl,rfl]:=bI e
      exact#[q,o,l.cut x.pre (by rw[st.len];exact i)]
    · cases e
 ·cases e
def zW{M:Md}{ρ b:X7}{S S' f:aH}{H d:Hp}{ds:List D}{a:X8}{vs:List V}{r:Res}(st:gy M ρ S H)(x:bQ ρ H b d)(g:gy M b S' d)(fr:H a=none)(i:a∉b)(k:d a=some (.lst vs))(h:bb M b d ds vs)(e:gR S ds S'=some (r,f)):
  bQ ρ H ρ d/\gy M ρ f d/\Ik M ρ H d (.ref a) r:=by
 unfold gR at e
 split at e
 ·rename_i c
  let#[j,l]:=st.clean x g c.1
  let#[rfl,rfl]:=bI e
  exact#[l,j,a,vs,L,fr,λm=>i (x.pre.subset m),k,h.cut x.pre (by rw[st.len];exact c.2)]
 ·cases e
def yi{M:Md}{ρ:X7}{H:Hp}{ds:List D}{vs:List V}{N:X6}(r:bb M ρ H ds vs):En M ρ H (ds.map some++List.replicate (N.length-ds.length) none) (L2.start N vs) where
 len:=by unfold L2.start;simp[r.length]
 get:=λi d q=>by
  unfold L2.start
  by_cases c:i<ds.length
  ·rw[QHq (by rw[lQm];exact c),gQm] at q
   let#[g,e,a]:=oQm.mp q
   cases a
   let#[v,f,b]:=r.get e
   exact#[v,by rw[QHq (by rw[lQm,<-r.length];exact c),gQm,f];rfl,b]
  ·rw[QQq (by rw[lQm];omega)] at q
   have:=mQg q
   rw[List.mem_replicate] at this
   cases this.2
section
variable{P:X9}{w:Xc}{K:X1}{mg:X3}{base:Xe}
def bL{x c:Str}{st:Stmt}{f:X8}{B:FuncData}{N ps:X6}{k:Nat}{b:dr}(F:fI K x c st f B)(S:aM N ps (aD st))
  (i:∀(g:Xd) (A:X_) (outer:List Env) (s:X4) (H:Hp) (E:XK),ed k (A.deeper (envOfC c (aD st) s.heap.objs.size f g))->
   rA (yB eH P w K mg base N c (aD st) f g A outer s H E).nox (eQ st) (tS #[K,mg,w] b)):bP P w K mg base eH (k+1) f B ps (fE #[K,mg,w] ps.length (gD N.length b)):=by
 refine F.ok S (λC H Q E ⟨J,S,W,r,S',I,y,_⟩=>by rw[<-y.length];exact I) λg A outer s H C Q E Y ⟨J,S,W,r,S',I,y,t,U,q⟩=>#[_,i g A outer s H E Y,?_]
 let#[o,e1,e]:=ar U
 refine#[J,_,S,o,#[yi y,t],e1,?_]
 cases o with
 |nx a0 M=>exact λj Z R m z=>by let#[n,l,p]:=u_ t m z.st .non e;exact q _ _ _ n l p
 |rt d M=>exact λj v R m h u=>by let#[n,l,p]:=u_ t m h u e;exact q _ _ _ n l p
 |rl d M=>exact λj a C R m h fr X ha u=>by let#[n,l,p]:=zW t m h fr X ha u e;exact q _ _ _ n l p
 |bk=>cases e
 |ct=>cases e
def Ea{x c:Str}{st:Stmt}{f:X8}{u:FuncData}{N ps:X6}{k:Nat}{b:dr}(F:fI K x c st f u)(S:aM N ps (aD st))
  (i:∀(g:Xd) (A:X_) (outer:List Env) (s:X4) (H:Hp) (E:XK),ed k (A.deeper (envOfC c (aD st) s.heap.objs.size f g))->
   rA (yB eH P w K mg base N c (aD st) f g A outer s H E).nox (eQ st) (tS #[K,mg,w] b)):bP P w K mg base eH (k+1) f u ps (fE #[K,mg,w] ps.length (IW N.length b)):=by
 refine F.ok S (λp H Q E ⟨z,S,J,r,X,y,n,_⟩=>by rw[<-n.length];exact y) λg A outer s H p Q E R ⟨z,S,J,r,X,y,n,U,I,q⟩=>#[_,i g A outer s H E R,?_]
 let#[o,Y,e]:=ar I
 refine#[z,_,S,o,#[yi n,U],Y,?_]
 cases o with
 |nx a0 B=>cases e;exact λj W C l t=>q _ _ _ l t.st .non
 |rt d B=>cases e;exact λj v C l h m=>q _ _ _ l h m
 |rl d B=>cases e;exact λj a p C l h fr M Z m=>q _ _ _ l h #[a,p,L,fr,M,Z,m]
 |bk=>cases e
 |ct=>cases e
end
section
variable{X:Cx}{x:Str}{k n:Nat}{f:X8}{fd:FuncData}{ps:X6}{F:eG}{e:Expr}{es:List Expr}{g:fF}{p pos:Pos}
noncomputable def aF(F:eG)(g:fF):bc:=λc S=>(g c S).bind λ(h,b)=>(F h b).bind λ(r,a)=>match r with
 |.d x=>some (x,a)
 |.l _=>none
def dq(F:eG)(g:fF):fF:=λh S=>(g h S).bind λ(a,c)=>(F a c).bind λ(r,b)=>match r with
 |.d _=>none
 |.l a=>some (a,b)
def nA(n:Nat)(g:fF):Prop:=∀c S a b,g c S=some (a,b)->a.length=n
def EW:nA 0 az:=λ_ _ _ _ e=>by cases e;rfl
def Bi{n:Nat}{f:bc}{g:fF}(h:nA n g):nA (n+1) (au f g):=λm S o c e=>by
 let#[#[d,l],j,e]:=ar e
 let#[#[b,i],a,e]:=ar e
 cases e
 rw[Qnq,h _ _ _ _ a]
def GC{M:Md}(B:nA n g):∀i H Q,tD M (aF F g) i H Q->DA (fE M n F) [] E0 (xW M g) i H Q:=λi H Q w=>by
 let#[y,z,S,d,K,ok,e,q]:=w
 let#[#[h,m],j,e]:=ar e
 let#[#[r,u],t,e]:=ar e
 refine#[y,z,S,h,m,ok,j,λc J H1 I a o=>#[c,m,h,r,u,B _ _ _ _ j,by rw[List.append_nil];exact o,a,t,λs v H2 A b C=>?_]]
 cases r with
 |d x=>let#[rfl,rfl]:=bI e;exact q _ _ _ (I.trans A) b C
 |l h=>cases e
def Gr{M:Md}(J:nA n g):∀j H Q,tL M (dq F g) j H Q->DA (fE M n F) [] E0 (xW M g) j H Q:=λj H Q A=>by
 let#[B,C,S,d,N,ok,e,q]:=A
 let#[#[i,o],m,e]:=ar e
 let#[#[r,z],y,e]:=ar e
 refine#[B,C,S,i,o,ok,m,λh w H1 s b t=>#[h,o,i,r,z,J _ _ _ _ m,by rw[List.append_nil];exact t,b,y,λu v H2 I c K=>?_]]
 cases r with
 |d x=>cases e
 | l i=>
   let#[rfl,rfl]:=bI e
   let#[a,w,rfl,fr,na,ha,rr]:=K
   exact q _ _ _ _ (s.trans I) c (s.grow _ fr) na ha rr
def Jb(G:bP X.prog X.w X.K X.mg X.base eH k f fd ps (fE (md X) n F))(h:ed k X.A)(j:Gl X x)(b:X.mg x=some (.ref f))(c:PySem.W.keepIn X.K (.ref f)=true)(i:Binds X.K fd ps [])(d:PA X (e::es) (xW (md X) g))(l:nA n g)
  (a:autoParam ((x==("__debug__":Str))=false) ac._auto_1) (he:autoParam (starEach (e::es) X.env=(false,eval e X.env)::starEach es X.env) af._auto_1) (hpl:autoParam ((backTo pos (starEach es X.env)).any (·.1)=false) af._auto_1):
  PE X (.Call (.Name x p) (e::es) [] pos) (tD (md X) (aF F g)):=gX (A0 G h j b c i .nil Hb d a he hpl) (GC l)
def Jj(G:bP X.prog X.w X.K X.mg X.base eH k f fd ps (fE (md X) n F))(h:ed k X.A)(j:Gl X x)(b:X.mg x=some (.ref f))(c:PySem.W.keepIn X.K (.ref f)=true)(i:Binds X.K fd ps [])(d:PA X (e::es) (xW (md X) g))(l:nA n g)
  (a:autoParam ((x==("__debug__":Str))=false) ac._auto_1) (he:autoParam (starEach (e::es) X.env=(false,eval e X.env)::starEach es X.env) af._auto_1) (hpl:autoParam ((backTo pos (starEach es X.env)).any (·.1)=false) af._auto_1):
  PE X (.Call (.Name x p) (e::es) [] pos) (tL (md X) (dq F g)):=gX (A0 G h j b c i .nil Hb d a he hpl) (Gr l)
end
def lh{α:Type}(xs:List α)(lo hi:Xb):List α:=(xs.drop (HT.ef xs.length 0 lo)).take (HT.ef xs.length xs.length hi-HT.ef xs.length 0 lo)
def bb.cut3{M:Md}{ρ:X7}{H:Hp}{ds:List D}{vs:List V}{lo hi:Xb}(h:bb M ρ H ds vs):bb M ρ H (lh ds lo hi) (wb vs lo hi):=by
 unfold lh wb
 rw[h.length]
 exact(h.drop _).take _
def GI{α:Type}{xs:List α}{lo hi:Xb}(b:HT.ef xs.length 0 lo=0)(a:HT.ef xs.length xs.length hi=xs.length):lh xs lo hi=xs:=by
 unfold lh
 rw[b,a]
 simp
abbrev GG:=cI->aH->Option (Option Int×aH)
def Kc(M:Md)(f:GG):TO:=λg H Q=>∃d e S o c,Ok M d e S g H/\f e S=some (o,c)/\∀a b,bQ d H a b->gy M a c b->Q o b
section
variable{X:Cx}{a b c e:Expr}{pos:Pos}{st:Stmt}
def C1:GG:=λ_ S=>some (none,S)
def CQ(f:bc):GG:=λh S=>(f h S).bind λ(d,g)=>match d with
 |.int i=>some (some i,g)
 |_=>none
def NN{o:Option Expr}{t t':TO}(h:PO X o t)(w:∀f H Q,t' f H Q->t f H Q):PO X o t':=λd s f H Q I q=>h d s f H Q I (w _ _ _ q)
def mP:PO X none (Kc (md X) C1):=NN FY λh H Q ⟨f,g,S,o,d,ok,e,q⟩=>by cases e;exact q _ _ bQ.refl ok.st
def m8{f:bc}(h:PE X e (tD (md X) f)):PO X (some e) (Kc (md X) (CQ f)):=NN (Gd h) λn H Q i=>by
 let#[j,k,S,o,p,ok,e,q]:=i
 let#[#[d,m],l,e]:=ar e
 dsimp only at e
 split at e
 ·let#[rfl,rfl]:=bI e
  refine#[j,k,S,_,m,ok,l,λg v s x st r=>?_]
  cases r
  exact#[_,L,q _ _ x st]
 ·cases e
def GP(f:bc)(lo hi:GG):bc:=λg S=>(f g S).bind λ(d,k)=>(lo g k).bind λ(l,i)=>(hi g i).bind λ(h,j)=>match d with
 |.tup m=>some (.tup (lh m l h),j)
 |_=>none
def rO{lo hi:Option Expr}{J:Pos}{f:bc}{l h:GG}(he:PE X e (tD (md X) f))(R:PO X lo (Kc (md X) l))(W:PO X hi (Kc (md X) h)):PE X (.Subscript e (.Slice lo hi none J) pos) (tD (md X) (GP f l h)):=
 gX (yF F0 he R W) λσ H Q P=>by
  let#[U,s,S,d,S',ok,e,q]:=P
  let#[#[x,C],Z,e]:=ar e
  let#[#[F,A],N,e]:=ar e
  let#[#[y,Y],e3,e]:=ar e
  cases x with
  | tup z=>
    dsimp only at e
    let#[rfl,rfl]:=bI e
    refine#[U,s,S,_,C,ok,Z,λo v H1 u g K=>#[o,s,C,F,A,ok.to u g,N,λm H2 t n=>#[m,s,A,y,Y,(ok.to u g).to t n,e3,λM H3 w i=>?_]]]
    let j:=(u.trans t).trans w
    let I:=K.ext (t.trans w)
    cases I with
    | tup B k=>
      refine#[_,_,L,iC.of B,λc=>?_,λc p r=>?_]
      · have:lh z F y=z:=GI (by rw[k.length];exact c.1) (by rw[k.length];exact c.2)
        rw[this] at q
        exact q _ _ _ j i (.tup B k)
      · exact q _ _ _ (j.trans (bQ.laid r)) (i.lay r) (.tup bg (k.cut3.ext (bQ.laid r)))
  |_=>cases e
open Classical in
def J8(f:eF)(lo hi:GG):fF:=λd S=>(f d S).bind λ(p,j)=>(lo d j).bind λ(l,i)=>(hi d i).bind λ(h,g)=>if p.2.isL=true/\p.2.stays g p.1 then some (lh p.1 l h,g) else none
def xa{lo hi:Option Expr}{A:Pos}{f:eF}{l h:GG}(he:PE X e (tQ (md X) f))(N:PO X lo (Kc (md X) l))(R:PO X hi (Kc (md X) h)):PE X (.Subscript e (.Slice lo hi none A) pos) (tL (md X) (J8 f l h)):=
 gX (yF Fw he N R) λσ H Q M=>by
  let#[P,r,S,d,S',ok,e,q]:=M
  let#[#[#[J,t],y],Y,e]:=ar e
  let#[#[l',x],K,e]:=ar e
  let#[#[C,W],Z,e]:=ar e
  dsimp only at e
  split at e
  ·rename_i c
   let#[rfl,rfl]:=bI e
   refine#[P,r,S,J,t,y,ok,Y,λo a vs H1 v j F B=>#[o,r,y,l',x,ok.to v j,K,λm H2 s n=>#[m,r,x,C,W,(ok.to v j).to s n,Z,λI H3 w g=>?_]]]
   let i:=(v.trans s).trans w
   let#[u,U,z]:=F.to B (s.trans w) g c.2
   refine#[_,u,L,U.sqL c.1,λp k=>?_]
   exact q _ _ _ _ (i.trans (bQ.laid k)) (g.lay k) (i.grow _ k) (cn i g k) bg (z.cut3.ext (bQ.laid k))
  ·cases e
open Classical in
def lR(f g:eF):fF:=λh S=>(f h S).bind λ(p,i)=>(g h i).bind λ(r,d)=>if p.2.isM=true/\r.2.isM=true/\p.2.stays d p.1/\p.1.length+r.1.length<=sizeLine then some (p.1++r.1,d) else none
def jn{f g:eF}(U:PE X a (tQ (md X) f))(z:PE X b (tQ (md X) g)):PE X (.BinOp a .Add b pos) (tL (md X) (lR f g)):=gX (nj IZ U z) λY H Q K=>by
 let#[M,o,S,d,Z,ok,e,q]:=K
 let#[#[#[C,t],u],R,e]:=ar e
 let#[#[#[N,w],J],I,e]:=ar e
 dsimp only at e
 split at e
 ·rename_i c
  let#[rfl,rfl]:=bI e
  refine#[M,o,S,C,t,u,ok,R,λl a W H1 v k B y=>#[l,o,u,N,w,J,ok.to v k,I,λA b F H2 r h x s=>?_]]
  let#[m,P,n]:=B.to y r h c.2.2.1
  let i:=v.trans r
  refine#[_,_,m,F,L,L,P.sqM c.1,x.sqM c.2.1,by rw[<-n.length,<-s.length];exact c.2.2.2,λp j=>?_]
  exact q _ _ _ _ (i.trans (bQ.laid j)) (h.lay j) (i.grow _ j) (cn i h j) bg ((n.append s).ext (bQ.laid j))
 ·cases e
open Classical in
def qU(f:eF)(g:bc):fF:=λh S=>(f h S).bind λ(p,i)=>(g h i).bind λ(r,d)=>match r with
 |.int k=>if p.2.isM=true/\p.2.stays d p.1/\ -(2^63)<=k/\k<2^63/\p.1.length*k.toNat<=sizeLine then some ((List.replicate k.toNat p.1).flatten,d) else none
 |_=>none
def tM{f:eF}{g:bc}(R:PE X a (tQ (md X) f))(z:PE X b (tD (md X) g)):PE X (.BinOp a .Mult b pos) (tL (md X) (qU f g)):=gX (nj Im R z) λW H Q J=>by
 let#[K,s,S,d,Y,ok,e,q]:=J
 let#[#[#[C,t],v],P,e]:=ar e
 let#[#[r,I],F,e]:=ar e
 cases r with
 | int k=>
   dsimp only at e
   split at e
   · rename_i c
     let#[rfl,rfl]:=bI e
     refine#[K,s,S,C,t,v,ok,P,λm a U H1 x l B y=>#[m,s,v,_,I,ok.to x l,F,λA w H2 u h N=>?_]]
     let#[n,M,o]:=B.to y u h c.2.1
     let i:=x.trans u
     cases N
     refine#[_,k,n,L,L,M.sqM c.1,c.2.2.1,c.2.2.2.1,by rw[<-o.length];exact c.2.2.2.2,λp j=>?_]
     exact q _ _ _ _ (i.trans (bQ.laid j)) (h.lay j) (i.grow _ j) (cn i h j) bg ((o.rep _).ext (bQ.laid j))
   · cases e
 |_=>cases e
open Classical in
def dZ(f:eF):bc:=λg S=>(f g S).bind λ(p,d)=>if p.2.isL=true/\p.2.stays d p.1 then some (.bl (!p.1.isEmpty),d) else none
def BC{f:eF}:∀k H Q,tD (md X) (dZ f) k H Q->Ff (DX X.K) (tQ (md X) f) (tL (md X) (bJ az)) k H Q:=λk H Q x=>by
 let#[y,m,S,d,J,ok,e,q]:=x
 let#[#[#[w,t],l],B,e]:=ar e
 dsimp only at e
 split at e
 ·rename_i c
  let#[rfl,rfl]:=bI e
  refine#[y,m,S,w,t,l,ok,B,λj a C H1 o i v r=>#[j,m,l,[],l,ok.to o i,L,λu b F H2 n g fr I s A=>?_]]
  let#[h,z,p]:=v.to r n g c.2
  cases A
  refine#[a,b,h,L,L,z.sqL c.1,iD.of s,?_]
  rw[<-p.isEmpty]
  exact q _ _ _ (o.trans n) g (.bl _)
 ·cases e
def Hi:PE X (.List [] pos) (tL (md X) (bJ az)):=cj aw
def ku{f:eF}{p:Pos}(d:X.A.units<cLine)(g:PE X a (tQ (md X) f)):PE X (.Compare a [.NotEq] [.List [] p] pos) (tD (md X) (dZ f)):=gX (r8 (xU d) g Hi (bp _)) BC
def rY{f:eF}{p:Pos}(d:X.A.units<cLine)(g:PE X a (tQ (md X) f)):PT X (.Compare a [.NotEq] [.List [] p] pos) (tB (md X) (bw (dZ f))):=sv BC (rS (xU d) g Hi (bp _))
def gy.putL{M:Md}{ρ:X7}{S:aH}{H:Hp}{k:Nat}{a:X8}{ds es:List D}{ws:List V}(st:gy M ρ S H)(d:ρ[k]?=some a)(f:S[k]?=some (.lst ds))(r:bb M ρ H es ws):gy M ρ (S.set k (.lst es)) (upd H a (.lst ws))/\bQ ρ H ρ (upd H a (.lst ws)):=by
 let#[i,g,j]:=st.obj k a _ d f
 exact st.put d f #[ws,bg,r.off g] λx h=>by rw[g] at h;cases h;exact id
def vI(m:List D->List D->Option (List D×D))(f:bc)(g:fF):bc:=λj S=>(f j S).bind λ(x,i)=>match x with
 | .ref k=>(g j i).bind λ(l,h)=>match i[k]?,h[k]? with
   |some (.lst _),some (.lst ds)=>(m ds l).bind λ(n,d)=>some (d,h.set k (.lst n))
   |_,_=>none
 |_=>none
def Gi(M:Md)(r:V->List V->Hp->VK->Prop)(m:List D->List D->Option (List D×D)):Prop:=∀{f:X7} {H:Hp} {a:X8} {l i k:List D} {d:D} {j h:List V} {Q:VK},H a=some (.lst j)->bb M f H l j->bb M f H i h->m l i=some (k,d)->
 (∀g w,bb M f H k g->Rel M f H d w->Q w (upd H a (.lst g)))->r (.ref a) h H Q
def Jy{m:List D->List D->Option (List D×D)}{r:V->List V->Hp->VK->Prop}{f:bc}{g:fF}(U:Gi (md X) r m):∀t H Q,tD (md X) (vI m f g) t H Q->MM X.K "list" r (tD (md X) f) (xW (md X) g) t H Q:=λt H Q Y=>by
 let#[Z,y,S,d,S',ok,e,q]:=Y
 let#[#[x,B],e1,e]:=ar e
 cases x with
 | ref k=>
   dsimp only at e
   let#[#[ys,R],P,e]:=ar e
   dsimp only at e
   split at e
   · rename_i J ds s j
     let#[#[es,d'],e3,e]:=ar e
     let#[rfl,rfl]:=bI e
     refine#[Z,y,S,_,B,ok,e1,λp v H1 C h I=>?_]
     cases I with
     | ref A=>
       rename_i a
       let#[n,W,_]:=h.obj k a _ A s
       refine#[.inl #[L,n,iD.of W],p,y,B,ys,R,ok.to C h,P,λM us H2 z i r2=>?_]
       let l:=dD z.pre A
       let#[vs,N,F]:=i.obj k a _ l j
       refine U N F r2 e3 λws w rw rd=>?_
       let#[o,u]:=i.putL l j rw
       exact q _ _ _ ((C.trans z).trans u) o (rd.ext u)
   · cases e
 |_=>cases e
def mF:List D->List D->Option (List D×D):=λd f=>match f with
 | [y]=>if d.length<sizeLine then some (d++ [y],.non) else none
 |_=>none
def Iu{M:Md}:Gi M Bj mF:=by
 intro n H a p m o d h l Q k g f e q
 unfold mF at e
 split at e
 ·split at e
  ·rename_i i
   let#[rfl,rfl]:=bI e
   cases f with
   | cons f j=>
     cases j
     exact#[a,h,_,L,L,k,by rw[<-g.length];exact i,q _ _ (g.append (.cons f .nil)) .non]
  ·cases e
 ·cases e
def ie{f:bc}{g:bc}{o:Expr}{h d:Pos}(m:PE X o (tD (md X) f))(n:PE X e (tD (md X) g))(i:autoParam (attributeBase o "append" X.env (eval o X.env)=eval o X.env) af._auto_1) (k:autoParam (((backTo d (starEach [e] X.env)).all (λx=> !x.1)&&(backToKw d (keywordEach [] X.env)).all (λx=>x.1.isSome)
   &&decide ([e].length+([]:List Keyword).length+(if ([]:List Keyword).isEmpty then 0 else 1)<30))=true) af._auto_1)
  (j:autoParam ((h.endLine==d.line)=true) af._auto_1) (l:autoParam (starEach [e] X.env= [(false,eval e X.env)]) af._auto_1):PE X (.Call (.Attribute o "append" h) [e] [] d) (tD (md X) (vI mF f (au g az))):=
 gX (y0 PySem.F.plainAttrs_list PySem.F.slot_list_append PySem.F.type_list_append lK m (aq n aw l) i k j l) (Jy Iu)
end
section
variable{X:Cx}{a b c e:Expr}{pos:Pos}{st:Stmt}
def kI:List D->List D->Option (List D×D):=λd f=>match f with
 | [.int i]=>if -(2^63)<=i/\i<2^63 then(seqIndex? i d.length).bind λk=>(d[k]?).bind λy=>some (d.eraseIdx k,y) else none
 |_=>none
def D_{M:Md}:Gi M Em kI:=by
 intro t H a s x u d m w Q o f g e q
 unfold kI at e
 split at e
 ·split at e
  ·rename_i i h
   let#[k,j,e]:=ar e
   let#[y,p,e]:=ar e
   let#[rfl,rfl]:=bI e
   cases g with
   | cons g n=>
     cases n
     cases g
     let#[v,r,l]:=f.get p
     rw[f.length] at j
     exact#[a,m,i,k,v,L,L,o,h.1,h.2,j,r,q _ _ (f.eraseIdx k) l]
  ·cases e
 ·cases e
def BB{f:bc}{g:bc}{o:Expr}{h d:Pos}(m:PE X o (tD (md X) f))(n:PE X e (tD (md X) g))(i:autoParam (attributeBase o "pop" X.env (eval o X.env)=eval o X.env) af._auto_1) (k:autoParam (((backTo d (starEach [e] X.env)).all (λx=> !x.1)&&(backToKw d (keywordEach [] X.env)).all (λx=>x.1.isSome)
   &&decide ([e].length+([]:List Keyword).length+(if ([]:List Keyword).isEmpty then 0 else 1)<30))=true) af._auto_1)
  (j:autoParam ((h.endLine==d.line)=true) af._auto_1) (l:autoParam (starEach [e] X.env= [(false,eval e X.env)]) af._auto_1):PE X (.Call (.Attribute o "pop" h) [e] [] d) (tD (md X) (vI kI f (au g az))):=
 gX (y0 PySem.F.plainAttrs_list PySem.F.slot_list_pop PySem.F.type_list_pop DM m (aq n aw l) i k j l) (Jy D_)
def E1(f:bc)(g:eF):bc:=λi S=>(f i S).bind λ(x,h)=>match x with
 | .ref k=>(g i h).bind λ(p,d)=>match h[k]?,d[k]? with
   |some (.lst _),some (.lst ds)=>if p.2.isM=true/\ds.length+p.1.length<=sizeLine then some (.non,d.set k (.lst (ds++p.1))) else none
   |_,_=>none
 |_=>none
def La{f:bc}{g:eF}:∀r H Q,tD (md X) (E1 f g) r H Q->MM X.K "list" BI (tD (md X) f) (G4 (tQ (md X) g) K7) r H Q:=λr H Q W=>by
 let#[Y,u,S,d,S',ok,e,q]:=W
 let#[#[x,A],e1,e]:=ar e
 cases x with
 | ref k=>
   dsimp only at e
   let#[#[#[ys,t],R],P,e]:=ar e
   dsimp only at e
   split at e
   · rename_i I ds p j
     split at e
     · rename_i c
       let#[rfl,rfl]:=bI e
       refine#[Y,u,S,_,A,ok,e1,λo v H1 B h F=>?_]
       cases F with
       | ref z=>
         rename_i a
         let#[m,U,_]:=h.obj k a _ z p
         refine#[.inl #[L,m,iD.of U],o,u,A,ys,t,R,ok.to B h,P,λJ b us H2 w i C y=>?_]
         let l:=dD w.pre z
         let#[N,Z,s]:=i.obj k a _ l j
         refine#[a,b,N,us,L,L,Z,C.sqM c.1,by rw[<-s.length,<-y.length];exact c.2,?_]
         let#[n,M]:=i.putL l j (s.append y)
         exact q _ _ _ ((B.trans w).trans M) n .non
     · cases e
   · cases e
 |_=>cases e
def Ez{f:bc}{g:eF}{o:Expr}{h d:Pos}(m:PE X o (tD (md X) f))(n:PE X e (tQ (md X) g))(i:autoParam (attributeBase o "extend" X.env (eval o X.env)=eval o X.env) af._auto_1) (k:autoParam (((backTo d (starEach [e] X.env)).all (λx=> !x.1)&&(backToKw d (keywordEach [] X.env)).all (λx=>x.1.isSome)
   &&decide ([e].length+([]:List Keyword).length+(if ([]:List Keyword).isEmpty then 0 else 1)<30))=true) af._auto_1)
  (j:autoParam ((h.endLine==d.line)=true) af._auto_1) (l:autoParam (starEach [e] X.env= [(false,eval e X.env)]) af._auto_1):PE X (.Call (.Attribute o "extend" h) [e] [] d) (tD (md X) (E1 f g)):=
 gX (y0 PySem.F.plainAttrs_list PySem.F.slot_list_extend PySem.F.type_list_extend B5 m (dE n fN l) i k j l) La
def Ke(f g:bc):kA:=λd h S=>(f h S).bind λ(x,m)=>(g h m).bind λ(y,l)=>match x,y with
 | .ref k,.int i=>match l[k]? with
   |some (.lst ds)=>(Ce ds.length i).bind λj=>some (h,l.set k (.lst (ds.set j d)))
   |_=>none
 |_,_=>none
def M7{f g:bc}:∀v s H Q,tG (md X) (Ke f g) v s H Q->L9 (tD (md X) f) (tD (md X) g) GZ v s H Q:=λv s H Q N=>by
 let#[P,w,S,d,Z,S',ok,r,e,q]:=N
 let#[#[x,C],W,e]:=ar e
 let#[#[y,M],K,e]:=ar e
 cases x with
 | ref k=>
   cases y with
   | int i=>
     dsimp only at e
     split at e
     · rename_i ds z
       let#[j,Y,e]:=ar e
       let#[rfl,rfl]:=bI e
       refine#[P,w,S,_,C,ok,W,λp v1 H1 F n m=>#[p,w,C,_,M,ok.to F n,K,λI v2 H2 A h U=>?_]]
       cases U
       let m:=m.ext A
       cases m with
       | ref B=>
         let#[J,R,u]:=h.obj k _ _ B z
         let l:=F.trans A
         let#[o,t]:=h.putL B z (bb.set (r.ext l) j u)
         exact#[_,J,i,j,L,L,R,by rw[<-u.length];exact Y,q _ _ _ (l.trans t) ((ok.to l h).to t o)]
     · cases e
   |_=>cases e
 |_=>cases e
def Hs{o i:Expr}{f g:bc}(d:PE X o (tD (md X) f))(hi:PE X i (tD (md X) g))
  (h:autoParam (∀v,assign (.Subscript o i pos) X.env v=(do
   let ov<-holding [v] (eval o X.env)
   let iv<-holding [v,ov] (eval i X.env)
   standAt pos
   holding [v,ov,iv] (setItem ov iv v)
   release [v,ov,iv] [])) ag._auto_1):PG X (.Subscript o i pos) (tG (md X) (Ke f g)):=MW (Hy d hi set_list h) M7
def Cd(i j:Nat)(f:fF):dr:=λd S=>(f d S).bind λ(h,g)=>match h with
 | [v,w]=>some (.nx ((d.set i (some v)).set j (some w)) g)
 |_=>none
def ES{i j:Nat}{f:fF}(h:PS X st (KR i j (xW (md X) f))):PS X st (tS (md X) (Cd i j f)):=CV h λD v H l=>by
 let#[m,n,S,o,ok,e,q]:=l
 let#[#[u,s],p,e]:=ar e
 dsimp only at e
 split at e
 ·cases e
  refine#[m,n,S,_,s,ok,p,λk t w x st r=>?_]
  cases r with
  | cons r d=>
    cases d with
    | cons g d=>
      cases d
      exact#[_,_,L,q _ _ _ x #[((ok.en.ext x).set r).set g,st]]
 ·cases e
end
def dW(cells:List (Str×Addr)):List (Str×NameKind)->List (Str×Addr)->List (Str×Addr)
 | [],acc=>acc
 |(n,k)::r,acc=>if (k==.free)=true then dW cells r ((n,(cells.lookup n).getD 0)::acc) else dW cells r acc
theorem pU{env:Env}:∀(names:List (Str×NameKind)) (b:List (Str×Addr)),(∀y∈names,y.2=.free->(env.cells.lookup y.1).isSome=true)->
  (forIn names b λ(x:Str×NameKind) (f:List (Str×Addr))=>(do
   if (x.2==NameKind.free)=true then do
    let c<-cellOf env x.1
    pure (ForInStep.yield ((x.1,c)::f))
   else pure (ForInStep.yield f):Sem (ForInStep (List (Str×Addr)))))=(pure (dW env.cells names b):Sem _)
 | [],b,_=>rfl
 | (n,k)::r,b,h=>by
   rw[List.forIn_cons]
   unfold dW
   by_cases c:(k==NameKind.free)=true
   · let#[a,e]:=Option.isSome_iff_exists.mp (h (n,k) QBq (by simpa using c))
     erw[c,if_true]
     have g:cellOf env n=pure a:=by
       unfold cellOf
       rw[e]
     rw[g,pure_bind,pure_bind,e]
     exact pU r _ λy d=>h y (Qpq _ d)
   · erw[c,Bool.false_eq_true,if_false]
     rw[pure_bind]
     exact pU r _ λy d=>h y (Qpq _ d)
def Du{a:Scope}{env:Env}(h:∀y∈a.names,y.2=.free->(env.cells.lookup y.1).isSome=true):closureFor a env=pure (dW env.cells a.names []):=by
 unfold closureFor
 have:=pU a.names [] h
 rw[bind_pure]
 exact this
theorem sH{cells:List (Str×Addr)}:∀(names:List (Str×NameKind)) (a:List (Str×Addr)) (p:Str×Addr),p∈dW cells names a->p∈a\/∃n,(n,NameKind.free)∈names/\p=(n,(cells.lookup n).getD 0)
 | [],a,p,h=>.inl h
 | (n,k)::r,a,p,h=>by
   unfold dW at h
   split at h
   · rename_i c
     rcases sH r _ p h with h|⟨m,d,b⟩
     · rcases Qsq.mp h with h|h
       · exact .inr #[n,by rw[show k=NameKind.free by simpa using c];exact QBq,h]
       · exact .inl h
     · exact .inr #[m,Qpq _ d,b]
   · rcases sH r _ p h with h|⟨m,d,b⟩
     · exact .inl h
     · exact .inr #[m,Qpq _ d,b]
theorem sZ{cells:List (Str×Addr)}{x:Str}:∀(names:List (Str×NameKind)) (a:List (Str×Addr)),((x,NameKind.free)∈names\/∃c,(x,c)∈a)->∃c,(x,c)∈dW cells names a
 | [],a,h=>by
   rcases h with h|h
   · cases h
   · exact h
 | (n,k)::r,a,h=>by
   unfold dW
   split
   · rename_i c
     refine sZ r _ ?_
     rcases h with h|⟨c,h⟩
     · rcases Qsq.mp h with h|h
       · cases h;exact .inr #[_,QBq]
       · exact .inl h
     · exact .inr #[c,Qpq _ h]
   · rename_i c
     refine sZ r _ ?_
     rcases h with h|h
     · rcases Qsq.mp h with h|h
       · cases h;exact absurd L c
       · exact .inl h
     · exact .inr h
theorem mf{x:Str}{c:X8}:∀{l:List (Str×Addr)},(x,c)∈l->∃a,l.lookup x=some a
 | [],h=>by cases h
 | (n,d)::r,h=>by
   unfold List.lookup
   by_cases e:(x==n)=true
   · rw[e];exact#[d,L]
   · have b:(x==n)=false:=by simpa using e
     rw[b]
     rcases Qsq.mp h with h|h
     · cases h;simp at e
     · exact mf h
def sI(b:X6)(a:Str->Option NameKind)(names:List (Str×NameKind)):List (Option Nat)->List Str->Bool
 |some j::js,x::N=>(b[j]? ==some x)&&(a x==some .cell||a x==some .free)&&(names.lookup x==some .free)&&sI b a names js N
 |none::js,_::N=>sI b a names js N
 |_,_=>true
theorem sW{b:X6}{a:Str->Option NameKind}{names:List (Str×NameKind)}:∀{js:List (Option Nat)} {N:X6} {k j:Nat} {x:Str},sI b a names js N=true->js[k]?=some (some j)->N[k]?=some x->b[j]?=some x/\(a x=some .cell\/a x=some .free)/\names.lookup x=some .free
 | some i::js,y::N,0,j,x,h,h1,h2=>by
   cases h1
   cases h2
   erw[sI,QCq,Bool.or_eq_true,beq_iff_eq] at h
   exact#[h.1.1.1,h.1.1.2,h.1.2]
 | some i::js,y::N,k+1,j,x,h,h1,h2=>by
   erw[sI,QCq] at h
   exact sW h.2 (by simpa using h1) (by simpa using h2)
 |none::js,y::N,0,j,x,h,h1,h2=>by cases h1
 |none::js,y::N,k+1,j,x,h,h1,h2=>sW (k:=k) (by simpa [sI] using h) (by simpa using h1) (by simpa using h2)
 | [],N,k,j,x,h,h1,h2=>by simp at h1
 |some i::js,[],k,j,x,h,h1,h2=>by simp at h2
 |none::js,[],k,j,x,h,h1,h2=>by simp at h2
theorem oI{env:Env}{x:Str}:∀{names:List (Str×NameKind)},names.lookup x=some .free->(names.map λ(n,k)=>if (k==NameKind.free&&env.scope.kind==.function&&env.kindOf n==some .cell) then(n,NameKind.cell) else(n,k)).lookup x=some .cell∨
  (names.map λ(n,k)=>if (k==NameKind.free&&env.scope.kind==.function&&env.kindOf n==some .cell) then(n,NameKind.cell) else(n,k)).lookup x=some .free
 | [],h=>by cases h
 | (n,k)::r,h=>by
   unfold List.lookup at h
   rw[QDq]
   by_cases e:(x==n)=true
   · rw[e] at h
     cases h
     dsimp only
     split
     · left;unfold List.lookup;rw[e]
     · right;unfold List.lookup;rw[e]
   · have a:(x==n)=false:=by simpa using e
     rw[a] at h
     let b:=oI (env:=env) h
     dsimp only
     split <;>(unfold List.lookup;rw[a];exact b)
def aK.gen{X:Cx}{N:X6}{js:List (Option Nat)}{d:Scope}(k:d.kind=.function)(o:d.names.all (λy=>y.2 !=.cell)=true)(r:d.names.all (λy=>y.2 !=.local||d.names.lookup y.1==some .local)=true)
  (p:d.names.all (λy=>y.2 !=.free||(X.env.cells.lookup y.1).isSome)=true) (u:sI X.N X.env.kindOf d.names js N=true) (v:js.length=N.length):aK X N js d (dW X.env.cells d.names []) where
 kind:=k
 nocell:=λy f=>by
  have:=QUq.mp o y f
  simpa using this
 names:=λy f e=>by
  have:=QUq.mp r y f
  rw[e] at this
  simpa using this
 clos:=Du λy f e=>by
  have:=QUq.mp p y f
  rw[e] at this
  simpa using this
 sub:=λx c h=>by
  rcases sH _ _ _ (PySem.mem_of_lookup h) with h|⟨n,m,e⟩
  ·cases h
  ·cases e
   have:=QUq.mp p _ m
   have w:(X.env.cells.lookup x).isSome=true:=by simpa using this
   let#[c,g]:=Option.isSome_iff_exists.mp w
   rw[g]
   rfl
 has:=λx h=>by
  have l:(x,NameKind.free)∈d.names:=by
   have:∃k,(relabel d X.env).names.lookup x=some k/\(k=.cell\/k=.free):=by
    rcases h with h|h
    ·exact#[_,h,.inl L]
    ·exact#[_,h,.inr L]
   let#[B,s,g]:=this
   let q:=PySem.mem_of_lookup s
   unfold relabel at q
   let#[#[n,t],f,i]:=Qkq.mp q
   dsimp only at i
   split at i
   ·rename_i c
    cases i
    erw[QCq] at c
    have:t=NameKind.free:=by simpa using c.1.1
    rw[<-this]
    exact f
   ·cases i
    rcases g with z|z
    ·have:=QUq.mp o _ f
     rw[z] at this
     simp at this
    ·rw[<-z];exact f
  let#[c,g]:=sZ (cells:=X.env.cells) d.names [] (.inl l)
  exact mf g
 cap:=λk j x A m=>by
  let#[a,b,c]:=sW u A m
  refine#[a,b,?_]
  unfold relabel
  exact oI c
 len:=v
structure fK(P:X9)(w:Xc)(K:X1)(mg:X3)(base:Xe)(k:Nat)(x:Str)(ps:X6)(F:eG):Prop where
 ex:∃f fd,bP P w K mg base eH k f fd ps (fE #[K,mg,w] ps.length F)/\Binds K fd ps []/\PySem.W.keepIn K (.ref f)=true/\mg x=some (.ref f)
section
variable{X:Cx}{x:Str}{k n:Nat}{ps:X6}{F:eG}{e:Expr}{es:List Expr}{g:fF}{p pos:Pos}
def L4(C:fK X.prog X.w X.K X.mg X.base k x ps F)(h:ed k X.A)(i:Gl X x)(d:PA X (e::es) (xW (md X) g))(j:nA ps.length g)
  (a:autoParam ((x==("__debug__":Str))=false) ac._auto_1) (he:autoParam (starEach (e::es) X.env=(false,eval e X.env)::starEach es X.env) af._auto_1) (hpl:autoParam ((backTo pos (starEach es X.env)).any (·.1)=false) af._auto_1):
  PE X (.Call (.Name x p) (e::es) [] pos) (tD (md X) (aF F g)):=by
 let#[f,l,G,b,c,m]:=C.ex
 exact Jb G h i m c b d j a he hpl
def Ln(C:fK X.prog X.w X.K X.mg X.base k x ps F)(h:ed k X.A)(i:Gl X x)(d:PA X (e::es) (xW (md X) g))(j:nA ps.length g)
  (a:autoParam ((x==("__debug__":Str))=false) ac._auto_1) (he:autoParam (starEach (e::es) X.env=(false,eval e X.env)::starEach es X.env) af._auto_1) (hpl:autoParam ((backTo pos (starEach es X.env)).any (·.1)=false) af._auto_1):
  PE X (.Call (.Name x p) (e::es) [] pos) (tL (md X) (dq F g)):=by
 let#[f,l,G,b,c,m]:=C.ex
 exact Jj G h i m c b d j a he hpl
end
structure Bl(mg:X3):Prop where
 len:mg "len"=none
 tuple:mg "tuple"=none
 list:mg "list"=none
 dict:mg "dict"=none
 set:mg "set"=none
 int:mg "int"=none
 str:mg "str"=none
 bool:mg "bool"=none
 all:mg "all"=none
 any:mg "any"=none
 range:mg "range"=none
 zip:mg "zip"=none
 sorted:mg "sorted"=none
 isi:mg "isinstance"=none
 min:mg "min"=none
 max:mg "max"=none
 abs:mg "abs"=none
 enum:mg "enumerate"=none
 reversed:mg "reversed"=none
end DL
namespace Zq
open PySem
def It(t:Bool)(h:Xe)(i a:X8)(k:Nat):Prop:=if t=true then h.IsTupleIter i a k else h.IsListIter i a k
def Sq(t:Bool)(h:Xe)(a:X8)(xs:Xa):Prop:=if t=true then h.IsTuple a xs else h.IsList a xs
section
variable{t t2:Bool}{h h':Xe}{i j a b z O T:X8}{k:Nat}{xs ys:Xa}
theorem It.at(g:It t h i a k)(f:∀o,h.get? i=some o->h'.get? i=some o):It t h' i a k:=by
 cases t with
 |true=>exact(show h.IsTupleIter i a k from g).at f
 |false=>exact(show h.IsListIter i a k from g).at f
def It.ext{c:X8}(g:It t h i a k)(f:Heap.ExtBut c h h')(n:i≠c):It t h' i a k:=g.at λo e=>f i o n e
def Sq.at(g:Sq t h a xs)(f:∀o,h.get? a=some o->h'.get? a=some o):Sq t h' a xs:=by
 cases t with
 |true=>let#[o,e,r]:=(show h.IsTuple a xs from g);exact(show h'.IsTuple a xs from#[o,f o e,r])
 |false=>let#[o,e,r]:=(show h.IsList a xs from g);exact(show h'.IsList a xs from#[o,f o e,r])
def Sq.ext{c:X8}(g:Sq t h a xs)(f:Heap.ExtBut c h h')(n:a≠c):Sq t h' a xs:=g.at λo e=>f a o n e
def It.obj(g:It t h i a k):∃o,h.get? i=some o/\∀v,o.data≠.cell v:=by
 cases t with
 |true=>let#[o,e,_,d]:=(show h.IsTupleIter i a k from g);exact#[o,e,λv n=>by rw[d] at n;cases n]
 |false=>let#[o,e,_,d]:=(show h.IsListIter i a k from g);exact#[o,e,λv n=>by rw[d] at n;cases n]
end
section
variable{prog:X9}{w:Xc}{A:X_}{E:X0}{s:X4}{t t2:Bool}{z T O i j a b:X8}{k:Nat}{xs ys:Xa}{x y u v:Xd}
def draw{Q:X0}(d:It t s.heap i a k)(c:Sq t s.heap a xs)(hv:xs[k]?=some v)
  (q:∀h',It t h' i a (k+1)->Heap.SameBut i s.heap h'->Q v {s with heap:=h'}):wpAny (model prog w) A (Builtin.SmallTypes.nextOf (.ref i)) Q E s:=by
 cases t with
 |true=>exact Zp.K9 d c hv q
 |false=>exact wpAny_nextOf_list_item d c hv q
def G6{Q:X0}(d:A.handled=none)(f:It t s.heap i a k)(c:Sq t s.heap a xs)(hv:xs[k]?=none)
  (q:∀h' e,Heap.ExtBut i s.heap h'->(∃o,h'.get? e=some o/\o.cls=.type "StopIteration")->E (.ref e) {s with heap:=h'}):wpAny (model prog w) A (Builtin.SmallTypes.nextOf (.ref i)) Q E s:=by
 cases t with
 |true=>exact Zp.LD d f c hv q
 |false=>exact wpAny_nextOf_list_end d f c hv q
abbrev xw(h:Xe)(z T O:X8)(d c:Xd):Prop:=
 h.get? z=some {cls:=.type "zip",dict:=none,data:=.fields (List.toArray [d,c,.bool false,.ref T,.ref O]),slots:= (List.toArray [])}
def item(D:ZipApart z T O i j a b){Q:X0}(m:xw s.heap z T O .none (.bool false))(gT:IsPair s.heap T (.ref i) (.ref j))(gO:IsPair s.heap O u v)(gi:It t s.heap i a k)(gj:It t2 s.heap j b k)
  (ga:Sq t s.heap a xs) (gb:Sq t2 s.heap b ys) (ex:xs[k]?=some x) (ey:ys[k]?=some y)
  (q:∀h',xw h' z T O (rawInt s.heap.objs.size) (.bool false)->IsPair h' O x y->It t h' i a (k+1)->It t2 h' j b (k+1)->IsPair h' s.heap.objs.size x y->Zp.Rest z O i j s.heap h'->Q (.ref s.heap.objs.size) {s with heap:=h'}):
  wpAny (model prog w) A (Builtin.«zip.__next__» #[[.ref z],[]]) (λM s'=>∃r,M=.done (.ret r)/\Q r s') E s:=by
 refine(?_:wpAny _ _ (field (.ref z) 2 >>= _) _ _ _)
 refine Qaq (QMq m L (x:=.bool false) L ?_)
 refine(?_:wpAny _ _ (field (.ref z) 3 >>= _) _ _ _)
 refine Qaq (QMq m L (x:=.ref T) L (Qaq (wpAny_seqItems gT L ?_)))
 refine(?_:wpAny _ _ (Builtin.SmallTypes.ownedTupleIsFree (.ref z) >>= _) _ _ _)
 refine Qaq ?_
 unfold Builtin.SmallTypes.ownedTupleIsFree
 refine Qaq (QMq m L (x:=.none) L (Qgq ?_))
 erw[if_true]
 refine Qaq (wpAny_rule (Qaq (QMq m L (x:=.ref O) L (Qaq (wpAny_setField_rec m (by simp) λh1 N f=>?_)))))
 replace N:xw h1 z T O .ellipsis (.bool false):=N
 refine Qaq ?_
 erw[List.zipIdx_cons,List.zipIdx_nil,List.forIn_nil,List.forIn_cons]
 refine Qaq (Qaq (wpAny_onRaise ?_))
 refine(?_:wpAny _ _ (Builtin.SmallTypes.nextOf (.ref i) >>= _) _ _ _)
 refine Qaq (draw (gi.ext f.extBut D.i1z) (ga.ext f.extBut D.l1z) ex λh2 i2 l=>Qgq ?_)
 have W:IsPair h2 O u v:=l.extBut _ _ D.TOi1 (f.extBut _ _ D.TOz gO)
 refine Qaq (wpAny_seqItems W L (Qaq (wpAny_updateSeq_pair W λh3 J h=>Qaq (wpAny_letGo (Qgq ?_)))))
 replace J:IsPair h3 O x v:=J
 refine Qaq (Qaq (wpAny_onRaise ?_))
 refine(?_:wpAny _ _ (Builtin.SmallTypes.nextOf (.ref j) >>= _) _ _ _)
 refine Qaq (draw (((gj.ext f.extBut D.i2z).ext l.extBut D.i12.symm).ext h.extBut D.TOi2.symm) (((gb.ext f.extBut D.l2z).ext l.extBut D.l2i1).ext h.extBut D.l2TO) ey λh4 j4 p=>Qgq ?_)
 have Z:IsPair h4 O x v:=p.extBut _ _ D.TOi2 J
 refine Qaq (wpAny_seqItems Z L (Qaq (wpAny_updateSeq_pair Z λd F n=>Qaq (wpAny_letGo (Qgq (Qgq ?_))))))
 replace F:IsPair d O x y:=F
 refine Qaq (wpAny_seqItems F L (Qaq (wpAny_newTuple ?_)))
 have X:d.objs.size=s.heap.objs.size:=by rw[n.1,p.1,h.1,l.1,f.1]
 have S:xw d z T O .ellipsis (.bool false):=n.extBut _ _ D.TOz.symm (p.extBut _ _ D.i2z.symm (h.extBut _ _ D.TOz.symm (l.extBut _ _ D.i1z.symm N)))
 have r5:Zp.Rest z O i j s.heap d:=λc o g B P R e=>n.extBut _ _ B (p.extBut _ _ R (h.extBut _ _ B (l.extBut _ _ P (f.extBut _ _ g e))))
 have i5:It t d i a (k+1):=((i2.ext h.extBut D.TOi1.symm).ext p.extBut D.i12).ext n.extBut D.TOi1.symm
 have j5:It t2 d j b (k+1):=j4.ext n.extBut D.TOi2.symm
 have zl:z<d.objs.size:=Qiq S
 refine(?_:wpAny _ _ (Builtin.SmallTypes.ownedTupleHandOut (.ref z) (.ref d.objs.size) >>= _) _ _ _)
 refine Qaq ?_
 unfold Builtin.SmallTypes.ownedTupleHandOut
 have z6:xw (d.push {cls:=.type "tuple",data:=.seq (List.toArray [x,y])}) z T O .ellipsis (.bool false):=Qcq _ S
 refine Qaq (wpAny_setField_rec z6 (by simp) λh7 K U=>?_)
 replace K:xw h7 z T O (rawInt d.objs.size) (.bool false):=K
 refine wpAny_setField_rec K (by simp) λC I b8=>?_
 replace I:xw C z T O (rawInt d.objs.size) (.bool false):=I
 have H:∀c o,c≠z->d.get? c=some o->C.get? c=some o:=λc o g e=>b8.extBut _ _ g (U.extBut _ _ g (Qcq _ e))
 have Y:IsPair C d.objs.size x y:=b8.extBut _ _ (Nat.ne_of_gt zl) (U.extBut _ _ (Nat.ne_of_gt zl) (Qrq _ L))
 rw[X] at I Y
 refine Qgq #[_,L,?_]
 refine(?_:Q (.ref d.objs.size) _)
 rw[X]
 exact q C I (H _ _ D.TOz F) (i5.at λo e=>H _ o D.i1z e) (j5.at λo e=>H _ o D.i2z e) Y λc o g B P R e=>H c o g (r5 c o g B P R e)
def alive{α:X8}{Q:Option Obj->Shared->Prop}(h:Q (s.heap.get? α) s):wpAny (model prog w) A (loadIfAlive α) Q E s:=λ_ _ _=>h
def stop(D:ZipApart z T O i j a b){Q:Fin->Shared->Prop}(J:A.handled=none)(d:xw s.heap z T O .none (.bool false))(K:IsPair s.heap T (.ref i) (.ref j))(R:It t s.heap i a k)(C:Sq t s.heap a xs)(ex:xs[k]?=none)
  (q:∀h' e,Zp.Rest z O i j s.heap h'->(∃o,h'.get? e=some o/\o.cls=.type "StopIteration")->E (.ref e) {s with heap:=h'}):
  wpAny (model prog w) A (Builtin.«zip.__next__» #[[.ref z],[]]) Q E s:=by
 refine(?_:wpAny _ _ (field (.ref z) 2 >>= _) _ _ _)
 refine Qaq (QMq d L (x:=.bool false) L ?_)
 refine(?_:wpAny _ _ (field (.ref z) 3 >>= _) _ _ _)
 refine Qaq (QMq d L (x:=.ref T) L (Qaq (wpAny_seqItems K L ?_)))
 refine(?_:wpAny _ _ (Builtin.SmallTypes.ownedTupleIsFree (.ref z) >>= _) _ _ _)
 refine Qaq ?_
 unfold Builtin.SmallTypes.ownedTupleIsFree
 refine Qaq (QMq d L (x:=.none) L (Qgq ?_))
 erw[if_true]
 refine Qaq (wpAny_rule (Qaq (QMq d L (x:=.ref O) L (Qaq (wpAny_setField_rec d (by simp) λH g f=>?_)))))
 replace g:xw H z T O .ellipsis (.bool false):=g
 refine Qaq ?_
 erw[List.zipIdx_cons,List.zipIdx_nil,List.forIn_nil,List.forIn_cons]
 refine Qaq (Qaq (wpAny_onRaise ?_))
 refine(?_:wpAny _ _ (Builtin.SmallTypes.nextOf (.ref i) >>= _) _ _ _)
 refine Qaq (G6 J (R.ext f.extBut D.i1z) (C.ext f.extBut D.l1z) ex λF e r P=>?_)
 let#[I,h,B]:=P
 have m:xw F z T O .ellipsis (.bool false):=r _ _ D.i1z.symm g
 have ne:e≠z:=λn=>by rw[n,m] at h;cases h;simp at B
 exact wpAny_setField_rec m (by simp) λN _ l=>q N e (λc o p _ M _ n=>l.extBut _ _ p (r _ _ M (f.extBut _ _ p n))) #[I,l.extBut _ _ ne h,B]
def KL(D:ZipApart z T O i j a b){p:X8}{S:Obj}{g:Xd}{Q:Fin->Shared->Prop}(K:A.handled=none)(d:xw s.heap z T O (rawInt p) g)(J:s.heap.get? p=some S)(N:IsPair s.heap T (.ref i) (.ref j))(W:It t s.heap i a k)(H:Sq t s.heap a xs)(ex:xs[k]?=none)
  (q:∀h' e,Zp.Rest z O i j s.heap h'->(∃o,h'.get? e=some o/\o.cls=.type "StopIteration")->E (.ref e) {s with heap:=h'}):
  wpAny (model prog w) A (Builtin.«zip.__next__» #[[.ref z],[]]) Q E s:=by
 refine(?_:wpAny _ _ (field (.ref z) 2 >>= _) _ _ _)
 refine Qaq (QMq d L (x:=.bool false) L ?_)
 refine(?_:wpAny _ _ (field (.ref z) 3 >>= _) _ _ _)
 refine Qaq (QMq d L (x:=.ref T) L (Qaq (wpAny_seqItems N L ?_)))
 refine(?_:wpAny _ _ (Builtin.SmallTypes.ownedTupleIsFree (.ref z) >>= _) _ _ _)
 refine Qaq ?_
 unfold Builtin.SmallTypes.ownedTupleIsFree
 refine Qaq (QMq d L (x:=rawInt p) L ?_)
 refine(?_:wpAny _ _ (loadIfAlive ((p:Int).toNat) >>= _) _ _ _)
 refine Qaq ?_
 rw[Int.toNat_natCast]
 refine alive ?_
 rw[J]
 refine(?_:wpAny _ _ (field (.ref z) 1 >>= _) _ _ _)
 refine Qaq (QMq d L (x:=g) L ?_)
 have B:wpAny (model prog w) A (if (g !=Value.bool true)=true then(do let _<-setField (.ref z) 1 (.bool true);pure false) else pure false)
   (λr C=>r=false/\∃f,C={s with heap:=f}/\xw f z T O (rawInt p) (.bool true)/\Heap.SameBut z s.heap f) E s:=by
  by_cases c:(g !=Value.bool true)=true
  ·rw[Qhq c]
   exact Qaq (wpAny_setField_rec d (by simp) λf F l=>Qgq #[L,f,L,F,l])
  ·rw[Quq c]
   have e:g=Value.bool true:=by simpa using c
   subst e
   exact Qgq #[L,s.heap,L,d,Heap.SameBut.refl _ _]
 refine QRq B (λr C m=>?_) λ_ _ h=>h
 let#[rfl,f,rfl,F,l]:=m
 erw[Bool.false_eq_true,if_false]
 refine Qaq ?_
 erw[List.forIn_toArray,List.forIn_cons,List.forIn_nil]
 refine Qaq (Qaq (QLq ?_))
 refine(?_:wpAny _ _ (Builtin.SmallTypes.nextOf (.ref i) >>= _) _ _ _)
 refine Qaq (G6 K (W.ext l.extBut D.i1z) (H.ext l.extBut D.l1z) ex λI e R U=>?_)
 exact q I e (λc o M _ P _ n=>R _ _ P (l.extBut _ _ M n)) U
def Zs(h:Xe)(z T O i j:X8):Prop:=xw h z T O .none (.bool false)/\(∃u v,IsPair h O u v)\/∃(p:X8) (c:Obj) (d:Xd),xw h z T O (rawInt (p:Nat)) d/\h.get? p=some c/\p≠z/\p≠O/\p≠i/\p≠j
def D6(D:ZipApart z T O i j a b){Q:Option Value->Shared->Prop}(l:A.handled=none)(c:Zs s.heap z T O i j)(m:IsPair s.heap T (.ref i) (.ref j))(n:It t s.heap i a k)(h:Sq t s.heap a xs)(ex:xs[k]?=none)
  (q:∀h',Zp.Rest z O i j s.heap h'->Q none {s with heap:=h'}):wpAny (model prog w) A (pyNext (.ref z)) Q E s:=by
 unfold pyNext
 rcases c with⟨c,u,v,I⟩|⟨p,H,C,c,B,_⟩
 ·have d:s.TypeIs (.ref z) "zip":=#[_,c,L]
  exact Qaq (wpAny_attempt (QiQ (name:=Str.ofString "__next__") d F.slot_zip_next (wpAny_call_entry F.slot_zip_next d F.entry_zip_next
   (stop D l c m n h ex λh' e r ⟨o,f,g⟩=>Qaq (wpAny_isInstance (T:="StopIteration") (b:=true) #[o,f,g] isSubtype_stop (Qgq (q _ r)))) (F.args_zip_next_1 _))))
 ·have d:s.TypeIs (.ref z) "zip":=#[_,c,L]
  exact Qaq (wpAny_attempt (QiQ (name:=Str.ofString "__next__") d F.slot_zip_next (wpAny_call_entry F.slot_zip_next d F.entry_zip_next
   (KL D l c B m n h ex λh' e r ⟨o,f,g⟩=>Qaq (wpAny_isInstance (T:="StopIteration") (b:=true) #[o,f,g] isSubtype_stop (Qgq (q _ r)))) (F.args_zip_next_1 _))))
end
def MH(t:Bool):String:=if t=true then "tuple_iterator" else "list_iterator"
abbrev H1(t:Bool)(h:Xe)(a:X8):Heap:=h.push {cls:=.type (MH t),data:=.fields (List.toArray [.ref a,.int 0 0])}
abbrev H2(t c:Bool)(h:Xe)(a b:X8):Heap:=(H1 t h a).push {cls:=.type (MH c),data:=.fields (List.toArray [.ref b,.int 0 0])}
abbrev H3(t c:Bool)(h:Xe)(a b:X8):Heap:=(H2 t c h a b).push {cls:=.type "tuple",data:=.seq (List.toArray [.ref h.objs.size,.ref (H1 t h a).objs.size])}
abbrev H4(t c:Bool)(h:Xe)(a b:X8):Heap:=(H3 t c h a b).push {cls:=.type "tuple",data:=.seq (List.toArray [.none,.none])}
abbrev H5(t c:Bool)(h:Xe)(a b:X8):Heap:=(H4 t c h a b).push {cls:=.type "zip",data:=.fields (List.toArray [.none,.bool false,.bool false,.ref (H2 t c h a b).objs.size,.ref (H3 t c h a b).objs.size])}
def Sq.push{t:Bool}{h:Xe}{a:X8}{xs:Xa}(g:Sq t h a xs)(o:Obj):Sq t (h.push o) a xs:=g.at λ_ e=>Qcq _ e
def Co(t m:Bool)(a b:X8)(xs ys:Xa):Meets (Builtin.«zip.__new__» #[[.type "zip",.ref a,.ref b],[]]) (λ_ R s=>Sq t s.heap a xs/\Sq m s.heap b ys/\R (.ok (.ret (.ref (H4 t m s.heap a b).objs.size))) {s with heap:=H5 t m s.heap a b}):=
 .of_wp λn w A R s h=>by
  let#[i,g,d,e,f]:=s
  let#[l,o,h]:=h
  let p:=sub_zip
  let c:=o.push {cls:=.type (MH t),data:=.fields (List.toArray [.ref a,.int 0 0])}
  cases t <;>cases m
  ·have j:Heap.IsList (Shared.heap #[i,g,d,e,f]) a xs:=l
   have k:Heap.IsList (Shared.heap ⟨i.push {cls:=.type "list_iterator",data:=.fields (List.toArray [.ref a,.int 0 0])},g,d,e,f⟩) b ys:=c
   wp_walk using wpAny_pyIter_list j,wpAny_pyIter_list k
   exact#[_,L,h]
  ·have j:Heap.IsList (Shared.heap #[i,g,d,e,f]) a xs:=l
   have k:Heap.IsTuple (Shared.heap ⟨i.push {cls:=.type "list_iterator",data:=.fields (List.toArray [.ref a,.int 0 0])},g,d,e,f⟩) b ys:=c
   wp_walk using wpAny_pyIter_list j,wpAny_pyIter_tuple k
   exact#[_,L,h]
  ·have j:Heap.IsTuple (Shared.heap #[i,g,d,e,f]) a xs:=l
   have k:Heap.IsList (Shared.heap ⟨i.push {cls:=.type "tuple_iterator",data:=.fields (List.toArray [.ref a,.int 0 0])},g,d,e,f⟩) b ys:=c
   wp_walk using wpAny_pyIter_tuple j,wpAny_pyIter_list k
   exact#[_,L,h]
  ·have j:Heap.IsTuple (Shared.heap #[i,g,d,e,f]) a xs:=l
   have k:Heap.IsTuple (Shared.heap ⟨i.push {cls:=.type "tuple_iterator",data:=.fields (List.toArray [.ref a,.int 0 0])},g,d,e,f⟩) b ys:=c
   wp_walk using wpAny_pyIter_tuple j,wpAny_pyIter_tuple k
   exact#[_,L,h]
section
variable{prog:X9}{w:Xc}{A:X_}{E:X0}{s:X4}
def LH{t d:Bool}{a b:X8}{xs ys:Xa}{Q:X0}(r:Sq t s.heap a xs)(u:Sq d s.heap b ys)
  (q:∀h',xw h' (s.heap.objs.size+4) (s.heap.objs.size+2) (s.heap.objs.size+3) .none (.bool false)->IsPair h' (s.heap.objs.size+2) (.ref s.heap.objs.size) (.ref (s.heap.objs.size+1))->IsPair h' (s.heap.objs.size+3) .none .none->
   It t h' s.heap.objs.size a 0->It d h' (s.heap.objs.size+1) b 0->(∀c o,s.heap.get? c=some o->h'.get? c=some o)->Q (.ref (s.heap.objs.size+4)) {s with heap:=h'}):
  wpAny (model prog w) A (call (.type "zip") [.ref a,.ref b]) Q E s:=by
 refine callType_new F.called_zip (!1) (F.typeCall_zip_2 _ _) (F.newCall_zip_2 _ _) (λg=>F.args_object_init_3 g _ _) F.entry_zip_new (Co t d a b xs ys) #[r,u,?_]
 have h:(H1 t s.heap a).objs.size=s.heap.objs.size+1:=Heap.size_push ..
 have f:(H2 t d s.heap a b).objs.size=s.heap.objs.size+2:=by rw[Heap.size_push,h]
 have i:(H3 t d s.heap a b).objs.size=s.heap.objs.size+3:=by rw[Heap.size_push,f]
 have l:(H4 t d s.heap a b).objs.size=s.heap.objs.size+4:=by rw[Heap.size_push,i]
 have e:(H5 t d s.heap a b).get? (H4 t d s.heap a b).objs.size=some _:=Qrq _ L
 have m:(H5 t d s.heap a b).get? (H3 t d s.heap a b).objs.size=some _:=Qcq _ (Qrq _ L)
 have j:(H5 t d s.heap a b).get? (H2 t d s.heap a b).objs.size=some _:=Qcq _ (Qcq _ (Qrq _ L))
 have k:(H5 t d s.heap a b).get? (H1 t s.heap a).objs.size=some _:=Qcq _ (Qcq _ (Qcq _ (Qrq _ L)))
 have p:(H5 t d s.heap a b).get? s.heap.objs.size=some _:=Qcq _ (Qcq _ (Qcq _ (Qcq _ (Qrq _ L))))
 refine(?_:_/\_)
 rw[f,i,l] at e
 rw[h,f] at j
 rw[i] at m
 rw[h] at k
 rw[l]
 refine#[#[_,e,L],q _ e j m ?_ ?_ λc o n=>Qcq _ (Qcq _ (Qcq _ (Qcq _ (Qcq _ n))))]
 ·cases t <;>exact#[_,p,L,L]
 ·cases d <;>exact#[_,k,L,L]
end
end Zq
namespace Zq
open PySem Dk
end Zq
namespace L2
open PySem PySem.Spec PyProof.Rows Zq
section
variable{X:Cx}
def EJ(K:X1)(t:Bool)(H:Hp)(a:X8)(xs:List V):Prop:=if t=true then iC K H a xs else iD K H a xs
def Inv.sq{c:X2}{d:St}{H:Hp}{s:X4}{t:Bool}{a:X8}{xs:List V}(I:Inv X c d H s)(h:EJ X.K t H a xs):∃b:List Value,bt xs b/\Sq t s.heap a b.toArray/\xs.length<=sizeLine:=by
 cases t with
 | true=>
   let#[b,r,p,z]:=I.tuple h
   exact#[b,r,(show s.heap.IsTuple a b.toArray from p),z]
 | false=>
   let#[b,r,p,z]:=I.list h
   exact#[b,r,(show s.heap.IsList a b.toArray from p.isList),z]
def Sq.lt{t:Bool}{h:Xe}{a:X8}{xs:Xa}(g:Sq t h a xs):a<h.objs.size:=by
 cases t with
 |true=>let#[o,e,_]:=(show h.IsTuple a xs from g);exact Qiq e
 |false=>let#[o,e,_]:=(show h.IsList a xs from g);exact Qiq e
end
end L2
namespace Zq
open PySem
section
variable{prog:X9}{w:Xc}{A:X_}{E:X0}{s:X4}{t t2:Bool}{z T O i j a b:X8}{k:Nat}{xs ys:Xa}{x y u v:Xd}
def Ct(D:ZipApart z T O i j a b){Q:Option Value->Shared->Prop}(c:xw s.heap z T O .none (.bool false))(n:IsPair s.heap T (.ref i) (.ref j))(C:IsPair s.heap O u v)(H:It t s.heap i a k)(g:It t2 s.heap j b k)
  (e:Sq t s.heap a xs) (f:Sq t2 s.heap b ys) (ex:xs[k]?=some x) (B:ys[k]?=some y)
  (q:∀h',xw h' z T O (rawInt s.heap.objs.size) (.bool false)->IsPair h' O x y->It t h' i a (k+1)->It t2 h' j b (k+1)->IsPair h' s.heap.objs.size x y->Zp.Rest z O i j s.heap h'->Q (some (.ref s.heap.objs.size)) {s with heap:=h'}):
  wpAny (model prog w) A (pyNext (.ref z)) Q E s:=by
 have d:s.TypeIs (.ref z) "zip":=#[_,c,L]
 unfold pyNext
 exact Qaq (wpAny_attempt (QiQ (name:=Str.ofString "__next__") d F.slot_zip_next (wpAny_call_entry F.slot_zip_next d F.entry_zip_next
  (item D c n C H g e f ex B λh' p r h m l o=>Qgq (q h' p r h m l o)) (F.args_zip_next_1 _))))
end
end Zq
namespace L2
open PySem PySem.Spec PyProof.Rows Zq
def Inv.sq_inj{X:Cx}{b:X2}{c:St}{H:Hp}{s:X4}{t:Bool}{a:X8}{xs ys:List V}(I:Inv X b c H s)(h:EJ X.K t H a xs)(h':EJ X.K t H a ys):xs=ys:=by
 cases t with
 |true=>exact I.tuple_inj h h'
 |false=>exact I.list_inj h h'
def NK(K:X1)(t e:Bool)(a b:X8):It:=
  ⟨λi H=>∃c d x y,EJ K t H a c/\EJ K e H b d/\c[i]?=some x/\d[i]?=some y,
   λi H v f=>∃p,v=.ref p/\H p=none/\∀c d x y,EJ K t H a c->EJ K e H b d->c[i]?=some x->d[i]?=some y->f=upd H p (.tup [x,y]),
   λi H=>∃c,EJ K t H a c/\c.length<=i⟩
def CL{P:X9}{w:Xc}{K:X1}{C:List Expr}{x1:Nat}{tp:Pos}{t t2:Bool}{z T O i j a b:X8}(D:ZipApart z T O i j a b):
  Turn P w K (.Tuple C x1 tp) (NK K t t2 a b) [z,T,O,i,j] z (λn h=>xw h z T O .none (.bool false)/\IsPair h T (.ref i) (.ref j)/\(∃u v,IsPair h O u v)/\Zq.It t h i a n/\Zq.It t2 h j b n) where
 mem:=by simp
 obj:=λn h ⟨f,g,⟨u,v,l⟩,m,q⟩ c d=>by
  simp at d
  rcases d with rfl|rfl|rfl|rfl|rfl
  ·exact#[_,f,λv n=>by cases n]
  ·exact#[_,g,λv n=>by cases n]
  ·exact#[_,l,λv n=>by cases n]
  ·exact m.obj
  ·exact q.obj
 keep:=λn h h' ⟨f,g,⟨u,v,l⟩,m,q⟩ k=>#[k z (by simp) _ f,k T (by simp) _ g,#[u,v,k O (by simp) _ l],m.at λo e=>k i (by simp) o e,q.at λo e=>k j (by simp) o e]
 item:=by
  rintro X Y U hK d n p s σ H E I J ⟨f,g,⟨u,v,l⟩,m,q⟩ S
  subst Y U hK
  let#[xs,ys,x,y,F,qb,Q,hy]:=S
  let#[a0,R,Z,_]:=I.sq F
  let#[a1,rb,pb,_]:=I.sq qb
  let#[ux,ex,rx]:=R.get Q
  let#[uy,ey,ry]:=rb.get hy
  have B:∀{c o},s.heap.get? c=some o->c≠s.heap.objs.size:=λe=>Qwq (Qiq e)
  have A:∀c∈[z,T,O,i,j],c≠s.heap.objs.size:=λc d=>by
   let#[oi,e1,_]:=m.obj
   let#[oj,e2,_]:=q.obj
   simp at d
   rcases d with rfl|rfl|rfl|rfl|rfl
   ·exact B f
   ·exact B g
   ·exact B l
   ·exact B e1
   ·exact B e2
  refine Zq.Ct D f g l m q Z pb (x:=ux) (y:=uy) (by simpa using ex) (by simpa using ey) λh1 z1 O1 i1 j1 n1 M=>#[_,L,?_]
  let T1:=M _ _ D.TIz D.TITO D.TIi1 D.TIi2 g
  refine wpAny_letOwnedTupleGo_zip z1 λh2 z2 r=>?_
  have I2:Inv X p σ (upd H s.heap.objs.size (.tup [x,y])) {s with heap:=h2}:=I.turnedNew (t':=s.toks) (fp:= [z,T,O,i,j]) J (λc o d e=>?_) (Qmq _) ?_
  ·refine#[.ref s.heap.objs.size,_,I2,L,#[s.heap.objs.size,L,I.hok.fresh (Qmq _),λa2 a3 x' y' q1 q2 N q4=>?_],#[z2,r.extBut _ _ D.TIz T1,#[_,_,r.extBut _ _ D.TOz O1],i1.ext r.extBut D.i1z,j1.ext r.extBut D.i2z],λc d=>?_]
   ·rw[I.sq_inj q1 F] at N
    rw[I.sq_inj q2 qb] at q4
    rw[Q] at N
    rw[hy] at q4
    cases N
    cases q4
    rfl
   ·rw[a7 (A c d)]
    exact(J c d).1
  ·simp at d
   exact r.extBut _ _ d.1 (M c o d.1 d.2.2.1 d.2.2.2.1 d.2.2.2.2 e)
  ·exact#[by show 2<=_;decide,[ux,uy],.cons rx (.cons ry .nil),_,r.extBut _ _ (λe=>A z (by simp) e.symm) n1,L,L,0,L]
 done:=by
  rintro X Y U hK d n p s σ H E I J ⟨f,g,⟨u,v,l⟩,m,q⟩ S
  subst Y U hK
  let#[xs,F,Q]:=S
  let#[a0,R,Z,_]:=I.sq F
  let hl:=R.length
  refine Zq.D6 D (I.ok.hd d) (.inl #[f,u,v,l]) g m Z (by simp;omega) λh1 M=>#[L,I.turnedL (t':=s.toks) (fp:= [z,T,O,i,j]) J λc o d e=>?_]
  simp at d
  exact M c o d.1 d.2.2.1 d.2.2.2.1 d.2.2.2.2 e
 self:=λ_ _ _ _ _ ⟨f,_⟩ h=>wpAny_pyIter_zip f h
section
variable{X:Cx}
def NU(K:X1)(g:TA):TI:=λh H R=>g h H λd H1=>∃(t c:Bool) (a b:X8) (f e:List V),d= [.ref a,.ref b]/\EJ K t H1 a f/\EJ K c H1 b e/\R (NK K t c a b) H1
def FP{d:List Expr}{x1:Nat}{U:Pos}{a b:Expr}{n:TA}{p pos:Pos}(B:Gl X "zip")(Z:X.mg "zip"=none)(ha:PA X [a,b] n)(W:autoParam (starEach [a,b] X.env= [(false,eval a X.env),(false,eval b X.env)]) af._auto_1)(g:autoParam (starEach [b] X.env= [(false,eval b X.env)]) af._auto_1):
  PI X (.Tuple d x1 U) (.Call (.Name "zip" p) [a,b] [] pos) (NU X.K n):=by
 intro i s Y H R I h
 refine Call_ (lD I B Z (by rfl) (PyProof.Rows.callWith_type1 (bZ (ha pos i s Y H _ I h) λus u ⟨vs,H1,f,A,P⟩=>?_) (by rw[W,g]) (by rw[g];rfl)))
 let#[t,t2,x,y,xs,ys,e,qa,F,q]:=P
 subst e
 cases A with
 | cons r j=>
   cases j with
   | cons z j=>
     cases j
     cases r
     cases z
     let#[N,ra,v,_]:=f.sq qa
     let#[Q,rb,o,_]:=f.sq F
     let J:=Sq.lt v
     let C:=Sq.lt o
     refine Zq.LH v o λh' l S gO gi M k=>?_
     refine wpAny_pyIter_zip l #[_,_,_,_,H1,L,f.kept (t':=u.toks) k,CL (PyProof.Rows.zipApart_new J C),#[l,S,#[_,_,gO],gi,M],λc w=>?_,q]
     have m:u.heap.objs.size<=c:=by
       erw[Qsq,QXq,or_false] at w
       rcases w with e|e|e|e|e <;>(rw[e];first|exact Qmq _|exact Nat.le_add_right _ _)
     exact f.fpOk m (f.hok.fresh m)
end
end L2
namespace DL
open PySem PySem.Spec PyProof.Rows L2
def zL.sqB{M:Md}{ρ:X7}{H:Hp}{a:X8}{vs:List V}{t:Tag}(h:zL M ρ H a vs t):L2.EJ M.K (!t.isL) H a vs:=by
 cases c:t.isL with
 |true=>exact h.sqL c
 |false=>exact h.sqT c
def Cj(xs ys:List D):List D:=List.zipWith (λx y=>D.tup [x,y]) xs ys
open Classical in
def GH(f g:eF):qh:=λb S=>(f b S).bind λ(p,c)=>(g b c).bind λ(r,a)=>if p.2.stays a p.1/\p.1.length<=r.1.length then some ((Cj p.1 r.1,λS=>p.2.stays S p.1/\r.2.stays S r.1),a) else none
section
variable{X:Cx}{a b c e:Expr}{pos:Pos}{st:Stmt}
def Kr{m:List Expr}{s:Nat}{tp p:Pos}{f g:eF}(hg:Gl X "zip")(hm:X.mg "zip"=none)(ha:PE X a (tQ (md X) f))(hb:PE X b (tQ (md X) g))(P:autoParam (starEach [a,b] X.env= [(false,eval a X.env),(false,eval b X.env)]) af._auto_1)(j:autoParam (starEach [b] X.env= [(false,eval b X.env)]) af._auto_1):
  PI X (.Tuple m s tp) (.Call (.Name "zip" p) [a,b] [] pos) (tI (md X) (GH f g)):=Kf (FP hg hm (dE ha (dE hb fN j) (by rw[P,j])) P j) λσ H R ⟨ρ,N,S,ds,W,S',ok,e,q⟩=>by
 let#[#[#[o,t1],S1],e1,e]:=ar e
 let#[#[#[l,t2],S2],e2,e]:=ar e
 dsimp only at e
 split at e
 ·rename_i c
  let#[e3,rfl]:=bI e
  let#[rfl,rfl]:=Prod.mk.inj e3
  refine#[ρ,N,S,o,t1,S1,ok,e1,λt a1 a0 H1 s F h1 r1=>#[t,N,S1,l,t2,S2,ok.to s F,e2,λa3 b1 ws H2 M n Q r2=>?_]]
  let#[A,K,r3]:=h1.to r1 M n c.1
  refine#[_,_,a1,b1,A,ws,L,K.sqB,Q.sqB,q _ _ _ (s.trans M) n λi a2 S3 H3 Y k w=>?_]
  let#[B,I,g2]:=K.to r3 Y k w.1
  let#[U,g3,g4]:=Q.to r2 Y k w.2
  refine#[λd h=>?_,λhi=>#[B,I.sqB,?_]]
  ·unfold Cj at h
   rw[List.getElem?_zipWith] at h
   cases r:o[i]? with
   |none=>rw[r] at h;cases h
   | some x=>
     cases C:l[i]? with
     |none=>rw[r,C] at h;cases h
     | some y=>
       rw[r,C] at h
       cases h
       let#[u,Z,ru]:=g2.get r
       let#[z,J,rz]:=g4.get C
       refine#[#[B,U,u,z,I.sqB,g3.sqB,Z,J],λv H4 hv=>?_]
       let#[p,rfl,hp,hq]:=hv
       have:=hq B U u z I.sqB g3.sqB Z J
       subst this
       exact#[bQ.laid hp,k.lay hp,.tup bg ((bb.cons ru (.cons rz .nil)).ext (bQ.laid hp))]
  ·rw[hi]
   unfold Cj
   rw[List.length_zipWith,g2.length.symm]
   have:=c.2
   omega
 ·cases e
end
def CK:D->Option Key
 |.int i=>some (.inl i)
 |.str x=>some (.inr x)
 |_=>none
def Bo{M:Md}{ρ:X7}{H:Hp}{d:D}{v:V}{k:Key}(r:Rel M ρ H d v)(e:CK d=some k):v=kV k:=by
 cases r <;>simp[CK] at e <;>subst e <;>rfl
def eA(kvs:List (Key×D))(k:Key):Option D:=(kvs.find? λa=>decide (a.1=k)).map (·.2)
def putD(kvs:List (Key×D))(k:Key)(v:D):List (Key×D):=
 if (kvs.any λa=>decide (a.1=k))=true then kvs.map (λa=>if a.1=k then(a.1,v) else a) else kvs++ [(k,v)]
def fQ(kvs a:List (Key×D)):List (Key×D):=a.foldl (λb c=>putD b c.1 c.2) kvs
section
variable{M:Md}{ρ:X7}{H:Hp}
theorem cg.append:∀{l m:List (Key×D)} {a kw:List (Key×V)},cg M ρ H l a->cg M ρ H m kw->cg M ρ H (l++m) (a++kw)
 | [],_,_,_,h,h'=>by cases h;exact h'
 |(_,_)::_,_,_,_,#[v,t,e,h,hs],h'=>by subst e;exact#[v,_,L,h,cg.append hs h']
theorem cg.any:∀{l:List (Key×D)} {a:List (Key×V)} (k:Key),cg M ρ H l a->(l.any λp=>decide (p.1=k))=a.any λp=>decide (p.1=k)
 | [],_,_,h=>by cases h;rfl
 |(_,_)::_,_,k,#[v,t,e,h,hs]=>by subst e;erw[List.any_cons,cg.any k hs]
theorem cg.mapP{d:D}{v:V}{k:Key}(r:Rel M ρ H d v):∀{l:List (Key×D)} {a:List (Key×V)},cg M ρ H l a->cg M ρ H (l.map λp=>if p.1=k then(p.1,d) else p) (a.map λp=>if p.1=k then(p.1,v) else p)
 | [],_,h=>by cases h;rfl
 | (k',_)::_,_,#[u,t,e,h,hs]=>by
   subst e
   erw[QDq]
   by_cases c:k'=k
   · erw[c,if_true];exact#[v,_,L,r,cg.mapP r hs]
   · erw[c,if_false];exact#[u,_,L,h,cg.mapP r hs]
def cg.put{l:List (Key×D)}{a:List (Key×V)}{k:Key}{d:D}{v:V}(h:cg M ρ H l a)(r:Rel M ρ H d v):cg M ρ H (putD l k d) (putK a k v):=by
 unfold putD putK
 rw[h.any k]
 split
 ·exact h.mapP r
 ·exact h.append #[v,[],L,r,L]
theorem cg.merge:∀{m:List (Key×D)} {kw:List (Key×V)} {l:List (Key×D)} {a:List (Key×V)},cg M ρ H m kw->cg M ρ H l a->cg M ρ H (fQ l m) (jf a kw)
 | [],_,_,_,h,h'=>by cases h;exact h'
 | (k,d)::m,_,_,_,#[v,t,e,h,hs],h'=>by
   subst e
   unfold fQ jf
   rw[List.foldl_cons,List.foldl_cons]
   exact cg.merge (m:=m) (kw:=t) hs (h'.put h)
theorem cg.zip:∀{a:List Key} {ds:List D} {vs:List V},bb M ρ H ds vs->cg M ρ H (a.zip ds) (a.zip vs)
 | [],_,_,_=>rfl
 |_::_,_,_,.nil=>rfl
 |k::a,_,_,.cons h hs=>#[_,_,L,h,cg.zip hs]
theorem cg.val:∀{l:List (Key×D)} {a:List (Key×V)} {k:Key} {d:D},cg M ρ H l a->eA l k=some d->∃v,mT a k=some v/\Rel M ρ H d v
 | [],_,_,_,_,e=>by cases e
 | (k',d')::_,_,k,d,#[v,t,e,h,hs],e'=>by
   subst e
   unfold eA at e'
   unfold mT
   rw[List.find?_cons] at e'|-
   by_cases c:k'=k
   · erw[c,decide_true] at e'|-
     cases e'
     exact#[v,L,h]
   · erw[c,decide_false] at e'|-
     exact cg.val hs e'
theorem cg.noval:∀{l:List (Key×D)} {a:List (Key×V)} {k:Key},cg M ρ H l a->eA l k=none->mT a k=none
 | [],_,_,h,_=>by cases h;rfl
 | (k',d')::_,_,k,#[v,t,e,h,hs],e'=>by
   subst e
   unfold eA at e'
   unfold mT
   rw[List.find?_cons] at e'|-
   by_cases c:k'=k
   · erw[c,decide_true] at e';cases e'
   · erw[c,decide_false] at e'|-
     exact cg.noval hs e'
def cg.ext'{a:X7}{b:Hp}{l:List (Key×D)}{c:List (Key×V)}(h:cg M ρ H l c)(e:bQ ρ H a b):cg M a b l c:=h.imp λ_ _ r=>r.ext e
def cg.pre'{a:X7}{l:List (Key×D)}{b:List (Key×V)}(h:cg M ρ H l b)(e:ρ <+: a):cg M a H l b:=h.imp λ_ _ r=>r.pre e
end
section
variable{X:Cx}{a b c e:Expr}{pos:Pos}{st:Stmt}
def Nr{M:Md}{ρ d:X7}{H h:Hp}{S':aH}{l:List (Key×D)}{j:List (Key×V)}{p:X8}{Q:VK}(x:bQ ρ H d h)(st:gy M d S' h)(k:h p=none)(r:cg M d h l j)
  (q:∀f v g,bQ ρ H f g->gy M f (S'++ [.dct l]) g->Rel M f g (.ref S'.length) v->Q v g):Q (.ref p) (upd h p (.dK j)):=by
 have s:p∉d:=cn x st k
 have n:bQ d h d (upd h p (.dK j)):=bQ.laid k
 let m:=(st.lay (u:=.dK j) k).box (o:=.dct l) s #[j,bg,(r.ext' n).pre' (List.prefix_append _ _)]
 refine q (d++ [p]) (.ref p) _ #[x.pre.trans (List.prefix_append _ _),λc i=>?_,(x.trans n).keep,(x.trans n).grow] m (.ref ?_)
 ·rcases mQa.mp i with i|i
  ·exact x.new c i
  ·rw[Qfq] at i;subst i;exact .inr (x.grow _ k)
 ·rw[<-st.len,QQq (Qmq _)]
  simp
def yZ(f g:bc):bc:=λi S=>(f i S).bind λ(x,j)=>(g i j).bind λ(y,h)=>match x with
 | .ref k=>match h[k]? with
   |some (.dct l)=>(CK y).bind λm=>(eA l m).bind λd=>some (d,h)
   |_=>none
 |_=>none
def fk{f g:bc}(M:X.A.units+1<cLine)(o:PE X a (tD (md X) f))(w:PE X b (tD (md X) g))(n:Ed b):PE X (.Subscript a b pos) (tD (md X) (yZ f g)):=gX (Fl M o w n) λσ H Q J=>by
 let#[K,p,S,d,S',ok,e,q]:=J
 let#[#[x,s],R,e]:=ar e
 let#[#[y,I],F,e]:=ar e
 cases x with
 | ref k=>
   dsimp only at e
   split at e
   · rename_i l n
     let#[Y,U,e]:=ar e
     let#[d',W,e]:=ar e
     let#[rfl,rfl]:=bI e
     refine#[K,p,S,_,s,ok,R,λm Z H1 t j i=>#[m,p,s,y,I,ok.to t j,F,λz v2 H2 r h P=>?_]]
     cases Bo P U
     let i:=i.ext r
     cases i with
     | ref o=>
       let#[kv,C,u]:=h.obj k _ _ o n
       let#[v,N,B]:=u.val W
       exact#[_,v,L,by rw[<-N];exact we.k C,q _ _ _ (t.trans r) h B]
   · cases e
 |_=>cases e
mutual
theorem Rel.offK{M:Md}{ρ:X7}{H:Hp}{b:X8}{g:List (Key×V)}{o:HO}(f:H b=some (.dK g)):∀{d:D} {v:V},Rel M ρ H d v->Rel M ρ (upd H b o) d v
 |_,_,.non=>.non
 |_,_,.bl x=>.bl x
 |_,_,.int i=>.int i
 |_,_,.str x=>.str x
 |_,_,.tup h hs=>.tup (by rw[a7 (GX h f (by intro z;cases z))];exact h) (bb.offK f hs)
 |_,_,.ref h=>.ref h
 |_,_,.fn h=>.fn h
 |_,_,.mt h1 h2 h3 h4 h5=>.mt h1 h2 h3 h4 h5
theorem bb.offK{M:Md}{ρ:X7}{H:Hp}{b:X8}{f:List (Key×V)}{o:HO}(d:H b=some (.dK f)):∀{ds:List D} {vs:List V},bb M ρ H ds vs->bb M ρ (upd H b o) ds vs
 |_,_,.nil=>.nil
 |_,_,.cons h hs=>.cons (Rel.offK d h) (bb.offK d hs)
end
end
end DL
namespace L2
open PySem PySem.Spec PyProof.Rows
end L2
namespace DL
open PySem PySem.Spec PyProof.Rows L2
end DL
namespace Zp
open PySem PySem.W PyProof.Rows
end Zp
namespace L2
open PySem PySem.Spec PyProof.Rows
end L2
namespace DL
open PySem PySem.Spec PyProof.Rows L2
def t6(a b:Str):Prop:=¬(b.cps.toList<a.cps.toList)
instance(a b:Str):Decidable (t6 a b):=by unfold t6;infer_instance
def Cz(a b:Str):t6 a b\/t6 b a:=by
 by_cases h:b.cps.toList<a.cps.toList
 ·exact .inr λc=>List.lt_asymm h c
 ·exact .inl h
def vJ{a b c:Str}(e:t6 a b)(d:t6 b c):t6 a c:=by
 unfold t6 at *
 rw[List.not_lt] at *
 exact List.le_trans e d
def zg{a b:Str}(c:t6 a b)(d:t6 b a):a=b:=by
 unfold t6 at *
 rw[List.not_lt] at *
 have:=List.le_antisymm c d
 cases a
 cases b
 erw[Str.mk.injEq]
 exact Array.toList_inj.mp this
def Aw(x:Str):List Str->List Str
 | []=> [x]
 |y::r=>if t6 x y then x::y::r else y::Aw x r
def gG:List Str->List Str
 | []=> []
 |x::r=>Aw x (gG r)
theorem o_(x:Str):∀l:List Str,(Aw x l).Perm (x::l)
 | []=>List.Perm.refl _
 | y::r=>by
   unfold Aw
   split
   · exact List.Perm.refl _
   · exact((o_ x r).cons y).trans (List.Perm.swap _ _ _)
theorem gq:∀l:List Str,(gG l).Perm l
 | []=>List.Perm.refl _
 |x::r=>(o_ x _).trans ((gq r).cons x)
theorem qD{x:Str}:∀{l:X6},l.Pairwise t6->(Aw x l).Pairwise t6
 | [],_=>by simp[Aw]
 | y::r,h=>by
   rw[List.pairwise_cons] at h
   unfold Aw
   split
   · rename_i c
     refine List.pairwise_cons.mpr #[λz a=>?_,List.pairwise_cons.mpr h]
     rcases Qsq.mp a with rfl|a
     · exact c
     · exact vJ c (h.1 z a)
   · rename_i c
     refine List.pairwise_cons.mpr #[λz a=>?_,qD h.2]
     rcases Qsq.mp ((o_ x r).mem_iff.mp a) with rfl|a
     · exact(Cz _ _).resolve_left c
     · exact h.1 z a
theorem i8:∀l:List Str,(gG l).Pairwise t6
 | []=>List.Pairwise.nil
 |x::r=>qD (i8 r)
def wM:∀{l:X6},sortedS l=true->l.Pairwise t6
 | [],_=>List.Pairwise.nil
 | x::r,h=>by
   have e:∀(r:X6) (x:Str),risingS x r=true->(x::r).Pairwise t6:=by
     intro r
     induction r with
     |nil=>intro x _;simp
     | cons y r d=>
       intro x h
       unfold risingS at h
       erw[QCq] at h
       let c:=d y h.2
       have b:t6 x y:=by
         have:=h.1
         unfold t6
         rw[ltCps_eq] at this
         simpa using this
       refine List.pairwise_cons.mpr #[λz a=>?_,c]
       rcases Qsq.mp a with rfl|a
       · exact b
       · exact vJ b ((List.pairwise_cons.mp c).1 z a)
   exact e r x h
def uS{out ss:X6}(h:sortedS out=true)(p:out.Perm ss):out=gG ss:=
 List.Perm.eq_of_pairwise (le:=t6) (λa b _ _ d c=>zg d c) (wM h) (i8 ss) (p.trans (gq ss).symm)
end DL
namespace L2
open PySem PySem.Spec PyProof.Rows
end L2
namespace DL
open PySem PySem.Spec L2
section
variable{X:Cx}{a b e:Expr}{pos:Pos}
def nS:List D->Option (List Str)
 | []=>some []
 |.str x::r=>(nS r).bind λc=>some (x::c)
 |_::_=>none
theorem sR{M:Md}{ρ:X7}{H:Hp}:∀{ds:List D} {vs:List V} {xs:X6},bb M ρ H ds vs->nS ds=some xs->vs=xs.map V.str
 | [],_,_,h,e=>by cases h;cases e;rfl
 | d::ds,_,_,h,e=>by
   cases d with
   | str b=>
     erw[nS] at e
     let#[f,c,e]:=ar e
     cases e
     cases h with
     | cons h g=>
       cases h
       rw[sR g c]
       rfl
   |_=>cases e
theorem pX{M:Md}{ρ:X7}{H:Hp}:∀ss:List Str,bb M ρ H (ss.map D.str) (ss.map V.str)
 | []=>.nil
 |s::ss=>.cons (.str s) (pX ss)
def AM(f:eF):fF:=λg S=>(f g S).bind λ(p,d)=>if p.2.isL=true then(nS p.1).bind λc=>if c.length<64 then some ((gG c).map D.str,d) else none else none
def DF{f:eF}{p:Pos}(o:Gl X "sorted")(C:X.mg "sorted"=none)(I:PE X a (tQ (md X) f))(i:autoParam (starEach [a] X.env= [(false,eval a X.env)]) af._auto_1):
  PE X (.Call (.Name "sorted" p) [a] [] pos) (tL (md X) (AM f)):=
 gX (eM wQ o C PyProof.Rows.boot_sorted (dE I fN i) (he:=i)) λM H Q z=>by
  let#[A,B,S,d,N,ok,e,q]:=z
  let#[#[#[v,t],J],F,e]:=ar e
  dsimp only at e
  split at e
  ·rename_i c
   let#[m,w,e]:=ar e
   split at e
   ·rename_i y
    let#[rfl,rfl]:=bI e
    refine#[A,B,S,v,t,J,ok,F,λn a K P x j h r=>#[a,m,L,?_,y,λl s g u k=>?_]]
    ·rw[<-sR r w];exact h.sqL c
    ·cases uS u k
     exact q _ _ _ _ (x.trans (bQ.laid g)) (j.lay g) (x.grow _ g) (cn x j g) bg (pX _)
   ·cases e
  ·cases e
end
def rP{P:X9}{w:Xc}{K:X1}{mg:X3}{base:Xe}{f:X8}{c:FuncData}{ps:X6}{k n:Nat}:bP P w K mg base eH k f c ps (fE #[K,mg,w] n λ_ _=>none):=
 {len:=λd H Q E h=>by
   let#[_,_,_,_,_,_,_,_,e,_]:=h
   cases e
  run:=λA a s H b g d Q E _ _ _ _ h=>by
   let#[_,_,_,_,_,_,_,_,e,_]:=h
   cases e}
end DL
namespace Zq
open PySem PyProof.Rows
end Zq
namespace L2
open PySem PyProof.Rows Zq
end L2
namespace DL
open PySem PySem.Spec L2
section
variable{X:Cx}{a b c e:Expr}{pos:Pos}
def h_(o o':ni)(f g h:bc):bc:=λj S=>(f j S).bind λ(x,l)=>(g j l).bind λ(y,i)=>(o i x y).bind λd=>match d with
 |.bl true=>(h j i).bind λ(z,k)=>(o' k y z).bind λm=>some (m,k)
 |.bl false=>some (.bl false,i)
 |_=>none
def AK{r F:R2}{o o':ni}{f g h:bc}(W:gA (md X) r o)(u:gA (md X) F o'):∀C H Q,tD (md X) (h_ o o' f g h) C H Q->zO r F (tD (md X) f) (tD (md X) g) (tD (md X) h) C H Q:=λC H Q qq=>by
 let#[ρ,B,S,d,S',ok,e,q]:=qq
 let#[#[x,N],e1,e]:=ar e
 let#[#[y,K],Y,e]:=ar e
 let#[d1,e3,e]:=ar e
 refine#[ρ,B,S,x,N,ok,e1,λA v H1 n i R=>#[A,B,N,y,K,ok.to n i,Y,λt w H2 m k M=>?_]]
 refine W k (R.ext m) M e3 λw' H3 l j I=>?_
 dsimp only at e
 split at e
 ·cases I
  let#[#[z,S3],e4,e]:=ar e
  let#[d2,P,e]:=ar e
  let#[rfl,rfl]:=bI e
  refine#[true,L,?_]
  rw[Qhq L]
  refine#[t,B,K,z,S3,((ok.to n i).to m k).to l j,e4,λa0 v4 H4 J s U=>?_]
  exact u s ((M.ext l).ext J) U P λv5 H5 x5 p Z=>q _ _ _ ((((n.trans m).trans l).trans J).trans x5) p Z
 ·cases I
  let#[rfl,rfl]:=bI e
  refine#[false,L,?_]
  rw[Quq (!1)]
  exact q _ _ _ ((n.trans m).trans l) j (.bl false)
 ·cases e
def wL{i d:CmpOp}{r l:R2}{o o':ni}{f g h:bc}(n:hJ X (compareOp i) r)(m:gA (md X) r o)(k:hJ X (compareOp d) l)(j:gA (md X) l o')(p:PE X a (tD (md X) f))(s:PE X b (tD (md X) g))(t:PE X c (tD (md X) h))(q:autoParam (lastMarks [i,d] [b,c]=false) ah._auto_1):
  PE X (.Compare a [i,d] [b,c] pos) (tD (md X) (h_ o o' f g h)):=gX (Es n k p s t q) (AK m j)
def Bx{i d:CmpOp}{r l:R2}{o o':ni}{f g h:bc}(n:hJ X (compareOp i) r)(m:gA (md X) r o)(k:hJ X (compareOp d) l)(j:gA (md X) l o')(p:PE X a (tD (md X) f))(s:PE X b (tD (md X) g))(t:PE X c (tD (md X) h))(q:autoParam (lastMarks [i,d] [b,c]=false) ah._auto_1):
  PT X (.Compare a [i,d] [b,c] pos) (tB (md X) (bw (h_ o o' f g h))):=sv (AK m j) (ED n k p s t q)
end
def zD(w:Xc)(x:Str):PyData.keyHash w.params x=hashStr w x:=by
 unfold PyData.keyHash hashStr
 first|rfl|simp
def yL:Sp:=λc H Q _=>∃(a:X8) (b:List Int) (o:Obj),c= [.ref a]/\H a=some (.frz o (.lst (b.map V.int)))/\b.length<=63/\∀d,Q (.bl true) d
theorem uR{M:Md}{ρ:X7}{H:Hp}:∀ns:List Int,bb M ρ H (ns.map D.int) (ns.map V.int)
 | []=>.nil
 |s::ss=>.cons (.int s) (uR ss)
def FW{P:X9}{w:Xc}{K:X1}{mg:X3}{base:Xe}{k:Nat}{f:X8}{c:FuncData}{ps:X6}{F:eG}(G:bP P w K mg base eH k f c ps (fE #[K,mg,w] 1 F))
  (h:∀ns:List Int,ns.length<=63->∃S',F [.ref 0] [.frz (ns.map D.int)]=some (.d (.bl true),S')):bP P w K mg base eH k f c ps yL:=
 G.imp λs H Q E l=>by
  let#[a,ns,o,e,n,m,q]:=l
  subst e
  let#[S',e]:=h ns m
  refine#[[a],[.frz (ns.map D.int)],[.ref 0],_,S',L,.cons (.ref L) .nil,#[L,by simp,λk b t g i=>?_],e,λj v p x u r=>?_]
  ·cases k with
   |zero=>cases g;cases i;exact#[_,o,n,uR ns]
   |succ k=>simp at g
  ·cases r
   exact q p
def zw(K:X1):Bool:=K.all λp=>match p.2.data with|.seq _ _=>(match p.2.cls with|.type s=>s !="list" |_=>true)|_=>true
def BV{K:X1}(h:zw K=true){a:X8}{o:Obj}(e:K.lookup a=some o){f:Xa}{n:Nat}(i:o.data=.seq f n):o.cls≠.type "list":=by
 intro l
 have d:∀(K:X2),K.all (λp=>match p.2.data with|.seq _ _=>(match p.2.cls with|.type s=>s !="list" |_=>true)|_=>true)=true->K.lookup a=some o->False:=by
  intro K
  induction K with
  |nil=>intro _ e;cases e
  | cons p K k=>
    intro h e
    rw[List.all_cons,QCq] at h
    let#[b,q]:=p
    rw[List.lookup_cons] at e
    by_cases c:a=b
    · subst c
      erw[BEq.rfl] at e
      cases e
      let g:=h.1
      erw[i,l] at g
      simp at g
    · have j:(a==b)=false:=by simpa using c
      rw[j] at e
      exact k h.2 e
 exact d K h e
def Mq{K:X1}{H:Hp}{a:X8}{ns:List Int}(b:zw K=true)(c:ns.length<=63)(e:Gz H)(d:iD K H a (ns.map V.int)):yL [.ref a] H (λv _=>v=.bl true) λ_ _ _=>False:=by
 rcases d with(h|⟨o,h⟩)|⟨o,its,n,h,hc,_,hd,_⟩
 ·rcases e a with z|⟨o,f,z⟩
  ·rw[h] at z;cases z
  ·rw[h] at z;cases z
 ·exact#[a,ns,o,L,h,c,λ_=>rfl]
 ·exact absurd hc (BV b h hd)
def Mg{l:PySem.W.OpenLaw}{q:X9}{b:X6}{j:(Str->Option Value)->Heap->Prop}{i:World->Heap->Prop}{d:DefRec}{K:Params->PySem.W.Frag}{k:Nat}(t:l.most=some 63)(c:d.params.defaults= [])(r:ed k PySem.callerA)
  (o:∀(w:Xc) (h:Xe),i w h->(K w.params).In h) (v:∀w:World,zw (K w.params)=true)
  (F:∀(w:Xc) (mg:X3) (g:X8) (h:Xe),(K w.params).In h->h.Ns mainGlobals mg->mg d.name=some (.ref g)->
   ∃e:FuncData,(∀(s:X4) (u:Xd),BindsTo s e #[[u],[]] [("_law_script",u)])/\∀base:Heap,(K w.params).In base->base.Ns mainGlobals mg->bP l.prog w (K w.params) mg base eH k g e ["_law_script"] yL):
  PySem.W.WalkO q b j i l.row.toRowW d [] (λf vs=>PySem.call f vs):=
 L2.GK (n:=63) (k:=k) (x:="_law_script") (CX:=λ_=>eH) (sp:=λ_=>yL) t (!1) c r o F (λw H a A p m y=>Mq (v w) p m y) λ_ _ _ _ _ z=>z
end DL
namespace DL
open PySem PySem.Spec L2 PyProof.Rows
section
variable{X:Cx}{x:Str}{e:Expr}{f:bc}{pos pos':Pos}
def df(i:Nat)(c:X.N.Nodup)(he:PE X e (tD (md X) f))(hi:autoParam (X.N[i]?=some x) af._auto_1)(d:autoParam (Loc X.env.scope x) ak._auto_1)(b:autoParam (swapsWith e (some (.Name x pos')) pos.line X.env=pure false) af._auto_1)
  (a:autoParam (X.fn x=true\/X.env.scope.names.lookup x=some .local) ab._auto_1):PS X (.Assign [.Name x pos'] e pos) (tS (md X) (cf i f)):=L3 (JU c hi d he b a)
def EO(i:Nat)(b:X.N.Nodup)(hi:autoParam (X.N[i]?=some x) af._auto_1)(c:autoParam (Loc X.env.scope x) ak._auto_1)(a:autoParam (X.fn x=true\/X.env.scope.names.lookup x=some .local) ab._auto_1):PG X (.Name x pos) (uY i):=xu b hi c a
def dz(i:Nat)(b:X.N.Nodup)(hi:autoParam (X.N[i]?=some x) af._auto_1)(c:autoParam (Loc X.env.scope x) ak._auto_1)(a:autoParam (X.fn x=true\/X.env.scope.names.lookup x=some .local) ab._auto_1):PG X (.Name x pos) (tG (md X) (cW i)):=E6 (xu b hi c a)
def cY{N:X6}{a:Scope}{b:List (Str×Addr)}{C:X8}{s:X4}{H:Hp}{fp:X7}(i:Nat)(g:autoParam (N.Nodup) am._auto_1)(hi:autoParam ((aP X N a b C s H fp).N[i]?=some x) af._auto_1)(d:autoParam (Loc (aP X N a b C s H fp).env.scope x) ak._auto_1)
  (c:autoParam ((aP X N a b C s H fp).fn x=true\/(aP X N a b C s H fp).env.scope.names.lookup x=some .local) ab._auto_1):PG (aP X N a b C s H fp) (.Name x pos) (tG (md (aP X N a b C s H fp)) (cW i)):=E6 (xu g hi d c)
def v_(i:Nat)(c:autoParam (X.N[i]?=some x) af._auto_1)(hv:autoParam (HU X.env.scope x) ai._auto_1)(b:autoParam ((x==("__debug__":Str))=false) ac._auto_1)(a:autoParam ((x==("__classdict__":Str))=false) ac._auto_1):PE X (.Name x pos) (tD (md X) (ax i)):=Kp (pv i c hv b a)
end
section
variable{X:Cx}{x:Str}{k k':Nat}{ps:X6}{F:eG}{e:Expr}{es:List Expr}{g:fF}{p pos:Pos}
def aZ(C:fK X.prog X.w X.K X.mg X.base k x ps F)(d:ed k' X.A)(c:PA X (e::es) (xW (md X) g))(b:autoParam (k<=k') ao._auto_1)(f:autoParam (Gl X x) af._auto_1)
  (h:autoParam (nA ps.length g) ap._auto_1)
  (a:autoParam ((x==("__debug__":Str))=false) ac._auto_1) (he:autoParam (starEach (e::es) X.env=(false,eval e X.env)::starEach es X.env) af._auto_1) (hpl:autoParam ((backTo pos (starEach es X.env)).any (·.1)=false) af._auto_1):
  PE X (.Call (.Name x p) (e::es) [] pos) (tD (md X) (aF F g)):=L4 C (d.mono b) f c h a he hpl
def jX(C:fK X.prog X.w X.K X.mg X.base k x ps F)(d:ed k' X.A)(c:PA X (e::es) (xW (md X) g))(b:autoParam (k<=k') ao._auto_1)(f:autoParam (Gl X x) af._auto_1)
  (h:autoParam (nA ps.length g) ap._auto_1)
  (a:autoParam ((x==("__debug__":Str))=false) ac._auto_1) (he:autoParam (starEach (e::es) X.env=(false,eval e X.env)::starEach es X.env) af._auto_1) (hpl:autoParam ((backTo pos (starEach es X.env)).any (·.1)=false) af._auto_1):
  PE X (.Call (.Name x p) (e::es) [] pos) (tL (md X) (dq F g)):=Ln C (d.mono b) f c h a he hpl
end
def g_{N P:X6}{h:Scope}(a:autoParam (h.kind=.function) af._auto_1)(b:autoParam (h.isCoroutine=false) af._auto_1)(c:autoParam (h.isGenerator=false) af._auto_1)(d:autoParam (N.Nodup) am._auto_1)(e:autoParam (N.take P.length=P) af._auto_1)
  (f:autoParam (∀x∈P,h.names.lookup x=some .local\/h.names.lookup x=some .cell) am._auto_1) (g:autoParam (∀y∈h.names,y.2≠.free) am._auto_1):aM N P h:=#[a,b,c,d,e,f,g]
structure bC(K:X1)(x:Str)(st:Stmt)(f:X8):Prop where
 ex:∃(oc:Xd) (od:Option Addr) (kV dc pm:Xd) (an:Option Addr) (cd ct:Xd) (sl:Array (Option Value)),PySem.W.nsIn K mainGlobals x=some (some (.ref f))∧
  K.lookup f=some #[oc,od,.func (PySem.W.fnOf x x (gN st) (eQ st) (aD st) .none kV dc pm an cd ct),sl]/\PySem.W.codeIn K cd x=true/\PySem.W.keepIn K (.ref f)=true
def bC.of{K:X1}{x:Str}{st:Stmt}{f:X8}{h:Xd}{od:Option Addr}{kV g e:Xd}{d:Option Addr}{b ct:Xd}{sl:Array (Option Value)}(a:PySem.W.nsIn K mainGlobals x=some (some (.ref f)))
  (l:K.lookup f=some #[h,od,.func (PySem.W.fnOf x x (gN st) (eQ st) (aD st) .none kV g e d b ct),sl]) (c:PySem.W.codeIn K b x=true) (k:PySem.W.keepIn K (.ref f)=true):bC K x st f:=#[h,od,kV,g,e,d,b,ct,sl,a,l,c,k]
structure MT(K:X1)(mg:X3)(x:Str)(st:Stmt)(ps:X6)(f:X8):Prop where
 ex:∃fd,fI K x x st f fd/\Binds K fd ps []/\PySem.W.keepIn K (.ref f)=true
 m:mg x=some (.ref f)
noncomputable abbrev zlz(ps:List PySem.Str):(List PySem.Value->Prop)->Prop:=List.rec (motive:=fun _=>(List PySem.Value->Prop)->Prop) (fun P=>P []) (fun _ _ r P=>∀a,r fun u=>P (a::u)) ps
theorem zlf:∀{ps:List PySem.Str}{P:List PySem.Value->Prop},zlz ps P->∀us:List PySem.Value,us.length=ps.length->P us:=by
 intro ps
 induction ps with
 |nil=>intro P h us e;exact List.eq_nil_of_length_eq_zero e▸h
 |cons p ps ih=>
  intro P h us e
  cases us with
  |nil=>cases e
  |cons a us=>exact ih (P:=fun u=>P (a::u)) (h a) us (Nat.succ.inj e)
def bC.ok1{K:X1}{mg:X3}{x:Str}{st:Stmt}{ps:X6}{f:X8}{h:Xe}(D:bC K x st f)(X:K.In h)(G:h.Ns mainGlobals mg)
  (k:autoParam (∀(kV d e:Xd) (j:Option Addr) (c ct:Xd),zlz ps fun a:X5=>bindArgs (PySem.W.fnOf x x (gN st) (eQ st) (aD st) .none kV d e j c ct) #[a,[]]=pure (ps.zip a)) aT._auto_1):MT K mg x st ps f:=by
 let#[o,q,kV,n,e,j,p,ct,sl,l,g,i,b]:=D.ex
 exact#[#[_,Ap g i b,(Ap g i b).binds (λkV d e j c ct=>zlf (k kV d e j c ct)),b],PySem.W.mg_of X G l]
structure Pk(P:X9)(w:Xc)(base:Xe):Prop where
def MT.cal{P:X9}{w:Xc}{base:Xe}{K:X1}{mg:X3}{x:Str}{st:Stmt}{ps:X6}{f:X8}{k:Nat}{F:eG}(O:MT K mg x st ps f)(Z:Pk P w base)
  (h:∀a,fI K x x st f a->Binds K a ps []->PySem.W.keepIn K (.ref f)=true->mg x=some (.ref f)->bP P w K mg base eH k f a ps (fE #[K,mg,w] ps.length F)):fK P w K mg base k x ps F:=by
 let#[a,d,b,c]:=O.ex
 exact#[f,a,h a d b c O.m,b,c,O.m]
end DL
namespace DL
open PySem PySem.Spec L2
def E{α:Type}(f:cI->aH->Option (α×aH))(c:cI)(S:aH)(Q:α->aH->Prop):Prop:=∃a b,f c S=some (a,b)/\Q a b
def T(f:dr)(a:cI)(S:aH)(Q:Out->Prop):Prop:=∃o,f a S=some o/\Q o
def Fn(F:eG)(ds:List D)(S:aH)(Q:Res->aH->Prop):Prop:=∃r a,F ds S=some (r,a)/\Q r a
def Tg(g:kA)(d:D)(c:cI)(S:aH)(Q:cI->aH->Prop):Prop:=∃a b,g d c S=some (a,b)/\Q a b
def Mv(g:rE)(d:List D)(c:cI)(S:aH)(Q:cI->aH->Prop):Prop:=∃a b,g d c S=some (a,b)/\Q a b
def Op{α:Type}(o:Option α)(Q:α->Prop):Prop:=∃d,o=some d/\Q d
section
variable{Γ:cI}{S:aH}
def E.mono{α:Type}{f:cI->aH->Option (α×aH)}{Q R:α->aH->Prop}(h:E f Γ S Q)(i:∀a S,Q a S->R a S):E f Γ S R:=by
 let#[a,b,e,q]:=h
 exact#[a,b,e,i _ _ q]
def T.mono{f:dr}{Q R:Out->Prop}(h:T f Γ S Q)(i:∀o,Q o->R o):T f Γ S R:=by
 let#[a,e,q]:=h
 exact#[a,e,i _ q]
def av{i:Nat}{d:D}{Q:D->aH->Prop}(h:Γ[i]?=some (some d))(q:Q d S):E (ax i) Γ S Q:=#[d,S,by unfold ax;rw[h],q]
def bM{d:D}{Q:D->aH->Prop}(q:Q d S):E (cF d) Γ S Q:=#[d,S,L,q]
def aI{Q:List D->aH->Prop}(q:Q [] S):E az Γ S Q:=#[[],S,L,q]
def ay{f:bc}{g:fF}{Q:List D->aH->Prop}(h:E f Γ S λd b=>E g Γ b λds a=>Q (d::ds) a):E (au f g) Γ S Q:=by
 let#[d,b,c,ds,a,e,q]:=h
 exact#[_,_,by unfold au;rw[c];erw[Qbq];rw[e];rfl,q]
def a_{o:ni}{f g:bc}{Q:D->aH->Prop}(h:E f Γ S λx b=>E g Γ b λy a=>Op (o a x y) λd=>Q d a):E (bo o f g) Γ S Q:=by
 let#[x,b,c,y,a,i,d,e,q]:=h
 exact#[d,a,by unfold bo;rw[c];erw[Qbq];rw[i];erw[Qbq];rw[e];rfl,q]
def dR{f:fF}{Q:D->aH->Prop}(h:E f Γ S λds a=>ds.length<=sizeLine/\Q (.tup ds) a):E (cm f) Γ S Q:=by
 let#[ds,a,b,l,q]:=h
 exact#[_,_,by unfold cm;rw[b];erw[Qbq];rw[Qhq l],q]
def ki{f:fF}{Q:List D->aH->Prop}(h:E f Γ S λds a=>ds.length<=sizeLine/\Q ds a):E (bJ f) Γ S Q:=by
 let#[ds,a,b,l,q]:=h
 exact#[_,_,by unfold bJ;rw[b];erw[Qbq];rw[Qhq l],q]
def iM{f:fF}{Q:D->aH->Prop}(h:E f Γ S λds a=>Q (.ref a.length) (a++ [.lst ds])):E (bR f) Γ S Q:=by
 let#[ds,a,b,q]:=h
 exact#[_,_,by unfold bR;rw[b];rfl,q]
def MU{o:J7}{f:fF}{Q:D->aH->Prop}(h:E f Γ S λds a=>Op (o ds) λd=>Q d a):E (Aa o f) Γ S Q:=by
 let#[ds,a,b,d,c,q]:=h
 exact#[d,a,by unfold Aa;rw[b];erw[Qbq];rw[c];rfl,q]
def bq{f:bc}{Q:(List D×Tag)->aH->Prop}(h:E f Γ S λd a=>Op (mS a d) λp=>Q p a):E (aY f) Γ S Q:=by
 let#[e,a,b,d,c,q]:=h
 exact#[d,a,by unfold aY;rw[b];erw[Qbq];rw[c];rfl,q]
def mW{f:fF}{Q:(List D×Tag)->aH->Prop}(h:E f Γ S λds a=>Q (ds,.fr) a):E (eo f) Γ S Q:=by
 let#[ds,a,b,q]:=h
 exact#[_,a,by unfold eo;rw[b];rfl,q]
def fJ{f:eF}{Q:D->aH->Prop}(h:E f Γ S λp a=>Q (.int p.1.length) a):E (gQ f) Γ S Q:=by
 let#[p,a,b,q]:=h
 exact#[_,a,by unfold gQ;rw[b];rfl,q]
def C8{f:eF}{Q:D->aH->Prop}(h:E f Γ S λp a=>Q (.tup p.1) a):E (tupQ f) Γ S Q:=by
 let#[p,a,b,q]:=h
 exact#[_,a,by unfold tupQ;rw[b];rfl,q]
def Kg{f:eF}{Q:(List D×Tag)->aH->Prop}(h:E f Γ S λp a=>p.2.isL=true/\Q p a):E (fV f) Γ S Q:=by
 let#[p,a,b,l,q]:=h
 exact#[_,a,by unfold fV;rw[b];erw[Qbq];rw[Qhq l],q]
def F3{f:eF}{Q:D->aH->Prop}(h:E f Γ S λp a=>(p.2.isL=true/\p.2.stays a p.1)/\Q (.bl (!p.1.isEmpty)) a):E (dZ f) Γ S Q:=by
 let#[p,a,b,l,q]:=h
 exact#[_,a,by unfold dZ;rw[b];erw[Qbq];rw[Qhq l],q]
def aS{F:eG}{g:fF}{Q:D->aH->Prop}(h:E g Γ S λds b=>Fn F ds b λr a=>match r with|.d x=>Q x a|.l _=>False):E (aF F g) Γ S Q:=by
 let#[ds,b,c,r,a,e,q]:=h
 cases r with
 |d x=>exact#[x,a,by unfold aF;rw[c];erw[Qbq];rw[e];rfl,q]
 |l x=>exact q.elim
def fY{F:eG}{g:fF}{Q:List D->aH->Prop}(h:E g Γ S λds b=>Fn F ds b λr a=>match r with|.d _=>False|.l x=>Q x a):E (dq F g) Γ S Q:=by
 let#[ds,b,c,r,a,e,q]:=h
 cases r with
 |d x=>exact q.elim
 |l x=>exact#[x,a,by unfold dq;rw[c];erw[Qbq];rw[e];rfl,q]
def bj{f:bc}{Q:Bool->aH->Prop}(h:E f Γ S λd a=>match d with|.bl k=>Q k a|_=>False):E (bw f) Γ S Q:=by
 let#[d,a,b,q]:=h
 cases d with
 |bl k=>exact#[k,a,by unfold bw;rw[b];rfl,q]
 |_=>exact q.elim
def bH{f:bc}{Q:Bool->aH->Prop}(h:E f Γ S λd a=>Op (Ai a d) λk=>Q k a):E (dI f) Γ S Q:=by
 let#[d,a,b,k,c,q]:=h
 exact#[k,a,by unfold dI;rw[b];erw[Qbq];rw[c];rfl,q]
def bF{f:iB}{Q:Bool->aH->Prop}(h:E f Γ S λk a=>Q (!k) a):E (ez f) Γ S Q:=by
 let#[k,a,b,q]:=h
 exact#[_,a,by unfold ez;rw[b];rfl,q]
def tU{f g:iB}{Q:Bool->aH->Prop}(h:E f Γ S λk a=>if k=true then E g Γ a Q else Q false a):E (xZ f g) Γ S Q:=by
 let#[k,a,b,q]:=h
 cases k with
 |true=>let#[j,c,d,q]:=(q:E g Γ a Q);exact#[j,c,by unfold xZ;rw[b];exact d,q]
 |false=>exact#[false,a,by unfold xZ;rw[b];rfl,q]
def fi{f g:iB}{Q:Bool->aH->Prop}(h:E f Γ S λk a=>if k=true then Q true a else E g Γ a Q):E (ue f g) Γ S Q:=by
 let#[k,a,b,q]:=h
 cases k with
 |true=>exact#[true,a,by unfold ue;rw[b];rfl,q]
 |false=>let#[j,c,d,q]:=(q:E g Γ a Q);exact#[j,c,by unfold ue;rw[b];exact d,q]
def Mi{c:iB}{f g:bc}{Q:D->aH->Prop}(h:E c Γ S λk a=>if k=true then E f Γ a Q else E g Γ a Q):E (DB c f g) Γ S Q:=by
 let#[k,a,e,q]:=h
 cases k with
 |true=>let#[j,b,d,q]:=(q:E f Γ a Q);exact#[j,b,by unfold DB;rw[e];exact d,q]
 |false=>let#[j,b,d,q]:=(q:E g Γ a Q);exact#[j,b,by unfold DB;rw[e];exact d,q]
def lV{i:Nat}{f:bc}{Q:Out->Prop}(h:E f Γ S λd a=>Q (.nx (Γ.set i (some d)) a)):T (cf i f) Γ S Q:=by
 let#[d,a,b,q]:=h
 exact#[_,by unfold cf;rw[b];rfl,q]
def cb{f:bc}{Q:Out->Prop}(h:E f Γ S λd a=>Q (.rt d a)):T (da f) Γ S Q:=by
 let#[d,a,b,q]:=h
 exact#[_,by unfold da;rw[b];rfl,q]
def E9{f:fF}{Q:Out->Prop}(h:E f Γ S λd a=>Q (.rl d a)):T (Js f) Γ S Q:=by
 let#[d,a,b,q]:=h
 exact#[_,by unfold Js;rw[b];rfl,q]
def DK{f:bc}{Q:Out->Prop}(h:E f Γ S λd a=>Q (.nx Γ a)):T (uv f) Γ S Q:=by
 let#[d,a,b,q]:=h
 exact#[_,by unfold uv;rw[b];rfl,q]
def cN{Q:Out->Prop}(q:Q (.nx Γ S)):T gM Γ S Q:=#[_,L,q]
def Jh{f:bc}{g:kA}{Q:Out->Prop}(h:E f Γ S λd c=>Tg g d Γ c λa b=>Q (.nx a b)):T (Fh f g) Γ S Q:=by
 let#[d,c,e,a,b,i,q]:=h
 exact#[_,by unfold Fh;rw[e];erw[Qbq];rw[i];rfl,q]
def aU{f g:dr}{Q:Out->Prop}(h:T f Γ S λo=>match o with|.nx a b=>T g a b Q|o=>Q o):T (aQ f g) Γ S Q:=by
 let#[o,c,q]:=h
 cases o with
 |nx a b=>let#[o,d,q]:=(q:T g a b Q);exact#[o,by unfold aQ;rw[c];exact d,q]
 |_=>exact#[_,by unfold aQ;rw[c];rfl,q]
def bO{c:iB}{f g:dr}{Q:Out->Prop}(h:E c Γ S λk a=>if k=true then T f Γ a Q else T g Γ a Q):T (gu c f g) Γ S Q:=by
 let#[k,a,d,q]:=h
 cases k with
 |true=>let#[j,b,q]:=(q:T f Γ a Q);exact#[j,by unfold gu;rw[d];exact b,q]
 |false=>let#[j,b,q]:=(q:T g Γ a Q);exact#[j,by unfold gu;rw[d];exact b,q]
def bu{i:Nat}{d:D}{Q:cI->aH->Prop}(q:Q (Γ.set i (some d)) S):Tg (cW i) d Γ S Q:=#[_,_,L,q]
def NW{f g:bc}{d:D}{Q:cI->aH->Prop}(h:E f Γ S λx b=>E g Γ b λy a=>∃k i ds j,x=.ref k/\y=.int i/\a[k]?=some (.lst ds)/\Ce ds.length i=some j/\Q Γ (a.set k (.lst (ds.set j d)))):Tg (Ke f g) d Γ S Q:=by
 let#[x,b,c,y,a,e,k,i,ds,j,rfl,rfl,h1,h2,q]:=h
 exact#[_,_,by unfold Ke;rw[c];erw[Qbq];rw[e];erw[Qbq,h1,h2],q]
def hV{i:qh}{g:kA}{b:dr}{Q:Out->Prop} (h:E i Γ S λp u=>∃I:Nat->cI->aH->Prop,I 0 Γ u/\(∀n a S',I n a S'->p.2 S')∧
   (∀(n:Nat) (d:D) (a:cI) (S':aH),p.1[n]?=some d->I n a S'->Tg g d a S' λs w=>T b s w λo=>match o with|.nx c e=>I (n+1) c e|.ct c e=>I (n+1) c e|.bk c e=>Q (.nx c e)|o=>Q o)∧
   ∀a S',I p.1.length a S'->Q (.nx a S')):T (ja i g b) Γ S Q:=by
 let#[#[m,W],u,A,I,z,v,f,l]:=h
 have C:∀(k n:Nat) (a:cI) (S':aH),n+k=m.length->I n a S'->∃o,forL g b W (m.drop n) a S'=some o/\Q o:=by
  intro k
  induction k with
  | zero=>
    intro n a S' x r
    rw[List.drop_of_length_le (!0)]
    refine#[.nx a S',by erw[forL];rw[Qhq (v _ _ _ r)],l _ _ (by rw[<-x];exact r)]
  | succ k y=>
    intro n a S' x r
    have j:n<m.length:=by omega
    rw[QWq j]
    let#[s,w,t,o,B,q]:=f n m[n] a S' (gQe j) r
    erw[forL]
    rw[Qhq (v _ _ _ r),t]
    erw[Qbq]
    rw[B]
    erw[Qbq]
    cases o with
    |nx c e=>exact y (n+1) c e (!0) q
    |ct c e=>exact y (n+1) c e (!0) q
    |bk c e=>exact#[_,L,q]
    |rt d e=>exact#[_,L,q]
    |rl d e=>exact#[_,L,q]
 let#[o,t,q]:=C m.length 0 Γ u (!0) z
 exact#[o,by unfold ja;rw[A];exact t,q]
def pJ{js:List (Option Nat)}{i:qh}{g:kA}{t:iB}{f:bc}{Q:List D->aH->Prop} (h:E i Γ S λp z=>∃I:Nat->cI->aH->List D->Prop,I 0 (oF js Γ) z []/\(∀n b S' a,I n b S' a->p.2 S')∧
   (∀(n:Nat) (d:D) (b:cI) (S':aH) (a:List D),p.1[n]?=some d->I n b S' a->Tg g d b S' λe B=>E t e B λk v=>if k=true then E f e v λy x=>a.length<sizeLine/\I (n+1) e x (a++ [y]) else I (n+1) e v a)∧
   ∀b S' a,I p.1.length b S' a->Q a S'):E (bT js i g t f) Γ S Q:=by
 let#[#[s,W],z,K,I,H,A,l,o]:=h
 have N:∀(k n:Nat) (b:cI) (S':aH) (a:List D),n+k=s.length->I n b S' a->∃r j,mv g t f W (s.drop n) b S' a=some (r,j)/\Q r j:=by
  intro k
  induction k with
  | zero=>
    intro n b S' a C u
    rw[List.drop_of_length_le (!0)]
    refine#[a,S',by erw[mv];rw[Qhq (A _ _ _ _ u)],o _ _ _ (by rw[<-C];exact u)]
  | succ k F=>
    intro n b S' a C u
    have m:n<s.length:=by omega
    rw[QWq m]
    let#[e,B,w,c,v,M,q]:=l n s[n] b S' a (gQe m) u
    erw[mv]
    rw[Qhq (A _ _ _ _ u),w]
    erw[Qbq]
    rw[M]
    erw[Qbq]
    cases c with
    | true=>
      rw[Qhq L] at q|-
      let#[y,x,P,J,q]:=q
      rw[P]
      erw[Qbq]
      rw[Qhq J]
      exact F (n+1) e x _ (!0) q
    | false=>
      rw[Quq (!1)] at q|-
      exact F (n+1) e v _ (!0) q
 let#[r,j,w,q]:=N s.length 0 _ z [] (!0) H
 exact#[r,j,by unfold bT;rw[K];exact w,q]
def NQ{f:bc}{Q:(List D×(aH->Prop))->aH->Prop}(h:E f Γ S λd a=>∃j,d=.int j/\(-(2^62)<=j/\j<2^62)/\Q (lQ 0 j,λ_=>True) a):E (x_ f) Γ S Q:=by
 let#[d,a,b,j,rfl,hj,q]:=h
 exact#[_,a,by unfold x_;rw[b];erw[Qbq];rw[Qhq hj],q]
def eD{f:eF}{Q:(List D×(aH->Prop))->aH->Prop}(h:E f Γ S λp a=>Q (p.1,λS'=>p.2.stays S' p.1) a):E (gL f) Γ S Q:=by
 let#[p,a,b,q]:=h
 exact#[_,a,by unfold gL;rw[b];rfl,q]
def uB{m:List D->List D->Option (List D×D)}{f:bc}{g:fF}{Q:D->aH->Prop}(h:E f Γ S λx c=>∃k a,x=.ref k/\c[k]?=some (.lst a)/\E g Γ c λys b=>∃ds,b[k]?=some (.lst ds)/\Op (m ds ys) λp=>Q p.2 (b.set k (.lst p.1))):E (vI m f g) Γ S Q:=by
 let#[x,c,d,k,a,rfl,h1,ys,b,e2,ds,h2,p,e3,q]:=h
 exact#[_,_,by unfold vI;rw[d];erw[Qbq,e2,h1,h2,e3],q]
end
def cA{n:Nat}{b:dr}{ds:List D}{S:aH}{Q:Res->aH->Prop} (h:T b (ds.map some++List.replicate (n-ds.length) none) S λo=>match o with
   |.nx _ S'=>Op (settle S .non S') λp=>Q p.1 p.2|.rt d S'=>Op (settle S d S') λp=>Q p.1 p.2|.rl l S'=>Op (gR S l S') λp=>Q p.1 p.2|_=>False):Fn (gD n b) ds S Q:=by
 let#[o,e,q]:=h
 cases o with
 |nx f S'=>let#[#[r,a],c,q]:=q;exact#[r,a,by unfold gD;rw[e];exact c,q]
 |rt d S'=>let#[#[r,a],c,q]:=q;exact#[r,a,by unfold gD;rw[e];exact c,q]
 |rl d S'=>let#[#[r,a],c,q]:=q;exact#[r,a,by unfold gD;rw[e];exact c,q]
 |bk=>exact q.elim
 |ct=>exact q.elim
def gY{S S' a:aH}{d:D}{Q:Res×aH->Prop}(e:kB S S')(ht:S'.take S.length=a)(b:∀k,d≠.ref k)(c:cy S.length d=true)(q:Q (.d d,a)):Op (settle S d S') Q:=by
 refine#[_,?_,q]
 unfold settle
 rw[Qhq e,ht]
 cases d with
 |ref k=>exact absurd L (b k)
 |_=>erw[c,if_true]
def tN{S S' a:aH}{ds:List D}{Q:Res×aH->Prop}(c:kB S S')(ht:S'.take S.length=a)(b:bz S.length ds=true)(q:Q (.l ds,a)):Op (gR S ds S') Q:=by
 refine#[_,?_,q]
 unfold gR
 rw[Qhq #[c,b],ht]
def tZ{S:aH}:kB S S:=#[Qmq _,λk o _ h=>.inl h]
def B_{S:aH}{k:Nat}{o:O}(h:t9 S.length o=true):kB S (S.set k o):=by
 refine#[by simp,λj u _ e=>?_]
 rw[List.getElem?_set] at e
 split at e
 ·split at e
  ·cases e;exact .inr h
  ·cases e
 ·exact .inl e
end DL
namespace L2
open PySem PySem.Spec PyProof.Rows
end L2
namespace DL
open PySem PySem.Spec L2
mutual
def iX:D->Option PyData
 |.non=>some .none
 |.bl b=>some (.bool b)
 |.int i=>some (.int i)
 |.str x=>if PyData.strOk x=true then some (.str x) else none
 |.tup a=>(gh a).map .tuple
 |.ref _=>none
 |.fn _=>none
 |.mt _=>none
def gh:List D->Option (List PyData)
 | []=>some []
 |d::ds=>(iX d).bind λp=>(gh ds).map (p::·)
end
mutual
theorem tY:∀{d:D} {p:PyData},iX d=some p->p.canLay0=true
 |.non,_,e=>by cases e;rfl
 |.bl _,_,e=>by cases e;rfl
 |.int _,_,e=>by cases e;rfl
 | .str x,_,e=>by
   erw[iX] at e
   split at e
   · rename_i c;cases e;exact c
   · cases e
 | .tup ds,_,e=>by
   erw[iX] at e
   let#[b,a,rfl]:=oQm.mp e
   exact lH a
 |.ref _,_,e=>by cases e
 |.fn _,_,e=>by cases e
 |.mt _,_,e=>by cases e
theorem lH:∀{ds:List D} {ps:List PyData},gh ds=some ps->PyData.canLayAll0 ps=true
 | [],_,e=>by cases e;rfl
 | d::ds,_,e=>by
   erw[gh] at e
   let#[p,a,e]:=ar e
   let#[ps,b,rfl]:=oQm.mp e
   erw[PyData.canLayAll0,QCq]
   exact#[tY a,lH b]
end
mutual
theorem jV{M:Md}{ρ:X7}{H:Hp}:∀{d:D} {p:PyData} {v:V},Rel M ρ H d v->iX d=some p->jY (λ_=>False) H p v
 |.non,_,_,.non,e=>by cases e;exact .non
 |.bl _,_,_,.bl _,e=>by cases e;exact .bl _
 |.int _,_,_,.int _,e=>by cases e;exact .int _
 | .str _,_,_,.str _,e=>by
   erw[iX] at e
   split at e
   · cases e;exact .str _
   · cases e
 | .tup ds,_,_,.tup h hs,e=>by
   erw[iX] at e
   let#[b,a,rfl]:=oQm.mp e
   exact .tup h (rM hs a)
 |.ref _,_,_,_,e=>by cases e
 |.fn _,_,_,_,e=>by cases e
 |.mt _,_,_,_,e=>by cases e
theorem rM{M:Md}{ρ:X7}{H:Hp}:∀{ds:List D} {ps:List PyData} {vs:List V},bb M ρ H ds vs->gh ds=some ps->oK (λ_=>False) H ps vs
 | [],_,_,.nil,e=>by cases e;exact .nil
 | d::ds,_,_,.cons h hs,e=>by
   erw[gh] at e
   let#[p,a,e]:=ar e
   let#[ps,b,rfl]:=oQm.mp e
   exact .cons (jV h a) (rM hs b)
end
end DL
namespace L2
open PySem PySem.Spec
section
variable{X:Cx}
def Kz(K:X1)(d:Bool):R2:=λx y H Q=>∃p a c b,y=.ref a/\(iD K H a c\/iC K H a c)/\jY (λ_=>False) H p x/\oK (λ_=>False) H b c/\p.canLay0=true/\PyData.canLayAll0 b=true/\p.depth<=60/\Q (.bl (if d then !b.any (PyData.eqv · p) else b.any (PyData.eqv · p))) H
def Fq(s:X4)(p:PyData)(u:Xd):Bool:= @decide (∃d a,d.canLay0=true/\Reads s.heap u d a/\PyData.eqv d p=true) (Classical.propDecidable _)
def xq{s:X4}{p d:PyData}{u:Xd}{as:X7}(l:d.canLay0=true)(r:Reads s.heap u d as):Fq s p u=PyData.eqv d p:=by
 unfold Fq
 cases h:PyData.eqv d p with
 |true=>exact @Qeq _ (Classical.propDecidable _) #[d,as,l,r,h]
 | false=>
   refine @Qdq _ (Classical.propDecidable _) ?_
   rintro⟨e,a,f,c,b⟩
   rw[SeqAt.Reads.unique d e u as a l r c] at h
   rw[h] at b
   cases b
theorem lM{s:X4}{p:PyData}:∀{b:X5} {ps:List PyData} {as:X7},ReadsAll s.heap b ps as->PyData.canLayAll0 ps=true->b.any (Fq s p)=ps.any (PyData.eqv · p)/\∀u∈b,∃d as,d.canLay0=true/\Reads s.heap u d as
 |_,_,_,.nil,_=>#[L,λu a=>by cases a]
 | _,d::ps,_,.cons r rs,l=>by
   have c:d.canLay0=true/\PyData.canLayAll0 ps=true:=by simpa [PyData.canLayAll0] using l
   let#[f,e]:=lM (p:=p) rs c.2
   refine#[by rw[List.any_cons,List.any_cons,f,xq c.1 r],λu a=>?_]
   rcases Qsq.mp a with rfl|a
   · exact#[_,_,c.1,r]
   · exact e u a
def zQ{A:X_}{s:X4}{p:PyData}{v:Xd}{bs:X7}(e:A.units+63<cLine)(rp:Reads s.heap v p bs)(b:p.canLay0=true)(c:p.depth<=60){u:Xd}(h:∃d as,d.canLay0=true/\Reads s.heap u d as):SeqAt.EqAt A s u v (Fq s p u):=by
 let#[d,as,l,r]:=h
 rw[xq l r]
 intro a w E Q q
 exact SeqAt.eqBoolOverData a w A E s _ _ _ _ _ _ Q r rp l b (!0) q
def HC(S:X.A.units+64<cLine):hJ X (compareOp .In) (Kz X.K false):=by
 rintro q s U H x y v u Q I F J ⟨p,a,R,P,M,d,B,e,n,b,m,h⟩
 subst M
 cases J
 let#[N,o,_]:=jz I (λa z=>z.elim) B F
 have c:X.A.in1.units+63<cLine:=by show X.A.units+1+63<cLine;omega
 rcases d with d|d
 ·let#[i,r,l,C]:=I.list d
  let#[t,g,_]:=gV I (λa z=>z.elim) e r
  let#[j,f]:=lM (p:=p) g b
  refine SeqAt.in_listAt (Fq s p) l.isList (λw k=>zQ c o n m (f w (by simpa using k))) #[.bl _,H,I,L,?_]
  rw[List.any_toArray,j]
  exact h
 ·let#[i,r,l,C]:=I.tuple d
  let#[t,g,_]:=gV I (λa z=>z.elim) e r
  let#[j,f]:=lM (p:=p) g b
  refine SeqAt.in_tupleAt (Fq s p) l (λw k=>zQ c o n m (f w (by simpa using k))) #[.bl _,H,I,L,?_]
  rw[List.any_toArray,j]
  exact h
end
end L2
namespace DL
open PySem PySem.Spec L2
section
variable{X:Cx}{a b e:Expr}{pos:Pos}
def KI(c:Bool)(f:bc)(g:eF):bc:=λh S=>(f h S).bind λ(x,j)=>(g h j).bind λ(p,i)=>(iX x).bind λv=>(gh p.1).bind λd=>if v.depth<=60 then some (.bl (if c then !d.any (PyData.eqv · v) else d.any (PyData.eqv · v)),i) else none
def Mp{h:Bool}{f:bc}{g:eF}:∀l H Q,tD (md X) (KI h f g) l H Q->Ff (Kz X.K h) (tD (md X) f) (tQ (md X) g) l H Q:=λl H Q I=>by
 let#[J,m,S,d,R,ok,e,q]:=I
 let#[#[x,p],P,e]:=ar e
 let#[#[#[B,t],F],C,e]:=ar e
 let#[v,o,e]:=ar e
 let#[A,r,e]:=ar e
 split at e
 ·rename_i c
  let#[rfl,rfl]:=bI e
  refine#[J,m,S,x,p,ok,P,λk u H1 s i y=>#[k,m,p,B,t,F,ok.to s i,C,λz a N H2 n j w M=>?_]]
  exact#[v,a,N,A,L,w.sq,jV (y.ext n) o,rM M r,tY o,lH r,c,q _ _ _ (s.trans n) j (.bl _)]
 ·cases e
def KG{f:bc}{g:eF}{k:Nat}(h:ed k X.A)(d:PE X a (tD (md X) f))(i:PE X b (tQ (md X) g))(c:autoParam (behindInMarks .In b=false) af._auto_1):PE X (.Compare a [.In] [b] pos) (tD (md X) (KI false f g)):=gX (r8 (HC h.units) d i c) Mp
end
end DL
namespace L2
open PySem PySem.Spec PyProof.Rows
section
variable{X:Cx}
def Mf:V->List V->Hp->VK->Prop:=λx b H Q=>∃(l:X8) (a:List V) (i:Int) (y:V),x=.ref l/\b= [.int i,y]/\H l=some (.lst a)/\0<=i/\i<1000000/\i.toNat<=a.length/\a.length<sizeLine/\Q .non (upd H l (.lst (a.take i.toNat++y::a.drop i.toNat)))
def F1{a:X5}{i:Int}{u:Xd}(c:0<=i)(b:i.toNat<=a.length):(a.toArray.extract 0 (if i<0 then(i+(a.toArray.size:Int)).toNat else min i.toNat a.toArray.size)).push u++a.toArray.extract (if i<0 then(i+(a.toArray.size:Int)).toNat else min i.toNat a.toArray.size)=(a.take i.toNat++u::a.drop i.toNat).toArray:=by
 rw[Quq (!0),Qjq,Nat.min_eq_left b]
 apply Array.toList_inj.mp
 simp
 exact List.take_of_length_le (by rw[List.length_drop];exact Qmq _)
def CJ:MF X "list.insert" Mf:=by
 intro f s w H x m v A Q I k g h
 let#[l,p,i,y,rfl,rfl,hH,h0,h1,hk,hz,q]:=h
 cases k
 let#[o,u,rfl,r1,ru]:=g.two
 let#[t,rfl]:=r1
 let#[z,a,n,r,d,e]:=I.lstM hH
 have j:Builtin.List.listFitsIndex i=true:=fitsIndex_both (Int.le_trans (!1) h0) (Int.lt_trans h1 (!1))
 have c:a.toArray.size<=sizeLine:=by rw[Qjq,<-d];exact nQl hz
 have b:¬(!Builtin.List.listFitsIndex i)=true:=by rw[j];exact Qtq
 refine call_meets F.slot_list_insert #[_,e,L] F.entry_list_insert (F.args_list_insert_3 _ _ _) (AutoSeq1.list_insert_list_int_val_1 l a.toArray n i t u b c) #[e,?_]
 refine#[.non,_,I.lset (its':=a.take i.toNat++u::a.drop i.toNat) hH e (F1 h0 (d▸hk)) ((r.take _).append (.cons ru (r.drop _))) ?_,L,q]
 erw[lQa,Qxq,Qnq,List.length_drop]
 omega
end
end L2
namespace DL
open PySem PySem.Spec PyProof.Rows L2
section
variable{X:Cx}{e e2:Expr}
def AC:List D->List D->Option (List D×D):=λa b=>match b with
 | [.int i,y]=>if 0<=i/\i<1000000/\i.toNat<=a.length/\a.length<sizeLine then some (a.take i.toNat++y::a.drop i.toNat,.non) else none
 |_=>none
def HI{M:Md}:Gi M Mf AC:=by
 intro n H a m r o d j p Q k c g e q
 unfold AC at e
 split at e
 ·split at e
  ·rename_i i y b
   let#[rfl,rfl]:=bI e
   cases g with
   | cons g f=>
     cases f with
     | cons f l=>
       cases l
       cases g
       let h:=c.length
       rw[h] at b
       exact#[a,j,i,_,L,L,k,b.1,b.2.1,b.2.2.1,b.2.2.2,q _ _ ((c.take _).append (.cons f (c.drop _))) .non]
  ·cases e
 ·cases e
def D2{f g j:bc}{o:Expr}{b a:Pos}(m:PE X o (tD (md X) f))(n:PE X e (tD (md X) g))(p:PE X e2 (tD (md X) j))(c:autoParam (attributeBase o "insert" X.env (eval o X.env)=eval o X.env) af._auto_1) (h:autoParam (((backTo a (starEach [e,e2] X.env)).all (λx=> !x.1)&&(backToKw a (keywordEach [] X.env)).all (λx=>x.1.isSome)
   &&decide ([e,e2].length+([]:List Keyword).length+(if ([]:List Keyword).isEmpty then 0 else 1)<30))=true) af._auto_1)
  (d:autoParam ((b.endLine==a.line)=true) af._auto_1) (k:autoParam (starEach [e,e2] X.env=(false,eval e X.env)::starEach [e2] X.env) af._auto_1) (i:autoParam (starEach [e2] X.env= [(false,eval e2 X.env)]) af._auto_1) (l:autoParam ((backTo a (starEach [e2] X.env)).any (·.1)=false) af._auto_1):PE X (.Call (.Attribute o "insert" b) [e,e2] [] a) (tD (md X) (vI AC f (au g (au j az)))):=
 gX (y0 PySem.F.plainAttrs_list PySem.F.slot_list_insert PySem.F.type_list_insert CJ m (aq n (aq p aw i) k) c h d k l) (Jy HI)
end
end DL
namespace L2
open PySem PySem.Spec PyProof.Rows
end L2
namespace DL
open PySem PySem.Spec PyProof.Rows L2
def p8:fillsNumberSlot (.type "tuple") "mul"=pure false:=
 PySem.fillsNumberSlot_seq (id:="tuple.__mul__") (r:=some (.builtin "tuple.__rmul__")) PySem.F.slot_tuple_mul.lookup (by decide +kernel) PySem.F.slot_tuple_rmul.lookup (by decide +kernel)
def wV:seqRepeat? (.type "tuple")=pure (some (.builtin "tuple.__mul__")):=by
 unfold seqRepeat?
 rw[PySem.seqSlot_of (T:="tuple") (name:="__mul__") (id:="tuple.__mul__") PySem.F.slot_tuple_mul.lookup (by decide +kernel),PySem.seqSlot_of (T:="tuple") (name:="__rmul__") (id:="tuple.__rmul__") PySem.F.slot_tuple_rmul.lookup (by decide +kernel)]
 rfl
def z3(a:Int)(t:Tok)(l:X8)(items:Xa)(n:Nat)(c:Option Addr)(sl:Array (Option Value)):
  Meets (Builtin.«int.__rmul__» #[[.int a t,.ref l],[]]) (λ_ R s=>s.heap.get? l=some {cls:=.type "tuple",dict:=c,data:=.seq items n,slots:=sl}/\R (.ok (.ret Value.notImplemented)) s):=
 .of_wp λb w A R s h=>by let#[i,g,d,e,f]:=s;let#[j,h]:=h;wp_walk;exact#[_,L,h]
def Cq(l:X8)(items:Xa)(n:Nat)(v:Option Addr)(sl:Array (Option Value))(x:Int)(u:Tok)(z:2<=x)(I:x<2^63)(a:¬items.isEmpty=true)(o:items.size*x.toNat<=sizeLine):
  Meets (Builtin.«tuple.__mul__» #[[.ref l,.int x u],[]]) (λ_ R s=>s.heap.get? l=some {cls:=.type "tuple",dict:=v,data:=.seq items n,slots:=sl}/\R (.ok (.ret (Value.ref s.heap.objs.size))) {s with heap:=s.heap.push {cls:=Value.type "tuple",data:=Data.seq (List.foldl (λf e=>f++e) (List.toArray []) (List.replicate x.toNat items))},toks:=s.toks}):=
 .of_wp λj w A R s h=>by
  let#[H,g,d,B,C]:=s;let#[b,h]:=h
  let F:=AutoSeq1.idx_int
  have k:(sizeLine:Nat)=16777216:=by decide
  have i:((items.size:Int)*x)=((items.size*x.toNat:Nat):Int):=by rw[Int.natCast_mul,Int.toNat_of_nonneg (!0)]
  have p:items.size*x.toNat<=16777216:=by omega
  have m:¬(decide (x< -2^63)||decide (x>=2^63))=true:=by simp;omega
  have q:¬(items.isEmpty||x==1)=true:=by simp at a|-;exact#[a,by omega]
  have r:¬(decide (x<=0)||items.isEmpty)=true:=by simp at a|-;exact#[by omega,a]
  have y:¬((items.size:Int)*x>(2^63-1)/8):=by rw[i];omega
  have t:¬Builtin.Tuple.tupleTooMany ((items.size:Int)*x)=true:=by rw[i];unfold Builtin.Tuple.tupleTooMany;rw[Qdq (by rw[k];omega)];decide
  have c:(List.foldl (λf e=>f++e) (List.toArray []) (List.replicate x.toNat items)).size<=sizeLine:=by rw[AutoListH.size_joined,k,Nat.mul_comm];simpa using p
  wp_walk using wpAny_loadPart' b
  refine QgQ (Qdq m) ?_
  wp_walk using wpAny_loadPart' b
  refine QgQ (Qdq q) ?_
  wp_walk using wpAny_loadPart' b
  refine QgQ (Qdq r) ?_
  wp_walk using wpAny_loadPart' b
  refine QgQ (Qdq y) ?_
  wp_walk using wpAny_loadPart' b
  refine QgQ (Qdq t) ?_
  wp_walk using wpAny_loadPart' b
  refine QgQ (Qdq (Nat.not_lt.mpr c)) ?_
  wp_walk
  exact#[_,L,h]
section
variable{X:Cx}{a b:Expr}{pos:Pos}
def Hn(K:X1):R2:=λx y H Q=>∃a k c,x=.ref a/\y=.int k/\iC K H a c/\c≠[]/\2<=k/\k<2^63/\c.length*k.toNat<=sizeLine/\∀p,H p=none->Q (.ref p) (upd H p (.tup (List.replicate k.toNat c).flatten))
def GQ:hJ X (binaryOp .Mult) (Hn X.K):=by
 intro m s S H x y v u Q I J M h
 let#[l,k,C,rfl,rfl,ha,hx,h1,h2,hz,q]:=h
 cases J
 let#[t,rfl]:=M
 let#[c,f,B,_]:=I.tuple ha
 let#[#[A,p,j,sl],e,r,n,i]:=id B
 simp only at r i
 subst r i
 have g:c.toArray.size*k.toNat<=sizeLine:=by rw[Qjq,<-f.length];exact hz
 have d:List.foldl (λP N=>P++N) (List.toArray []) (List.replicate k.toNat c.toArray)=(List.replicate k.toNat c).flatten.toArray:=by
  have:=foldl_rep c k.toNat []
  rw[List.nil_append] at this
  exact this
 refine wpAny_binaryOp_repeat_ref (T:="tuple") (U:="int") (!1) #[_,e,L] (λw=>typeIs_int w k t) p8 F.fills_int_mul F.slot_int_rmul wV F.slot_int_index.lookup
  (call_meets F.slot_int_rmul (typeIs_int s k t) F.entry_int_rmul (F.args_int_rmul_2 _ _) (z3 k t l c.toArray n p sl)
   #[e,L,#[_,e,L],call_meets F.slot_tuple_mul #[_,e,L] F.entry_tuple_mul (F.args_tuple_mul_2 _ _) (Cq l c.toArray n p sl k t h1 h2 (λz=>hx (f.nil_iff.mp (by simpa using z))) g) #[e,?_]])
 rw[d]
 refine#[.ref s.heap.objs.size,_,I.laid (t':=s.toks) (o:=.tup (List.replicate k.toNat C).flatten) (λb R q=>Qcq _ q) (Qmq _) ?_,L,q _ (I.hok.fresh (Qmq _))]
 exact#[by rw[len_rep,Nat.mul_comm];exact hz,_,f.rep k.toNat,xj.new _ _]
def za:ni:=λ_ x y=>match x,y with
 |.tup i,.int k=>if 2<=k/\k<2^63/\i≠[]/\i.length*k.toNat<=sizeLine then some (.tup (List.replicate k.toNat i).flatten) else none
 |_,_=>none
def HM{M:Md}:gA M (Hn M.K) za:=by
 intro m S H x y d u v Q j h l e q
 cases h with
 | tup i f=>
   cases l with
   | int k=>
     erw[za] at e
     split at e <;>cases e
     rename_i c
     refine#[_,k,_,L,L,iC.of i,λz=>c.2.2.1 ?_,c.1,c.2.1,by rw[<-f.length];exact c.2.2.2,λp g=>q _ _ (bQ.laid g) (j.lay g) (.tup bg ((f.rep _).ext (bQ.laid g)))]
     have:=f.length
     rw[z] at this
     exact List.length_eq_zero_iff.mp this
   |_=>erw[za,reduceCtorEq] at e
 |_=>erw[za,reduceCtorEq] at e
def HH{f g:bc}(c:PE X a (tD (md X) f))(d:PE X b (tD (md X) g)):PE X (.BinOp a .Mult b pos) (tD (md X) (bo za f g)):=nF HM (nj GQ c d)
end
end DL
namespace L2
open PySem PySem.Spec PyProof.Rows
end L2
namespace DL
open PySem PySem.Spec L2
end DL
namespace PySem
namespace F
end F
end PySem
namespace L2
open PySem PySem.Spec PyProof.Rows
end L2
namespace DL
open PySem PySem.Spec PyProof.Rows L2
end DL
namespace L2
open PySem PySem.Spec PyProof.Rows
end L2
namespace DL
open PySem PySem.Spec PyProof.Rows L2
section
variable{X:Cx}{a b c e:Expr}{pos:Pos}
def MA(X:Cx)(pos:Pos)(d:List (Option Expr))(es:List Expr)(h:X6)(g:fF):Prop:=∃f,L0 X pos d es f/\d.all (·.isSome)=true/\d.length=es.length/\h.length=d.length∧
 (∀m S i k,g m S=some (i,k)->i.length=h.length)/\∀j H Q,xW (md X) g j H (λl n=>Q ((h.map V.str).zip l) n)->wG f j H Q
def tq:MA X pos [] [] [] az:=#[[],GE,L,L,L,λh S i f e=>by cases e;rfl,λj H Q ⟨g,h,S,d,f,ok,e,q⟩=>by cases e;exact q g [] H bQ.refl ok.st .nil]
def cx{k:Str}{v:Expr}{h:List (Option Expr)}{es:List Expr}{s:X6}{f:bc}{g:fF}{F:Nat}{p:Pos}(hv:PE X v (tD (md X) f))(P:MA X pos h es s g):MA X pos (some (.Constant (.str k) F p)::h) (v::es) (k::s) (au f g):=by
 let#[C,K,A,R,J,M,Y]:=P
 refine#[_,Eg Eb hv K,by simpa using A,by simp[R],by simp[J],λo S Z W e=>?_,λσ H Q ⟨N,o,S,d,W,ok,e,q⟩=>?_]
 ·let#[#[x,r],y,e]:=ar e
  let#[#[u,t],n,e]:=ar e
  let#[rfl,rfl]:=bI e
  simp[M _ _ _ _ n]
 ·let#[#[x,r],y,e]:=ar e
  let#[#[u,t],n,e]:=ar e
  let#[rfl,rfl]:=bI e
  refine#[N,o,S,x,r,ok,y,λm v H1 z i B=>Y _ _ _ #[m,o,r,u,t,ok.to z i,n,λj I H2 w l U=>?_]]
  exact q j (v::I) H2 (z.trans w) l (.cons (B.ext w) U)
def gy.offD{M:Md}{ρ:X7}{H:Hp}{b:X8}{S:aH}{A:List (Key×V)}{o:HO}(st:gy M ρ S H)(g:H b=some (.dK A))(n:b∉ρ):gy M ρ S (upd H b o):=⟨st.len,st.nd,λk a p m u=>by
 let q:=st.obj k a p m u
 have h:a≠b:=λz=>n (z▸mQg m)
 cases p with
 |lst s=>let#[i,d,f]:=q;exact#[i,by rw[a7 h];exact d,f.offK g]
 |frz s=>let#[i,o,d,f]:=q;exact#[i,o,by rw[a7 h];exact d,f.offK g]
 |dct t=>let#[y,d,f]:=q;exact#[y,by rw[a7 h];exact d,f.imp λ_ _ r=>r.offK g]
 |sett s=>let#[v,w,d,f,j]:=q;exact#[v,w,by rw[a7 h];exact d,f.offK g,j]
 |dctN C B i=>let#[l,d,f,j,x]:=q;exact#[l,by rw[a7 h];exact d,f.offK g,j.offK g,x]⟩
def Il(h:X6)(g:fF):bc:=λf S=>(g f S).bind λ(i,d)=>some (.ref d.length,d++ [.dct (fQ [] ((h.map Sum.inr).zip i))])
theorem Dy:∀{d:X6} {vs:List V},vs.length=d.length->(d.map V.str).zip vs=((d.map (Sum.inr:Str->Key)).zip vs).map λf=>(kV f.1,f.2)
 | [],[],_=>rfl
 | k::d,v::vs,h=>by
   erw[QDq,List.zip_cons_cons]
   rw[Dy (Nat.succ.inj h)]
   rfl
 | [],_::_,h=>by cases h
 |_::_,[],h=>by cases h
def ox{i:List (Option Expr)}{es:List Expr}{j:X6}{g:fF}(h:MA X pos i es j g)(U:autoParam (i≠[]) ba._auto_1)(u:autoParam (i.length<=15) ac._auto_1):PE X (.Dict i es pos) (tD (md X) (Il j g)):=by
 let#[W,Z,R,h3,Y,h5,h6]:=h
 refine gX (Fx Z R h3 U u) λσ H Q qr=>?_
 let#[v,J,S,d,S',ok,e,q]:=qr
 let#[#[B,S1],M,e]:=ar e
 let#[rfl,rfl]:=bI e
 intro t p
 have w:bQ v H v (upd H t (.dK [])):=bQ.laid p
 have K:t∉v:=cn bQ.refl ok.st p
 have C:Ok (md X) v J S σ (upd H t (.dK [])):=#[ok.en.ext w,ok.st.lay p]
 refine h6 _ _ _ #[v,J,S,B,S1,C,M,λk s H1 n r I=>?_]
 have x:H1 t=some (.dK []):=n.keep t _ bg (.inl K)
 have N:t∉k:=λm=>(n.new _ m).elim K λz=>by rw[bg] at z;cases z
 have P:s.length=j.length:=by rw[<-I.length];exact h5 _ _ _ _ M
 refine#[x,(j.map Sum.inr).zip s,Dy P,by rw[List.length_zip,lQm,P,Y,Nat.min_self];exact u,?_]
 let A:=r.offD (o:=.dK (jf [] ((j.map (Sum.inr:Str->Key)).zip s))) x N
 have kr:cg (md X) k (upd H1 t (.dK (jf [] ((j.map (Sum.inr:Str->Key)).zip s)))) (fQ [] ((j.map (Sum.inr:Str->Key)).zip B)) (jf [] ((j.map (Sum.inr:Str->Key)).zip s)):=cg.merge (l:= []) (cg.zip (I.offK x)) L
 let y:=A.box (o:=.dct (fQ [] ((j.map (Sum.inr:Str->Key)).zip B))) N #[_,bg,kr.pre' (List.prefix_append _ _)]
 refine q (k++ [t]) (.ref t) _ #[n.pre.trans (List.prefix_append _ _),λc f=>?_,λc o f F=>?_,λc f=>?_] y (.ref ?_)
 ·rcases mQa.mp f with f|f
  ·rcases n.new c f with h|h
   ·exact .inl h
   ·exact .inr (w.grow c h)
  ·rw[Qfq] at f;subst f;exact .inr p
 ·have ne:c≠t:=by intro z;subst z;rw[p] at f;cases f
  rw[a7 ne]
  exact n.keep c o (w.keep c o f F) F
 ·have ne:c≠t:=by intro z;subst z;rw[bg] at f;cases f
  rw[a7 ne] at f
  exact w.grow c (n.grow c f)
 ·rw[<-r.len,QQq (Qmq _)]
  simp
end
end DL
namespace L2
open PySem PySem.Spec PyProof.Rows
section
variable{X:Cx}
def HL:List V->Hp->VK->Prop:=λb H Q=>∃(v:V) (d:PyData) (N:Addr->Prop),b= [v]/\jY N H d v/\(∀a,N a->a≠sysModules)/\d.showable=true/\d.depth<=100/\d.shown.length<=sizeLine/\Q (.str d.shown) H
def Ae(o:X.A.guards=some [])(K:X.A.units+150<cLine):ff X (.builtin "repr") HL:=by
 intro f s l H J M Q I r h
 let#[v,d,N,rfl,hd,hN,hs,hp,hz,q]:=h
 let#[u,rfl,rx]:=vals1 r
 have c:∀(t:Tok) (j:X4),Inv X f l H j->EP X f l Q (.str d.shown t) j:=λt j y=>#[.str d.shown,H,y,#[t,L],q]
 let#[B,m,z]:=jz I hN hd rx
 have g:∀a,u=.ref a->wpAny (model X.prog X.w) X.A (call (.builtin "repr") [u]) (EP X f l Q) X.xe s:=λa e=>by
  subst e
  refine repr_of_reads' m hs (λ_=>z) o (!0) (λ_ _ e=>e) (λC u F p=>c u _ (I.kept p)) hz
 cases hd with
 |non=>cases rx;exact PySem.P.repr_of_none (c _ _ (I.tok _))
 |bl b=>cases rx;exact PySem.P.repr_of_bool (c _ _ (I.tok _))
 |int i=>let#[t,rfl]:=rx;exact PySem.P.repr_of_int (by simpa [PyData.showable] using hs) (c _ _ (I.tok _))
 |str x=>let#[t,rfl]:=rx;exact PySem.P.repr_of_str (c _ _ (I.tok _)) hz
 |tup h k=>exact g _ rx
 |lst h n k=>exact g _ rx
 |dct h=>exact g _ rx
end
section
variable{X:Cx}
def qz(p:PyData):List PyData->Option Nat
 | []=>none
 |q::r=>if PyData.eqv q p=true then some 0 else(qz p r).map (·+1)
theorem yk{s:X4}{p:PyData}:∀{a:X5} {ps:List PyData} {as:X7} {j:Nat},ReadsAll s.heap a ps as->PyData.canLayAll0 ps=true->qz p ps=some j->(∃u,a[j]?=some u/\Fq s p u=true)/\∀m u,m<j->a[m]?=some u->Fq s p u=false
 |_,_,_,j,.nil,_,h=>by cases h
 | _,d::ps,_,j,.cons r rs,l,h=>by
   have b:d.canLay0=true/\PyData.canLayAll0 ps=true:=by simpa [PyData.canLayAll0] using l
   unfold qz at h
   split at h
   · rename_i c
     cases h
     exact#[#[_,L,by rw[xq b.1 r];exact c],λm y f=>absurd f (Nat.not_lt_zero _)]
   · rename_i c
     let#[i,o,rfl]:=oQm.mp h
     let#[#[z,k,g],n]:=yk rs b.2 o
     refine#[#[z,by simpa using k,g],λm w f e=>?_]
     cases m with
     |zero=>cases e;rw[xq b.1 r];simpa using c
     |succ m=>exact n m w (!0) (by simpa using e)
def Cr(hu:X.A.units+64<cLine):NT X "list.index" (λx vs H Q=>∃a xs y j p ps,x=.ref a/\vs= [y]/\iD X.K H a xs/\jY (λ_=>False) H p y/\oK (λ_=>False) H ps xs/\p.canLay0=true/\PyData.canLayAll0 ps=true/\p.depth<=60/\qz p ps=some j/\Q (.int (j:Nat)) H):=by
 intro B s σ H x vs v us Q I rx S h
 let#[a,xs,y,j,p,ps,rfl,rfl,hq,dp,dps,lp,lps,hd,hj,q]:=h
 cases rx
 let#[u,rfl,ru]:=S.one
 let#[b,r,Y,hz]:=I.list hq
 let#[#[M,dd,P,sl],n,e,C,d,c]:=Y
 simp only at C d c
 subst C d c
 let#[bs,W,_]:=jz I (λa z=>z.elim) dp ru
 let#[as,t,_]:=gV I (λa z=>z.elim) dps r
 let#[h1,N]:=lM (p:=p) t lps
 let#[#[w,f,o],Z]:=yk t lps hj
 let hl:=r.length
 have R:j<b.length:=(gQs.mp f).1
 have g:b.toArray[j]'(by rw[Qjq];omega)=w:=by
  have:=(gQs.mp f).2
  simpa using this
 let J:=kZ
 have l:X.A.in1.units+63<cLine:=by show X.A.units+1+63<cLine;omega
 refine call_meets PySem.F.slot_list_index #[_,e,L] PySem.F.entry_list_index (PySem.F.args_list_index_2 _ _)
  (SeqAt.list_indexAt a b.toArray n none sl u (Fq s p) j (by rw[Qjq];omega) (!0) (by rw[g];exact o) λm hm i=>?_)
  #[e,λw f=>zQ l W lp hd (N w (by simpa using f)),#[.int j,H,I.tok _,#[_,L],q]]
 have k:m<b.length:=by rw[Qjq] at hm;omega
 have U:b.toArray[m]=b[m]:=by simp
 rw[U]
 exact Z m _ i (gQe k)
end
end L2
namespace DL
open PySem PySem.Spec PyProof.Rows L2
section
variable{X:Cx}{a b c e:Expr}{pos:Pos}
open Classical in
def EF(f:eF)(g:bc):bc:=λh S=>(f h S).bind λ(p,l)=>if p.2.isL=true then(g h l).bind λ(y,d)=>if p.2.stays d p.1 then(iX y).bind λi=>(gh p.1).bind λk=>if i.depth<=60 then(qz i k).bind λj=>some (.int (j:Nat),d) else none else none else none
def Ef{f:eF}{g:bc}{o:Expr}{n:Nat}{i h:Pos}(hr:ed n X.A)(ho:PE X o (tQ (md X) f))(ha:PE X e (tD (md X) g))(k:autoParam (attributeBase o "index" X.env (eval o X.env)=eval o X.env) af._auto_1) (r:autoParam (((backTo h (starEach [e] X.env)).all (λx=> !x.1)&&(backToKw h (keywordEach [] X.env)).all (λx=>x.1.isSome)
   &&decide ([e].length+([]:List Keyword).length+(if ([]:List Keyword).isEmpty then 0 else 1)<30))=true) af._auto_1)
  (l:autoParam ((i.endLine==h.line)=true) af._auto_1) (I:autoParam (starEach [e] X.env= [(false,eval e X.env)]) af._auto_1):PE X (.Call (.Attribute o "index" i) [e] [] h) (tD (md X) (EF f g)):=
 gX (y0 PySem.F.plainAttrs_list PySem.F.slot_list_index PySem.F.type_list_index (Cr hr.units) ho (aq ha aw I) k r l I) λσ H Q qq=>by
  let#[ρ,C,S,d,S',ok,e,q]:=qq
  let#[#[#[ds,t],M],e1,e]:=ar e
  dsimp only at e
  split at e
  ·rename_i z
   let#[#[y,S2],e2,e]:=ar e
   dsimp only at e
   split at e
   ·rename_i Y
    let#[p,K,e]:=ar e
    let#[ps,N,e]:=ar e
    split at e
    ·rename_i cd
     let#[j,R,e]:=ar e
     let#[rfl,rfl]:=bI e
     refine#[ρ,C,S,ds,t,M,ok,e1,λv a us H1 P s B W=>#[.inl #[L,us,B.sqL z],v,C,M,[y],S2,ok.to P s,by erw[au,az,e2,Qbq],λZ ws H2 J m w=>?_]]
     let#[u,h3,U]:=B.to W J m Y
     cases w with
     | cons w rr=>
       cases rr
       exact#[a,u,_,j,p,ps,L,L,h3.sqL z,jV w K,rM U N,tY K,lH N,cd,R,q _ _ _ (P.trans J) m (.int _)]
    ·cases e
   ·cases e
  ·cases e
def DC{k:cI}{S:aH}{f:eF}{g:bc}{Q:D->aH->Prop}(h:E f k S λp m=>p.2.isL=true/\E g k m λy d=>p.2.stays d p.1/\∃i ps j,iX y=some i/\gh p.1=some ps/\i.depth<=60/\qz i ps=some j/\Q (.int (j:Nat)) d):E (EF f g) k S Q:=by
 let#[p,m,v,l,y,d,s,u,i,ps,j,r,n,t,o,q]:=h
 exact#[_,d,by unfold EF;rw[v];erw[Qbq];rw[Qhq l,s];erw[Qbq];rw[Qhq u,r,n];erw[Qbq];rw[Qhq t,o];rfl,q]
def Fs{f:cI}{S:aH}{i:X6}{g:fF}{Q:D->aH->Prop}(h:E g f S λds d=>Q (.ref d.length) (d++ [.dct (fQ [] ((i.map Sum.inr).zip ds))])):E (Il i g) f S Q:=by
 let#[ds,d,j,q]:=h
 exact#[_,_,by unfold Il;rw[j];rfl,q]
def Kd(f:bc):bc:=λh S=>(f h S).bind λ(d,g)=>(iX d).bind λp=>if p.showable=true/\p.depth<=100/\p.shown.length<=sizeLine then some (.str p.shown,g) else none
def Di{f:bc}{n:Nat}{p:Pos}(h:ed n X.A)(k:Gl X "repr")(t:X.mg "repr"=none)(w:PE X a (tD (md X) f))(i:autoParam (starEach [a] X.env= [(false,eval a X.env)]) af._auto_1):PE X (.Call (.Name "repr" p) [a] [] pos) (tD (md X) (Kd f)):=
 gX (eM (Ae h.gd (by have:=h.un;omega)) k t boot_repr (dE w fN i) (he:=i)) λF H Q o=>by
  let#[r,s,S,d,I,ok,e,q]:=o
  let#[#[x,B],u,e]:=ar e
  let#[y,m,e]:=ar e
  split at e
  ·rename_i c
   let#[rfl,rfl]:=bI e
   exact#[r,s,S,x,B,ok,u,λl v H1 C g j=>#[v,y,λ_=>False,L,jV j m,λ_ z=>z.elim,c.1,c.2.1,c.2.2,q _ _ _ C g (.str _)]]
  ·cases e
def MZ{i:cI}{S:aH}{f:bc}{Q:D->aH->Prop}(h:E f i S λd g=>∃p,iX d=some p/\p.showable=true/\p.depth<=100/\p.shown.length<=sizeLine/\Q (.str p.shown) g):E (Kd f) i S Q:=by
 let#[d,g,j,p,m,k,n,l,q]:=h
 exact#[_,g,by unfold Kd;rw[j];erw[Qbq];rw[m];erw[Qbq];rw[Qhq #[k,n,l]],q]
end
end DL
namespace L2
open PySem PySem.Spec PyProof.Rows
section
variable{prog:X9}{w:Xc}{A:X_}{s:X4}{elt t1 i1 t2 i2:Expr}{f1 f2:List Expr}{scope:Scope}{pos:Pos}{it acc:Xd}{env:Env}{R:Result->Shared->Prop}
def yo(d:codeAny (model prog w) A (.compLoop (.ListComp elt [#[t1,i1,f1,0],#[t2,i2,f2,0]] scope pos) 1 it acc env) R s)
  (c:wpAny (model prog w) A (pyIter it) (λa b=>codeAny (model prog w) A (.compLoop (.ListComp elt [#[t1,i1,f1,0],#[t2,i2,f2,0]] scope pos) 1 a acc env) R b) (λ_ _=>False) s):
  codeAny (model prog w) A (.compStart (.ListComp elt [#[t1,i1,f1,0],#[t2,i2,f2,0]] scope pos) 1 it acc env) R s:=by
 refine codeAny_of_tree ?_
 refine wpAny_notedAt ?_
 show wpAny _ A (compStart (.ListComp elt [#[t1,i1,f1,0],#[t2,i2,f2,0]] scope pos) 1 it acc env) _ _ s
 unfold compStart
 show wpAny _ A (ask >>= _) _ _ s
 refine Qaq (wpAny_askSetting ?_)
 refine wpAny_ite ?_
 split
 ·exact Qgq #[L,d]
 refine Qaq (wpAny_rule ?_)
 show wpAny _ A (standAt _ >>= _) _ _ s
 exact Qaq (wpAny_standAt (Qaq (QRq c (λa b h=>Qgq #[L,h]) λ_ _ h=>h.elim)))
def Fc(I:Nat->Shared->Prop)
  (p:∀n s,I n s->wpAny (model prog w) A (pyNext it) (λr d=>match r with
   |none=>R (.ok .next) d
   |some v=>wpAny (model prog w) A (letOwnedTupleGo t2 it v) (λ_ a=>wpAny (model prog w) A (assign t2 env v) (λ_ i=>
     wpAny (model prog w) A (forIn f2 true λc r=>if r=true then do let ok<-isTrue c env (eval c env);pure (ForInStep.yield ok) else pure (ForInStep.yield r)) (λok s₃=>
      if ok=true then wpAny (model prog w) A (eval elt env) (λx f=>
       wpAny (model prog w) A (call (.builtin "list.append") [acc,x]) (λ_ g=>∃m,m<n/\I m g) (λ_ _=>False) f) (λ_ _=>False) s₃
      else∃m,m<n/\I m s₃) (λ_ _=>False) i) (λ_ _=>False) a) (λ_ _=>False) d) (λ_ _=>False) s)
  (n:Nat) (h:I n s):codeAny (model prog w) A (.compLoop (.ListComp elt [#[t1,i1,f1,0],#[t2,i2,f2,0]] scope pos) 1 it acc env) R s:=by
 refine codeAny_loop L I (λn s q=>?_) n h
 show wpAny _ A ((compTurn (.ListComp elt [#[t1,i1,f1,0],#[t2,i2,f2,0]] scope pos) 1 it acc env).onRaise (λx=>do noteFrame x env;theTreesLotGoes x)) _ _ s
 refine wpAny_noted ?_
 unfold compTurn
 show wpAny _ A (standAt _ >>= λ_=>pyNext it >>= _) _ _ s
 refine Qaq (wpAny_standAt (Qaq (QRq (p n s q) (λr d e=>?_) λ_ _ b=>b.elim)))
 cases r with
 |none=>exact Qgq e
 | some v=>
   refine Qaq (QRq e (λ_ a j=>?_) λ_ _ b=>b.elim)
   refine Qaq (QRq j (λ_ i l=>Qaq (QRq l (λok s₃ h₃=>?_) λ_ _ b=>b.elim)) λ_ _ b=>b.elim)
   cases ok with
   |false=>exact Qgq #[L,h₃]
   | true=>
     exact Qaq (Qaq (QRq h₃ (λx f k=>Qaq (QRq k (λ_ g o=>Qgq (Qgq #[L,o])) λ_ _ b=>b.elim)) λ_ _ b=>b.elim))
def CS(B:∀x,foldedSetIterable i2 env x=pure x)(I:Nat->Shared->Prop)
  (u:∀n s,I n s->wpAny (model prog w) A (pyNext it) (λr d=>match r with
   |none=>R (.ok .next) d
   |some v=>wpAny (model prog w) A (letOwnedTupleGo t1 it v) (λ_ a=>wpAny (model prog w) A (assign t1 env v) (λ_ k=>
     wpAny (model prog w) A (forIn f1 true λc r=>if r=true then do let ok<-isTrue c env (eval c env);pure (ForInStep.yield ok) else pure (ForInStep.yield r)) (λok s₃=>
      if ok=true then wpAny (model prog w) A (eval i2 env) (λx i=>
       wpAny (model prog w) A (pyIter x) (λq j=>codeAny (model prog w) A (.compStart (.ListComp elt [#[t1,i1,f1,0],#[t2,i2,f2,0]] scope pos) 1 q acc env) (λr y=>match r with|.ok _=>∃m,m<n/\I m y|.error _=>False) j) (λ_ _=>False) i) (λ_ _=>False) s₃
      else∃m,m<n/\I m s₃) (λ_ _=>False) k) (λ_ _=>False) a) (λ_ _=>False) d) (λ_ _=>False) s)
  (n:Nat) (h:I n s):codeAny (model prog w) A (.compLoop (.ListComp elt [#[t1,i1,f1,0],#[t2,i2,f2,0]] scope pos) 0 it acc env) R s:=by
 refine codeAny_loop L I (λn s z=>?_) n h
 show wpAny _ A ((compTurn (.ListComp elt [#[t1,i1,f1,0],#[t2,i2,f2,0]] scope pos) 0 it acc env).onRaise (λx=>do noteFrame x env;theTreesLotGoes x)) _ _ s
 refine wpAny_noted ?_
 unfold compTurn
 show wpAny _ A (standAt _ >>= λ_=>pyNext it >>= _) _ _ s
 refine Qaq (wpAny_standAt (Qaq (QRq (u n s z) (λr d g=>?_) λ_ _ b=>b.elim)))
 cases r with
 |none=>exact Qgq g
 | some v=>
   refine Qaq (QRq g (λ_ a l=>?_) λ_ _ b=>b.elim)
   refine Qaq (QRq l (λ_ k p=>Qaq (QRq p (λok s₃ h₃=>?_) λ_ _ b=>b.elim)) λ_ _ b=>b.elim)
   cases ok with
   |false=>exact Qgq #[L,h₃]
   | true=>
     refine Qaq (QRq h₃ (λx i o=>?_) λ_ _ b=>b.elim)
     show wpAny _ A (standAt _ >>= λ_=>foldedSetIterable i2 env x >>= _) _ _ _
     rw[B]
     refine Qaq (wpAny_standAt (Qaq (Qgq ?_)))
     show wpAny _ A (holding [x] (pyIter x) >>= _) _ _ _
     refine Qaq (QLq (QRq o (λq j t=>?_) λ_ _ b=>b.elim))
     refine Qaq (wpAny_runOwn (h:=none) ?_ (by simp))
     show codeAny _ A _ _ _
     refine codeAny_mono t λr y h=>?_
     cases r with
     |ok f=>exact Qgq #[L,h]
     |error e=>exact h.elim
end
def ND(J:It)(g:TG)(n:TT)(l:TE)(D:X8)(k:St->Hp->Prop)(o:St)(H:Hp):Prop:=
 ∃ W:Nat->Nat->St->Hp->Prop,(∃m,W 0 m o H)/\∀i m c e,W i m c e->
   (J.stop i e/\k c e)\/(J.go i e/\∃f:St->Hp->Prop,(∀b d,f b d->∃j,j<m/\W (i+1) j b d)∧
     ∀ x H2,J.yld i e x H2->g x c H2 λa H3=>n a H3 λok H4=>
       if ok=true then l a H4 λy H5=>∃h,H5 D=some (.lst h)/\h.length<sizeLine/\f a (upd H5 D (.lst (h++ [y]))) else f a H4)
def Je(J:It)(g:TG)(p:TT)(f:TI)(l:TG)(j:TT)(n:TE)(Q:VK)(D:X8)(q:St)(H:Hp):Prop:=
 ∃ W:Nat->Nat->St->Hp->Prop,(∃m,W 0 m q H)/\∀i m d e,W i m d e->
   (J.stop i e/\Q (.ref D) e)\/(J.go i e/\∃h:St->Hp->Prop,(∀b c,h b c->∃k,k<m/\W (i+1) k b c)∧
     ∀ x H2,J.yld i e x H2->g x d H2 λa H3=>p a H3 λok H4=>
       if ok=true then f a H4 λo H5=>ND o l j n D h a H5 else h a H4)
def E5(js:List (Option Nat))(d:TI)(g:TG)(h:TT)(b:TI)(e:TG)(a:TT)(f:TE):TE:=λc H Q=>d c H λJ H1=>∀D,H1 D=none->Je J g h b e a f Q D (kh js c) (upd H1 D (.lst []))
def Dm{X:Cx}{N:X6}{js:List (Option Nat)}{a:Scope}{F:List (Str×Addr)}{tg Z b5 M b9:Expr}{c5 a5:List Expr}{pos:Pos}{wi d7:TI}{g g2:TG}{tt e4:TT}{te:TE}
  (S:aK X N js a F) (hc:X.calm=true) (hi:PI X tg Z wi)
  (hg:∀C s H fp,PG (aP X N a F C s H fp) tg g) (ht:∀C s H fp,nE (aP X N a F C s H fp) c5 tt) (f7:∀C s H fp,PI (aP X N a F C s H fp) b5 M d7) (g7:∀C s H fp,PG (aP X N a F C s H fp) b5 g2) (g5:∀C s H fp,nE (aP X N a F C s H fp) a5 e4) (he:∀C s H fp,PE (aP X N a F C s H fp) b9 te)
  (hs:autoParam (∀x,foldedSetIterable Z X.env x=pure x) ag._auto_1) (f8:autoParam (∀env x,foldedSetIterable M env x=pure x) aj._auto_1):PE X (.ListComp b9 [⟨tg,Z,c5,0⟩,⟨b5,M,a5,0⟩] a pos) (E5 js wi g tt d7 g2 e4 te):=by
 intro c8 s σ H Q I h
 rw[eval_ListComp]
 refine wpAny_comprehension_free (use:=none) L hs S.clos S.kind S.names (bZ (hi c8 s σ H _ I h) λv s1 h1=>bZ h1 λh0 k h2=>?_)
 let#[it,fp,tn,J,H2,e,P,T,d4,f2,hD]:=h2
 subst e
 refine QhQ (wpAny_newFunctionEnv S.nocell (by intro y hy;simp at hy) (λa0 Y K=>?_) S.kind)
 dsimp only at Y K|-
 generalize d1:k.heap.push {cls:=.type "list",dict:=none,data:=.seq ([]:List Value).toArray}=P2 at Y K|-
 have hC:P2.objs.size=k.heap.objs.size+1:=by rw[<-d1,Heap.size_push]
 have f4:k.heap.objs.size≠P2.objs.size:=by rw[hC];exact Qwq (Nat.lt_succ_self _)
 have c6:k.heap.objs.size<=P2.objs.size:=by rw[hC];exact Nat.le_succ _
 have U:∀b,b<k.heap.objs.size->b≠P2.objs.size:=λb f=>by rw[hC];exact Qwq (Nat.lt_succ_of_lt f)
 have a6:∀b o,k.heap.get? b=some o->a0.get? b=some o:=λb o e=>K.extBut b o (U b (Qiq e)) (Qcq _ (d1▸Qcq _ e))
 have f3:a0.get? k.heap.objs.size=some {cls:=.type "list",dict:=none,data:=.seq ([]:List Value).toArray}:=K.extBut _ _ f4 (Qcq _ (d1▸Qrq _ L))
 have nD:H2 k.heap.objs.size=none:=P.fresh
 have nC:H2 P2.objs.size=none:=P.hok.fresh c6
 have d5:∀b∈fp,b<k.heap.objs.size:=λb f=>by
  let#[o,e,_]:=T.obj _ _ d4 b f
  exact Qiq e
 let#[W,#[m0,w0],f5]:=hD k.heap.objs.size nD
 have d8:(aP X N a F P2.objs.size k H2 fp).Ok:=by
  refine⟨P.ok.mod,S.kind,P.ok.glob,P.ok.blt,c6,λx y c h1 h2=>P.ok.inj x y c (S.sub x c h1) (S.sub y c h2),S.has,(λx c h=>by cases h),P.ok.hd,P.ok.frames,.inl L,
   λb f=>#[U b (d5 b f),λx c h=>(f2 b f).2.2.2.2.1 x c (S.sub x c h)],P.bs,QAq P.ok.bsz P.sz,λb o e f=>?_,λb f z=>?_,P.stack,P.stkFree⟩
  ·rcases(f2 b f).2.2.2.1 with z|z
   ·exact P.ok.noex b o e z
   ·exact absurd (Qqq (Qqq (Qiq e) P.ok.bsz) z) (Nat.lt_irrefl _)
  ·rcases Qsq.mp (P.stkSub b z) with q|q
   ·exact(f2 b f).2.1 q
   ·exact(f2 b f).2.2.1 q
 have e7:cJ X.prog X.w (upd H2 k.heap.objs.size (.lst [])) a0 k.heap.objs.size (.lst []):=#[Nat.zero_le _,[],0,.nil,f3]
 have I4:Inv (aP X N a F P2.objs.size k H2 fp) [] (kh js σ) (upd H2 k.heap.objs.size (.lst [])) {k with heap:=a0,toks:=k.toks+([]:List (Str×Value)).length}:=by
  refine#[d8,L,P.bare,Un.laid a6 (Qmq _) nD,#[_,Y,λi x v h1 h2 h3=>?_],λx c h=>?_,by show upd H2 _ _ P2.objs.size=none;rw[a7 f4.symm];exact nC,λx c h=>?_,λp hp=>absurd (show p∈([]:List (Addr×Obj)) from hp) (by simp),P.hok.laid a6 (Qmq _) e7,by show(kh js σ).length=N.length;unfold kh;rw[lQm];exact S.len]
  ·unfold kh at h2
   rw[gQm] at h2
   cases e:js[i]? with
   |none=>rw[e] at h2;cases h2
   | some o=>
     rw[e] at h2
     cases o with
     |none=>cases h2
     | some j=>
       have b7:σ.getD j none=some v:=QdQ h2
       have hj:σ[j]?=some (some v):=by
         rw[Qlq] at b7
         cases q:σ[j]? with
         |none=>rw[q] at b7;cases b7
         |some y=>rw[q] at b7;exact congrArg some b7
       let#[c1,c2,c3]:=S.cap i j x e h1
       let#[m,hn,hl]:=P.loc
       have g4:HU X.env.scope x:=by
         rcases c2 with z|z
         · exact .inr (.inl z)
         · exact .inr (.inr z)
       let#[u,r,l]:=hl j x v c1 hj g4
       refine#[u,r,.inr #[c3,?_]]
       let#[c,e3]:=S.has x c3
       refine#[c,e3,?_]
       rcases l with⟨z,_⟩|⟨_,c',e',z⟩
       · rcases c2 with y|y <;>rw[y] at z <;>cases z
       · rw[S.sub x c e3] at e'
         cases e'
         let#[o,ho,hd]:=z
         exact#[o,a6 _ _ ho,hd]
  ·let#[v,o,ho,hd]:=P.cell x c (S.sub x c h)
   exact#[v,o,a6 _ _ ho,hd]
  ·let#[v,o,ho,hd]:=P.cell x c (S.sub x c h)
   rw[a7 (Qwq (Qiq ho))]
   exact P.freeC x c (S.sub x c h)
 have b3:∀{a2:X2} {B:Hp},a2= []->(∀b∈fp,B b=none)->∀b∈fp,oJ (aP X N a F P2.objs.size k H2 fp) a2 B b:=λ{a2 B} ep hn b f=>by
  subst ep
  refine#[hn b f,U b (d5 b f),λz=>d8.exfs b f z,.inl f,λx c h=>(f2 b f).2.2.2.2.1 x c (S.sub x c h),λp hp=>absurd (show p∈([]:List (Addr×Obj)) from hp) (by simp)]
 have c7:codeAny (model X.prog X.w) X.A (.compLoop (.ListComp b9 [⟨tg,Z,c5,0⟩,⟨b5,M,a5,0⟩] a pos) 0 (.ref it) (.ref k.heap.objs.size) (compEnvC a F P2.objs.size X.env))
   (compPost (model X.prog X.w) X.A X.xe none (EP X c8 σ Q) (.ref k.heap.objs.size) P2.objs.size) {k with heap:=a0,toks:=k.toks+([]:List (Str×Value)).length}:=by
  refine CS (f8 _) (λn s'=>∃i t B,Inv (aP X N a F P2.objs.size k H2 fp) [] t B s'/\tn i s'.heap/\(∀b∈fp,B b=none)/\W i n t B) ?_ m0
   #[0,_,_,I4,T.keep _ _ _ d4 λb _ o e=>a6 b o e,λb f=>by rw[a7 (Qwq (d5 b f))];exact(f2 b f).1,w0]
  rintro n s3 ⟨i,b8,H3,I3,e0,e6,w3⟩
  rcases f5 i n b8 H3 w3 with⟨stop,q⟩|⟨go,Nx,hN,d9⟩
  ·refine bZ (T.done (aP X N a F P2.objs.size k H2 fp) L L L hc i [] s3 b8 H3 _ I3 (b3 L e6) e0 stop) λr s4 R=>?_
   let#[hr,I5]:=R
   subst hr
   let#[m,hn,_]:=id I5.loc
   refine#[m,hn,λh' c4=>#[.ref k.heap.objs.size,H3,?_,L,q]]
   let u:=I5.base
   have ne:∀b o,k.heap.get? b=some o->b≠P2.objs.size:=λb o e=>U b (Qiq e)
   refine P.call' (ch:=fp) I5.os #[λb o e n f hx=>(c4.2 b (ne b o e)).trans (u.keep b o e n f hx),λb o e n f hx=>?_,u.free,λb o e hx=>?_,u.tups,u.frzs,u.tbls] (λb ob e=>?_) I5.bare λb f=>#[(f2 b f).2.2.2.1,(f2 b f).2.1,(f2 b f).2.2.2.2.1,(f2 b f).2.2.2.2.2]
   ·let#[sl,e1]:=u.slot b o e n f hx
    exact#[sl,(c4.2 b (ne b o e)).trans e1]
   ·let#[o',e1]:=u.there b o e hx
    exact#[o',(c4.2 b (ne b o e)).trans e1]
   ·refine(I5.hok b ob e).stay (λc w' hc q=>(c4.2 c ?_).trans q) (λ_ q=>q) λ_ _ q=>q
    have fC:H3 P2.objs.size=none:=I5.free
    rintro rfl
    rcases hc with z|z
    ·rw[<-z,fC] at e;cases e
    ·rw[fC] at z;cases z
  ·refine bZ (T.item (aP X N a F P2.objs.size k H2 fp) L L L hc i [] s3 b8 H3 _ I3 (b3 L e6) e0 go) λr s4 R=>?_
   let#[u,hr,h4]:=R
   subst hr
   refine bZ h4 λ_ s5 R=>?_
   let#[x,H5,I5,r5,y5,b2,g3]:=R
   let g8:=I5.pinned (b3 L g3) (T.obj _ _ b2)
   refine bZ (hg P2.objs.size k H2 fp _ s5 b8 H5 x u _ g8 r5 (d9 x H5 y5)) λ_ s6 R=>?_
   let#[b0,H6,I6,q6]:=R
   refine bZ (ht P2.objs.size k H2 fp _ s6 b0 H6 _ I6 q6) λok s7 R=>?_
   let#[H7,I7,q7]:=R
   have c9:∀{s8:X4} {H8:Hp},Inv (aP X N a F P2.objs.size k H2 fp) ([]++gH fp s5.heap) b0 H8 s8->Nx b0 H8->∃m,m<n/\∃i t B,Inv (aP X N a F P2.objs.size k H2 fp) [] t B s8/\tn i s8.heap/\(∀b∈fp,B b=none)/\W i m t B:=λ{s8 H8} I8 n8=>by
    let#[m',hm,w8]:=hN b0 H8 n8
    refine#[m',hm,i+1,b0,H8,I8.unpinned,T.keep _ _ _ b2 λb f o e=>(I8.pin (b,o) (Qoq _ (Qoq _ (cv f e)))).1,λb f=>?_,w8]
    let#[o,e,d]:=T.obj _ _ b2 b f
    exact(I8.pin (b,o) (Qoq _ (Qoq _ (cv f e)))).2.1
   cases ok with
   |false=>exact c9 I7 q7
   | true=>
     refine bZ (f7 P2.objs.size k H2 fp _ s7 b0 H7 _ I7 q7) λv8 s8 h8=>bZ h8 λg9 s9 h9=>?_
     let#[g1,b6,e5,J2,H9,e9,I9,T2,e2,f9,W2,#[m9,w9],d3]:=h9
     subst e9
     have a3:∀{B:Hp},(∀b∈b6,B b=none)->∀b∈b6,oJ (aP X N a F P2.objs.size k H2 fp) ([]++gH fp s5.heap) B b:=λhn b f=>#[hn b f,(f9 b f).2]
     have b4:codeAny (model X.prog X.w) X.A (.compLoop (.ListComp b9 [⟨tg,Z,c5,0⟩,⟨b5,M,a5,0⟩] a pos) 1 (.ref g1) (.ref k.heap.objs.size) (compEnvC a F P2.objs.size X.env))
         (λr s'=>match r with|.ok _=>∃m,m<n/\∃i t B,Inv (aP X N a F P2.objs.size k H2 fp) [] t B s'/\tn i s'.heap/\(∀b∈fp,B b=none)/\W i m t B|.error _=>False) s9:=by
       refine Fc (λn s'=>∃i t B,Inv (aP X N a F P2.objs.size k H2 fp) ([]++gH fp s5.heap) t B s'/\e5 i s'.heap/\(∀b∈b6,B b=none)/\W2 i n t B) ?_ m9
         #[0,_,_,I9,e2,λb f=>(f9 b f).1,w9]
       rintro n' sa ⟨i',b1,Ha,Ia,e8,f1,wa⟩
       rcases d3 i' n' b1 Ha wa with⟨stop,qn⟩|⟨go,f0,g0,d2⟩
       · refine bZ (T2.done (aP X N a F P2.objs.size k H2 fp) L L L hc i' _ sa b1 Ha _ Ia (a3 f1) e8 stop) λr sb R=>?_
         let#[hr,Ib]:=R
         subst hr
         let#[m',hm,w8]:=hN b1 Ha qn
         refine#[m',hm,i+1,b1,Ha,Ib.unpinned,T.keep _ _ _ b2 λb f o e=>(Ib.pin (b,o) (Qoq _ (Qoq _ (cv f e)))).1,λb f=>?_,w8]
         let#[o,e,d]:=T.obj _ _ b2 b f
         exact(Ib.pin (b,o) (Qoq _ (Qoq _ (cv f e)))).2.1
       · refine bZ (T2.item (aP X N a F P2.objs.size k H2 fp) L L L hc i' _ sa b1 Ha _ Ia (a3 f1) e8 go) λr sb R=>?_
         let#[u,hr,f]:=R
         subst hr
         refine bZ f λ_ sc R=>?_
         let#[x,Hc,Ic,rc,yc,d6,g6]:=R
         let f6:=Ic.pinned (a3 g6) (T2.obj _ _ d6)
         refine bZ (g7 P2.objs.size k H2 fp _ sc b1 Hc x u _ f6 rc (d2 x Hc yc)) λ_ sd R=>?_
         let#[a1,Hd,Id,qd]:=R
         refine bZ (g5 P2.objs.size k H2 fp _ sd a1 Hd _ Id qd) λok se R=>?_
         let#[He,Ie,qe]:=R
         have a4:∀{sf:X4} {Hf:Hp},Inv (aP X N a F P2.objs.size k H2 fp) (([]++gH fp s5.heap)++gH b6 sc.heap) a1 Hf sf->f0 a1 Hf->∃m,m<n'/\∃i t B,Inv (aP X N a F P2.objs.size k H2 fp) ([]++gH fp s5.heap) t B sf/\e5 i sf.heap/\(∀b∈b6,B b=none)/\W2 i m t B:=λ{sf Hf} If nf=>by
           let#[m',hm,wf]:=g0 a1 Hf nf
           refine#[m',hm,i'+1,a1,Hf,If.unpinned,T2.keep _ _ _ d6 λb f o e=>(If.pin (b,o) (Qoq _ (Qoq _ (cv f e)))).1,λb f=>?_,wf]
           let#[o,e,d]:=T2.obj _ _ d6 b f
           exact(If.pin (b,o) (Qoq _ (Qoq _ (cv f e)))).2.1
         cases ok with
         |false=>exact a4 Ie qe
         | true=>
           refine bZ (he P2.objs.size k H2 fp _ se a1 He _ Ie qe) λyv sf R=>?_
           let#[y,Hf,If,ry,xs,hx,hl,nf]:=R
           refine bZ (lK (X:=aP X N a F P2.objs.size k H2 fp) _ sf a1 Hf (.ref k.heap.objs.size) [y] (.ref k.heap.objs.size) [yv] (λ_ B=>f0 a1 B) If L (.cons ry .nil) #[_,xs,y,L,L,hx,hl,nf]) λ_ sg R=>?_
           let#[z,Hg,Ig,_,qg]:=R
           exact a4 Ig qg
     exact yo b4 (T2.self _ 0 _ _ _ e2 b4)
 exact codeAny_compStart_list c7 (T.self _ 0 _ _ _ (T.keep _ _ _ d4 λb _ o e=>a6 b o e) c7)
end L2
namespace DL
open PySem PySem.Spec PyProof.Rows L2
open Classical in
def tF(g:kA)(t:iB)(f:bc)(k:Nat)(W:aH->Prop):List D->cI->aH->Option (cI×aH)
 | [],Γ,S=>if W S then some (Γ,S) else none
 |d ::ds,Γ,S=>if W S then(g d Γ S).bind λ(a,h)=>(t a h).bind λ(b,c)=>
    if b=true then(f a c).bind λ(y,e)=>match e[k]? with
      |some (.lst acc)=>if acc.length<sizeLine then tF g t f k W ds a (e.set k (.lst (acc++ [y]))) else none
      |_=>none
    else tF g t f k W ds a c
  else none
open Classical in
def l7(g:kA)(t:iB)(h:qh)(e:kA)(c:iB)(f:bc)(k:Nat)(W:aH->Prop):List D->cI->aH->Option aH
 | [],Γ,S=>if W S then some S else none
 |d ::ds,Γ,S=>if W S then(g d Γ S).bind λ(a,n)=>(t a n).bind λ(b,j)=>
    if b=true then(h a j).bind λ(p,l)=>(tF e c f k p.2 p.1 a l).bind λ(i,m)=>l7 g t h e c f k W ds i m
    else l7 g t h e c f k W ds a j
  else none
open Classical in
def mV(js:List (Option Nat))(i:qh)(g:kA)(t:iB)(h:qh)(d:kA)(e:iB)(f:bc):fF:=λc S=>(i c S).bind λ(p,a)=>
 (l7 g t h d e f a.length p.2 p.1 (oF js c) (a++ [.lst []])).bind λb=>match b[a.length]? with
  |some (.lst acc)=>if kB a b/\bz a.length acc=true then some (acc,b.take a.length) else none
  |_=>none
section
variable{M:Md}
def Kq{g:kA}{t:iB}{f:bc}{k:Nat}{W:aH->Prop}{ds:List D}{J:It}{a:X7}{H1:Hp}{D0:X8}{o:cI}{R:aH}{Nx:L2.St->Hp->Prop}(wk:Walks M J a H1 ds W){Γ:cI}{S:aH}{σ:L2.St}
  (hD:a[k]?=some D0) (ok:Ok M a Γ S σ H1) (e:tF g t f k W ds Γ S=some (o,R)) (hn:∀c d n,bQ a H1 c n->Ok M c o R d n->Nx d n):ND J (tG M g) (tB M t) (tD M f) D0 Nx σ H1:=by
 refine⟨λi m d n=>m=ds.length-i/\i<=ds.length/\∃h r z,bQ a H1 h n/\Ok M h r z d n/\tF g t f k W (ds.drop i) r z=some (o,R),
  #[ds.length,by simp,Nat.zero_le _,a,_,_,bQ.refl,ok,e],?_⟩
 rintro i m a3 H2 ⟨rfl,hi,h,r,z,x2,ok2,e2⟩
 by_cases u:i<ds.length
 ·have hd:ds[i]?=some ds[i]:=gQe u
  rw[QWq u] at e2
  unfold tF at e2
  split at e2
  ·rename_i w
   let#[w1,w2]:=wk i h z H2 x2 ok2.st w
   let#[go,U]:=w1 _ hd
   refine .inr ⟨go,λd n=>∃c q s,bQ a H1 c n/\Ok M c q s d n/\tF g t f k W (ds.drop (i+1)) q s=some (o,R),
    λd n ⟨c,q,s,h1,Q,h3⟩=>#[ds.length-(i+1),by omega,L,u,c,q,s,h1,Q,h3],λx H3 hy=>?_⟩
   let#[x3,X,r3]:=U x H3 hy
   let#[#[j,S4],e4,e5]:=ar e2
   refine#[h,r,z,_,j,S4,ok2.to x3 X,r3,e4,λZ a1 H4 x4 p=>?_]
   let#[#[b,Y],e6,N]:=ar e5
   refine#[Z,j,S4,b,Y,p,e6,λK H5 P B=>?_]
   let H:=(x3.trans x4).trans P
   dsimp only at N|-
   split at N
   ·rename_i ck
    rw[Qhq ck]
    let#[#[y,S6],e8,A]:=ar N
    refine#[K,j,Y,y,S6,p.to P B,e8,λC v H6 x6 F r6=>?_]
    let I:=H.trans x6
    dsimp only at A
    split at A
    ·rename_i a2 hS
     split at A
     ·rename_i cl
      have hk:C[k]?=some D0:=by
       let#[l,rfl]:=(x2.trans I).pre
       rw[QHq (gQs.mp hD).1]
       exact hD
      let#[vs,h1,Q]:=F.obj k _ _ hk hS
      let#[a0,x7]:=F.putL hk hS (Q.append (.cons r6 .nil))
      refine#[vs,h1,by rw[<-Q.length];exact cl,C,j,_,(x2.trans I).trans x7,#[((p.en.ext P).ext x6).ext x7,a0],A]
     ·cases A
    ·cases A
   ·rename_i ck
    rw[Quq ck]
    exact#[K,j,Y,x2.trans H,p.to P B,N]
  ·cases e2
 ·have e3:i=ds.length:=by omega
  subst e3
  rw[List.drop_length] at e2
  unfold tF at e2
  split at e2
  ·rename_i w
   let#[rfl,rfl]:=bI e2
   let#[w1,w2]:=wk ds.length h z H2 x2 ok2.st w
   exact .inl #[w2 L,hn _ _ _ x2 ok2]
  ·cases e2
def FV{js:List (Option Nat)}{i i2:qh}{g g2:kA}{t t2:iB}{f:bc}:∀σ H Q,tL M (mV js i g t i2 g2 t2 f) σ H Q->E5 js (tI M i) (tG M g) (tB M t) (tI M i2) (tG M g2) (tB M t2) (tD M f) σ H Q:=λσ H Q qq=>by
 let#[ρ,Γ,S,rs,S',ok,e,q]:=qq
 let#[#[#[k,W],K],e1,e]:=ar e
 let#[Sr,e,P]:=ar e
 refine#[ρ,Γ,S,k,W,K,ok,e1,λd J H1 x1 n wk D Y=>?_]
 have n1:D∉d:=cn x1 n Y
 let a0:=(n.lay (u:=.lst []) Y).box (o:=.lst []) n1 #[[],bg,.nil]
 have a3:bQ d H1 (d++ [D]) (upd H1 D (.lst [])):=by
  have y:bQ d H1 d (upd H1 D (.lst [])):=bQ.laid Y
  refine#[List.prefix_append _ _,λa U=>?_,y.keep,y.grow]
  rcases mQa.mp U with U|U
  ·exact .inl U
  ·rw[Qfq] at U;subst U;exact .inr Y
 have a6:Ok M (d++ [D]) (oF js Γ) (K++ [.lst []]) (kh js σ) (upd H1 D (.lst [])):=#[((ok.en.ext x1).ext a3).sig js,a0]
 have a2:(d++ [D])[K.length]?=some D:=by
  rw[<-n.len,QQq (Qmq _)]
  simp
 dsimp only at e P
 refine⟨λi m p N=>m=k.length-i/\i<=k.length/\∃h A R,bQ (d++ [D]) (upd H1 D (.lst [])) h N/\Ok M h A R p N/\l7 g t i2 g2 t2 f K.length W (k.drop i) A R=some Sr,
  #[k.length,by simp,Nat.zero_le _,_,_,_,bQ.refl,a6,e],?_⟩
 rintro i m c3 H2 ⟨rfl,hi,h,A,R,x2,ok2,e2⟩
 have F:h[K.length]?=some D:=by
  let#[l,rfl]:=x2.pre
  rw[QHq (gQs.mp a2).1]
  exact a2
 let s:=a3.trans x2
 by_cases C:i<k.length
 ·have hd:k[i]?=some k[i]:=gQe C
  rw[QWq C] at e2
  unfold l7 at e2
  split at e2
  ·rename_i w
   let#[w1,w2]:=wk i h R H2 s ok2.st w
   let#[go,b2]:=w1 _ hd
   refine .inr ⟨go,λp N=>∃j z B,bQ (d++ [D]) (upd H1 D (.lst [])) j N/\Ok M j z B p N/\l7 g t i2 g2 t2 f K.length W (k.drop (i+1)) z B=some Sr,
    λp N ⟨j,z,B,h1,h2,h3⟩=>#[k.length-(i+1),by omega,L,C,j,z,B,h1,h2,h3],λx H3 hy=>?_⟩
   let#[x3,I,r3]:=b2 x H3 hy
   let#[#[r,S4],e4,e5]:=ar e2
   refine#[h,A,R,_,r,S4,ok2.to x3 I,r3,e4,λb4 c1 H4 x4 v=>?_]
   let#[#[b,S5],e6,e7]:=ar e5
   refine#[b4,r,S4,b,S5,v,e6,λa4 H5 x5 X=>?_]
   let Z:=(x3.trans x4).trans x5
   dsimp only at e7|-
   split at e7
   ·rename_i ck
    rw[Qhq ck]
    let#[#[#[b1,W2],S6],e8,e9]:=ar e7
    refine#[a4,r,S5,b1,W2,S6,v.to x5 X,e8,λa5 J2 H6 x6 b3 b0=>?_]
    let a1:=Z.trans x6
    dsimp only at e9
    let#[#[b9,S7],b7,b8]:=ar e9
    have b5:a5[K.length]?=some D:=by
     let#[l,rfl]:=a1.pre
     rw[QHq (gQs.mp F).1]
     exact F
    exact Kq b0 b5 #[(v.en.ext x5).ext x6,b3] b7 λj p N x7 b6=>#[j,_,_,(x2.trans a1).trans x7,b6,b8]
   ·rename_i ck
    rw[Quq ck]
    exact#[a4,r,S5,x2.trans Z,v.to x5 X,e7]
  ·cases e2
 ·have e3:i=k.length:=by omega
  subst e3
  rw[List.drop_length] at e2
  unfold l7 at e2
  split at e2
  ·rename_i w
   let#[w1,w2]:=wk k.length h R H2 s ok2.st w
   cases e2
   refine .inl #[w2 L,?_]
   split at P
   ·rename_i c2 hS
    split at P
    ·rename_i c
     let#[rfl,rfl]:=bI P
     let#[vs,h1,h2]:=ok2.st.obj _ _ _ F hS
     let#[I,x3]:=n.clean s ok2.st c.1
     exact q d D vs H2 (x1.trans x3) I (x1.grow _ Y) n1 h1 (h2.cut s.pre (by rw[n.len];exact c.2))
    ·cases P
   ·cases P
  ·cases e2
end
section
variable{X:Cx}{pos:Pos}
def Ba{N:X6}{js:List (Option Nat)}{a:Scope}{h:List (Str×Addr)}{n c e b j:Expr}{k d:List Expr}{i r:qh}{g u:kA}{t q:iB}{f:bc}
  (S:aK X N js a h) (y:X.calm=true) (hi:PI X n c (tI (md X) i))
  (v:∀C s H fp,PG (aP X N a h C s H fp) n (tG (md X) g)) (ht:∀C s H fp,nE (aP X N a h C s H fp) k (tB (md X) t))
  (l:∀C s H fp,PI (aP X N a h C s H fp) e b (tI (md X) r)) (m:∀C s H fp,PG (aP X N a h C s H fp) e (tG (md X) u)) (o:∀C s H fp,nE (aP X N a h C s H fp) d (tB (md X) q))
  (he:∀C s H fp,PE (aP X N a h C s H fp) j (tD (md X) f))
  (w:autoParam (∀x,foldedSetIterable c X.env x=pure x) ag._auto_1) (p:autoParam (∀env x,foldedSetIterable b env x=pure x) aj._auto_1):PE X (.ListComp j [⟨n,c,k,0⟩,⟨e,b,d,0⟩] a pos) (tL (md X) (mV js i g t r u q f)):=gX (Dm S y hi v ht l m o he w p) FV
end
section
variable{Γ:cI}{S:aH}
theorem Ao{g:kA}{t:iB}{f:bc}{k:Nat}{W:aH->Prop}{R:cI->aH->Prop}{ds:List D}(I:Nat->cI->aH->Prop)(i:∀n Γ S,I n Γ S->W S)
  (l:∀n d Γ S,ds[n]?=some d->I n Γ S->Tg g d Γ S λa p=>E t a p λb j=>if b=true then E f a j λy o=>∃c,o[k]?=some (.lst c)/\c.length<sizeLine/\I (n+1) a (o.set k (.lst (c++ [y]))) else I (n+1) a j)
  (he:∀Γ S,I ds.length Γ S->R Γ S):∀(m n:Nat) (Γ:cI) (S:aH),n+m=ds.length->I n Γ S->∃h S',tF g t f k W (ds.drop n) Γ S=some (h,S')/\R h S'
 | 0,n,Γ,S,hn,hi=>by
   rw[List.drop_of_length_le (!0)]
   exact#[Γ,S,by erw[tF];rw[Qhq (i _ _ _ hi)],he _ _ (by rw[<-hn];exact hi)]
 | m+1,n,Γ,S,hn,hi=>by
   have e:n<ds.length:=by omega
   rw[QWq e]
   let#[a,p,r,b,j,u,q]:=l n ds[n] Γ S (gQe e) hi
   erw[tF]
   rw[Qhq (i _ _ _ hi),r]
   erw[Qbq]
   rw[u]
   erw[Qbq]
   cases b with
   | true=>
     rw[Qhq L] at q|-
     let#[y,o,v,c,w,s,q]:=q
     rw[v]
     erw[Qbq]
     rw[w]
     dsimp only
     rw[Qhq s]
     exact Ao I i l he m (n+1) a _ (!0) q
   | false=>
     rw[Quq (!1)] at q|-
     exact Ao I i l he m (n+1) a j (!0) q
def FB{js:List (Option Nat)}{i M:qh}{g P:kA}{t K:iB}{f:bc}{Q:List D->aH->Prop} (h:E i Γ S λp l=>∃I:Nat->cI->aH->Prop,I 0 (oF js Γ) (l++ [.lst []])/\(∀n Γ S,I n Γ S->p.2 S)∧
   (∀n d Γ S,p.1[n]?=some d->I n Γ S->Tg g d Γ S λc U=>E t c U λb H=>if b=true then E M c H λx X=>∃o:Nat->cI->aH->Prop,o 0 c X/\(∀n Γ S,o n Γ S->x.2 S)∧
     (∀J Y Γ S,x.1[J]?=some Y->o J Γ S->Tg P Y Γ S λj N=>E K j N λb S6=>if b=true then E f j S6 λy S7=>∃a,S7[l.length]?=some (.lst a)/\a.length<sizeLine/\o (J+1) j (S7.set l.length (.lst (a++ [y]))) else o (J+1) j S6)∧
     ∀Γ S,o x.1.length Γ S->I (n+1) Γ S
    else I (n+1) c H)∧
   ∀Γ S',I p.1.length Γ S'->∃a,S'[l.length]?=some (.lst a)/\(kB l S'/\bz l.length a=true)/\Q a (S'.take l.length)):E (mV js i g t M P K f) Γ S Q:=by
 let#[#[u,W],l,e1,I,h0,hW,s,w]:=h
 have go:∀(m n:Nat) (e:cI) (S':aH),n+m=u.length->I n e S'->∃A C,l7 g t M P K f l.length W (u.drop n) e S'=some C/\I u.length A C:=by
  intro m
  induction m with
  | zero=>
    intro n e S' hn B
    rw[List.drop_of_length_le (!0)]
    exact#[e,S',by erw[l7];rw[Qhq (hW _ _ _ B)],by rw[<-hn];exact B]
  | succ m ih=>
    intro n e S' hn B
    have v:n<u.length:=by omega
    rw[QWq v]
    let#[c,U,F,b,H,e3,q]:=s n u[n] e S' (gQe v) B
    erw[l7]
    rw[Qhq (hW _ _ _ B),F]
    erw[Qbq]
    rw[e3]
    erw[Qbq]
    cases b with
    | true=>
      rw[Qhq L] at q|-
      let#[x,X,e4,o,j0,jW,r,z]:=q
      rw[e4]
      erw[Qbq]
      let#[R,N,Z,q5]:=Ao (k:=l.length) o jW r z x.1.length 0 c X (!0) j0
      rw[List.drop_zero] at Z
      rw[Z]
      erw[Qbq]
      exact ih (n+1) R N (!0) q5
    | false=>
      rw[Quq (!1)] at q|-
      exact ih (n+1) c H (!0) q
 let#[j,U,F,q]:=go u.length 0 _ _ (!0) h0
 let#[a,hS,hc,q]:=w _ _ q
 refine#[a,_,?_,q]
 unfold mV
 rw[e1]
 erw[Qbq]
 rw[List.drop_zero] at F
 rw[F]
 erw[Qbq]
 rw[hS]
 dsimp only
 rw[Qhq hc]
end
end DL
namespace L2
open PySem PySem.Spec PyProof.Rows
end L2
namespace DL
open PySem PySem.Spec PyProof.Rows L2
mutual
theorem pY:∀{d:D} {p:PyData},ji d=some p->iX d=some p
 |.int _,_,e=>e
 | .tup ds,_,e=>by
   erw[ji] at e
   let#[b,a,rfl]:=oQm.mp e
   erw[iX]
   rw[Bt a]
   rfl
 |.non,_,e=>by cases e
 |.bl _,_,e=>by cases e
 | .str x,_,e=>by
   erw[ji] at e
   split at e
   · rename_i c
     cases e
     erw[iX]
     rw[Qhq c]
   · cases e
 |.ref _,_,e=>by cases e
 |.fn _,_,e=>by cases e
 |.mt _,_,e=>by cases e
theorem Bt:∀{ds:List D} {ps:List PyData},dM ds=some ps->gh ds=some ps
 | [],_,e=>e
 | d::ds,_,e=>by
   erw[dM] at e
   let#[p,a,e]:=ar e
   let#[ps,b,rfl]:=oQm.mp e
   erw[gh]
   rw[pY a,Bt b]
   rfl
end
theorem jw:∀{ds:List D} {ps:List PyData},dM ds=some ps->ps.length=ds.length
 | [],_,e=>by cases e;rfl
 | d::ds,_,e=>by
   erw[dM] at e
   let#[q,b,e]:=ar e
   let#[ps,a,rfl]:=oQm.mp e
   simp[jw a]
theorem xK:∀{ds:List D} {ps:List PyData} {d:D} {p:PyData},dM ds=some ps->ji d=some p->dM (ds++ [d])=some (ps++ [p])
 | [],_,d,p,e,e2=>by cases e;erw[List.nil_append,dM];rw[e2];rfl
 | c::ds,_,d,p,e,e2=>by
   erw[dM] at e
   let#[q,a,e]:=ar e
   let#[ps,b,rfl]:=oQm.mp e
   erw[List.cons_append,dM]
   rw[a,xK b e2]
   rfl
end DL
namespace DL
theorem AU:∀{n:Nat} {ps:List PySem.PyData} {p:PySem.PyData},ST.pM n ps=true->ST.nv n p=true->ST.pM n (ps++ [p])=true
 |n,[],p,_,h=>by erw[List.nil_append,ST.pM,h];rfl
 | n,q::ps,p,h,hp=>by
   erw[ST.pM,QCq] at h
   erw[List.cons_append,ST.pM,QCq]
   exact#[h.1,AU h.2 hp]
open PySem PySem.Spec PyProof.Rows L2
def valN:List D->List D->PyData->Option D
 | k::ks,v::vs,p=>match ji k with
   |some q=>if PyData.eqv q p=true then some v else valN ks vs p
   |none=>none
 |_,_,_=>none
theorem rT{M:Md}{ρ:X7}{H:Hp}{p:PyData}:∀{b vs:List D} {a:List yz},bb M ρ H vs (a.map (·.2.2))->dM b=some (a.map (·.1))->
  (valN b vs p=none/\kW a p=none)\/∃d v,valN b vs p=some d/\kW a p=some v/\Rel M ρ H d v
 | [],vs,a,h,e=>by
   cases a with
   |nil=>exact .inl #[L,L]
   |cons e a=>cases e
 | k::b,vs,a,h,e=>by
   erw[dM] at e
   let#[q,i,e]:=ar e
   let#[j,f,e]:=oQm.mp e
   cases a with
   |nil=>cases e
   | cons l a=>
     cases vs with
     |nil=>cases h
     | cons d vs=>
       cases h with
       | cons h g=>
         rw[QDq] at e
         let#[rfl,rfl]:=List.cons.inj e
         let c:=rT (p:=p) g f
         unfold kW at c|-
         rw[List.find?_cons]
         erw[valN,i]
         by_cases z:PyData.eqv l.1 p=true
         · rw[Qhq z,z]
           exact .inr #[_,_,L,L,h]
         · rw[Quq z]
           rw[Bool.not_eq_true] at z
           rw[z]
           exact c
theorem jg{M:Md}{ρ:X7}{H:Hp}:∀{c:List D} {a:List yz},bb M ρ H c (a.map λe=>V.ref e.2.1)->dM c=some (a.map (·.1))->ST.pM 8 (a.map (·.1))=true->EL H a
 | [],a,h,e,hn=>by
   cases a with
   |nil=>intro e b;cases b
   |cons e a=>cases e
 | k::c,a,h,e,hn=>by
   erw[dM] at e
   let#[q,d,e]:=ar e
   let#[i,g,e]:=oQm.mp e
   cases a with
   |nil=>cases e
   | cons l a=>
     cases h with
     | cons h f=>
       rw[QDq] at e
       let#[rfl,rfl]:=List.cons.inj e
       erw[QDq,ST.pM,QCq] at hn
       intro e b
       rcases Qsq.mp b with rfl|b
       · exact#[hn.1,jV h (pY d)]
       · exact jg f g hn.2 e b
section
variable{X:Cx}{a b k v:Expr}{pos:Pos}
def EH(f g:bc):bc:=λd S=>(f d S).bind λ(y,e)=>(g d e).bind λ(x,c)=>match x,y with
 | .ref k,.tup ys=>match c[k]? with
   |some (.dctN eN ks vs)=>(ji (.tup ys)).bind λp=>if ST.nv 8 p=true then some (.bl (valN ks vs p).isSome,c) else none
   |_=>none
 |_,_=>none
def GM{M:Md}{ρ:X7}{H:Hp}{p:PyData}{g vs:List D}{c:List yz}(h:bb M ρ H vs (c.map (·.2.2)))(e:dM g=some (c.map (·.1))):(kW c p).isSome=(valN g vs p).isSome:=by
 rcases rT (p:=p) h e with⟨d,f⟩|⟨_,_,d,f,_⟩
 ·rw[d,f];rfl
 ·rw[d,f];rfl
def Ki{f g:bc}:∀(m:List (Option V)) (H:Hp) (Q:V->Hp->Prop),tD (md X) (EH f g) m H Q->Lb X.w (tD (md X) f) (tD (md X) g) m H Q:=λm H Q N=>by
 let#[P,r,S,d,S',ok,e,q]:=N
 let#[#[y,t],Y,e]:=ar e
 let#[#[x,M],J,e]:=ar e
 cases x with
 | ref k=>
   cases y with
   | tup ys=>
     dsimp only at e
     split at e
     · rename_i I ks vs U
       let#[p,Z,e]:=ar e
       split at e
       · rename_i c
         let#[rfl,rfl]:=bI e
         refine#[P,r,S,_,t,ok,Y,λl v1 H1 u j i=>#[l,r,t,_,M,ok.to u j,J,λB v2 H2 s h W=>?_]]
         let i:=i.ext s
         cases W with
         | ref ha=>
           let#[n,C,A,R,o,F]:=h.obj k _ _ ha U
           let K:=jV i (pY Z)
           cases i with
           | tup hb z=>
             refine#[_,_,n,I,p,L,L,C,jg A o F,K,c,?_]
             rw[GM R o]
             exact q _ _ _ (u.trans s) h (.bl _)
       · cases e
     · cases e
   |_=>cases e
 |_=>cases e
def LF{f g:bc}{k:Nat}(e:ed k X.A)(d:PE X a (tD (md X) f))(h:PE X b (tD (md X) g))(c:autoParam (behindInMarks .In b=false) af._auto_1):PE X (.Compare a [.In] [b] pos) (tD (md X) (EH f g)):=gX (Io (Jq e.units d h) c) Ki
def Mu(f g:bc):bc:=λe S=>(f e S).bind λ(x,h)=>(g e h).bind λ(y,c)=>match x,y with
 | .ref k,.tup ys=>match c[k]? with
   |some (.dctN eN ks vs)=>(ji (.tup ys)).bind λp=>if ST.nv 8 p=true then(valN ks vs p).bind λd=>some (d,c) else none
   |_=>none
 |_,_=>none
def JF{f g:bc}{k:Nat}(hr:ed k X.A)(r:PE X a (tD (md X) f))(s:PE X b (tD (md X) g))(n:Ed b):PE X (.Subscript a b pos) (tD (md X) (Mu f g)):=gX (FR hr.units r s n) λσ H Q qq=>by
 let#[ρ,u,S,d,S',ok,e,q]:=qq
 let#[#[x,B],e1,e]:=ar e
 let#[#[y,Z],W,e]:=ar e
 cases x with
 | ref k=>
   cases y with
   | tup ys=>
     dsimp only at e
     split at e
     · rename_i U ks vs n
       let#[p,e3,e]:=ar e
       split at e
       · rename_i c
         let#[d',C,e]:=ar e
         let#[rfl,rfl]:=bI e
         refine#[ρ,u,S,_,B,ok,e1,λm v1 H1 F l j=>#[m,u,B,_,Z,ok.to F l,W,λM v2 H2 w i z=>?_]]
         let j:=j.ext w
         cases j with
         | ref r=>
           let#[o,P,J,h3,t,R]:=i.obj k _ _ r n
           let Y:=jV z (pY e3)
           rcases rT (p:=p) h3 t with⟨h,_⟩|⟨d2,v,h,N,K⟩
           · rw[C] at h;cases h
           · rw[C] at h
             cases h
             cases z with
             |tup s I=>exact#[_,_,o,U,p,v,L,L,P,jg J t R,Y,c,N,q _ _ _ (F.trans w) i K]
       · cases e
     · cases e
   |_=>cases e
 |_=>cases e
def Ms(f g h:bc):dr:=λc S=>(h c S).bind λ(d,j)=>(f c j).bind λ(x,i)=>(g c i).bind λ(y,e)=>match x,y with
 | .ref k,.tup ys=>match e[k]? with
   |some (.dctN eN ks vs)=>(ji (.tup ys)).bind λp=>if ST.nv 8 p=true/\ks.length<=5000/\(valN ks vs p).isSome=false then some (.nx c (e.set k (.dctN (eN+1) (ks++ [.tup ys]) (vs++ [d])))) else none
   |_=>none
 |_,_=>none
def BJ{ρ:X7}{H:Hp}{k:Nat}{a:X8}{f:Heap->Prop}(g:ρ[k]?=some a)(i:H a=some (.ext f))(u:HO):bQ ρ H ρ (upd H a u):=by
 have j:a∈ρ:=mQg g
 refine#[List.prefix_refl _,λ_ h=>.inl h,λb x e c=>?_,λb d=>?_]
 ·rw[a7]
  ·exact e
  ·intro z
   subst z
   rw[i] at e
   cases e
   exact c.elim (λn=>n j) λl=>l
 ·by_cases z:b=a
  ·subst z;rw[bg] at d;cases d
  ·rw[a7 z] at d;exact d
def Iq{f g h:bc}{i:Pos}{k:Nat}(hr:ed k X.A)(r:PE X a (tD (md X) f))(hb:PE X b (tD (md X) g))(hv:PE X v (tD (md X) h))(s:autoParam (swapsWith v (some (.Subscript a b i)) pos.line X.env=pure false) af._auto_1):PS X (.Assign [.Subscript a b i] v pos) (tS (md X) (Ms f g h)):=
 CV (GF hr.units r hb hv s) λD σ H qq=>by
  let#[ρ,M,S,o,ok,e,q]:=qq
  let#[#[d,S1],e1,e]:=ar e
  let#[#[x,S2],e2,e]:=ar e
  let#[#[y,S3],e3,e]:=ar e
  cases x with
  | ref k=>
    cases y with
    | tup ys=>
      dsimp only at e
      split at e
      · rename_i eN ks vs s
        let#[p,e4,e]:=ar e
        split at e
        · rename_i c
          cases e
          refine#[ρ,M,S,d,S1,ok,e1,λI v1 H1 U m W=>#[I,M,S1,_,S2,ok.to U m,e2,λY v2 H2 J Q r2=>#[Y,M,S2,_,S3,(ok.to U m).to J Q,e3,λa3 v3 H3 P l N=>?_]]]
          let r2:=r2.ext P
          let W:=W.ext (J.trans P)
          let n:=(U.trans J).trans P
          cases r2 with
          | ref r=>
            rename_i R
            let#[j,Z,h2,h3,B,h5]:=l.obj k _ _ r s
            let dt:=jV N (pY e4)
            let K:=N
            let hl:=jw B
            rw[lQm] at hl
            cases N with
            | tup hb a1=>
              rename_i F a2
              refine#[R,F,j,eN,p,L,L,Z,jg h2 B h5,dt,c.1,by omega,?_,?_]
              · rcases rT (p:=p) h3 B with⟨_,e6⟩|⟨d2,v,e5,_,_⟩
                · exact e6
                · rw[e5] at c;exact absurd c.2.2 (by simp)
              · have ne:∀x,H3 R=some x->¬Mx x:=λx hx=>by rw[Z] at hx;cases hx;exact λz=>z
                let t:=λu=>BJ r Z u
                let#[C,x4]:=l.put (o':=.dctN (eN+1) (ks++ [.tup ys]) (vs++ [d])) (u:=.ext (fU X.w R (j++ [(p,F,v1)]) (eN+1))) r s ⟨j++ [(p,F,v1)],bg,by
                  rw[Qzq];exact(h2.ext (t _)).append (.cons (K.ext (t _)) .nil),by
                  rw[Qzq];exact(h3.ext (t _)).append (.cons (W.ext (t _)) .nil),by
                  rw[Qzq];exact xK B e4,by
                  rw[Qzq];exact AU h5 c.1⟩ ne
                exact q _ _ _ (n.trans x4) #[ok.en.ext (n.trans x4),C]
        · cases e
      · cases e
    |_=>cases e
  |_=>cases e
end
section
variable{Γ:cI}{S:aH}
def LV{f g:bc}{Q:D->aH->Prop}(h:E f Γ S λy c=>E g Γ c λx a=>∃k ys eN b vs p,x=.ref k/\y=.tup ys/\a[k]?=some (.dctN eN b vs)/\ji (.tup ys)=some p/\ST.nv 8 p=true/\Q (.bl (valN b vs p).isSome) a):E (EH f g) Γ S Q:=by
 let#[y,c,d,x,a,e,k,ys,eN,b,vs,p,rfl,rfl,h1,h2,h3,q]:=h
 exact#[_,_,by unfold EH;rw[d];erw[Qbq];rw[e];erw[Qbq,h1,h2];rw[Qhq h3],q]
def Np{f g:bc}{Q:D->aH->Prop}(h:E f Γ S λx c=>E g Γ c λy a=>∃k ys eN b vs p d,x=.ref k/\y=.tup ys/\a[k]?=some (.dctN eN b vs)/\ji (.tup ys)=some p/\ST.nv 8 p=true/\valN b vs p=some d/\Q d a):E (Mu f g) Γ S Q:=by
 let#[x,c,e,y,a,i,k,ys,eN,b,vs,p,d,rfl,rfl,h1,h2,h3,h4,q]:=h
 exact#[_,_,by unfold Mu;rw[e];erw[Qbq];rw[i];erw[Qbq,h1,h2];rw[Qhq h3,h4];rfl,q]
def M6{f g h:bc}{Q:Out->Prop}(w:E h Γ S λd e=>E f Γ e λx c=>E g Γ c λy b=>∃k ys eN a vs p,x=.ref k/\y=.tup ys/\b[k]?=some (.dctN eN a vs)/\ji (.tup ys)=some p/\(ST.nv 8 p=true/\a.length<=5000/\(valN a vs p).isSome=false)/\Q (.nx Γ (b.set k (.dctN (eN+1) (a++ [.tup ys]) (vs++ [d]))))):T (Ms f g h) Γ S Q:=by
 let#[d,e,j,x,c,i,y,b,l,k,ys,eN,a,vs,p,rfl,rfl,h1,h2,h3,q]:=w
 exact#[_,by unfold Ms;rw[j];erw[Qbq];rw[i];erw[Qbq];rw[l];erw[Qbq,h1,h2];rw[Qhq h3],q]
end
end DL
namespace L2
open PySem PySem.W PySem.Spec PyProof.Rows
section
variable{prog:X9}{w:Xc}{A:X_}{E:X0}{s:X4}
def xh{d:X8}{o:Obj}{es:Array DictEntry}{ep:Nat}(b:(d==sysModules)=false):
  MeetsIn prog w (Builtin.«dict.__len__» #[[.ref d],[]]) (λ_ R s=>(s.heap.get? d=some o/\o.data=.dict es ep)/\R (.ok (.ret (.int es.size s.toks))) {s with toks:=s.toks+1}):=
 .of_wp λA R s e=>by
  let#[#[c,a],h]:=e
  show wpAny _ _ (dictSize d >>= _) _ _ s
  unfold dictSize
  refine Qaq (Qaq (wpAny_dictEntries c a (Qgq ?_)))
  show wpAny _ _ (Builtin.Dict.pendingCount d >>= _) _ _ s
  refine Qaq (wpAny_pendingCount_other b ?_)
  refine wpAny_ret_mkInt ?_
  rw[Nat.add_zero];exact h
def Eu{d:X8}{o:Obj}{es:Array DictEntry}{ep:Nat}{Q:X0}(e:(d==sysModules)=false)(ht:s.TypeIs (.ref d) "dict")(g:s.heap.get? d=some o)(a:o.data=.dict es ep)(c:(es.size:Int)<2^63)
  (h:Q (.int es.size (s.toks+1)) {s with toks:=s.toks+1+1}):wpAny (model prog w) A (Builtin.«len» {pos:= [.ref d]}) (λb f=>∃v,b=Fin.done (Flow.ret v)/\Q v f) E s:=by
 unfold Builtin.«len»
 refine Qaq (m:=oneArg "len" _) (Qgq ?_)
 refine Qaq (m:=callSpecial? (.ref d) (Str.ofString "__len__")) (QiQ (name:=Str.ofString "__len__") ht F.slot_dict_len
  (call_meetsIn F.slot_dict_len ht F.entry_dict_len (F.args_dict_len_1 _) (xh (o:=o) (es:=es) (ep:=ep) e) #[#[g,a],?_]))
 show wpAny _ _ _ _ _ {s with toks:=s.toks+1}
 refine Qaq (QLq (Qgq ?_))
 refine Qaq (wpAny_letGo ?_)
 show wpAny _ _ (if ((es.size:Nat):Int)<0 then _ else _) _ _ _
 rw[Quq (!0)]
 show wpAny _ _ (if ((es.size:Nat):Int)>=2^63 then _ else _) _ _ _
 rw[Quq (!0)]
 exact Qaq (wpAny_mkInt (Qgq #[_,L,h]))
def CP{d:X8}{o:Obj}{es:Array DictEntry}{ep:Nat}{Q:Xf}(e:(d==sysModules)=false)(ht:s.TypeIs (.ref d) "dict")(i:s.heap.get? d=some o)(a:o.data=.dict es ep)(b:(es.size:Int)<2^63)
  (h:Q (!(es.size==0)) {s with toks:=s.toks+1+1}):wpAny (model prog w) A (truthy (.ref d)) Q E s:=by
 unfold truthy
 refine Qaq (wpAny_callSpecial?_none ht noBool_dict ?_)
 show wpAny _ A (specialOf (.ref d) _ >>= _) _ _ s
 refine Qaq (wpAny_specialOf ht F.slot_dict_len.lookup ?_)
 show wpAny _ A (runValue (Code.builtin "len" {pos:= [.ref d]}) >>= _) _ _ s
 refine Qaq (wpAny_runValue (codeAny_builtin entry_len ?_))
 rw[Around.under_plainId plain_len]
 refine QRq (Eu (E:=λ_ _=>False) (Q:=λv c=>v=.int es.size (s.toks+1)/\c={s with toks:=s.toks+1+1}) e ht i a b #[L,L]) (λf c ⟨v,j,g,k⟩=>?_) λ_ _ h=>?_
 ·subst j g k
  refine Qgq ?_
  have:(((es.size:Nat):Int) !=0)= !(es.size==0):=by
   rcases l:es.size with _|n
   ·rfl
   ·rw[show((n+1:Nat)==0)=false from L]
    simp
    omega
  rw[this]
  exact h
 ·exact h.elim
def F9{d:X8}{o:Obj}{es:Array DictEntry}{ep:Nat}{Q:X0}(c:(d==sysModules)=false)(ht:s.TypeIs (.ref d) "dict")(b:s.heap.get? d=some o)(a:o.data=.dict es ep)
  (h:Q (.ref s.heap.objs.size) {s with heap:=s.heap.push {cls:=.type "dict_keyiterator",data:=.fields (List.toArray [.ref d,.int 0 0,.int es.size 0,.int ep 0])}}):wpAny (model prog w) A (pyIter (.ref d)) Q E s:=by
 refine wpAny_pyIter_slot ht F.slot_dict_iter (wpAny_call_entry F.slot_dict_iter ht F.entry_dict_iter ?_ (F.args_dict_iter_1 _))
 show wpAny _ A.in1 (Builtin.Dict.dictSlotNone _ _ >>= _) _ _ s
 refine Qaq ?_
 unfold Builtin.Dict.dictSlotNone
 refine Qaq (wpAny_notOrdered_dict ht ?_)
 refine Qaq (Qgq ?_)
 refine Qgq ?_
 refine Qaq (Qgq ?_)
 refine Qaq ?_
 unfold Builtin.Dict.showsAll
 rw[Quq (by rw[c];exact Qtq)]
 refine Qgq ?_
 refine Qaq (wpAny_dictEntries b a ?_)
 refine Qaq (wpAny_dictEpoch b a ?_)
 refine Qaq (QhQ (T:="dict_keyiterator") ?_ (by first|exact Nat.le_of_ble_eq_true L|(show 4<=sizeLine;decide)))
 exact Qgq #[_,L,"dict_keyiterator",_,#[_,Qrq _ L,L],F.slot_dict_keyiterator_next.lookup,h]
theorem ij{α β:Type}(f:α->β):∀(l:List α) (j:Nat),(l.eraseIdx j).map f=(l.map f).eraseIdx j
 | [],_=>rfl
 |_::_,0=>rfl
 |a::l,j+1=>by erw[List.eraseIdx_cons_succ,QDq,ij f l j]
def Ac{A:X_}{d a:X8}{o:Obj}{es:Array DictEntry}{ep j:Nat}{xs:List (PyData×Addr×Value)}{k:PyData}{p:Addr×Value}{Q:Option DictEntry->Shared->Prop}(x:A.units+16<cLine)
  (u:(ST.jB prog w).is s.heap k a) (J:sQ w s.heap d o es ep xs) (C:s.heap.DictOfH (ST.jB prog w) d xs) (y:xs[j]?=some (k,p)) (W:xs.length<=10000)
  (q:∀(e:DictEntry) (h':Xe) (o':Obj) (r:Array DictEntry),sQ w h' d o' r (ep+1) (xs.eraseIdx j)->Heap.SameBut d s.heap h'->Q (some e) {s with heap:=h',toks:=s.toks+ST.Fe k}):
  wpAny (model prog w) A (Builtin.Dict.takeOut d (.ref a)) Q E s:=by
 let#[g,F,c,n]:=J
 let#[S,P,I,v,R,B,U,K,t]:=C
 rw[g] at v;cases v
 rw[c] at B;cases B
 have b:es.size=xs.length:=by have:=congrArg List.length n;simpa using this
 have m:∀(i:Nat) (l:Addr×Value),xs[i]?=some (k,l)->i=j:=λi l h=>by
  have M:(xs.map (·.1))[i]?=some k:=by rw[gQm,h];rfl
  have H:(xs.map (·.1))[j]?=some k:=by rw[gQm,y];rfl
  exact DL.oG t M H
 unfold Builtin.Dict.takeOut
 refine QLq (Qaq ((ST.jB prog w).pyHash (show A.units+16<cLine from x) u ?_))
 refine Qaq (wpAny_dictFind_heap (knd:=ST.jB prog w) (show A.units+16<cLine from x) u g c n K t (λz=>absurd y (z j p)) λi l h=>?_)
 have:=m i l h
 subst this
 refine Qaq (wpAny_dictEntries g c ?_)
 have f:i<xs.length:=(gQs.mp h).1
 have N:es[i]?=some es[i]:=Array.getElem?_eq_getElem (by rw[b];exact f)
 rw[N]
 refine Qaq (wpAny_updateDictKeys g c (Qgq ?_) (by rw[b,sizeLine_eq];omega) (Nat.le_succ_of_le (size_eraseIdxIfInBounds_le _ _)))
 refine q _ _ _ _ #[Heap.get?_update_self _ g (Obj.isFreed_of_dict (Obj.data_mapDictKeys c _)),F.mapDictKeys _,Obj.data_mapDictKeys c _,?_] (Heap.SameBut.update ..)
 rw[Array.eraseIdxIfInBounds]
 rw[dif_pos (show i<es.size by rw[b];exact f),Array.toList_eraseIdx,n,ij]
def IR{A:X_}{d a:X8}{o:Obj}{es:Array DictEntry}{ep j:Nat}{xs:List (PyData×Addr×Value)}{k:PyData}{p:Addr×Value}{Q:Unit->Shared->Prop}(n:A.units+32<cLine)
  (g:(ST.jB prog w).is s.heap k a) (i:sQ w s.heap d o es ep xs) (c:s.heap.DictOfH (ST.jB prog w) d xs) (l:xs[j]?=some (k,p)) (h:xs.length<=10000)
  (q:∀(h':Xe) (o':Obj) (b:Array DictEntry),sQ w h' d o' b (ep+1) (xs.eraseIdx j)->Heap.SameBut d s.heap h'->Q () {s with heap:=h',toks:=s.toks+ST.Fe k}):
  wpAny (model prog w) A (delItem (.ref d) (.ref a)) Q E s:=by
 unfold delItem
 refine QLq (Qaq (wpAny_sequenceKey c.typeIs (!1) ?_))
 refine Qaq (QiQ c.typeIs F.slot_dict_delitem (wpAny_call_entry F.slot_dict_delitem c.typeIs F.entry_dict_delitem ?_ (F.args_dict_delitem_2 ..)))
 show wpAny _ A.in1 (Builtin.Dict.dictSlotArgs _ _ >>= _) _ _ s
 refine Qaq ?_
 unfold Builtin.Dict.dictSlotArgs
 refine Qaq (wpAny_notOrdered_dict c.typeIs ?_)
 show wpAny _ A.in1 (pure (Value.ref d,Value.ref a)) _ _ s
 refine Qgq ?_
 refine Qaq (Qgq ?_)
 refine Qaq (Ac (by have:A.in1.units=A.units+1:=rfl;omega) g i c l h λe h' o' b f m=>?_)
 refine Qaq (wpAny_letGo ?_)
 exact Qgq #[_,L,Qgq (q h' o' b f m)]
end
theorem tm{α β:Type}{F:α->β->Prop}:∀{l:List α} {m:List β} {i:Nat} {b:β},Paired F l m->m[i]?=some b->∃a,l[i]?=some a/\F a b
 |_,_,0,_,.cons h _,e=>by cases e;exact#[_,L,h]
 |_,_,i+1,_,.cons _ t,e=>by simpa using tm (i:=i) t (by simpa using e)
 |_,_,_,_,.nil,e=>by simp at e
theorem ve{α β:Type}{F:α->β->Prop}:∀{l:List α} {m:List β} {i:Nat} {a:α},Paired F l m->l[i]?=some a->∃b,m[i]?=some b/\F a b
 |_,_,0,_,.cons h _,e=>by cases e;exact#[_,L,h]
 |_,_,i+1,_,.cons _ t,e=>by simpa using ve (i:=i) t (by simpa using e)
 |_,_,_,_,.nil,e=>by simp at e
def Nz(w:Xc)(a:X8)(n ep:Nat):It:=#[λi H=>(∃b,H a=some (.ext (fU w a b ep))/\EL H b/\b.length=n)/\i<n,λi H v c=>c=H/\∀b,H a=some (.ext (fU w a b ep))->EL H b->∃e,b[i]?=some e/\v=.ref e.2.1,λi H=>(∃b,H a=some (.ext (fU w a b ep))/\EL H b/\b.length=n)/\i=n]
def GR{P:X9}{w:Xc}{K:X1}{tg:Expr}{a it:X8}{n ep:Nat}:Turn P w K tg (Nz w a n ep) [it] it (λi h=>h.IsKeyIter it a i n ep) where
 mem:=by simp
 obj:=λi h g b m=>by
  have e:b=it:=by simpa using m
  subst e
  let#[o,e,c,d]:=g
  exact#[o,e,λv z=>by rw[d] at z;cases z]
 keep:=λi h y g k=>g.at λo e=>k it (by simp) o e
 item:=by
  intro X Z R hK hc i l s σ H E I r g F
  subst Z R hK
  let#[#[a2,B,hN,hn],hi]:=F
  let#[h0,xs,o,t,#[A,r2,u,q],dd,rr]:=nH I B hN
  let#[f0,Q,f2,f3,C,U]:=r it (by simp)
  let S:=pq rr
  have f:t.size=n:=by have:=congrArg List.length q;rw[lQm,S,Array.length_toList] at this;omega
  obtain⟨x,hx⟩:∃x,xs[i]?=some x:=#[_,gQe (!0)]
  have Y:t[i]?=some (vE X.w x):=by rw[<-Array.getElem?_toList,q,gQm,hx];rfl
  refine nx g A r2 u f Y λy p sb=>?_
  have I1:Inv X l σ H {s with heap:=y}:=I.turned (t':=s.toks) (λb o m e=>(sb.2 b m).trans e) f0 Q f3 C U
  let#[o',q1,q2,q3]:=id p
  refine#[.ref x.2.1,L,uX (s:={s with heap:=y}) q1 q2 q3 (!1) #[.ref x.2.1,H,I1,L,#[L,λa3 J a1=>?_],p,λb m=>(r b m).1]]
  let#[_,N,o2,a4,#[g1,g2,g3,g4],_,a0]:=nH I J a1
  rw[A] at g1;cases g1
  rw[u] at g3;cases g3
  have j:(N.map (vE X.w))[i]?=some (vE X.w x):=by rw[<-g4,q,gQm,hx];rfl
  rw[gQm] at j
  let#[x',M,ex]:=oQm.mp j
  have ea:x'.2.1=x.2.1:=by
   have:=congrArg DictEntry.key ex
   simpa [vE] using this
  let#[e,he,e1,e2,e3]:=tm a0 M
  exact#[e,he,by rw[e2,ea]]
 done:=by
  intro X Z R hK hc i l s σ H E I r g F
  subst Z R hK
  let#[#[a2,B,hN,hn],hi]:=F
  let#[h0,xs,o,t,#[A,r2,u,q],dd,rr]:=nH I B hN
  let#[f0,Q,f2,f3,C,U]:=r it (by simp)
  let S:=pq rr
  have f:t.size=n:=by have:=congrArg List.length q;rw[lQm,S,Array.length_toList] at this;omega
  exact Ii (I.ok.hd hc) g A u f (by rw[Array.getElem?_eq_none_iff,f,hi];exact Qmq _) λy eb=>#[L,I.turned (t':=s.toks) (λb o m e=>eb b o m e) f0 Q f3 C U]
 self:=λ_ _ _ _ _ g h=>wpAny_pyIter_keyiter g h
section
variable{X:Cx}{tg l o i:Expr}{pos tpos:Pos}
def NX(w:Xc)(d:TE):TI:=λe H R=>d e H λx H1=>∃a b c,x=.ref a/\H1 a=some (.ext (fU w a b c))/\EL H1 b/\R (Nz w a b.length c) H1
def Lo{n:TE}(k:PE X l n):PI X tg l (NX X.w n):=by
 intro c s C H R I h
 refine bZ (k c s C H _ I h) λv f B=>?_
 let#[x,H1,d,g,a,m,ep,e,z,F,q]:=B
 subst e
 cases g
 let#[r,K,o,A,#[g,M,p,u],J,y]:=nH d z F
 let k:=pq y
 have j:A.size=m.length:=by have:=congrArg List.length u;rw[lQm,k,Array.length_toList] at this;exact this
 refine F9 r J.typeIs g p ?_
 refine#[f.heap.objs.size,[f.heap.objs.size],_,_,H1,L,d.kept (t':=f.toks) λb o e=>Qcq _ e,GR (ep:=ep),#[_,Qrq _ L,L,by rw[j];rfl],λb t=>?_,q]
 have e:b=f.heap.objs.size:=by simpa using t
 subst e
 exact d.fpOk (Qmq _) (d.hok.fresh (Qmq _))
def KS(w:Xc)(d:TE):TT:=λe H Q=>d e H λx H1=>∃a b c,x=.ref a/\H1 a=some (.ext (fU w a b c))/\EL H1 b/\b.length<=5000/\Q (!b.isEmpty) H1
def KN{m:TE}(z:PE X o m)(he:autoParam (∀b,isTrue o X.env b=(do let v<-b;standAt o.pos;holding [v] (truthy v))) ag._auto_1):PT X o (KS X.w m):=by
 intro d s C H Q I h
 rw[he]
 refine Qaq (bZ (z d s C H _ I h) λv M B=>?_)
 let#[x,H1,j,f,a,c,P,e,y,F,k,q]:=B
 subst e
 cases f
 let#[r,K,o,n,#[f,N,p,t],J,u]:=nH j y F
 let A:=pq u
 have g:n.size=c.length:=by have:=congrArg List.length t;rw[lQm,A,Array.length_toList] at this;exact this
 refine Qaq (wpAny_standAt (QLq (CP r J.typeIs f p (!0) ?_)))
 have:(!(n.size==0))= !c.isEmpty:=by rw[g];cases c <;>rfl
 rw[this]
 exact#[H1,j.tok _,q]
def L7(w:Xc)(g h:TE):TS:=λD d H=>g d H λx H1=>h d H1 λy H2=>∃a b c f p j e,x=.ref a/\y=.ref b/\H2 a=some (.ext (fU w a c f))/\EL H2 c/\jY (λ_=>False) H2 p (.ref b)/\ST.nv 8 p=true/\c.length<=5000/\c[j]?=some e/\e.1=p/\D.nx d (upd H2 a (.ext (fU w a (c.eraseIdx j) (f+1))))
theorem zf:∀{a:List yz} {xs:List (PyData×Addr×Value)} (j:Nat),Paired CZ a xs->Paired CZ (a.eraseIdx j) (xs.eraseIdx j)
 |_,_,_,.nil=>.nil
 |_,_,0,.cons h hs=>hs
 |_,_,j+1,.cons h hs=>.cons h (zf j hs)
def Gq{t v:TE}(hu:X.A.units+64<cLine)(S:PE X o t)(hi:PE X i v):PS X (.Delete [.Subscript o i tpos] pos) (L7 X.w t v):=by
 intro d s r H D I h
 refine wpAny_Delete (wpAny_deleteEach_cons (wpAny_delete_Subscript (bZ (S d s r H _ I h) λu U ⟨x,H1,M,W,P⟩=>bZ (hi d U r H1 _ M P) λiv s2 Y=>?_)))
 let#[y,H2,n,Z,a,b,g,ep,p,j,e,F,ey,B,he,C,hn,hl,hj,R,q2]:=Y
 subst F ey R
 obtain rfl:u=Value.ref a:=W
 obtain rfl:iv=Value.ref b:=Z
 let#[K,xs,oo,es,f,z,k]:=nH n B he
 let#[x,hx,e1,e2,e3]:=ve k hj
 refine IR (!0) (wq n C hn) f z (p:=x.2) (by rw[hx,e1]) (by have:=pq k;omega) λN o' q c sb=>wpAny_deleteEach_nil ?_
 let#[_,_,_,_,_,_,_,_,Q]:=z
 have m:((g.eraseIdx j).map (·.1)).Nodup:=by
  rw[ij,rZ k]
  exact Q.sublist (List.eraseIdx_sublist _ _)
 have J:fU X.w a (g.eraseIdx j) (ep+1) N:=#[K,o',q,_,c.1,c.2.1,c.2.2.1,c.2.2.2,zf j k,m]
 exact#[r,_,vV n (by rw[B];exact True.intro) sb #[_,c.1] (D1 J),q2]
end
end L2
namespace L2
open PySem PySem.Spec PyProof.Rows
section
variable{X:Cx}{pos:Pos}
def K4(w:Xc):TE:=λ_ H Q=>∀p,H p=none->Q (.ref p) (upd H p (.ext (fU w p [] 0)))
def FM:PE X (.Dict [] [] pos) (K4 X.w):=λb s e H Q I h=>by
 have c:(s.heap.objs.size==sysModules)=false:=beq_eq_false_iff_ne.mpr (Ne.symm (Qwq I.big))
 have d:fU X.w s.heap.objs.size [] 0 (s.heap.push {cls:=.type "dict",data:=.dict (List.toArray [])}):=#[c,_,(List.toArray []),[],Qrq _ L,#[L,L,L],L,L,.nil,List.nodup_nil]
 exact wpAny_Dict_empty #[.ref s.heap.objs.size,_,I.laid (a:=s.heap.objs.size) (o:=.ext (fU X.w s.heap.objs.size [] 0)) (t':=s.toks) (λ_ _ q=>Qcq _ q) (Qmq _) (D1 d),L,h _ (I.hok.fresh (Qmq _))]
end
end L2
namespace DL
open PySem PySem.Spec PyProof.Rows L2
section
variable{X:Cx}{a b tg l:Expr}{pos tpos:Pos}
def M0:bc:=λ_ S=>some (.ref S.length,S++ [.dctN 0 [] []])
def Ka:PE X (.Dict [] [] pos) (tD (md X) M0):=gX FM λs H Q j=>by
 let#[h,r,S,d,n,ok,e,q]:=j
 let#[rfl,rfl]:=bI e
 intro p g
 have i:bQ h H h (upd H p (.ext (fU X.w p [] 0))):=bQ.laid g
 have k:p∉h:=cn bQ.refl ok.st g
 let m:=(ok.st.lay (u:=.ext (fU X.w p [] 0)) g).box (o:=.dctN 0 [] []) k #[[],bg,.nil,.nil,L,by simp[ST.pM]]
 refine q (h++ [p]) (.ref p) _ #[List.prefix_append _ _,λc f=>?_,i.keep,i.grow] m (.ref ?_)
 ·rcases mQa.mp f with f|f
  ·exact .inl f
  ·rw[Qfq] at f;subst f;exact .inr g
 ·rw[<-ok.st.len,QQq (Qmq _)]
  simp
def A5(f:bc):iB:=λd S=>(f d S).bind λ(x,c)=>match x with
 | .ref k=>match c[k]? with
   |some (.dctN _ ks _)=>if ks.length<=5000 then some (!ks.isEmpty,c) else none
   |_=>none
 |_=>none
def HB{f:bc}(i:PE X a (tD (md X) f))(he:autoParam (∀d,isTrue a X.env d=(do let v<-d;standAt a.pos;holding [v] (truthy v))) ag._auto_1):PT X a (tB (md X) (A5 f)):=L8 (KN i he) λK H Q w=>by
 let#[y,z,S,k,M,ok,e,q]:=w
 let#[#[x,C],B,e]:=ar e
 cases x with
 | ref k=>
   dsimp only at e
   split at e
   · rename_i u j I A
     split at e
     · rename_i c
       let#[rfl,rfl]:=bI e
       refine#[y,z,S,_,C,ok,B,λr v H1 F h p=>?_]
       cases p with
       | ref i=>
         let#[g,s,o,J,m,t]:=h.obj _ _ _ i A
         let n:=jw m
         rw[lQm] at n
         refine#[_,g,u,L,s,jg o m t,by omega,?_]
         have:g.isEmpty=j.isEmpty:=by cases g <;>cases j <;>first|rfl|simp at n
         rw[this]
         exact q _ _ F h
     · cases e
   · cases e
 |_=>cases e
def ME(f:bc):qh:=λe S=>(f e S).bind λ(x,c)=>match x with
 | .ref k=>match c[k]? with
   |some (.dctN eN ks vs)=>some ((ks,λd=>d[k]?=some (.dctN eN ks vs)),c)
   |_=>none
 |_=>none
def M9{f:bc}(hl:PE X l (tD (md X) f)):PI X tg l (tI (md X) (ME f)):=Kf (Lo hl) λσ H R qq=>by
 let#[ρ,Γ,S,ds,W,S',ok,e,q]:=qq
 let#[#[x,S1],e1,e]:=ar e
 cases x with
 | ref k=>
   dsimp only at e
   split at e
   · rename_i U M vs hs
     let#[Y,rfl]:=bI e
     let#[rfl,rfl]:=Prod.mk.inj Y
     refine#[ρ,Γ,S,_,S1,ok,e1,λp v1 H1 x1 g J=>?_]
     cases J with
     | ref C=>
       rename_i ad
       let#[w,P,I,h3,B,Q]:=g.obj _ _ _ C hs
       let s:=jw B
       rw[lQm] at s
       refine#[_,w,U,L,P,jg I B Q,q p _ _ x1 g ?_]
       intro i r S3 H3 N h K
       have o:r[k]?=some ad:=dD N.pre C
       let#[c,t,m,g3,n,z]:=h.obj _ _ _ o K
       let j:=jw n
       rw[lQm] at j
       refine#[λd A=>?_,λhi=>#[#[c,t,jg m n z,by omega],by omega]]
       have F:i<M.length:=(gQs.mp A).1
       refine#[#[#[c,t,jg m n z,by omega],by omega],λy H4 u=>?_]
       let#[rfl,u]:=u
       let#[e,he,rfl]:=u c t (jg m n z)
       let#[v,hv,Z]:=m.get A
       rw[gQm,he] at hv
       cases hv
       exact#[bQ.refl,h,Z]
   · cases e
 |_=>cases e
def zr:List D->PyData->Option Nat
 | [],_=>none
 | k::ks,p=>match ji k with
   |some q=>if PyData.eqv q p=true then some 0 else(zr ks p).map (·+1)
   |none=>none
theorem AX{p:PyData}:∀{d:List D} {ps:List PyData} {j:Nat},dM d=some ps->zr d p=some j->∃q,ps[j]?=some q/\PyData.eqv q p=true
 | [],ps,j,e,h=>by cases h
 | k::d,ps,j,e,h=>by
   erw[dM] at e
   let#[q,f,e]:=ar e
   let#[s,o,rfl]:=oQm.mp e
   erw[zr,f] at h
   split at h
   · rename_i c
     cases h
     exact#[q,L,c]
   · let#[r,i,rfl]:=oQm.mp h
     let#[n,g,m]:=AX o i
     exact#[n,by simpa using g,m]
theorem tE:∀{c:List D} {ps:List PyData} (j:Nat),dM c=some ps->dM (c.eraseIdx j)=some (ps.eraseIdx j)
 | [],ps,j,e=>by cases e;rfl
 | k::c,ps,j,e=>by
   erw[dM] at e
   let#[q,f,e]:=ar e
   let#[g,d,rfl]:=oQm.mp e
   cases j with
   |zero=>exact d
   | succ j=>
     erw[List.eraseIdx_cons_succ,dM,f,tE j d]
     rfl
theorem vf:∀{ps:List PyData} (j:Nat),ST.pM 8 ps=true->ST.pM 8 (ps.eraseIdx j)=true
 | [],j,h=>by simpa using h
 | p::ps,j,h=>by
   erw[ST.pM,QCq] at h
   cases j with
   |zero=>exact h.2
   | succ j=>
     erw[List.eraseIdx_cons_succ,ST.pM,QCq]
     exact#[h.1,vf j h.2]
def Bd(f g:bc):dr:=λc S=>(f c S).bind λ(x,e)=>(g c e).bind λ(y,d)=>match x,y with
 | .ref k,.tup ys=>match d[k]? with
   |some (.dctN eN ks vs)=>(ji (.tup ys)).bind λp=>if ST.nv 8 p=true/\ks.length<=5000 then(zr ks p).bind λj=>some (.nx c (d.set k (.dctN (eN+1) (ks.eraseIdx j) (vs.eraseIdx j)))) else none
   |_=>none
 |_,_=>none
def JC{f g:bc}{k:Nat}(hr:ed k X.A)(m:PE X a (tD (md X) f))(P:PE X b (tD (md X) g)):PS X (.Delete [.Subscript a b tpos] pos) (tS (md X) (Bd f g)):=
 CV (Gq hr.units m P) λD σ H qq=>by
  let#[ρ,U,S,o,ok,e,q]:=qq
  let#[#[x,S1],e1,e]:=ar e
  let#[#[y,S2],e2,e]:=ar e
  cases x with
  | ref k=>
    cases y with
    | tup ys=>
      dsimp only at e
      split at e
      · rename_i F ks vs W
        let#[p,e4,e]:=ar e
        split at e
        · rename_i c
          let#[j,e5,e]:=ar e
          cases e
          refine#[ρ,U,S,_,S1,ok,e1,λB v1 H1 x1 t s=>#[B,U,S1,_,S2,ok.to x1 t,e2,λa2 v2 H2 Y h r2=>?_]]
          let s:=s.ext Y
          let i:=x1.trans Y
          cases s with
          | ref m=>
            rename_i J
            let#[d,C,K,h3,n,R]:=h.obj k _ _ m W
            let dt:=jV r2 (pY e4)
            let hl:=jw n
            rw[lQm] at hl
            let#[q',Q,N]:=AX n e5
            rw[gQm] at Q
            let#[I,he,v]:=oQm.mp Q
            let Z:=jg K n R
            have hp:I.1=p:=by
              rw[<-v] at N
              exact ST.BH (Z I (mQg he)).1 c.1 N
            cases r2 with
            | tup P a1=>
              rename_i b0 a3
              refine#[J,b0,d,F,p,j,I,L,L,C,Z,dt,c.1,by omega,he,hp,?_]
              have ne:∀x,H2 J=some x->¬Mx x:=λx hx=>by rw[C] at hx;cases hx;exact λz=>z
              let x5:=λu=>BJ m C u
              let#[r,M]:=h.put (o':=.dctN (F+1) (ks.eraseIdx j) (vs.eraseIdx j)) (u:=.ext (fU X.w J (d.eraseIdx j) (F+1))) m W ⟨d.eraseIdx j,bg,by
                rw[ij];exact(K.ext (x5 _)).eraseIdx j,by
                rw[ij];exact(h3.ext (x5 _)).eraseIdx j,by
                rw[ij];exact tE j n,by
                rw[ij];exact vf j R⟩ ne
              exact q _ _ _ (i.trans M) #[ok.en.ext (i.trans M),r]
        · cases e
      · cases e
    |_=>cases e
  |_=>cases e
end
section
variable{Γ:cI}{S:aH}
def ML{Q:D->aH->Prop}(q:Q (.ref S.length) (S++ [.dctN 0 [] []])):E M0 Γ S Q:=#[_,_,L,q]
def HN{f:bc}{Q:Bool->aH->Prop}(h:E f Γ S λx b=>∃k eN a vs,x=.ref k/\b[k]?=some (.dctN eN a vs)/\a.length<=5000/\Q (!a.isEmpty) b):E (A5 f) Γ S Q:=by
 let#[x,b,c,k,eN,a,vs,rfl,h1,h2,q]:=h
 exact#[_,_,by unfold A5;rw[c];erw[Qbq,h1];rw[Qhq h2],q]
def MJ{f:bc}{Q:List D×(aH->Prop)->aH->Prop}(h:E f Γ S λx b=>∃k eN a vs,x=.ref k/\b[k]?=some (.dctN eN a vs)/\Q (a,λS'=>S'[k]?=some (.dctN eN a vs)) b):E (ME f) Γ S Q:=by
 let#[x,b,c,k,eN,a,vs,rfl,h1,q]:=h
 exact#[_,_,by unfold ME;rw[c];erw[Qbq,h1],q]
def IL{f g:bc}{Q:Out->Prop}(w:E f Γ S λx c=>E g Γ c λy b=>∃k ys eN a vs p j,x=.ref k/\y=.tup ys/\b[k]?=some (.dctN eN a vs)/\ji (.tup ys)=some p/\(ST.nv 8 p=true/\a.length<=5000)/\zr a p=some j/\Q (.nx Γ (b.set k (.dctN (eN+1) (a.eraseIdx j) (vs.eraseIdx j))))):T (Bd f g) Γ S Q:=by
 let#[x,c,d,y,b,e,k,ys,eN,a,vs,p,j,rfl,rfl,h1,h2,h3,h4,q]:=w
 exact#[_,by unfold Bd;rw[d];erw[Qbq];rw[e];erw[Qbq,h1,h2];rw[Qhq h3,h4];rfl,q]
end
def Dg(K:X1)(a:X8)(c:X6):Prop:=∃(o:Obj) (b:Xa) (n:Nat),K.lookup a=some o/\o.cls=.type "tuple" /\o.data=.seq b n/\b.size<=sizeLine/\bt (c.map V.str) b.toList
structure zC(K:X1)(mg:X3)(x:Str)(ts:X6):Prop where
 at_:∃a,mg x=some (.ref a)/\Dg K a ts
def Dg.rel{M:Md}{ρ:X7}{H:Hp}{a:X8}{b:X6}(h:Dg M.K a b):Rel M ρ H (.mt b) (.ref a):=by
 let#[o,c,n,e,d,i,f,g]:=h
 exact .mt e d i f g
section
variable{X:Cx}{a b e:Expr}{pos:Pos}
def zv{x:Str}{c:X6}{p:Pos}(g:zC X.K X.mg x c)(i:Gl X x)(d:autoParam ((x==("__debug__":Str))=false) ac._auto_1):PE X (.Name x p) (tD (md X) (cF (.mt c))):=by
 let#[a,h,f]:=g.at_
 exact c_ (dF (v:=.ref a) i h L d) λj H=>Dg.rel (M:=md X) f
inductive GW(w:Xc)(K:X1):List DictEntry->List (Str×List Str)->Prop
 |nil:GW w K [] []
 |cons {x:Str} {ts:X6} {t:Tok} {b:X8} {es:List DictEntry} {tbl:List (Str×List Str)}:Dg K b ts->GW w K es tbl->GW w K (#[PyData.keyHash w.params x,.str x t,.ref b]::es) ((x,ts)::tbl)
def GW.keys{P:X9}{w:Xc}{K:X1}{es:List DictEntry}{c:List (Str×List Str)}(d:GW w K es c):∀e∈es,∃k,(cH P w).is k e.key=true/\e.hash=(cH P w).hash k:=by
 induction d with
 |nil=>intro e h;cases h
 | @cons x ts t b es c _ d ih=>
   intro e h
   rcases Qsq.mp h with rfl|h
   · exact#[Sum.inr x,pT x t,zD w x]
   · exact ih e h
def BA(c:List (Str×List Str)):List (Key×D):=c.map λp=>(.inr p.1,.mt p.2)
def GW.pairs{P:X9}{w:Xc}{M:Md}{es:List DictEntry}{c:List (Str×List Str)}(d:GW w M.K es c):∃(vs:List (Key×Value)) (kvs:List (Key×V)),Pairs (cH P w) es vs/\vs.map (·.1)=c.map (λp=>Sum.inr p.1)/\KV kvs vs/\kvs.length=c.length/\∀ρ H,cg M ρ H (BA c) kvs:=by
 induction d with
 |nil=>exact#[[],[],.nil,L,.nil,L,λ_ _=>rfl]
 | @cons x ts t b es c hb d ih=>
   let#[vs,kvs,h,f,j,g,i]:=ih
   exact#[(Sum.inr x,.ref b)::vs,(Sum.inr x,.ref b)::kvs,.cons (pT x t) L h,by simp[f],.cons #[L,L] j,by simp[g],λρ H=>#[_,_,L,hb.rel,i ρ H]]
structure vB(P:X9)(w:Xc)(K:X1)(mg:X3)(x:Str)(tbl:List (Str×List Str)):Prop where
 at_:∃a,mg x=some (.ref a)/\(a==sysModules)=false/\tbl.length<=100/\∀(h:Xe) (M:Md),M.K=K->K.In h->∃(vs:List (Key×Value)) (kvs:List (Key×V)),h.DictOf (cH P w) a vs/\KV kvs vs/\kvs.length=tbl.length/\∀ρ H,cg M ρ H (BA tbl) kvs
def xX{P:X9}{w:Xc}{K:X1}{mg:X3}{x:Str}{c:List (Str×List Str)}{a:X8}{es:List DictEntry}{ep:Nat}(t:mg x=some (.ref a))(u:(a==sysModules)=false)(l:K.lookup a=some #[.type "dict",none,.dict es.toArray ep,(List.toArray [])])(f:GW w K es c)(nd:(c.map (·.1)).Nodup)(r:c.length<=100):vB P w K mg x c:=by
 refine#[a,t,u,r,λh M i j=>?_]
 subst i
 let#[k,d,o,g,s,m,q]:=f.pairs (P:=P)
 refine#[k,d,#[_,_,_,j _ _ l,#[L,L,L],L,λe v=>f.keys e (by simpa using v),by simpa using o,?_],s,m,q]
 rw[g]
 have:c.map (λp=>(Sum.inr p.1:Key))=(c.map (·.1)).map Sum.inr:=by rw[QPq];rfl
 rw[this]
 exact List.Pairwise.map _ (λa b n e=>n (Sum.inr.inj e)) nd
def Mt(c:List (Str×List Str)):bc:=λ_ S=>some (.ref S.length,S++ [.dct (BA c)])
def GD{c:List (Str×List Str)}{x:Str}{a:X8}(y:(a==sysModules)=false)(B:c.length<=100)(j:∀(h:Xe) (M:Md),M.K=X.K->X.K.In h->∃(vs:List (Key×Value)) (kvs:List (Key×V)),h.DictOf (cH X.prog X.w) a vs/\KV kvs vs/\kvs.length=c.length/\∀ρ H,cg M ρ H (BA c) kvs):
  ff X (.type "dict") (λxs H Q=>xs= [.ref a]/\∀p kvs,H p=none->(∀ρ H,cg (md X) ρ H (BA c) kvs)->Q (.ref p) (upd H p (.dK kvs))):=by
 rintro f s C H xs F Q I r ⟨t,q⟩
 subst t
 let#[u,rfl,rx]:=vals1 r
 cases (show u=Value.ref a from rx)
 let#[vs,kvs,v,hv,n,m]:=j s.heap (md X) L I.kIn
 have z:kvs.length=vs.length:=KV.length hv
 have l:kvs.length<=sizeLine:=by rw[sizeLine_eq];omega
 refine kt_call_dict y v (!0) λi d A=>?_
 have g:(s.heap.objs.size==sysModules)=false:=beq_eq_false_iff_ne.mpr (Ne.symm (Qwq I.big))
 have k:∀b u,s.heap.get? b=some u->i.get? b=some u:=λb u e=>(A.2 b (Qwq (Qiq e))).trans (Qcq _ e)
 exact#[.ref s.heap.objs.size,_,I.laid (a:=s.heap.objs.size) (o:=.dK kvs) (t':=s.toks) k (Qmq _) (Dh l g hv d),L,q _ kvs (I.hok.fresh (Qmq _)) m]
def Bs{x:Str}{c:List (Str×List Str)}{u f s:Pos}(m:vB X.prog X.w X.K X.mg x c)(n:Gl X x)(g:Gl X "dict")(h:X.mg "dict"=none)(i:autoParam (starEach [.Name x f] X.env= [(false,eval (.Name x f) X.env)]) af._auto_1)(j:autoParam ((x==("__debug__":Str))=false) ac._auto_1):
  PE X (.Call (.Name "dict" u) [.Name x f] [] s) (tD (md X) (Mt c)):=by
 let#[a,o,l,z,r]:=m.at_
 refine gX (dX (GD (x:=x) l z r) g h PyProof.Rows.boot_dict (dE (dF (v:=.ref a) n o L j) fN i) (he:=i)) λF H Q A=>?_
 let#[B,C,S,d,I,ok,e,q]:=A
 let#[rfl,rfl]:=bI e
 refine#[L,λp k t y=>?_]
 exact Nr bQ.refl ok.st t (y _ _) q
def CW:List Str->List Str
 | []=> []
 |x::r=>if x∈r then CW r else x::CW r
theorem nX(y:Str):∀l:List Str,y∈CW l↔y∈l
 | []=>Iff.rfl
 | x::r=>by
   erw[CW]
   split
   · rename_i c
     rw[nX y r,Qsq]
     exact#[.inr,λh=>h.elim (λe=>e▸c) id]
   · rw[Qsq,Qsq,nX y r]
theorem oX:∀l:List Str,(CW l).Nodup
 | []=>List.nodup_nil
 | x::r=>by
   erw[CW]
   split
   · exact oX r
   · rename_i c
     exact List.nodup_cons.mpr #[λh=>c ((nX x r).mp h),oX r]
def yG(f:eF):fF:=λg S=>(f g S).bind λ(p,d)=>if p.2.isL=true then(nS p.1).bind λc=>if c.length<64 then some ((gG (CW c)).map D.str,d) else none else none
def HD{out ss:X6}(h:Mk out)(m:∀x,x∈out↔x∈ss):out=gG (CW ss):=by
 refine uS h.1 ?_
 rw[List.perm_ext_iff_of_nodup h.2 (oX ss)]
 intro x
 rw[m,nX]
def Dd{f:eF}{N m o:Pos}(P:X.calm=true)(j:Gl X "sorted")(n:X.mg "sorted"=none)(v:Gl X "set")(I:X.mg "set"=none)(K:PE X a (tQ (md X) f))
  (k:autoParam (starEach [.Call (.Name "set" m) [a] [] o] X.env=(false,eval (.Call (.Name "set" m) [a] [] o) X.env)::starEach [] X.env) af._auto_1) (i:autoParam (starEach [a] X.env=(false,eval a X.env)::starEach [] X.env) af._auto_1):
  PE X (.Call (.Name "sorted" N) [.Call (.Name "set" m) [a] [] o] [] pos) (tL (md X) (yG f)):=
 gX (xo P j n v I K k i) λU H Q B=>by
  let#[C,F,S,d,W,ok,e,q]:=B
  let#[#[#[y,t],M],J,e]:=ar e
  dsimp only at e
  split at e
  ·rename_i c
   let#[s,z,e]:=ar e
   split at e
   ·rename_i A
    let#[rfl,rfl]:=bI e
    refine#[C,F,S,y,t,M,ok,J,λu a R Y x p h r=>#[a,s,L,?_,A,λl w g k i=>?_]]
    ·rw[<-sR r z];exact h.sqL c
    ·cases HD k i
     exact q _ _ _ _ (x.trans (bQ.laid g)) (p.lay g) (x.grow _ g) (cn x p g) bg (pX _)
   ·cases e
  ·cases e
end
section
variable{Γ:cI}{S:aH}
def LC{a:List (Str×List Str)}{Q:D->aH->Prop}(q:Q (.ref S.length) (S++ [.dct (BA a)])):E (Mt a) Γ S Q:=#[_,_,L,q]
def Dz{f:eF}{Q:List D->aH->Prop}(h:E f Γ S λp b=>∃ss:List Str,p.2.isL=true/\p.1=ss.map D.str/\ss.length<64/\Q ((gG (CW ss)).map D.str) b):E (yG f) Γ S Q:=by
 let#[p,b,c,ss,g,e,i,q]:=h
 have:∀ss:List Str,nS (ss.map D.str)=some ss:=by
  intro ss
  induction ss with
  |nil=>rfl
  |cons a ss d=>erw[QDq,nS,d];rfl
 exact#[_,_,by unfold yG;rw[c];erw[Qbq];rw[Qhq g,e,this];erw[Qbq];rw[Qhq i],q]
end
section
variable{X:Cx}{a b e tg l:Expr}{pos:Pos}
def signs(x:Str):List D:=x.cps.toList.map λc=>.str #[(List.toArray [c])]
def Fk(f:bc):qh:=λg S=>(f g S).bind λ(d,c)=>match d with
 |.str x=>some ((signs x,λ_=>True),c)
 |_=>none
def Ls{f:bc}(s:PE X l (tD (md X) f)):PI X tg l (tI (md X) (Fk f)):=Kf (JK s) λK H R r=>by
 let#[t,w,S,J,W,M,ok,e,q]:=r
 let#[#[d,B],A,e]:=ar e
 cases d with
 | str x=>
   let#[p,rfl]:=bI e
   let#[rfl,rfl]:=Prod.mk.inj p
   refine#[t,w,S,_,B,ok,A,λm v H1 C j n=>?_]
   cases n
   refine#[x,L,q m _ _ C j ?_]
   intro i o N H3 I k _
   refine#[λd h=>?_,λz=>?_]
   · unfold signs at h
     rw[gQm] at h
     let#[c,F,rfl]:=oQm.mp h
     have g:x.cps[i]?=some c:=by rw[<-Array.getElem?_toList];exact F
     refine#[#[c,g],λy H4 u=>?_]
     let#[rfl,c',h',rfl]:=u
     rw[g] at h'
     cases h'
     exact#[bQ.refl,k,.str _]
   · show x.cps[i]?=none
     rw[Array.getElem?_eq_none_iff,z]
     simp[signs]
 |_=>cases e
def FK:ni:=λ_ x y=>match x,y with
 |.str i,.str j=>some (.bl (!(Builtin.Str.occurrences j i 0 j.length 1).isEmpty))
 |_,_=>none
def Jp{M:Md}:gA M (λx y H Q=>∃i j,x=.str i/\y=.str j/\Q (.bl (!(Builtin.Str.occurrences j i 0 j.length 1).isEmpty)) H) FK:=by
 intro h S H x y d u v Q g f c e q
 cases f <;>cases c <;>erw[FK,reduceCtorEq] at e
 cases e
 exact#[_,_,L,L,q _ _ bQ.refl g (.bl _)]
def Fv:ni:=λ_ x y=>match x,y with
 |.str i,.str j=>some (.bl (decide (i.cps.toList<j.cps.toList)))
 |_,_=>none
def JQ{M:Md}:gA M (λx y H Q=>∃i j,x=.str i/\y=.str j/\Q (.bl (decide (i.cps.toList<j.cps.toList))) H) Fv:=by
 intro h S H x y d u v Q g f c e q
 cases f <;>cases c <;>erw[Fv,reduceCtorEq] at e
 cases e
 exact#[_,_,L,L,q _ _ bQ.refl g (.bl _)]
end
section
variable{Γ:cI}{S:aH}
def JJ{f:bc}{Q:List D×(aH->Prop)->aH->Prop}(h:E f Γ S λd a=>∃x,d=.str x/\Q (signs x,λ_=>True) a):E (Fk f) Γ S Q:=by
 let#[d,a,b,x,rfl,q]:=h
 exact#[_,_,by unfold Fk;rw[b];rfl,q]
def K6{i j:Str}{Q:D->Prop}(q:Q (.bl (!(Builtin.Str.occurrences j i 0 j.length 1).isEmpty))):Op (FK S (.str i) (.str j)) Q:=#[_,L,q]
def Lg{i j:Str}{Q:D->Prop}(q:Q (.bl (decide (i.cps.toList<j.cps.toList)))):Op (Fv S (.str i) (.str j)) Q:=#[_,L,q]
end
end DL
namespace L2
open PySem PySem.Spec PyProof.Rows
section
variable{X:Cx}
def JO:hJ X (compareOp .Is) (λx y H Q=>∃b c,x=.bl b/\y=.bl c/\Q (.bl (b==c)) H):=by
 intro a s f H x y v u Q I d e h
 let#[b,c,rfl,rfl,q]:=h
 cases d
 cases e
 exact Qgq (bN I q (by cases b <;>cases c <;>rfl))
end
end L2
namespace DL
open PySem PySem.Spec L2
def Gu(a:Bool):ni:=λ_ x y=>match x,y with
 |.bl b,.bl c=>some (.bl (if a then !(b==c) else b==c))
 |_,_=>none
def Ip{M:Md}:gA M (λx y H Q=>∃b c,x=.bl b/\y=.bl c/\Q (.bl (b==c)) H) (Gu false):=by
 intro h S H x y d u v Q g f a e q
 cases f <;>erw[Gu,reduceCtorEq] at e
 cases a <;>erw[reduceCtorEq] at e
 cases e
 exact#[_,_,L,L,q _ _ bQ.refl g (.bl _)]
section
variable{X:Cx}{a b:Expr}{pos:Pos}
def DJ(f g:bc):bc:=λd S=>(f d S).bind λ(y,e)=>(g d e).bind λ(x,c)=>match x with
 | .ref k=>match c[k]? with
   |some (.dct l)=>(CK y).bind λh=>some (.bl (!(eA l h).isSome),c)
   |_=>none
 |_=>none
def Kv{f g:bc}:∀(m:List (Option V)) (H:Hp) (Q:V->Hp->Prop),tD (md X) (DJ f g) m H Q->AW (tD (md X) f) (tD (md X) g) m H Q:=λm H Q B=>by
 let#[C,o,S,d,W,ok,e,q]:=B
 let#[#[y,r],M,e]:=ar e
 let#[#[x,A],z,e]:=ar e
 cases x with
 | ref k=>
   dsimp only at e
   split at e
   · rename_i l I
     let#[i,N,e]:=ar e
     let#[rfl,rfl]:=bI e
     refine#[C,o,S,y,r,ok,M,λj R H1 s h t=>#[j,o,r,_,A,ok.to s h,z,λu U H2 p c K=>?_]]
     cases Bo (t.ext p) N
     cases K with
     | ref P=>
       let#[J,w,n]:=c.obj k _ _ P I
       refine#[_,_,L,we.k w,?_]
       have:(mT J i).isSome=(eA l i).isSome:=by
         cases hv:eA l i with
         |none=>rw[n.noval hv];rfl
         |some d=>let#[v,F,_]:=n.val hv;rw[F];rfl
       rw[this]
       exact q _ _ _ (s.trans p) c (.bl _)
   · cases e
 |_=>cases e
def Ky{f g:bc}(e:X.A.units+1<cLine)(d:PE X a (tD (md X) f))(h:PE X b (tD (md X) g))(c:autoParam (behindInMarks .NotIn b=false) af._auto_1):PT X (.Compare a [.NotIn] [b] pos) (tB (md X) (bw (DJ f g))):=sv Kv (JL (CB e d h) c)
end
def AN(S:aH):D->Option Nat
 |.str z=>if z.length<=sizeLine then some z.length else none
 |d=>(mS S d).map (·.1.length)
def FO(f:bc):bc:=λb S=>(f b S).bind λ(d,a)=>(AN a d).bind λn=>some (.int n,a)
section
variable{X:Cx}{a:Expr}{pos:Pos}
def Iz{f:bc}{p:Pos}(m:Gl X "len")(y:X.mg "len"=none)(C:PE X a (tD (md X) f))(j:autoParam (starEach [a] X.env= [(false,eval a X.env)]) af._auto_1):
  PE X (.Call (.Name "len" p) [a] [] pos) (tD (md X) (FO f)):=
 gX (eM (wy.or nU) m y PySem.boot_len (dE C fN j) (he:=j)) λI H Q s=>by
  let#[u,w,S,d,J,ok,e,q]:=s
  let#[#[g,k],A,e]:=ar e
  let#[n,b,e]:=ar e
  let#[rfl,rfl]:=bI e
  refine#[u,w,S,g,k,ok,A,λl v K x h r=>?_]
  by_cases c:∃z,g=.str z
  ·let#[z,rfl]:=c
   cases r
   erw[AN] at b
   split at b <;>cases b
   exact .inl #[z,L,by assumption,q _ _ _ x h (.int _)]
  ·have B:(mS k g).map (·.1.length)=some n:=by
    cases g with
    |str z=>exact absurd #[z,L] c
    |_=>exact b
   let#[#[F,t],o,rfl]:=oQm.mp B
   let#[a,i,rfl,h2,h3]:=AQ h r o
   refine .inr #[a,i,L,h2.sq,?_]
   have:=q _ (.int i.length) _ x h (by rw[<-h3.length];exact .int _)
   exact this
end
def Hz{b:cI}{S:aH}{f:bc}{Q:D->aH->Prop}(h:E f b S λd a=>Op (AN a d) λn=>Q (.int n) a):E (FO f) b S Q:=by
 let#[d,a,c,n,e,q]:=h
 exact#[_,a,by unfold FO;rw[c];erw[Qbq];rw[e];rfl,q]
end DL
namespace W28
open PySem PySem.Spec L2 DL
abbrev bX(k:Int):=cF (.int k)
abbrev a9(k:Nat):=au (ax k)
abbrev fH(k:Int):=au (cF (.int k))
def gZ:List Str:= ["plus","minus","less","same","both"]
def je:List Str:= ["row","turns"]
def mL:List Str:= ["at once","when free"]
def eI:List (Str×List Str):= [("put",["thing","sum"]),("unless",["sum","place"]),("go",["place"]),("do",["goal","name","name","sum"]),("wait",["bell","sum"]),("call",["bell"]),("all",["bell"]),("tell",["sum"])]
def eK:List (Str×List Str):= [("put",["thing","sum"]),("unless",["sum","place"]),("go",["place"]),("do",["goal","name","name","sum"]),("take",["pass"]),("give",["pass"]),("pass",["pass","pass"]),("say",["sum"])]
def vm:dr:=
 (aQ (cf 1 (bo dy (gQ (aY (ax 0))) (bX 7)))
 (aQ (ja (gL (eo (J8 (aY (ax 0)) C1 (CQ (bX 63))))) (cW 2) (cf 1 (bo qS (bo dy (bo dy (bo sX (ax 1) (bX 1000003)) (bo qS (ax 2) (bo De (bX 10) (bX 30)))) (bX 13)) (bX 2305843009213693951))))
 (Js (bJ (au (bR (bT [none] (gL (eo (J8 (aY (ax 0)) C1 (CQ (bX 63))))) (cW 0) (bw (bo NC (ax 0) (bo De (bX 10) (bX 18)))) (ax 0))) (a9 1 (fH 0 az)))))))
def lJ:eG:=IW 3 vm
def sN:dr:=
 (aQ (C0 (xZ (bw (dZ (aY (bo eg (ax 0) (bX 0))))) (bw (bo (iQ false) (bo eg (bo eg (ax 0) (bX 0)) (bX 0)) (bX 0)))) (uv (vI kI (bo eg (ax 0) (bX 0)) (fH 0 az))) 64)
 (aQ (gu (bw (dZ (aY (bo eg (ax 0) (bX 0))))) (aQ (cf 2 (bo qS (bo eg (bo eg (ax 0) (bX 0)) (bX 0)) (ax 1)))
 (aQ (Fh (bo s_ (bo eg (bo eg (ax 0) (bX 0)) (bX 0)) (ax 1)) (Ke (bo eg (ax 0) (bX 0)) (bX 0)))
 (da (ax 2)))) gM)
 (aQ (Fh (bo dy (bo eg (ax 0) (bX 2)) (bX 1)) (Ke (ax 0) (bX 2)))
 (aQ (cf 3 (bo qS (bo sX (bo dy (bo dy (bo eg (ax 0) (bX 1)) (bo sX (bo sX (bX 65537) (bo eg (ax 0) (bX 2))) (bo eg (ax 0) (bX 2)))) (bX 11)) (bX 48271)) (bX 2305843009213693921)))
 (aQ (cf 3 (bo qS (bo sX (ax 3) (bo dy (bo qS (ax 3) (bX 1000003)) (bo sX (bX 99991) (bo eg (ax 0) (bX 2))))) (bX 2305843009213693907)))
 (da (bo qS (bo dy (bo s_ (ax 3) (bX 97)) (bo s_ (ax 3) (bX 1000033))) (ax 1))))))))
def aW:eG:=gD 4 sN
def yV:dr:=
 (da (bo eg (ax 1) (aF aW (a9 0 (au (gQ (aY (ax 1))) az)))))
def bA:eG:=gD 2 yV
def qH:dr:=
 (aQ (cf 2 (cF (.str "abcdefghijklmnopqrstuvwxyz")))
 (aQ (Cd 3 4 (au (aF aW (a9 0 (fH 26 az))) (au (aF bA (a9 0 (au (bR (bJ (fH 1 (fH 3 (fH 5 (fH 7 (fH 9 (fH 11 az)))))))) az))) az)))
 (aQ (cf 5 (bR (bJ (au (cF (.str "")) (au (cF (.str "zq")) (au (cF (.str "x")) (au (cF (.str "qqzzx")) (au (cF (.str "zqzqzqz")) az))))))))
 (aQ (cf 6 (bR (bJ az)))
 (aQ (ja (x_ (ax 1)) (cW 7) (aQ (cf 8 (bo eg (ax 2) (bo qS (bo dy (ax 3) (bo sX (ax 4) (ax 7))) (bX 26))))
 (uv (vI mF (ax 6) (au (bo dy (ax 8) (bo eg (ax 5) (bo qS (bo dy (ax 3) (bo sX (ax 7) (ax 7))) (bX 5)))) az)))))
 (da (ax 6)))))))
def iP:eG:=gD 9 qH
def vk:dr:=
 (Js (bT [none] (gL (aY (ax 0))) (cW 0) b_ (bo eg (ax 0) (bX 0))))
def dg:eG:=gD 1 vk
def kU:dr:=
 (da (yt (eo (bT [none,some 1] (gL (eo (dq dg (a9 0 az)))) (cW 0) b_ (xv false (ax 0) (eo (dq dg (a9 1 az))))))))
def eu:eG:=gD 2 kU
def yE:dr:=
 (da (yt (eo (mV [none,none,none] (gL (aY (bo eg (ax 0) (bX 4)))) (uw (nG 2 (bD (cW 0) (bD (cW 1) jh)))) b_ (gL (aY (ax 1))) (cW 2) b_ (bo (iQ false) (bo eg (ax 2) (bX 0)) (cF (.str "all")))))))
def nM:eG:=gD 1 yE
def pQ:dr:=
 (da (iZ (jo "int" (ax 0)) (E_ (jo "bool" (ax 0)))))
def gW:eG:=gD 1 pQ
def pz:dr:=
 (da (iZ (aF gW (a9 0 az)) (h_ CY CY (bX 0) (ax 0) (cF (.int (9))))))
def fT:eG:=gD 1 pz
def zd:dr:=
 (aQ (gu (ue (ez (dI (jo "str" (ax 0)))) (ez (bw (h_ CY CY (bX 1) (FO (ax 0)) (cF (.int (8))))))) (da (cF (.bl false))) gM)
 (da (i6 (eo (bT [none] (Fk (ax 0)) (cW 0) b_ (bo FK (ax 0) (cF (.str "abcdefghijklmnopqrstuvwxyz"))))))))
def gk:eG:=gD 1 zd
def kb:dr:=
 (aQ (gu (bw (xv false (ax 0) (aY (cF (.mt gZ))))) (da (bX 2)) gM)
 (da (DB (bw (bo (iQ false) (ax 0) (cF (.str "not")))) (bX 1) (Kh (bX 1)))))
def fA:eG:=gD 1 kb
def lj(self:eG):dr:=
 (aQ (gu (bw (bo K_ (ax 1) (bX 1))) (da (cF (.bl false))) gM)
 (aQ (gu (ez (dI (jo "tuple" (ax 0)))) (da (G7 (aF fT (a9 0 az)) (aF gk (a9 0 az)))) gM)
 (aQ (gu (ue (bw (bo (iQ false) (gQ (aY (ax 0))) (bX 0))) (ez (dI (jo "str" (bo eg (ax 0) (bX 0)))))) (da (cF (.bl false))) gM)
 (aQ (gu (bw (bo (iQ false) (bo eg (ax 0) (bX 0)) (cF (.str "waits")))) (da (iZ (bo (iQ false) (gQ (aY (ax 0))) (bX 2)) (aF gk (au (bo eg (ax 0) (bX 1)) az)))) gM)
 (aQ (gu (bw (bo (iQ true) (gQ (aY (ax 0))) (bo dy (aF fA (au (bo eg (ax 0) (bX 0)) az)) (bX 1)))) (da (cF (.bl false))) gM)
 (da (i6 (eo (bT [none,some 1] (gL (aY (GP (ax 0) (CQ (bX 1)) C1))) (cW 0) b_ (aF self (a9 0 (au (bo Ax (ax 1) (bX 1)) az))))))))))))
def cX:Nat->eG
 |0=>λ_ _=>none
 |n+1=>gD 2 (lj (cX n))
def Bh:dr:=
 (da (aF (cX 6) (a9 0 (au (cF (.int (5))) az))))
def r9:eG:=gD 1 Bh
def Br(self:eG):dr:=
 (gu (dI (jo "str" (ax 0))) (uv (vI mF (ax 1) (a9 0 az))) (gu (xZ (dI (jo "tuple" (ax 0))) (bw (bo (iQ false) (bo eg (ax 0) (bX 0)) (cF (.str "waits"))))) (uv (vI mF (ax 2) (au (bo eg (ax 0) (bX 1)) az))) (gu (dI (jo "tuple" (ax 0))) (ja (gL (aY (GP (ax 0) (CQ (bX 1)) C1))) (cW 3) (uv (aF self (a9 3 (a9 1 (a9 2 az)))))) gM)))
def iE:Nat->eG
 |0=>λ_ _=>none
 |n+1=>gD 4 (Br (iE n))
def vg:dr:=
 (aQ (cf 1 (bR (bJ az)))
 (aQ (uv (aF (iE 6) (a9 0 (au (bR (bJ az)) (a9 1 az)))))
 (da (tupQ (eo (yG (aY (ax 1))))))))
def lO:eG:=gD 2 vg
def va:dr:=
 (aQ (cf 1 (bR (bJ az)))
 (aQ (uv (aF (iE 6) (a9 0 (a9 1 (au (bR (bJ az)) az)))))
 (da (tupQ (eo (yG (aY (ax 1))))))))
def lN:eG:=gD 2 va
def qA:dr:=
 (aQ (gu (ez (dI (aF r9 (a9 0 az)))) (da (cF (.bl false))) gM)
 (aQ (gu (ez (dI (i6 (eo (bT [none,some 1] (gL (aY (aF lN (a9 0 az)))) (cW 0) b_ (xv false (ax 0) (aY (yZ (ax 1) (cF (.str "word")))))))))) (da (cF (.bl false))) gM)
 (da (i6 (eo (bT [none,some 1] (gL (aY (aF lO (a9 0 az)))) (cW 0) b_ (xv false (ax 0) (aY (yZ (ax 1) (cF (.str "bell")))))))))))
def iI:eG:=gD 2 qA
def dH(self:eG):dr:=
 (aQ (gu (bw (bo (iQ false) (ax 0) (cF (.str "sum")))) (da (aF iI (a9 1 (a9 2 az)))) gM)
 (aQ (gu (bw (bo (iQ false) (ax 0) (cF (.str "place")))) (da (iZ (aF gW (a9 1 az)) (h_ CY CY (bX 0) (ax 1) (ax 3)))) gM)
 (aQ (gu (bw (bo (iQ false) (ax 0) (cF (.str "name")))) (da (aF gk (a9 1 az))) gM)
 (aQ (gu (bw (bo (iQ false) (ax 0) (cF (.str "goal")))) (da (G7 (bo (Fz false) (ax 1) (cF .non)) (aF self (au (cF (.str "thing")) (a9 1 (a9 2 (a9 3 az))))))) gM)
 (da (iZ (aF gk (a9 1 az)) (xv false (ax 1) (aY (yZ (ax 2) (ax 0))))))))))
def dC:Nat->eG
 |0=>λ_ _=>none
 |n+1=>gD 4 (dH (dC n))
def qx:dr:=
 (aQ (gu (ue (ez (dI (jo "tuple" (ax 0)))) (ue (bw (bo (iQ false) (gQ (aY (ax 0))) (bX 0))) (ez (dI (jo "str" (bo eg (ax 0) (bX 0))))))) (da (cF (.bl false))) gM)
 (aQ (gu (ue (bw (DJ (bo eg (ax 0) (bX 0)) (ax 1))) (bw (bo (iQ true) (gQ (aY (ax 0))) (bo dy (gQ (aY (yZ (ax 1) (bo eg (ax 0) (bX 0))))) (bX 1))))) (da (cF (.bl false))) gM)
 (aQ (gu (ez (dI (i6 (eo (bT [none,none,some 2,some 3] (GH (aY (yZ (ax 1) (bo eg (ax 0) (bX 0)))) (aY (GP (ax 0) (CQ (bX 1)) C1))) (uw (nG 2 (bD (cW 0) (bD (cW 1) jh)))) b_ (aF (dC 2) (a9 0 (a9 1 (a9 2 (a9 3 az)))))))))) (da (cF (.bl false))) gM)
 (da (G7 (bo (iQ true) (bo eg (ax 0) (bX 0)) (cF (.str "do"))) (KI false (cm (au (bo eg (ax 0) (bX 2)) (au (bo eg (ax 0) (bX 3)) az))) (aY (yZ (ax 2) (cF (.str "deed"))))))))))
def iL:eG:=gD 4 qx
def kF:dr:=
 (da (i6 (eo (bT [none,some 0,some 1,some 2] (gL (aY (ax 0))) (cW 0) b_ (aF iL (a9 0 (a9 2 (a9 3 (au (gQ (aY (ax 1))) az)))))))))
def dN:eG:=gD 3 kF
def oH:dr:=
 (aQ (Fh (ax 0) (uw (nG 5 (bD (cW 2) (bD (cW 3) (bD (cW 4) (bD (cW 5) (bD (cW 6) jh))))))))
 (aQ (cf 7 (bR (dq dg (a9 4 az))))
 (aQ (cf 8 (Il ["thing","word","bell","deed"] (a9 7 (au (bR (lR (aY (ax 7)) (eo (bJ (au (cF (.str "given")) az))))) (au (bR (dq dg (a9 5 az))) (a9 1 az))))))
 (aQ (gu (ez (dI (i6 (eo (bT [none,none,some 8] (gL (aY (ax 6))) (uw (nG 2 (bD (cW 0) (bD (cW 1) jh)))) b_ (aF dN (a9 1 (au (Mt eI) (a9 2 az))))))))) (da (cF (.bl false))) gM)
 (da (G7 (bo (iQ false) (ax 3) (cF (.str "when free"))) (E_ (aF nM (a9 0 az)))))))))
def gS:eG:=gD 9 oH
def oN:dr:=
 (Js (mV [none,none] (gL (aY (ax 0))) (cW 0) b_ (gL (eo (dq dg (au (bo eg (ax 0) (bX 4)) az)))) (cW 1) b_ (cm (au (bo eg (ax 0) (bX 0)) (a9 1 az)))))
def fo:eG:=gD 1 oN
def kR:dr:=
 (da (i6 (eo (bT [none,some 0] (gL (aY (bo eg (ax 0) (bX 0)))) (cW 0) b_ (aF gS (a9 0 (au (bR (dq fo (au (bo eg (ax 1) (bX 0)) az))) az)))))))
def fw:eG:=gD 1 kR
def k9:dr:=
 (aQ (Fh (ax 0) (uw (nG 4 (bD (cW 1) (bD (cW 2) (bD (cW 3) (bD (cW 4) jh)))))))
 (aQ (ja (gL (aY (ax 4))) (uw (nG 2 (bD (cW 5) (bD (cW 6) jh)))) (aQ (cf 7 (bR (lR (eo (dq dg (a9 5 az))) (eo (dq dg (a9 3 az))))))
 (aQ (cf 8 (Il ["thing","word","bell","deed","pass"] (a9 7 (a9 7 (au (bR (bJ az)) (au (bR (dq fo (a9 1 az))) (au (bR (dq dg (a9 2 az))) az)))))))
 (gu (ez (dI (aF dN (a9 6 (au (Mt eK) (a9 8 az)))))) (da (cF (.bl false))) gM))))
 (da (cF (.bl true)))))
def fD:eG:=gD 9 k9
def lZ:dr:=
 (aQ (cf 1 M0)
 (aQ (ja (gL (aY (ax 0))) (cW 2) (ja (gL (aY (bo eg (ax 2) (bX 4)))) (uw (nG 2 (bD (cW 3) (bD (cW 4) jh)))) (Ms (ax 1) (cm (au (bo eg (ax 2) (bX 0)) (a9 3 az))) (bR (bT [none] (gL (aY (ax 4))) (cW 0) (bw (bo (iQ false) (bo eg (ax 0) (bX 0)) (cF (.str "do")))) (cm (au (bo eg (ax 0) (bX 2)) (au (bo eg (ax 0) (bX 3)) az))))))))
 (aQ (C0 (A5 (ax 1)) (aQ (cf 5 (bR (bT [none,some 1] (ME (ax 1)) (cW 0) (ez (dI (yt (eo (bT [none,some 1] (gL (aY (Mu (ax 1) (ax 0)))) (cW 0) b_ (EH (ax 0) (ax 1))))))) (ax 0))))
 (aQ (gu (ez (dI (ax 5))) (da (cF (.bl false))) gM)
 (ja (gL (aY (ax 5))) (cW 3) (Bd (ax 1) (ax 3))))) 40)
 (da (cF (.bl true))))))
def f_:eG:=gD 6 lZ
def y7:dr:=
 (aQ (gu (ue (ez (dI (jo "tuple" (ax 0)))) (bw (bo NL (gQ (aY (ax 0))) (ax 2)))) (da (cF (.bl false))) gM)
 (aQ (ja (gL (aY (ax 0))) (cW 3) (gu (ue (ez (dI (jo "tuple" (ax 3)))) (ue (bw (bo (iQ true) (gQ (aY (ax 3))) (ax 1))) (ez (dI (aF gk (au (bo eg (ax 3) (bX 0)) az)))))) (da (cF (.bl false))) gM))
 (da (i6 (eo (bT [none,some 0] (GO (bX 1) (gQ (aY (ax 0)))) (cW 0) b_ (bo Fv (bo eg (bo eg (ax 1) (bo Ax (ax 0) (bX 1))) (bX 0)) (bo eg (bo eg (ax 1) (ax 0)) (bX 0)))))))))
def gm:eG:=gD 4 y7
def sS:dr:=
 (da (iZ (jo "str" (ax 0)) (xv false (ax 0) (aY (ax 1)))))
def iz:eG:=gD 2 sS
def tJ:dr:=
 (da (iZ (aF gm (a9 0 (fH 2 (au (cF (.int (3))) az)))) (i6 (eo (bT [none,none] (gL (aY (ax 0))) (uw (nG 2 (bD (cW 0) (bD (cW 1) jh)))) b_ (aF iz (a9 1 (au (cF (.mt je)) az))))))))
def km:eG:=gD 1 tJ
def qJ:dr:=
 (da (iZ (jo "tuple" (ax 0)) (h_ CY CY (bX 1) (gQ (aY (ax 0))) (cF (.int (40))))))
def gg:eG:=gD 1 qJ
def su:dr:=
 (aQ (gu (ue (ez (dI (aF gm (a9 0 (fH 2 (au (cF (.int (4))) az)))))) (bw (bo (iQ false) (gQ (aY (ax 0))) (bX 0)))) (da (cF (.bl false))) gM)
 (da (i6 (eo (bT [none,none] (gL (aY (ax 0))) (uw (nG 2 (bD (cW 0) (bD (cW 1) jh)))) b_ (aF gg (a9 1 az)))))))
def jG:eG:=gD 1 su
def qm:dr:=
 (aQ (gu (ez (dI (aF gm (a9 0 (fH 2 (a9 1 az)))))) (da (cF (.bl false))) gM)
 (da (i6 (eo (bT [none,none] (gL (aY (ax 0))) (uw (nG 2 (bD (cW 0) (bD (cW 1) jh)))) b_ (iZ (bo (iQ true) (ax 0) (cF (.str "given"))) (aF fT (a9 1 az))))))))
def e_:eG:=gD 2 qm
def zc:dr:=
 (aQ (Fh (ax 0) (uw (nG 5 (bD (cW 1) (bD (cW 2) (bD (cW 3) (bD (cW 4) (bD (cW 5) jh))))))))
 (aQ (gu (ue (ez (dI (aF iz (a9 2 (au (cF (.mt mL)) az))))) (ez (dI (aF e_ (a9 3 (au (cF (.int (4))) az)))))) (da (cF (.bl false))) gM)
 (da (iZ (aF km (a9 4 az)) (aF jG (a9 5 az))))))
def oM:eG:=gD 6 zc
def sL:dr:=
 (da (iZ (aF gm (a9 0 (fH 5 (au (cF (.int (4))) az)))) (i6 (eo (bT [none] (gL (aY (ax 0))) (cW 0) b_ (aF oM (a9 0 az)))))))
def jN:eG:=gD 1 sL
def qv:dr:=
 (da (iZ (aF gm (a9 0 (fH 2 (au (cF (.int (16))) az)))) (i6 (eo (bT [none,none] (gL (aY (ax 0))) (uw (nG 2 (bD (cW 0) (bD (cW 1) jh)))) b_ (aF fT (a9 1 az)))))))
def iU:eG:=gD 1 qv
def xF:dr:=
 (aQ (gu (ue (ez (dI (jo "tuple" (ax 0)))) (bw (bo (iQ true) (gQ (aY (ax 0))) (bX 2)))) (da (cF (.bl false))) gM)
 (da (iZ (aF e_ (au (bo eg (ax 0) (bX 0)) (au (cF (.int (8))) az))) (aF gg (au (bo eg (ax 0) (bX 1)) az)))))
def nP:eG:=gD 1 xF
def tX:dr:=
 (aQ (gu (ue (ez (dI (jo "tuple" (ax 0)))) (ez (bw (h_ CY CY (bX 1) (gQ (aY (ax 0))) (cF (.int (4))))))) (da (cF (.bl false))) gM)
 (da (i6 (eo (bT [none] (gL (aY (ax 0))) (cW 0) b_ (aF nP (a9 0 az)))))))
def kn:eG:=gD 1 tX
def vC:dr:=
 (aQ (gu (ue (ez (dI (jo "tuple" (ax 0)))) (bw (bo (iQ true) (gQ (aY (ax 0))) (bX 4)))) (da (cF (.bl false))) gM)
 (aQ (gu (ue (ez (dI (aF jN (au (bo eg (ax 0) (bX 0)) az)))) (ez (dI (aF iU (au (bo eg (ax 0) (bX 1)) az))))) (da (cF (.bl false))) gM)
 (aQ (gu (ue (ez (dI (aF e_ (au (bo eg (ax 0) (bX 2)) (au (cF (.int (16))) az))))) (ez (dI (aF kn (au (bo eg (ax 0) (bX 3)) az))))) (da (cF (.bl false))) gM)
 (aQ (gu (dI (aF eu (au (bo eg (ax 0) (bX 0)) (au (bo eg (ax 0) (bX 1)) az)))) (da (cF (.bl false))) gM)
 (aQ (gu (dI (yt (eo (bT [none,none,some 0] (gL (aY (bo eg (ax 0) (bX 3)))) (uw (nG 2 (bD (cW 0) (bD (cW 1) jh)))) b_ (aF eu (a9 0 (au (bo eg (ax 2) (bX 2)) az))))))) (da (cF (.bl false))) gM)
 (da (iZ (aF fw (a9 0 az)) (iZ (aF fD (a9 0 az)) (aF f_ (au (bo eg (ax 0) (bX 0)) az))))))))))
def lI:eG:=gD 1 vC
def qo:dr:=
 (aQ (cf 1 (Kd (ax 0)))
 (da (iZ (bo (Gu false) (aF lI (a9 0 az)) (cF (.bl true))) (bo (iQ false) (Kd (ax 0)) (ax 1)))))
def dw:eG:=gD 2 qo
def sM:dr:=
 (aQ (cf 3 (bR (Ey (aY (ax 1)))))
 (Js (AM (eo (bT [none,some 0,some 3] (x_ (Aa minD (a9 2 (au (gQ (aY (ax 3))) az)))) (cW 0) b_ (vI kI (ax 2) (au (aF aW (a9 1 (au (gQ (aY (ax 2))) az))) az)))))))
def cq:eG:=gD 4 sM
def nI:dr:=
 (da (tupQ (eo (bT [none,some 0] (gL (aY (ax 1))) (cW 0) b_ (cm (a9 0 (au (aF aW (a9 1 (fH 10 az))) az)))))))
def dh:eG:=gD 2 nI
def ua:dr:=
 (aQ (cf 3 (aF aW (a9 0 (fH 6 az))))
 (aQ (gu (xZ (bw (bo K_ (ax 3) (bX 2))) (bw (dZ (aY (ax 1))))) (da (aF bA (a9 0 (a9 1 az)))) gM)
 (aQ (gu (xZ (bw (bo (iQ false) (ax 3) (bX 2))) (bw (dZ (aY (ax 2))))) (da (cm (au (cF (.str "waits")) (au (aF bA (a9 0 (a9 2 az))) az)))) gM)
 (da (aF aW (a9 0 (au (bo eg (bR (bJ (fH 3 (fH 10 az)))) (aF aW (a9 0 (fH 2 az)))) az)))))))
def ic:eG:=gD 4 ua
def vw(self:eG):dr:=
 (aQ (cf 4 (aF aW (a9 0 (fH 8 az))))
 (aQ (gu (ue (bw (bo K_ (ax 3) (bX 2))) (bw (bo K_ (ax 4) (bX 2)))) (da (aF ic (a9 0 (a9 1 (a9 2 az))))) gM)
 (aQ (gu (bw (bo (iQ false) (ax 4) (bX 2))) (da (cm (au (cF (.str "not")) (au (aF self (a9 0 (a9 1 (a9 2 (au (bo Ax (ax 3) (bX 1)) az))))) az)))) gM)
 (aQ (cf 5 (aF bA (a9 0 (au (bR (bJ (au (cF (.str "plus")) (au (cF (.str "minus")) (au (cF (.str "less")) (au (cF (.str "same")) (au (cF (.str "both")) az))))))) az))))
 (da (cm (a9 5 (au (aF self (a9 0 (a9 1 (a9 2 (au (bo Ax (ax 3) (bX 1)) az))))) (au (aF self (a9 0 (a9 1 (a9 2 (au (bo Ax (ax 3) (bX 1)) az))))) az)))))))))
def hE:Nat->eG
 |0=>λ_ _=>none
 |n+1=>gD 6 (vw (hE n))
def vH:dr:=
 (aQ (cf 3 (aF bA (a9 0 (au (bR (lR (eo (bJ (au (cF (.str "unless")) (au (cF (.str "go")) az)))) (aY (yZ (ax 1) (cF (.str "kinds")))))) az))))
 (aQ (Cd 4 5 (au (yZ (ax 1) (cF (.str "goals"))) (au (yZ (ax 1) (cF (.str "bells"))) az)))
 (aQ (cf 6 (aF (hE 5) (a9 0 (au (yZ (ax 1) (cF (.str "words"))) (a9 5 (au (bo dy (bX 1) (aF aW (a9 0 (fH 5 az)))) az))))))
 (aQ (gu (bw (bo (iQ false) (ax 3) (cF (.str "unless")))) (da (cm (a9 3 (a9 6 (au (aF aW (a9 0 (au (bo dy (ax 2) (bX 1)) az))) az))))) gM)
 (aQ (gu (bw (bo (iQ false) (ax 3) (cF (.str "go")))) (da (cm (a9 3 (au (aF aW (a9 0 (au (bo dy (ax 2) (bX 1)) az))) az)))) gM)
 (aQ (gu (bw (xv false (ax 3) (aY (cm (au (cF (.str "tell")) (au (cF (.str "say")) az)))))) (da (cm (a9 3 (a9 6 az)))) gM)
 (aQ (gu (bw (bo (iQ false) (ax 3) (cF (.str "put")))) (da (cm (a9 3 (au (aF bA (a9 0 (a9 4 az))) (a9 6 az))))) gM)
 (aQ (gu (bw (bo (iQ false) (ax 3) (cF (.str "do")))) (da (bo dy (bo dy (cm (a9 3 (au (aF bA (a9 0 (au (bR (lR (aY (ax 4)) (eo (bJ (au (cF .non) az))))) az))) az))) (aF bA (a9 0 (au (yZ (ax 1) (cF (.str "does"))) az)))) (cm (a9 6 az)))) gM)
 (aQ (gu (bw (bo (iQ false) (ax 3) (cF (.str "wait")))) (da (cm (a9 3 (au (aF bA (a9 0 (a9 5 az))) (a9 6 az))))) gM)
 (aQ (gu (bw (xv false (ax 3) (aY (cm (au (cF (.str "call")) (au (cF (.str "all")) az)))))) (da (cm (a9 3 (au (aF bA (a9 0 (a9 5 az))) az)))) gM)
 (aQ (gu (bw (bo (iQ false) (ax 3) (cF (.str "pass")))) (da (cm (a9 3 (au (aF bA (a9 0 (au (yZ (ax 1) (cF (.str "passes"))) az))) (au (aF bA (a9 0 (au (yZ (ax 1) (cF (.str "passes"))) az))) az))))) gM)
 (da (cm (a9 3 (au (aF bA (a9 0 (au (yZ (ax 1) (cF (.str "passes"))) az))) az)))))))))))))))
def lL:eG:=gD 7 vH
def ml:dr:=
 (aQ (cf 2 (bo eg (bR (bJ (fH 1 (au (bo dy (bX 1) (aF aW (a9 0 (fH 3 az)))) (au (bo dy (bX 1) (aF aW (a9 0 (fH 8 az)))) (fH 40 az)))))) (bo s_ (aF aW (a9 0 (fH 13 az))) (bX 4))))
 (da (tupQ (eo (bT [none,some 0,some 1,some 2] (x_ (ax 2)) (cW 0) b_ (aF lL (a9 1 (a9 2 (a9 3 az)))))))))
def dY:eG:=gD 3 ml
def jt:dr:=
 (aQ (cf 4 (bR (bT [none,none] (gL (aY (ax 1))) (uw (nG 2 (bD (cW 0) (bD (cW 1) jh)))) b_ (ax 0))))
 (aQ (cf 5 (bR (bT [none,none] (gL (aY (ax 2))) (uw (nG 2 (bD (cW 0) (bD (cW 1) jh)))) b_ (ax 0))))
 (aQ (cf 6 (bR (lR (eo (lR (eo (bJ (au (cF (.str "tell")) az))) (eo (qU (eo (bJ (au (cF (.str "put")) (au (cF (.str "put")) az)))) (Aa intOfD (au (dZ (aY (ax 4))) az)))))) (eo (qU (eo (bJ (au (cF (.str "do")) az))) (Aa intOfD (au (dZ (aY (ax 3))) az)))))))
 (aQ (cf 6 (bR (lR (eo (lR (aY (ax 6)) (eo (qU (eo (bJ (au (cF (.str "wait")) (au (cF (.str "call")) az)))) (Aa intOfD (au (dZ (aY (ax 5))) az)))))) (eo (qU (eo (bJ (au (cF (.str "all")) az))) (Aa intOfD (au (iZ (dZ (aY (ax 5))) (bo (iQ false) (ax 0) (cF (.str "when free")))) az)))))))
 (da (Il ["words","goals","bells","does","kinds"] (au (bR (lR (aY (ax 4)) (eo (bJ (au (cF (.str "given")) az))))) (a9 4 (a9 5 (a9 3 (a9 6 az)))))))))))
def dv:eG:=IW 7 jt
def qj:dr:=
 (aQ (Cd 2 3 (au (bR (bJ az)) (au (bR (bJ az)) az)))
 (aQ (ja (gL (eo (dq cq (a9 0 (a9 1 (au (aF bA (a9 0 (au (bR (bJ (fH 0 (fH 1 (fH 1 (fH 2 (fH 2 (fH 3 (fH 4 az))))))))) az))) az)))))) (cW 4) (aQ (cf 5 (aF dh (a9 0 (au (bR (dq cq (a9 0 (a9 1 (au (aF aW (a9 0 (fH 5 az))) az))))) az))))
 (aQ (cf 6 (bR (bT [none,some 0] (gL (eo (dq cq (a9 0 (a9 1 (au (aF aW (a9 0 (fH 4 az))) az)))))) (cW 0) b_ (cm (a9 0 (au (aF bA (a9 1 (au (bR (bJ (au (cF (.str "row")) (au (cF (.str "turns")) az)))) az))) az))))))
 (aQ (cf 7 (bR (dq cq (a9 0 (a9 1 (au (bo dy (bX 1) (aF aW (a9 0 (fH 4 az)))) az))))))
 (aQ (uv (vI mF (ax 2) (au (cm (a9 4 (au (aF bA (a9 0 (au (bR (bJ (au (cF (.str "at once")) (au (cF (.str "when free")) az)))) az))) (a9 5 (au (tupQ (fV (aY (ax 6)))) (a9 7 az)))))) az)))
 (ja (gL (aY (ax 7))) (cW 8) (uv (vI AC (ax 3) (au (aF aW (a9 0 (au (bo dy (gQ (aY (ax 3))) (bX 1)) az))) (au (cm (a9 4 (a9 8 az))) az))))))))))
 (aQ (cf 9 (bR (bJ az)))
 (aQ (ja (gL (aY (ax 2))) (uw (nG 5 (bD (cW 4) (bD (cW 10) (bD (cW 5) (bD (cW 6) (bD (cW 7) jh))))))) (aQ (cf 11 (bR (bJ az)))
 (aQ (ja (gL (aY (ax 7))) (cW 8) (aQ (cf 12 (bR (J8 (aY (ax 3)) (CQ (bo dy (EF (aY (ax 3)) (cm (a9 4 (a9 8 az)))) (bX 1))) C1)))
 (uv (vI mF (ax 11) (au (cm (a9 8 (au (aF dY (a9 0 (au (aF dv (a9 10 (a9 5 (a9 6 (a9 12 az))))) az))) az))) az)))))
 (uv (vI mF (ax 9) (au (cm (a9 4 (a9 10 (a9 5 (a9 6 (au (tupQ (fV (aY (ax 11)))) az)))))) az))))))
 (da (tupQ (fV (aY (ax 9)))))))))
def iW:eG:=gD 13 qj
def qM:dr:=
 (aQ (cf 2 (aF iW (a9 0 (a9 1 az))))
 (aQ (cf 3 (bR (bJ az)))
 (aQ (ja (gL (aY (ax 2))) (cW 4) (uv (E1 (ax 3) (eo (bT [none,none,some 4] (gL (aY (bo eg (ax 4) (bX 4)))) (uw (nG 2 (bD (cW 0) (bD (cW 1) jh)))) b_ (cm (au (bo eg (ax 2) (bX 0)) (a9 0 az))))))))
 (aQ (cf 5 (bR (bT [none,some 2] (gL (aY (ax 1))) (cW 0) (bw (xv true (ax 0) (eo (bT [none] (gL (aY (ax 1))) (cW 0) b_ (bo eg (ax 0) (bX 0)))))) (ax 0))))
 (aQ (cf 6 (bR (dq cq (a9 0 (a9 5 (au (aF bA (a9 0 (au (bR (bJ (fH 0 (fH 0 (fH 1 (fH 2 (fH 3 (fH 16 az)))))))) az))) az))))))
 (aQ (cf 7 (bR (dq cq (a9 0 (a9 1 (au (aF bA (a9 0 (au (bR (bJ (fH 0 (fH 0 (fH 1 (fH 2 (fH 16 az))))))) az))) az))))))
 (aQ (cf 8 (bR (bJ az)))
 (aQ (ja (x_ (bo dy (bX 1) (aF aW (a9 0 (fH 4 az))))) (cW 9) (aQ (cf 10 (bR (dq cq (a9 0 (au (bR (bT [none,some 7] (gL (aY (ax 1))) (cW 0) (bw (xv true (ax 0) (aY (ax 1)))) (ax 0))) (au (aF bA (a9 0 (au (bR (bJ (fH 0 (fH 1 (fH 2 (fH 8 az)))))) az))) az))))))
 (aQ (cf 11 (bR (lR (aY (ax 10)) (aY (ax 7)))))
 (aQ (cf 12 (bR (lR (eo (lR (eo (bJ (au (cF (.str "say")) az))) (eo (qU (eo (bJ (au (cF (.str "put")) az))) (Aa intOfD (au (dZ (aY (ax 11))) az)))))) (eo (qU (eo (bJ (au (cF (.str "do")) (au (cF (.str "do")) az)))) (Aa intOfD (au (dZ (aY (ax 3))) az)))))))
 (aQ (cf 12 (bR (lR (aY (ax 12)) (eo (qU (eo (bJ (au (cF (.str "take")) (au (cF (.str "give")) (au (cF (.str "pass")) az))))) (Aa intOfD (au (dZ (aY (ax 6))) az)))))))
 (aQ (cf 13 (Il ["words","goals","bells","does","kinds","passes"] (a9 11 (a9 11 (au (bR (bJ az)) (a9 3 (a9 12 (a9 6 az))))))))
 (uv (vI mF (ax 8) (au (cm (au (aF dh (a9 0 (a9 10 az))) (au (aF dY (a9 0 (a9 13 az))) az))) az)))))))))
 (da (cm (a9 2 (au (aF dh (a9 0 (a9 6 az))) (au (aF dh (a9 0 (a9 7 az))) (au (tupQ (fV (aY (ax 8)))) az))))))))))))))
def iT:eG:=gD 14 qM
def Ks:dr:=
 (aQ (cf 1 (bR (dq lJ (a9 0 az))))
 (aQ (cf 2 (bR (dq iP (a9 1 (fH 26 az)))))
 (aQ (ja (x_ (Aa maxD (fH 4 (au (Aa minD (fH 8 (au (gQ (aY (ax 0))) az))) az)))) (cW 3) (aQ (cf 4 (aF iT (a9 1 (a9 2 az))))
 (aQ (Fh (ax 4) (uw (nG 4 (bD (cW 5) (bD (cW 6) (bD (cW 7) (bD (cW 8) jh)))))))
 (aQ (gu (ue (ez (dI (aF dw (a9 4 az)))) (ez (dI (aF dw (au (cm (a9 5 (a9 6 (a9 7 (au (GP (ax 8) C1 (CQ (bX 1))) az))))) az))))) (da (cF (.bl false))) gM)
 (aQ (cf 9 (cm (au (cm az) (au (cm (au (cm (au (cF (.str "go")) (au (aF aW (a9 1 (fH 2 az))) az))) az)) az))))
 (gu (ue (ez (dI (aF dw (au (cm (a9 5 (au (cm az) (au (cm az) (au (cm (a9 9 az)) az))))) az)))) (ez (dI (aF dw (au (cm (au (cm az) (a9 6 (a9 7 (au (bo za (cm (a9 9 az)) (bX 4)) az))))) az))))) (da (cF (.bl false))) gM))))))
 (da (aF dw (au (cm (au (cm az) (au (cm az) (au (cm az) (au (cm (au (cm (au (cm az) (au (cm (au (cm (au (cF (.str "go")) (fH 1 az))) az)) az))) az)) az))))) az))))))
def FS:eG:=gD 10 Ks
def top(i:Nat):Stmt:=PySem.Challenge.pw_calledroom_k07_worlds_drawn.main.body.getD i (.Pass #[0,0,0,0])
abbrev mE:Stmt:=top 54
abbrev lG:Stmt:=top 55
abbrev oY:Stmt:=top 56
abbrev j8:Stmt:=top 57
abbrev mC:Stmt:=top 41
abbrev gI:Stmt:=top 42
abbrev pH:Stmt:=top 46
abbrev mK:Stmt:=top 6
abbrev m6:Stmt:=top 7
abbrev pO:Stmt:=top 8
abbrev jd:Stmt:=top 11
abbrev gJ:Stmt:=top 10
abbrev sy:Stmt:=top 9
abbrev sY:Stmt:=top 14
abbrev mN:Stmt:=top 13
abbrev mU:Stmt:=top 12
abbrev jU:Stmt:=top 51
abbrev iY:Stmt:=top 50
abbrev jK:Stmt:=top 49
abbrev fR:Stmt:=top 48
abbrev jb:Stmt:=top 45
abbrev i3:Stmt:=top 43
abbrev gC:Stmt:=top 44
abbrev gF:Stmt:=top 47
abbrev iA:Stmt:=top 52
abbrev pk:Stmt:=top 30
abbrev kL:Stmt:=top 31
abbrev lr:Stmt:=top 34
abbrev j9:Stmt:=top 40
abbrev kY:Stmt:=top 35
abbrev ko:Stmt:=top 32
abbrev pj:Stmt:=top 37
abbrev kP:Stmt:=top 36
abbrev ke:Stmt:=top 33
abbrev ph:Stmt:=top 39
abbrev k_:Stmt:=top 38
abbrev mY:Stmt:=top 29
abbrev jJ:Stmt:=top 67
abbrev lE:Stmt:=top 60
abbrev i0:Stmt:=top 61
abbrev k8:Stmt:=top 58
abbrev mH:Stmt:=top 59
abbrev mQ:Stmt:=top 62
abbrev hZ:Stmt:=top 63
abbrev fh:Stmt:=top 64
abbrev jS:Stmt:=top 65
abbrev kx:Stmt:=top 66
abbrev nq:Stmt:=top 68
end W28
namespace W28
open PySem PySem.Spec L2 DL PyProof.Rows
abbrev FI:List Str:= ["_law_manner","_law_things","_law_bells","_law_does"]
abbrev qI:List Str:= ["_law_pot_here","_law_many"]
abbrev yK:List Str:= ["_law_pot_here","_law_scope","_law_many"]
abbrev A1:List Str:= ["_law_pot_here","_law_scope"]
abbrev yN:List Str:= ["_law_pot_here","_law_some_here"]
abbrev vj:List Str:= ["_law_pot_here","_law_words_here","_law_bells","_law_deep"]
abbrev AV:List Str:= ["_law_pot_here","_law_words_here","_law_bells"]
abbrev Bq:List Str:= ["_law_pot_here","_law_words_here","_law_many"]
abbrev jj:List Str:= ["_law_pot_here","_law_words_here"]
abbrev sU:List Str:= ["_law_script"]
abbrev Bm:List Str:= ["_law_thing"]
abbrev zq:List Str:= ["form"]
abbrev yJ:List Str:= ["one","other"]
abbrev yH:List Str:= ["program","forms","reach"]
abbrev zj:List Str:= ["roll"]
abbrev AG:List Str:= ["room","deeds"]
abbrev l_:List Str:= ["room"]
abbrev om:List Str:= ["rooms"]
abbrev yq:List Str:= ["row","forms","reach","last"]
abbrev Hr:List Str:= ["row"]
abbrev qE:List Str:= ["sort","part","reach","last"]
abbrev tV:List Str:= ["thing","deep"]
abbrev xP:List Str:= ["thing","most"]
abbrev yd:List Str:= ["thing","reach"]
abbrev A2:List Str:= ["thing","size","most"]
abbrev yr:List Str:= ["thing","texts"]
abbrev bh:List Str:= ["thing"]
abbrev vt:List Str:= ["tree","words","bells"]
abbrev qu:List Str:= ["tree"]
abbrev oq:List Str:= ["world"]
section
variable(P:X9)(w:Xc)(K:X1)(mg:X3)(base:Xe)
abbrev z4:Prop:=fK P w K mg base 1 "_law_pot" sU lJ
abbrev cE:Prop:=fK P w K mg base 1 "_law_take" qI aW
abbrev hR:Prop:=fK P w K mg base 2 "_law_of" yN bA
abbrev wW:Prop:=fK P w K mg base 3 "_law_words" qI iP
abbrev jZ:Prop:=fK P w K mg base 1 "names_of" zj dg
abbrev qZ:Prop:=fK P w K mg base 2 "shares_a_word" yJ eu
abbrev B6:Prop:=fK P w K mg base 1 "has_all" l_ nM
abbrev tR:Prop:=fK P w K mg base 1 "is_whole" bh gW
abbrev mG:Prop:=fK P w K mg base 2 "is_value" bh fT
abbrev pK:Prop:=fK P w K mg base 1 "is_word" bh gk
abbrev uH:Prop:=fK P w K mg base 1 "parts_asked" zq fA
abbrev qY:Prop:=fK P w K mg base 9 "is_sum_within" tV (cX 6)
abbrev Dp:Prop:=fK P w K mg base 10 "is_sum" bh r9
abbrev zb:Prop:=fK P w K mg base 7 "gather" vt (iE 6)
abbrev AA:Prop:=fK P w K mg base 8 "bells_of" qu lO
abbrev zK:Prop:=fK P w K mg base 8 "words_of" qu lN
abbrev wC:Prop:=fK P w K mg base 11 "is_fit_sum" yd iI
abbrev uM:Prop:=fK P w K mg base 14 "is_fit_part" qE (dC 2)
abbrev wJ:Prop:=fK P w K mg base 15 "is_fit_row" yq iL
abbrev jC:Prop:=fK P w K mg base 16 "is_fit_program" yH dN
abbrev ui:Prop:=fK P w K mg base 17 "is_fit_room" AG gS
abbrev mi:Prop:=fK P w K mg base 2 "deeds_there" om fo
abbrev qQ:Prop:=fK P w K mg base 18 "has_fit_deeds" oq fw
abbrev qP:Prop:=fK P w K mg base 17 "has_fit_hands" oq fD
abbrev uc:Prop:=fK P w K mg base 1 "has_no_rings" om f_
abbrev jv:Prop:=fK P w K mg base 2 "is_roll" A2 gm
abbrev qF:Prop:=fK P w K mg base 1 "is_one_of" yr iz
abbrev xM:Prop:=fK P w K mg base 3 "are_bells" bh km
abbrev oO:Prop:=fK P w K mg base 1 "is_program" bh gg
abbrev yw:Prop:=fK P w K mg base 3 "are_deeds" bh jG
abbrev jQ:Prop:=fK P w K mg base 3 "are_things" xP e_
abbrev CF:Prop:=fK P w K mg base 4 "is_room" l_ oM
abbrev xR:Prop:=fK P w K mg base 5 "are_rooms" bh jN
abbrev xi:Prop:=fK P w K mg base 3 "are_passes" bh iU
abbrev BS:Prop:=fK P w K mg base 4 "is_hand" bh nP
abbrev yf:Prop:=fK P w K mg base 5 "are_hands" bh kn
abbrev Aq:Prop:=fK P w K mg base 19 "is_world" bh lI
abbrev wg:Prop:=fK P w K mg base 20 "_law_right" Bm dw
abbrev qk:Prop:=fK P w K mg base 2 "_law_some" Bq cq
abbrev mj:Prop:=fK P w K mg base 2 "_law_values" jj dh
abbrev ze:Prop:=fK P w K mg base 3 "_law_bare" AV ic
abbrev zA:Prop:=fK P w K mg base 9 "_law_sum" vj (hE 5)
abbrev zG:Prop:=fK P w K mg base 10 "_law_row" yK lL
abbrev kH:Prop:=fK P w K mg base 11 "_law_program" A1 dY
abbrev nL:Prop:=fK P w K mg base 1 "_law_deed_scope" FI dv
abbrev xn:Prop:=fK P w K mg base 12 "_law_rooms" jj iW
abbrev xm:Prop:=fK P w K mg base 13 "_law_world" jj iT
end
section
variable{P:X9}{w:Xc}{K:X1}{mg:X3}{base:Xe}{f:X8}{fd:FuncData}
def qB:aM ["_law_script","_law_seed","_law_cell"] sU (aD mE):=g_
def y_(F:fI K "_law_pot" "_law_pot" mE f fd)(B:Bl mg):bP P w K mg base eH 1 f fd sU (fE #[K,mg,w] 1 lJ):=by
 let a:=qB.nd
 refine Ea F qB λc A b s H E d=>?_
 exact(aB (df 1 a (d_ (eL L B.len (cP (v_ 0))) aA))
  (aB (iq PassesOwn.never L (bW (fG (xa (cP (v_ 0)) mP (m8 aA)))) (dz 2 a) (aG (df 1 a (nV (d_ (d_ (qf (v_ 1) aA) (nV (v_ 2) (Hx aA aA))) aA) aA))))
  (aG (wI (cj (aq (bG (cu (N:= ["_law_cell"]) (js:= [none]) (aK.gen L L L L L L) L (bW (fG (xa (cP (v_ 0)) mP (m8 aA)))) (λ_ _ _ _=>(cY 0)) (λ_ _ _ _=>(yg (cZ Lv KW (v_ 0) (Hx aA aA) (bp _)))) (λ_ _ _ _=>(v_ 0)))) (aq (v_ 1) (aq aA aw))))))))
def nO:aM ["_law_pot_here","_law_many","_law_digit","_law_mixed"] qI (aD lG):=g_
def vZ(F:fI K "_law_take" "_law_take" lG f fd)(B:Bl mg):bP P w K mg base eH 1 f fd qI (fE #[K,mg,w] 2 aW):=by
 let a:=nO.nd
 refine bL F nO λd A b s H E e=>?_
 let c:=e.units0
 exact(aB (A6 64 PassesOwn.never (PW.pt (w_and (rY c (cP (bU (v_ 0) aA))) (wB (cZ dP dQ (bU (bU (v_ 0) aA) aA) aA (bp _))))) (aG (fS (BB (bU (v_ 0) aA) aA))))
  (aB (cM (rY c (cP (bU (v_ 0) aA))) (aB (df 2 a (nV (bU (bU (v_ 0) aA) aA) (v_ 1)))
  (aB (uT (xc (bU (bU (v_ 0) aA) aA) (v_ 1)) (Hs (bU (v_ 0) aA) aA))
  (aG (aN (v_ 2))))) bK)
  (aB (uT (d_ (bU (v_ 0) aA) aA) (Hs (v_ 0) aA))
  (aB (df 3 a (nV (qf (d_ (d_ (bU (v_ 0) aA) (qf (qf aA (bU (v_ 0) aA)) (bU (v_ 0) aA))) aA) aA) aA))
  (aB (df 3 a (nV (qf (v_ 3) (d_ (nV (v_ 3) aA) (qf aA (bU (v_ 0) aA)))) aA))
  (aG (aN (nV (d_ (xc (v_ 3) aA) (xc (v_ 3) aA)) (v_ 1)))))))))
def zU:aM yN yN (aD oY):=g_
def zE(F:fI K "_law_of" "_law_of" oY f fd)(B:Bl mg)(c:cE P w K mg base):bP P w K mg base eH 2 f fd yN (fE #[K,mg,w] 2 bA):=by
 refine bL F zU λb A a s H E d=>?_
 exact(aG (aN (bU (v_ 1) (aZ c d (aq (v_ 0) (aq (eL L B.len (cP (v_ 1))) aw))))))
def lW:aM ["_law_pot_here","_law_many","_law_letters","_law_first","_law_turn","_law_ends","_law_found","_law_k","_law_sign"] qI (aD j8):=g_
def uh(F:fI K "_law_words" "_law_words" j8 f fd)(B:Bl mg)(g:hR P w K mg base)(e:cE P w K mg base):bP P w K mg base eH 3 f fd qI (fE #[K,mg,w] 2 iP):=by
 let a:=lW.nd
 refine bL F lW λd A b s H E c=>?_
 exact(aB (df 2 a a8)
  (aB (ES (z9 (i:=3) (j:=4) L a L L (!1) L L (aq (aZ e c (aq (v_ 0) (aq aA aw))) (aq (aZ g c (aq (v_ 0) (aq (bG (cj (aq aA (aq aA (aq aA (aq aA (aq aA (aq aA aw)))))))) aw))) aw)) L))
  (aB (df 5 a (bG (cj (aq a8 (aq a8 (aq a8 (aq a8 (aq a8 aw))))))))
  (aB (df 6 a (bG (cj aw)))
  (aB (iq PassesOwn.never L (sr L B.range (v_ 1)) (dz 7 a) (aB (df 8 a (bU (v_ 2) (nV (d_ (v_ 3) (qf (v_ 4) (v_ 7))) aA)))
  (aG (fS (ie (v_ 6) (d_ (v_ 8) (bU (v_ 5) (nV (d_ (v_ 3) (qf (v_ 7) (v_ 7))) aA))))))))
  (aG (aN (v_ 6))))))))
def xQ:aM zj zj (aD mC):=g_
def xG(F:fI K "names_of" "names_of" mC f fd)(B:Bl mg):bP P w K mg base eH 1 f fd zj (fE #[K,mg,w] 1 dg):=by
 refine bL F xQ λb A a s H E c=>?_
 exact(aG (wI (cu (N:=Hr) (js:= [none]) (aK.gen L L L L L L) L (bW (cP (v_ 0))) (λ_ _ _ _=>(cY 0)) (λ_ _ _ _=>cV) (λ_ _ _ _=>(bU (v_ 0) aA)))))
def pf:aM yJ yJ (aD gI):=g_
def pe(F:fI K "shares_a_word" "shares_a_word" gI f fd)(B:Bl mg)(b:jZ P w K mg base):bP P w K mg base eH 2 f fd yJ (fE #[K,mg,w] 2 eu):=by
 refine bL F pf λd A a s H E c=>?_
 exact(aG (aN (Be L L B.any (fG (cu (N:= ["name","other"]) (js:= [none,some 1]) (aK.gen L L L L L L) L (bW (fG (jX b c (aq (v_ 0) aw)))) (λ_ _ _ _=>(cY 0)) (λ_ _ _ _=>cV) (λ_ _ _ _=>(E7 (v_ 0) (fG (jX b c (aq (v_ 1) aw))))))))))
def zI:aM l_ l_ (aD pH):=g_
def zx(F:fI K "has_all" "has_all" pH f fd)(B:Bl mg):bP P w K mg base eH 1 f fd l_ (fE #[K,mg,w] 1 nM):=by
 refine bL F zI λb A a s H E c=>?_
 exact(aG (aN (Be L L B.any (fG (Ba (N:= ["deed","program","row"]) (js:= [none,none,none]) (aK.gen L L L L L L) L (bW (cP (bU (v_ 0) aA))) (λ_ _ _ _=>(fL L (aR (cY 0) (aR (cY 1) d0)))) (λ_ _ _ _=>cV) (λ_ _ _ _=>(bW (cP (v_ 1)))) (λ_ _ _ _=>(cY 2)) (λ_ _ _ _=>cV) (λ_ _ _ _=>(kT dP dQ (bU (v_ 2) aA) a8 (bp _))))))))
def yO:aM bh bh (aD mK):=g_
def zh(F:fI K "is_whole" "is_whole" mK f fd)(B:Bl mg):bP P w K mg base eH 1 f fd bh (fE #[K,mg,w] 1 gW):=by
 refine bL F yO λb A a s H E c=>?_
 exact(aG (aN (gf (gc (T:="int") #[L,L,L,L,L,L,L] L B.isi (v_ 0) (di (v:=.ty "int") L B.int PyProof.Rows.boot_int L)) (eY (Ht (gc (T:="bool") #[L,L,L,L,L,L,L] L B.isi (v_ 0) (di (v:=.ty "bool") L B.bool PyProof.Rows.boot_bool L)))))))
def xH:aM bh bh (aD m6):=g_
def xV(F:fI K "is_value" "is_value" m6 f fd)(B:Bl mg)(d:tR P w K mg base){g:Tok}(e:mg "HIGHEST"=some (.int (9) g)):bP P w K mg base eH 2 f fd bh (fE #[K,mg,w] 1 fT):=by
 refine bL F xH λb A a s H E c=>?_
 exact(aG (aN (gf (aZ d c (aq (v_ 0) aw)) (eY (wL lT lU lT lU aA (v_ 0) (c_ (dF (v:=.int (9)) L e #[_,L]) λ_ _=>.int (9)))))))
def z_:aM bh bh (aD pO):=g_
def Ah(F:fI K "is_word" "is_word" pO f fd)(B:Bl mg){c:Tok}(g:mg "LONGEST"=some (.int (8) c)){d:Tok}(e:mg "LETTERS"=some (.str "abcdefghijklmnopqrstuvwxyz" d)):bP P w K mg base eH 1 f fd bh (fE #[K,mg,w] 1 gk):=by
 refine bL F z_ λb A a s H E h=>?_
 exact(aB (cM (PW.pt (w_or (cQ (cB (gc (T:="str") #[L,L,L,L,L,L,L] L B.isi (v_ 0) (di (v:=.ty "str") L B.str PyProof.Rows.boot_str L)))) (gK (cQ (Bx lT lU lT lU aA (Iz L B.len (v_ 0)) (c_ (dF (v:=.int (8)) L g #[_,L]) λ_ _=>.int (8))))))) (aG (aN ft)) bK)
  (aG (aN (iy L L B.all (fG (cu (N:= ["sign"]) (js:= [none]) (aK.gen L L L L L L) L (Ls (v_ 0)) (λ_ _ _ _=>(cY 0)) (λ_ _ _ _=>cV) (λ_ _ _ _=>(kT B1 Jp (v_ 0) (c_ (dF (v:=.str "abcdefghijklmnopqrstuvwxyz") L e #[_,L]) λ_ _=>.str "abcdefghijklmnopqrstuvwxyz") (by rfl)))))))))
def t7:aM zq zq (aD jd):=g_
def sE(F:fI K "parts_asked" "parts_asked" jd f fd)(B:Bl mg)(a:zC K mg "OF_TWO" gZ):bP P w K mg base eH 1 f fd zq (fE #[K,mg,w] 1 fA):=by
 refine bL F t7 λc A b s H E d=>?_
 exact(aB (cM (Jn (v_ 0) (cP (zv a L))) (aG (aN aA)) bK)
  (aG (aN (Ku (cZ dP dQ (v_ 0) a8 (bp _)) aA (L_ aA)))))
def p_:aM tV tV (aD gJ):=g_
theorem jy(F:fI K "is_sum_within" "is_sum_within" gJ f fd)(B:Bl mg)(h:mG P w K mg base)(d:pK P w K mg base)(g:uH P w K mg base)(b:Binds K fd tV [])(e:PySem.W.keepIn K (.ref f)=true)(m:mg "is_sum_within"=some (.ref f)):∀n,bP P w K mg base eH (3+n) f fd tV (fE #[K,mg,w] 2 (cX n))
 |0=>rP
 | n+1=>by
   have j:fK P w K mg base (3+n) "is_sum_within" tV (cX n):=#[f,fd,jy F B h d g b e m n,b,e,m]
   refine bL (k:=3+n) F p_ λi A c s H E a=>?_
   exact(aB (cM (cZ Bv AO (v_ 1) aA (bp _)) (aG (aN ft)) bK)
   (aB (cM (cQ (cB (gc (T:="tuple") #[L,L,L,L,L,L,L] L B.isi (v_ 0) (di (v:=.ty "tuple") L B.tuple PyProof.Rows.boot_tuple L)))) (aG (aN (FQ (aZ h a (aq (v_ 0) aw)) (eY (aZ d a (aq (v_ 0) aw)))))) bK)
   (aB (cM (PW.pt (w_or (cZ dP dQ (eL L B.len (cP (v_ 0))) aA (bp _)) (gK (cQ (cB (gc (T:="str") #[L,L,L,L,L,L,L] L B.isi (bU (v_ 0) aA) (di (v:=.ty "str") L B.str PyProof.Rows.boot_str L))))))) (aG (aN ft)) bK)
   (aB (cM (cZ dP dQ (bU (v_ 0) aA) a8 (bp _)) (aG (aN (gf (kT dP dQ (eL L B.len (cP (v_ 0))) aA (bp _)) (eY (aZ d a (aq (bU (v_ 0) aA) aw)))))) bK)
   (aB (cM (cZ tW ud (eL L B.len (cP (v_ 0))) (d_ (aZ g a (aq (bU (v_ 0) aA) aw)) aA) (bp _)) (aG (aN ft)) bK)
   (aG (aN (iy L L B.all (fG (cu (N:= ["part","deep"]) (js:= [none,some 1]) (aK.gen L L L L L L) L (bW (cP (rO (v_ 0) (m8 aA) mP))) (λ_ _ _ _=>(cY 0)) (λ_ _ _ _=>cV) (λ_ _ _ _=>(aZ j a (aq (v_ 0) (aq (yP (v_ 1) aA) aw))))))))))))))
end
section
variable{P:X9}{w:Xc}{K:X1}{mg:X3}{base:Xe}{f:X8}{fd:FuncData}
def Ca:aM bh bh (aD sy):=g_
def BX(F:fI K "is_sum" "is_sum" sy f fd)(B:Bl mg)(e:qY P w K mg base){g:Tok}(c:mg "DEEPEST"=some (.int (5) g)):bP P w K mg base eH 10 f fd bh (fE #[K,mg,w] 1 r9):=by
 refine bL F Ca λb A a s H E d=>?_
 exact(aG (aN (aZ e d (aq (v_ 0) (aq (c_ (dF (v:=.int (5)) L c #[_,L]) λ_ _=>.int (5)) aw)))))
def u6:aM ["tree","words","bells","part"] vt (aD sY):=g_
theorem vq(F:fI K "gather" "gather" sY f fd)(B:Bl mg)(b:Binds K fd vt [])(c:PySem.W.keepIn K (.ref f)=true)(m:mg "gather"=some (.ref f)):∀n,bP P w K mg base eH (1+n) f fd vt (fE #[K,mg,w] 3 (iE n))
 |0=>rP
 | n+1=>by
   have h:fK P w K mg base (1+n) "gather" vt (iE n):=#[f,fd,vq F B b c m n,b,c,m]
   let e:=u6.nd
   refine bL (k:=1+n) F u6 λd A a s H E g=>?_
   exact(aG (cM (cB (gc (T:="str") #[L,L,L,L,L,L,L] L B.isi (v_ 0) (di (v:=.ty "str") L B.str PyProof.Rows.boot_str L))) (aG (fS (ie (v_ 1) (v_ 0)))) (aG (cM (PW.pt (w_and (cB (gc (T:="tuple") #[L,L,L,L,L,L,L] L B.isi (v_ 0) (di (v:=.ty "tuple") L B.tuple PyProof.Rows.boot_tuple L))) (wB (cZ dP dQ (bU (v_ 0) aA) a8 (bp _))))) (aG (fS (ie (v_ 2) (bU (v_ 0) aA)))) (aG (cM (cB (gc (T:="tuple") #[L,L,L,L,L,L,L] L B.isi (v_ 0) (di (v:=.ty "tuple") L B.tuple PyProof.Rows.boot_tuple L))) (aG (iq PassesOwn.never L (bW (cP (rO (v_ 0) (m8 aA) mP))) (dz 3 e) (aG (fS (aZ h g (aq (v_ 3) (aq (v_ 1) (aq (v_ 2) aw)))))))) bK))))))
def qC:aM ["tree","bells"] qu (aD mN):=g_
def yQ(F:fI K "bells_of" "bells_of" mN f fd)(B:Bl mg)(e:zb P w K mg base):bP P w K mg base eH 8 f fd qu (fE #[K,mg,w] 1 lO):=by
 let c:=qC.nd
 refine bL F qC λb A a s H E d=>?_
 exact(aB (df 1 c (bG (cj aw)))
  (aB (fS (aZ e d (aq (v_ 0) (aq (bG (cj aw)) (aq (v_ 1) aw)))))
  (aG (aN (iO L B.tuple (fG (Dd L L B.sorted L B.set (cP (v_ 1)))) (ht:=rN))))))
def qw:aM ["tree","words"] qu (aD mU):=g_
def ya(F:fI K "words_of" "words_of" mU f fd)(B:Bl mg)(e:zb P w K mg base):bP P w K mg base eH 8 f fd qu (fE #[K,mg,w] 1 lN):=by
 let c:=qw.nd
 refine bL F qw λb A a s H E d=>?_
 exact(aB (df 1 c (bG (cj aw)))
  (aB (fS (aZ e d (aq (v_ 0) (aq (v_ 1) (aq (bG (cj aw)) aw)))))
  (aG (aN (iO L B.tuple (fG (Dd L L B.sorted L B.set (cP (v_ 1)))) (ht:=rN))))))
def uz:aM yd yd (aD jU):=g_
def uK(F:fI K "is_fit_sum" "is_fit_sum" jU f fd)(B:Bl mg)(g:Dp P w K mg base)(e:zK P w K mg base)(h:AA P w K mg base):bP P w K mg base eH 11 f fd yd (fE #[K,mg,w] 2 iI):=by
 refine bL F uz λd A c s H E b=>?_
 let a:=Bb b
 exact(aB (cM (cQ (cB (aZ g b (aq (v_ 0) aw)))) (aG (aN ft)) bK)
  (aB (cM (cQ (cB (iy L L B.all (fG (cu (N:= ["word","reach"]) (js:= [none,some 1]) (aK.gen L L L L L L) L (bW (cP (aZ e b (aq (v_ 0) aw)))) (λ_ _ _ _=>(cY 0)) (λ_ _ _ _=>cV) (λ_ _ _ _=>(E7 (v_ 0) (cP (fk a (v_ 1) a8 (λ_ _=>rfl)))))))))) (aG (aN ft)) bK)
  (aG (aN (iy L L B.all (fG (cu (N:= ["bell","reach"]) (js:= [none,some 1]) (aK.gen L L L L L L) L (bW (cP (aZ h b (aq (v_ 0) aw)))) (λ_ _ _ _=>(cY 0)) (λ_ _ _ _=>cV) (λ_ _ _ _=>(E7 (v_ 0) (cP (fk a (v_ 1) a8 (λ_ _=>rfl))))))))))))
def sG:aM qE qE (aD iY):=g_
theorem lu(F:fI K "is_fit_part" "is_fit_part" iY f fd)(B:Bl mg)(h:wC P w K mg base)(i:tR P w K mg base)(e:pK P w K mg base)(b:Binds K fd qE [])(g:PySem.W.keepIn K (.ref f)=true)(m:mg "is_fit_part"=some (.ref f)):∀n,bP P w K mg base eH (12+n) f fd qE (fE #[K,mg,w] 4 (dC n))
 |0=>rP
 | n+1=>by
   have j:fK P w K mg base (12+n) "is_fit_part" qE (dC n):=#[f,fd,lu F B h i e b g m n,b,g,m]
   refine bL (k:=12+n) F sG λl A d s H E a=>?_
   let c:=Bb a
   exact(aB (cM (cZ dP dQ (v_ 0) a8 (bp _)) (aG (aN (aZ h a (aq (v_ 1) (aq (v_ 2) aw))))) bK)
   (aB (cM (cZ dP dQ (v_ 0) a8 (bp _)) (aG (aN (gf (aZ i a (aq (v_ 1) aw)) (eY (wL lT lU lT lU aA (v_ 1) (v_ 3)))))) bK)
   (aB (cM (cZ dP dQ (v_ 0) a8 (bp _)) (aG (aN (aZ e a (aq (v_ 1) aw)))) bK)
   (aB (cM (cZ dP dQ (v_ 0) a8 (bp _)) (aG (aN (FQ (kT HA JG (v_ 1) G9 (bp _)) (eY (aZ j a (aq a8 (aq (v_ 1) (aq (v_ 2) (aq (v_ 3) aw))))))))) bK)
   (aG (aN (gf (aZ e a (aq (v_ 1) aw)) (eY (E7 (v_ 1) (cP (fk c (v_ 2) (v_ 0) (λ_ _=>rfl))))))))))))
def uu:aM yq yq (aD jK):=g_
def uG(F:fI K "is_fit_row" "is_fit_row" jK f fd)(B:Bl mg)(e:uM P w K mg base):bP P w K mg base eH 15 f fd yq (fE #[K,mg,w] 4 iL):=by
 refine bL F uu λd A c s H E b=>?_
 let a:=Bb b
 exact(aB (cM (PW.pt (w_or (cQ (cB (gc (T:="tuple") #[L,L,L,L,L,L,L] L B.isi (v_ 0) (di (v:=.ty "tuple") L B.tuple PyProof.Rows.boot_tuple L)))) (w_or (cZ dP dQ (eL L B.len (cP (v_ 0))) aA (bp _)) (gK (cQ (cB (gc (T:="str") #[L,L,L,L,L,L,L] L B.isi (bU (v_ 0) aA) (di (v:=.ty "str") L B.str PyProof.Rows.boot_str L)))))))) (aG (aN ft)) bK)
  (aB (cM (PW.pt (w_or (Ky a (bU (v_ 0) aA) (v_ 1)) (gK (cZ tW ud (eL L B.len (cP (v_ 0))) (d_ (eL L B.len (cP (fk a (v_ 1) (bU (v_ 0) aA) (λ_ _=>rfl)))) aA) (bp _))))) (aG (aN ft)) bK)
  (aB (cM (cQ (cB (iy L L B.all (fG (cu (N:=qE) (js:= [none,none,some 2,some 3]) (aK.gen L L L L L L) L (Kr L B.zip (cP (fk a (v_ 1) (bU (v_ 0) aA) (λ_ _=>rfl))) (cP (rO (v_ 0) (m8 aA) mP))) (λ_ _ _ _=>(fL L (aR (cY 0) (aR (cY 1) d0)))) (λ_ _ _ _=>cV) (λ_ _ _ _=>(aZ e b (aq (v_ 0) (aq (v_ 1) (aq (v_ 2) (aq (v_ 3) aw))))))))))) (aG (aN ft)) bK)
  (aG (aN (FQ (kT tW ud (bU (v_ 0) aA) a8 (bp _)) (eY (KG b (bV (aq (bU (v_ 0) aA) (aq (bU (v_ 0) aA) aw))) (cP (fk a (v_ 2) a8 (λ_ _=>rfl)))))))))))
def nQ:aM yH yH (aD fR):=g_
def nR(F:fI K "is_fit_program" "is_fit_program" fR f fd)(B:Bl mg)(d:wJ P w K mg base):bP P w K mg base eH 16 f fd yH (fE #[K,mg,w] 3 dN):=by
 refine bL F nQ λb A a s H E c=>?_
 exact(aG (aN (iy L L B.all (fG (cu (N:= ["row","program","forms","reach"]) (js:= [none,some 0,some 1,some 2]) (aK.gen L L L L L L) L (bW (cP (v_ 0))) (λ_ _ _ _=>(cY 0)) (λ_ _ _ _=>cV) (λ_ _ _ _=>(aZ d c (aq (v_ 0) (aq (v_ 2) (aq (v_ 3) (aq (eL L B.len (cP (v_ 1))) aw)))))))))))
def kM:aM ["room","deeds","name","manner","things","bells","own","words","reach"] AG (aD jb):=g_
def tf(F:fI K "is_fit_room" "is_fit_room" jb f fd)(B:Bl mg)(e:jZ P w K mg base)(i:jC P w K mg base)(h:B6 P w K mg base)(a:vB P w K mg "DEED_FORMS" eI):bP P w K mg base eH 17 f fd AG (fE #[K,mg,w] 2 gS):=by
 let b:=kM.nd
 refine bL F kM λg A d s H E c=>?_
 exact(aB (uT (v_ 0) (fL L (aR (dz 2 b) (aR (dz 3 b) (aR (dz 4 b) (aR (dz 5 b) (aR (dz 6 b) d0)))))))
  (aB (df 7 b (bG (jX e c (aq (v_ 4) aw))))
  (aB (df 8 b (ox (cx (v_ 7) (cx (bG (jn (cP (v_ 7)) (fG (cj (aq a8 aw))))) (cx (bG (jX e c (aq (v_ 5) aw))) (cx (v_ 1) tq))))))
  (aB (cM (cQ (cB (iy L L B.all (fG (cu (N:= ["deed","program","reach"]) (js:= [none,none,some 8]) (aK.gen L L L L L L) L (bW (cP (v_ 6))) (λ_ _ _ _=>(fL L (aR (cY 0) (aR (cY 1) d0)))) (λ_ _ _ _=>cV) (λ_ _ _ _=>(aZ i c (aq (v_ 1) (aq (Bs a L L B.dict) (aq (v_ 2) aw)))))))))) (aG (aN ft)) bK)
  (aG (aN (FQ (kT dP dQ (v_ 3) a8 (bp _)) (eY (Ht (aZ h c (aq (v_ 0) aw)))))))))))
end
section
variable{P:X9}{w:Xc}{K:X1}{mg:X3}{base:Xe}{f:X8}{fd:FuncData}
def sJ:aM om om (aD i3):=g_
def sD(F:fI K "deeds_there" "deeds_there" i3 f fd)(B:Bl mg)(c:jZ P w K mg base):bP P w K mg base eH 2 f fd om (fE #[K,mg,w] 1 fo):=by
 refine bL F sJ λb A a s H E d=>?_
 exact(aG (wI (Ba (N:= ["room","deed"]) (js:= [none,none]) (aK.gen L L L L L L) L (bW (cP (v_ 0))) (λ_ _ _ _=>(cY 0)) (λ_ _ _ _=>cV) (λ_ _ _ _=>(bW (fG (jX c d (aq (bU (v_ 0) aA) aw))))) (λ_ _ _ _=>(cY 1)) (λ_ _ _ _=>cV) (λ_ _ _ _=>(bV (aq (bU (v_ 0) aA) (aq (v_ 1) aw)))))))
def oZ:aM oq oq (aD gC):=g_
def p6(F:fI K "has_fit_deeds" "has_fit_deeds" gC f fd)(B:Bl mg)(e:ui P w K mg base)(d:mi P w K mg base):bP P w K mg base eH 18 f fd oq (fE #[K,mg,w] 1 fw):=by
 refine bL F oZ λc A a s H E b=>?_
 exact(aG (aN (iy L L B.all (fG (cu (N:= ["room","world"]) (js:= [none,some 0]) (aK.gen L L L L L L) L (bW (cP (bU (v_ 0) aA))) (λ_ _ _ _=>(cY 0)) (λ_ _ _ _=>cV) (λ_ _ _ _=>(aZ e b (aq (v_ 0) (aq (bG (jX d b (aq (bU (v_ 1) aA) aw))) aw)))))))))
def jr:aM ["world","rooms","passes","shared","hands","things","program","words","reach"] oq (aD gF):=g_
def pI(F:fI K "has_fit_hands" "has_fit_hands" gF f fd)(B:Bl mg)(d:jZ P w K mg base)(h:mi P w K mg base)(i:jC P w K mg base)(a:vB P w K mg "HAND_FORMS" eK):bP P w K mg base eH 17 f fd oq (fE #[K,mg,w] 1 fD):=by
 let b:=jr.nd
 refine bL F jr λg A e s H E c=>?_
 exact(aB (uT (v_ 0) (fL L (aR (dz 1 b) (aR (dz 2 b) (aR (dz 3 b) (aR (dz 4 b) d0))))))
  (aB (iq PassesOwn.never L (bW (cP (v_ 4))) (fL L (aR (dz 5 b) (aR (dz 6 b) d0))) (aB (df 7 b (bG (jn (fG (jX d c (aq (v_ 5) aw))) (fG (jX d c (aq (v_ 3) aw))))))
  (aB (df 8 b (ox (cx (v_ 7) (cx (v_ 7) (cx (bG (cj aw)) (cx (bG (jX h c (aq (v_ 1) aw))) (cx (bG (jX d c (aq (v_ 2) aw))) tq)))))))
  (aG (cM (cQ (cB (aZ i c (aq (v_ 6) (aq (Bs a L L B.dict) (aq (v_ 8) aw)))))) (aG (aN ft)) bK)))))
  (aG (aN ft))))
def kE:aM ["rooms","leads","room","deed","program","free"] om (aD iA):=g_
def qT(F:fI K "has_no_rings" "has_no_rings" iA f fd)(B:Bl mg):bP P w K mg base eH 1 f fd om (fE #[K,mg,w] 1 f_):=by
 let a:=kE.nd
 refine bL F kE λd A c s H E b=>?_
 exact(aB (df 1 a Ka)
  (aB (iq PassesOwn.never L (bW (cP (v_ 0))) (dz 2 a) (aG (iq PassesOwn.never L (bW (cP (bU (v_ 2) aA))) (fL L (aR (dz 3 a) (aR (dz 4 a) d0))) (aG (Iq b (v_ 1) (bV (aq (bU (v_ 2) aA) (aq (v_ 3) aw))) (bG (cu (N:=Hr) (js:= [none]) (aK.gen L L L L L L) L (bW (cP (v_ 4))) (λ_ _ _ _=>(cY 0)) (λ_ _ _ _=>(yg (cZ dP dQ (bU (v_ 0) aA) a8 (bp _)))) (λ_ _ _ _=>(bV (aq (bU (v_ 0) aA) (aq (bU (v_ 0) aA) aw)))))))))))
  (aB (A6 40 PassesOwn.never (HB (v_ 1)) (aB (tP (n:=5) (N:= ["deed","leads"]) (js:= [none,some 1]) (aK.gen L L L L L L) L (M9 (v_ 1)) (λ_ _ _ _=>(cY 0)) (λ_ _ _ _=>(yg (cQ (cB (Be L L B.any (fG (cu (N:= ["goal","leads"]) (js:= [none,some 1]) (aK.gen L L L L L L) L (bW (cP (JF b (v_ 1) (v_ 0) (λ_ _=>rfl)))) (λ_ _ _ _=>(cY 0)) (λ_ _ _ _=>cV) (λ_ _ _ _=>(LF b (v_ 0) (v_ 1)))))))))) (λ_ _ _ _=>(v_ 0)) (EO 5 a))
  (aB (cM (cQ (cB (v_ 5))) (aG (aN ft)) bK)
  (aG (iq PassesOwn.never L (bW (cP (v_ 5))) (dz 3 a) (aG (JC b (v_ 1) (v_ 3))))))))
  (aG (aN ft)))))
def sT:aM ["thing","size","most","row"] A2 (aD pk):=g_
def zz(F:fI K "is_roll" "is_roll" pk f fd)(B:Bl mg)(e:pK P w K mg base):bP P w K mg base eH 2 f fd A2 (fE #[K,mg,w] 3 gm):=by
 let c:=sT.nd
 refine bL F sT λb A a s H E d=>?_
 exact(aB (cM (PW.pt (w_or (cQ (cB (gc (T:="tuple") #[L,L,L,L,L,L,L] L B.isi (v_ 0) (di (v:=.ty "tuple") L B.tuple PyProof.Rows.boot_tuple L)))) (gK (cZ Lj LS (eL L B.len (cP (v_ 0))) (v_ 2) (bp _))))) (aG (aN ft)) bK)
  (aB (iq PassesOwn.never L (bW (cP (v_ 0))) (dz 3 c) (aG (cM (PW.pt (w_or (cQ (cB (gc (T:="tuple") #[L,L,L,L,L,L,L] L B.isi (v_ 3) (di (v:=.ty "tuple") L B.tuple PyProof.Rows.boot_tuple L)))) (w_or (cZ tW ud (eL L B.len (cP (v_ 3))) (v_ 1) (bp _)) (gK (cQ (cB (aZ e d (aq (bU (v_ 3) aA) aw)))))))) (aG (aN ft)) bK)))
  (aG (aN (iy L L B.all (fG (cu (N:= ["at","thing"]) (js:= [none,some 0]) (aK.gen L L L L L L) L (J9 L B.range aA (eL L B.len (cP (v_ 0)))) (λ_ _ _ _=>(cY 0)) (λ_ _ _ _=>cV) (λ_ _ _ _=>(kT CO JQ (bU (bU (v_ 1) (yP (v_ 0) aA)) aA) (bU (bU (v_ 1) (v_ 0)) aA) (bp _))))))))))
def wR:aM yr yr (aD kL):=g_
def xf(F:fI K "is_one_of" "is_one_of" kL f fd)(B:Bl mg):bP P w K mg base eH 1 f fd yr (fE #[K,mg,w] 2 iz):=by
 refine bL F wR λb A a s H E c=>?_
 exact(aG (aN (gf (gc (T:="str") #[L,L,L,L,L,L,L] L B.isi (v_ 0) (di (v:=.ty "str") L B.str PyProof.Rows.boot_str L)) (eY (E7 (v_ 0) (cP (v_ 1)))))))
def wA:aM bh bh (aD lr):=g_
def wO(F:fI K "are_bells" "are_bells" lr f fd)(B:Bl mg)(h:jv P w K mg base)(g:qF P w K mg base)(a:zC K mg "BELL_SORTS" je){e:Tok}(i:mg "MOST_BELLS"=some (.int (3) e)):bP P w K mg base eH 3 f fd bh (fE #[K,mg,w] 1 km):=by
 refine bL F wA λd A b s H E c=>?_
 exact(aG (aN (gf (aZ h c (aq (v_ 0) (aq aA (aq (c_ (dF (v:=.int (3)) L i #[_,L]) λ_ _=>.int (3)) aw)))) (eY (iy L L B.all (fG (cu (N:= ["bell","sort"]) (js:= [none,none]) (aK.gen L L L L L L) L (bW (cP (v_ 0))) (λ_ _ _ _=>(fL L (aR (cY 0) (aR (cY 1) d0)))) (λ_ _ _ _=>cV) (λ_ _ _ _=>(aZ g c (aq (v_ 1) (aq (zv a L) aw)))))))))))
def uN:aM bh bh (aD j9):=g_
def uf(F:fI K "is_program" "is_program" j9 f fd)(B:Bl mg){c:Tok}(d:mg "MOST_ROWS"=some (.int (40) c)):bP P w K mg base eH 1 f fd bh (fE #[K,mg,w] 1 gg):=by
 refine bL F uN λb A a s H E e=>?_
 exact(aG (aN (gf (gc (T:="tuple") #[L,L,L,L,L,L,L] L B.isi (v_ 0) (di (v:=.ty "tuple") L B.tuple PyProof.Rows.boot_tuple L)) (eY (wL lT lU lT lU aA (eL L B.len (cP (v_ 0))) (c_ (dF (v:=.int (40)) L d #[_,L]) λ_ _=>.int (40)))))))
def v9:aM bh bh (aD kY):=g_
def wm(F:fI K "are_deeds" "are_deeds" kY f fd)(B:Bl mg)(g:jv P w K mg base)(h:oO P w K mg base){d:Tok}(e:mg "MOST_DEEDS"=some (.int (4) d)):bP P w K mg base eH 3 f fd bh (fE #[K,mg,w] 1 jG):=by
 refine bL F v9 λc A a s H E b=>?_
 exact(aB (cM (PW.pt (w_or (cQ (cB (aZ g b (aq (v_ 0) (aq aA (aq (c_ (dF (v:=.int (4)) L e #[_,L]) λ_ _=>.int (4)) aw)))))) (gK (cZ dP dQ (eL L B.len (cP (v_ 0))) aA (bp _))))) (aG (aN ft)) bK)
  (aG (aN (iy L L B.all (fG (cu (N:= ["deed","program"]) (js:= [none,none]) (aK.gen L L L L L L) L (bW (cP (v_ 0))) (λ_ _ _ _=>(fL L (aR (cY 0) (aR (cY 1) d0)))) (λ_ _ _ _=>cV) (λ_ _ _ _=>(aZ h b (aq (v_ 1) aw)))))))))
def uo:aM xP xP (aD ko):=g_
def uD(F:fI K "are_things" "are_things" ko f fd)(B:Bl mg)(e:jv P w K mg base)(d:mG P w K mg base):bP P w K mg base eH 3 f fd xP (fE #[K,mg,w] 2 e_):=by
 refine bL F uo λc A a s H E b=>?_
 exact(aB (cM (cQ (cB (aZ e b (aq (v_ 0) (aq aA (aq (v_ 1) aw)))))) (aG (aN ft)) bK)
  (aG (aN (iy L L B.all (fG (cu (N:= ["word","value"]) (js:= [none,none]) (aK.gen L L L L L L) L (bW (cP (v_ 0))) (λ_ _ _ _=>(fL L (aR (cY 0) (aR (cY 1) d0)))) (λ_ _ _ _=>cV) (λ_ _ _ _=>(gf (kT tW ud (v_ 0) a8 (bp _)) (eY (aZ d b (aq (v_ 1) aw)))))))))))
def sx:aM ["room","name","manner","things","bells","deeds"] l_ (aD pj):=g_
def zy(F:fI K "is_room" "is_room" pj f fd)(B:Bl mg)(k:qF P w K mg base)(h:jQ P w K mg base)(j:xM P w K mg base)(l:yw P w K mg base)(a:zC K mg "MANNERS" mL){e:Tok}(i:mg "MOST_ROOM_THINGS"=some (.int (4) e)):bP P w K mg base eH 4 f fd l_ (fE #[K,mg,w] 1 oM):=by
 let b:=sx.nd
 refine bL F sx λg A d s H E c=>?_
 exact(aB (uT (v_ 0) (fL L (aR (dz 1 b) (aR (dz 2 b) (aR (dz 3 b) (aR (dz 4 b) (aR (dz 5 b) d0)))))))
  (aB (cM (PW.pt (w_or (cQ (cB (aZ k c (aq (v_ 2) (aq (zv a L) aw))))) (gK (cQ (cB (aZ h c (aq (v_ 3) (aq (c_ (dF (v:=.int (4)) L i #[_,L]) λ_ _=>.int (4)) aw)))))))) (aG (aN ft)) bK)
  (aG (aN (gf (aZ j c (aq (v_ 4) aw)) (eY (aZ l c (aq (v_ 5) aw))))))))
end
section
variable{P:X9}{w:Xc}{K:X1}{mg:X3}{base:Xe}{f:X8}{fd:FuncData}
def vR:aM bh bh (aD kP):=g_
def wc(F:fI K "are_rooms" "are_rooms" kP f fd)(B:Bl mg)(g:jv P w K mg base)(h:CF P w K mg base){e:Tok}(d:mg "MOST_ROOMS"=some (.int (4) e)):bP P w K mg base eH 5 f fd bh (fE #[K,mg,w] 1 jN):=by
 refine bL F vR λc A a s H E b=>?_
 exact(aG (aN (gf (aZ g b (aq (v_ 0) (aq aA (aq (c_ (dF (v:=.int (4)) L d #[_,L]) λ_ _=>.int (4)) aw)))) (eY (iy L L B.all (fG (cu (N:=l_) (js:= [none]) (aK.gen L L L L L L) L (bW (cP (v_ 0))) (λ_ _ _ _=>(cY 0)) (λ_ _ _ _=>cV) (λ_ _ _ _=>(aZ h b (aq (v_ 0) aw))))))))))
def uF:aM bh bh (aD ke):=g_
def uI(F:fI K "are_passes" "are_passes" ke f fd)(B:Bl mg)(g:jv P w K mg base)(d:mG P w K mg base){e:Tok}(h:mg "MOST_PASSES"=some (.int (16) e)):bP P w K mg base eH 3 f fd bh (fE #[K,mg,w] 1 iU):=by
 refine bL F uF λc A a s H E b=>?_
 exact(aG (aN (gf (aZ g b (aq (v_ 0) (aq aA (aq (c_ (dF (v:=.int (16)) L h #[_,L]) λ_ _=>.int (16)) aw)))) (eY (iy L L B.all (fG (cu (N:= ["name","value"]) (js:= [none,none]) (aK.gen L L L L L L) L (bW (cP (v_ 0))) (λ_ _ _ _=>(fL L (aR (cY 0) (aR (cY 1) d0)))) (λ_ _ _ _=>cV) (λ_ _ _ _=>(aZ d b (aq (v_ 1) aw))))))))))
def zP:aM bh bh (aD ph):=g_
def AB(F:fI K "is_hand" "is_hand" ph f fd)(B:Bl mg)(e:jQ P w K mg base)(h:oO P w K mg base){d:Tok}(g:mg "MOST_OWN_THINGS"=some (.int (8) d)):bP P w K mg base eH 4 f fd bh (fE #[K,mg,w] 1 nP):=by
 refine bL F zP λc A a s H E b=>?_
 exact(aB (cM (PW.pt (w_or (cQ (cB (gc (T:="tuple") #[L,L,L,L,L,L,L] L B.isi (v_ 0) (di (v:=.ty "tuple") L B.tuple PyProof.Rows.boot_tuple L)))) (gK (cZ tW ud (eL L B.len (cP (v_ 0))) aA (bp _))))) (aG (aN ft)) bK)
  (aG (aN (gf (aZ e b (aq (bU (v_ 0) aA) (aq (c_ (dF (v:=.int (8)) L g #[_,L]) λ_ _=>.int (8)) aw))) (eY (aZ h b (aq (bU (v_ 0) aA) aw)))))))
def wD:aM bh bh (aD k_):=g_
def vX(F:fI K "are_hands" "are_hands" k_ f fd)(B:Bl mg)(d:BS P w K mg base){b:Tok}(g:mg "MOST_HANDS"=some (.int (4) b)):bP P w K mg base eH 5 f fd bh (fE #[K,mg,w] 1 kn):=by
 refine bL F wD λc A a s H E e=>?_
 exact(aB (cM (PW.pt (w_or (cQ (cB (gc (T:="tuple") #[L,L,L,L,L,L,L] L B.isi (v_ 0) (di (v:=.ty "tuple") L B.tuple PyProof.Rows.boot_tuple L)))) (gK (cQ (Bx lT lU lT lU aA (eL L B.len (cP (v_ 0))) (c_ (dF (v:=.int (4)) L g #[_,L]) λ_ _=>.int (4))))))) (aG (aN ft)) bK)
  (aG (aN (iy L L B.all (fG (cu (N:= ["hand"]) (js:= [none]) (aK.gen L L L L L L) L (bW (cP (v_ 0))) (λ_ _ _ _=>(cY 0)) (λ_ _ _ _=>cV) (λ_ _ _ _=>(aZ d e (aq (v_ 0) aw)))))))))
def yn:aM bh bh (aD mY):=g_
def y1(F:fI K "is_world" "is_world" mY f fd)(B:Bl mg)(j:xR P w K mg base)(n:xi P w K mg base)(g:jQ P w K mg base)(l:yf P w K mg base)(c:qZ P w K mg base)(h:qQ P w K mg base)(m:qP P w K mg base)(i:uc P w K mg base){d:Tok}(e:mg "MOST_OPEN_THINGS"=some (.int (16) d)):bP P w K mg base eH 19 f fd bh (fE #[K,mg,w] 1 lI):=by
 refine bL F yn λk A b s H E a=>?_
 exact(aB (cM (PW.pt (w_or (cQ (cB (gc (T:="tuple") #[L,L,L,L,L,L,L] L B.isi (v_ 0) (di (v:=.ty "tuple") L B.tuple PyProof.Rows.boot_tuple L)))) (gK (cZ tW ud (eL L B.len (cP (v_ 0))) aA (bp _))))) (aG (aN ft)) bK)
  (aB (cM (PW.pt (w_or (cQ (cB (aZ j a (aq (bU (v_ 0) aA) aw)))) (gK (cQ (cB (aZ n a (aq (bU (v_ 0) aA) aw))))))) (aG (aN ft)) bK)
  (aB (cM (PW.pt (w_or (cQ (cB (aZ g a (aq (bU (v_ 0) aA) (aq (c_ (dF (v:=.int (16)) L e #[_,L]) λ_ _=>.int (16)) aw))))) (gK (cQ (cB (aZ l a (aq (bU (v_ 0) aA) aw))))))) (aG (aN ft)) bK)
  (aB (cM (cB (aZ c a (aq (bU (v_ 0) aA) (aq (bU (v_ 0) aA) aw)))) (aG (aN ft)) bK)
  (aB (cM (cB (Be L L B.any (fG (cu (N:= ["things","program","thing"]) (js:= [none,none,some 0]) (aK.gen L L L L L L) L (bW (cP (bU (v_ 0) aA))) (λ_ _ _ _=>(fL L (aR (cY 0) (aR (cY 1) d0)))) (λ_ _ _ _=>cV) (λ_ _ _ _=>(aZ c a (aq (v_ 0) (aq (bU (v_ 2) aA) aw)))))))) (aG (aN ft)) bK)
  (aG (aN (gf (aZ h a (aq (v_ 0) aw)) (gf (aZ m a (aq (v_ 0) aw)) (eY (aZ i a (aq (bU (v_ 0) aA) aw))))))))))))
def l0:aM ["_law_thing","_law_kept"] Bm (aD jJ):=g_
def ur(F:fI K "_law_right" "_law_right" jJ f fd)(B:Bl mg)(g:Aq P w K mg base)(a:mg "repr"=none):bP P w K mg base eH 20 f fd Bm (fE #[K,mg,w] 1 dw):=by
 let e:=l0.nd
 refine bL F l0 λd A c s H E b=>?_
 exact(aB (df 1 e (Di b L a (v_ 0)))
  (aG (aN (gf (kT JO Ip (aZ g b (aq (v_ 0) aw)) ft (bp _)) (eY (kT dP dQ (Di b L a (v_ 0)) (v_ 1) (bp _)))))))
def oz:aM ["_law_pot_here","_law_words_here","_law_many","_law_left"] Bq (aD lE):=g_
def wH(F:fI K "_law_some" "_law_some" lE f fd)(B:Bl mg)(d:cE P w K mg base):bP P w K mg base eH 2 f fd Bq (fE #[K,mg,w] 3 cq):=by
 let c:=oz.nd
 refine bL F oz λb A a s H E e=>?_
 exact(aB (df 3 c (bG (JY L B.list (cP (v_ 1)))))
  (aG (wI (DF L B.sorted (fG (cu (N:= ["_law_k","_law_pot_here","_law_left"]) (js:= [none,some 0,some 3]) (aK.gen L L L L L L) L (sr L B.range (uO EB (eM (uW L) L B.min (by rfl) (aq (v_ 2) (aq (eL L B.len (cP (v_ 3))) aw))))) (λ_ _ _ _=>(cY 0)) (λ_ _ _ _=>cV) (λ_ _ _ _=>(BB (v_ 2) (aZ d e (aq (v_ 1) (aq (eL L B.len (cP (v_ 2))) aw)))))))))))
def t5:aM jj jj (aD i0):=g_
def sF(F:fI K "_law_values" "_law_values" i0 f fd)(B:Bl mg)(c:cE P w K mg base):bP P w K mg base eH 2 f fd jj (fE #[K,mg,w] 2 dh):=by
 refine bL F t5 λb A a s H E d=>?_
 exact(aG (aN (iO L B.tuple (fG (cu (N:= ["_law_word","_law_pot_here"]) (js:= [none,some 0]) (aK.gen L L L L L L) L (bW (cP (v_ 1))) (λ_ _ _ _=>(cY 0)) (λ_ _ _ _=>cV) (λ_ _ _ _=>(bV (aq (v_ 0) (aq (aZ c d (aq (v_ 1) (aq aA aw))) aw)))))) (ht:=rN))))
def nB:aM ["_law_pot_here","_law_words_here","_law_bells","_law_way"] AV (aD k8):=g_
def vP(F:fI K "_law_bare" "_law_bare" k8 f fd)(B:Bl mg)(b:cE P w K mg base)(e:hR P w K mg base):bP P w K mg base eH 3 f fd AV (fE #[K,mg,w] 3 ic):=by
 let h:=nB.nd
 refine bL F nB λg A c s H E a=>?_
 let d:=a.units0
 exact(aB (df 3 h (aZ b a (aq (v_ 0) (aq aA aw))))
  (aB (cM (PW.pt (w_and (cZ Bv AO (v_ 3) aA (bp _)) (wB (rY d (cP (v_ 1)))))) (aG (aN (aZ e a (aq (v_ 0) (aq (v_ 1) aw))))) bK)
  (aB (cM (PW.pt (w_and (cZ dP dQ (v_ 3) aA (bp _)) (wB (rY d (cP (v_ 2)))))) (aG (aN (bV (aq a8 (aq (aZ e a (aq (v_ 0) (aq (v_ 2) aw))) aw))))) bK)
  (aG (aN (aZ b a (aq (v_ 0) (aq (bU (bG (cj (aq aA (aq aA aw)))) (aZ b a (aq (v_ 0) (aq aA aw)))) aw))))))))
def ql:aM ["_law_pot_here","_law_words_here","_law_bells","_law_deep","_law_way","_law_word"] vj (aD mH):=g_
theorem qL(F:fI K "_law_sum" "_law_sum" mH f fd)(B:Bl mg)(h:cE P w K mg base)(j:ze P w K mg base)(i:hR P w K mg base)(b:Binds K fd vj [])(g:PySem.W.keepIn K (.ref f)=true)(m:mg "_law_sum"=some (.ref f)):∀n,bP P w K mg base eH (4+n) f fd vj (fE #[K,mg,w] 4 (hE n))
 |0=>rP
 | n+1=>by
   have d:fK P w K mg base (4+n) "_law_sum" vj (hE n):=#[f,fd,qL F B h j i b g m n,b,g,m]
   let e:=ql.nd
   refine bL (k:=4+n) F ql λl A c s H E a=>?_
   exact(aB (df 4 e (aZ h a (aq (v_ 0) (aq aA aw))))
   (aB (cM (PW.pt (w_or (cZ Bv AO (v_ 3) aA (bp _)) (gK (cZ Bv AO (v_ 4) aA (bp _))))) (aG (aN (aZ j a (aq (v_ 0) (aq (v_ 1) (aq (v_ 2) aw)))))) bK)
   (aB (cM (cZ dP dQ (v_ 4) aA (bp _)) (aG (aN (bV (aq a8 (aq (aZ d a (aq (v_ 0) (aq (v_ 1) (aq (v_ 2) (aq (yP (v_ 3) aA) aw))))) aw))))) bK)
   (aB (df 5 e (aZ i a (aq (v_ 0) (aq (bG (cj (aq a8 (aq a8 (aq a8 (aq a8 (aq a8 aw))))))) aw))))
   (aG (aN (bV (aq (v_ 5) (aq (aZ d a (aq (v_ 0) (aq (v_ 1) (aq (v_ 2) (aq (yP (v_ 3) aA) aw))))) (aq (aZ d a (aq (v_ 0) (aq (v_ 1) (aq (v_ 2) (aq (yP (v_ 3) aA) aw))))) aw))))))))))
end
section
variable{P:X9}{w:Xc}{K:X1}{mg:X3}{base:Xe}{f:X8}{fd:FuncData}
def qK:aM ["_law_pot_here","_law_scope","_law_many","_law_kind","_law_goals","_law_bells","_law_told"] yK (aD mQ):=g_
def yT(F:fI K "_law_row" "_law_row" mQ f fd)(B:Bl mg)(c:hR P w K mg base)(k:zA P w K mg base)(e:cE P w K mg base):bP P w K mg base eH 10 f fd yK (fE #[K,mg,w] 3 lL):=by
 let d:=qK.nd
 refine bL F qK λh A g s H E b=>?_
 let a:=Bb b
 exact(aB (df 3 d (aZ c b (aq (v_ 0) (aq (bG (jn (fG (cj (aq a8 (aq a8 aw)))) (cP (fk a (v_ 1) a8 (λ_ _=>rfl))))) aw))))
  (aB (ES (z9 (i:=4) (j:=5) L d L L (!1) L L (aq (fk a (v_ 1) a8 (λ_ _=>rfl)) (aq (fk a (v_ 1) a8 (λ_ _=>rfl)) aw)) L))
  (aB (df 6 d (aZ k b (aq (v_ 0) (aq (fk a (v_ 1) a8 (λ_ _=>rfl)) (aq (v_ 5) (aq (d_ aA (aZ e b (aq (v_ 0) (aq aA aw)))) aw))))))
  (aB (cM (cZ dP dQ (v_ 3) a8 (bp _)) (aG (aN (bV (aq (v_ 3) (aq (v_ 6) (aq (aZ e b (aq (v_ 0) (aq (d_ (v_ 2) aA) aw))) aw)))))) bK)
  (aB (cM (cZ dP dQ (v_ 3) a8 (bp _)) (aG (aN (bV (aq (v_ 3) (aq (aZ e b (aq (v_ 0) (aq (d_ (v_ 2) aA) aw))) aw))))) bK)
  (aB (cM (Jn (v_ 3) (cP (bV (aq a8 (aq a8 aw))))) (aG (aN (bV (aq (v_ 3) (aq (v_ 6) aw))))) bK)
  (aB (cM (cZ dP dQ (v_ 3) a8 (bp _)) (aG (aN (bV (aq (v_ 3) (aq (aZ c b (aq (v_ 0) (aq (v_ 4) aw))) (aq (v_ 6) aw)))))) bK)
  (aB (cM (cZ dP dQ (v_ 3) a8 (bp _)) (aG (aN (d_ (d_ (bV (aq (v_ 3) (aq (aZ c b (aq (v_ 0) (aq (bG (jn (cP (v_ 4)) (fG (cj (aq G9 aw))))) aw))) aw))) (aZ c b (aq (v_ 0) (aq (fk a (v_ 1) a8 (λ_ _=>rfl)) aw)))) (bV (aq (v_ 6) aw))))) bK)
  (aB (cM (cZ dP dQ (v_ 3) a8 (bp _)) (aG (aN (bV (aq (v_ 3) (aq (aZ c b (aq (v_ 0) (aq (v_ 5) aw))) (aq (v_ 6) aw)))))) bK)
  (aB (cM (Jn (v_ 3) (cP (bV (aq a8 (aq a8 aw))))) (aG (aN (bV (aq (v_ 3) (aq (aZ c b (aq (v_ 0) (aq (v_ 5) aw))) aw))))) bK)
  (aB (cM (cZ dP dQ (v_ 3) a8 (bp _)) (aG (aN (bV (aq (v_ 3) (aq (aZ c b (aq (v_ 0) (aq (fk a (v_ 1) a8 (λ_ _=>rfl)) aw))) (aq (aZ c b (aq (v_ 0) (aq (fk a (v_ 1) a8 (λ_ _=>rfl)) aw))) aw)))))) bK)
  (aG (aN (bV (aq (v_ 3) (aq (aZ c b (aq (v_ 0) (aq (fk a (v_ 1) a8 (λ_ _=>rfl)) aw))) aw))))))))))))))))
def kC:aM yK A1 (aD hZ):=g_
def q8(F:fI K "_law_program" "_law_program" hZ f fd)(B:Bl mg)(b:cE P w K mg base)(g:zG P w K mg base):bP P w K mg base eH 11 f fd A1 (fE #[K,mg,w] 2 dY):=by
 let e:=kC.nd
 refine bL F kC λd A c s H E a=>?_
 exact(aB (df 2 e (bU (bG (cj (aq aA (aq (d_ aA (aZ b a (aq (v_ 0) (aq aA aw)))) (aq (d_ aA (aZ b a (aq (v_ 0) (aq aA aw)))) (aq aA aw)))))) (xc (aZ b a (aq (v_ 0) (aq aA aw))) aA)))
  (aG (aN (iO L B.tuple (fG (cu (N:= ["_law_k","_law_pot_here","_law_scope","_law_many"]) (js:= [none,some 0,some 1,some 2]) (aK.gen L L L L L L) L (sr L B.range (v_ 2)) (λ_ _ _ _=>(cY 0)) (λ_ _ _ _=>cV) (λ_ _ _ _=>(aZ g a (aq (v_ 1) (aq (v_ 2) (aq (v_ 3) aw))))))) (ht:=rN)))))
def hX:aM ["_law_manner","_law_things","_law_bells","_law_does","_law_goals","_law_rung","_law_kinds"] FI (aD fh):=g_
def mR(F:fI K "_law_deed_scope" "_law_deed_scope" fh f fd)(B:Bl mg):bP P w K mg base eH 1 f fd FI (fE #[K,mg,w] 4 dv):=by
 let a:=hX.nd
 refine Ea F hX λd A c s H E e=>?_
 let b:=e.units0
 exact(aB (tP (n:=4) (N:= ["_law_word","_law_value"]) (js:= [none,none]) (aK.gen L L L L L L) L (bW (cP (v_ 1))) (λ_ _ _ _=>(fL L (aR (cY 0) (aR (cY 1) d0)))) (λ_ _ _ _=>cV) (λ_ _ _ _=>(v_ 0)) (EO 4 a))
  (aB (tP (n:=5) (N:= ["_law_bell","_law_sort"]) (js:= [none,none]) (aK.gen L L L L L L) L (bW (cP (v_ 2))) (λ_ _ _ _=>(fL L (aR (cY 0) (aR (cY 1) d0)))) (λ_ _ _ _=>cV) (λ_ _ _ _=>(v_ 0)) (EO 5 a))
  (aB (df 6 a (bG (jn (fG (jn (fG (cj (aq a8 aw))) (fG (tM (fG (cj (aq a8 (aq a8 aw)))) (uO ia (dX fP L B.int (by rfl) (aq (ku b (cP (v_ 4))) aw))))))) (fG (tM (fG (cj (aq a8 aw))) (uO ia (dX fP L B.int (by rfl) (aq (ku b (cP (v_ 3))) aw))))))))
  (aB (df 6 a (bG (jn (fG (jn (cP (v_ 6)) (fG (tM (fG (cj (aq a8 (aq a8 aw)))) (uO ia (dX fP L B.int (by rfl) (aq (ku b (cP (v_ 5))) aw))))))) (fG (tM (fG (cj (aq a8 aw))) (uO ia (dX fP L B.int (by rfl) (aq (gf (ku b (cP (v_ 5))) (eY (kT dP dQ (v_ 0) a8 (bp _)))) aw))))))))
  (aG (aN (ox (cx (bG (jn (cP (v_ 4)) (fG (cj (aq a8 aw))))) (cx (v_ 4) (cx (v_ 5) (cx (v_ 3) (cx (v_ 6) tq))))))))))))
def lY:aM ["_law_pot_here","_law_words_here","_law_shells","_law_order","_law_name","_law_things","_law_bells","_law_deeds","_law_deed","_law_rooms_here","_law_manner","_law_made","_law_later"] jj (aD jS):=g_
def uk(F:fI K "_law_rooms" "_law_rooms" jS f fd)(B:Bl mg)(c:qk P w K mg base)(g:hR P w K mg base)(l:mj P w K mg base)(d:cE P w K mg base)(k:kH P w K mg base)(m:nL P w K mg base):bP P w K mg base eH 12 f fd jj (fE #[K,mg,w] 2 iW):=by
 let a:=lY.nd
 refine bL F lY λh A e s H E b=>?_
 exact(aB (ES (z9 (i:=2) (j:=3) L a L L (!1) L L (aq (bG (cj aw)) (aq (bG (cj aw)) aw)) L))
  (aB (iq PassesOwn.never L (bW (fG (jX c b (aq (v_ 0) (aq (v_ 1) (aq (aZ g b (aq (v_ 0) (aq (bG (cj (aq aA (aq aA (aq aA (aq aA (aq aA (aq aA (aq aA aw))))))))) aw))) aw)))))) (dz 4 a) (aB (df 5 a (aZ l b (aq (v_ 0) (aq (bG (jX c b (aq (v_ 0) (aq (v_ 1) (aq (aZ d b (aq (v_ 0) (aq aA aw))) aw))))) aw))))
  (aB (tP (n:=6) (N:= ["_law_bell","_law_pot_here"]) (js:= [none,some 0]) (aK.gen L L L L L L) L (bW (fG (jX c b (aq (v_ 0) (aq (v_ 1) (aq (aZ d b (aq (v_ 0) (aq aA aw))) aw)))))) (λ_ _ _ _=>(cY 0)) (λ_ _ _ _=>cV) (λ_ _ _ _=>(bV (aq (v_ 0) (aq (aZ g b (aq (v_ 1) (aq (bG (cj (aq a8 (aq a8 aw)))) aw))) aw)))) (EO 6 a))
  (aB (df 7 a (bG (jX c b (aq (v_ 0) (aq (v_ 1) (aq (d_ aA (aZ d b (aq (v_ 0) (aq aA aw)))) aw))))))
  (aB (fS (ie (v_ 2) (bV (aq (v_ 4) (aq (aZ g b (aq (v_ 0) (aq (bG (cj (aq a8 (aq a8 aw)))) aw))) (aq (v_ 5) (aq (iO L B.tuple (A8 (cP (v_ 6))) (ht:=iV)) (aq (v_ 7) aw))))))))
  (aG (iq PassesOwn.never L (bW (cP (v_ 7))) (dz 8 a) (aG (fS (D2 (v_ 3) (aZ d b (aq (v_ 0) (aq (d_ (eL L B.len (cP (v_ 3))) aA) aw))) (bV (aq (v_ 4) (aq (v_ 8) aw)))))))))))))
  (aB (df 9 a (bG (cj aw)))
  (aB (iq PassesOwn.never L (bW (cP (v_ 2))) (fL L (aR (dz 4 a) (aR (dz 10 a) (aR (dz 5 a) (aR (dz 6 a) (aR (dz 7 a) d0)))))) (aB (df 11 a (bG (cj aw)))
  (aB (iq PassesOwn.never L (bW (cP (v_ 7))) (dz 8 a) (aB (df 12 a (bG (xa (cP (v_ 3)) (m8 (d_ (Ef b (cP (v_ 3)) (bV (aq (v_ 4) (aq (v_ 8) aw)))) aA)) mP)))
  (aG (fS (ie (v_ 11) (bV (aq (v_ 8) (aq (aZ k b (aq (v_ 0) (aq (aZ m b (aq (v_ 10) (aq (v_ 5) (aq (v_ 6) (aq (v_ 12) aw))))) aw))) aw))))))))
  (aG (fS (ie (v_ 9) (bV (aq (v_ 4) (aq (v_ 10) (aq (v_ 5) (aq (v_ 6) (aq (iO L B.tuple (A8 (cP (v_ 11))) (ht:=iV)) aw))))))))))))
  (aG (aN (iO L B.tuple (A8 (cP (v_ 9))) (ht:=iV))))))))
def mr:aM ["_law_pot_here","_law_words_here","_law_rooms_here","_law_does","_law_room","_law_free","_law_passes","_law_opened","_law_hands","_law_k","_law_own","_law_goals","_law_kinds","_law_scope"] jj (aD kx):=g_
def uJ(F:fI K "_law_world" "_law_world" kx f fd)(B:Bl mg)(l:xn P w K mg base)(c:qk P w K mg base)(h:hR P w K mg base)(k:cE P w K mg base)(j:kH P w K mg base)(d:mj P w K mg base):bP P w K mg base eH 13 f fd jj (fE #[K,mg,w] 2 iT):=by
 let a:=mr.nd
 refine bL F mr λi A e s H E b=>?_
 let g:=b.units0
 exact(aB (df 2 a (aZ l b (aq (v_ 0) (aq (v_ 1) aw))))
  (aB (df 3 a (bG (cj aw)))
  (aB (iq PassesOwn.never L (bW (cP (v_ 2))) (dz 4 a) (aG (fS (Ez (v_ 3) (fG (cu (N:= ["_law_deed","_law_program_here","_law_room"]) (js:= [none,none,some 4]) (aK.gen L L L L L L) L (bW (cP (bU (v_ 4) aA))) (λ_ _ _ _=>(fL L (aR (cY 0) (aR (cY 1) d0)))) (λ_ _ _ _=>cV) (λ_ _ _ _=>(bV (aq (bU (v_ 2) aA) (aq (v_ 0) aw))))))))))
  (aB (tP (n:=5) (N:= ["_law_word","_law_rooms_here"]) (js:= [none,some 2]) (aK.gen L L L L L L) L (bW (cP (v_ 1))) (λ_ _ _ _=>(cY 0)) (λ_ _ _ _=>(yg (Bf (v_ 0) (fG (cu (N:= ["_law_room"]) (js:= [none]) (aK.gen L L L L L L) L (bW (cP (v_ 1))) (λ_ _ _ _=>(cY 0)) (λ_ _ _ _=>cV) (λ_ _ _ _=>(bU (v_ 0) aA))))))) (λ_ _ _ _=>(v_ 0)) (EO 5 a))
  (aB (df 6 a (bG (jX c b (aq (v_ 0) (aq (v_ 5) (aq (aZ h b (aq (v_ 0) (aq (bG (cj (aq aA (aq aA (aq aA (aq aA (aq aA (aq aA aw)))))))) aw))) aw))))))
  (aB (df 7 a (bG (jX c b (aq (v_ 0) (aq (v_ 1) (aq (aZ h b (aq (v_ 0) (aq (bG (cj (aq aA (aq aA (aq aA (aq aA (aq aA aw))))))) aw))) aw))))))
  (aB (df 8 a (bG (cj aw)))
  (aB (iq PassesOwn.never L (sr L B.range (d_ aA (aZ k b (aq (v_ 0) (aq aA aw))))) (dz 9 a) (aB (df 10 a (bG (jX c b (aq (v_ 0) (aq (bG (cu (N:= ["_law_word","_law_opened"]) (js:= [none,some 7]) (aK.gen L L L L L L) L (bW (cP (v_ 1))) (λ_ _ _ _=>(cY 0)) (λ_ _ _ _=>(yg (Bf (v_ 0) (cP (v_ 1))))) (λ_ _ _ _=>(v_ 0)))) (aq (aZ h b (aq (v_ 0) (aq (bG (cj (aq aA (aq aA (aq aA (aq aA aw)))))) aw))) aw))))))
  (aB (df 11 a (bG (jn (cP (v_ 10)) (cP (v_ 7)))))
  (aB (df 12 a (bG (jn (fG (jn (fG (cj (aq a8 aw))) (fG (tM (fG (cj (aq a8 aw))) (uO ia (dX fP L B.int (by rfl) (aq (ku g (cP (v_ 11))) aw))))))) (fG (tM (fG (cj (aq a8 (aq a8 aw)))) (uO ia (dX fP L B.int (by rfl) (aq (ku g (cP (v_ 3))) aw))))))))
  (aB (df 12 a (bG (jn (cP (v_ 12)) (fG (tM (fG (cj (aq a8 (aq a8 (aq a8 aw))))) (uO ia (dX fP L B.int (by rfl) (aq (ku g (cP (v_ 6))) aw))))))))
  (aB (df 13 a (ox (cx (v_ 11) (cx (v_ 11) (cx (bG (cj aw)) (cx (v_ 3) (cx (v_ 12) (cx (v_ 6) tq))))))))
  (aG (fS (ie (v_ 8) (bV (aq (aZ d b (aq (v_ 0) (aq (v_ 10) aw))) (aq (aZ j b (aq (v_ 0) (aq (v_ 13) aw))) aw))))))))))))
  (aG (aN (bV (aq (v_ 2) (aq (aZ d b (aq (v_ 0) (aq (v_ 6) aw))) (aq (aZ d b (aq (v_ 0) (aq (v_ 7) aw))) (aq (iO L B.tuple (A8 (cP (v_ 8))) (ht:=iV)) aw)))))))))))))))
end
section
variable{P:X9}{w:Xc}{K:X1}{mg:X3}{base:Xe}{f:X8}{fd:FuncData}
def Ei:aM ["_law_script","_law_pot_here","_law_words_here","_law_k","_law_world_here","_law_rooms_here","_law_passes","_law_opened","_law_hands","_law_idle"] sU (aD nq):=g_
def Iv(F:fI K "law" "law" nq f fd)(B:Bl mg)(h:z4 P w K mg base)(j:wW P w K mg base)(g:xm P w K mg base)(c:wg P w K mg base)(i:cE P w K mg base):bP P w K mg base eH 21 f fd sU (fE #[K,mg,w] 1 FS):=by
 let a:=Ei.nd
 refine bL F Ei λe A d s H E b=>?_
 refine aB (df 1 a (bG (jX h b (aq (v_ 0) aw)))) ?_
 refine aB (df 2 a (bG (jX j b (aq (v_ 1) (aq aA aw))))) ?_
 refine aB (iq PassesOwn.never L (sr L B.range (uO JB (eM (Cv L) L B.max (by rfl) (aq aA (aq (uO EB (eM (uW L) L B.min (by rfl) (aq aA (aq (eL L B.len (cP (v_ 0))) aw)))) aw))))) (dz 3 a) (aB (df 4 a (aZ g b (aq (v_ 1) (aq (v_ 2) aw))))
  (aB (uT (v_ 4) (fL L (aR (dz 5 a) (aR (dz 6 a) (aR (dz 7 a) (aR (dz 8 a) d0))))))
  (aB (cM (PW.pt (w_or (cQ (cB (aZ c b (aq (v_ 4) aw)))) (gK (cQ (cB (aZ c b (aq (bV (aq (v_ 5) (aq (v_ 6) (aq (v_ 7) (aq (rO (v_ 8) mP (m8 aA)) aw))))) aw))))))) (aG (aN ft)) bK)
  (aB (df 9 a (bV (aq (bV aw) (aq (bV (aq (bV (aq a8 (aq (aZ i b (aq (v_ 1) (aq aA aw))) aw))) aw)) aw))))
  (aG (cM (PW.pt (w_or (cQ (cB (aZ c b (aq (bV (aq (v_ 5) (aq (bV aw) (aq (bV aw) (aq (bV (aq (v_ 9) aw)) aw))))) aw)))) (gK (cQ (cB (aZ c b (aq (bV (aq (bV aw) (aq (v_ 6) (aq (v_ 7) (aq (HH (bV (aq (v_ 9) aw)) aA) aw))))) aw))))))) (aG (aN ft)) bK))))))) ?_
 refine aG ?rt
 with_reducible refine aN ?_
 refine aZ c b ?_
 with_reducible refine aq ?dd aw ?_
 case dd=>repeat (first|with_reducible exact aw|with_reducible exact tq|with_reducible exact a8|with_reducible exact aA|with_reducible refine aq ?_ ?_ ?_|with_reducible refine cx ?_ ?_|with_reducible refine bV ?_|with_reducible refine ox ?_ ?_ ?_|((with_reducible change _=_);exact L)|(intro z;cases z;done)|decide)
 exact L
end
def all_mk{l:PySem.W.OpenLaw}{w:Xc}{K:X1}{h:Xe}{mg:X3}{fa f1 f2 f3 f4 f5 f6 f7 f8 f9 w8 y9 r1 q7 H9 o2 x6 y3 t1 p7 I7 m9 s5 z2 r3 H8 s9 x8 t0 o0 z7 I4 q0 x2 G0 w3 s1 n5 w0 n7 q1 I1 o6 I8 w2 u2 p4 o7 m5:X8}(X:K.In h)(G:h.Ns mainGlobals mg)(q9:mg "law"=some (.ref fa))
  (d1:bC K "_law_pot" mE f1)
  (d2:bC K "_law_take" lG f2)
  (d3:bC K "_law_of" oY f3)
  (d4:bC K "_law_words" j8 f4)
  (d5:bC K "names_of" mC f5)
  (d6:bC K "shares_a_word" gI f6)
  (d7:bC K "has_all" pH f7)
  (d8:bC K "is_whole" mK f8)
  (d9:bC K "is_value" m6 f9)
  (I9:bC K "is_word" pO w8)
  (n6:bC K "parts_asked" jd y9)
  (t8:bC K "is_sum_within" gJ r1)
  (n1:bC K "is_sum" sy q7)
  (H6:bC K "gather" sY H9)
  (J2:bC K "bells_of" mN o2)
  (y8:bC K "words_of" mU x6)
  (q6:bC K "is_fit_sum" jU y3)
  (n2:bC K "is_fit_part" iY t1)
  (r0:bC K "is_fit_row" jK p7)
  (w5:bC K "is_fit_program" fR I7)
  (v2:bC K "is_fit_room" jb m9)
  (s3:bC K "deeds_there" i3 s5)
  (o4:bC K "has_fit_deeds" gC z2)
  (p5:bC K "has_fit_hands" gF r3)
  (I6:bC K "has_no_rings" iA H8)
  (v6:bC K "is_roll" pk s9)
  (o3:bC K "is_one_of" kL x8)
  (w9:bC K "are_bells" lr t0)
  (u3:bC K "is_program" j9 o0)
  (r6:bC K "are_deeds" kY z7)
  (o9:bC K "are_things" ko I4)
  (v1:bC K "is_room" pj q0)
  (I3:bC K "are_rooms" kP x2)
  (s7:bC K "are_passes" ke G0)
  (r2:bC K "is_hand" ph w3)
  (n3:bC K "are_hands" k_ s1)
  (H0:bC K "is_world" mY n5)
  (H7:bC K "_law_right" jJ w0)
  (x7:bC K "_law_some" lE n7)
  (v8:bC K "_law_values" i0 q1)
  (o8:bC K "_law_bare" k8 I1)
  (z0:bC K "_law_sum" mH o6)
  (I5:bC K "_law_row" mQ I8)
  (w7:bC K "_law_program" hZ w2)
  (p1:bC K "_law_deed_scope" fh u2)
  (r5:bC K "_law_rooms" jS p4)
  (v3:bC K "_law_world" kx o7)
  {oc kV dc pm cd ct:Xd} {od an:Option Addr} {sl:Array (Option Value)} (s2:PySem.W.nsIn K mainGlobals "law"=some (some (.ref m5))) (s8:K.lookup m5=some #[oc,od,.func (PySem.W.fnOf "law" "law" (gN nq) (eQ nq) (aD nq) .none kV dc pm an cd ct),sl]) (t3:PySem.W.codeIn K cd "law"=true) (z1:PySem.W.keepIn K (.ref m5)=true)
  {pS:Tok} (CI:PySem.W.nsIn K mainGlobals "HIGHEST"=some (some (.int (9) pS)))
  {pN:Tok} (BZ:PySem.W.nsIn K mainGlobals "LONGEST"=some (some (.int (8) pN)))
  {pR:Tok} (BN:PySem.W.nsIn K mainGlobals "LETTERS"=some (some (.str "abcdefghijklmnopqrstuvwxyz" pR)))
  {pB:Tok} (BQ:PySem.W.nsIn K mainGlobals "DEEPEST"=some (some (.int (5) pB)))
  {j_:Tok} (vW:PySem.W.nsIn K mainGlobals "MOST_BELLS"=some (some (.int (3) j_)))
  {kO:Tok} (yh:PySem.W.nsIn K mainGlobals "MOST_ROWS"=some (some (.int (40) kO)))
  {ka:Tok} (vQ:PySem.W.nsIn K mainGlobals "MOST_DEEDS"=some (some (.int (4) ka)))
  {eX:Tok} (nc:PySem.W.nsIn K mainGlobals "MOST_ROOM_THINGS"=some (some (.int (4) eX)))
  {kq:Tok} (vT:PySem.W.nsIn K mainGlobals "MOST_ROOMS"=some (some (.int (4) kq)))
  {i7:Tok} (uQ:PySem.W.nsIn K mainGlobals "MOST_PASSES"=some (some (.int (16) i7)))
  {fq:Tok} (oa:PySem.W.nsIn K mainGlobals "MOST_OWN_THINGS"=some (some (.int (8) fq)))
  {jL:Tok} (vO:PySem.W.nsIn K mainGlobals "MOST_HANDS"=some (some (.int (4) jL)))
  {eT:Tok} (mO:PySem.W.nsIn K mainGlobals "MOST_OPEN_THINGS"=some (some (.int (16) eT)))
  {zk m3:Nat} {m0:Array (Option Value)} {l3 l4 l6 l5 l8:Tok} (Dr:PySem.W.nsIn K mainGlobals "OF_TWO"=some (some (.ref zk))) (B4:K.lookup zk=some #[.type "tuple",none,.seq (List.toArray [.str "plus" l3,.str "minus" l4,.str "less" l6,.str "same" l5,.str "both" l8]) m3,m0])
  {oE k6:Nat} {k3:Array (Option Value)} {e8 e4:Tok} (xb:PySem.W.nsIn K mainGlobals "BELL_SORTS"=some (some (.ref oE))) (uP:K.lookup oE=some #[.type "tuple",none,.seq (List.toArray [.str "row" e8,.str "turns" e4]) k6,k3])
  {uZ m2:Nat} {l9:Array (Option Value)} {k7 l2:Tok} (BU:PySem.W.nsIn K mainGlobals "MANNERS"=some (some (.ref uZ))) (Ay:K.lookup uZ=some #[.type "tuple",none,.seq (List.toArray [.str "at once" k7,.str "when free" l2]) m2,l9])
  {kc um:Nat} {rh qR qW qV rF rH rG qO:Tok} {r h5 j h4 g h8 i j5 o h6 x i5 f j4 u h2:Nat} {e9 g2 c9 b9 h0 c8 g8 c3:Array (Option Value)} {H a2 a1 Q b0 a4 C b2 R N A M b7 a6:Tok} (wx:PySem.W.nsIn K mainGlobals "DEED_FORMS"=some (some (.ref kc))) (uE:K.lookup kc=some #[.type "dict",none,.dict (List.toArray [#[PyData.keyHash w.params "put",.str "put" rh,.ref r],#[PyData.keyHash w.params "unless",.str "unless" qR,.ref j],#[PyData.keyHash w.params "go",.str "go" qW,.ref g],#[PyData.keyHash w.params "do",.str "do" qV,.ref i],#[PyData.keyHash w.params "wait",.str "wait" rF,.ref o],#[PyData.keyHash w.params "call",.str "call" rH,.ref x],#[PyData.keyHash w.params "all",.str "all" rG,.ref f],#[PyData.keyHash w.params "tell",.str "tell" qO,.ref u]]) um,(List.toArray [])]) (k2:(kc==sysModules)=false)
  (e2:K.lookup r=some #[.type "tuple",none,.seq (List.toArray [.str "thing" H,.str "sum" a2]) h5,e9])
  (g7:K.lookup j=some #[.type "tuple",none,.seq (List.toArray [.str "sum" a1,.str "place" Q]) h4,g2])
  (c7:K.lookup g=some #[.type "tuple",none,.seq (List.toArray [.str "place" b0]) h8,c9])
  (e7:K.lookup i=some #[.type "tuple",none,.seq (List.toArray [.str "goal" a4,.str "name" C,.str "name" b2,.str "sum" R]) j5,b9])
  (h1:K.lookup o=some #[.type "tuple",none,.seq (List.toArray [.str "bell" N,.str "sum" A]) h6,h0])
  (g0:K.lookup x=some #[.type "tuple",none,.seq (List.toArray [.str "bell" M]) i5,c8])
  (e5:K.lookup f=some #[.type "tuple",none,.seq (List.toArray [.str "bell" b7]) j4,g8])
  (e3:K.lookup u=some #[.type "tuple",none,.seq (List.toArray [.str "sum" a6]) h2,c3])
  {kf uq:Nat} {q_ qX rg rD rC rJ rB rK:Tok} {q i1 a h3 p i2 c k0 y h9 z h7 t j1 n j0:Nat} {c2 e1 f0 g9 g6 c5 g3 e0:Array (Option Value)} {U P J b4 a5 b6 b1 b3 a3 I Y a0 S b5:Tok} (wj:PySem.W.nsIn K mainGlobals "HAND_FORMS"=some (some (.ref kf))) (uA:K.lookup kf=some #[.type "dict",none,.dict (List.toArray [#[PyData.keyHash w.params "put",.str "put" q_,.ref q],#[PyData.keyHash w.params "unless",.str "unless" qX,.ref a],#[PyData.keyHash w.params "go",.str "go" rg,.ref p],#[PyData.keyHash w.params "do",.str "do" rD,.ref c],#[PyData.keyHash w.params "take",.str "take" rC,.ref y],#[PyData.keyHash w.params "give",.str "give" rJ,.ref z],#[PyData.keyHash w.params "pass",.str "pass" rB,.ref t],#[PyData.keyHash w.params "say",.str "say" rK,.ref n]]) uq,(List.toArray [])]) (k4:(kf==sysModules)=false)
  (g1:K.lookup q=some #[.type "tuple",none,.seq (List.toArray [.str "thing" U,.str "sum" P]) i1,c2])
  (c6:K.lookup a=some #[.type "tuple",none,.seq (List.toArray [.str "sum" J,.str "place" b4]) h3,e1])
  (c4:K.lookup p=some #[.type "tuple",none,.seq (List.toArray [.str "place" a5]) i2,f0])
  (b8:K.lookup c=some #[.type "tuple",none,.seq (List.toArray [.str "goal" b6,.str "name" b1,.str "name" b3,.str "sum" a3]) k0,g9])
  (g4:K.lookup y=some #[.type "tuple",none,.seq (List.toArray [.str "pass" I]) h9,g6])
  (g5:K.lookup z=some #[.type "tuple",none,.seq (List.toArray [.str "pass" Y]) h7,c5])
  (c1:K.lookup t=some #[.type "tuple",none,.seq (List.toArray [.str "pass" a0,.str "pass" S]) j1,g3])
  (e6:K.lookup n=some #[.type "tuple",none,.seq (List.toArray [.str "sum" b5]) j0,e0])
  (KF:PySem.W.nsIn K mainGlobals "len"=some none) (Gg:PySem.W.nsIn K mainGlobals "tuple"=some none) (Jx:PySem.W.nsIn K mainGlobals "list"=some none) (Iw:PySem.W.nsIn K mainGlobals "dict"=some none) (Le:PySem.W.nsIn K mainGlobals "set"=some none) (LI:PySem.W.nsIn K mainGlobals "int"=some none) (Mj:PySem.W.nsIn K mainGlobals "str"=some none) (Jc:PySem.W.nsIn K mainGlobals "bool"=some none) (LP:PySem.W.nsIn K mainGlobals "all"=some none) (KE:PySem.W.nsIn K mainGlobals "any"=some none) (Gy:PySem.W.nsIn K mainGlobals "range"=some none) (K5:PySem.W.nsIn K mainGlobals "zip"=some none) (Ds:PySem.W.nsIn K mainGlobals "sorted"=some none) (xr:PySem.W.nsIn K mainGlobals "isinstance"=some none) (Ly:PySem.W.nsIn K mainGlobals "min"=some none) (L6:PySem.W.nsIn K mainGlobals "max"=some none) (K8:PySem.W.nsIn K mainGlobals "abs"=some none) (yW:PySem.W.nsIn K mainGlobals "enumerate"=some none) (AD:PySem.W.nsIn K mainGlobals "reversed"=some none) (Jd:PySem.W.nsIn K mainGlobals "repr"=some none)
  (T:∀ns:List Int,ns.length<=63->∃S',FS [.ref 0] [.frz (ns.map D.int)]=some (.d (.bl true),S')):
  ∃fd:FuncData,(∀(s:X4) (v:Xd),BindsTo s fd #[[v],[]] [("_law_script",v)])/\∀base:Heap,K.In base->base.Ns mainGlobals mg->bP l.prog w K mg base eH 21 fa fd sU yL:=by
 let e:=q9.symm.trans (PySem.W.mg_of X G s2)
 cases e
 let s4:=Ap (st:=nq) s8 t3 z1
 let O1:=d1.ok1 (ps:=sU) X G
 let O2:=d2.ok1 (ps:=qI) X G
 let O3:=d3.ok1 (ps:=yN) X G
 let O4:=d4.ok1 (ps:=qI) X G
 let O5:=d5.ok1 (ps:=zj) X G
 let O6:=d6.ok1 (ps:=yJ) X G
 let O7:=d7.ok1 (ps:=l_) X G
 let O8:=d8.ok1 (ps:=bh) X G
 let O9:=d9.ok1 (ps:=bh) X G
 let y6:=I9.ok1 (ps:=bh) X G
 let o1:=n6.ok1 (ps:=zq) X G
 let u8:=t8.ok1 (ps:=tV) X G
 let I2:=n1.ok1 (ps:=bh) X G
 let q2:=H6.ok1 (ps:=vt) X G
 let q3:=J2.ok1 (ps:=qu) X G
 let x3:=y8.ok1 (ps:=qu) X G
 let p2:=q6.ok1 (ps:=yd) X G
 let y2:=n2.ok1 (ps:=qE) X G
 let x5:=r0.ok1 (ps:=yq) X G
 let w1:=w5.ok1 (ps:=yH) X G
 let v0:=v2.ok1 (ps:=AG) X G
 let x4:=s3.ok1 (ps:=om) X G
 let r4:=o4.ok1 (ps:=oq) X G
 let z6:=p5.ok1 (ps:=oq) X G
 let r7:=I6.ok1 (ps:=om) X G
 let v5:=v6.ok1 (ps:=A2) X G
 let u4:=o3.ok1 (ps:=yr) X G
 let o5:=w9.ok1 (ps:=bh) X G
 let q5:=u3.ok1 (ps:=bh) X G
 let z5:=r6.ok1 (ps:=bh) X G
 let t2:=o9.ok1 (ps:=xP) X G
 let n4:=v1.ok1 (ps:=l_) X G
 let s0:=I3.ok1 (ps:=bh) X G
 let w6:=s7.ok1 (ps:=bh) X G
 let s6:=r2.ok1 (ps:=bh) X G
 let x1:=n3.ok1 (ps:=bh) X G
 let u1:=H0.ok1 (ps:=bh) X G
 let n8:=H7.ok1 (ps:=Bm) X G
 let z8:=x7.ok1 (ps:=Bq) X G
 let w4:=v8.ok1 (ps:=jj) X G
 let p3:=o8.ok1 (ps:=AV) X G
 let q4:=z0.ok1 (ps:=vj) X G
 let D0:=I5.ok1 (ps:=yK) X G
 let t4:=w7.ok1 (ps:=A1) X G
 let y5:=p1.ok1 (ps:=FI) X G
 let x0:=r5.ok1 (ps:=jj) X G
 let v4:=v3.ok1 (ps:=jj) X G
 let pD:=PySem.W.mg_of X G CI
 let pA:=PySem.W.mg_of X G BZ
 let pF:=PySem.W.mg_of X G BN
 let pW:=PySem.W.mg_of X G BQ
 let jE:=PySem.W.mg_of X G vW
 let lg:=PySem.W.mg_of X G yh
 let jH:=PySem.W.mg_of X G vQ
 let eU:=PySem.W.mg_of X G nc
 let jT:=PySem.W.mg_of X G vT
 let i_:=PySem.W.mg_of X G uQ
 let fj:=PySem.W.mg_of X G oa
 let jI:=PySem.W.mg_of X G vO
 let eS:=PySem.W.mg_of X G mO
 have m4:zC K mg "OF_TWO" gZ:=#[_,PySem.W.mg_of X G Dr,#[_,_,_,B4,L,L,(by show 5<=_;decide),(.cons #[_,L] (.cons #[_,L] (.cons #[_,L] (.cons #[_,L] (.cons #[_,L] .nil)))))]]
 have l1:zC K mg "BELL_SORTS" je:=#[_,PySem.W.mg_of X G xb,#[_,_,_,uP,L,L,(by show 2<=_;decide),(.cons #[_,L] (.cons #[_,L] .nil))]]
 have m1:zC K mg "MANNERS" mL:=#[_,PySem.W.mg_of X G BU,#[_,_,_,Ay,L,L,(by show 2<=_;decide),(.cons #[_,L] (.cons #[_,L] .nil))]]
 have k5:vB l.prog w K mg "DEED_FORMS" eI:=xX (PySem.W.mg_of X G wx) k2 uE (.cons #[_,_,_,e2,L,L,(by show 2<=_;decide),(.cons #[_,L] (.cons #[_,L] .nil))] (.cons #[_,_,_,g7,L,L,(by show 2<=_;decide),(.cons #[_,L] (.cons #[_,L] .nil))] (.cons #[_,_,_,c7,L,L,(by show 1<=_;decide),(.cons #[_,L] .nil)] (.cons #[_,_,_,e7,L,L,(by show 4<=_;decide),(.cons #[_,L] (.cons #[_,L] (.cons #[_,L] (.cons #[_,L] .nil))))] (.cons #[_,_,_,h1,L,L,(by show 2<=_;decide),(.cons #[_,L] (.cons #[_,L] .nil))] (.cons #[_,_,_,g0,L,L,(by show 1<=_;decide),(.cons #[_,L] .nil)] (.cons #[_,_,_,e5,L,L,(by show 1<=_;decide),(.cons #[_,L] .nil)] (.cons #[_,_,_,e3,L,L,(by show 1<=_;decide),(.cons #[_,L] .nil)] .nil)))))))) (by decide +kernel) (!1)
 have k1:vB l.prog w K mg "HAND_FORMS" eK:=xX (PySem.W.mg_of X G wj) k4 uA (.cons #[_,_,_,g1,L,L,(by show 2<=_;decide),(.cons #[_,L] (.cons #[_,L] .nil))] (.cons #[_,_,_,c6,L,L,(by show 2<=_;decide),(.cons #[_,L] (.cons #[_,L] .nil))] (.cons #[_,_,_,c4,L,L,(by show 1<=_;decide),(.cons #[_,L] .nil)] (.cons #[_,_,_,b8,L,L,(by show 4<=_;decide),(.cons #[_,L] (.cons #[_,L] (.cons #[_,L] (.cons #[_,L] .nil))))] (.cons #[_,_,_,g4,L,L,(by show 1<=_;decide),(.cons #[_,L] .nil)] (.cons #[_,_,_,g5,L,L,(by show 1<=_;decide),(.cons #[_,L] .nil)] (.cons #[_,_,_,c1,L,L,(by show 2<=_;decide),(.cons #[_,L] (.cons #[_,L] .nil))] (.cons #[_,_,_,e6,L,L,(by show 1<=_;decide),(.cons #[_,L] .nil)] .nil)))))))) (by decide +kernel) (!1)
 have B:Bl mg:=#[QFq X G KF,QFq X G Gg,QFq X G Jx,QFq X G Iw,QFq X G Le,QFq X G LI,QFq X G Mj,QFq X G Jc,QFq X G LP,QFq X G KE,QFq X G Gy,QFq X G K5,QFq X G Ds,QFq X G xr,QFq X G Ly,QFq X G L6,QFq X G K8,QFq X G yW,QFq X G AD]
 refine#[PySem.W.fnOf "law" "law" (gN nq) (eQ nq) (aD nq) .none kV dc pm an cd ct,λs v=>.of_eq L,λbase _ _=>?_]
 have Z:Pk l.prog w base:=#[]
 let mX:=O1.cal Z λ_ F _ _ _=>y_ F B
 let aE:=O2.cal Z λ_ F _ _ _=>vZ F B
 let aX:=O3.cal Z λ_ F _ _ _=>zE F B aE
 let jR:=O4.cal Z λ_ F _ _ _=>uh F B aX aE
 let bS:=O5.cal Z λ_ F _ _ _=>xG F B
 let eO:=O6.cal Z λ_ F _ _ _=>pe F B bS
 let pP:=O7.cal Z λ_ F _ _ _=>zx F B
 let eV:=O8.cal Z λ_ F _ _ _=>zh F B
 let dk:=O9.cal Z λ_ F _ _ _=>xV F B eV pD
 let cT:=y6.cal Z λ_ F _ _ _=>Ah F B pA pF
 let fW:=o1.cal Z λ_ F _ _ _=>sE F B m4
 let dS:=u8.cal Z λ_ F b k m=>jy F B dk cT fW b k m 6
 let tH:=I2.cal Z λ_ F _ _ _=>BX F B dS pW
 let gx:=q2.cal Z λ_ F b k m=>vq F B b k m 6
 let mw:=q3.cal Z λ_ F _ _ _=>yQ F B gx
 let mJ:=x3.cal Z λ_ F _ _ _=>ya F B gx
 let gU:=p2.cal Z λ_ F _ _ _=>uK F B tH mJ mw
 let eJ:=y2.cal Z λ_ F b k m=>lu F B gU eV cT b k m 2
 let jM:=x5.cal Z λ_ F _ _ _=>uG F B eJ
 let cU:=w1.cal Z λ_ F _ _ _=>nR F B jM
 let i4:=v0.cal Z λ_ F _ _ _=>tf F B bS cU pP k5
 let dU:=x4.cal Z λ_ F _ _ _=>sD F B bS
 let gB:=r4.cal Z λ_ F _ _ _=>p6 F B i4 dU
 let gE:=z6.cal Z λ_ F _ _ _=>pI F B bS dU cU k1
 let hU:=r7.cal Z λ_ F _ _ _=>qT F B
 let cp:=v5.cal Z λ_ F _ _ _=>zz F B cT
 let eZ:=u4.cal Z λ_ F _ _ _=>xf F B
 let lF:=o5.cal Z λ_ F _ _ _=>wO F B cp eZ l1 jE
 let eC:=q5.cal Z λ_ F _ _ _=>uf F B lg
 let lC:=z5.cal Z λ_ F _ _ _=>wm F B cp eC jH
 let cO:=t2.cal Z λ_ F _ _ _=>uD F B cp dk
 let pE:=n4.cal Z λ_ F _ _ _=>zy F B eZ cO lF lC m1 eU
 let kX:=s0.cal Z λ_ F _ _ _=>wc F B cp pE jT
 let j7:=w6.cal Z λ_ F _ _ _=>uI F B cp dk i_
 let p9:=s6.cal Z λ_ F _ _ _=>AB F B cO eC fj
 let lz:=x1.cal Z λ_ F _ _ _=>vX F B p9 jI
 let mI:=u1.cal Z λ_ F _ _ _=>y1 F B kX j7 cO lz eO gB gE hU eS
 let dG:=n8.cal Z λ_ F _ _ _=>ur F B mI (QFq X G Jd)
 let cD:=z8.cal Z λ_ F _ _ _=>wH F B aE
 let cR:=w4.cal Z λ_ F _ _ _=>sF F B aE
 let iJ:=p3.cal Z λ_ F _ _ _=>vP F B aE aX
 let eW:=q4.cal Z λ_ F b k m=>qL F B aE iJ aX b k m 5
 let mM:=D0.cal Z λ_ F _ _ _=>yT F B aX eW aE
 let du:=t4.cal Z λ_ F _ _ _=>q8 F B aE mM
 let fv:=y5.cal Z λ_ F _ _ _=>mR F B
 let jP:=x0.cal Z λ_ F _ _ _=>uk F B cD aX cR aE du fv
 let jF:=v4.cal Z λ_ F _ _ _=>uJ F B jP cD aX aE du cR
 exact FW (Iv s4 B mX jR jF dG aE) T
end W28
namespace DL
open PySem PySem.Spec L2
def jc{a:cI}{S:aH}{Q:Bool->aH->Prop}(q:Q true S):E b_ a S Q:=#[_,_,L,q]
section
variable{S:aH}
def EK{i j:Int}{Q:D->Prop}(q:Q (.int (i+j))):Op (dy S (.int i) (.int j)) Q:=#[_,L,q]
def HP{i j:Str}{Q:D->Prop}(h:i.length+j.length<=sizeLine)(q:Q (.str (i++j))):Op (dy S (.str i) (.str j)) Q:=#[_,by erw[dy];rw[Qhq h],q]
def DR{i j:List D}{Q:D->Prop}(h:i.length+j.length<=sizeLine)(q:Q (.tup (i++j))):Op (dy S (.tup i) (.tup j)) Q:=#[_,by erw[dy];rw[Qhq h],q]
def JD{k:Int->Int->D}{i j:Int}{Q:D->Prop}(q:Q (k i j)):Op (intD (λ_ _=>True) k S (.int i) (.int j)) Q:=#[_,by erw[intD,if_true],q]
def nZ{i j:Int}{Q:D->Prop}(h:0<j)(q:Q (.int (i%j))):Op (qS S (.int i) (.int j)) Q:=#[_,by erw[qS,intD];rw[Qhq h],q]
def w_{i j:Int}{Q:D->Prop}(h:Dx i j)(q:Q (.int (i/j))):Op (s_ S (.int i) (.int j)) Q:=#[_,by erw[s_,intD];rw[Qhq h],q]
def qy{i j:Int}{Q:D->Prop}(h:Jk i j)(q:Q (.int (i*j))):Op (sX S (.int i) (.int j)) Q:=#[_,by erw[sX,intD];rw[Qhq h.ok],q]
def bE{ds:List D}{i:Int}{d:D}{Q:D->Prop}(h:oW ds i=some d)(q:Q d):Op (eg S (.tup ds) (.int i)) Q:=#[_,h,q]
def fB{k:Nat}{ds:List D}{i:Int}{d:D}{Q:D->Prop}(a:S[k]?=some (.lst ds))(h:oW ds i=some d)(q:Q d):Op (eg S (.ref k) (.int i)) Q:=#[_,by erw[eg,a];exact h,q]
def br{ds:List D}{Q:List D×Tag->Prop}(q:Q (ds,.tu)):Op (mS S (.tup ds)) Q:=#[_,L,q]
def bB{k:Nat}{ds:List D}{Q:List D×Tag->Prop}(a:S[k]?=some (.lst ds))(q:Q (ds,.st k)):Op (mS S (.ref k)) Q:=#[_,by erw[mS,a],q]
def dJ{α:Type}{o:Option α}{d:α}{Q:α->Prop}(h:o=some d)(q:Q d):Op o Q:=#[d,h,q]
end
def aC{b:Bool}{p q:Prop}(c:b=true->p)(a:b=false->q):if b=true then p else q:=by
 cases b with
 |true=>exact c L
 |false=>exact a L
theorem DS{c:iB}{b:dr}{Q:Out->Prop}(I:Nat->cI->aH->Prop)(p:∀m a S,I m a S->E c a S λk i=>if k=true then T b a i λo=>match o with|.nx e f=>∃g,m=g+1/\I g e f|.rt d f=>Q (.rt d f)|_=>False else Q (.nx a i)):
  ∀(n m:Nat) (a:cI) (S:aH),m<n->I m a S->T (C0 c b n) a S Q
 |0,_,_,_,h,_=>absurd h (Nat.not_lt_zero _)
 | n+1,m,a,S,h,hi=>by
   let#[k,i,j,q]:=p m a S hi
   cases k with
   |false=>exact#[_,by erw[C0];rw[j];rfl,q]
   | true=>
     let#[o,l,q]:=(q:T b a i _)
     cases o with
     | nx e f=>
       let#[g,rfl,q]:=(q:∃g,m=g+1/\I g e f)
       let#[o,r,q]:=DS I p n g e f (!0) q
       exact#[o,by erw[C0];rw[j];erw[Qbq,if_true];rw[l];exact r,q]
     |rt d f=>exact#[_,by erw[C0];rw[j];erw[Qbq,if_true];rw[l];rfl,q]
     |_=>exact q.elim
def LR{n:Nat}{b:dr}{ds:List D}{S:aH}{Q:Res->aH->Prop}(h:T b (ds.map some++List.replicate (n-ds.length) none) S λo=>match o with|.nx _ S'=>Q (.d .non) S'|.rt d S'=>Q (.d d) S'|.rl l S'=>Q (.l l) S'|_=>False):Fn (IW n b) ds S Q:=by
 let#[o,e,q]:=h
 cases o with
 |nx _ S'=>exact#[_,_,by unfold IW;rw[e];rfl,q]
 |rt d S'=>exact#[_,_,by unfold IW;rw[e];rfl,q]
 |rl l S'=>exact#[_,_,by unfold IW;rw[e];rfl,q]
 |_=>exact q.elim
def iH{b:cI}{S:aH}{f g:bc}{Q:D->aH->Prop}(h:E f b S λx c=>E g b c λy a=>∃k l z v,x=.ref k/\y=.str z/\a[k]?=some (.dct l)/\eA l (.inr z)=some v/\Q v a):E (yZ f g) b S Q:=by
 let#[x,c,d,y,a,e,k,l,z,v,rfl,rfl,h1,h2,q]:=h
 exact#[_,_,by unfold yZ;rw[d];erw[Qbq];rw[e];erw[Qbq,h1,CK];rw[h2];rfl,q]
def nY{S:aH}{i j:Int}{Q:D->Prop}(q:Q (.bl (decide (i=j)))):Op (iQ false S (.int i) (.int j)) Q:=#[_,by refine((if_pos (c:=yM (.int i) (.int j)=true) (e:=none) rfl).trans ?_);simp,q]
def cw{S:aH}{i j:Str}{Q:D->Prop}(q:Q (.bl (decide (i=j)))):Op (iQ false S (.str i) (.str j)) Q:=#[_,by refine((if_pos (c:=yM (.str i) (.str j)=true) (e:=none) rfl).trans ?_);simp,q]
def eh{x:D}{xs:List D}:oW (x::xs) 0=some x:=by
 unfold oW Ce
 rw[Qhq (!0),Qhq (by erw[Qnq];omega)]
 rfl
def N1{n:Nat}:Ce (n+1) 0=some 0:=by
 unfold Ce
 rw[Qhq (!0),Qhq (!0)]
 rfl
def Ma{x:D}{xs:List D}(h:xs.length<999):kI (x::xs) [.int 0]=some (xs,x):=by
 have e:seqIndex? ((0:Nat):Int) (xs.length+1)=some 0:=(rQ (j:=0) (by unfold Ce;rw[Qhq (!0),Qhq (!0)];simp)).1
 erw[kI]
 rw[Qhq (!0)]
 show(seqIndex? ((0:Nat):Int) (xs.length+1)).bind _=_
 rw[e]
 rfl
end DL
local macro_rules(kind:=Lean.Parser.Tactic.injection)|s=>Z7 s 6
local macro_rules(kind:=Lean.Parser.Tactic.injection)|s=>match s[1].isNatLit? with|none=>Z6|some k=>do
 let l:=(("aU|bO|cb|E9|lV|Jh|DK|cN|t_auS|a_|bM|ay|aI|dR|ki|iM|MU|bq|mW|fJ|C8|Kg|F3|aS|fY|bj|bH|bF|tU|fi|Mi|jc|bu|NW|NQ|eD|EK|JD|br".splitOn "|").drop (7*k)).take 7
 pure<|Z0<|if k=6 then Y5 else
  "'with_reducible 'first"++String.join (l.map λx=>" 'refine $DL."++x++" Y A1,null E2,app T2,refine G")++" A"++toString l.length++",null T2,first S T2,withReducible"
local macro_rules|`(tactic|symm)=>`(tactic|repeat injection 0)
local macro_rules|`(tactic|apply $e)=>`(tactic|(refine $e;symm))
namespace W28
open PySem PySem.Spec L2 DL
def qN(j:Nat)(b c:Int):O:=.lst [.ref j,.int b,.int c]
def kz(a:List Int):O:=.lst (a.map D.int)
def fM{S:aH}{j:Nat}{o o':O}(h:S[j]?=some o):(S.set j o')[j]?=some o':=Qyq (gQs.mp h).1
def dA{S:aH}{k j:Nat}{o o':O}(n:j≠k)(h:S[j]?=some o):(S.set k o')[j]?=some o:=by
 rw[QKq (Ne.symm n)]
 exact h
def nh{S:aH}{k j:Nat}{o o':O}(h:t9 S.length o=true)(h':t9 S.length o'=true):kB S ((S.set j o').set k o):=by
 refine#[by simp,λi u _ e=>?_]
 rw[List.getElem?_set] at e
 split at e
 ·split at e
  ·cases e;exact .inr h
  ·cases e
 ·exact(B_ h').2 i u (by assumption) e
def wY(m:Nat)(a:List Int):t9 m (kz a)=true:=by
 show bz m (a.map D.int)=true
 induction a with
 |nil=>rfl
 |cons c a b=>exact b
def pZ{S:aH}{j:Nat}{o:O}(h:S[j]?=some o):S.set j o=S:=List.ext_getElem? λi=>by
 by_cases z:i=j
 ·subst z;rw[Qyq (gQs.mp h).1,h]
 ·rw[QKq (Ne.symm z)]
def BO{S:aH}{k j:Nat}{q:List Int}{b c m:Int}{Q:Res->aH->Prop}(J:S[k]?=some (qN j b c))(B:S[j]?=some (kz q))(M:k≠j)(F:q.length<64)(K:0<=c)(X:c<1000000000)(l:0<m)(Y:m<1000000)
  (h:∀(d t:Int) (a:List Int),0<=d->d<m->0<=t->t<=c+1->a.length<64->Q (.d (.int d)) ((S.set j (kz a)).set k (qN j b t))):Fn aW [.ref k,.int m] S Q:=by
 have U:k<S.length:=(gQs.mp J).1
 have u:j<S.length:=(gQs.mp B).1
 have f:∀a,(S.set j (kz a))[k]?=some (qN j b c):=λa=>dA M J
 have g:∀a,(S.set j (kz a))[j]?=some (kz a):=λa=>fM B
 refine cA ?_
 unfold sN
 have C:∀o A:O,((S.set j A).set k o).take S.length=(S.set j A).set k o:=λo A=>by rw[List.take_of_length_le];simp
 have p:∀x y:Int,t9 S.length (qN j x y)=true:=λx y=>by
  show bz S.length [D.ref j,.int x,.int y]=true
  simp[bz,cy,u]
 refine aU (T.mono (Q:=λo=>∃a:List Int,a.length<64/\o=.nx [some (.ref k),some (.int m),none,none] (S.set j (kz a))) (DS (λH n I=>∃a:List Int,a.length=H/\a.length<64/\n= [some (.ref k),some (.int m),none,none]/\I=S.set j (kz a)) (λH n I ⟨a,P,e,v,w⟩=>?_) 64 q.length _ _ F #[q,L,F,L,?_]) λo ⟨a,e,N⟩=>?_)
 ·subst v w
  refine tU ?_
  symm
  refine fB (f _) eh ?_
  refine bB (g _) #[#[L,g _],?_]
  cases a with
  |nil=>exact#[[],e,L]
  | cons z a=>
    refine aC (λ_=>?_) (λz=>by cases z)
    symm
    refine fB (f _) eh ?_
    symm
    refine fB (g _) eh ?_
    symm
    refine nY ?_
    symm
    refine aC (λ_=>?_) (λ_=>#[_,e,L])
    symm
    refine uB ?_
    symm
    refine fB (f _) eh ?_
    refine#[j,_,L,g _,?_]
    symm
    refine#[_,g _,dJ (d:=(a.map D.int,D.int z)) (Ma (x:=.int z) (xs:=a.map D.int) (by rw[lQm];erw[Qnq] at e;omega)) ?_]
    symm
    exact#[_,P.symm,a,L,Nat.lt_of_succ_lt e,L,by rw[List.set_set];rfl]
 ·exact(pZ B).symm
 subst N
 symm
 refine fB (f _) eh ?_
 refine bB (g _) #[#[L,g _],?_]
 refine aC (λs=>?_) (λ_=>?_)
 ·cases a with
  |nil=>cases s
  | cons z a=>
    symm
    refine fB (f _) eh ?_
    symm
    refine fB (g _) eh ?_
    symm
    refine nZ l ?_
    symm
    refine fB (f _) eh ?_
    symm
    refine fB (g _) eh ?_
    symm
    refine w_ #[l,by omega] ?_
    symm
    refine fB (f _) eh ?_
    symm
    refine#[j,0,_,0,L,L,g _,by rw[QDq,Qnq];exact N1,?_]
    symm
    rw[show((S.set j (kz (z::a))).set j (.lst (((z::a).map D.int).set 0 (.int (z/m)))))=(S.set j (kz (z/m::a))).set k (qN j b c) by rw[List.set_set,pZ (f _)];rfl]
    refine gY (nh (p _ _) (wY _ _)) (C _ _) (λ_ z=>by cases z) L ?_
    exact h _ _ _ (Int.emod_nonneg _ (!0)) (Int.emod_lt_of_pos _ l) K (!0) e
 ·have r:∀o:O,((S.set j (kz a)).set k o)[k]?=some o:=λo=>fM (f a)
  symm
  refine fB (f _) L ?_
  symm
  refine#[k,2,_,2,L,L,f _,L,?_]
  symm
  refine fB (r _) L ?_
  symm
  refine fB (r _) L ?_
  refine qy (.inl #[by decide,by decide]) ?_
  symm
  refine fB (r _) L ?_
  refine qy (.inr #[by omega,by omega]) ?_
  symm
  refine qy (.inr #[by decide,by decide]) ?_
  symm
  refine nZ (!1) ?_
  generalize i:(_:Int)%2305843009213693921=mx
  have W:0<=mx:=by rw[<-i];exact Int.emod_nonneg _ (!1)
  have R:mx<2305843009213693921:=by rw[<-i];exact Int.emod_lt_of_pos _ (!1)
  symm
  refine nZ (!1) ?_
  symm
  refine fB (r _) L ?_
  refine qy (.inl #[by decide,by decide]) ?_
  symm
  refine qy (.inl #[by omega,by omega]) ?_
  symm
  refine nZ (!1) ?_
  symm
  refine w_ #[by decide,by decide] ?_
  symm
  refine w_ #[by decide,by decide] ?_
  symm
  refine nZ l ?_
  symm
  refine gY (nh (p _ _) (wY _ _)) (C _ _) (λ_ z=>by cases z) L ?_
  exact h _ _ _ (Int.emod_nonneg _ (!0)) (Int.emod_lt_of_pos _ l) (!0) (!0) e
end W28
namespace DL
open PySem PySem.Spec L2
mutual
theorem kK{m:Nat}:∀{d:D},cy 0 d=true->cy m d=true
 |.non,_=>rfl
 |.bl _,_=>rfl
 |.int _,_=>rfl
 |.str _,_=>rfl
 |.tup ds,h=>by erw[cy] at h|-;exact jD h
 |.ref k,h=>by simp[cy] at h
 |.fn _,_=>rfl
 |.mt _,_=>rfl
theorem jD{m:Nat}:∀{ds:List D},bz 0 ds=true->bz m ds=true
 | [],_=>rfl
 | d::ds,h=>by
   erw[bz,QCq] at h|-
   exact#[kK h.1,jD h.2]
end
theorem oU{m:Nat}:∀{ds:List D},(∀d∈ds,cy m d=true)->bz m ds=true
 | [],_=>rfl
 | d::ds,h=>by
   erw[bz,QCq]
   exact#[h d (QBq ..),oU λe a=>h e (Qpq _ a)]
def cC{α:Type}{m:Nat}{f:α->D}{l:List α}(h:∀a∈l,cy m (f a)=true):bz m (l.map f)=true:=oU λd b=>by
 let#[a,c,rfl]:=Qkq.mp b
 exact h a c
def no_ref{d:D}(h:cy 0 d=true):∀k,d≠.ref k:=λk e=>by subst e;simp[cy] at h
end DL
namespace W28
open PySem PySem.Spec L2 DL
structure Ex(k j n:Nat)(S S':aH):Prop where
 len:S.length<=S'.length
 jk:j<k
 keep:∀(i:Nat) (o:O),i≠k->i≠j->S[i]?=some o->S'[i]?=some o
 pot:∃cs b c,S'[k]?=some (qN j b c)/\S'[j]?=some (kz cs)/\cs.length<64/\0<=c/\c<=n
section
variable{k j n m:Nat}{S S0 S1 S':aH}
def Ex.at(x:Ex k j n S S'){i:Nat}{o:O}(hi:k<i)(h:S[i]?=some o):S'[i]?=some o:=x.keep i o (!0) (by have:=x.jk;omega) h
def Ex.here(x:Ex k j n S0 S):Ex k j n S S:=#[Qmq _,x.jk,λ_ _ _ _ h=>h,x.pot]
def Ex.mono(x:Ex k j n S S')(h:n<=m):Ex k j m S S':=#[x.len,x.jk,x.keep,by let#[e,b,c,f,a,g,d,i]:=x.pot;exact#[e,b,c,f,a,g,d,by omega]]
def Ex.trans(x:Ex k j n S S1)(y:Ex k j m S1 S'):Ex k j m S S':=#[QAq x.len y.len,x.jk,λi o a b h=>y.keep i o a b (x.keep i o a b h),y.pot]
def Ex.lt(x:Ex k j n S S'):k<S'.length:=by
 let#[_,_,_,h,_]:=x.pot
 exact(gQs.mp h).1
def Ex.set{a:List Int}{b c:Int}(x:Ex k j n S S')(h:a.length<64)(g:0<=c)(f:c<=m):Ex k j m S ((S'.set j (kz a)).set k (qN j b c)):=by
 have:=x.jk
 have:=x.lt
 refine#[by simpa using x.len,x.jk,λi o d e h=>?_,a,b,c,?_,?_,h,g,f]
 ·rw[QKq (Ne.symm d),QKq (Ne.symm e)]
  exact x.keep i o d e h
 ·rw[Qyq (by simpa using x.lt)]
 ·rw[QKq (!0),Qyq (!0)]
def aJ{G:aH}{i:Nat}{o:O}(h:S[i]?=some o):(S++G)[i]?=some o:=by
 rw[QHq (gQs.mp h).1]
 exact h
def aV{o:O}:(S++ [o])[S.length]?=some o:=by simp
def Ex.app{G:aH}(x:Ex k j n S S'):Ex k j n S (S'++G):=by
 let#[f,b,c,g,a,p,d,l]:=x.pot
 exact#[by rw[lQa];have:=x.len;omega,x.jk,λi o e q h=>aJ (x.keep i o e q h),f,b,c,aJ g,aJ a,p,d,l]
def Ex.put{r:Nat}{o:O}(x:Ex k j n S S')(u:S.length<=r)(t:k<S.length):Ex k j n S (S'.set r o):=by
 let#[e,b,c,f,a,l,d,g]:=x.pot
 have:=x.jk
 refine#[by simpa using x.len,x.jk,λi p q s h=>?_,e,b,c,dA (!0) f,dA (!0) a,l,d,g]
 let v:=(gQs.mp h).1
 exact dA (!0) (x.keep i p q s h)
def Ex.clean(x:Ex k j n S S')(p:k<S.length):kB S S'/\∃g,∃b c:Int,g.length<64/\0<=c/\c<=n/\S'.take S.length=(S.set j (kz g)).set k (qN j b c):=by
 let#[g,b,c,l,h,s,q,r]:=x.pot
 let t:=x.jk
 refine#[#[x.len,λi o a e=>?_],g,b,c,s,q,r,?_]
 ·by_cases d:i=k
  ·subst d;rw[l] at e;cases e
   refine .inr ?_
   show bz S.length [D.ref j,.int b,.int c]=true
   erw[bz,cy,Bool.and_true,decide_eq_true_eq]
   omega
  ·by_cases f:i=j
   ·subst f;rw[h] at e;cases e;exact .inr (wY _ _)
   ·rw[x.keep i _ d f (gQe a)] at e
    rw[gQe a]
    exact .inl e
 ·apply List.ext_getElem?
  intro i
  by_cases a:i<S.length
  ·rw[List.getElem?_take_of_lt a]
   by_cases d:i=k
   ·subst d;rw[l,Qyq (by simpa using p)]
   ·rw[QKq (Ne.symm d)]
    by_cases f:i=j
    ·subst f;rw[h,Qyq a]
    ·rw[QKq (Ne.symm f),x.keep i _ d f (gQe a),gQe a]
  ·rw[List.getElem?_eq_none (by rw[Qxq];omega),List.getElem?_eq_none (by simp;omega)]
def kD{d:D}{Q:Res->aH->Prop}(e:Ex k j n S S')(x:Ex k j m S0 S)(f:cy 0 d=true)(q:∀a,Ex k j n S0 a->Ex k j n S a->a.length=S.length->Q (.d d) a):Op (settle S d S') λp=>Q p.1 p.2:=by
 let#[o,r,b,c,h,i,g,l]:=e.clean x.lt
 exact gY o l (no_ref f) (kK f) (q _ (x.set h i g) (x.here.set h i g) (by simp))
def LW{ds:List D}{Q:Res->aH->Prop}(e:Ex k j n S S')(x:Ex k j m S0 S)(i:∀d∈ds,cy 0 d=true)(q:∀a,Ex k j n S0 a->Ex k j n S a->a.length=S.length->Q (.l ds) a):Op (gR S ds S') λp=>Q p.1 p.2:=by
 let#[r,s,b,c,h,g,f,o]:=e.clean x.lt
 exact tN r o (jD (oU i)) (q _ (x.set h g f) (x.here.set h g f) (by simp))
def KO{r:Nat}{ds:List D}{Q:Res->aH->Prop}(e:Ex k j n S S')(x:Ex k j m S0 S)(v:S.length<=r)(s:S'[r]?=some (.lst ds))(o:∀d∈ds,cy 0 d=true)(q:∀a,Ex k j n S0 a->Ex k j n S a->a.length=S.length->Q (.l ds) a):Op (settle S (.ref r) S') λp=>Q p.1 p.2:=by
 let#[t,u,b,c,h,f,g,i]:=e.clean x.lt
 refine#[(.l ds,S'.take S.length),?_,?_]
 ·unfold DL.settle
  rw[Qhq t]
  erw[s]
  rw[Quq (!0),Qhq (jD (oU o))]
 ·rw[i]
  exact q _ (x.set h f g) (x.here.set h f g) (by simp)
def cG{m:Int}{Q:Res->aH->Prop}(x:Ex k j n S0 S)(y:n<1000000000)(p:0<m)(r:m<1000000)
  (h:∀(d:Nat) (S':aH),(d:Int)<m->Ex k j (n+1) S0 S'->Ex k j (n+1) S S'->S'.length=S.length->Q (.d (.int d)) S'):Fn aW [.ref k,.int m] S Q:=by
 let#[v,b,c,l,f,s,g,w]:=x.pot
 refine BO l f (by have:=x.jk;omega) s g (!0) p r λd t q u o a z e=>?_
 obtain⟨i,rfl⟩:∃i:Nat,d=i:=#[d.toNat,by omega]
 exact h i _ o (x.set e a (!0)) (x.here.set e a (!0)) (by simp)
def fZ{α:Type}{xs:List α}{i:Nat}{x:α}(h:xs[i]?=some x):oW xs (i:Int)=some x:=by
 let a:=(gQs.mp h).1
 unfold oW Ce
 rw[Qhq (!0),Qhq (!0)]
 simpa using h
def vc{i:Nat}{xs:List D}{Q:Res->aH->Prop}(x:Ex k j n S0 S)(r:n<1000000000)(hi:k<i)(l:S[i]?=some (.lst xs))(s:0<xs.length)(t:xs.length<1000)(q:∀d∈xs,cy 0 d=true)
  (h:∀(d:D) (S':aH),d∈xs->Ex k j (n+1) S0 S'->Ex k j (n+1) S S'->S'.length=S.length->Q (.d d) S'):Fn bA [.ref k,.ref i] S Q:=by
 refine cA ?_
 unfold yV
 symm
 apply bB l ?_
 refine cG x.here r (by show(0:Int)<xs.length;omega) (by show(xs.length:Int)<1000000;omega) λd S' o g u p=>?_
 dsimp only
 have e:d<xs.length:=by have:(d:Int)<(xs.length:Int):=o;omega
 refine fB (g.at hi l) (fZ (gQe e)) ?_
 let f:=List.getElem_mem e
 exact kD g x (q _ f) λv a b c=>h _ _ f a b c
end
end W28
namespace DL
open PySem PySem.Spec L2
theorem uV:∀ss:List Str,nS (ss.map D.str)=some ss
 | []=>rfl
 |s::ss=>by erw[QDq,nS];rw[uV ss];rfl
def ID{b:cI}{S:aH}{f:eF}{Q:List D->aH->Prop}(h:E f b S λp a=>p.2.isL=true/\∃ss:List Str,p.1=ss.map D.str/\ss.length<64/\Q ((gG ss).map D.str) a):E (AM f) b S Q:=by
 let#[p,a,c,l,ss,e,d,q]:=h
 exact#[_,a,by unfold AM;rw[c];erw[Qbq];rw[Qhq l,e,uV];erw[Qbq];rw[Qhq d],q]
def mz{ds:List D}{y:D}{Q:List D×D->Prop}(h:ds.length<sizeLine)(q:Q (ds++ [y],.non)):Op (mF ds [y]) Q:=#[_,by erw[mF];rw[Qhq h],q]
theorem jl{α β:Type}(g:α->β):∀(l:List α) (k:Nat),(l.map g).eraseIdx k=(l.eraseIdx k).map g
 | [],_=>rfl
 |_::_,0=>rfl
 |x::l,k+1=>congrArg (g x::·) (jl g l k)
def C3{α:Type}{b a c:List α}{j:Nat}(d:j<a.length)(h:(b++a).Perm c):((b++ [a[j]])++a.eraseIdx j).Perm c:=by
 refine List.Perm.trans ?_ h
 rw[Qvq]
 refine List.Perm.append_left b ?_
 show(a[j]::a.eraseIdx j).Perm a
 rw[List.eraseIdx_eq_take_drop_succ]
 have e:a=a.take j++a[j]::a.drop (j+1):=by rw[<-QWq d,List.take_append_drop]
 refine List.Perm.trans ?_ (List.Perm.of_eq e.symm)
 exact List.perm_middle.symm
def KD{n j:Nat}(h:j<n)(a:n<1000):seqIndex? (j:Int) n=some j:=(rQ (by unfold Ce;rw[Qhq (!0),Qhq (!0)];simp)).1
def tO{m:Int}{i:Nat}{d:D}(h:(lQ 0 m)[i]?=some d):(i:Int)<m/\d=.int i:=by
 let b:=(gQs.mp h).1
 erw[lQ,lQm,QVq] at b
 erw[lQ,gQm] at h
 let#[j,a,rfl]:=oQm.mp h
 have:=(gQs.mp a).2
 simp at this
 subst this
 exact#[by omega,by simp]
def rL{m:Int}(h:0<=m):((lQ 0 m).length:Int)=m:=by
 erw[lQ,lQm,QVq]
 omega
def Me{S:aH}{z:Str}{i:Int}{c:Nat}{Q:D->Prop}(a:z.length<=sizeLine)(h:oW z.cps.toList i=some c)(q:Q (.str #[(List.toArray [c])])):Op (eg S (.str z) (.int i)) Q:=#[_,by erw[eg];rw[Qhq a,h];rfl,q]
def EN{c:cI}{S:aH}{i j:Nat}{f:fF}{Q:Out->Prop}(h:E f c S λds d=>∃a b,ds= [a,b]/\Q (.nx ((c.set i (some a)).set j (some b)) d)):T (Cd i j f) c S Q:=by
 let#[ds,d,e,a,b,rfl,q]:=h
 exact#[_,by unfold Cd;rw[e];rfl,q]
def Fy{b:cI}{S:aH}{f:eF}{Q:List D->aH->Prop}(h:E f b S λp a=>Q p.1 a):E (Ey f) b S Q:=by
 let#[p,a,c,q]:=h
 exact#[_,a,by unfold Ey;rw[c];rfl,q]
def Hq{i j:Int}{Q:D->Prop}(q:Q (.int (if j<i then j else i))):Op (minD [.int i,.int j]) Q:=#[_,L,q]
end DL
namespace W28
open PySem PySem.Spec L2 DL
def lets:Str:="abcdefghijklmnopqrstuvwxyz"
def let1(i:Nat):Str:=#[(List.toArray [lets.cps.toList.getD i 0])]
def Jr:List Str:= ["","zq","x","qqzzx","zqzqzqz"]
def nm(i j:Nat):Str:=let1 i++Jr.getD j ""
def i9(x:Str):Prop:=∃i j,i<26/\j<5/\x=nm i j
def Fi(f s a:Nat):List Str:=(List.range a).map λk=>nm ((f+s*k)%26) ((f+k*k)%5)
def tx:∀i,i<26->∀j,j<5->PyData.strOk (nm i j)=true/\(nm i j).length<=8/\(let1 i).length+(Jr.getD j "").length<=8:=by decide +kernel
def i9.ok{x:Str}(h:i9 x):PyData.strOk x=true:=by let#[i,j,b,a,rfl]:=h;exact(tx i b j a).1
def i9.len{x:Str}(h:i9 x):x.length<=8:=by let#[i,j,b,a,rfl]:=h;exact(tx i b j a).2.1
def HQ{f s m:Nat}:∀x∈Fi f s m,i9 x:=λx a=>by
 let#[k,_,rfl]:=Qkq.mp a
 exact⟨_,_,Nat.mod_lt _ (!1),Nat.mod_lt _ (!1),L⟩
def Jo:∀i:Nat,i<26->oW lets.cps.toList (i:Int)=some (lets.cps.toList.getD i 0):=by decide +kernel
def J5(j:Nat)(a:j<5):oW (([.str "",.str "zq",.str "x",.str "qqzzx",.str "zqzqzqz"]:List D)) (j:Int)=some (.str (Jr.getD j "")):=by
 rcases j with _|_|_|_|_|j
 ·rfl
 ·rfl
 ·rfl
 ·rfl
 ·rfl
 ·omega
section
variable{k j n:Nat}{S S0:aH}{Q:Res->aH->Prop}
def DG{e:Nat}(x:Ex k j n S0 S)(W:n<999999990)(X:e<=26)
  (h:∀(f s:Nat) (S':aH),f<26->s∈([1,3,5,7,9,11]:List Nat)->Ex k j (n+2) S0 S'->Ex k j (n+2) S S'->S'.length=S.length->Q (.l ((Fi f s e).map D.str)) S'):Fn iP [.ref k,.int e] S Q:=by
 let N:=x.lt
 refine cA ?_
 unfold qH
 symm
 apply EN ?_
 apply cG x.here (!0) (!1) (!1) λf Z P F _ Y=>?_
 apply⟨by decide,?_⟩
 refine vc (F.app (G:= [O.lst [.int 1,.int 3,.int 5,.int 7,.int 9,.int 11]])) (!0) (by have:=F.lt;omega) aV (!1) (!1) (!1) λd g p B I l2=>?_
 obtain⟨s,C,rfl⟩:∃s:Nat,s∈([1,3,5,7,9,11]:List Nat)/\d=.int s:=by
  erw[Qsq,QXq,or_false] at p
  rcases p with rfl|rfl|rfl|rfl|rfl|rfl
  ·exact#[1,by decide,L]
  ·exact#[3,by decide,L]
  ·exact#[5,by decide,L]
  ·exact#[7,by decide,L]
  ·exact#[9,by decide,L]
  ·exact#[11,by decide,L]
 have y:s<12:=by
  erw[Qsq,QXq,or_false] at C
  omega
 dsimp only
 symm
 apply#[_,_,L,?_]
 apply#[by decide,?_]
 apply#[by decide,?_]
 have v:S.length<=g.length:=B.len
 have H:Ex k j (n+2) S ((g++ [O.lst [.str "",.str "zq",.str "x",.str "qqzzx",.str "zqzqzqz"]])++ [O.lst []]):=B.app.app
 have t:((g++ [O.lst [.str "",.str "zq",.str "x",.str "qqzzx",.str "zqzqzqz"]])++ [O.lst []])[g.length]?=some (O.lst [.str "",.str "zq",.str "x",.str "qqzzx",.str "zqzqzqz"]):=aJ aV
 have w:((g++ [O.lst [.str "",.str "zq",.str "x",.str "qqzzx",.str "zqzqzqz"]])++ [O.lst []])[g.length+1]?=some (.lst []):=by
  have:=aV (S:=g++ [O.lst [.str "",.str "zq",.str "x",.str "qqzzx",.str "zqzqzqz"]]) (o:=O.lst [])
  simpa using this
 rw[show(g++ [O.lst [.str "",.str "zq",.str "x",.str "qqzzx",.str "zqzqzqz"]]).length=g.length+1 by simp]
 generalize ((g++ [O.lst [.str "",.str "zq",.str "x",.str "qqzzx",.str "zqzqzqz"]])++ [O.lst []])=S3 at H t w|-
 generalize R:g.length=r at t w v|-
 apply hV ?_
 refine#[_,L,#[by omega,by omega],?_]
 refine#[λi m S'=>∃o u:Option D,m= [some (.ref k),some (.int e),some (.str "abcdefghijklmnopqrstuvwxyz"),some (.int f),some (.int s),some (.ref r),some (.ref (r+1)),o,u]/\Ex k j (n+2) S S'/\S'[r]?=some (O.lst [.str "",.str "zq",.str "x",.str "qqzzx",.str "zqzqzqz"])/\S'[r+1]?=some (.lst ((Fi f s i).map D.str)),#[none,none,L,H,t,w],λ_ _ _ _=>trivial,?_,?_]
 ·rintro i d m S' p ⟨o,u,rfl,e4,g3,g4⟩
  let#[U,rfl]:=tO p
  apply bu ?_
  apply qy (.inl #[by omega,by omega]) ?_
  refine nZ (!1) ?_
  have K:((f:Int)+(s:Int)*(i:Int))%26=(((f+s*i)%26:Nat):Int):=by push_cast;rfl
  rw[K]
  have q:(f+s*i)%26<26:=Nat.mod_lt _ (!1)
  apply Me (!1) (Jo _ q) ?_
  apply uB ?_
  apply#[_,_,L,g4,?_]
  apply qy (.inl #[by omega,by omega]) ?_
  refine nZ (!1) ?_
  have M:((f:Int)+(i:Int)*(i:Int))%5=(((f+i*i)%5:Nat):Int):=by push_cast;rfl
  rw[M]
  have A:(f+i*i)%5<5:=Nat.mod_lt _ (!1)
  refine fB g3 (J5 _ A) ?_
  apply HP (QAq (tx _ q _ A).2.2 (!1)) ?_
  refine#[_,g4,mz (by erw[Fi,lQm,QVq];exact Qqq (show i<26 by omega) (!1)) ?_]
  refine#[_,_,L,e4.put (!0) N,dA (!0) g3,?_]
  rw[fM g4]
  erw[Fi,List.range_succ,Qzq,QDq,List.map_nil]
  rfl
 ·rintro m S' ⟨o,u,rfl,e4,g3,g4⟩
  have J:(lQ 0 (e:Int)).length=e:=by erw[lQ,lQm,QVq];omega
  rw[J] at g4
  symm
  refine KO e4 x (!0) g4 (λd p=>by let#[z,_,rfl]:=Qkq.mp p;rfl) λg a b c=>?_
  exact h _ _ _ (!0) C a b c
def jO{i:Nat}{ws:X6}{e:Int}(x:Ex k j n S0 S)(Y:n<999999000)(hi:k<i)(R:S[i]?=some (.lst (ws.map D.str)))(X:ws.length<60)(Z:0<=e)(K:e<1000)
  (h:∀(ss:X6) (S':aH),(∃l,(ss++l).Perm ws)->((ss.length:Int)<=e/\(0<e->0<ws.length->0<ss.length))->ss.Pairwise t6->Ex k j (n+ws.length) S0 S'->Ex k j (n+ws.length) S S'->S'.length=S.length->Q (.l (ss.map D.str)) S'):Fn cq [.ref k,.ref i,.int e] S Q:=by
 let H:=x.lt
 refine cA ?_
 unfold sM
 symm
 apply Fy ?_
 apply bB R ?_
 apply ID ?_
 apply pJ ?_
 apply bB aV ?_
 refine Hq ?_
 erw[lQm]
 refine#[_,L,#[by split <;>omega,by split <;>omega],λt s w r=>∃(p f:X6),(∃o,s= [o,some (.ref k),some (.ref S.length)])/\Ex k j (n+t) S w/\w[S.length]?=some (.lst (f.map D.str))/\r=p.map D.str/\p.length=t/\(p++f).Perm ws,?_,λ_ _ _ _ _=>trivial,?_,?_]
 ·exact#[[],ws,#[none,L],x.here.app,aV,L,L,List.Perm.refl _]
 ·rintro t d s w r A ⟨p,f,⟨o,rfl⟩,B,y,rfl,hn2,hp⟩
  let#[I,rfl]:=tO A
  let g:=hp.length_eq
  erw[lQa] at g
  have N:t<ws.length:=by split at I <;>omega
  have J:0<f.length:=by omega
  symm
  rw[Qhq L]
  apply uB ?_
  apply#[_,_,L,y,?_]
  apply bB y ?_
  refine cG B (!0) (by erw[lQm];omega) (by erw[lQm];omega) λv S3 hv P C M=>?_
  dsimp only
  symm
  have q:v<f.length:=by simpa using hv
  let m:=C.at H y
  refine#[_,m,?_]
  refine dJ (d:=((f.map D.str).eraseIdx v,D.str f[v])) ?_ ?_
  ·erw[kI]
   rw[Qhq #[by omega,by omega],lQm,KD q (!0)]
   simp[gQe q]
  ·refine#[?_,p++ [f[v]],f.eraseIdx v,#[_,L],P.put (Qmq _) H,?_,by simp,by simp[hn2],C3 q hp]
   ·erw[lQm]
    exact Nat.lt_of_le_of_lt (show p.length<=60 by omega) (!1)
   ·rw[fM m,jl]
 ·rintro s w r ⟨p,f,_,B,y,rfl,hn2,hp⟩
  let g:=hp.length_eq
  erw[lQa] at g
  refine#[L,p,L,by omega,?_]
  let F:=gq p
  refine LW (B.mono (show _<=n+ws.length by omega)) x (λd A=>by let#[z,_,rfl]:=Qkq.mp A;rfl) λS4 a b c=>?_
  refine h _ _ #[f,(QJq f F).trans hp] ?_ (i8 _) a b c
  have u:(((gG p).length:Nat):Int)=(lQ 0 (if (ws.length:Int)<e then(ws.length:Int) else e)).length:=by rw[F.length_eq,hn2]
  rw[u,rL (by split <;>omega)]
  refine#[by split <;>omega,λW U=>?_]
  let m:=u
  rw[rL (by split <;>omega)] at m
  split at m <;>omega
def lP{i:Nat}{ws:X6}(x:Ex k j n S0 S)(H:n<999999000)(hi:k<i)(u:S[i]?=some (.lst (ws.map D.str)))(F:ws.length<60)
  (h:∀(vs:List (Str×Nat)) (S':aH),vs.map (·.1)=ws->(∀v∈vs,v.2<10)->Ex k j (n+ws.length) S0 S'->Ex k j (n+ws.length) S S'->S'.length=S.length->Q (.d (.tup (vs.map λv=>.tup [.str v.1,.int v.2]))) S'):Fn dh [.ref k,.ref i] S Q:=by
 let K:=x.lt
 refine cA ?_
 unfold nI
 symm
 apply pJ ?_
 refine bB u ?_
 refine#[λt g q f=>∃(vs:List (Str×Nat)),(∃o,g= [o,some (.ref k)])/\Ex k j (n+t) S q/\f=vs.map (λv=>.tup [.str v.1,.int v.2])/\vs.map (·.1)=ws.take t/\∀v∈vs,v.2<10,?_,λt g q f ⟨_,_,e,_⟩=>e.at hi u,?_,?_]
 ·exact#[[],#[none,L],x.here,L,L,λ_ hv=>by cases hv]
 ·rintro t d g q f r ⟨vs,⟨o,rfl⟩,p,rfl,hv1,hv2⟩
  dsimp only at r
  rw[gQm] at r
  let#[w,m,rfl]:=oQm.mp r
  have C:t<ws.length:=(gQs.mp m).1
  symm
  rw[Qhq L]
  symm
  refine cG p (!0) (!1) (!1) λv I hv A B z=>?_
  dsimp only
  symm
  have s:vs.length=t:=by have:=congrArg List.length hv1;rw[lQm,Qxq] at this;omega
  refine#[show 2<=sizeLine by decide,?_,vs++ [(w,v)],#[_,L],A,by simp,?_,?_]
  ·rw[lQm,s]
   exact Qqq (show t<60 by omega) (!1)
  ·rw[Qzq,hv1,QYq,m]
   rfl
  ·intro y l
   rcases mQa.mp l with l|l
   ·exact hv2 y l
   ·rw[Qfq] at l;subst l;show v<10;omega
 ·rintro g q f ⟨vs,_,p,rfl,hv1,hv2⟩
  erw[lQm] at p hv1
  symm
  refine kD p x ?_ λJ a b c=>?_
  ·erw[cy]
   exact cC λ_ _=>rfl
  ·exact h vs _ (by rw[hv1,QEq]) hv2 a b c
end
inductive Tr where
 |wd (w:Str)|vl (v:Nat)|wt (b:Str)|nt (t:Tr)|tw (f:Str) (a b:Tr)
def Tr.d:Tr->D
 |.wd w=>.str w
 |.vl v=>.int v
 |.wt b=>.tup [.str "waits",.str b]
 |.nt t=>.tup [.str "not",t.d]
 |.tw f a b=>.tup [.str f,a.d,b.d]
def two:List Str:= ["plus","minus","less","same","both"]
def Tr.ok(ws bs:X6):Nat->Tr->Prop
 |n+1,.wd w=>w∈ws
 |n+1,.vl v=>v<10
 |n+1,.wt b=>b∈bs
 |n+1,.nt t=>t.ok ws bs n
 |n+1,.tw f a b=>f∈two/\a.ok ws bs n/\b.ok ws bs n
 |0,_=>False
theorem Tr.low:∀t:Tr,cy 0 t.d=true
 |.wd _=>rfl
 |.vl _=>rfl
 |.wt _=>rfl
 |.nt t=>by erw[Tr.d,cy,bz,Tr.low t];rfl
 |.tw f a b=>by erw[Tr.d,cy,bz,Tr.low a,Tr.low b];rfl
theorem Tr.ok.mono{ws bs:X6}:∀{n m:Nat} {t:Tr},t.ok ws bs n->n<=m->t.ok ws bs m
 |_+1,_+1,.wd _,h,_=>h
 |_+1,_+1,.vl _,h,_=>h
 |n+1,m+1,.wt _,h,_=>h
 |n+1,m+1,.nt t,h,l=>Tr.ok.mono (t:=t) h (Nat.le_of_succ_le_succ l)
 |n+1,m+1,.tw f a b,h,l=>#[h.1,h.2.1.mono (Nat.le_of_succ_le_succ l),h.2.2.mono (Nat.le_of_succ_le_succ l)]
def C2:Nat->Nat
 |0=>4
 |d+1=>2*C2 d+4
section
variable{k j n iw ib:Nat}{S S0:aH}{Q:Res->aH->Prop}{ws bs:X6}
def lq{l:X6}:∀d∈l.map D.str,cy 0 d=true:=λd a=>by
 let#[z,_,rfl]:=Qkq.mp a
 rfl
def fu(x:Ex k j n S0 S)(o:n<999999000)(hi:k<iw)(f:S[iw]?=some (.lst (ws.map D.str)))(i:ws≠[])(m:ws.length<60)
  (h:∀(w:Str) (S':aH),w∈ws->Ex k j (n+1) S0 S'->Ex k j (n+1) S S'->S'.length=S.length->Q (.d (.str w)) S'):Fn bA [.ref k,.ref iw] S Q:=by
 refine vc x (!0) hi f (by rw[lQm];exact List.length_pos_iff.mpr i) (by rw[lQm];omega) lq λd l a c g e=>?_
 let#[w,b,rfl]:=Qkq.mp a
 exact h w _ b c g e
def zR{l:X6}(h:(!(l.map D.str).isEmpty)=true):l≠[]:=λe=>by subst e;cases h
def F7(x:Ex k j n S0 S)(R:n<999998000)(hi:k<iw)(f:k<ib)(r:S[iw]?=some (.lst (ws.map D.str)))(s:S[ib]?=some (.lst (bs.map D.str)))(C:ws.length<60)(B:bs.length<60)
  (h:∀(t:Tr) (S':aH),t.ok ws bs 1->Ex k j (n+3) S0 S'->Ex k j (n+3) S S'->S'.length=S.length->Q (.d t.d) S'):Fn ic [.ref k,.ref iw,.ref ib] S Q:=by
 refine cA ?_
 unfold ua
 symm
 refine cG x.here (!0) (!1) (!1) λv y hv e _ W=>?_
 dsimp only
 refine aU (T.mono (Q:=λo=>(∃w∈ws,∃S',Ex k j (n+2) S S'/\o=.rt (.str w) S')\/o=.nx [some (.ref k),some (.ref iw),some (.ref ib),some (.int v)] y) ?_ λo q=>?_)
 ·symm
  refine aC (λc=>?_) (λc=>?_)
  ·symm
   refine bB (e.at hi r) ⟨⟨rfl,e.at hi r⟩,?_⟩
   refine aC (λc=>?_) (λc=>?_)
   ·symm
    refine fu e.here (!0) hi (e.at hi r) (zR c) C λw i l _ g A=>?_
    exact .inl ⟨w,l,i,e.trans g,L⟩
   ·symm
    exact .inr L
  ·rw[Quq (!1)]
   symm
   exact .inr L
 rcases q with⟨w,l,i,g,rfl⟩|rfl
 ·exact kD (g.mono (!0)) x L λF a b c=>h (.wd w) _ l a b c
 dsimp only
 refine aU (T.mono (Q:=λo=>(∃b∈bs,∃S',Ex k j (n+2) S S'/\o=.rt (.tup [.str "waits",.str b]) S')\/o=.nx [some (.ref k),some (.ref iw),some (.ref ib),some (.int v)] y) ?_ λo q=>?_)
 ·symm
  apply nY ?_
  refine aC (λc=>?_) (λc=>?_)
  ·symm
   refine bB (e.at f s) ⟨⟨rfl,e.at f s⟩,?_⟩
   refine aC (λc=>?_) (λc=>?_)
   ·symm
    apply fu e.here (!0) f (e.at f s) (zR c) B λw i l _ g A=>?_
    exact⟨show 2<=sizeLine by decide,.inl ⟨w,l,i,e.trans g,L⟩⟩
   ·symm
    exact .inr L
  ·rw[Quq (!1)]
   symm
   exact .inr L
 rcases q with⟨w,l,i,g,rfl⟩|rfl
 ·exact kD (g.mono (!0)) x L λF a b c=>h (.wt w) _ l a b c
 symm
 apply⟨by decide,?_⟩
 refine cG (e.here.app (G:= [O.lst [.int 3,.int 10]])) (!0) (!1) (!1) λu i P g p A=>?_
 dsimp only
 have H:Ex k j (n+2) S i:=e.trans g
 obtain⟨m,U,I⟩:∃m:Nat,(0<m/\m<=10)/\oW ([.int 3,.int 10]:List D) (u:Int)=some (.int m):=by
  rcases u with _|_|u
  ·exact⟨3,by decide,L⟩
  ·exact⟨10,by decide,L⟩
  ·omega
 refine fB (p.at (by have:=e.lt;omega) aV) I ?_
 symm
 refine cG H (!0) (!0) (!0) λz X M J _ N=>?_
 exact kD J x L λK a b c=>h (.vl z) _ (by show z<10;omega) a b c
theorem xt:∀(m d:Nat),1<=d->d<=m->m<6->∀(n:Nat) (S S0:aH) (Q:Res->aH->Prop),Ex k j n S0 S->n+C2 d<999990000->k<iw->k<ib->S[iw]?=some (.lst (ws.map D.str))->S[ib]?=some (.lst (bs.map D.str))->ws.length<60->bs.length<60->
  (∀(t:Tr) (S':aH),t.ok ws bs d->Ex k j (n+C2 d) S0 S'->Ex k j (n+C2 d) S S'->S'.length=S.length->Q (.d t.d) S')->Fn (hE m) [.ref k,.ref iw,.ref ib,.int d] S Q
 |0,d,A,z,_=>absurd z (!0)
 | m+1,d,hd1,hd2,hm=>λn S S0 Q x hn u i F I A z h=>by
   refine cA ?_
   unfold vw
   symm
   refine cG x.here (!0) (!1) (!1) λv H hv p _ l1=>?_
   obtain⟨g,rfl⟩:∃g,d=g+1:=⟨d-1,by omega⟩
   have hb:4<=C2 g:=by cases g <;>erw[C2] <;>omega
   have Z:C2 (g+1)=2*C2 g+4:=rfl
   have a0:C2 g<1000:=by
     rcases g with _|_|_|_|_|g
     · decide
     · decide
     · decide
     · decide
     · decide
     · omega
   dsimp only
   refine aU (T.mono (Q:=λo=>(∃t:Tr,t.ok ws bs 1/\∃S',Ex k j (n+4) S S'/\o=.rt t.d S')\/(1<=g/\o=.nx [some (.ref k),some (.ref iw),some (.ref ib),some (.int ((g+1:Nat):Int)),some (.int v),none] H)) ?_ λo J=>?_)
   · have s:T (da (aF ic (au (ax 0) (au (ax 1) (au (ax 2) az))))) [some (.ref k),some (.ref iw),some (.ref ib),some (.int ((g+1:Nat):Int)),some (.int v),none] H λo=>(∃t:Tr,t.ok ws bs 1/\∃S',Ex k j (n+4) S S'/\o=.rt t.d S')\/(1<=g/\o=.nx [some (.ref k),some (.ref iw),some (.ref ib),some (.int ((g+1:Nat):Int)),some (.int v),none] H):=by
       symm
       exact F7 p.here (!0) u i (p.at u F) (p.at i I) A z λt y q _ r R=>.inl ⟨t,q,y,p.trans r,L⟩
     symm
     apply aC (λc=>s) (λc=>?_)
     apply aC (λc=>s) (λc2=>?_)
     exact .inr ⟨by simp at c;omega,L⟩
   rcases J with⟨t,q,y,r,rfl⟩|⟨hd',rfl⟩
   · exact kD (r.mono (!0)) x t.low λS3 a b c=>h t _ (q.mono (!0)) a b c
   have M:((g+1:Nat):Int)-1=(g:Nat):=by omega
   dsimp only
   refine aU (T.mono (Q:=λo=>(∃t:Tr,t.ok ws bs g/\∃S',Ex k j (n+1+C2 g) S S'/\o=.rt (.tup [.str "not",t.d]) S')\/o=.nx [some (.ref k),some (.ref iw),some (.ref ib),some (.int ((g+1:Nat):Int)),some (.int v),none] H) ?_ λo J=>?_)
   · symm
     apply nY ?_
     refine aC (λc=>?_) (λc=>?_)
     · symm
       rw[M]
       apply xt m g hd' (!0) (!0) _ _ _ _ p.here (!0) u i (p.at u F) (p.at i I) A z λt y q _ r R=>?_
       exact⟨show 2<=sizeLine by decide,.inl ⟨t,q,y,p.trans r,L⟩⟩
     · symm
       exact .inr L
   rcases J with⟨t,q,y,r,rfl⟩|rfl
   · exact kD (r.mono (!0)) x (Tr.nt t).low λS3 a b c=>h (.nt t) _ q a b c
   symm
   apply⟨by decide,?_⟩
   refine vc (p.here.app (G:= [O.lst [.str "plus",.str "minus",.str "less",.str "same",.str "both"]])) (!0) (by have:=p.lt;omega) aV (!1) (!1) (lq (l:=two)) λf y X r U R=>?_
   obtain⟨f,N,rfl⟩:∃w∈two,f=D.str w:=by let#[w,Y,e]:=Qkq.mp (show f∈two.map D.str from X);exact#[w,Y,e.symm]
   have C:Ex k j (n+2) S y:=p.trans r
   symm
   rw[M]
   refine xt m g hd' (!0) (!0) _ _ _ _ C.here (!0) u i (C.at u F) (C.at i I) A z λt S4 q _ e4 l4=>?_
   have B:Ex k j (n+2+C2 g) S S4:=C.trans e4
   symm
   rw[M]
   apply xt m g hd' (!0) (!0) _ _ _ _ B.here (!0) u i (B.at u F) (B.at i I) A z λP S6 K _ W l6=>?_
   refine#[show 3<=sizeLine by decide,?_]
   exact kD ((B.trans W).mono (!0)) x (Tr.tw f t P).low λS7 a b c=>h (.tw f t P) _ #[N,q,K] a b c
end
end W28
namespace DL
open PySem PySem.Spec L2
def Nj{c:cI}{S:aH}{a:Bool}{f:bc}{g:eF}{Q:D->aH->Prop}(h:E f c S λx d=>E g c d λp b=>∃v vs,Ak x=some v/\vM p.1=some vs/\Q (.bl (if a then !G_ v vs else G_ v vs)) b):E (xv a f g) c S Q:=by
 let#[x,d,e,p,b,k,v,vs,j,i,q]:=h
 exact#[_,b,by unfold xv;rw[e];erw[Qbq];rw[k];erw[Qbq];rw[j,i];rfl,q]
def Gx{x:Str}{ss:X6}:G_ (.str x) (ss.map V.str)=decide (x∈ss):=by
 induction ss with
 |nil=>rfl
 | cons a ss b=>
   show(x9 (.str a) (.str x)||G_ (.str x) (ss.map V.str))=_
   rw[b]
   erw[x9,Qsq]
   by_cases c:a=x
   · subst c;simp
   · have d:¬x=a:=λz=>c z.symm
     simp[c,d]
def Cs(ss:X6):vM (ss.map D.str)=some (ss.map V.str):=by
 induction ss with
 |nil=>rfl
 |cons a ss b=>erw[QDq,vM,b];rfl
def kJ{d:cI}{S:aH}{a:Bool}{f:bc}{g:eF}{Q:D->aH->Prop}(h:E f d S λx c=>E g d c λp b=>∃(v:Str) (vs:X6),x=.str v/\p.1=vs.map D.str/\Q (.bl (if a then !decide (v∈vs) else decide (v∈vs))) b):E (xv a f g) d S Q:=by
 let#[x,c,e,p,b,i,v,vs,rfl,h2,q]:=h
 exact Nj #[_,c,e,p,b,i,.str v,vs.map V.str,L,by rw[h2,Cs],by rw[Gx];exact q]
def ju{b:cI}{S:aH}{f g:eF}{Q:List D->aH->Prop}(h:E f b S λp c=>E g b c λr a=>(p.2.isM=true/\r.2.isM=true/\p.2.stays a p.1/\p.1.length+r.1.length<=sizeLine)/\Q (p.1++r.1) a):E (lR f g) b S Q:=by
 let#[p,c,d,r,a,e,l,q]:=h
 exact#[_,a,by unfold lR;rw[d];erw[Qbq];rw[e];erw[Qbq];rw[Qhq l],q]
end DL
namespace W28
open PySem PySem.Spec L2 DL
structure Sc where
 ws:List Str
 gs:List Str
 bs:List Str
 ds:List (Str×Str)
 ks:List Str
 ps:List Str
inductive Rw where
 |un (t:Tr) (n:Nat)|go (n:Nat)|te (k:Str) (t:Tr)|pu (w:Str) (t:Tr)|dd (w:Option Str) (r d:Str) (t:Tr)|wa (b:Str) (t:Tr)|on (k b:Str)|pa (p q:Str)
def Ep:Option Str->D
 |none=>.non
 |some w=>.str w
def Rw.d:Rw->D
 |.un t n=>.tup [.str "unless",t.d,.int n]
 |.go n=>.tup [.str "go",.int n]
 |.te k t=>.tup [.str k,t.d]
 |.pu w t=>.tup [.str "put",.str w,t.d]
 |.dd w r d t=>.tup [.str "do",Ep w,.str r,.str d,t.d]
 |.wa b t=>.tup [.str "wait",.str b,t.d]
 |.on k b=>.tup [.str k,.str b]
 |.pa p q=>.tup [.str "pass",.str p,.str q]
def Rw.ok(c:Sc)(m:Nat):Rw->Prop
 |.un t n=>t.ok c.ws c.bs 5/\n<=m
 |.go n=>n<=m
 |.te k t=>k∈c.ks/\(k="tell" \/k="say")/\t.ok c.ws c.bs 5
 |.pu w t=>("put":Str)∈c.ks/\w∈c.gs/\t.ok c.ws c.bs 5
 |.dd w r d t=>("do":Str)∈c.ks/\(∀x,w=some x->x∈c.gs)/\(r,d)∈c.ds/\t.ok c.ws c.bs 5
 |.wa b t=>("wait":Str)∈c.ks/\b∈c.bs/\t.ok c.ws c.bs 5
 |.on k b=>k∈c.ks/\((k="call" \/k="all")/\b∈c.bs\/(k="take" \/k="give")/\b∈c.ps)
 |.pa p q=>("pass":Str)∈c.ks/\p∈c.ps/\q∈c.ps
theorem Rw.low:∀r:Rw,cy 0 r.d=true
 |.un t n=>by erw[Rw.d,cy,bz,t.low];rfl
 |.go n=>rfl
 |.te k t=>by erw[Rw.d,cy,bz,t.low];rfl
 |.pu w t=>by erw[Rw.d,cy,bz,t.low];rfl
 |.dd w r d t=>by cases w <;>erw[Rw.d,Ep,cy,bz,t.low] <;>rfl
 |.wa b t=>by erw[Rw.d,cy,bz,t.low];rfl
 |.on k b=>rfl
 |.pa p q=>rfl
structure At(S:aH)(c iw ig ib id ik:Nat)(ip:Option Nat)(s:Sc):Prop where
 dct:∃l,S[c]?=some (.dct l)/\eA l (.inr "words")=some (.ref iw)/\eA l (.inr "goals")=some (.ref ig)/\eA l (.inr "bells")=some (.ref ib)/\eA l (.inr "does")=some (.ref id)/\eA l (.inr "kinds")=some (.ref ik)/\∀i,ip=some i->eA l (.inr "passes")=some (.ref i)
 w:S[iw]?=some (.lst (s.ws.map D.str))
 g:S[ig]?=some (.lst (s.gs.map D.str))
 b:S[ib]?=some (.lst (s.bs.map D.str))
 d:S[id]?=some (.lst (s.ds.map λp=>.tup [.str p.1,.str p.2]))
 k:S[ik]?=some (.lst (s.ks.map D.str))
 p:∀i,ip=some i->S[i]?=some (.lst (s.ps.map D.str))
def wX:List Str:= ["tell","say","put","do","wait","call","all","take","give","pass"]
structure Sc.fit(s:Sc)(ip:Option Nat):Prop where
 l:s.ws.length<60/\s.gs.length<50/\s.bs.length<60/\s.ds.length<60/\s.ks.length<20/\s.ps.length<60
 k:∀k∈s.ks,k∈wX
 put:("put":Str)∈s.ks->s.gs≠[]
 dod:("do":Str)∈s.ks->s.ds≠[]
 bel:∀k:Str,k="wait" \/k="call" \/k="all" ->k∈s.ks->s.bs≠[]
 pas:∀k:Str,k="take" \/k="give" \/k="pass" ->k∈s.ks->s.ps≠[]/\ip.isSome=true
def At.ex{k j n:Nat}{S S':aH}{c e f o id m:Nat}{q:Option Nat}{s:Sc}(a:At S c e f o id m q s)(x:Ex k j n S S')(C:k<c)(y:k<e)(u:k<f)(A:k<o)(v:k<id)(z:k<m)(B:∀i,q=some i->k<i):At S' c e f o id m q s:=
 #[by let#[l,h,r]:=a.dct;exact#[l,x.at C h,r],x.at y a.w,x.at u a.g,x.at A a.b,x.at v a.d,x.at z a.k,λi t=>x.at (B i t) (a.p i t)]
section
variable{k j n:Nat}{S S0:aH}{Q:Res->aH->Prop}{c iw ig ib id ik:Nat}{ip:Option Nat}{s:Sc}
def HV:∀d,d<=5->C2 d<=252:=by decide
def JA{m:Nat}(x:Ex k j n S0 S)(hn:n<999900000)(a:At S c iw ig ib id ik ip s)(f:s.fit ip)(hc:k<c)(h1:k<iw)(h2:k<ig)(h3:k<ib)(h4:k<id)(h5:k<ik)(Z:∀i,ip=some i->k<i)(hm:m<=40)
  (h:∀(r:Rw) (S':aH),r.ok s m->Ex k j (n+300) S0 S'->Ex k j (n+300) S S'->S'.length=S.length->Q (.d r.d) S'):Fn lL [.ref k,.ref c,.int m] S Q:=by
 let kl:=x.lt
 refine cA ?_
 unfold vH
 symm
 apply ju ?_
 apply#[by decide,?_]
 let#[l,N,d2,d3,d4,d5,d6,d7]:=a.dct
 apply iH ?_
 refine#[c,l,_,_,L,L,N,d6,?_]
 refine bB a.k #[#[L,L,trivial,?_],?_]
 ·erw[Qnq,QGq,lQm]
  exact QAq (show 0+1+1+s.ks.length<=22 by have:=f.l.2.2.2.2.1;omega) (!1)
 symm
 refine fu (ws:="unless"::"go"::s.ks) (x.here.app) (!0) kl aV (by simp) (by have:=f.l.2.2.2.2.1;erw[Qnq];omega) λK S1 J e1 _ l1=>?_
 let a1:=a.ex e1 hc h1 h2 h3 h4 h5 Z
 let#[l,N,d2,d3,d4,d5,d6,d7]:=a1.dct
 dsimp only
 refine aU (EN (ay ?_))
 apply iH ?_
 apply#[c,l,_,_,L,L,N,d3,?_]
 apply iH ?_
 apply#[c,l,_,_,L,L,N,d4,?_]
 apply#[_,_,L,?_]
 apply iH ?_
 apply#[c,l,_,_,L,L,N,d2,?_]
 refine cG e1.here (!0) (!1) (!1) λv S2 hv e2 _ l2=>?_
 let e2:=e1.trans e2
 let a2:=a.ex e2 hc h1 h2 h3 h4 h5 Z
 symm
 rw[show(1:Int)+(v:Int)=((v+1:Nat):Int) by omega]
 let hb:=HV (v+1) (!0)
 refine xt 5 (v+1) (!0) (!0) (!0) _ _ _ _ e2.here (!0) h1 h3 a2.w a2.b f.l.1 f.l.2.2.1 λt S3 W A _ l3=>?_
 have A:Ex k j (n+255) S S3:=(e2.trans A).mono (!0)
 let W:=W.mono (show v+1<=5 by omega)
 let P:=a.ex A hc h1 h2 h3 h4 h5 Z
 let#[l,N,d2,d3,d4,d5,d6,d7]:=P.dct
 have B:∀(r:Rw) {M:aH},Ex k j (n+300) S M->r.ok s m->Op (DL.settle S r.d M) λp=>Q p.1 p.2:=λr M u hr=>kD u x r.low λS5 b1 b2 b3=>h r _ hr b1 b2 b3
 clear a a1 a2 e1 e2 l1 l2 hb
 symm
 apply cw ?_
 refine aC (λC=>?_) (λc1=>?_)
 ·have:=QZq C;subst this
  symm
  apply cG A.here (!0) (!0) (!0) λz M hz u _ Y=>?_
  exact⟨show 3<=sizeLine by decide,B (.un t z) ((A.trans u).mono (!0)) ⟨W,by omega⟩⟩
 symm
 apply cw ?_
 refine aC (λC=>?_) (λc2=>?_)
 ·have:=QZq C;subst this
  symm
  apply cG A.here (!0) (!0) (!0) λz M hz u _ Y=>?_
  exact⟨show 2<=sizeLine by decide,B (.go z) ((A.trans u).mono (!0)) (by show z<=m;omega)⟩
 have I:K∈s.ks:=by
  rcases Qsq.mp J with rfl|J
  ·simp at c1
  ·rcases Qsq.mp J with rfl|J
   ·simp at c2
   ·exact J
 symm
 apply kJ ?_
 apply⟨by decide,?_⟩
 refine⟨K,["tell","say"],L,L,?_⟩
 refine aC (λC=>?_) (λc3=>?_)
 ·symm
  refine⟨show 2<=sizeLine by decide,B (.te K t) (A.mono (!0)) ⟨I,?_,W⟩⟩
  simpa using C
 symm
 apply cw ?_
 refine aC (λC=>?_) (λc4=>?_)
 ·have:=QZq C;subst this
  symm
  refine fu (A.here) (!0) h2 P.g (f.put I) (by have:=f.l.2.1;omega) λw M H u _ Y=>?_
  symm
  exact⟨show 3<=sizeLine by decide,B (.pu w t) ((A.trans u).mono (!0)) ⟨I,H,W⟩⟩
 symm
 apply cw ?_
 refine aC (λC=>?_) (λc5=>?_)
 ·have:=QZq C;subst this
  symm
  apply ju ?_
  apply bB P.g ?_
  refine⟨by decide,?_⟩
  refine⟨⟨rfl,L,P.g,QAq (show _<=51 by erw[Qnq,QGq,lQm];have:=f.l.2.1;omega) (!1)⟩,?_⟩
  symm
  refine vc (xs:=s.gs.map D.str++ [.non]) (A.here.app) (!0) A.lt aV (by simp) (by simp;have:=f.l.2.1;omega) (λd R=>by rcases mQa.mp R with R|R;exact lq _ R;rw[Qfq] at R;subst R;rfl) λw M H u _ Y=>?_
  obtain⟨w,X,rfl⟩:∃o,(∀x,o=some x->x∈s.gs)/\w=Ep o:=by
   rcases mQa.mp H with H|H
   ·let#[y,hy,rfl]:=Qkq.mp H
    exact#[some y,λx e=>by cases e;exact hy,L]
   ·rw[Qfq] at H
    exact#[none,λx e=>(by cases e),H]
  symm
  apply#[show 2<=sizeLine by decide,?_]
  apply iH ?_
  apply#[c,l,_,_,L,L,u.at hc N,d5,?_]
  refine vc (u.here) (!0) h4 (u.at h4 P.d) (by erw[lQm];exact List.length_pos_iff.mpr (f.dod I)) (by erw[lQm];have:=f.l.2.2.2.1;omega) (λd R=>by let#[y,_,rfl]:=Qkq.mp R;rfl) λy S5 hy e5 _ l5=>?_
  let#[#[r,d],a0,rfl]:=Qkq.mp hy
  symm
  apply DR (show 4<=sizeLine by decide) ?_
  refine#[show 1<=sizeLine by decide,?_]
  refine DR (show 5<=sizeLine by decide) ?_
  exact B (.dd w r d t) (((A.trans u).trans e5).mono (!0)) #[I,X,a0,W]
 symm
 apply cw ?_
 refine aC (λC=>?_) (λc6=>?_)
 ·have:=QZq C;subst this
  symm
  apply fu (A.here) (!0) h3 P.b (f.bel _ (.inl L) I) f.l.2.2.1 λw M H u _ Y=>?_
  exact#[show 3<=sizeLine by decide,B (.wa w t) ((A.trans u).mono (!0)) #[I,H,W]]
 symm
 apply kJ ?_
 apply#[by decide,?_]
 refine#[K,["call","all"],L,L,?_]
 refine aC (λC=>?_) (λc7=>?_)
 ·have C:K="call" \/K="all":=by simpa using C
  symm
  apply fu (A.here) (!0) h3 P.b (f.bel _ (.inr C) I) f.l.2.2.1 λw M H u _ Y=>?_
  exact#[show 2<=sizeLine by decide,B (.on K w) ((A.trans u).mono (!0)) #[I,.inl #[C,H]]]
 have hp:(K="take" \/K="give" \/K="pass")/\s.ps≠[]/\ip.isSome=true:=by
  let q:=f.k _ I
  simp at c3 c4 c5 c6 c7
  simp[wX,c3,c4,c5,c6,c7] at q
  exact#[q,f.pas _ q I]
 let#[U,F]:=Option.isSome_iff_exists.mp hp.2.2
 let dp:=d7 U F
 symm
 apply cw ?_
 refine aC (λC=>?_) (λc8=>?_)
 ·have:=QZq C;subst this
  symm
  apply iH ?_
  apply#[c,l,_,_,L,L,N,dp,?_]
  apply fu (A.here) (!0) (Z U F) (P.p U F) hp.2.1 f.l.2.2.2.2.2 λw M H u _ Y=>?_
  apply iH ?_
  apply#[c,l,_,_,L,L,u.at hc N,dp,?_]
  apply fu (u.here) (!0) (Z U F) (u.at (Z U F) (P.p U F)) hp.2.1 f.l.2.2.2.2.2 λw2 S5 X e5 _ l5=>?_
  exact#[show 3<=sizeLine by decide,B (.pa w w2) (((A.trans u).trans e5).mono (!0)) #[I,H,X]]
 symm
 apply iH ?_
 apply#[c,l,_,_,L,L,N,dp,?_]
 apply fu (A.here) (!0) (Z U F) (P.p U F) hp.2.1 f.l.2.2.2.2.2 λw M H u _ Y=>?_
 refine#[show 2<=sizeLine by decide,B (.on K w) ((A.trans u).mono (!0)) #[I,.inr #[?_,H]]]
 simp at c8
 rcases hp.1 with h|h|h
 ·exact .inl h
 ·exact .inr h
 ·exact absurd h c8
end
end W28
namespace DL
open PySem PySem.Spec L2
def Ll{b:cI}{S:aH}{f:eF}{g:bc}{Q:List D->aH->Prop}(h:E f b S λp c=>E g b c λr a=>∃n:Nat,r=.int n/\(p.2.isM=true/\p.2.stays a p.1/\p.1.length*n<=1000/\n<=1)/\Q ((List.replicate n p.1).flatten) a):E (qU f g) b S Q:=by
 let#[p,c,d,r,a,e,n,rfl,#[h1,h2,h3,h4],q]:=h
 refine#[_,a,?_,q]
 unfold qU
 rw[d]
 erw[Qbq]
 rw[e]
 erw[Qbq]
 rw[Qhq #[h1,h2,by omega,by omega,by simpa using QAq h3 (!1)]]
 simp
def Eo{b:cI}{S:aH}{f:eF}{lo hi:GG}{Q:List D->aH->Prop}(h:E f b S λp d=>E lo b d λl c=>E hi b c λu a=>(p.2.isL=true/\p.2.stays a p.1)/\Q (lh p.1 l u) a):E (J8 f lo hi) b S Q:=by
 let#[p,d,e,l,c,j,u,a,g,i,q]:=h
 exact#[_,a,by unfold J8;rw[e];erw[Qbq];rw[j];erw[Qbq];rw[g];erw[Qbq];rw[Qhq i],q]
def j2{b:cI}{S:aH}{f:bc}{Q:Option Int->aH->Prop}(h:E f b S λd a=>∃i,d=.int i/\Q (some i) a):E (CQ f) b S Q:=by
 let#[d,a,c,i,rfl,q]:=h
 exact#[_,a,by unfold CQ;rw[c];rfl,q]
def kd{a:cI}{S:aH}{Q:Option Int->aH->Prop}(q:Q none S):E C1 a S Q:=#[_,_,L,q]
def Ek{b:Bool}{Q:D->Prop}(q:Q (.int (if b then 1 else 0))):Op (intOfD [.bl b]) Q:=#[_,L,q]
def Kt{d:cI}{S:aH}{f:bc}{g:eF}{Q:D->aH->Prop}(h:E f d S λx c=>∃k a,x=.ref k/\c[k]?=some (.lst a)/\E g d c λp b=>∃ds,b[k]?=some (.lst ds)/\(p.2.isM=true/\ds.length+p.1.length<=sizeLine)/\Q .non (b.set k (.lst (ds++p.1)))):E (E1 f g) d S Q:=by
 let#[x,c,e,k,a,rfl,h1,p,b,e2,ds,h2,h3,q]:=h
 exact#[_,_,by unfold E1;rw[e];erw[Qbq,e2,h1,h2];rw[Qhq h3],q]
def J6{ds:List D}{y:D}{k:Nat}{Q:List D×D->Prop}(a:k<=ds.length)(b:ds.length<999)(q:Q (ds.take k++y::ds.drop k,.non)):Op (AC ds [.int (k:Nat),y]) Q:=#[_,by unfold AC;exact Qhq #[by omega,by omega,by omega,vA (!0)],q]
def kG{b:cI}{S:aH}{n:Nat}{g:rE}{ds:List D}{Q:cI->aH->Prop}(d:ds.length=n)(h:Mv g ds b S Q):Tg (uw (nG n g)) (.tup ds) b S Q:=by
 let#[a,c,e,q]:=h
 exact#[a,c,by show nG n g ds b S=_;unfold nG;rw[Qhq d];exact e,q]
def dB{b:cI}{S:aH}{f g:bc}{Q:D->aH->Prop}(h:E f b S λd a=>∃k,d=.bl k/\if k=true then E g b a Q else Q (.bl false) a):E (iZ f g) b S Q:=by
 let#[d,a,c,k,rfl,q]:=h
 cases k with
 |true=>let#[j,e,i,q]:=(q:E g b a Q);exact#[j,e,by unfold iZ;rw[c];exact i,q]
 |false=>exact#[_,a,by unfold iZ;rw[c];rfl,q]
def eP{α:Type}{w:cI}{S:aH}{js:List (Option Nat)}{i:qh}{g:kA}{t:iB}{o:bc}{Q:List D->aH->Prop}(P:cI->Prop)(r G:α->D)(c:α->Bool)(I:P (oF js w)) (h:E i w S λp f=>∃xs:List α,p.1=xs.map r/\p.2 f/\xs.length<=1000∧
   (∀x∈xs,∀a,P a->Tg g (r x) a f λb v=>v=f/\P b/\E t b f λk C=>C=f/\k=c x/\(c x=true->E o b f λy F=>y=G x/\F=f))/\Q ((xs.filter c).map G) f):E (bT js i g t o) w S Q:=by
 refine pJ (h.mono λp f K=>?_)
 let#[xs,B,M,Y,W,q]:=K
 refine#[λn a u j=>u=f/\j=((xs.take n).filter c).map G/\P a,#[L,L,I],λn a u j h=>by rw[h.1];exact M,λn d a u j s h=>?_,λa u j h=>?_]
 ·let#[rfl,rfl,h3]:=h
  have s:p.1[n]?=some d:=s
  rw[B,gQm] at s
  let#[x,l,rfl]:=oQm.mp s
  let#[b,v,R,rfl,h4,h5]:=W x (mQg l) a h3
  refine#[b,v,R,?_]
  refine h5.mono λk C z=>?_
  let#[J,U,N]:=z
  subst J U
  let Z:=(gQs.mp l).1
  have A:((xs.take (n+1)).filter c).map G=((xs.take n).filter c).map G++if c x=true then [G x] else []:=by
   rw[QYq,l]
   cases m:c x <;>simp[m]
  by_cases m:c x=true
  ·rw[Qhq m]
   refine(N m).mono λy F z=>?_
   let#[X,H]:=z
   subst X H
   refine#[?_,L,?_,h4]
   ·rw[lQm]
    have:=List.length_filter_le c (xs.take n)
    rw[Qxq] at this
    exact vA (!0)
   ·rw[A,Qhq m]
  ·rw[Quq m]
   refine#[L,?_,h4]
   rw[A,Quq m,List.append_nil]
 ·let#[rfl,rfl,_]:=h
  have e:p.1.length=xs.length:=by rw[B,lQm]
  show Q (((xs.take p.1.length).filter c).map G) _
  rw[e,QEq]
  exact q
def c0{a:cI}{S:aH}{Q:cI->aH->Prop}(q:Q a S):Mv jh [] a S Q:=#[_,_,L,q]
def aL{b:cI}{S:aH}{f:kA}{g:rE}{d:D}{ds:List D}{Q:cI->aH->Prop}(h:Tg f d b S λa e=>Mv g ds a e Q):Mv (bD f g) (d::ds) b S Q:=by
 let#[a,e,j,c,i,k,q]:=h
 exact#[c,i,by show(f d b S).bind _=_;rw[j];exact k,q]
def Gm{α:Type}(l:List α):l.filter (λ_=>true)=l:=List.filter_eq_self.mpr λ_ _=>rfl
end DL
namespace W28
open PySem PySem.Spec L2 DL
def rp(b:Bool)(l:X6):List Str:=(List.replicate (if b then 1 else 0) l).flatten
def HF(b:Bool)(l:X6):(List.replicate (if b then 1 else 0) (l.map D.str)).flatten=(rp b l).map D.str:=by cases b <;>simp[rp]
def CM(g d b a:Bool):List Str:=(((["tell"]:List Str)++rp g ["put","put"])++rp d ["do"])++rp b ["wait","call"]++rp a ["all"]
def BL:∀g d b a:Bool,(a=true->b=true)->(CM g d b a).length<20/\(∀k∈CM g d b a,k∈wX)/\(("put":Str)∈CM g d b a->g=true)/\(("do":Str)∈CM g d b a->d=true)/\(∀k∈(["wait","call","all"]:List Str),k∈CM g d b a->b=true)/\∀k∈(["take","give","pass"]:List Str),k∉CM g d b a:=by decide +kernel
def ne(l:X6):Bool:= !(l.map D.str).isEmpty
def ne_is{l:X6}(h:ne l=true):l≠[]:=zR h
section
variable{S:aH}{Q:Res->aH->Prop}
def j6(v:Str×Nat):D:=.tup [.str v.1,.int v.2]
def vG(v:Str×Str):D:=.tup [.str v.1,.str v.2]
def eE(p:Str×Str):D:=.tup [.str p.1,.str p.2]
def m7(a bs:X6)(ds:List (Str×Str))(fr:Bool):Sc:=#[a++ [("given":Str)],a,bs,ds,CM (ne a) (!(ds.map eE).isEmpty) (ne bs) (ne bs&&fr),[]]
def DW{lits:X6}{b:Bool}{F:fF}{g:bc}{f:cI}{Q:List D×Tag->aH->Prop}(k:E F f S λds a=>ds=lits.map D.str/\a=S)(l:lits.length<=5)(j:E g f S λd a=>d=.bl b/\a=S)(q:Q ((rp b lits).map D.str,.fr) S):
  E (eo (qU (eo F) (Aa intOfD (au g az)))) f S Q:=by
 refine mW (Ll (mW (k.mono λds a i=>?_)))
 let#[c,h]:=i
 subst c h
 refine MU (ay (j.mono λd a ⟨c,h⟩=>aI ?_))
 subst c h
 refine Ek ?_
 have e:(if b then(1:Int) else 0)=((if b then 1 else 0:Nat):Int):=by split <;>rfl
 rw[e]
 refine#[_,L,#[L,trivial,?_,by split <;>omega],?_]
 ·erw[lQm]
  split <;>omega
 ·rw[HF]
  exact q
def G8{i r:Nat}{b:cI}{xs:List D}(hi:b[i]?=some (some (.ref r)))(a:S[r]?=some (.lst xs)):E (dZ (aY (ax i))) b S λd c=>d=.bl (!xs.isEmpty)/\c=S:=F3 (bq (av hi (bB a #[#[L,a],L,L])))
def p0{lits:X6}{i r:Nat}{F:fF}{a:cI}{xs:List D}{Q:List D×Tag->aH->Prop}(e:E F a S λds c=>ds=lits.map D.str/\c=S)(b:lits.length<=5)(hi:a[i]?=some (some (.ref r)))(d:S[r]?=some (.lst xs))(q:Q ((rp (!xs.isEmpty) lits).map D.str,.fr) S):
  E (eo (qU (eo F) (Aa intOfD (au (dZ (aY (ax i))) az)))) a S Q:=DW e b (G8 hi d) q
def fg(b:Bool){l:X6}:(rp b l).length<=l.length:=by cases b <;>simp[rp]
def sm{n:Nat}(h:n<=1000):n<=sizeLine:=QAq h (!1)
def mD{lits:X6}{f:cI}:∀{fs:X6},fs=lits->lits.length<=5->E (bJ (fs.foldr (λx g=>au (cF (.str x)) g) az)) f S λds a=>ds=lits.map D.str/\a=S:=by
 intro fs e d
 subst e
 refine ki ?_
 have:E (fs.foldr (λx g=>au (cF (.str x)) g) az) f S λds a=>ds=fs.map D.str/\a=S:=by
  clear d
  induction fs with
  |nil=>exact aI #[L,L]
  |cons x fs h=>exact ay (bM (h.mono λds a ⟨b,c⟩=>#[by rw[b];rfl,c]))
 refine this.mono λds a ⟨b,c⟩=>#[?_,b,c]
 rw[b,lQm]
 exact QAq d (!1)
def HZ{j:Str}{vs:List (Str×Nat)}{e:List (Str×Str)}{ds:List (Str×Str)}{id:Nat}(F:S[id]?=some (.lst (ds.map eE)))(l1:vs.length<50)(l2:e.length<50)(l3:ds.length<50)
  (h:∀(S':aH) (c J N R P:Nat),(∃G,S'=S++G)->S.length<=c->S.length<=J->S.length<=N->S.length<=R->S.length<=P->At S' c J N R id P none (m7 (vs.map (·.1)) (e.map (·.1)) ds (decide (j="when free")))->Q (.d (.ref c)) S'):
  Fn dv [.str j,.tup (vs.map j6),.tup (e.map vG),.ref id] S Q:=by
 refine LR ?_
 unfold jt
 symm
 apply eP (α:=Str×Nat) (λg=>∃a b,g= [a,b]) j6 (λv=>.str v.1) (λ_=>true) #[none,none,L] (eD ?_)
 refine#[vs,L,trivial,by omega,λv hv g k=>?_,?_]
 ·let#[a,b,rfl]:=k
  apply kG L (aL (bu (aL (bu (c0 #[L,#[_,_,L],jc #[L,L,λ_=>?_]])))))
  exact#[L,L]
 rw[Gm,show vs.map (λv=>D.str v.1)=(vs.map (·.1)).map D.str by rw[QPq];rfl]
 symm
 let U:=aV (S:=S) (o:=.lst ((vs.map (·.1)).map D.str))
 have A:∃G,S++ [.lst ((vs.map (·.1)).map D.str)]=S++G:=#[_,L]
 generalize S++ [.lst ((vs.map (·.1)).map D.str)]=S1 at U A|-
 apply eP (α:=Str×Str) (λg=>∃a b,g= [a,b]) vG (λv=>.str v.1) (λ_=>true) #[none,none,L] (eD ?_)
 refine#[e,L,trivial,by omega,λv hv g k=>?_,?_]
 ·let#[a,b,rfl]:=k
  apply kG L (aL (bu (aL (bu (c0 #[L,#[_,_,L],jc #[L,L,λ_=>?_]])))))
  exact#[L,L]
 rw[Gm,show e.map (λv=>D.str v.1)=(e.map (·.1)).map D.str by rw[QPq];rfl]
 symm
 let w:=aV (S:=S1) (o:=.lst ((e.map (·.1)).map D.str))
 let y:=aJ (G:= [.lst ((e.map (·.1)).map D.str)]) U
 have t:∃G,S1++ [.lst ((e.map (·.1)).map D.str)]=S++G:=by let#[G,rfl]:=A;exact#[_,Qvq _ _ _]
 have l4:S.length<=S1.length:=by let#[G,rfl]:=A;simp
 generalize S1++ [.lst ((e.map (·.1)).map D.str)]=S2 at w y t|-
 have l6:S1.length<S2.length:=(gQs.mp w).1
 apply ju ?_
 apply ju ?_
 refine#[by decide,?_]
 refine p0 (lits:= ["put","put"]) (mD (fs:= ["put","put"]) L (!1)) (!1) L y ?_
 refine#[#[L,L,trivial,?_],?_]
 ·exact sm (by have:= @fg (!(List.map D.str (List.map (λx=>x.1) vs)).isEmpty) ["put","put"];erw[Qnq,QGq,lQm] at this|-;omega)
 refine p0 (lits:= ["do"]) (mD (fs:= ["do"]) L (!1)) (!1) L (by let#[G,rfl]:=t;exact aJ F) ?_
 refine#[#[L,L,trivial,?_],?_]
 ·exact sm (by have:= @fg (!(List.map D.str (List.map (λx=>x.1) vs)).isEmpty) ["put","put"];have:= @fg (!(ds.map eE).isEmpty) ["do"];erw[Qnq,QGq,lQm,lQa] at *;omega)
 have Z:([D.str "tell"]++(rp (!(List.map D.str (List.map (λx=>x.1) vs)).isEmpty) ["put","put"]).map D.str)++(rp (!(ds.map eE).isEmpty) ["do"]).map D.str=((([("tell":Str)]++rp (ne (vs.map (·.1))) ["put","put"])++rp (!(ds.map eE).isEmpty) ["do"])).map D.str:=by erw[Qzq];rfl
 rw[Z]
 have X:((([("tell":Str)]++rp (ne (vs.map (·.1))) ["put","put"])++rp (!(ds.map eE).isEmpty) ["do"])).length<=4:=by have:= @fg (ne (vs.map (·.1))) ["put","put"];have:= @fg (!(ds.map eE).isEmpty) ["do"];erw[Qnq,QGq,lQa] at *;omega
 generalize hK:((([("tell":Str)]++rp (ne (vs.map (·.1))) ["put","put"])++rp (!(ds.map eE).isEmpty) ["do"]))=K1 at X|-
 symm
 let p:=aV (S:=S2) (o:=.lst (K1.map D.str))
 let q:=aJ (G:= [.lst (K1.map D.str)]) w
 let n:=aJ (G:= [.lst (K1.map D.str)]) y
 have H:∃G,S2++ [.lst (K1.map D.str)]=S++G:=by let#[G,rfl]:=t;exact#[_,Qvq _ _ _]
 generalize S2++ [.lst (K1.map D.str)]=S3 at p q n H|-
 have l8:S2.length<S3.length:=(gQs.mp p).1
 apply ju ?_
 apply ju ?_
 refine bB p ?_
 refine p0 (lits:= ["wait","call"]) (mD (fs:= ["wait","call"]) L (!1)) (!1) L q ?_
 refine#[#[L,L,p,?_],?_]
 ·exact sm (by have:= @fg (!(List.map D.str (List.map (λx=>x.1) e)).isEmpty) ["wait","call"];erw[Qnq,QGq,lQm] at *;omega)
 refine DW (lits:= ["all"]) (b:=ne (e.map (·.1))&&decide (j="when free")) (mD (fs:= ["all"]) L (!1)) (!1) (dB ((G8 L q).mono λd l ⟨e1,e2⟩=>?_)) ?_
 ·subst e1 e2
  refine#[_,L,?_]
  refine aC (λc=>?_) (λc=>?_)
  ·symm
   refine cw #[?_,L]
   have:ne (e.map (·.1))=true:=c
   rw[this]
   rfl
  ·have:ne (e.map (·.1))=false:=c
   rw[this]
   exact#[L,L]
 refine#[#[L,L,trivial,?_],?_]
 ·exact sm (by have:= @fg (!(List.map D.str (List.map (λx=>x.1) e)).isEmpty) ["wait","call"];have:= @fg (ne (e.map (·.1))&&decide (j="when free")) ["all"];erw[Qnq,QGq,lQm,lQa] at *;omega)
 have u:(K1.map D.str++(rp (!(List.map D.str (List.map (λx=>x.1) e)).isEmpty) ["wait","call"]).map D.str)++(rp (ne (e.map (·.1))&&decide (j="when free")) ["all"]).map D.str=(CM (ne (vs.map (·.1))) (!(ds.map eE).isEmpty) (ne (e.map (·.1))) (ne (e.map (·.1))&&decide (j="when free"))).map D.str:=by
  erw[CM,hK,Qzq]
  rfl
 rw[u]
 generalize z:CM (ne (vs.map (·.1))) (!(ds.map eE).isEmpty) (ne (e.map (·.1))) (ne (e.map (·.1))&&decide (j="when free"))=K2
 symm
 let s:=aV (S:=S3) (o:=.lst (K2.map D.str))
 let m:=aJ (G:= [.lst (K2.map D.str)]) q
 let f:=aJ (G:= [.lst (K2.map D.str)]) n
 have I:∃G,S3++ [.lst (K2.map D.str)]=S++G:=by let#[G,rfl]:=H;exact#[_,Qvq _ _ _]
 generalize S3++ [.lst (K2.map D.str)]=l at s m f I|-
 have l9:S3.length<l.length:=(gQs.mp s).1
 apply Fs ?_
 apply ju ?_
 apply bB f ?_
 refine#[by decide,#[L,L,f,sm (by erw[Qnq,QGq,lQm];omega)],?_]
 have ew:(List.map D.str (List.map (λx=>x.1) vs)++ [D.str "given"])=((vs.map (·.1))++ [("given":Str)]).map D.str:=by rw[Qzq];rfl
 symm
 rw[ew]
 let C:=aV (S:=l) (o:=.lst (((vs.map (·.1))++ [("given":Str)]).map D.str))
 let M:=aJ (G:= [.lst (((vs.map (·.1))++ [("given":Str)]).map D.str)]) f
 let W:=aJ (G:= [.lst (((vs.map (·.1))++ [("given":Str)]).map D.str)]) m
 let K:=aJ (G:= [.lst (((vs.map (·.1))++ [("given":Str)]).map D.str)]) s
 have r:∃G,l++ [.lst (((vs.map (·.1))++ [("given":Str)]).map D.str)]=S++G:=by let#[G,rfl]:=I;exact#[_,Qvq _ _ _]
 generalize l++ [.lst (((vs.map (·.1))++ [("given":Str)]).map D.str)]=S5 at C M W K r|-
 have Y:l.length<S5.length:=(gQs.mp C).1
 refine h _ S5.length l.length S.length S1.length S3.length (by let#[G,rfl]:=r;exact#[_,Qvq _ _ _]) (!0) (!0) (!0) (!0) (!0) #[#[_,aV,?_,?_,?_,?_,?_,λi B=>by cases B],aJ C,aJ M,aJ W,?_,?_,λi B=>by cases B]
 ·rfl
 ·rfl
 ·rfl
 ·rfl
 ·rfl
 ·let#[G,rfl]:=r
  exact aJ (aJ F)
 ·rw[show(m7 (vs.map (·.1)) (e.map (·.1)) ds (decide (j="when free"))).ks=K2 from z]
  exact aJ K
def EV{b bs:X6}{ds:List (Str×Str)}{fr:Bool}(g:b.length<50)(m:bs.length<50)(n:ds.length<50):(m7 b bs ds fr).fit none:=by
 let#[f,c,i,d,j,l]:=BL (ne b) (!(ds.map eE).isEmpty) (ne bs) (ne bs&&fr) (by erw[QCq];exact λh=>h.1)
 refine⟨⟨by erw[m7,lQa,Qnq,QGq];omega,g,by erw[m7];omega,by erw[m7];omega,f,by simp[m7]⟩,c,λh=>ne_is (i h),λh=>?_,λk a h=>ne_is (j k (by simpa using a) h),λk a h=>absurd h (l k (by simpa using a))⟩
 have:=d h
 intro e
 have e:ds= []:=e
 subst e
 cases this
end
section
variable{k j n:Nat}{S S0:aH}{Q:Res->aH->Prop}{c iw ig ib id ik:Nat}{ip:Option Nat}{s:Sc}
def AH(x:Ex k j n S0 S)(hn:n<999800000)(a:At S c iw ig ib id ik ip s)(f:s.fit ip)(U:k<c)(K:k<iw)(I:k<ig)(N:k<ib)(J:k<id)(M:k<ik)(P:∀i,ip=some i->k<i)
  (h:∀(b:List Rw) (S':aH),1<=b.length->b.length<=40->(∀r∈b,r.ok s b.length)->Ex k j (n+13000) S0 S'->Ex k j (n+13000) S S'->S'.length=S.length->Q (.d (.tup (b.map Rw.d))) S'):Fn dY [.ref k,.ref c] S Q:=by
 let kl:=x.lt
 refine cA ?_
 unfold ml
 symm
 apply cG x.here (!0) (!1) (!1) λu S1 Z R _ l1=>?_
 refine cG R.here (!0) (!1) (!1) λw S2 a0 v _ l2=>?_
 let v:=R.trans v
 symm
 apply⟨show 4<=sizeLine by decide,?_⟩
 refine cG (v.here.app) (!0) (!1) (!1) λp S3 a3 F H l3=>?_
 dsimp only
 symm
 refine w_ ⟨by decide,by decide⟩ ?_
 obtain⟨m,a2,B,ha⟩:∃m:Nat,1<=m/\m<=40/\oW [D.int 1,D.int (1+(u:Int)),D.int (1+(w:Int)),D.int 40] ((p:Int)/4)=some (.int m):=by
  have:p/4<4:=by omega
  rw[show((p:Int)/4)=((p/4:Nat):Int) by omega]
  rcases h:p/4 with _|_|_|_|q
  ·exact#[1,by omega,by omega,fZ L]
  ·exact#[1+u,by omega,by omega,by rw[fZ (x:=D.int (1+(u:Int))) L];rw[show(1:Int)+(u:Int)=((1+u:Nat):Int) by omega]]
  ·exact#[1+w,by omega,by omega,by rw[fZ (x:=D.int (1+(w:Int))) L];rw[show(1:Int)+(w:Int)=((1+w:Nat):Int) by omega]]
  ·exact#[40,by omega,by omega,fZ L]
  ·omega
 refine fB (H.at v.lt aV) ha ?_
 have F:Ex k j (n+3) S S3:=v.trans F
 symm
 apply pJ ?_
 refine#[_,L,#[by omega,by omega],λt g S' e=>∃b:List Rw,(∃o,g= [o,some (.ref k),some (.ref c),some (.int m)])/\Ex k j (n+3+300*t) S S'/\e=b.map Rw.d/\b.length=t/\∀r∈b,r.ok s m,?_,λ_ _ _ _ _=>trivial,?_,?_]
 ·exact#[[],#[none,L],F,L,L,λ_ h=>by cases h]
 ·rintro t d g S' e W ⟨b,⟨o,rfl⟩,z,rfl,hl,hr⟩
  let#[ht,rfl]:=tO W
  let a4:=a.ex z U K I N J M P
  symm
  rw[Qhq L]
  symm
  refine JA z.here (!0) a4 f U K I N J M P B λr S5 A _ X l5=>?_
  dsimp only
  refine#[by rw[lQm,hl];exact Qqq (show t<40 by omega) (!1),b++ [r],#[_,L],(z.trans X).mono (!0),by simp,by simp[hl],λy l=>?_]
  rcases mQa.mp l with l|l
  ·exact hr y l
  ·rw[Qfq] at l;subst l;exact A
 ·rintro g S' e ⟨b,_,z,rfl,hl,hr⟩
  have a1:(b.length:Int)=m:=by rw[hl,rL (!0)]
  have C:b.length=m:=by omega
  refine kD (z.mono (show _<=n+13000 by rw[<-hl];omega)) x ?_ λS5 Y b2 b3=>h b _ (!0) (!0) (by rw[C];exact hr) Y b2 b3
  erw[cy]
  exact cC λr _=>r.low
end
def Cc:List Str:= ["at once","when free"]
def sorts:List Str:= ["row","turns"]
structure Rm where
 nm:Str
 mn:Str
 th:List (Str×Nat)
 be:List (Str×Str)
 de:List (Str×List Rw)
def u5(p:Str×List Rw):D:=.tup [.str p.1,.tup (p.2.map Rw.d)]
def Rm.d(r:Rm):D:=.tup [.str r.nm,.str r.mn,.tup (r.th.map j6),.tup (r.be.map vG),.tup (r.de.map u5)]
def Pr(s:Sc)(a:List Rw):Prop:=1<=a.length/\a.length<=40/\∀r∈a,r.ok s a.length
def Sub(ws ss:X6)(m:Nat):Prop:=(∃l,(ss++l).Perm ws)/\ss.length<=m/\ss.Pairwise t6
structure Rm.ok(ws:X6)(os:List (Str×Str))(r:Rm):Prop where
 nm:r.nm∈ws
 mn:r.mn∈Cc
 th:Sub ws (r.th.map (·.1)) 4/\∀v∈r.th,v.2<10
 be:Sub ws (r.be.map (·.1)) 3/\∀v∈r.be,v.2∈sorts
 de:Sub ws (r.de.map (·.1)) 4/\∀p∈r.de,∃ix:Nat,os[ix]?=some (r.nm,p.1)/\(os.drop (ix+1)).length<=16/\(∀q∈os.drop (ix+1),q.1∈ws/\q.2∈ws)/\Pr (m7 (r.th.map (·.1)) (r.be.map (·.1)) (os.drop (ix+1)) (decide (r.mn="when free"))) p.2
 dn:1<=r.de.length
def Sub.len{ws ss:X6}{m:Nat}(h:Sub ws ss m):ss.length<=m:=h.2.1
def Sub.mem{ws ss:X6}{m:Nat}(h:Sub ws ss m){w:Str}(a:w∈ss):w∈ws:=by
 let#[l,b]:=h.1
 exact b.subset (List.mem_append_left _ a)
def yR(a:List Rw):cy 0 (.tup (a.map Rw.d))=true:=by erw[cy];exact cC λr _=>r.low
def Rm.low(r:Rm):cy 0 r.d=true:=by
 have b:bz 0 (r.th.map j6)=true:=cC λ_ _=>rfl
 have a:bz 0 (r.be.map vG)=true:=cC λ_ _=>rfl
 have c:bz 0 (r.de.map u5)=true:=cC λp _=>by
  have:=yR p.2
  erw[u5,cy,bz] at this|-
  rw[this]
  rfl
 erw[Rm.d,cy,bz,b,a,c,Bool.and_true]
structure Sh where
 nm:Str
 mn:Str
 th:List (Str×Nat)
 be:List (Str×Str)
 ds:List Str
 at_:Nat
def Sh.d(r:Sh):D:=.tup [.str r.nm,.str r.mn,.tup (r.th.map j6),.tup (r.be.map vG),.ref r.at_]
structure Sh.ok(ws:X6)(r:Sh):Prop where
 nm:r.nm∈ws
 mn:r.mn∈Cc
 th:Sub ws (r.th.map (·.1)) 4/\∀v∈r.th,v.2<10
 be:Sub ws (r.be.map (·.1)) 3/\∀v∈r.be,v.2∈sorts
 ds:Sub ws r.ds 4
 dn:1<=r.ds.length
section
variable{k j n iw:Nat}{S S0:aH}{Q:Res->aH->Prop}{ws:X6}
def jm{xs:List D}(x:Ex k j n S0 S)(i:n<999990000)(f:0<xs.length)(e:xs.length<1000)(c:∀d∈xs,cy 0 d=true)
  (h:∀(d:D) (S':aH),d∈xs->Ex k j (n+1) S0 S'->Ex k j (n+1) S S'->Q (.d d) S'):Fn bA [.ref k,.ref S.length] (S++ [.lst xs]) Q:=
 vc (x.app (G:= [.lst xs])) (!0) x.lt aV f e c λd S' a b g _=>h d S' a b (x.here.app.trans g)
end
def jx(p:Str×Str):PyData:=.tuple [.str p.1,.str p.2]
def Dl(p:Str×Str):PyData.eqv (jx p) (jx p)=true:=by
 simp[jx,PyData.eqv,PyData.eqvAll]
def Dc{p:Str×Str}(h:PyData.strOk p.1=true/\PyData.strOk p.2=true):iX (eE p)=some (jx p):=by
 simp[eE,iX,gh,h.1,h.2,jx]
theorem Av:∀{os:List (Str×Str)},(∀q∈os,PyData.strOk q.1=true/\PyData.strOk q.2=true)->gh (os.map eE)=some (os.map jx)
 | [],_=>rfl
 | q::os,h=>by
   erw[QDq,gh]
   rw[Dc (h q (QBq ..)),Av λq a=>h q (Qpq _ a)]
   rfl
def rX{p q:Str×Str}(h:PyData.eqv (jx q) (jx p)=true):q=p:=by
 let#[a,b]:=p
 let#[c,d]:=q
 simp[jx,PyData.eqv,PyData.eqvAll] at h
 rw[h.1,h.2]
theorem Lr{p:Str×Str}:∀{os:List (Str×Str)},p∈os->∃j,j<os.length/\qz (jx p) (os.map jx)=some j/\os[j]?=some p
 | [],h=>by cases h
 | q::os,h=>by
   erw[QDq,qz]
   by_cases c:PyData.eqv (jx q) (jx p)=true
   · exact#[0,by simp,by rw[Qhq c],by rw[rX c];rfl]
   · have a:p∈os:=by
       rcases Qsq.mp h with rfl|h
       · exact absurd (Dl _) c
       · exact h
     let#[j,d,b,e]:=Lr a
     exact#[j+1,by simpa using d,by rw[Quq c,b];rfl,by simpa using e]
def EY(p:Str×Str):(jx p).depth<=60:=by
 simp[jx,PyData.depth,PyData.depthAll]
def NI:dr:=(aQ (cf 5 (aF dh (au (ax 0) (au (bR (dq cq (au (ax 0) (au (ax 1) (au (aF aW (au (ax 0) (au (cF (.int 5)) az))) az))))) az))))
 (aQ (cf 6 (bR (bT [none,some 0] (gL (eo (dq cq (au (ax 0) (au (ax 1) (au (aF aW (au (ax 0) (au (cF (.int 4)) az))) az)))))) (cW 0) b_ (cm (au (ax 0) (au (aF bA (au (ax 1) (au (bR (bJ (au (cF (.str "row")) (au (cF (.str "turns")) az)))) az))) az))))))
 (aQ (cf 7 (bR (dq cq (au (ax 0) (au (ax 1) (au (bo dy (cF (.int 1)) (aF aW (au (ax 0) (au (cF (.int 4)) az)))) az))))))
 (aQ (uv (vI mF (ax 2) (au (cm (au (ax 4) (au (aF bA (au (ax 0) (au (bR (bJ (au (cF (.str "at once")) (au (cF (.str "when free")) az)))) az))) (au (ax 5) (au (tupQ (fV (aY (ax 6)))) (au (ax 7) az)))))) az)))
 (ja (gL (aY (ax 7))) (cW 8) (uv (vI AC (ax 3) (au (aF aW (au (ax 0) (au (bo dy (gQ (aY (ax 3))) (cF (.int 1))) az))) (au (cm (au (ax 4) (au (ax 8) az))) az)))))))))
structure Sg(ws:X6)(S:aH)(sh od:Nat)(i:Nat)(names:X6)(shs:List Sh)(os:List (Str×Str)):Prop where
 f1:S[sh]?=some (.lst (shs.map Sh.d))
 f2:S[od]?=some (.lst (os.map eE))
 nm:shs.map (·.nm)=names.take i
 ok:∀r∈shs,r.ok ws/\od<r.at_/\S[r.at_]?=some (.lst (r.ds.map D.str))
 len:os.length<=4*i
 all:∀r∈shs,∀d∈r.ds,(r.nm,d)∈os
 mem:∀q∈os,q.1∈ws/\q.2∈ws
 perm:os.Perm (shs.flatMap λr=>r.ds.map λd=>(r.nm,d))
def EG{α:Type}(l:List α)(z:Nat)(x:α):(l.take z++x::l.drop z).Perm (l++ [x]):=by
 have:(l.take z++x::l.drop z).Perm (x::(l.take z++l.drop z)):=List.perm_middle
 rw[List.take_append_drop] at this
 exact this.trans (List.perm_append_comm (l₁:= [x]) (l₂:=l))
section
variable{k j n iw:Nat}{S S0:aH}{ws:X6}
def LJ{names:X6}{nm:Str}{i sh od:Nat}{a:Nat->Option D}{e:List Sh}{os:List (Str×Str)}{Q:Out->Prop}(x:Ex k j n S0 S)(hn:n<990000000)(hi:k<iw)(hS:S[iw]?=some (.lst (ws.map D.str)))(hw:ws.length<27)(c2:names[i]?=some nm)(X:nm∈ws)(d5:i<4)
  (k1:k<sh) (k2:sh<od) (k0:S0.length<=sh) (kl:k<S0.length) (f3:iw<sh) (g:Sg ws S sh od i names e os)
  (q:∀(N:Nat->Option D) (S':aH) (a2:List Sh) (c:List (Str×Str)),Ex k j (n+200) S0 S'->S'[iw]?=some (.lst (ws.map D.str))->Sg ws S' sh od (i+1) names a2 c->Q (.nx [some (.ref k),some (.ref iw),some (.ref sh),some (.ref od),N 4,N 5,N 6,N 7,N 8,N 9,N 10,N 11,N 12] S')):
  T NI [some (.ref k),some (.ref iw),some (.ref sh),some (.ref od),some (.str nm),a 5,a 6,a 7,a 8,a 9,a 10,a 11,a 12] S Q:=by
 unfold NI
 let Mn:=(gQs.mp g.f2).1
 symm
 apply cG x.here (!0) (!1) (!1) λv S1 hv e1 _ l1=>?_
 refine jO e1.here (!0) hi (e1.at hi hS) (!0) (!0) (!0) λss S2 a4 d4 b0 e2 _ l2=>?_
 let e2:=e1.trans e2
 have J:Sub ws ss 4:=#[a4,by omega,b0]
 symm
 refine lP (i:=S2.length) (ws:=ss) e2.here.app (!0) e2.lt aV (by have:=J.len;omega) λC S3 zJ a3 _ I l3=>?_
 subst zJ
 have e3:Ex k j (n+60) S S3:=(e2.trans #[by have:=I.len;erw[lQa] at this;omega,I.jk,λi o n1 n2 h=>I.keep i o n1 n2 (aJ h),I.pot]).mono (by have:=J.len;omega)
 clear I l1 l2 l3 e1
 symm
 apply pJ ?_
 refine cG e3.here (!0) (!1) (!1) λv2 S4 d8 e4 _ _=>?_
 let e4:=e3.trans e4
 symm
 refine jO e4.here (!0) hi (e4.at hi hS) (!0) (!0) (!0) λbs S5 d3 d6 c5 e5 _ _=>?_
 have e5:Ex k j (n+90) S S5:=(e4.trans e5).mono (!0)
 have H:Sub ws bs 3:=#[d3,by omega,c5]
 refine#[λt w S' Z=>∃m:List (Str×Str),(∃o,w= [o,some (.ref k)])/\Ex k j (n+90+t) S S'/\Z=m.map vG/\m.map (·.1)=bs.take t/\∀b∈m,b.2∈sorts,?_,λ_ _ _ _ _=>trivial,?_,?_]
 ·exact#[[],#[none,L],e5,L,L,λ_ h=>by cases h]
 ·rintro t d w S' Z R ⟨m,⟨o,rfl⟩,U,rfl,hbe,hso⟩
  rw[gQm] at R
  let#[b,hb,rfl]:=oQm.mp R
  have ht:t<bs.length:=(gQs.mp hb).1
  have:=H.len
  symm
  rw[Qhq L]
  symm
  apply#[by decide,?_]
  refine jm U.here (!0) (!1) (!1) (lq (l:=sorts)) λz S7 hz e7 _=>?_
  let#[so,hs,rfl]:=Qkq.mp (show z∈sorts.map D.str from hz)
  symm
  have hl:m.length=t:=by have:=congrArg List.length hbe;rw[lQm,Qxq] at this;omega
  refine#[show 2<=sizeLine by decide,by rw[lQm,hl];exact Qqq (show t<60 by omega) (!1),m++ [(b,so)],#[_,L],U.trans e7,by simp[vG],?_,?_]
  ·rw[Qzq,hbe,QYq,hb]
   rfl
  ·intro y A
   rcases mQa.mp A with A|A
   ·exact hso y A
   ·rw[Qfq] at A;subst A;exact hs
 rintro w W Z ⟨m,_,U,rfl,hbe,hso⟩
 erw[lQm,QEq] at U hbe
 subst hbe
 have U:Ex k j (n+94) S W:=U.mono (by have:=H.len;omega)
 clear e5 e4
 symm
 let b6:=aV (S:=W) (o:=.lst (m.map vG))
 have e7:Ex k j (n+94) S (W++ [.lst (m.map vG)]):=U.app
 have c6:S.length<=W.length:=U.len
 generalize W++ [.lst (m.map vG)]=S7 at b6 e7|-
 refine cG e7.here (!0) (!1) (!1) λv3 S8 d9 e8 _ _=>?_
 let b8:=e8.at (by have:=x.lt;omega) b6
 let e8:=e7.trans e8
 symm
 rw[show(1:Int)+(v3:Int)=((1+v3:Nat):Int) by omega]
 refine jO e8.here (!0) hi (e8.at hi hS) (!0) (!0) (!0) λu s c7 d7 b7 e9 _ _=>?_
 let b9:=e9.at (by have:=x.lt;omega) b8
 have e9:Ex k j (n+125) S s:=(e8.trans e9).mono (!0)
 have B:Sub ws u 4:=#[c7,by omega,b7]
 have d2:1<=u.length:=by have:=List.length_pos_of_mem X;omega
 symm
 let a5:=aJ (G:= [.lst (u.map D.str)]) b9
 let b5:=aV (S:=s) (o:=.lst (u.map D.str))
 have P:Ex k j (n+125) S (s++ [.lst (u.map D.str)]):=e9.app
 have c9:S.length<=s.length:=e9.len
 generalize s++ [.lst (u.map D.str)]=S10 at a5 b5 P|-
 apply uB ?_
 apply#[sh,_,L,P.at k1 g.f1,?_]
 apply#[by decide,?_]
 refine jm P.here (!0) (!1) (!1) (lq (l:=Cc)) λz Y hz p _=>?_
 let#[K,c4,rfl]:=Qkq.mp (show z∈Cc.map D.str from hz)
 let c3:=p.at (by have:=x.lt;omega) a5
 let c1:=p.at (by have:=x.lt;omega) b5
 let p:=P.trans p
 symm
 refine bB c3 ?_
 apply#[L,?_]
 apply#[show 5<=sizeLine by decide,?_]
 have e0:e.length<=i:=by have:=congrArg List.length g.nm;rw[lQm,Qxq] at this;omega
 refine#[_,p.at k1 g.f1,mz (by rw[lQm];exact Qqq (show e.length<60 by omega) (!1)) ?_]
 symm
 let kS:=x.lt
 have er:e.map Sh.d++ [D.tup [.str nm,.str K,.tup (C.map λv=>.tup [.str v.1,.int v.2]),.tup (m.map vG),.ref s.length]]=(e++ [Sh.mk nm K C m u s.length]).map Sh.d:=by rw[Qzq];rfl
 rw[er]
 let a6:=fM (o':=.lst ((e++ [Sh.mk nm K C m u s.length]).map Sh.d)) (p.at k1 g.f1)
 let a0:=dA (k:=sh) (o':=.lst ((e++ [Sh.mk nm K C m u s.length]).map Sh.d)) (!0) c1
 let b2:=dA (k:=sh) (o':=.lst ((e++ [Sh.mk nm K C m u s.length]).map Sh.d)) (!0) (p.at (!0) g.f2)
 let b4:=dA (k:=sh) (o':=.lst ((e++ [Sh.mk nm K C m u s.length]).map Sh.d)) (!0) (p.at hi hS)
 have b1:Ex k j (n+126) S0 (Y.set sh (.lst ((e++ [Sh.mk nm K C m u s.length]).map Sh.d))):=(x.trans p).put k0 kl
 have a1:∀r∈e,(Y.set sh (.lst ((e++ [Sh.mk nm K C m u s.length]).map Sh.d)))[r.at_]?=some (.lst (r.ds.map D.str)):=λr f=>dA (by have:=(g.ok r f).2.1;omega) (p.at (by have:=(g.ok r f).2.1;omega) (g.ok r f).2.2)
 generalize Y.set sh (.lst ((e++ [Sh.mk nm K C m u s.length]).map Sh.d))=S12 at a6 a0 b2 b4 b1 a1|-
 have c8:od<s.length:=by omega
 apply hV ?_
 refine bB a0 ?_
 refine#[λt w S'=>∃(o:Option D) (c:List (Str×Str)),w= [some (.ref k),some (.ref iw),some (.ref sh),some (.ref od),some (.str nm),some (.tup (C.map λv=>.tup [.str v.1,.int v.2])),some (.ref W.length),some (.ref s.length),o,a 9,a 10,a 11,a 12]/\Ex k j (n+126+t) S0 S'/\S'[iw]?=some (.lst (ws.map D.str))/\S'[sh]?=some (.lst ((e++ [Sh.mk nm K C m u s.length]).map Sh.d))/\S'[s.length]?=some (.lst (u.map D.str))/\(∀r∈e,S'[r.at_]?=some (.lst (r.ds.map D.str)))/\S'[od]?=some (.lst (c.map eE))/\c.length=os.length+t/\(∀q∈os,q∈c)/\(∀d∈u.take t,(nm,d)∈c)/\(∀q∈c,q.1∈ws/\q.2∈ws)/\c.Perm (os++(u.take t).map λd=>(nm,d)),?_,λt w S' h=>?_,?_,?_]
 ·exact#[_,os,L,b1,b4,a6,a0,a1,b2,L,λ_ h=>h,λd h=>by simp at h,g.mem,by simp]
 ·let#[_,_,_,_,_,_,h,_]:=h;exact h
 ·rintro t d w S' R ⟨o,c,rfl,e13,w13,h13,d13,a13,o13,hl13,m1,m2,m3,m4⟩
  dsimp only at R
  rw[gQm] at R
  let#[d,M,rfl]:=oQm.mp R
  have ht:t<u.length:=(gQs.mp M).1
  have:=B.len
  have:=g.len
  apply bu ?_
  apply uB ?_
  apply#[od,_,L,o13,?_]
  apply bB o13 ?_
  erw[lQm]
  refine cG e13.here (!0) (!0) (!0) λz f0 hz F _ _=>?_
  let b3:=F.at (!0) o13
  symm
  apply#[show 2<=sizeLine by decide,?_]
  refine#[_,b3,J6 (by rw[lQm];omega) (by rw[lQm];omega) ?_]
  symm
  refine#[_,c.take z++(nm,d)::c.drop z,L,(e13.trans F).put (!0) kl,dA (!0) (F.at hi w13),dA (!0) (F.at k1 h13),dA (!0) (F.at (!0) d13),λr f=>dA (by have:=(g.ok r f).2.1;omega) (F.at (by have:=(g.ok r f).2.1;omega) (a13 r f)),?_,?_,?_,?_,?_,?_]
  ·rw[fM b3]
   erw[Qzq,QDq,List.map_take,List.map_drop]
   rfl
  ·erw[lQa,Qnq,Qxq,List.length_drop]
   omega
  ·intro q hq
   have:q∈c.take z++c.drop z:=by rw[List.take_append_drop];exact m1 q hq
   rcases mQa.mp this with h|h
   ·exact List.mem_append_left _ h
   ·exact Qoq _ (Qpq _ h)
  ·intro y A
   rw[QYq,M] at A
   rcases mQa.mp A with A|A
   ·have:(nm,y)∈c.take z++c.drop z:=by rw[List.take_append_drop];exact m2 y A
    rcases mQa.mp this with h|h
    ·exact List.mem_append_left _ h
    ·exact Qoq _ (Qpq _ h)
   ·obtain rfl:y=d:=by simpa using A
    exact Qoq _ (QBq ..)
  ·intro y A
   have:y∈c\/y=(nm,d):=by
    rcases mQa.mp A with h|h
    ·exact .inl (List.mem_of_mem_take h)
    ·rcases Qsq.mp h with h|h
     ·exact .inr h
     ·exact .inl (List.mem_of_mem_drop h)
   rcases this with h|rfl
   ·exact m3 y h
   ·exact#[X,B.mem (mQg M)]
  ·refine(EG c z (nm,d)).trans ?_
   rw[QYq,M,Qzq,<-Qvq]
   exact QJq _ m4
 rintro w d1 ⟨o,c,rfl,e13,w13,h13,d13,a13,o13,hl13,m1,m2,m3,m4⟩
 erw[lQm] at e13 hl13 m2 m4
 have:=B.len
 refine q (λz=>([none,none,none,none,some (.str nm),some (.tup (C.map λv=>.tup [.str v.1,.int v.2])),some (.ref W.length),some (.ref s.length),o,a 9,a 10,a 11,a 12]:List (Option D)).getD z none) d1 (e++ [Sh.mk nm K C m u s.length]) c (e13.mono (!0)) w13 #[h13,o13,?_,?_,by have:=g.len;omega,?_,m3,?_]
 ·rw[Qzq,g.nm,QYq,c2]
  rfl
 ·intro r f
  rcases mQa.mp f with f|f
  ·exact#[(g.ok r f).1,(g.ok r f).2.1,a13 r f]
  ·rw[Qfq] at f
   subst f
   exact#[#[X,c4,#[J,a3],#[H,hso],B,d2],c8,d13]
 ·intro r f d R
  rcases mQa.mp f with f|f
  ·exact m1 _ (g.all r f d R)
  ·rw[Qfq] at f
   subst f
   exact m2 d (by rw[QEq];exact R)
 ·rw[QEq] at m4
  rw[List.flatMap_append]
  refine m4.trans ?_
  refine(QJq _ g.perm).trans ?_
  simp
end
def Ee{α:Type}(xs:List α)(i:Nat):lh xs (some (i:Int)) none=xs.drop i:=by
 unfold lh
 rw[HT.rV,HT.nK]
 by_cases h:i<=xs.length
 ·rw[Nat.min_eq_left h,List.take_of_length_le (by rw[List.length_drop];omega)]
 ·rw[Nat.min_eq_right (!0),List.drop_length,List.drop_of_length_le (!0)]
  simp
def Ny:dr:=(aQ (cf 11 (bR (bJ az)))
 (aQ (ja (gL (aY (ax 7))) (cW 8) (aQ (cf 12 (bR (J8 (aY (ax 3)) (CQ (bo dy (EF (aY (ax 3)) (cm (au (ax 4) (au (ax 8) az)))) (cF (.int 1)))) C1)))
 (uv (vI mF (ax 11) (au (cm (au (ax 8) (au (aF dY (au (ax 0) (au (aF dv (au (ax 10) (au (ax 5) (au (ax 6) (au (ax 12) az))))) az))) az))) az)))))
 (uv (vI mF (ax 9) (au (cm (au (ax 4) (au (ax 10) (au (ax 5) (au (ax 6) (au (tupQ (fV (aY (ax 11)))) az)))))) az)))))
section
variable{k j n iw:Nat}{S S0:aH}{ws:X6}
def KQ{r:Sh}{sh od rl:Nat}{a:Nat->Option D}{os:List (Str×Str)}{m:List Rm}{Q:Out->Prop}(x:Ex k j n S0 S)(hn:n<990000000)(C:∀w∈ws,PyData.strOk w=true)(U:S[od]?=some (.lst (os.map eE)))
  (h4:S[rl]?=some (.lst (m.map Rm.d))) (v:r.ok ws) (J:S[r.at_]?=some (.lst (r.ds.map D.str))) (a3:os.length<=16) (y:∀d∈r.ds,(r.nm,d)∈os) (g:∀q∈os,q.1∈ws/\q.2∈ws) (k0:S0.length<=rl) (k1:k<od) (k2:k<r.at_) (kl:k<S0.length) (X:m.length<60)
  (q:∀(A:Nat->Option D) (S':aH) (N:Rm),N.ok ws os->N.nm=r.nm->N.de.map (·.1)=r.ds->Ex k j (n+54000) S0 S'->(∀i o,k<i->i≠rl->S[i]?=some o->S'[i]?=some o)->S'[rl]?=some (.lst ((m++ [N]).map Rm.d))->
   Q (.nx [some (.ref k),some (.ref iw),some (.ref sh),some (.ref od),A 4,A 5,A 6,A 7,A 8,some (.ref rl),A 10,A 11,A 12] S')):
  T Ny [some (.ref k),some (.ref iw),some (.ref sh),some (.ref od),some (.str r.nm),some (.tup (r.th.map j6)),some (.tup (r.be.map vG)),some (.ref r.at_),a 8,some (.ref rl),some (.str r.mn),a 11,a 12] S Q:=by
 unfold Ny
 have H:∀q∈os,PyData.strOk q.1=true/\PyData.strOk q.2=true:=λq K=>#[C _ (g q K).1,C _ (g q K).2]
 have l1:r.th.length<50:=by have:=v.th.1.len;rw[lQm] at this;omega
 have l2:r.be.length<50:=by have:=v.be.1.len;rw[lQm] at this;omega
 let l3:=v.ds.len
 let kS:=x.lt
 let a2:=(gQs.mp h4).1
 symm
 apply#[by decide,?_]
 let m1:=aV (S:=S) (o:=.lst [])
 have W:Ex k j n S (S++ [.lst []]):=x.here.app
 generalize S++ [.lst []]=S1 at m1 W|-
 apply hV ?_
 refine bB (W.at k2 J) ?_
 refine#[λt l S'=>∃(M u:Option D) (f:List (Str×List Rw)),l= [some (.ref k),some (.ref iw),some (.ref sh),some (.ref od),some (.str r.nm),some (.tup (r.th.map j6)),some (.tup (r.be.map vG)),some (.ref r.at_),M,some (.ref rl),some (.str r.mn),some (.ref S.length),u]/\Ex k j (n+13000*t) S S'/\S'[S.length]?=some (.lst (f.map u5))/\f.map (·.1)=r.ds.take t/\(∀p∈f,∃b:Nat,os[b]?=some (r.nm,p.1)/\(os.drop (b+1)).length<=16/\(∀q∈os.drop (b+1),q.1∈ws/\q.2∈ws)/\Pr (m7 (r.th.map (·.1)) (r.be.map (·.1)) (os.drop (b+1)) (decide (r.mn="when free"))) p.2),?_,λt l S' h=>?_,?_,?_]
 ·exact#[_,_,[],L,W,m1,L,λ_ h=>by cases h]
 ·let#[_,_,_,_,e,_]:=h
  exact e.at k2 J
 ·rintro t d l S' hd ⟨M,u,f,rfl,e2,m2,hde,hpr⟩
  dsimp only at hd
  rw[gQm] at hd
  let#[d,s,rfl]:=oQm.mp hd
  have ht:t<r.ds.length:=(gQs.mp s).1
  let#[b,a1,R,a0]:=Lr (y d (mQg s))
  let P:=e2.at k1 U
  apply bu ?_
  apply Eo ?_
  refine bB P ?_
  apply j2 ?_
  apply DC ?_
  refine bB P ?_
  apply#[L,?_]
  refine#[show 2<=sizeLine by decide,?_]
  apply#[P,jx (r.nm,d),os.map jx,b,Dc (p:=(r.nm,d)) (H _ (y d (mQg s))),Av H,EY _,R,?_]
  refine#[_,L,kd #[#[L,P],?_]]
  rw[show((b:Nat):Int)+1=((b+1:Nat):Int) by omega,Ee,<-List.map_drop]
  symm
  have Y:(os.drop (b+1)).length<=16:=by rw[List.length_drop];omega
  let c3:=aV (S:=S') (o:=.lst ((os.drop (b+1)).map eE))
  have e3:Ex k j (n+13000*t) S (S'++ [.lst ((os.drop (b+1)).map eE)]):=e2.app
  let Z:=aJ (G:= [.lst ((os.drop (b+1)).map eE)]) m2
  have s3:S.length<=S'.length:=e2.len
  generalize S'++ [.lst ((os.drop (b+1)).map eE)]=S3 at c3 e3 Z|-
  apply uB ?_
  apply#[S.length,_,L,Z,?_]
  refine HZ c3 l1 l2 (!0) λS4 c a4 ig ib ik I q1 q2 q3 q4 q5 F=>?_
  have e4:Ex k j (n+13000*t) S S4:=by let#[G,rfl]:=I;exact e3.app
  have m4:S4[S.length]?=some (.lst (f.map u5)):=by let#[G,rfl]:=I;exact aJ Z
  have s4:S.length<=S3.length:=e3.len
  symm
  refine AH e4.here (!0) F (EV (by rw[lQm];exact l1) (by rw[lQm];exact l2) (!0)) (!0) (!0) (!0) (!0) (!0) (!0) (λi hi=>by cases hi) λrs S5 p1 p2 p3 e5 _ _=>?_
  let m5:=e5.at kS m4
  symm
  apply#[show 2<=sizeLine by decide,?_]
  have hl:f.length=t:=by have:=congrArg List.length hde;rw[lQm,Qxq] at this;omega
  refine#[_,m5,mz (by rw[lQm,hl];exact Qqq (show t<60 by omega) (!1)) ?_]
  symm
  refine#[_,_,f++ [(d,rs)],L,((e4.trans e5).put (Qmq _) kS).mono (!0),?_,?_,λp B=>?_]
  ·rw[fM m5,Qzq]
   rfl
  ·rw[Qzq,hde,QYq,s]
   rfl
  ·rcases mQa.mp B with B|B
   ·exact hpr p B
   ·rw[Qfq] at B
    subst B
    exact#[b,a0,Y,λq K=>g q (List.mem_of_mem_drop K),p1,p2,p3]
 rintro l S2 ⟨M,u,f,rfl,e2,m2,hde,hpr⟩
 erw[lQm,QEq] at e2 hde
 have g4:S2[rl]?=some (.lst (m.map Rm.d)):=e2.at (!0) h4
 symm
 apply uB ?_
 apply#[rl,_,L,g4,?_]
 refine bB m2 ?_
 apply#[L,?_]
 apply#[show 5<=sizeLine by decide,?_]
 refine#[_,g4,mz (by rw[lQm];exact Nat.lt_trans X (!1)) ?_]
 symm
 refine q (λz=>([none,none,none,none,some (.str r.nm),some (.tup (r.th.map j6)),some (.tup (r.be.map vG)),some (.ref r.at_),M,none,some (.str r.mn),some (.ref S.length),u]:List (Option D)).getD z none) _ #[r.nm,r.mn,r.th,r.be,f] #[v.nm,v.mn,v.th,v.be,#[?_,hpr],by have:=congrArg List.length hde;rw[lQm] at this;have:=v.dn;show 1<=f.length;omega] L hde (((x.trans e2).put k0 kl).mono (!0)) (λi o h1 h2 U=>dA h2 (e2.at h1 U)) ?_
 ·show Sub ws (f.map (·.1)) 4
  rw[hde]
  exact v.ds
 ·rw[fM g4,Qzq]
  rfl
end
section
variable{k j n iw:Nat}{S S0:aH}{ws:X6}{Q:Res->aH->Prop}
def ou{l:List Nat}:∀d∈l.map (λ(i:Nat)=>D.int i),cy 0 d=true:=λd a=>by
 let#[z,_,rfl]:=Qkq.mp a
 rfl
def Dq(x:Ex k j n S0 S)(hn:n<900000000)(hi:k<iw)(hS:S[iw]?=some (.lst (ws.map D.str)))(hw:ws.length<27)(W:∀w∈ws,PyData.strOk w=true)
  (h:∀(b:List Rm) (os:List (Str×Str)) (S':aH),Sub ws (b.map (·.nm)) 4->(∀r∈b,r.ok ws os)->os.Perm (b.flatMap λr=>r.de.map λp=>(r.nm,p.1))->Ex k j (n+220000) S0 S'->Ex k j (n+220000) S S'->S'.length=S.length->Q (.d (.tup (b.map Rm.d))) S'):Fn iW [.ref k,.ref iw] S Q:=by
 let X:=x.lt
 let il:=(gQs.mp hS).1
 refine cA ?_
 unfold qj
 symm
 apply EN ?_
 apply#[by decide,?_]
 apply#[by decide,?_]
 refine#[_,_,L,?_]
 have s1:((S++ [.lst []])++ [.lst []])[S.length]?=some (.lst ([]:List D)):=aJ aV
 let o1:=aV (S:=S++ [.lst []]) (o:=.lst [])
 rw[show(S++ [O.lst []]).length=S.length+1 by simp] at o1|-
 have M:Ex k j n S ((S++ [.lst []])++ [.lst []]):=x.here.app.app
 have l1:((S++ [O.lst []])++ [O.lst []]).length=S.length+2:=by simp
 generalize (S++ [.lst []])++ [.lst []]=S1 at s1 o1 M l1|-
 apply aU (hV ?_)
 apply#[by decide,?_]
 refine jm M.here (!0) (!1) (!1) (ou (l:= [0,1,1,2,2,3,4])) λd S2 v y2 _=>?_
 let#[m,hm,rfl]:=Qkq.mp (show d∈([0,1,1,2,2,3,4]:List Nat).map (λ(i:Nat)=>D.int i) from v)
 have a1:m<=4:=by
  erw[Qsq,QXq,or_false] at hm
  omega
 let e2:=M.trans y2
 symm
 refine jO y2 (!0) hi (e2.at hi hS) (!0) (!0) (!0) λnames S3 P a3 Z U _ _=>?_
 have e3:Ex k j (n+40) S S3:=(M.trans U).mono (!0)
 have F:Sub ws names 4:=#[P,by omega,Z]
 let a2:=F.len
 symm
 refine#[λi e S'=>∃(a:Nat->Option D) (c:List Sh) (os:List (Str×Str)),e= [some (.ref k),some (.ref iw),some (.ref S.length),some (.ref (S.length+1)),a 4,a 5,a 6,a 7,a 8,a 9,a 10,a 11,a 12]/\Ex k j (n+40+200*i) S S'/\S'[iw]?=some (.lst (ws.map D.str))/\Sg ws S' S.length (S.length+1) i names c os,#[λ_=>none,[],[],L,e3,e3.at hi hS,U.at (!0) s1,U.at (!0) o1,L,λ_ h=>(by cases h),by simp,λ_ h=>(by cases h),λ_ h=>(by cases h),by simp],λ_ _ _ _=>trivial,?_,?_]
 ·rintro i d e S' v ⟨a,c,os,rfl,e4,w4,g⟩
  rw[gQm] at v
  let#[nm,C,rfl]:=oQm.mp v
  have ht:i<names.length:=(gQs.mp C).1
  refine bu ?_
  exact LJ (names:=names) (a:=a) (sh:=S.length) (od:=S.length+1) e4 (!0) hi w4 hw C (F.mem (mQg C)) (!0) (!0) (!0) (Qmq _) X (!0) g λa' a0 I R N w5 u=>#[a',I,R,L,N.mono (!0),w5,u]
 rintro e s ⟨a,c,os,rfl,e4,w4,g⟩
 erw[lQm] at e4 g
 let gl:=g.len
 let gn:=g.nm
 rw[QEq] at gn
 symm
 apply#[by decide,?_]
 let r5:=aV (S:=s) (o:=.lst [])
 have N:Ex k j (n+900) S (s++ [.lst []]):=(e4.app).mono (!0)
 let f1:=aJ (G:= [.lst []]) g.f1
 let f2:=aJ (G:= [.lst []]) g.f2
 have fa:∀r∈c,(s++ [.lst []])[r.at_]?=some (.lst (r.ds.map D.str)):=λr A=>aJ (g.ok r A).2.2
 have fb:∀r∈c,r.at_<s.length:=λr A=>(gQs.mp (g.ok r A).2.2).1
 have fc:S.length+1<s.length:=(gQs.mp g.f2).1
 have fd:c.length=names.length:=by have:=congrArg List.length gn;rwa [lQm] at this
 generalize s++ [.lst []]=S5 at r5 N f1 f2 fa|-
 apply hV ?_
 refine bB f1 ?_
 refine#[λi e S'=>∃(a:Nat->Option D) (b:List Rm),e= [some (.ref k),some (.ref iw),some (.ref S.length),some (.ref (S.length+1)),a 4,a 5,a 6,a 7,a 8,some (.ref s.length),a 10,a 11,a 12]/\Ex k j (n+900+54000*i) S S'/\S'[S.length]?=some (.lst (c.map Sh.d))/\S'[S.length+1]?=some (.lst (os.map eE))/\(∀r∈c,S'[r.at_]?=some (.lst (r.ds.map D.str)))/\S'[s.length]?=some (.lst (b.map Rm.d))/\b.map (·.nm)=names.take i/\(∀r∈b,r.ok ws os)/\(b.flatMap λr=>r.de.map λp=>(r.nm,p.1))=(c.take i).flatMap λr=>r.ds.map λd=>(r.nm,d),#[a,[],L,N,f1,f2,fa,r5,L,λ_ h=>(by cases h),L],λt e S' h=>?_,?_,?_]
 ·let#[_,_,_,_,h,_]:=h;exact h
 ·rintro i d e S' v ⟨a,b,rfl,e6,g1,g2,g3,g4,u,g6,g7⟩
  dsimp only at v
  rw[gQm] at v
  let#[r,A,rfl]:=oQm.mp v
  let q:=mQg A
  have ht:i<c.length:=(gQs.mp A).1
  have rl:b.length=i:=by have:=congrArg List.length u;rw[lQm,Qxq] at this;omega
  refine kG L (aL (bu (aL (bu (aL (bu (aL (bu (aL (bu (c0 ?_)))))))))))
  refine KQ (r:=r) (sh:=S.length) (od:=S.length+1) (rl:=s.length) (a:=a) e6 (!0) W g2 g4 (g.ok r q).1 (g3 r q) (!0) (g.all r q) g.mem (!0) (!0) (by have:=(g.ok r q).2.1;omega) X (!0) λa' a0 rm K z J e7 f r7=>?_
  refine#[a',b++ [rm],L,e7.mono (!0),f _ _ X (!0) g1,f _ _ (!0) (!0) g2,λY B=>f _ _ (by have:=(g.ok Y B).2.1;omega) (by have:=fb Y B;omega) (g3 Y B),r7,?_,λy H=>?_,?_]
  ·rw[Qzq,u,QYq,<-gn,gQm,A]
   simp[z]
  ·rcases mQa.mp H with H|H
   ·exact g6 y H
   ·rw[Qfq] at H;subst H;exact K
  ·rw[List.flatMap_append,g7,QYq,A,List.flatMap_append]
   congr 1
   erw[QSq,List.flatMap_nil,List.append_nil,Option.toList_some,<-J,z,QPq]
   rfl
 rintro e S6 ⟨a,b,rfl,e6,g1,g2,g3,g4,u,g6,g7⟩
 erw[lQm] at e6 u g7
 rw[QEq] at g7
 rw[fd,QEq] at u
 symm
 refine bB g4 ?_
 refine#[L,?_]
 refine kD (e6.mono (show _<=n+220000 by omega)) x ?_ λS7 b1 b2 b3=>h b os _ (by rw[u];exact F) g6 (by rw[g7];exact g.perm) b1 b2 b3
 erw[cy]
 exact cC λr _=>r.low
end
structure Hd where
 th:List (Str×Nat)
 pr:List Rw
def Hd.d(h:Hd):D:=.tup [.tup (h.th.map j6),.tup (h.pr.map Rw.d)]
structure Wr where
 rm:List Rm
 ps:List (Str×Nat)
 op:List (Str×Nat)
 hd:List Hd
def Wr.d(w:Wr):D:=.tup [.tup (w.rm.map Rm.d),.tup (w.ps.map j6),.tup (w.op.map j6),.tup (w.hd.map Hd.d)]
def zu(g d p:Bool):List Str:=((([("say":Str)])++rp g ["put"])++rp d ["do","do"])++rp p ["take","give","pass"]
def CN:∀g d p:Bool,(zu g d p).length<20/\(∀k∈zu g d p,k∈wX)/\(("put":Str)∈zu g d p->g=true)/\(("do":Str)∈zu g d p->d=true)/\(∀k∈(["take","give","pass"]:List Str),k∈zu g d p->p=true)/\∀k∈(["wait","call","all"]:List Str),k∉zu g d p:=by decide +kernel
def iK(a:X6)(ds:List (Str×Str))(ps:X6):Sc:=#[a,a,[],ds,zu (ne a) (!(ds.map eE).isEmpty) (ne ps),ps]
def Cg{b ps:X6}{ds:List (Str×Str)}{l:Nat}(g:b.length<50)(n:ps.length<50)(o:ds.length<50):(iK b ds ps).fit (some l):=by
 let#[f,c,i,d,j,m]:=CN (ne b) (!(ds.map eE).isEmpty) (ne ps)
 refine#[#[by erw[iK];omega,g,by simp[iK],by erw[iK];omega,f,by erw[iK];omega],c,λh=>ne_is (i h),λh=>?_,λk a h=>absurd h (m k (by simpa using a)),λk a h=>#[ne_is (j k (by simpa using a) h),L]]
 have:=d h
 intro e
 have e:ds= []:=e
 subst e
 cases this
def dec_not(p:Prop)[Decidable p]:(if true=true then !decide p else decide p)=decide (¬p):=by by_cases c:p <;>simp[c]
def aO(a:List Rm):List (Str×Str):=a.flatMap λr=>r.de.map λp=>(r.nm,p.1)
structure Hd.ok(ws ps op:X6)(ds:List (Str×Str))(h:Hd):Prop where
 th:Sub (ws.filter λw=>decide (w∉op)) (h.th.map (·.1)) 8/\∀v∈h.th,v.2<10
 pr:Pr (iK (h.th.map (·.1)++op) ds ps) h.pr
structure Wr.ok(ws:X6)(w:Wr):Prop where
 rm:Sub ws (w.rm.map (·.nm)) 4/\∃os:List (Str×Str),(∀r∈w.rm,r.ok ws os)/\os.Perm (aO w.rm)
 ps:Sub (ws.filter λz=>decide (z∉w.rm.map (·.nm))) (w.ps.map (·.1)) 16/\∀v∈w.ps,v.2<10
 op:Sub ws (w.op.map (·.1)) 16/\∀v∈w.op,v.2<10
 hd:1<=w.hd.length/\w.hd.length<=4/\∀h∈w.hd,h.ok ws (w.ps.map (·.1)) (w.op.map (·.1)) (aO w.rm)
section
variable{k j n iw:Nat}{S S0:aH}{ws:X6}{Q:Res->aH->Prop}
def xS{a:List Rm}{os:List (Str×Str)}(h:Sub ws (a.map (·.nm)) 4)(c:∀r∈a,r.ok ws os):(aO a).length<=16:=by
 let f:=h.len
 rw[lQm] at f
 have b:∀l:List Rm,(∀r∈l,r.ok ws os)->(aO l).length<=4*l.length:=by
  intro l
  induction l with
  |nil=>intro _;simp[aO]
  | cons r l e=>
    intro d
    let i:=e λr c=>d r (Qpq _ c)
    let g:=(d r (QBq ..)).de.1.len
    rw[lQm] at g
    erw[aO,QSq,lQa,lQm,Qnq] at i|-
    omega
 have:=b a c
 omega
def DD(x:Ex k j n S0 S)(hn:n<800000000)(hi:k<iw)(hS:S[iw]?=some (.lst (ws.map D.str)))(hw:ws.length<27)(f3:∀w∈ws,PyData.strOk w=true)
  (h:∀(w:Wr) (S':aH),w.ok ws->Ex k j (n+300000) S0 S'->Ex k j (n+300000) S S'->S'.length=S.length->Q (.d w.d) S'):Fn iT [.ref k,.ref iw] S Q:=by
 let kl:=x.lt
 let il:=(gQs.mp hS).1
 refine cA ?_
 unfold qM
 symm
 refine Dq x.here (!0) hi hS hw f3 λc os t J C U e1 _ _=>?_
 let dl:=xS J C
 symm
 apply#[by decide,?_]
 let d2:=aV (S:=t) (o:=.lst [])
 have e2:Ex k j (n+220000) S (t++ [.lst []]):=e1.app
 have c1:S.length<=t.length:=e1.len
 generalize t++ [.lst []]=S2 at d2 e2|-
 apply hV ?_
 refine#[λi f S'=>∃(a:Nat->Option D),f= [some (.ref k),some (.ref iw),some (.tup (c.map Rm.d)),some (.ref t.length),a 4,none,none,none,none,none,none,none,none,none]/\Ex k j (n+220000) S S'/\S'[t.length]?=some (.lst ((aO (c.take i)).map eE)),#[λ_=>none,L,e2,d2],λ_ _ _ _=>trivial,?_,?_]
 ·rintro i d f S' hd ⟨a,rfl,e3,d3⟩
  rw[gQm] at hd
  let#[r,hr,rfl]:=oQm.mp hd
  let f6:=mQg hr
  apply bu ?_
  apply Kt ?_
  refine#[t.length,_,L,d3,?_]
  apply mW (eP (α:=Str×List Rw) (λf=>∃a b,f= [a,b,some r.d]) u5 (λp=>eE (r.nm,p.1)) (λ_=>true) #[none,none,L] (eD ?_))
  apply bE (fZ (i:=4) L) ?_
  let f5:=(C r f6).de.1.len
  rw[lQm] at f5
  have h3:(aO (c.take i)).length<=16:=by
   have:(aO (c.take i)).length<=(aO c).length:=by
    conv=>rhs;rw[<-List.take_append_drop i c]
    erw[aO,List.flatMap_append,lQa]
    omega
   omega
  refine#[r.de,L,trivial,by omega,λp hp f u=>?_,?_]
  ·let#[a,b,rfl]:=u
   apply kG L (aL (bu (aL (bu (c0 #[L,#[_,_,L],jc #[L,L,λ_=>?_]])))))
   apply bE (fZ (i:=0) L) ?_
   exact#[show 2<=sizeLine by decide,L,L]
  rw[Gm]
  refine#[_,d3,#[L,sm (by erw[lQm];omega)],λ_=>some r.d,L,e3.put c1 kl,?_]
  rw[fM d3]
  rw[QYq,hr]
  simp[aO,QPq]
 rintro f S3 ⟨a,rfl,e3,d3⟩
 rw[lQm,QEq] at d3
 symm
 apply eP (α:=Str) (λf=>∃a,f= [a,some (.tup (c.map Rm.d))]) D.str D.str (λw=>decide (w∉c.map (·.nm))) #[none,L] (eD ?_)
 refine bB (e3.at hi hS) ?_
 refine#[ws,L,e3.at hi hS,by omega,λw _ f u=>?_,?_]
 ·let#[a,rfl]:=u
  apply bu #[L,#[_,L],?_]
  apply kJ ?_
  apply eP (α:=Rm) (λf=>∃a,f= [a]) Rm.d (λr=>.str r.nm) (λ_=>true) #[none,L] (eD ?_)
  let h4:=J.len
  rw[lQm] at h4
  refine#[c,L,trivial,by omega,λr _ f u=>?_,?_]
  ·let#[a,rfl]:=u
   apply bu #[L,#[_,L],jc #[L,L,λ_=>?_]]
   exact bE (fZ (i:=0) L) #[L,L]
  rw[Gm]
  refine#[w,c.map (·.nm),L,by rw[QPq];rfl,?_]
  apply#[L,dec_not _,λ_=>?_]
  exact#[L,L]
 have lf:(ws.filter λw=>decide (w∉c.map (·.nm))).length<27:=by have:=List.length_filter_le (λw=>decide (w∉c.map (·.nm))) ws;omega
 symm
 let f4:=aV (S:=S3) (o:=.lst ((ws.filter λw=>decide (w∉c.map (·.nm))).map D.str))
 have e4:Ex k j (n+220000) S (S3++ [.lst ((ws.filter λw=>decide (w∉c.map (·.nm))).map D.str)]):=e3.app
 let d4:=aJ (G:= [.lst ((ws.filter λw=>decide (w∉c.map (·.nm))).map D.str)]) d3
 have c3:S.length<=S3.length:=e3.len
 generalize S3++ [.lst ((ws.filter λw=>decide (w∉c.map (·.nm))).map D.str)]=S4 at f4 e4 d4|-
 apply#[by decide,?_]
 refine jm e4.here (!0) (!1) (!1) (ou (l:= [0,0,1,2,3,16])) λz S5 hz y5 _=>?_
 let#[m1,d8,rfl]:=Qkq.mp (show z∈([0,0,1,2,3,16]:List Nat).map (λ(i:Nat)=>D.int i) from hz)
 have d8:m1<=16:=by
  erw[Qsq,QXq,or_false] at d8
  omega
 symm
 refine jO y5 (!0) (!0) (y5.at (!0) f4) (!0) (!0) (!0) λv s q1 q2 q3 y6 _ _=>?_
 have H:Sub (ws.filter λw=>decide (w∉c.map (·.nm))) v 16:=#[q1,by omega,q3]
 have y6:Ex k j (n+220040) S4 s:=y6.mono (!0)
 symm
 let p7:=aV (S:=s) (o:=.lst (v.map D.str))
 have e7:Ex k j (n+220040) S (s++ [.lst (v.map D.str)]):=(e4.trans y6).app
 let d7:=aJ (G:= [.lst (v.map D.str)]) (y6.at (!0) d4)
 have c6:S.length<=s.length:=(e4.trans y6).len
 have h6:t.length<s.length:=(gQs.mp (y6.at (!0) d4)).1
 generalize s++ [.lst (v.map D.str)]=S7 at p7 e7 d7|-
 apply#[by decide,?_]
 refine jm e7.here (!0) (!1) (!1) (ou (l:= [0,0,1,2,16])) λz S8 hz y8 _=>?_
 let#[m2,a6,rfl]:=Qkq.mp (show z∈([0,0,1,2,16]:List Nat).map (λ(i:Nat)=>D.int i) from hz)
 have a6:m2<=16:=by
  erw[Qsq,QXq,or_false] at a6
  omega
 symm
 refine jO y8 (!0) hi ((e7.trans y8).at hi hS) (!0) (!0) (!0) λm K q4 q5 q6 y9 _ _=>?_
 have F:Sub ws m 16:=#[q4,by omega,q6]
 have y9:Ex k j (n+220080) S7 K:=y9.mono (!0)
 symm
 let W:=aV (S:=K) (o:=.lst (m.map D.str))
 have c5:Ex k j (n+220080) S (K++ [.lst (m.map D.str)]):=(e7.trans y9).app
 let e6:=aJ (G:= [.lst (m.map D.str)]) (y9.at (!0) d7)
 let a2:=aJ (G:= [.lst (m.map D.str)]) (y9.at (!0) p7)
 have c9:s.length<K.length:=(gQs.mp (y9.at (!0) p7)).1
 generalize K++ [.lst (m.map D.str)]=S10 at W c5 e6 a2|-
 apply#[by decide,?_]
 let d9:=aV (S:=S10) (o:=.lst [])
 have Z:Ex k j (n+220080) S (S10++ [.lst []]):=c5.app
 let a1:=aJ (G:= [.lst []]) e6
 let d1:=aJ (G:= [.lst []]) a2
 let b0:=aJ (G:= [.lst []]) W
 have h7:K.length<S10.length:=(gQs.mp W).1
 generalize S10++ [.lst []]=S11 at d9 Z a1 d1 b0|-
 have kk:∀{r:Nat},S.length<=r->k<r:=λh=>by omega
 apply hV ?_
 apply cG Z.here (!0) (!1) (!1) λmh i7 h8 I _ _=>?_
 refine#[_,L,#[by omega,by omega],?_]
 refine⟨λi f S'=>∃(a:Nat->Option D) (B:List Hd),f= [some (.ref k),some (.ref iw),some (.tup (c.map Rm.d)),some (.ref t.length),a 4,some (.ref S3.length),some (.ref s.length),some (.ref K.length),some (.ref S10.length),a 9,a 10,a 11,a 12,a 13]/\Ex k j (n+220090+14000*i) S S'/\S'[t.length]?=some (.lst ((aO c).map eE))/\S'[s.length]?=some (.lst (v.map D.str))/\S'[K.length]?=some (.lst (m.map D.str))/\S'[S10.length]?=some (.lst (B.map Hd.d))/\B.length=i/\∀h∈B,h.ok ws v m (aO c),
  #[λz=>([none,none,none,none,a 4]:List (Option D)).getD z none,[],L,(Z.trans I).mono (!0),I.at (kk c1) a1,I.at (!0) d1,I.at (!0) b0,I.at (!0) d9,L,λ_ h=>(by cases h)],λ_ _ _ _=>trivial,?_,?_⟩
 ·rintro i d f S' hd ⟨a,B,rfl,e,dd,pp,oo,hh,hl,hok2⟩
  let#[ht,rfl]:=tO hd
  apply bu ?_
  apply eP (α:=Str) (λf=>∃a,f= [a,some (.ref K.length)]) D.str D.str (λw=>decide (w∉m)) #[none,L] (eD ?_)
  refine bB (e.at hi hS) ?_
  refine#[ws,L,e.at hi hS,by omega,λw _ f u=>?_,?_]
  ·let#[a,rfl]:=u
   apply bu #[L,#[_,L],?_]
   apply kJ ?_
   refine bB oo ?_
   refine#[w,m,L,L,?_]
   apply#[L,dec_not _,λ_=>?_]
   exact#[L,L]
  have h5:(ws.filter λw=>decide (w∉m)).length<27:=by have:=List.length_filter_le (λw=>decide (w∉m)) ws;omega
  symm
  let f1:=aV (S:=S') (o:=.lst ((ws.filter λw=>decide (w∉m)).map D.str))
  have g1:Ex k j (n+220090+14000*i) S' (S'++ [.lst ((ws.filter λw=>decide (w∉m)).map D.str)]):=e.here.app
  have b1:S10.length<S'.length:=(gQs.mp hh).1
  generalize S'++ [.lst ((ws.filter λw=>decide (w∉m)).map D.str)]=T1 at f1 g1|-
  apply#[by decide,?_]
  refine jm g1 (!0) (!1) (!1) (ou (l:= [0,1,2,8])) λz T2 hz g2 f8=>?_
  let#[m3,d5,rfl]:=Qkq.mp (show z∈([0,1,2,8]:List Nat).map (λ(i:Nat)=>D.int i) from hz)
  have d5:m3<=8:=by
   erw[Qsq,QXq,or_false] at d5
   omega
  symm
  refine jO g2 (!0) (!0) (f8.at (!0) f1) (!0) (!0) (!0) λq P w1 w2 w3 g3 _ _=>?_
  have R:Sub (ws.filter λw=>decide (w∉m)) q 8:=⟨w1,by omega,w3⟩
  have g3:Ex k j (n+220090+14000*i+40) S' P:=g3.mono (!0)
  have b3:S'.length<=P.length:=g3.len
  let lo:=F.len
  let lw:=R.len
  let lp:=H.len
  symm
  let w4:=aV (S:=P) (o:=.lst (q.map D.str))
  have g4:Ex k j (n+220090+14000*i+40) S' (P++ [.lst (q.map D.str)]):=g3.app
  generalize P++ [.lst (q.map D.str)]=T4 at w4 g4|-
  have b4:P.length<T4.length:=(gQs.mp w4).1
  apply ju ?_
  apply bB w4 ?_
  refine bB (g4.at (!0) oo) ?_
  refine⟨⟨rfl,L,w4,sm (by erw[lQm];omega)⟩,?_⟩
  obtain⟨g,a0⟩:∃g,g=q++m:=#[_,L]
  have g0:g.length=q.length+m.length:=by rw[a0,lQa]
  rw[show((q.map D.str,Tag.st P.length).1++(m.map D.str,Tag.st K.length).1)=g.map D.str by rw[a0,Qzq]]
  symm
  let w5:=aV (S:=T4) (o:=.lst (g.map D.str))
  let e5:=aJ (G:= [.lst (g.map D.str)]) w4
  have g5:Ex k j (n+220090+14000*i+40) S' (T4++ [.lst (g.map D.str)]):=g4.app
  generalize T4++ [.lst (g.map D.str)]=T5 at w5 e5 g5|-
  have b5:T4.length<T5.length:=(gQs.mp w5).1
  apply ju ?_
  apply ju ?_
  refine#[by decide,?_]
  refine p0 (lits:= ["put"]) (mD (fs:= ["put"]) L (!1)) (!1) L w5 ?_
  refine#[#[L,L,trivial,sm (by have:= @fg (!(g.map D.str).isEmpty) ["put"];erw[Qnq,QGq,lQm] at this|-;omega)],?_]
  refine p0 (lits:= ["do","do"]) (mD (fs:= ["do","do"]) L (!1)) (!1) L (g5.at (!0) dd) ?_
  refine#[#[L,L,trivial,sm (by have:= @fg (!(g.map D.str).isEmpty) ["put"];have:= @fg (!((aO c).map eE).isEmpty) ["do","do"];erw[Qnq,QGq,lQm,lQa] at *;omega)],?_]
  have ek:([D.str "say"]++(rp (!(g.map D.str).isEmpty) ["put"]).map D.str)++(rp (!((aO c).map eE).isEmpty) ["do","do"]).map D.str=((([("say":Str)]++rp (ne g) ["put"])++rp (!((aO c).map eE).isEmpty) ["do","do"])).map D.str:=by erw[Qzq];rfl
  rw[ek]
  have lk:((([("say":Str)]++rp (ne g) ["put"])++rp (!((aO c).map eE).isEmpty) ["do","do"])).length<=4:=by have:= @fg (ne g) ["put"];have:= @fg (!((aO c).map eE).isEmpty) ["do","do"];erw[Qnq,QGq,lQa] at *;omega
  generalize hK:((([("say":Str)]++rp (ne g) ["put"])++rp (!((aO c).map eE).isEmpty) ["do","do"]))=K1 at lk|-
  symm
  let w6:=aV (S:=T5) (o:=.lst (K1.map D.str))
  let b9:=aJ (G:= [.lst (K1.map D.str)]) w5
  let d6:=aJ (G:= [.lst (K1.map D.str)]) e5
  have g6:Ex k j (n+220090+14000*i+40) S' (T5++ [.lst (K1.map D.str)]):=g5.app
  generalize T5++ [.lst (K1.map D.str)]=T6 at w6 b9 d6 g6|-
  have b6:T5.length<T6.length:=(gQs.mp w6).1
  apply ju ?_
  refine bB w6 ?_
  refine p0 (lits:= ["take","give","pass"]) (mD (fs:= ["take","give","pass"]) L (!1)) (!1) L (g6.at (!0) pp) ?_
  refine#[#[L,L,w6,sm (by have:= @fg (!(v.map D.str).isEmpty) ["take","give","pass"];erw[Qnq,QGq,lQm] at *;omega)],?_]
  have e8:K1.map D.str++(rp (!(v.map D.str).isEmpty) ["take","give","pass"]).map D.str=(zu (ne g) (!((aO c).map eE).isEmpty) (ne v)).map D.str:=by
   erw[zu,hK,Qzq]
   rfl
  rw[e8]
  generalize h0:zu (ne g) (!((aO c).map eE).isEmpty) (ne v)=K2
  symm
  let w7:=aV (S:=T6) (o:=.lst (K2.map D.str))
  let a5:=aJ (G:= [.lst (K2.map D.str)]) b9
  let e0:=aJ (G:= [.lst (K2.map D.str)]) d6
  have g7:Ex k j (n+220090+14000*i+40) S' (T6++ [.lst (K2.map D.str)]):=g6.app
  generalize T6++ [.lst (K2.map D.str)]=T7 at w7 a5 e0 g7|-
  have b7:T6.length<T7.length:=(gQs.mp w7).1
  apply Fs ?_
  apply#[by decide,?_]
  let w8:=aV (S:=T7) (o:=.lst [])
  let c8:=aJ (G:= [.lst []]) w7
  let Y:=aJ (G:= [.lst []]) a5
  let a3:=aJ (G:= [.lst []]) e0
  have g8:Ex k j (n+220090+14000*i+40) S' (T7++ [.lst []]):=g7.app
  generalize T7++ [.lst []]=T8 at w8 c8 Y a3 g8|-
  have b8:T7.length<T8.length:=(gQs.mp w8).1
  have f7:(iK g (aO c) v).fit (some s.length):=Cg (!0) (!0) (!0)
  let w9:=aV (S:=T8) (o:=.dct (fQ [] ((([("words":Str),"goals","bells","does","kinds","passes"]).map (Sum.inr:Str->Key)).zip [D.ref T4.length,D.ref T4.length,D.ref T7.length,D.ref t.length,D.ref T6.length,D.ref s.length])))
  let g9:=g8.app (G:= [.dct (fQ [] ((([("words":Str),"goals","bells","does","kinds","passes"]).map (Sum.inr:Str->Key)).zip [D.ref T4.length,D.ref T4.length,D.ref T7.length,D.ref t.length,D.ref T6.length,D.ref s.length]))])
  have a4:At (T8++ [.dct (fQ [] ((([("words":Str),"goals","bells","does","kinds","passes"]).map (Sum.inr:Str->Key)).zip [D.ref T4.length,D.ref T4.length,D.ref T7.length,D.ref t.length,D.ref T6.length,D.ref s.length]))]) T8.length T4.length T4.length T7.length t.length T6.length (some s.length) (iK g (aO c) v):=
   #[#[_,w9,L,L,L,L,L,λi hi=>by cases hi;rfl],aJ Y,aJ Y,aJ w8,aJ (g8.at (kk c1) dd),by rw[show(iK g (aO c) v).ks=K2 from h0];exact aJ c8,λi hi=>by cases hi;exact aJ (g8.at (!0) pp)]
  let c7:=aJ (G:= [.dct (fQ [] ((([("words":Str),"goals","bells","does","kinds","passes"]).map (Sum.inr:Str->Key)).zip [D.ref T4.length,D.ref T4.length,D.ref T7.length,D.ref t.length,D.ref T6.length,D.ref s.length]))]) a3
  generalize T8++ [.dct (fQ [] ((([("words":Str),"goals","bells","does","kinds","passes"]).map (Sum.inr:Str->Key)).zip [D.ref T4.length,D.ref T4.length,D.ref T7.length,D.ref t.length,D.ref T6.length,D.ref s.length]))]=T9 at w9 g9 a4 c7|-
  apply uB ?_
  apply#[S10.length,_,L,g9.at (!0) hh,?_]
  refine lP (ws:=q) g9.here (!0) (!0) c7 (!0) λvs j1 v1 v2 N _ _=>?_
  subst v1
  rw[lQm] at N lw g0
  let c2:=a4.ex N (!0) (!0) (!0) (!0) (kk c1) (!0) (λi hi=>by cases hi;omega)
  symm
  refine AH N.here (!0) c2 f7 (!0) (!0) (!0) (!0) (kk c1) (!0) (λi hi=>by cases hi;omega) λrs j0 p1 p2 p3 e9 _ _=>?_
  let A:=(g9.trans N).trans e9
  symm
  apply#[show 2<=sizeLine by decide,?_]
  refine#[_,A.at (!0) hh,mz (by rw[lQm,hl];exact Qqq (show i<60 by omega) (!1)) ?_]
  symm
  refine#[λz=>([none,none,none,none,a 4,none,none,none,none,some (.int i),some (.ref P.length),some (.ref T4.length),some (.ref T6.length),some (.ref T8.length)]:List (Option D)).getD z none,B++ [#[vs,rs]],L,((e.trans A).put (!0) kl).mono (!0),dA (!0) (A.at (kk c1) dd),dA (!0) (A.at (!0) pp),dA (!0) (A.at (!0) oo),?_,by simp[hl],λy hy=>?_]
  ·rw[fM (A.at (!0) hh),Qzq]
   rfl
  ·rcases mQa.mp hy with hy|hy
   ·exact hok2 y hy
   ·rw[Qfq] at hy
    subst hy
    exact#[#[R,v2],by rw[<-a0];exact#[p1,p2,p3]]
 rintro f i4 ⟨a,B,rfl,e,dd,pp,oo,hh,hl,hok2⟩
 have i1:(B.length:Int)=1+(mh:Int):=by rw[hl,rL (!0)]
 have f2:1<=B.length:=by omega
 have f9:B.length<=4:=by omega
 let lo:=F.len
 let lp:=H.len
 rw[<-hl] at e
 symm
 refine lP e.here (!0) (!0) pp (!0) λvp i5 u1 u2 M _ _=>?_
 subst u1
 rw[lQm] at M lp
 let c4:=e.trans M
 symm
 refine lP c4.here (!0) (!0) (M.at (!0) oo) (!0) λvo h9 u3 u4 X _ _=>?_
 subst u3
 rw[lQm] at X lo
 let f0:=c4.trans X
 symm
 refine bB ((M.trans X).at (!0) hh) ?_
 apply#[L,?_]
 refine#[show 4<=sizeLine by decide,?_]
 refine kD (d:=(Wr.mk c vp vo B).d) (f0.mono (show _<=n+300000 by omega)) x ?_ λi2 b1 b2 b3=>h #[c,vp,vo,B] _ #[#[J,os,C,U],#[H,u2],#[F,u4],f2,f9,hok2] b1 b2 b3
 have l1:bz 0 (c.map Rm.d)=true:=cC λr _=>r.low
 have l2:bz 0 (vp.map j6)=true:=cC λ_ _=>rfl
 have l3:bz 0 (vo.map j6)=true:=cC λ_ _=>rfl
 have l4:bz 0 (B.map Hd.d)=true:=cC λh _=>by
  have h1:bz 0 (h.th.map j6)=true:=cC λ_ _=>rfl
  let h2:=yR h.pr
  erw[cy] at h2
  erw[Hd.d,cy,bz,h1,h2,Bool.and_true]
 erw[Wr.d,cy,bz,l1,l2,l3,l4,Bool.and_true]
end
end W28
namespace DL
open PySem PySem.Spec L2
def Hh{i j:Int}{Q:D->Prop}(h:DU i j)(q:Q (.int (i^j.toNat))):Op (De S (.int i) (.int j)) Q:=#[_,by erw[De,intD];rw[Qhq h],q]
def wz{S:aH}{k:Nat}{ds:List D}{Q:List D×Tag->Prop}(a:S[k]?=some (.frz ds))(q:Q (ds,.fz k)):Op (mS S (.ref k)) Q:=#[_,by erw[mS,a],q]
end DL
namespace W28
open PySem PySem.Spec L2 DL
section
variable{S:aH}{Q:Res->aH->Prop}
def Jg{ns:List Int}{i:Nat}(f:S[i]?=some (.frz (ns.map D.int)))(s:ns.length<=63)(q:∀(n:List Int) (b:Int),n.length<64->Q (.l [.ref S.length,.int b,.int 0]) (S++ [kz n])):Fn lJ [.ref i] S Q:=by
 refine LR ?_
 unfold vm
 symm
 apply wz f ?_
 have m:∀l:List D,lh l none (some 63)=l.take 63:=λl=>by
  unfold lh
  rw[HT.nK,show(some (63:Int))=some ((63:Nat):Int) from L,HT.rV,List.drop_zero,Nat.sub_zero]
  by_cases h:l.length<=63
  ·rw[Nat.min_eq_right h,List.take_of_length_le (Qmq _),List.take_of_length_le h]
  ·rw[Nat.min_eq_left (!0)]
 have p:(ns.map D.int).take 63=ns.map D.int:=List.take_of_length_le (by rw[lQm];exact s)
 apply hV ?_
 apply Eo ?_
 apply wz f (kd (j2 ?_))
 refine#[63,L,#[L,f],?_]
 rw[m,p]
 refine#[λt e j=>∃(b:Int) (o:Option D),(0<=b/\b<2305843009213693951)/\e= [some (.ref i),some (.int b),o]/\j=S,#[_,_,#[?_,?_],L,L],λ_ _ _ _=>trivial,?_,?_]
 ·erw[lQm];omega
 ·erw[lQm];omega
 ·rintro t d e j k ⟨b,o,r,rfl,rfl⟩
  rw[gQm] at k
  let#[z,_,rfl]:=oQm.mp k
  apply bu ?_
  apply qy (.inl #[by omega,by omega]) ?_
  refine Hh #[by decide,by decide,by decide] ?_
  apply nZ (by decide +kernel) ?_
  refine nZ (!1) ?_
  exact#[_,_,#[Int.emod_nonneg _ (!1),Int.emod_lt_of_pos _ (!1)],L,L]
 rintro e j ⟨b,o,r,rfl,rfl⟩
 symm
 apply eP (α:=Int) (λe=>∃a,e= [a]) D.int D.int (λc=>decide ((10:Int)^(18:Int).toNat<=c)) #[none,L] (eD ?_)
 apply Eo ?_
 apply wz f (kd (j2 ?_))
 refine#[63,L,#[L,f],?_]
 rw[m,p]
 refine#[ns,L,trivial,by omega,λc _ e g=>?_,?_]
 ·let#[a,rfl]:=g
  apply bu #[L,#[_,L],?_]
  apply Hh #[by decide,by decide,by decide] ?_
  apply#[L,L,λ_=>?_]
  exact#[L,L]
 symm
 refine#[show 3<=sizeLine by decide,?_]
 exact q _ _ (Nat.lt_of_le_of_lt (List.length_filter_le _ _) (!0))
end
end W28
namespace DL
open PySem PySem.Spec L2
section
variable{Γ:cI}{S:aH}
def vn{f g:bc}{Q:D->aH->Prop}(h:E f Γ S λd a=>∃k,d=.bl k/\if k=true then Q (.bl true) a else E g Γ a Q):E (G7 f g) Γ S Q:=by
 let#[d,a,b,k,rfl,q]:=h
 cases k with
 |true=>exact#[_,a,by unfold G7;rw[b];rfl,q]
 |false=>let#[j,c,e,q]:=(q:E g Γ a Q);exact#[j,c,by unfold G7;rw[b];exact e,q]
def Da{f:bc}{Q:D->aH->Prop}(h:E f Γ S λd a=>∃k,d=.bl k/\Q (.bl (!k)) a):E (E_ f) Γ S Q:=by
 let#[d,a,b,k,rfl,q]:=h
 exact#[_,a,by unfold E_;rw[b];rfl,q]
def oA{o o':ni}{f g h:bc}{Q:D->aH->Prop}(w:E f Γ S λx j=>E g Γ j λy a=>Op (o a x y) λd=>∃k,d=.bl k/\if k=true then E h Γ a λz b=>Op (o' b y z) λd'=>Q d' b else Q (.bl false) a):E (h_ o o' f g h) Γ S Q:=by
 let#[x,j,e,y,a,c,d,i,k,rfl,q]:=w
 cases k with
 | true=>
   rw[Qhq L] at q
   let#[z,b,m,d',l,q]:=q
   exact#[d',b,by unfold h_;rw[e];erw[Qbq,c,i,m,l],q]
 | false=>
   rw[Quq (!1)] at q
   exact#[_,a,by unfold h_;rw[e];erw[Qbq,c,i],q]
def Hw{f:eF}{Q:D->aH->Prop}(h:E f Γ S λp a=>p.2.isL=true/\∃bs,F2 p.1=some bs/\Q (.bl (bs.all id)) a):E (i6 f) Γ S Q:=by
 let#[p,a,b,l,bs,c,q]:=h
 exact#[_,a,by unfold i6;rw[b];erw[Qbq];rw[Qhq l,c];rfl,q]
def GV{f:eF}{Q:D->aH->Prop}(h:E f Γ S λp a=>p.2.isL=true/\∃bs,F2 p.1=some bs/\Q (.bl (bs.any id)) a):E (yt f) Γ S Q:=by
 let#[p,a,b,l,bs,c,q]:=h
 exact#[_,a,by unfold yt;rw[b];erw[Qbq];rw[Qhq l,c];rfl,q]
theorem oD{α:Type}{f:α->Bool}:∀l:List α,F2 (l.map λx=>.bl (f x))=some (l.map f)
 | []=>rfl
 | a::l=>by
   erw[QDq,F2]
   rw[oD l]
   rfl
def F6{f:bc}{lo hi:GG}{Q:D->aH->Prop}(h:E f Γ S λd c=>E lo Γ c λl b=>E hi Γ b λu a=>∃ds,d=.tup ds/\Q (.tup (lh ds l u)) a):E (GP f lo hi) Γ S Q:=by
 let#[d,c,e,l,b,i,u,a,g,ds,rfl,q]:=h
 exact#[_,a,by unfold GP;rw[e];erw[Qbq];rw[i];erw[Qbq];rw[g];rfl,q]
def cK{T:String}{f:bc}{Q:D->aH->Prop}(h:E f Γ S λd a=>Op (Jw a T d) λk=>Q (.bl k) a):E (jo T f) Γ S Q:=by
 let#[d,a,b,k,c,q]:=h
 exact#[_,a,by unfold jo;rw[b];erw[Qbq];rw[c];rfl,q]
def KB{a:Bool}{f:bc}{g:eF}{Q:D->aH->Prop}(h:E f Γ S λx c=>E g Γ c λp b=>∃v vs,iX x=some v/\gh p.1=some vs/\v.depth<=60/\Q (.bl (if a then !vs.any (PyData.eqv · v) else vs.any (PyData.eqv · v))) b):E (KI a f g) Γ S Q:=by
 let#[x,c,d,p,b,k,v,vs,i,e,j,q]:=h
 exact#[_,b,by unfold KI;rw[d];erw[Qbq];rw[k];erw[Qbq];rw[i,e];erw[Qbq];rw[Qhq j],q]
def G5{a:Bool}{x:D}{Q:D->Prop}(q:Q (.bl (if a then !isNone x else isNone x))):Op (Fz a S x .non) Q:=#[_,L,q]
def bf{b:Bool}{Q:Bool->Prop}(q:Q b):Op (Ai S (.bl b)) Q:=#[_,L,q]
def ug{i j:Int}{Q:D->Prop}(q:Q (.bl (decide (i<=j)))):Op (CY S (.int i) (.int j)) Q:=#[_,L,q]
def fO{α:Type}{js:List (Option Nat)}{i:qh}{g:kA}{f:bc}{Q:D->aH->Prop}(P:cI->Prop)(d:α->D)(b:α->Bool)(m:P (oF js Γ)) (h:E i Γ S λp e=>∃xs:List α,p.1=xs.map d/\p.2 e/\xs.length<=1000∧
   (∀x∈xs,∀a,P a->Tg g (d x) a e λc j=>j=e/\P c/\E f c e λy w=>y=.bl (b x)/\w=e)/\Q (.bl (xs.all b)) e):E (i6 (eo (bT js i g b_ f))) Γ S Q:=by
 refine Hw (mW (eP P d (λx=>.bl (b x)) (λ_=>true) m (h.mono λp e ⟨xs,o,l,t,n,q⟩=>#[xs,o,l,t,λx u a k=>?_,?_])))
 ·let#[c,j,v,s,z,r]:=n x u a k
  exact#[c,j,v,s,z,jc #[L,L,λ_=>r]]
 ·refine#[L,xs.map b,?_,?_]
  ·rw[List.filter_eq_self.mpr λ_ _=>rfl]
   exact oD xs
  ·rw[List.all_map]
   exact q
def zN{α:Type}{js:List (Option Nat)}{i:qh}{g:kA}{f:bc}{Q:D->aH->Prop}(P:cI->Prop)(d:α->D)(b:α->Bool)(m:P (oF js Γ)) (h:E i Γ S λp e=>∃xs:List α,p.1=xs.map d/\p.2 e/\xs.length<=1000∧
   (∀x∈xs,∀a,P a->Tg g (d x) a e λc j=>j=e/\P c/\E f c e λy w=>y=.bl (b x)/\w=e)/\Q (.bl (xs.any b)) e):E (yt (eo (bT js i g b_ f))) Γ S Q:=by
 refine GV (mW (eP P d (λx=>.bl (b x)) (λ_=>true) m (h.mono λp e ⟨xs,o,l,t,n,q⟩=>#[xs,o,l,t,λx u a k=>?_,?_])))
 ·let#[c,j,v,s,z,r]:=n x u a k
  exact#[c,j,v,s,z,jc #[L,L,λ_=>r]]
 ·refine#[L,xs.map b,?_,?_]
  ·rw[List.filter_eq_self.mpr λ_ _=>rfl]
   exact oD xs
  ·rw[List.any_map]
   exact q
end
end DL
namespace W28
open PySem PySem.Spec L2 DL
section
variable{S:aH}{Q:Res->aH->Prop}
def FE{d:D}(a:cy 0 d=true)(q:Q (.d d) S):Op (settle S d S) λp=>Q p.1 p.2:=gY tZ (QEq) (λk e=>by subst e;simp[cy] at a) (kK a) q
def eB{b:Bool}(q:Q (.d (.bl b)) S):Op (settle S (.bl b) S) λp=>Q p.1 p.2:=FE L q
def yC{i:Int}(q:Q (.d (.bl true)) S):Fn gW [.int i] S Q:=by
 refine cA ?_
 unfold pQ
 symm
 refine dB (cK (av L (dJ L #[_,L,aC (λ_=>?_) (λc=>(by cases c))])))
 refine Da (cK (av L (dJ L #[_,L,?_])))
 exact eB q
def sk{v:Nat}(hv:v<10)(q:Q (.d (.bl true)) S):Fn fT [.int v] S Q:=by
 refine cA ?_
 unfold pz
 symm
 refine dB (aS (ay (av L (aI (yC #[_,L,aC (λ_=>?_) (λc=>(by cases c))])))))
 refine oA (bM (av L (ug #[_,L,aC (λ_=>?_) (λc=>?_)])))
 ·refine bM (ug ?_)
  rw[Qeq (show(v:Int)<=9 by omega)]
  exact eB q
 ·exact absurd c (by simp)
def Ew{x:Str}(q:Q (.d (.bl false)) S):Fn gW [.str x] S Q:=by
 refine cA ?_
 unfold pQ
 symm
 exact dB (cK (av L (dJ L #[_,L,aC (λc=>(by cases c)) (λ_=>eB q)])))
def C_{x:Str}(q:Q (.d (.bl false)) S):Fn fT [.str x] S Q:=by
 refine cA ?_
 unfold pz
 symm
 exact dB (aS (ay (av L (aI (Ew #[_,L,aC (λc=>(by cases c)) (λ_=>eB q)])))))
def lX(x:Str):Bool:=decide (1<=x.length)&&decide (x.length<=8)&&x.cps.toList.all λc=> !(Builtin.Str.occurrences lets ⟨(List.toArray [c])⟩ 0 lets.length 1).isEmpty
def Ml:∀i,i<26->∀j,j<5->lX (nm i j)=true:=by decide +kernel
def i9.wd{x:Str}(h:i9 x):lX x=true:=by let#[i,j,b,a,rfl]:=h;exact Ml i b j a
def D8:lX "given"=true:=by decide +kernel
def n0{x:Str}(h:lX x=true)(q:Q (.d (.bl true)) S):Fn gk [.str x] S Q:=by
 erw[lX,QCq,decide_eq_true_eq] at h
 let#[#[i,f],g]:=h
 refine cA ?_
 unfold zd
 refine aU (bO (fi (bF (bH (cK (av L (dJ L (bf ?_))))))))
 refine aC (λc=>(by cases c)) (λ_=>?_)
 refine bF (bj (oA (bM (Hz (av L ?_)))))
 refine#[x.length,by erw[AN];rw[Qhq (QAq f (!1))],?_]
 refine ug #[_,L,aC (λ_=>?_) (λc=>?_)]
 ·refine bM (ug ?_)
  rw[Qeq (show(x.length:Int)<=8 by omega)]
  refine aC (λc=>(by cases c)) (λ_=>cN ?_)
  refine cb (fO (α:=Nat) (λb=>∃a,b= [a]) (λc=>.str #[(List.toArray [c])]) (λc=> !(Builtin.Str.occurrences lets ⟨(List.toArray [c])⟩ 0 lets.length 1).isEmpty) ⟨none,L⟩ (JJ (av L ⟨x,L,x.cps.toList,L,trivial,?_,λc j b e=>?_,?_⟩)))
  ·have:x.cps.toList.length=x.length:=rfl
   omega
  ·let#[a,rfl]:=e
   exact bu #[L,#[_,L],a_ (av L (bM (K6 #[L,L])))]
  ·rw[g]
   exact eB q
 ·exact absurd c (by rw[Qeq (show(1:Int)<=(x.length:Int) by omega)];decide)
def BM{f:Str}(h:f∈two)(q:Q (.d (.int 2)) S):Fn fA [.str f] S Q:=by
 refine cA ?_
 unfold kb
 refine aU (bO (bj (kJ (av L (bq (bM #[_,L,f,gZ,L,L,?_]))))))
 rw[Quq (!1),Qeq (show f∈gZ from h)]
 exact aC (λ_=>cb (bM (FE L q))) (λc=>(by cases c))
def Ck(q:Q (.d (.int 1)) S):Fn fA [.str "not"] S Q:=by
 refine cA ?_
 unfold kb
 refine aU (bO (bj (kJ (av L (bq (bM #[_,L,"not",gZ,L,L,?_]))))))
 rw[Quq (!1),Qdq (by decide +kernel)]
 refine aC (λc=>(by cases c)) (λ_=>cN ?_)
 exact cb (Mi (bj (a_ (av L (bM (cw (aC (λ_=>bM (FE L q)) (λc=>absurd c (by decide +kernel)))))))))
end
def HS{xs:List D}{x:D}:lh (x::xs) (some 1) none=xs:=by
 unfold lh
 rw[show(some (1:Int))=some ((1:Nat):Int) from L,HT.rV,HT.nK]
 simp
def vi{S:aH}{i j:Int}{Q:D->Prop}(q:Q (.bl (!decide (i=j)))):Op (iQ true S (.int i) (.int j)) Q:=#[_,by refine((if_pos (c:=yM (.int i) (.int j)=true) (e:=none) rfl).trans ?_);simp,q]
def Hk{S:aH}{i j:Str}{Q:D->Prop}(q:Q (.bl (!decide (i=j)))):Op (iQ true S (.str i) (.str j)) Q:=#[_,by refine((if_pos (c:=yM (.str i) (.str j)=true) (e:=none) rfl).trans ?_);simp,q]
section
variable{ws bs:X6}
def DZ:∀f∈two,f≠"waits":=by decide +kernel
theorem Bn(s:∀w∈ws,lX w=true)(r:∀w∈bs,lX w=true):∀(n m:Nat) (t:Tr),t.ok ws bs n->n<m->∀{S:aH} {Q:Res->aH->Prop},Q (.d (.bl true)) S->Fn (cX m) [t.d,.int n] S Q
 |0,m,t,h,_,S,Q,q=>by cases t <;>exact h.elim
 |n+1,0,t,h,hm,S,Q,q=>absurd hm (!0)
 | n+1,m+1,t,h,hm,S,Q,q=>by
   refine cA ?_
   unfold lj
   refine aU (bO (bj (a_ (av L (bM (dJ (d:=.bl (decide (((n+1:Nat):Int)<1))) L ?_))))))
   refine aC (λc=>absurd c (by rw[Qdq (!0)];decide)) (λ_=>cN ?_)
   have j:((n+1:Nat):Int)-1=(n:Nat):=by omega
   have e:∀(f:Str) (i:List Tr),(∀t∈i,t.ok ws bs n)->i.length<=2->E (i6 (eo (bT [none,some 1] (gL (aY (GP (ax 0) (CQ (cF (.int 1))) C1))) (cW 0) b_ (aF (cX m) (au (ax 0) (au (bo Ax (ax 1) (cF (.int 1))) az)))))) [some (.tup (.str f::i.map Tr.d)),some (.int ((n+1:Nat):Int))] S λd y=>Op (settle S d y) λp=>Q p.1 p.2:=λf i o z=>by
     refine fO (α:=Tr) (λk=>∃a,k= [a,some (.int ((n+1:Nat):Int))]) Tr.d (λ_=>true) #[none,L] (eD (bq (F6 (av L (j2 (bM #[1,L,kd #[_,L,?_]]))))))
     rw[HS]
     refine br (ds:=i.map Tr.d) #[i,L,trivial,by omega,λt u k l=>?_,?_]
     · let#[a,rfl]:=l
       refine bu #[L,#[_,L],aS (ay (av L (ay (a_ (av L (bM (dJ (d:=.int (((n+1:Nat):Int)-1)) L (aI ?_))))))))]
       rw[j]
       exact Bn s r n m t (o t u) (!0) #[L,L]
     · have:i.all (λ_=>true)=true:=by simp
       rw[this]
       exact eB q
   cases t with
   | wd w=>
     refine aU (bO (bF (bH (cK (av L (dJ L (bf ?_)))))))
     refine aC (λ_=>?_) (λc=>(by cases c))
     refine cb (vn (aS (ay (av L (aI (C_ #[_,L,aC (λc=>(by cases c)) (λ_=>?_)]))))))
     exact aS (ay (av L (aI (n0 (s _ h) (eB q)))))
   | vl v=>
     refine aU (bO (bF (bH (cK (av L (dJ L (bf ?_)))))))
     refine aC (λ_=>?_) (λc=>(by cases c))
     exact cb (vn (aS (ay (av L (aI (sk h #[_,L,aC (λ_=>eB q) (λc=>(by cases c))]))))))
   | wt b=>
     refine aU (bO (bF (bH (cK (av L (dJ L (bf ?_)))))))
     refine aC (λc=>(by cases c)) (λ_=>cN ?_)
     refine aU (bO (fi (bj (a_ (fJ (bq (av L (br (ds:= [.str "waits",.str b]) (bM (nY ?_))))))))))
     refine aC (λc=>absurd c (by simp)) (λ_=>?_)
     refine bF (bH (cK (a_ (av L (bM (bE eh (dJ L (bf ?_))))))))
     refine aC (λc=>(by cases c)) (λ_=>cN ?_)
     refine aU (bO (bj (a_ (a_ (av L (bM (bE eh (bM (cw ?_)))))))))
     refine aC (λ_=>?_) (λc=>absurd c (by decide +kernel))
     refine cb (dB (a_ (fJ (bq (av L (br (ds:= [.str "waits",.str b]) (bM (nY #[_,L,aC (λ_=>?_) (λc=>absurd c (by simp))]))))))))
     exact aS (ay (a_ (av L (bM (bE L (aI (n0 (r _ h) (eB q))))))))
   | nt t=>
     refine aU (bO (bF (bH (cK (av L (dJ L (bf ?_)))))))
     refine aC (λc=>(by cases c)) (λ_=>cN ?_)
     refine aU (bO (fi (bj (a_ (fJ (bq (av L (br (ds:= [.str "not",t.d]) (bM (nY ?_))))))))))
     refine aC (λc=>absurd c (by simp)) (λ_=>?_)
     refine bF (bH (cK (a_ (av L (bM (bE eh (dJ L (bf ?_))))))))
     refine aC (λc=>(by cases c)) (λ_=>cN ?_)
     refine aU (bO (bj (a_ (a_ (av L (bM (bE eh (bM (cw ?_)))))))))
     refine aC (λc=>absurd c (by decide +kernel)) (λ_=>cN ?_)
     refine aU (bO (bj (a_ (fJ (bq (av L (br (ds:= [.str "not",t.d]) (a_ (aS (ay (a_ (av L (bM (bE eh (aI (Ck (bM (EK (vi ?_)))))))))))))))))))
     refine aC (λc=>absurd c (by simp)) (λ_=>cN ?_)
     exact cb (e "not" [t] (λx g=>by rw[Qfq] at g;subst g;exact h) (by simp))
   | tw f a b=>
     refine aU (bO (bF (bH (cK (av L (dJ L (bf ?_)))))))
     refine aC (λc=>(by cases c)) (λ_=>cN ?_)
     refine aU (bO (fi (bj (a_ (fJ (bq (av L (br (ds:= [.str f,a.d,b.d]) (bM (nY ?_))))))))))
     refine aC (λc=>absurd c (by simp)) (λ_=>?_)
     refine bF (bH (cK (a_ (av L (bM (bE eh (dJ L (bf ?_))))))))
     refine aC (λc=>(by cases c)) (λ_=>cN ?_)
     refine aU (bO (bj (a_ (a_ (av L (bM (bE eh (bM (cw ?_)))))))))
     rw[Qdq (DZ f h.1)]
     refine aC (λc=>(by cases c)) (λ_=>cN ?_)
     refine aU (bO (bj (a_ (fJ (bq (av L (br (ds:= [.str f,a.d,b.d]) (a_ (aS (ay (a_ (av L (bM (bE eh (aI (BM h.1 (bM (EK (vi ?_)))))))))))))))))))
     refine aC (λc=>absurd c (by simp)) (λ_=>cN ?_)
     exact cb (e f [a,b] (λx g=>by
       rcases Qsq.mp g with rfl|g
       · exact h.2.1
       · rw[Qfq] at g;subst g;exact h.2.2) (by simp))
def JZ{S:aH}{Q:Res->aH->Prop}{t:Tr}(a:∀w∈ws,lX w=true)(b:∀w∈bs,lX w=true)(h:t.ok ws bs 5)(q:Q (.d (.bl true)) S):Fn r9 [t.d] S Q:=by
 refine cA ?_
 unfold Bh
 exact cb (aS (ay (av L (ay (bM (aI (Bn a b 5 6 t h (!1) (eB q))))))))
end
end W28
namespace DL
open PySem PySem.Spec L2
section
variable{Γ:cI}{S:aH}
def Mo{f g:bc}{Q:D->aH->Prop}(h:E f Γ S λy b=>E g Γ b λx a=>∃k l z,x=.ref k/\y=.str z/\a[k]?=some (.dct l)/\Q (.bl (!(eA l (.inr z)).isSome)) a):E (DJ f g) Γ S Q:=by
 let#[y,b,c,x,a,d,k,l,z,rfl,rfl,h1,q]:=h
 exact#[_,_,by unfold DJ;rw[c];erw[Qbq];rw[d];erw[Qbq,h1,CK],q]
def Jm{f g:eF}{Q:(List D×(aH->Prop))->aH->Prop}(h:E f Γ S λp b=>E g Γ b λr a=>(p.2.stays a p.1/\p.1.length<=r.1.length)/\Q (Cj p.1 r.1,λS=>p.2.stays S p.1/\r.2.stays S r.1) a):E (GH f g) Γ S Q:=by
 let#[p,b,c,r,a,e,d,q]:=h
 exact#[_,a,by unfold GH;rw[c];erw[Qbq];rw[e];erw[Qbq];rw[Qhq d],q]
def zH{xs:X6}{Q:List D×Tag->Prop}(q:Q (xs.map D.str,.tu)):Op (mS S (.mt xs)) Q:=#[_,L,q]
def Az{S':aH}(h:S.length<=S'.length)(k:∀i,i<S.length->S'[i]?=S[i]?):kB S S'/\S'.take S.length=S:=by
 refine#[#[h,λi o a e=>.inl (by rw[<-k i a];exact e)],List.ext_getElem? λi=>?_]
 by_cases a:i<S.length
 ·rw[List.getElem?_take_of_lt a,k i a]
 ·rw[List.getElem?_eq_none (by rw[Qxq];omega),List.getElem?_eq_none (!0)]
def iu{S':aH}{d:D}{Q:Res->aH->Prop}(h:S.length<=S'.length)(k:∀i,i<S.length->S'[i]?=S[i]?)(a:cy 0 d=true)(q:Q (.d d) S):Op (settle S d S') λp=>Q p.1 p.2:=by
 let#[c,b]:=Az h k
 exact gY c b (λk e=>by subst e;simp[cy] at a) (kK a) q
end
end DL
namespace W28
open PySem PySem.Spec L2 DL
def Tr.w:Tr->List Str
 |.wd w=> [w]
 |.vl _=> []
 |.wt _=> []
 |.nt t=>t.w
 |.tw _ a b=>a.w++b.w
def Tr.b:Tr->List Str
 |.wd _=> []
 |.vl _=> []
 |.wt b=> [b]
 |.nt t=>t.b
 |.tw _ a b=>a.b++b.b
def sO(l:X6):O:=.lst (l.map D.str)
def DY(m:Nat)(l:X6):t9 m (sO l)=true:=by
 show bz m (l.map D.str)=true
 exact cC λ_ _=>rfl
def put2(S:aH)(a b:Nat)(A B:X6):aH:=(S.set b (sO B)).set a (sO A)
section
variable{ws bs:X6}{a b:Nat}
theorem Tr.in_:∀{n:Nat} {t:Tr},t.ok ws bs n->(∀x∈t.w,x∈ws)/\(∀x∈t.b,x∈bs)/\2*t.w.length<=2^n/\2*t.b.length<=2^n
 | n+1,.wd w,h=>by
   have:=Nat.one_le_two_pow (n:=n)
   refine#[λx c=>?_,λx c=>(by cases c),by rw[Nat.pow_succ];erw[Tr.w,List.length_singleton];omega,Nat.zero_le _]
   rw[Tr.w,Qfq] at c
   subst c
   exact h
 |n+1,.vl v,h=>#[λx c=>(by cases c),λx c=>(by cases c),Nat.zero_le _,Nat.zero_le _]
 | n+1,.wt b,h=>by
   have:=Nat.one_le_two_pow (n:=n)
   refine#[λx c=>(by cases c),λx c=>?_,Nat.zero_le _,by rw[Nat.pow_succ];erw[Tr.b,List.length_singleton];omega]
   rw[Tr.b,Qfq] at c
   subst c
   exact h
 | n+1,.nt t,h=>by
   let#[e,d,k,j]:=Tr.in_ (n:=n) (t:=t) h
   exact#[e,d,by rw[Nat.pow_succ];erw[Tr.w];omega,by rw[Nat.pow_succ];erw[Tr.b];omega]
 | n+1,.tw f a b,h=>by
   let#[e,d,k,j]:=Tr.in_ (n:=n) (t:=a) h.2.1
   let#[i,g,m,l]:=Tr.in_ (n:=n) (t:=b) h.2.2
   refine#[λx c=>(mQa.mp c).elim (e x) (i x),λx c=>(mQa.mp c).elim (d x) (g x),by rw[Nat.pow_succ];erw[Tr.w,lQa];omega,by rw[Nat.pow_succ];erw[Tr.b,lQa];omega]
 |0,_,h=>by cases h
def xg{S:aH}{A B:X6}{Q:Res->aH->Prop}(q:Q (.d .non) (put2 S a b A B)):Op (settle S .non (put2 S a b A B)) λp=>Q p.1 p.2:=
 gY (nh (DY _ _) (DY _ _)) (show(put2 S a b A B).take S.length=put2 S a b A B from List.take_of_length_le (by unfold put2;simp)) (λ_ z=>by cases z) L q
def vz{S:aH}{A B:X6}(d:S[a]?=some (sO A))(c:S[b]?=some (sO B)):put2 S a b A B=S:=by
 unfold put2
 rw[pZ c,pZ d]
def Ci{S:aH}{A B d c:X6}(e:a≠b):put2 (put2 S a b A B) a b d c=put2 S a b d c:=by
 unfold put2
 rw[List.set_comm (sO A) (sO c) e,List.set_set,List.set_set]
def EX{S:aH}{A B c:X6}(d:S[a]?=some (sO A)):(put2 S a b c B)[a]?=some (sO c)\/a=b:=by
 by_cases h:a=b
 ·exact .inr h
 ·exact .inl (by unfold put2;exact fM (dA h d))
def Ec{S:aH}{A B c:X6}(e:a≠b)(d:S[b]?=some (sO B)):(put2 S a b A c)[b]?=some (sO c):=by
 unfold put2
 exact dA (Ne.symm e) (fM d)
def zo{S:aH}{A B:X6}:(put2 S a b A B).length=S.length:=by unfold put2;simp
def yI{S:aH}{A B:X6}{i:Nat}(d:i≠a)(c:i≠b):(put2 S a b A B)[i]?=S[i]? :=by
 unfold put2
 rw[QKq (Ne.symm d),QKq (Ne.symm c)]
def K3{n:Nat}(h:n<1000):n<sizeLine:=Qqq h (!1)
theorem pL(C:a≠b):∀(n m:Nat) (t:Tr),t.ok ws bs n->n<m->∀{S:aH} {A B:X6} {Q:Res->aH->Prop},S[a]?=some (sO A)->S[b]?=some (sO B)->A.length+t.w.length<1000->B.length+t.b.length<1000->Q (.d .non) (put2 S a b (A++t.w) (B++t.b))->Fn (iE m) [t.d,.ref a,.ref b] S Q
 |0,m,t,h,_,S,A,B,Q,_,_,_,_,q=>by cases t <;>exact h.elim
 |n+1,0,t,h,hm,S,A,B,Q,_,_,_,_,q=>absurd hm (!0)
 | n+1,m+1,t,h,hm,S,A,B,Q,hA,hB,lA,lB,q=>by
   refine cA ?_
   unfold Br
   have s:∀(f:Str) (i:List Tr),(∀t∈i,t.ok ws bs n)->A.length+(i.flatMap Tr.w).length<1000->B.length+(i.flatMap Tr.b).length<1000->Q (.d .non) (put2 S a b (A++i.flatMap Tr.w) (B++i.flatMap Tr.b))->T (ja (gL (aY (GP (ax 0) (CQ (cF (.int 1))) C1))) (cW 3) (uv (aF (iE m) (au (ax 3) (au (ax 1) (au (ax 2) az)))))) [some (.tup (.str f::i.map Tr.d)),some (.ref a),some (.ref b),none] S λo=>match o with|.nx _ r=>Op (settle S .non r) λp=>Q p.1 p.2|.rt d r=>Op (settle S d r) λp=>Q p.1 p.2|.rl l r=>Op (gR S l r) λp=>Q p.1 p.2|_=>False:=λf i J X Y q=>by
     refine hV (eD (bq (F6 (av L (j2 (bM #[1,L,kd #[_,L,?_]]))))))
     rw[HS]
     refine br (ds:=i.map Tr.d) #[λk u r=>∃o,u= [some (.tup (.str f::i.map Tr.d)),some (.ref a),some (.ref b),o]/\r=put2 S a b (A++(i.take k).flatMap Tr.w) (B++(i.take k).flatMap Tr.b),#[none,L,?_],λ_ _ _ _=>trivial,?_,?_]
     · rw[List.take_zero,List.flatMap_nil,List.flatMap_nil,List.append_nil,List.append_nil,vz hA hB]
     · rintro k d u r K ⟨o,rfl,rfl⟩
       rw[gQm] at K
       let#[t,H,rfl]:=oQm.mp K
       have W:k<i.length:=(gQs.mp H).1
       have P:i.take (k+1)=i.take k++ [t]:=by rw[List.take_succ,H];rfl
       have I:∀g:Tr->List Str,(i.take (k+1)).flatMap g=(i.take k).flatMap g++g t:=λg=>by rw[P,List.flatMap_append];simp
       have N:∀g:Tr->List Str,((i.take k).flatMap g).length+(g t).length<=(i.flatMap g).length:=λg=>by
         have:i.flatMap g=(i.take (k+1)).flatMap g++(i.drop (k+1)).flatMap g:=by rw[<-List.flatMap_append,List.take_append_drop]
         rw[this,lQa,I,lQa]
         omega
       let R:=N Tr.w
       let U:=N Tr.b
       refine bu (DK (aS (ay (av L (ay (av L (ay (av L (aI ?_)))))))))
       refine pL C n m t (J t (mQg H)) (!0) ((EX hA).resolve_right C) (Ec C hB) (by rw[lQa];omega) (by rw[lQa];omega) ?_
       refine#[_,L,?_]
       rw[Ci C,I,I,Qvq,Qvq]
     · rintro u r ⟨o,rfl,rfl⟩
       rw[lQm,QEq]
       exact xg q
   cases t with
   | wd w=>
     refine bO (bH (cK (av L (dJ L (bf ?_)))))
     refine aC (λ_=>?_) (λc=>(by cases c))
     refine DK (uB (av L #[a,_,L,hA,ay (av L (aI #[_,hA,mz (by rw[lQm];exact K3 (!0)) ?_]))]))
     have e:S.set a (.lst (A.map D.str++ [Tr.d (.wd w)]))=put2 S a b (A++ [w]) (B++ []):=by
       unfold put2
       rw[List.append_nil,pZ hB]
       simp[sO,Tr.d]
     show Op (settle S .non (S.set a (.lst (A.map D.str++ [Tr.d (.wd w)])))) _
     rw[e]
     exact xg q
   | vl v=>
     refine bO (bH (cK (av L (dJ L (bf ?_)))))
     refine aC (λc=>(by cases c)) (λ_=>?_)
     refine bO (tU (bH (cK (av L (dJ L (bf ?_))))))
     refine aC (λc=>(by cases c)) (λ_=>?_)
     refine aC (λc=>(by cases c)) (λ_=>?_)
     refine bO (bH (cK (av L (dJ L (bf ?_)))))
     refine aC (λc=>(by cases c)) (λ_=>cN ?_)
     have q:Q (.d .non) (put2 S a b (A++ []) (B++ [])):=q
     rw[List.append_nil,List.append_nil,vz hA hB] at q
     exact FE L q
   | wt x=>
     refine bO (bH (cK (av L (dJ L (bf ?_)))))
     refine aC (λc=>(by cases c)) (λ_=>?_)
     refine bO (tU (bH (cK (av L (dJ L (bf ?_))))))
     refine aC (λ_=>?_) (λc=>(by cases c))
     refine bj (a_ (a_ (av L (bM (bE eh (bM (cw ?_)))))))
     refine aC (λ_=>?_) (λc=>absurd c (by decide +kernel))
     refine DK (uB (av L #[b,_,L,hB,ay (a_ (av L (bM (bE (d:=.str x) L (aI #[_,hB,mz (by rw[lQm];exact K3 (!0)) ?_])))))]))
     have e:S.set b (.lst (B.map D.str++ [.str x]))=put2 S a b (A++ []) (B++ [x]):=by
       unfold put2
       rw[List.append_nil,List.set_comm _ _ (Ne.symm C),pZ hA]
       simp[sO]
     show Op (settle S .non (S.set b (.lst (B.map D.str++ [.str x])))) _
     rw[e]
     exact xg q
   | nt t=>
     refine bO (bH (cK (av L (dJ L (bf ?_)))))
     refine aC (λc=>(by cases c)) (λ_=>?_)
     refine bO (tU (bH (cK (av L (dJ L (bf ?_))))))
     refine aC (λ_=>?_) (λc=>(by cases c))
     refine bj (a_ (a_ (av L (bM (bE eh (bM (cw ?_)))))))
     refine aC (λc=>absurd c (by decide +kernel)) (λ_=>?_)
     refine bO (bH (cK (av L (dJ L (bf ?_)))))
     refine aC (λ_=>?_) (λc=>(by cases c))
     have j:∀g:Tr->List Str,[t].flatMap g=g t:=λg=>by simp
     exact s "not" [t] (λx M=>by rw[Qfq] at M;subst M;exact h) (by rw[j];exact lA) (by rw[j];exact lB) (by rw[j,j];exact q)
   | tw f x y=>
     refine bO (bH (cK (av L (dJ L (bf ?_)))))
     refine aC (λc=>(by cases c)) (λ_=>?_)
     refine bO (tU (bH (cK (av L (dJ L (bf ?_))))))
     refine aC (λ_=>?_) (λc=>(by cases c))
     refine bj (a_ (a_ (av L (bM (bE eh (bM (cw ?_)))))))
     rw[Qdq (DZ f h.1)]
     refine aC (λc=>(by cases c)) (λ_=>?_)
     refine bO (bH (cK (av L (dJ L (bf ?_)))))
     refine aC (λ_=>?_) (λc=>(by cases c))
     have j:∀g:Tr->List Str,[x,y].flatMap g=g x++g y:=λg=>by simp
     exact s f [x,y] (λz F=>by
       rcases Qsq.mp F with rfl|F
       · exact h.2.1
       · rw[Qfq] at F;subst F;exact h.2.2) (by rw[j];exact lA) (by rw[j];exact lB) (by rw[j,j];exact q)
section
variable{S:aH}{Q:Res->aH->Prop}{t:Tr}
def C4(l:X6):∀x∈gG (CW l),x∈l:=λx c=>(nX x l).mp ((gq _).subset c)
def A7(l:X6):(gG (CW l)).length<=l.length:=by
 rw[(gq _).length_eq]
 induction l with
 |nil=>exact Qmq _
 | cons x r c=>
   erw[CW]
   split
   · erw[Qnq];omega
   · erw[Qnq];omega
def zF(h:t.ok ws bs 5)(q:∀l:List Str,(∀x∈l,x∈ws)->l.length<=64->Q (.d (.tup (l.map D.str))) S):Fn lN [t.d] S Q:=by
 let#[e,k,n,m]:=Tr.in_ h
 refine cA ?_
 unfold va
 refine aU (lV (iM (ki (aI #[Nat.zero_le _,?_]))))
 refine aU (DK (aS (ay (av L (ay (av L (ay (iM (ki (aI #[Nat.zero_le _,aI ?_]))))))))))
 have c:((S++ [O.lst []])++ [O.lst []])[S.length]?=some (sO []):=aJ aV
 have f:((S++ [O.lst []])++ [O.lst []])[(S++ [O.lst []]).length]?=some (sO []):=aV
 refine pL (a:=S.length) (b:=(S++ [O.lst []]).length) (by simp) 5 6 t h (!1) c f (by erw[QGq];omega) (by erw[QGq];omega) ?_
 refine cb (C8 (mW (Dz (bq (av L (bB ((EX c).resolve_right (by simp)) #[t.w,L,L,by omega,?_]))))))
 refine iu (by rw[zo];erw[lQa];omega) (λi g=>?_) ?_ (q _ (λx j=>e x (C4 _ x j)) (by have:=A7 t.w;omega))
 ·rw[yI (!0) (by rw[lQa];erw[List.length_singleton];omega),QHq (by rw[lQa];omega),QHq g]
 ·erw[cy]
  exact cC λ_ _=>rfl
def Ab(h:t.ok ws bs 5)(q:∀l:List Str,(∀x∈l,x∈bs)->l.length<=64->Q (.d (.tup (l.map D.str))) S):Fn lO [t.d] S Q:=by
 let#[n,f,o,m]:=Tr.in_ h
 refine cA ?_
 unfold vg
 refine aU (lV (iM (ki (aI #[Nat.zero_le _,?_]))))
 refine aU (DK (aS (ay (av L (ay (iM (ki (aI #[Nat.zero_le _,ay (av L (aI ?_))]))))))))
 have c:((S++ [O.lst []])++ [O.lst []])[S.length]?=some (sO []):=aJ aV
 have g:((S++ [O.lst []])++ [O.lst []])[(S++ [O.lst []]).length]?=some (sO []):=aV
 have e:(S++ [O.lst []]).length≠S.length:=by simp
 refine pL (a:=(S++ [O.lst []]).length) (b:=S.length) e 5 6 t h (!1) g c (by erw[QGq];omega) (by erw[QGq];omega) ?_
 refine cb (C8 (mW (Dz (bq (av L (bB (Ec e c) #[t.b,L,L,by omega,?_]))))))
 refine iu (by rw[zo];erw[lQa];omega) (λi j=>?_) ?_ (q _ (λx k=>f x (C4 _ x k)) (by have:=A7 t.b;omega))
 ·rw[yI (by rw[lQa];erw[List.length_singleton];omega) (!0),QHq (by rw[lQa];omega),QHq j]
 ·erw[cy]
  exact cC λ_ _=>rfl
end
end
structure Kb(S:aH)(d:Nat)(c:Sc)(os:List (Str×Str)):Prop where
 ex:∃l it iw ib id,S[d]?=some (.dct l)/\eA l (.inr "thing")=some (.ref it)/\eA l (.inr "word")=some (.ref iw)/\eA l (.inr "bell")=some (.ref ib)/\eA l (.inr "deed")=some (.ref id)∧
  S[it]?=some (sO c.gs)/\S[iw]?=some (sO c.ws)/\S[ib]?=some (sO c.bs)/\S[id]?=some (.lst (os.map eE))/\(c.ps≠[]->∃ip,eA l (.inr "pass")=some (.ref ip)/\S[ip]?=some (sO c.ps))
 sub:∀q∈c.ds,q∈os
 so:∀q∈os,PyData.strOk q.1=true/\PyData.strOk q.2=true
 w:∀w∈c.ws,lX w=true
 g:∀w∈c.gs,lX w=true
 b:∀w∈c.bs,lX w=true
 d:∀q∈c.ds,lX q.1=true/\lX q.2=true
 p:∀w∈c.ps,lX w=true
section
variable{S:aH}{Q:Res->aH->Prop}{d:Nat}{c:Sc}{os:List (Str×Str)}
def E3{l ws:X6}(h:∀x∈l,x∈ws):(l.all λx=>if false=true then !decide (x∈ws) else decide (x∈ws))=true:=by
 rw[QUq]
 intro x a
 rw[Quq (!1)]
 exact Qeq (h x a)
def FH(r:Kb S d c os){t:Tr}(h:t.ok c.ws c.bs 5)(q:Q (.d (.bl true)) S):Fn iI [t.d,.ref d] S Q:=by
 let#[l,m,n,o,id,hd,v1,v2,v3,v4,h1,h2,h3,h4,h5]:=r.ex
 refine cA ?_
 unfold qA
 refine aU (bO (bF (bH (aS (ay (av L (aI (JZ r.w r.b h (bf ?_)))))))))
 refine aC (λc=>(by cases c)) (λ_=>cN ?_)
 refine aU (bO (bF (bH (fO (α:=Str) (λe=>∃a,e= [a,some (.ref d)]) D.str (λx=>if false=true then !decide (x∈c.ws) else decide (x∈c.ws)) #[none,L] (eD (bq (aS (ay (av L (aI (zF h λi g j=>?_)))))))))))
 refine br #[i,L,trivial,by omega,λx k e f=>?_,?_]
 ·let#[a,rfl]:=f
  exact bu #[L,#[_,L],kJ (av L (bq (iH (av L (bM #[d,l,"word",_,L,L,hd,v2,bB h2 #[x,c.ws,L,L,L,L]])))))]
 rw[E3 g]
 refine bf (aC (λc=>(by cases c)) (λ_=>cN ?_))
 refine cb (fO (α:=Str) (λe=>∃a,e= [a,some (.ref d)]) D.str (λx=>if false=true then !decide (x∈c.bs) else decide (x∈c.bs)) #[none,L] (eD (bq (aS (ay (av L (aI (Ab h λi g j=>?_))))))))
 refine br #[i,L,trivial,by omega,λx k e f=>?_,?_]
 ·let#[a,rfl]:=f
  exact bu #[L,#[_,L],kJ (av L (bq (iH (av L (bM #[d,l,"bell",_,L,L,hd,v3,bB h3 #[x,c.bs,L,L,L,L]])))))]
 rw[E3 g]
 exact eB q
inductive Pt(c:Sc)(m:Nat):Str->D->Prop where
 |sum {t:Tr} (h:t.ok c.ws c.bs 5):Pt c m "sum" t.d
 |place {n:Nat} (h:n<=m):Pt c m "place" (.int n)
 |name {x:Str} (h:lX x=true):Pt c m "name" (.str x)
 |none:Pt c m "goal" .non
 |goal {x:Str} (h:x∈c.gs):Pt c m "goal" (.str x)
 |thing {x:Str} (h:x∈c.gs):Pt c m "thing" (.str x)
 |bell {x:Str} (h:x∈c.bs):Pt c m "bell" (.str x)
 |pass {x:Str} (h:x∈c.ps):Pt c m "pass" (.str x)
def nN{k m:Nat}{s x:Str}{a:X6}(p:s≠"sum")(r:s≠"place")(e:s≠"name")(f:s≠"goal")(h:lX x=true)(o:x∈a)(j:∃l i,S[d]?=some (.dct l)/\eA l (.inr s)=some (.ref i)/\S[i]?=some (sO a))(q:Q (.d (.bl true)) S):Fn (dC (k+1)) [.str s,.str x,.ref d,.int m] S Q:=by
 let#[l,i,g,b,n]:=j
 refine cA ?_
 unfold dH
 refine aU (bO (bj (a_ (av L (bM (cw ?_))))))
 rw[Qdq p]
 refine aC (λc=>(by cases c)) (λ_=>cN ?_)
 refine aU (bO (bj (a_ (av L (bM (cw ?_))))))
 rw[Qdq r]
 refine aC (λc=>(by cases c)) (λ_=>cN ?_)
 refine aU (bO (bj (a_ (av L (bM (cw ?_))))))
 rw[Qdq e]
 refine aC (λc=>(by cases c)) (λ_=>cN ?_)
 refine aU (bO (bj (a_ (av L (bM (cw ?_))))))
 rw[Qdq f]
 refine aC (λc=>(by cases c)) (λ_=>cN ?_)
 refine cb (dB (aS (ay (av L (aI (n0 h #[_,L,aC (λ_=>?_) (λc=>(by cases c))]))))))
 refine kJ (av L (bq (iH (av L (av L #[d,l,s,_,L,L,g,b,bB n #[x,a,L,L,?_]])))))
 rw[Quq (!1),Qeq o]
 exact eB q
def LM(r:Kb S d c os){m:Nat}{s:Str}{p:D}(h:Pt c m s p)(q:Q (.d (.bl true)) S):Fn (dC 2) [.str s,p,.ref d,.int m] S Q:=by
 let#[l,a,k,f,id,hd,v1,v2,v3,v4,h1,h2,h3,h4,h5]:=r.ex
 cases h with
 | sum h=>
   refine cA ?_
   unfold dH
   refine aU (bO (bj (a_ (av L (bM (cw ?_))))))
   refine aC (λ_=>?_) (λc=>absurd c (by decide +kernel))
   exact cb (aS (ay (av L (ay (av L (aI (FH r h (eB q))))))))
 | place h=>
   refine cA ?_
   unfold dH
   refine aU (bO (bj (a_ (av L (bM (cw ?_))))))
   refine aC (λc=>absurd c (by decide +kernel)) (λ_=>cN ?_)
   refine aU (bO (bj (a_ (av L (bM (cw ?_))))))
   refine aC (λ_=>?_) (λc=>absurd c (by decide +kernel))
   refine cb (dB (aS (ay (av L (aI (yC #[_,L,aC (λ_=>?_) (λc=>(by cases c))]))))))
   refine oA (bM (av L (ug #[_,L,aC (λ_=>?_) (λc=>?_)])))
   · refine av L (ug ?_)
     rw[Qeq (!0)]
     exact eB q
   · exact absurd c (by simp)
 | name h=>
   refine cA ?_
   unfold dH
   refine aU (bO (bj (a_ (av L (bM (cw ?_))))))
   refine aC (λc=>absurd c (by decide +kernel)) (λ_=>cN ?_)
   refine aU (bO (bj (a_ (av L (bM (cw ?_))))))
   refine aC (λc=>absurd c (by decide +kernel)) (λ_=>cN ?_)
   refine aU (bO (bj (a_ (av L (bM (cw ?_))))))
   refine aC (λ_=>?_) (λc=>absurd c (by decide +kernel))
   exact cb (aS (ay (av L (aI (n0 h (eB q))))))
 | none=>
   refine cA ?_
   unfold dH
   refine aU (bO (bj (a_ (av L (bM (cw ?_))))))
   refine aC (λc=>absurd c (by decide +kernel)) (λ_=>cN ?_)
   refine aU (bO (bj (a_ (av L (bM (cw ?_))))))
   refine aC (λc=>absurd c (by decide +kernel)) (λ_=>cN ?_)
   refine aU (bO (bj (a_ (av L (bM (cw ?_))))))
   refine aC (λc=>absurd c (by decide +kernel)) (λ_=>cN ?_)
   refine aU (bO (bj (a_ (av L (bM (cw ?_))))))
   refine aC (λ_=>?_) (λc=>absurd c (by decide +kernel))
   exact cb (vn (a_ (av L (bM (G5 #[_,L,aC (λ_=>eB q) (λc=>(by cases c))])))))
 | goal h=>
   refine cA ?_
   unfold dH
   refine aU (bO (bj (a_ (av L (bM (cw ?_))))))
   refine aC (λc=>absurd c (by decide +kernel)) (λ_=>cN ?_)
   refine aU (bO (bj (a_ (av L (bM (cw ?_))))))
   refine aC (λc=>absurd c (by decide +kernel)) (λ_=>cN ?_)
   refine aU (bO (bj (a_ (av L (bM (cw ?_))))))
   refine aC (λc=>absurd c (by decide +kernel)) (λ_=>cN ?_)
   refine aU (bO (bj (a_ (av L (bM (cw ?_))))))
   refine aC (λ_=>?_) (λc=>absurd c (by decide +kernel))
   refine cb (vn (a_ (av L (bM (G5 #[_,L,aC (λc=>(by cases c)) (λ_=>?_)])))))
   exact aS (ay (bM (ay (av L (ay (av L (ay (av L (aI (nN (by decide +kernel) (by decide +kernel) (by decide +kernel) (by decide +kernel) (r.g _ h) h #[l,a,hd,v1,h1] (eB q)))))))))))
 |thing h=>exact nN (by decide +kernel) (by decide +kernel) (by decide +kernel) (by decide +kernel) (r.g _ h) h #[l,a,hd,v1,h1] q
 |bell h=>exact nN (by decide +kernel) (by decide +kernel) (by decide +kernel) (by decide +kernel) (r.b _ h) h #[l,f,hd,v3,h3] q
 | pass h=>
   let#[i,j,e]:=h5 (List.ne_nil_of_mem h)
   exact nN (by decide +kernel) (by decide +kernel) (by decide +kernel) (by decide +kernel) (r.p _ h) h #[l,i,hd,j,e] q
def Rw.k:Rw->Str
 |.un _ _=>"unless"
 |.go _=>"go"
 |.te k _=>k
 |.pu _ _=>"put"
 |.dd _ _ _ _=>"do"
 |.wa _ _=>"wait"
 |.on k _=>k
 |.pa _ _=>"pass"
def Rw.ps:Rw->List (Str×D)
 |.un t n=> [("sum",t.d),("place",.int n)]
 |.go n=> [("place",.int n)]
 |.te _ t=> [("sum",t.d)]
 |.pu w t=> [("thing",.str w),("sum",t.d)]
 |.dd w r d t=> [("goal",Ep w),("name",.str r),("name",.str d),("sum",t.d)]
 |.wa b t=> [("bell",.str b),("sum",t.d)]
 |.on k b=> [(if k="call" \/k="all" then "bell" else "pass",.str b)]
 |.pa p q=> [("pass",.str p),("pass",.str q)]
def Rw.d_is:∀r:Rw,r.d=.tup (.str r.k::r.ps.map (·.2))
 |.un _ _=>rfl
 |.go _=>rfl
 |.te _ _=>rfl
 |.pu _ _=>rfl
 |.dd _ _ _ _=>rfl
 |.wa _ _=>rfl
 |.on _ _=>rfl
 |.pa _ _=>rfl
def Kb.row(r:Kb S d c os){m:Nat}{w:Rw}(h:w.ok c m):(∀p∈w.ps,Pt c m p.1 p.2)/\w.ps.length<=4:=by
 cases w with
 |un t n=>exact#[List.forall_mem_cons.mpr #[.sum h.1,List.forall_mem_singleton.mpr (.place h.2)],by simp[Rw.ps]]
 |go n=>exact#[List.forall_mem_singleton.mpr (.place h),by simp[Rw.ps]]
 |te k t=>exact#[List.forall_mem_singleton.mpr (.sum h.2.2),by simp[Rw.ps]]
 |pu x t=>exact#[List.forall_mem_cons.mpr #[.thing h.2.1,List.forall_mem_singleton.mpr (.sum h.2.2)],by simp[Rw.ps]]
 | dd x a b t=>
   let#[s,g,o,j]:=h
   let#[l,i]:=r.d _ o
   refine#[List.forall_mem_cons.mpr #[?_,List.forall_mem_cons.mpr #[.name l,List.forall_mem_cons.mpr #[.name i,List.forall_mem_singleton.mpr (.sum j)]]],by simp[Rw.ps]]
   cases x with
   |none=>exact .none
   |some x=>exact .goal (g x L)
 |wa b t=>exact#[List.forall_mem_cons.mpr #[.bell h.2.1,List.forall_mem_singleton.mpr (.sum h.2.2)],by simp[Rw.ps]]
 | on k b=>
   refine#[List.forall_mem_singleton.mpr ?_,by simp[Rw.ps]]
   rcases h.2 with⟨f,e⟩|⟨f,e⟩
   · erw[Qhq f]
     exact .bell e
   · have:¬(k="call" \/k="all"):=by rcases f with rfl|rfl <;>decide +kernel
     erw[Quq this]
     exact .pass e
 |pa p q=>exact#[List.forall_mem_cons.mpr #[.pass h.2.1,List.forall_mem_singleton.mpr (.pass h.2.2)],by simp[Rw.ps]]
end
theorem zip_map{α:Type}{f g:α->D}:∀l:List α,Cj (l.map f) (l.map g)=l.map λx=>D.tup [f x,g x]
 | []=>rfl
 | a::l=>by
   let b:=zip_map (f:=f) (g:=g) l
   unfold Cj at b|-
   erw[QDq,List.zipWith_cons_cons,b]
def L1{n:Nat}(h:n≠0):decide ((n:Int)=0)=false:=Qdq (!0)
section
variable{S:aH}{Q:Res->aH->Prop}{d:Nat}{c:Sc}{os:List (Str×Str)}
def DP{m:Nat}{w:Rw}(h:w.ok c m)(e:w.k="do"):∃x a b t,w=.dd x a b t:=by
 cases w with
 |un t n=>exact absurd e (by erw[Rw.k];decide +kernel)
 |go n=>exact absurd e (by erw[Rw.k];decide +kernel)
 | te k t=>
   erw[Rw.k] at e
   subst e
   exact absurd h.2.1 (by decide +kernel)
 |pu x t=>exact absurd e (by erw[Rw.k];decide +kernel)
 |dd x a b t=>exact#[_,_,_,_,L]
 |wa b t=>exact absurd e (by erw[Rw.k];decide +kernel)
 | on k b=>
   erw[Rw.k] at e
   subst e
   rcases h.2 with⟨h,_⟩|⟨h,_⟩ <;>exact absurd h (by decide +kernel)
 |pa p q=>exact absurd e (by erw[Rw.k];decide +kernel)
def FD(r:Kb S d c os){m f:Nat}{e:List (Str×List Str)}(o:S[f]?=some (.dct (BA e))){w:Rw}(h:w.ok c m)(j:eA (BA e) (.inr w.k)=some (.mt (w.ps.map (·.1))))(q:Q (.d (.bl true)) S):Fn iL [w.d,.ref f,.ref d,.int m] S Q:=by
 let#[l,B,y,A,id,hd,v1,v2,v3,v4,h1,h2,h3,h4,h5]:=r.ex
 let#[v,z]:=r.row h
 refine cA ?_
 unfold qx
 rw[w.d_is]
 refine aU (bO (fi (bF (bH (cK (av L (dJ L (bf ?_))))))))
 refine aC (λc=>(by cases c)) (λ_=>?_)
 refine fi (bj (a_ (fJ (bq (av L (br (bM (nY ?_))))))))
 rw[show decide (((D.str w.k::w.ps.map (·.2)).length:Int)=0)=false from L1 (by simp)]
 refine aC (λc=>(by cases c)) (λ_=>?_)
 refine bF (bH (cK (a_ (av L (bM (bE eh (dJ L (bf ?_))))))))
 refine aC (λc=>(by cases c)) (λ_=>cN ?_)
 refine aU (bO (fi (bj (Mo (a_ (av L (bM (bE eh (av L #[f,_,w.k,L,L,o,?_])))))))))
 rw[j]
 refine aC (λc=>(by cases c)) (λ_=>?_)
 refine bj (a_ (fJ (bq (av L (br (a_ (fJ (bq (iH (av L (a_ (av L (bM (bE eh #[f,_,w.k,_,L,L,o,j,zH (bM (EK (vi ?_)))]))))))))))))))
 rw[Qeq (by erw[Qnq,lQm];omega)]
 refine aC (λc=>(by cases c)) (λ_=>cN ?_)
 refine aU (bO (bF (bH (fO (α:=Str×D) (λi=>∃a b,i= [a,b,some (.ref d),some (.int m)]) (λp=>.tup [.str p.1,p.2]) (λ_=>true) #[none,none,L] (Jm (bq (iH (av L (a_ (av L (bM (bE eh #[f,_,w.k,_,L,L,o,j,zH (bq (F6 (av L (j2 (bM #[1,L,kd #[_,L,?_]])))))]))))))))))))
 rw[HS]
 refine br #[#[trivial,by simp],w.ps,?_,#[trivial,trivial],by omega,λp n i s=>?_,?_]
 ·rw[QPq]
  exact zip_map (f:=λp:Str×D=>.str p.1) (g:=λp:Str×D=>p.2) w.ps
 ·let#[a,b,rfl]:=s
  refine kG L (aL (bu (aL (bu (c0 #[L,#[_,_,L],?_])))))
  exact aS (ay (av L (ay (av L (ay (av L (ay (av L (aI (LM r (v p n) #[L,L]))))))))))
 rw[show(w.ps.all λ_=>true)=true by simp]
 refine bf (aC (λc=>(by cases c)) (λ_=>cN ?_))
 refine cb (vn (a_ (a_ (av L (bM (bE eh (bM (Hk #[_,L,aC (λ_=>eB q) (λu=>?_)]))))))))
 have u:w.k="do":=by simpa using u
 let#[x,a,b,t,rfl]:=DP h u
 refine KB (dR (ay (a_ (av L (bM (bE (d:=.str a) L (ay (a_ (av L (bM (bE (d:=.str b) L (aI #[show 2<=sizeLine by decide,bq (iH (av L (bM #[d,l,"deed",_,L,L,hd,v4,bB h4 #[jx (a,b),os.map jx,?_,Av r.so,EY _,?_]])))]))))))))))))
 ·exact Dc (p:=(a,b)) (r.so _ (r.sub _ h.2.2.1))
 ·rw[Quq (!1),show(os.map jx).any (PyData.eqv · (jx (a,b)))=true from List.any_eq_true.mpr #[jx (a,b),Qkq.mpr #[(a,b),r.sub _ h.2.2.1,L],Dl _]]
  exact eB q
def xJ(r:Kb S d c os){f:Nat}{e:List (Str×List Str)}(j:S[f]?=some (.dct (BA e))){ws:List Rw}(h:Pr c ws)(l:∀w∈ws,eA (BA e) (.inr w.k)=some (.mt (w.ps.map (·.1))))(q:Q (.d (.bl true)) S):Fn dN [.tup (ws.map Rw.d),.ref f,.ref d] S Q:=by
 refine cA ?_
 unfold kF
 refine cb (fO (α:=Rw) (λb=>∃a,b= [a,some (.tup (ws.map Rw.d)),some (.ref f),some (.ref d)]) Rw.d (λ_=>true) #[none,L] (eD (bq (av L (br #[ws,L,trivial,by have:=h.2.1;omega,λw i b g=>?_,?_])))))
 ·let#[a,rfl]:=g
  refine bu #[L,#[_,L],aS (ay (av L (ay (av L (ay (av L (ay (fJ (bq (av L (br (aI ?_))))))))))))]
  dsimp only
  rw[lQm]
  exact FD r j (h.2.2 w i) (l w i) #[L,L]
 ·rw[show(ws.all λ_=>true)=true by simp]
  exact eB q
def FG:∀g d b a:Bool,("say":Str)∉CM g d b a:=by decide +kernel
def FJ:∀g d b:Bool,("all":Str)∉CM g d b false:=by decide +kernel
def EM:∀g d p:Bool,("tell":Str)∉zu g d p:=by decide +kernel
def FN{f bs:X6}{ds:List (Str×Str)}{fr:Bool}{m:Nat}{w:Rw}(h:w.ok (m7 f bs ds fr) m):eA (BA eI) (.inr w.k)=some (.mt (w.ps.map (·.1))):=by
 have i:∀k∈(m7 f bs ds fr).ks,k≠"say":=λk g=>by
  intro e
  subst e
  exact FG _ _ _ _ g
 cases w with
 |un t n=>rfl
 |go n=>rfl
 | te k t=>
   rcases h.2.1 with rfl|rfl
   · rfl
   · exact absurd L (i _ h.1)
 |pu x t=>rfl
 |dd x a b t=>rfl
 |wa b t=>rfl
 | on k b=>
   rcases h.2 with⟨rfl|rfl,_⟩|⟨_,hb⟩
   · rfl
   · rfl
   · cases hb
 |pa p q=>cases h.2.1
def GJ{f ps:X6}{ds:List (Str×Str)}{m:Nat}{w:Rw}(h:w.ok (iK f ds ps) m):eA (BA eK) (.inr w.k)=some (.mt (w.ps.map (·.1))):=by
 have j:∀k∈(iK f ds ps).ks,k≠"tell":=λk i=>by
  intro e
  subst e
  exact EM _ _ _ i
 cases w with
 |un t n=>rfl
 |go n=>rfl
 | te k t=>
   rcases h.2.1 with rfl|rfl
   · exact absurd L (j _ h.1)
   · rfl
 |pu x t=>rfl
 |dd x a b t=>rfl
 |wa b t=>cases h.2.1
 | on k b=>
   rcases h.2 with⟨_,g⟩|⟨rfl|rfl,_⟩
   · cases g
   · rfl
   · rfl
 |pa p q=>rfl
end
end W28
namespace DL
open PySem PySem.Spec L2
def FF{b:cI}{S:aH}{f g:bc}{Q:(List D×(aH->Prop))->aH->Prop}(h:E f b S λd e=>E g b e λc a=>∃i j,d=.int i/\c=.int j/\(-(2^62)<=i/\i<2^62/\ -(2^62)<=j/\j<2^62)/\Q (lQ i j,λ_=>True) a):E (GO f g) b S Q:=by
 let#[d,e,k,c,a,l,i,j,rfl,rfl,hc,q]:=h
 exact#[_,a,by unfold GO;rw[k];erw[Qbq];rw[l];erw[Qbq];rw[Qhq hc],q]
def Fp(n:Nat):lQ 1 (n:Int)=(List.range (n-1)).map λi:Nat=>D.int (1+(i:Int)):=by
 unfold lQ
 rw[show((n:Int)-1).toNat=n-1 by omega]
end DL
namespace W28
open PySem PySem.Spec L2 DL
def Nn(a b:Str):Prop:=a.cps.toList<b.cps.toList
def Mb{l:X6}(h:l.Pairwise t6)(n:l.Nodup):l.Pairwise Nn:=by
 refine(h.and n).imp λ{a b} ⟨h1,h2⟩=>?_
 by_cases c:a.cps.toList<b.cps.toList
 ·exact c
 ·exact absurd (zg h1 c) h2
structure oQ{α:Type}(xs:List α)(enc:α->D)(nm:α->Str)(z m:Nat):Prop where
 en:∀x∈xs,∃r,enc x=.tup (.str (nm x)::r)/\r.length+1=z
 wd:∀x∈xs,lX (nm x)=true
 lt:(xs.map nm).Pairwise Nn
 len:xs.length<=m
section
variable{α:Type}{xs:List α}{enc:α->D}{nm:α->Str}{z m:Nat}{S:aH}{Q:Res->aH->Prop}
def G2{ds:List D}(a:bz 0 ds=true)(q:Q (.l ds) S):Op (gR S ds S) λp=>Q p.1 p.2:=tN tZ (QEq) (jD a) q
def oh(h:∀x∈xs,∃r,enc x=.tup (.str (nm x)::r))(d:xs.length<=1000)(q:Q (.l (xs.map λx=>.str (nm x))) S):Fn dg [.tup (xs.map enc)] S Q:=by
 refine cA ?_
 unfold vk
 refine E9 (eP (α:=α) (λb=>∃a,b= [a]) enc (λx=>.str (nm x)) (λ_=>true) #[none,L] (eD (bq (av L (br #[xs,L,trivial,d,λx f b c=>?_,?_])))))
 ·let#[a,rfl]:=c
  let#[r,e]:=h x f
  rw[e]
  exact bu #[L,#[_,L],jc #[L,L,λ_=>a_ (av L (bM (bE eh #[L,L])))]]
 ·rw[List.filter_eq_self.mpr λ_ _=>rfl]
  exact G2 (cC λ_ _=>rfl) q
def vD{β:Type}{ys:List β}{b:β->D}{nm2:β->Str}(h:∀x∈xs,∃r,enc x=.tup (.str (nm x)::r))(n:∀y∈ys,∃r,b y=.tup (.str (nm2 y)::r))(j:xs.length<=1000)(g:ys.length<=1000)(l:∀x∈xs,∀y∈ys,nm x≠nm2 y)(q:Q (.d (.bl false)) S):Fn eu [.tup (xs.map enc),.tup (ys.map b)] S Q:=by
 refine cA ?_
 unfold kU
 refine cb (zN (α:=α) (λf=>∃a,f= [a,some (.tup (ys.map b))]) (λx=>.str (nm x)) (λx=>decide (nm x∈ys.map nm2)) #[none,L] (eD (mW (fY (ay (av L (aI (oh h j #[xs,L,trivial,j,λx k f i=>?_,?_]))))))))
 ·let#[a,rfl]:=i
  refine bu #[L,#[_,L],kJ (av L (mW (fY (ay (av L (aI (oh n g #[nm x,ys.map nm2,L,?_,L,L])))))))]
  rw[QPq]
  rfl
 ·rw[show(xs.any λx=>decide (nm x∈ys.map nm2))=false from List.any_eq_false.mpr λx k=>by
   rw[decide_eq_true_eq]
   intro c
   let#[y,o,e]:=Qkq.mp c
   exact l x k y o e.symm]
  exact eB q
def nJ(R:oQ xs enc nm z m)(B:m<=1000)(q:Q (.d (.bl true)) S):Fn gm [.tup (xs.map enc),.int z,.int m] S Q:=by
 let y:=R.len
 refine cA ?_
 unfold y7
 refine aU (bO (fi (bF (bH (cK (av L (dJ L (bf ?_))))))))
 refine aC (λc=>(by cases c)) (λ_=>?_)
 refine bj (a_ (fJ (bq (av L (br (av L (JD ?_)))))))
 rw[Qdq (by erw[lQm];omega)]
 refine aC (λc=>(by cases c)) (λ_=>cN ?_)
 refine aU (hV (eD (bq (av L (br #[λk b h=>∃o,b= [some (.tup (xs.map enc)),some (.int z),some (.int m),o]/\h=S,#[none,L,L],λ_ _ _ _=>trivial,?_,?_])))))
 ·rintro k d b h i ⟨o,rfl,rfl⟩
  rw[gQm] at i
  let#[x,f,rfl]:=oQm.mp i
  let f:=mQg f
  let#[r,e,A]:=R.en x f
  rw[e]
  refine bu (bO (fi (bF (bH (cK (av L (dJ L (bf ?_))))))))
  refine aC (λc=>(by cases c)) (λ_=>?_)
  refine fi (bj (a_ (fJ (bq (av L (br (av L (vi ?_))))))))
  rw[Qeq (by erw[Qnq];omega)]
  refine aC (λc=>(by cases c)) (λ_=>?_)
  refine bF (bH (aS (ay (a_ (av L (bM (bE eh (aI (n0 (R.wd x f) (bf ?_))))))))))
  exact aC (λc=>(by cases c)) (λ_=>cN #[_,L,L])
 ·rintro b h ⟨o,rfl,rfl⟩
  refine cb (fO (α:=Nat) (λb=>∃a,b= [a,some (.tup (xs.map enc))]) (λk=>.int (1+(k:Int))) (λ_=>true) #[none,L] (FF (bM (fJ (bq (av L (br #[1,_,L,L,?_,List.range (xs.length-1),?_,trivial,?_,λk l b g=>?_,?_])))))))
  ·erw[lQm];omega
  ·erw[lQm]
   exact Fp xs.length
  ·rw[QVq];omega
  ·let#[a,rfl]:=g
   have l:k<xs.length-1:=List.mem_range.mp l
   have j:xs[k]?=some xs[k]:=gQe (!0)
   have n:xs[k+1]?=some xs[k+1]:=gQe (!0)
   let#[t,s,_]:=R.en _ (mQg j)
   let#[p,u,_]:=R.en _ (mQg n)
   have v:oW (xs.map enc) (1+(k:Int)-1)=some (.tup (.str (nm xs[k])::t)):=by
    rw[show 1+(k:Int)-1=(k:Nat) by omega,<-s]
    exact fZ (by rw[gQm,j];rfl)
   have w:oW (xs.map enc) (1+(k:Int))=some (.tup (.str (nm xs[k+1])::p)):=by
    rw[show 1+(k:Int)=((k+1:Nat):Int) by omega,<-u]
    exact fZ (by rw[gQm,n];rfl)
   refine bu #[L,#[_,L],a_ (a_ (a_ (av L (a_ (av L (bM (dJ (d:=.int (1+(k:Int)-1)) L (bE v (bM (bE eh (a_ (a_ (av L (av L (bE w (bM (bE eh (Lg #[?_,L]))))))))))))))))))]
   have:=List.pairwise_iff_getElem.mp R.lt k (k+1) (by rw[lQm];omega) (by rw[lQm];omega) (!0)
   rw[List.getElem_map,List.getElem_map] at this
   rw[Qeq (show(nm xs[k]).cps.toList<(nm xs[k+1]).cps.toList from this)]
  ·rw[show((List.range (xs.length-1)).all λ_=>true)=true by simp]
   exact eB q
def zm{x:Str}{a:X6}(h:x∈a)(q:Q (.d (.bl true)) S):Fn iz [.str x,.mt a] S Q:=by
 refine cA ?_
 unfold sS
 refine cb (dB (cK (av L (dJ L #[_,L,aC (λ_=>?_) (λc=>(by cases c))]))))
 refine kJ (av L (bq (av L (zH #[x,a,L,L,?_]))))
 rw[Quq (!1),Qeq h]
 exact eB q
def vh{a:List Rw}(e:1<=a.length)(b:a.length<=40)(q:Q (.d (.bl true)) S):Fn gg [.tup (a.map Rw.d)] S Q:=by
 refine cA ?_
 unfold qJ
 refine cb (dB (cK (av L (dJ L #[_,L,aC (λ_=>?_) (λc=>(by cases c))]))))
 refine oA (bM (fJ (bq (av L (br (ug #[_,L,aC (λ_=>?_) (λc=>?_)]))))))
 ·refine bM (ug ?_)
  rw[Qeq (by erw[lQm];omega)]
  exact eB q
 ·exact absurd c (by rw[Qeq (by erw[lQm];omega)];decide)
def pV{vs:List (Str×Nat)}(R:oQ vs j6 (·.1) 2 m)(g:m<=1000)(h:∀v∈vs,v.2<10/\v.1≠"given")(q:Q (.d (.bl true)) S):Fn e_ [.tup (vs.map j6),.int m] S Q:=by
 let k:=R.len
 refine cA ?_
 unfold qm
 refine aU (bO (bF (bH (aS (ay (av L (ay (bM (ay (av L (aI (nJ R g (bf ?_)))))))))))))
 refine aC (λc=>(by cases c)) (λ_=>cN ?_)
 refine cb (fO (α:=Str×Nat) (λe=>∃a b,e= [a,b]) j6 (λ_=>true) #[none,none,L] (eD (bq (av L (br #[vs,L,trivial,by omega,λv hv e f=>?_,?_])))))
 ·let#[a,b,rfl]:=f
  let#[j,i]:=h v hv
  refine kG L (aL (bu (aL (bu (c0 #[L,#[_,_,L],?_])))))
  refine dB (a_ (av L (bM (Hk #[_,L,aC (λ_=>?_) (λc=>?_)]))))
  ·exact aS (ay (av L (aI (sk j #[L,L]))))
  ·rw[Qdq i] at c
   cases c
 ·rw[show(vs.all λ_=>true)=true by simp]
  exact eB q
def B2{vs:List (Str×Nat)}(R:oQ vs j6 (·.1) 2 16)(h:∀v∈vs,v.2<10)(q:Q (.d (.bl true)) S):Fn iU [.tup (vs.map j6)] S Q:=by
 let g:=R.len
 refine cA ?_
 unfold qv
 refine cb (dB (aS (ay (av L (ay (bM (ay (bM (aI (nJ R (!1) #[_,L,aC (λ_=>?_) (λc=>(by cases c))]))))))))))
 refine fO (α:=Str×Nat) (λe=>∃a b,e= [a,b]) j6 (λ_=>true) #[none,none,L] (eD (bq (av L (br #[vs,L,trivial,by omega,λv hv e f=>?_,?_]))))
 ·let#[a,b,rfl]:=f
  refine kG L (aL (bu (aL (bu (c0 #[L,#[_,_,L],?_])))))
  exact aS (ay (av L (aI (sk (h v hv) #[L,L]))))
 ·rw[show(vs.all λ_=>true)=true by simp]
  exact eB q
def EZ{vs:List (Str×Str)}(R:oQ vs vG (·.1) 2 3)(h:∀v∈vs,v.2∈sorts)(q:Q (.d (.bl true)) S):Fn km [.tup (vs.map vG)] S Q:=by
 let g:=R.len
 refine cA ?_
 unfold tJ
 refine cb (dB (aS (ay (av L (ay (bM (ay (bM (aI (nJ R (!1) #[_,L,aC (λ_=>?_) (λc=>(by cases c))]))))))))))
 refine fO (α:=Str×Str) (λe=>∃a b,e= [a,b]) vG (λ_=>true) #[none,none,L] (eD (bq (av L (br #[vs,L,trivial,by omega,λv hv e f=>?_,?_]))))
 ·let#[a,b,rfl]:=f
  refine kG L (aL (bu (aL (bu (c0 #[L,#[_,_,L],?_])))))
  exact aS (ay (av L (ay (bM (aI (zm (h v hv) #[L,L]))))))
 ·rw[show(vs.all λ_=>true)=true by simp]
  exact eB q
def C7{ps:List (Str×List Rw)}(R:oQ ps u5 (·.1) 2 4)(k:1<=ps.length)(h:∀p∈ps,1<=p.2.length/\p.2.length<=40)(q:Q (.d (.bl true)) S):Fn jG [.tup (ps.map u5)] S Q:=by
 let j:=R.len
 refine cA ?_
 unfold su
 refine aU (bO (fi (bF (bH (aS (ay (av L (ay (bM (ay (bM (aI (nJ R (!1) (bf ?_))))))))))))))
 refine aC (λc=>(by cases c)) (λ_=>?_)
 refine bj (a_ (fJ (bq (av L (br (bM (nY ?_)))))))
 rw[Qdq (by erw[lQm];omega)]
 refine aC (λc=>(by cases c)) (λ_=>cN ?_)
 refine cb (fO (α:=Str×List Rw) (λe=>∃a b,e= [a,b]) u5 (λ_=>true) #[none,none,L] (eD (bq (av L (br #[ps,L,trivial,by omega,λv hv e f=>?_,?_])))))
 ·let#[a,b,rfl]:=f
  let#[i,g]:=h v hv
  refine kG L (aL (bu (aL (bu (c0 #[L,#[_,_,L],?_])))))
  exact aS (ay (av L (aI (vh i g #[L,L]))))
 ·rw[show(ps.all λ_=>true)=true by simp]
  exact eB q
structure MQ(r:Rm):Prop where
 mn:r.mn∈Cc
 th:oQ r.th j6 (·.1) 2 4/\∀v∈r.th,v.2<10/\v.1≠"given"
 be:oQ r.be vG (·.1) 2 3/\∀v∈r.be,v.2∈sorts
 de:oQ r.de u5 (·.1) 2 4/\1<=r.de.length/\∀p∈r.de,1<=p.2.length/\p.2.length<=40
def Gh{r:Rm}(h:MQ r)(q:Q (.d (.bl true)) S):Fn oM [r.d] S Q:=by
 refine cA ?_
 unfold zc
 refine aU (Jh (av L (kG L (aL (bu (aL (bu (aL (bu (aL (bu (aL (bu (c0 ?_))))))))))))))
 refine aU (bO (fi (bF (bH (aS (ay (av L (ay (bM (aI (zm h.mn (bf ?_))))))))))))
 refine aC (λc=>(by cases c)) (λ_=>?_)
 refine bF (bH (aS (ay (av L (ay (bM (aI (pV h.th.1 (!1) h.th.2 (bf ?_)))))))))
 refine aC (λc=>(by cases c)) (λ_=>cN ?_)
 refine cb (dB (aS (ay (av L (aI (EZ h.be.1 h.be.2 #[_,L,aC (λ_=>?_) (λc=>(by cases c))]))))))
 exact aS (ay (av L (aI (C7 h.de.1 h.de.2.1 h.de.2.2 (eB q)))))
def EC{b:List Rm}(R:oQ b Rm.d (·.nm) 5 4)(h:∀r∈b,MQ r)(q:Q (.d (.bl true)) S):Fn jN [.tup (b.map Rm.d)] S Q:=by
 let g:=R.len
 refine cA ?_
 unfold sL
 refine cb (dB (aS (ay (av L (ay (bM (ay (bM (aI (nJ R (!1) #[_,L,aC (λ_=>?_) (λc=>(by cases c))]))))))))))
 refine fO (α:=Rm) (λe=>∃a,e= [a]) Rm.d (λ_=>true) #[none,L] (eD (bq (av L (br #[b,L,trivial,by omega,λv hv e f=>?_,?_]))))
 ·let#[a,rfl]:=f
  exact bu #[L,#[_,L],aS (ay (av L (aI (Gh (h v hv) #[L,L]))))]
 ·rw[show(b.all λ_=>true)=true by simp]
  exact eB q
structure MX(h:Hd):Prop where
 th:oQ h.th j6 (·.1) 2 8/\∀v∈h.th,v.2<10/\v.1≠"given"
 pr:1<=h.pr.length/\h.pr.length<=40
def Gw{h:Hd}(t:MX h)(q:Q (.d (.bl true)) S):Fn nP [h.d] S Q:=by
 refine cA ?_
 unfold xF
 refine aU (bO (fi (bF (bH (cK (av L (dJ L (bf ?_))))))))
 refine aC (λc=>(by cases c)) (λ_=>?_)
 refine bj (a_ (fJ (bq (av L (br (ds:= [.tup (h.th.map j6),.tup (h.pr.map Rw.d)]) (bM (vi ?_)))))))
 refine aC (λc=>absurd c (by simp)) (λ_=>cN ?_)
 refine cb (dB (aS (ay (a_ (av L (bM (bE eh (ay (bM (aI (pV t.th.1 (!1) t.th.2 #[_,L,aC (λ_=>?_) (λc=>(by cases c))])))))))))))
 exact aS (ay (a_ (av L (bM (bE (d:=.tup (h.pr.map Rw.d)) L (aI (vh t.pr.1 t.pr.2 (eB q))))))))
def DI{b:List Hd}(i:1<=b.length)(g:b.length<=4)(h:∀x∈b,MX x)(q:Q (.d (.bl true)) S):Fn kn [.tup (b.map Hd.d)] S Q:=by
 refine cA ?_
 unfold tX
 refine aU (bO (fi (bF (bH (cK (av L (dJ L (bf ?_))))))))
 refine aC (λc=>(by cases c)) (λ_=>?_)
 refine bF (bj (oA (bM (fJ (bq (av L (br (ug #[_,L,aC (λ_=>?_) (λc=>?_)]))))))))
 ·refine bM (ug ?_)
  rw[Qeq (by erw[lQm];omega)]
  refine aC (λc=>(by cases c)) (λ_=>cN ?_)
  refine cb (fO (α:=Hd) (λe=>∃a,e= [a]) Hd.d (λ_=>true) #[none,L] (eD (bq (av L (br #[b,L,trivial,by omega,λv hv e f=>?_,?_])))))
  ·let#[a,rfl]:=f
   exact bu #[L,#[_,L],aS (ay (av L (aI (Gw (h v hv) #[L,L]))))]
  ·rw[show(b.all λ_=>true)=true by simp]
   exact eB q
 ·exact absurd c (by rw[Qeq (by erw[lQm];omega)];decide)
end
end W28
namespace DL
open PySem PySem.Spec L2
section
variable{Γ:cI}{S:aH}
def vU{g:kA}{d:D}{Q R:cI->aH->Prop}(h:Tg g d Γ S Q)(i:∀a S',Q a S'->R a S'):Tg g d Γ S R:=by
 let#[a,S',e,q]:=h
 exact#[a,S',e,i _ _ q]
def xC{α β:Type}{js:List (Option Nat)}{i i2:qh}{g g2:kA}{f:bc}{Q:List D->aH->Prop}(P:cI->Prop)(C:α->cI->Prop)(I:α->D)(ys:α->List β)(H:α->β->D)(G:α->β->D)(h0:P (oF js Γ))(hP:∀x b,C x b->P b)
  (h:E i Γ S λp c=>∃xs:List α,p.1=xs.map I/\(∀a,p.2 (c++ [.lst a]))/\(xs.flatMap ys).length<=1000/\(∀x∈xs,∀y∈ys x,cy 0 (G x y)=true)∧
   (∀x∈xs,∀a b,P b->Tg g (I x) b (c++ [.lst a]) λB S2=>S2=c++ [.lst a]/\E i2 B (c++ [.lst a]) λs S4=>S4=c++ [.lst a]/\s.1=(ys x).map (H x)/\(∀a,s.2 (c++ [.lst a]))/\C x B∧
    ∀y∈ys x,∀a b,C x b->Tg g2 (H x y) b (c++ [.lst a]) λv S5=>S5=c++ [.lst a]/\C x v/\E f v (c++ [.lst a]) λd S6=>d=G x y/\S6=c++ [.lst a])∧
   Q (xs.flatMap λx=>(ys x).map (G x)) c):E (mV js i g b_ i2 g2 b_ f) Γ S Q:=by
 refine FB (h.mono λp c hp=>?_)
 let#[xs,hx,hs,hl,N,he,q]:=hp
 have ta:∀a:List D,(c++ [O.lst a])[c.length]?=some (.lst a):=λa=>by simp
 refine#[λn b K=>P b/\K=c++ [.lst ((xs.take n).flatMap λx=>(ys x).map (G x))],#[h0,L],λn b K h=>by rw[h.2];exact hs _,λn d b K t h=>?_,λb K h=>?_]
 ·let#[h3,rfl]:=h
  have t:p.1[n]?=some d:=t
  rw[hx,gQm] at t
  let#[x,F,rfl]:=oQm.mp t
  let u:=mQg F
  have Z:xs.take (n+1)=xs.take n++ [x]:=by rw[List.take_succ,F];rfl
  have tl:(xs.flatMap ys).length=((xs.take n).flatMap ys).length+(ys x).length+((xs.drop (n+1)).flatMap ys).length:=by
   conv=>lhs;rw[<-List.take_append_drop (n+1) xs]
   rw[List.flatMap_append,Z,List.flatMap_append]
   simp
   omega
  have al:((xs.take n).flatMap λx=>(ys x).map (G x)).length=((xs.take n).flatMap ys).length:=by
   erw[List.length_flatMap,lQm]
  refine vU (he x u _ b h3) λB S2 A=>?_
  let#[e2,w]:=A
  subst e2
  refine jc ?_
  rw[Qhq L]
  refine E.mono w λs S4 A=>?_
  let#[e4,hy,M,W,hf]:=A
  subst e4
  refine#[λJ j r=>C x j/\r=c++ [.lst (((xs.take n).flatMap λx=>(ys x).map (G x))++((ys x).take J).map (G x))],#[W,by simp],λJ j r h=>by rw[h.2];exact M _,λJ d2 j r l h=>?_,λj r h=>?_]
  ·let#[X,rfl]:=h
   have l:s.1[J]?=some d2:=l
   rw[hy,gQm] at l
   let#[y,z,rfl]:=oQm.mp l
   let a0:=(gQs.mp z).1
   refine vU (hf y (mQg z) _ j X) λv S5 A=>?_
   let#[e5,h5,w5]:=A
   subst e5
   refine jc ?_
   rw[Qhq L]
   refine E.mono w5 λd S6 A=>?_
   let#[e6,e7]:=A
   subst e6 e7
   refine#[_,ta _,?_,h5,?_]
   ·refine Qqq (m:=1001) ?_ (!1)
    rw[lQa,al,lQm,Qxq]
    omega
   ·rw[List.set_append_right _ _ (Qmq _),Nat.sub_self,List.set_cons_zero,Qvq,List.take_succ,z]
    simp
  ·let#[X,rfl]:=h
   refine#[hP _ _ X,?_]
   have:s.1.length=(ys x).length:=by have:s.1=_:=hy;rw[this,lQm]
   show _=c++ [O.lst _]
   rw[Z,List.flatMap_append]
   have U:(ys x).take s.1.length=ys x:=by rw[this,QEq]
   have U:(ys x).take (s.1).length=ys x:=U
   rw[U]
   simp
 ·let#[h3,rfl]:=h
  have R:p.1.length=xs.length:=by have:p.1=_:=hx;rw[this,lQm]
  refine#[_,ta _,#[#[by simp,λk o hk e=>.inl (by rw[QHq hk] at e;exact e)],?_],?_]
  ·refine oU λd t=>?_
   let#[x,u,t]:=QOq.mp t
   let#[y,Y,rfl]:=Qkq.mp t
   exact kK (N x (List.mem_of_mem_take u) y Y)
  ·rw[List.take_left]
   have:(xs.take p.1.length)=xs:=by rw[R,QEq]
   have:(xs.take (p.1).length)=xs:=this
   rw[this]
   exact q
def DT{α:Type}{js:List (Option Nat)}{i:qh}{g:kA}{j:bc}{Q:D->aH->Prop}(P:cI->Prop)(k:α->D)(B:P (oF js Γ))
  (h:E i Γ S λp c=>∃xs:List α,p.1=xs.map k/\(∀G,p.2 (c++G))/\xs.length<=1000/\(∀x∈xs,∀G a,P a->Tg g (k x) a (c++G) λe u=>u=c++G/\P e/\E j e (c++G) λy z=>y=.bl true/\∃s,z=c++s)/\∀G,Q (.bl true) (c++G)):E (i6 (eo (bT js i g b_ j))) Γ S Q:=by
 refine Hw (mW (pJ (h.mono λp c I=>?_)))
 let#[xs,K,J,N,M,q]:=I
 refine#[λn a r b=>P a/\(∃G,r=c++G)/\b=(List.replicate n ()).map λ_=>.bl true,#[B,#[[],by simp],L],λn a r b h=>by let#[G,rfl]:=h.2.1;exact J G,λn d a r b o h=>?_,λa r b h=>?_]
 ·let#[v,#[G,rfl],rfl]:=h
  have o:p.1[n]?=some d:=o
  rw[K,gQm] at o
  let#[x,l,rfl]:=oQm.mp o
  let R:=(gQs.mp l).1
  refine vU (M x (mQg l) G a v) λe u t=>?_
  let#[H,F,w]:=t
  subst H
  refine jc ?_
  rw[Qhq L]
  refine E.mono w λy z t=>?_
  let#[A,s,C]:=t
  subst A C
  refine#[?_,F,#[s,L],?_]
  ·rw[lQm,QIq]
   exact Qqq (m:=1001) (!0) (!1)
  ·rw[List.replicate_succ']
   simp
 ·let#[v,#[G,rfl],rfl]:=h
  refine#[L,_,oD (f:=λ_=>true) _,?_]
  rw[show((List.replicate p.1.length ()).map λ_=>true).all id=true by simp]
  exact q G
end
end DL
namespace W28
open PySem PySem.Spec L2 DL
section
variable{S:aH}{Q:Res->aH->Prop}
def yU(w:Rw):∃r,w.d=.tup (.str w.k::r):=#[_,w.d_is]
def J3{r:Rm}(h:∀p∈r.de,p.2.length<=40/\∀w∈p.2,w.k≠"all")(o:r.de.length<=4)(q:Q (.d (.bl false)) S):Fn nM [r.d] S Q:=by
 have m:(r.de.flatMap λp=>p.2).length<=40*4:=by
  rw[List.length_flatMap]
  have:∀l:List (Str×List Rw),(∀p∈l,p.2.length<=40)->(l.map λp=>p.2.length).sum<=40*l.length:=by
   intro l
   induction l with
   |nil=>intro _;exact Qmq _
   | cons p l u=>
     intro g
     let y:=g p (QBq ..)
     let v:=u λx s=>g x (Qpq _ s)
     erw[QDq,List.sum_cons,Qnq]
     omega
  have:=this r.de λp g=>(h p g).1
  exact QAq this (Nat.mul_le_mul (Qmq _) o)
 refine cA ?_
 unfold yE
 refine cb (GV (mW (xC (α:=Str×List Rw) (β:=Rw) (λf=>∃a b c,f= [a,b,c]) (λp f=>∃a c,f= [a,some (.tup (p.2.map Rw.d)),c]) u5 (λp=>p.2) (λ_ w=>w.d) (λ_ w=>.bl (decide (w.k=("all":Str)))) #[none,none,none,L] (λx f ⟨a,c,e⟩=>#[a,_,c,e]) (eD (bq (a_ (av L (bM (bE (d:=.tup (r.de.map u5)) L (br #[r.de,L,λ_=>trivial,by omega,λ_ _ _ _=>rfl,?_,?_]))))))))))
 ·rintro p g j f ⟨a,b,c,rfl⟩
  refine kG L (aL (bu (aL (bu (c0 #[L,?_])))))
  refine eD (bq (av L (br #[L,L,λ_=>trivial,#[_,_,L],?_])))
  rintro w i j f ⟨a,c,rfl⟩
  refine bu #[L,#[_,_,L],?_]
  let#[t,e]:=yU w
  rw[e]
  exact a_ (a_ (av L (bM (bE eh (bM (cw #[L,L]))))))
 ·refine#[L,((r.de.flatMap λp=>p.2).map λw=>decide (w.k=("all":Str))),?_,?_]
  ·rw[<-List.map_flatMap]
   exact oD _
  ·rw[show(((r.de.flatMap λp=>p.2).map λw=>decide (w.k=("all":Str))).any id)=false from List.any_eq_false.mpr λb n=>by
    let#[w,i,rfl]:=Qkq.mp n
    let#[p,g,i]:=QOq.mp i
    simp[(h p g).2 w i]]
   exact eB q
def jq{α:Type}{xs:List α}{a:α->D}{nm:α->Str}(h:∀x∈xs,∃r,a x=.tup (.str (nm x)::r))(b:xs.length<=1000)(q:Q (.l ((xs.map nm).map D.str)) S):Fn dg [.tup (xs.map a)] S Q:=
 oh h b (by rw[QPq] at q;exact q)
def ym{f:List Rm}(n:(aO f).length<=16)(i:∀r∈f,r.de.length<=4)(q:Q (.l ((aO f).map eE)) S):Fn fo [.tup (f.map Rm.d)] S Q:=by
 have h:(f.flatMap λr=>r.de.map λp=>eE (r.nm,p.1))=(aO f).map eE:=by
  unfold aO
  rw[List.map_flatMap]
  erw[QPq]
  rfl
 have m:(f.flatMap λr=>r.de).length=(aO f).length:=by
  unfold aO
  erw[List.length_flatMap,lQm]
 refine cA ?_
 unfold oN
 refine E9 (xC (α:=Rm) (β:=Str×List Rw) (λc=>∃a b,c= [a,b]) (λr c=>∃b,c= [some r.d,b]) Rm.d (λr=>r.de) (λ_ p=>.str p.1) (λr p=>eE (r.nm,p.1)) #[none,none,L] (λx c ⟨b,e⟩=>#[_,b,e]) (eD (bq (av L (br #[f,L,λ_=>trivial,by omega,λ_ _ _ _=>rfl,?_,?_])))))
 ·rintro r j g c ⟨a,b,rfl⟩
  refine bu #[L,?_]
  refine eD (mW (fY (ay (a_ (av L (bM (bE (d:=.tup (r.de.map u5)) L (aI (oh (nm:=λp:Str×List Rw=>p.1) (λx _=>#[_,L]) (QAq (i r j) (!1)) #[L,L,λ_=>trivial,#[_,L],?_])))))))))
  rintro p k g c ⟨b,rfl⟩
  exact bu #[L,#[_,L],dR (ay (a_ (av L (bM (bE (d:=.str r.nm) L (ay (av L (aI #[show 2<=sizeLine by decide,L,L]))))))))]
 ·rw[h]
  exact G2 (cC λ_ _=>rfl) q
def H_{d bs:X6}{ds:List (Str×Str)}{m:Nat}{w:Rw}(h:w.ok (m7 d bs ds false) m):w.k≠"all":=by
 have c:("all":Str)∉(m7 d bs ds false).ks:=by
  show("all":Str)∉CM _ _ _ (ne bs&&false)
  rw[Bool.and_false]
  exact FJ _ _ _
 cases w with
 |un t n=>erw[Rw.k];decide +kernel
 |go n=>erw[Rw.k];decide +kernel
 | te k t=>
   intro e
   erw[Rw.k] at e
   subst e
   exact c h.1
 |pu x t=>erw[Rw.k];decide +kernel
 |dd x a b t=>erw[Rw.k];decide +kernel
 |wa b t=>erw[Rw.k];decide +kernel
 | on k b=>
   intro e
   erw[Rw.k] at e
   subst e
   exact c h.1
 |pa p q=>erw[Rw.k];decide +kernel
structure MP(os:List (Str×Str))(r:Rm):Prop where
 th:(∀v∈r.th,lX v.1=true)/\r.th.length<=4
 be:(∀v∈r.be,lX v.1=true)/\r.be.length<=3
 de:r.de.length<=4/\∀p∈r.de,∃ds:List (Str×Str),(∀q∈ds,q∈os/\lX q.1=true/\lX q.2=true)/\Pr (m7 (r.th.map (·.1)) (r.be.map (·.1)) ds (decide (r.mn="when free"))) p.2
def pG{α:Type}{l:List α}{f:α->Str}(h:∀v∈l,lX (f v)=true):∀x∈l.map f,lX x=true:=λx a=>by
 let#[v,hv,rfl]:=Qkq.mp a
 exact h v hv
def zM{r:Rm}{k:Nat}{os:List (Str×Str)}(hS:S[k]?=some (.lst (os.map eE)))(Z:∀q∈os,PyData.strOk q.1=true/\PyData.strOk q.2=true)(h:MP os r)(q:Q (.d (.bl true)) S):Fn gS [r.d,.ref k] S Q:=by
 let t4:=h.th.2
 let b3:=h.be.2
 refine cA ?_
 unfold oH
 refine aU (Jh (av L (kG L (aL (bu (aL (bu (aL (bu (aL (bu (aL (bu (c0 ?_))))))))))))))
 refine aU (lV (iM (fY (ay (av L (aI (jq (nm:=λv:Str×Nat=>v.1) (λx _=>#[_,L]) (!0) ?_)))))))
 try dsimp only
 have N:(S++ [O.lst ((r.th.map (·.1)).map D.str)])[S.length]?=some (sO (r.th.map (·.1))):=aV
 let A:=aJ (G:= [O.lst ((r.th.map (·.1)).map D.str)]) hS
 generalize P:S++ [O.lst ((r.th.map (·.1)).map D.str)]=S1 at N A|-
 refine aU (lV (Fs (ay (av L (ay (iM (ju (bq (av L (bB N (mW (ki (ay (bM (aI #[show 1<=sizeLine by decide,#[L,L,N,QAq (m:=1000) (by erw[lQm,Qnq,QGq];omega) (!1)],?_])))))))))))))))
 try dsimp only
 have t:(S1++ [O.lst ((r.th.map (·.1)).map D.str++ [D.str "given"])])[S1.length]?=some (sO (r.th.map (·.1)++ [("given":Str)])):=by
  unfold sO
  rw[Qzq]
  exact aV
 let s2:=aJ (G:= [O.lst ((r.th.map (·.1)).map D.str++ [D.str "given"])]) N
 let C:=aJ (G:= [O.lst ((r.th.map (·.1)).map D.str++ [D.str "given"])]) A
 generalize W:S1++ [O.lst ((r.th.map (·.1)).map D.str++ [D.str "given"])]=S2 at t s2 C|-
 refine ay (iM (fY (ay (av L (aI (jq (nm:=λv:Str×Str=>v.1) (λx _=>#[_,L]) (!0) ?_))))))
 try dsimp only
 have F:(S2++ [O.lst ((r.be.map (·.1)).map D.str)])[S2.length]?=some (sO (r.be.map (·.1))):=aV
 let H:=aJ (G:= [O.lst ((r.be.map (·.1)).map D.str)]) t
 let s3:=aJ (G:= [O.lst ((r.be.map (·.1)).map D.str)]) s2
 let I:=aJ (G:= [O.lst ((r.be.map (·.1)).map D.str)]) C
 generalize Y:S2++ [O.lst ((r.be.map (·.1)).map D.str)]=S3 at F H s3 I|-
 refine ay (av L (aI ?_))
 try dsimp only
 generalize M:fQ [] (((["thing","word","bell","deed"]:List Str).map (Sum.inr:Str->Key)).zip ([D.ref S.length,.ref S1.length,.ref S2.length,.ref k]:List D))=l
 have v1:eA l (.inr "thing")=some (.ref S.length):=by subst M;rfl
 have v2:eA l (.inr "word")=some (.ref S1.length):=by subst M;rfl
 have v3:eA l (.inr "bell")=some (.ref S2.length):=by subst M;rfl
 have v4:eA l (.inr "deed")=some (.ref k):=by subst M;rfl
 have s:(S3++ [O.dct l])[S3.length]?=some (.dct l):=aV
 let u:=aJ (G:= [O.dct l]) F
 let y:=aJ (G:= [O.dct l]) H
 let s4:=aJ (G:= [O.dct l]) s3
 let n:=aJ (G:= [O.dct l]) I
 have e:∃G,S3++ [O.dct l]=S++G:=#[_,by rw[<-Y,<-W,<-P,Qvq,Qvq,Qvq]]
 generalize a0:S3++ [O.dct l]=S4 at s u y s4 n e|-
 refine aU (bO (bF (bH (DT (α:=Str×List Rw) (λK=>∃a b,K= [a,b,some (.ref S3.length)]) u5 #[none,none,L] (eD (bq (av L (br #[r.de,L,λ_=>trivial,by have:=h.de.1;omega,λp R G K X=>?_,λG=>?_]))))))))
 ·let#[a,b,rfl]:=X
  let#[ds,g,f]:=h.de.2 p R
  refine kG L (aL (bu (aL (bu (c0 #[L,#[_,_,L],?_])))))
  refine aS (ay (av L (ay (LC (ay (av L (aI ?_)))))))
  have J:∀{i:Nat} {o:O},S4[i]?=some o->((S4++G)++ [O.dct (BA eI)])[i]?=some o:=λh=>aJ (aJ h)
  refine xJ (c:=m7 (r.th.map λv:Str×Nat=>v.1) (r.be.map λv:Str×Str=>v.1) ds (decide (r.mn="when free"))) (os:=os) #[#[l,_,_,_,_,J s,v1,v2,v3,v4,J s4,J y,J u,J n,λc=>absurd L c],λq B=>(g q B).1,Z,?_,pG h.th.1,pG h.be.1,λq B=>(g q B).2,λq B=>(by cases B)] aV f (λw U=>FN (f.2.2 w U)) #[L,_,Qvq _ _ _]
  intro x j
  rcases mQa.mp j with j|j
  ·exact pG h.th.1 x j
  ·rw[Qfq] at j
   subst j
   exact D8
 ·refine bf (aC (λc=>(by cases c)) (λ_=>cN ?_))
  let#[G0,hG]:=e
  have z:Q (.d (.bl true)) S->Op (settle S (.bl true) (S4++G)) λp=>Q p.1 p.2:=iu (by rw[hG];erw[lQa];omega) (λi hi=>by rw[hG,Qvq,QHq hi]) L
  refine cb (vn (a_ (av L (bM (cw #[_,L,aC (λ_=>z q) (λhc=>?_)])))))
  refine Da (aS (ay (av L (aI (J3 (λp R=>?_) h.de.1 #[false,L,z q])))))
  let#[ds,g,f]:=h.de.2 p R
  refine#[f.2.1,λw U=>?_]
  have:=f.2.2 w U
  rw[hc] at this
  exact H_ this
end
section
variable{S:aH}{Q:Res->aH->Prop}
def yA{w:Wr}(k:w.rm.length<=4)(g:(aO w.rm).length<=16)(f:∀q∈aO w.rm,PyData.strOk q.1=true/\PyData.strOk q.2=true)(h:∀r∈w.rm,MP (aO w.rm) r)(q:Q (.d (.bl true)) S):Fn fw [w.d] S Q:=by
 refine cA ?_
 unfold kR
 refine cb (DT (α:=Rm) (λb=>∃a,b= [a,some w.d]) Rm.d #[none,L] (eD (bq (a_ (av L (bM (bE (ds:= [.tup (w.rm.map Rm.d),.tup (w.ps.map j6),.tup (w.op.map j6),.tup (w.hd.map Hd.d)]) eh (br #[w.rm,L,λ_=>trivial,by omega,λr e G b c=>?_,λG=>?_]))))))))
 ·let#[a,rfl]:=c
  refine bu #[L,#[_,L],aS (ay (av L (ay (iM (fY (ay (a_ (av L (bM (bE (ds:= [.tup (w.rm.map Rm.d),.tup (w.ps.map j6),.tup (w.op.map j6),.tup (w.hd.map Hd.d)]) eh (aI (ym g (λr e=>(h r e).de.1) (aI ?_)))))))))))))]
  exact zM aV f (h r e) #[L,_,Qvq _ _ _]
 ·exact iu (by simp) (λi j=>QHq j) L q
structure NJ(w:Wr)(x:Hd):Prop where
 th:(∀v∈x.th,lX v.1=true)/\x.th.length<=8
 pr:Pr (iK (x.th.map (·.1)++w.op.map (·.1)) (aO w.rm) (w.ps.map (·.1))) x.pr
def xO{w:Wr}(h4:∀r∈w.rm,r.de.length<=4)(R:(aO w.rm).length<=16)(J:∀q∈aO w.rm,(PyData.strOk q.1=true/\PyData.strOk q.2=true)/\lX q.1=true/\lX q.2=true)
  (hp:(∀v∈w.ps,lX v.1=true)/\w.ps.length<=16) (ho:(∀v∈w.op,lX v.1=true)/\w.op.length<=16) (hh:w.hd.length<=4) (h:∀x∈w.hd,NJ w x) (q:Q (.d (.bl true)) S):Fn fD [w.d] S Q:=by
 let a1:=hp.2
 let a0:=ho.2
 refine cA ?_
 unfold k9
 refine aU (Jh (av L (kG L (aL (bu (aL (bu (aL (bu (aL (bu (c0 ?_))))))))))))
 refine aU (hV (eD (bq (av L (br (ds:=w.hd.map Hd.d) #[λk g Z=>∃K N W b8,g= [some w.d,some (.tup (w.rm.map Rm.d)),some (.tup (w.ps.map j6)),some (.tup (w.op.map j6)),some (.tup (w.hd.map Hd.d)),K,N,W,b8]/\∃G,Z=S++G,#[none,none,none,none,L,[],by simp],λ_ _ _ _=>trivial,?_,?_])))))
 ·rintro k d g Z b ⟨K,N,W,b8,rfl,G,rfl⟩
  have b:(w.hd.map Hd.d)[k]?=some d:=b
  rw[gQm] at b
  let#[x,j,rfl]:=oQm.mp b
  let j:=h x (mQg j)
  let t8:=j.th.2
  refine kG L (aL (bu (aL (bu (c0 ?_)))))
  refine aU (lV (iM (ju (mW (fY (ay (av L (aI (jq (nm:=λv:Str×Nat=>v.1) (λx _=>#[_,L]) (!0) (mW (fY (ay (av L (aI (jq (nm:=λv:Str×Nat=>v.1) (λx _=>#[_,L]) (!0) #[#[L,L,trivial,QAq (m:=1000) (by erw[lQm];omega) (!1)],?_])))))))))))))))
  try dsimp only
  generalize P:S++G=S0
  have s1:(S0++ [O.lst ((x.th.map (·.1)).map D.str++(w.op.map (·.1)).map D.str)])[S0.length]?=some (sO (x.th.map (·.1)++w.op.map (·.1))):=by
   unfold sO
   rw[Qzq]
   exact aV
  generalize U:S0++ [O.lst ((x.th.map (·.1)).map D.str++(w.op.map (·.1)).map D.str)]=S1 at s1|-
  refine aU (lV (Fs (ay (av L (ay (av L (ay (iM (ki (aI #[Nat.zero_le _,?_]))))))))))
  try dsimp only
  let s2:=aJ (G:= [O.lst []]) s1
  have C:(S1++ [O.lst []])[S1.length]?=some (sO []):=aV
  generalize X:S1++ [O.lst []]=S2 at s2 C|-
  refine ay (iM (fY (ay (av L (aI (ym R h4 ?_))))))
  try dsimp only
  let s3:=aJ (G:= [O.lst ((aO w.rm).map eE)]) s2
  let B:=aJ (G:= [O.lst ((aO w.rm).map eE)]) C
  have F:(S2++ [O.lst ((aO w.rm).map eE)])[S2.length]?=some (.lst ((aO w.rm).map eE)):=aV
  generalize Y:S2++ [O.lst ((aO w.rm).map eE)]=S3 at s3 B F|-
  refine ay (iM (fY (ay (av L (aI (jq (nm:=λv:Str×Nat=>v.1) (λx _=>#[_,L]) (!0) ?_))))))
  try dsimp only
  have y:(S3++ [O.lst ((w.ps.map (·.1)).map D.str)])[S3.length]?=some (sO (w.ps.map (·.1))):=aV
  let s4:=aJ (G:= [O.lst ((w.ps.map (·.1)).map D.str)]) s3
  let s:=aJ (G:= [O.lst ((w.ps.map (·.1)).map D.str)]) B
  let p:=aJ (G:= [O.lst ((w.ps.map (·.1)).map D.str)]) F
  generalize M:S3++ [O.lst ((w.ps.map (·.1)).map D.str)]=S4 at y s4 s p|-
  refine aI ?_
  try dsimp only
  generalize b:fQ [] ((((["thing","word","bell","deed","pass"]:List Str).map (Sum.inr:Str->Key))).zip ([D.ref S0.length,.ref S0.length,.ref S1.length,.ref S2.length,.ref S3.length]:List D))=l
  have v1:eA l (.inr "thing")=some (.ref S0.length):=by subst b;rfl
  have v2:eA l (.inr "word")=some (.ref S0.length):=by subst b;rfl
  have v3:eA l (.inr "bell")=some (.ref S1.length):=by subst b;rfl
  have v4:eA l (.inr "deed")=some (.ref S2.length):=by subst b;rfl
  have v5:eA l (.inr "pass")=some (.ref S3.length):=by subst b;rfl
  have H:(S4++ [O.dct l])[S4.length]?=some (.dct l):=aV
  let A:=aJ (G:= [O.dct l]) y
  let s5:=aJ (G:= [O.dct l]) s4
  let I:=aJ (G:= [O.dct l]) s
  let t:=aJ (G:= [O.dct l]) p
  have a:∃G,S4++ [O.dct l]=S++G:=#[_,by rw[<-M,<-Y,<-X,<-U,<-P,Qvq,Qvq,Qvq,Qvq,Qvq]]
  generalize a2:S4++ [O.dct l]=S5 at H A s5 I t a|-
  have n:∀{i:Nat} {o:O},S5[i]?=some o->(S5++ [O.dct (BA eK)])[i]?=some o:=λh=>aJ h
  have gw:∀z∈x.th.map (λv:Str×Nat=>v.1)++w.op.map (λv:Str×Nat=>v.1),lX z=true:=λz f=>by
   rcases mQa.mp f with f|f
   ·exact pG j.th.1 z f
   ·exact pG ho.1 z f
  refine bO (bF (bH (aS (ay (av L (ay (LC (ay (av L (aI ?_))))))))))
  refine xJ (c:=iK (x.th.map (λv:Str×Nat=>v.1)++w.op.map (λv:Str×Nat=>v.1)) (aO w.rm) (w.ps.map λv:Str×Nat=>v.1)) (os:=aO w.rm) #[#[l,_,_,_,_,n H,v1,v2,v3,v4,n s5,n s5,n I,n t,λ_=>#[_,v5,n A]],λq u=>u,λq u=>(J q u).1,gw,gw,λz f=>(by cases f),λq u=>(J q u).2,pG hp.1] aV j.pr (λr hr=>GJ (j.pr.2.2 r hr)) ?_
  refine bf (aC (λc=>(by cases c)) (λ_=>cN #[_,_,_,_,L,?_]))
  let#[G',e]:=a
  exact#[G'++_,by rw[e,Qvq]]
 ·rintro g Z ⟨K,N,W,b8,rfl,G,rfl⟩
  exact cb (bM (iu (by simp) (λi hi=>QHq hi) L q))
end
def yu(p:Str×Str):Prop:=PyData.strOk p.1=true/\PyData.strOk p.2=true
def zY{p:Str×Str}(h:yu p):ji (.tup [.str p.1,.str p.2])=some (jx p):=by simp[ji,dM,h.1,h.2,jx]
def Mz{p:Str×Str}(h:yu p):ST.nv 8 (jx p)=true:=by simp[jx,ST.nv,ST.pM,h.1,h.2]
structure En where
 k:Str×Str
 r:Nat
 nx:List (Str×Str)
def qG(es:List En):List D:=es.map λe=>eE e.k
def yp(es:List En):List D:=es.map λe=>.ref e.r
theorem Hv{e:En}:∀{es:List En},(∀e∈es,yu e.k)->(es.map (·.k)).Nodup->e∈es->valN (qG es) (yp es) (jx e.k)=some (.ref e.r)
 | [],_,_,h=>by cases h
 | x::es,so,nd,h=>by
   rw[QDq,List.nodup_cons] at nd
   have a:ji (eE x.k)=some (jx x.k):=zY (so x (QBq ..))
   erw[qG,yp,QDq,valN,a]
   rcases Qsq.mp h with rfl|h
   · rw[Qhq (Dl _)]
   · rw[Quq λc=>nd.1 (by rw[rX c];exact Qkq.mpr #[e,h,L])]
     exact Hv (λy b=>so y (Qpq _ b)) nd.2 h
theorem C9{q:Str×Str}:∀{es:List En},(∀e∈es,yu e.k)->(valN (qG es) (yp es) (jx q)).isSome=decide (q∈es.map (·.k))
 | [],_=>by simp[qG,yp,valN]
 | x::es,so=>by
   have b:ji (eE x.k)=some (jx x.k):=zY (so x (QBq ..))
   let a:=C9 (q:=q) (es:=es) λy d=>so y (Qpq _ d)
   erw[qG,yp,QDq,valN,b] at a|-
   by_cases c:PyData.eqv (jx x.k) (jx q)=true
   · rw[Qhq c]
     have:=rX c
     simp[this]
   · rw[Quq c,a]
     have:x.k≠q:=λe=>c (by rw[e];exact Dl _)
     simp[this.symm]
theorem GY{q:Str×Str}:∀{es:List En},(∀e∈es,yu e.k)->q∈es.map (·.k)->∃j e,zr (qG es) (jx q)=some j/\es[j]?=some e/\e.k=q
 | [],_,h=>by cases h
 | x::es,so,h=>by
   have b:ji (eE x.k)=some (jx x.k):=zY (so x (QBq ..))
   erw[qG,QDq,zr,b]
   by_cases c:PyData.eqv (jx x.k) (jx q)=true
   · exact#[0,x,by rw[Qhq c],L,rX c]
   · rw[Quq c]
     have h:q∈es.map (·.k):=by
       rcases Qsq.mp (show q∈x.k::es.map (·.k) from h) with rfl|h
       · exact absurd (Dl _) c
       · exact h
     let#[j,e,a,d,g]:=GY (λy f=>so y (Qpq _ f)) h
     have a:zr (es.map λe=>eE e.k) (jx q)=some j:=a
     exact#[j+1,e,by rw[a];rfl,by simpa using d,g]
structure Lf(S0 S:aH)(es:List En):Prop where
 len:S0.length<S.length
 keep:∀i,i<S0.length->S[i]?=S0[i]?
 dct:∃eN,S[S0.length]?=some (.dctN eN (qG es) (yp es))
 ref:∀e∈es,S0.length<e.r/\S[e.r]?=some (.lst (e.nx.map eE))
 so:∀e∈es,yu e.k/\(∀q∈e.nx,yu q)/\e.nx.length<=40
 nd:(es.map (·.k)).Nodup
section
variable{S0 S:aH}{es:List En}
def Lf.sok(l:Lf S0 S es):∀e∈es,yu e.k:=λe a=>(l.so e a).1
def Lf.app(l:Lf S0 S es){G:aH}:Lf S0 (S++G) es:=by
 let#[b,h]:=l.dct
 exact#[by rw[lQa];have:=l.len;omega,λi c=>by rw[QHq (by have:=l.len;omega)];exact l.keep i c,#[b,aJ h],λe a=>#[(l.ref e a).1,aJ (l.ref e a).2],l.so,l.nd]
def Lf.put{o:O}(l:Lf S0 S es){a:List En}{eN:Nat}(c:o=.dctN eN (qG a) (yp a))(r:∀e∈a,S0.length<e.r/\S[e.r]?=some (.lst (e.nx.map eE)))(d:∀e∈a,yu e.k/\(∀q∈e.nx,yu q)/\e.nx.length<=40)(nd:(a.map (·.k)).Nodup):Lf S0 (S.set S0.length o) a:=by
 subst c
 let#[_,h]:=l.dct
 refine#[by rw[List.length_set];exact l.len,λi f=>by rw[QKq (!0)];exact l.keep i f,#[eN,fM h],λe b=>#[(r e b).1,?_],d,nd]
 rw[QKq (by have:=(r e b).1;omega)]
 exact(r e b).2
def Lf.add(l:Lf S0 S es){k:Str×Str}{nx:List (Str×Str)}{eN:Nat}(i:yu k)(m:∀q∈nx,yu q)(f:nx.length<=40)(g:k∉es.map (·.k)):Lf S0 ((S++ [O.lst (nx.map eE)]).set S0.length (.dctN eN (qG es++ [eE k]) (yp es++ [D.ref S.length]))) (es++ [#[k,S.length,nx]]):=by
 refine l.app.put (eN:=eN) (by simp[qG,yp]) (λe d=>?_) (λe d=>?_) ?_
 ·rcases mQa.mp d with d|d
  ·exact#[(l.ref e d).1,aJ (l.ref e d).2]
  ·rw[Qfq] at d
   subst d
   exact#[l.len,aV]
 ·rcases mQa.mp d with d|d
  ·exact l.so e d
  ·rw[Qfq] at d
   subst d
   exact#[i,m,f]
 ·rw[Qzq,List.nodup_append]
  refine#[l.nd,by simp,λa j b h=>?_]
  erw[QDq,List.map_nil,Qfq] at h
  subst h
  exact λc=>g (c▸j)
def Lf.del(l:Lf S0 S es){j eN:Nat}:Lf S0 (S.set S0.length (.dctN eN ((qG es).eraseIdx j) ((yp es).eraseIdx j))) (es.eraseIdx j):=by
 have b:∀e∈es.eraseIdx j,e∈es:=λe a=>List.mem_of_mem_eraseIdx a
 refine l.put (eN:=eN) ?_ (λe a=>l.ref e (b e a)) (λe a=>l.so e (b e a)) ?_
 ·unfold qG yp
  rw[jl,jl]
 ·rw[<-jl]
  exact(List.eraseIdx_sublist _ _).nodup l.nd
end
def Ord(os:List (Str×Str))(e:En):Prop:=∃a,os[a]?=some e.k/\∀q∈e.nx,q∈os.drop (a+1)
def fr(es:List En)(e:En):Bool:= !(e.nx.any λq=>decide (q∈es.map (·.k)))
def GB{os:List (Str×Str)}(nd:os.Nodup){es:List En}(h:∀e∈es,Ord os e)(r:es≠[]):es.filter (fr es)≠[]:=by
 intro c
 have v:∀e∈es,∃q∈e.nx,q∈es.map (·.k):=λe b=>by
  have:fr es e=false:=by
   cases u:fr es e with
   |false=>rfl
   |true=>exact absurd (List.mem_filter.mpr #[b,u]) (by rw[c];exact QXq)
  unfold fr at this
  have f:(e.nx.any λq=>decide (q∈es.map (·.k)))=true:=by simpa using this
  let#[q,g,p]:=List.any_eq_true.mp f
  exact#[q,g,QZq p]
 have A:∀(n a:Nat),os.length<=a+n->∀e∈es,os[a]?=some e.k->False:=by
  intro n
  induction n with
  | zero=>
    intro a x e b d
    have:=(gQs.mp d).1
    omega
  | succ n z=>
    intro a x e b d
    let#[q,g,s]:=v e b
    let#[m,i,f]:=h e b
    have w:a<os.length:=(gQs.mp d).1
    have y:a=m:=(List.getElem?_inj w nd).mp (d.trans i.symm)
    subst y
    let#[t,l,rfl]:=Qkq.mp s
    let#[j,o]:=List.mem_iff_getElem?.mp (f _ g)
    rw[List.getElem?_drop] at o
    exact z (a+1+j) (!0) t l o
 cases es with
 |nil=>exact r L
 | cons e es=>
   let#[a,i,_]:=h e (QBq ..)
   exact A os.length a (!0) e (QBq ..) i
def M1:Rw->Str×Str
 |.dd _ a b _=>(a,b)
 |_=>("","")
def J4(w:Rw):Bool:=decide (w.k=("do":Str))
def J1(ws:List Rw):List (Str×Str):=(ws.filter J4).map M1
section
variable{S:aH}{Q:Res->aH->Prop}
structure LY(os:List (Str×Str))(rs:List Rm):Prop where
 nd:os.Nodup
 nd2:(aO rs).Nodup
 so:∀q∈os,yu q
 len:(aO rs).length<=16
 n4:rs.length<=4/\∀r∈rs,r.de.length<=4
 at_:∀r∈rs,∀p∈r.de,∃ix,os[ix]?=some (r.nm,p.1)/\∃c:Sc,c.ds=os.drop (ix+1)/\Pr c p.2
def Ad{os:List (Str×Str)}{n:List Rm}(h:LY os n)(q:Q (.d (.bl true)) S):Fn f_ [.tup (n.map Rm.d)] S Q:=by
 refine cA ?_
 unfold lZ
 refine aU (lV (ML ?_))
 have a5:Lf S (S++ [O.dctN 0 [] []]) []:=#[by simp,λi hi=>QHq hi,#[0,aV],λe s=>(by cases s),λe s=>(by cases s),List.nodup_nil]
 generalize S++ [O.dctN 0 [] []]=S1 at a5|-
 refine aU (hV (eD (bq (av L (br (ds:=n.map Rm.d) #[λk g A=>∃U B I K f,g= [some (.tup (n.map Rm.d)),some (.ref S.length),U,B,I,K]/\Lf S A f/\f.map (·.k)=aO (n.take k)/\∀e∈f,Ord os e,#[none,none,none,none,[],L,a5,L,λe s=>(by cases s)],λ_ _ _ _=>trivial,?_,?_])))))
 ·rintro k d g A u ⟨U,B,I,K,f,rfl,lf,hk,ho⟩
  have u:(n.map Rm.d)[k]?=some d:=u
  rw[gQm] at u
  let#[r,hr,rfl]:=oQm.mp u
  let b9:=mQg hr
  have tk:aO (n.take (k+1))=aO (n.take k)++r.de.map λp=>(r.nm,p.1):=by
   rw[List.take_succ,hr]
   unfold aO
   rw[List.flatMap_append]
   simp
  have sp:aO n=aO (n.take (k+1))++aO (n.drop (k+1)):=by
   unfold aO
   rw[<-List.flatMap_append,List.take_append_drop]
  refine bu (hV (eD (bq (a_ (av L (bM (bE (ds:= [.str r.nm,.str r.mn,.tup (r.th.map j6),.tup (r.be.map vG),.tup (r.de.map u5)]) (d:=.tup (r.de.map u5)) L (br (ds:=r.de.map u5) #[λj g A=>∃B I K f,g= [some (.tup (n.map Rm.d)),some (.ref S.length),some r.d,B,I,K]/\Lf S A f/\f.map (·.k)=aO (n.take k)++(r.de.take j).map (λp=>(r.nm,p.1))/\∀e∈f,Ord os e,#[_,_,_,f,L,lf,by rw[hk];simp,ho],λ_ _ _ _=>trivial,?_,?_]))))))))
  ·rintro j d g A u ⟨B,I,K,f,rfl,lf,hk,ho⟩
   have u:(r.de.map u5)[j]?=some d:=u
   rw[gQm] at u
   let#[p,hp,rfl]:=oQm.mp u
   let b8:=mQg hp
   let#[ix,Y,c,hc,P]:=h.at_ r b9 p b8
   let c8:=P.2.1
   have tj:r.de.take (j+1)=r.de.take j++ [p]:=by rw[List.take_succ,hp];rfl
   have a2:(r.nm,p.1)∉f.map (·.k):=by
    rw[hk]
    have h1:aO n=(aO (n.take k)++(r.de.take j).map λp=>(r.nm,p.1))++((r.nm,p.1)::((r.de.drop (j+1)).map λp=>(r.nm,p.1))++aO (n.drop (k+1))):=by
     rw[sp,tk]
     have:r.de=r.de.take j++p::r.de.drop (j+1):=by
      conv=>lhs;rw[<-List.take_append_drop (j+1) r.de,tj]
      simp
     conv=>lhs;rw[this]
     simp
    let h2:=h.nd2
    rw[h1,List.nodup_append] at h2
    exact λc=>h2.2.2 _ c _ (QBq ..) L
   have C:yu (r.nm,p.1):=h.so _ (mQg Y)
   have b1:∀q∈J1 p.2,q∈os.drop (ix+1):=λq W=>by
    let#[w,hw,rfl]:=Qkq.mp W
    let#[hw,u]:=List.mem_filter.mp hw
    let a1:=P.2.2 w hw
    let#[x,a,b,t,rfl]:=DP a1 (QZq u)
    rw[<-hc]
    exact a1.2.2.1
   have c3:∀q∈J1 p.2,yu q:=λq W=>h.so q (List.mem_of_mem_drop (b1 q W))
   have c7:(J1 p.2).length<=40:=by
    unfold J1
    rw[lQm]
    exact QAq (List.length_filter_le _ _) c8
   let#[X,v]:=lf.dct
   refine kG L (aL (bu (aL (bu (c0 ?_)))))
   refine M6 (iM (eP (α:=Rw) (λg=>∃a,g= [a]) Rw.d (λw=>eE (M1 w)) J4 #[none,L] (eD (bq (av L (br #[p.2,L,trivial,by omega,λw hw g F=>?_,?_]))))))
   ·let#[a,rfl]:=F
    refine bu #[L,#[_,L],?_]
    let#[t,e]:=yU w
    rw[e]
    refine bj (a_ (a_ (av L (bM (bE eh (bM (cw #[L,L,λu=>?_])))))))
    rw[<-e]
    let#[x,a,b,t,rfl]:=DP (P.2.2 w hw) (QZq u)
    exact dR (ay (a_ (av L (bM (bE (d:=.str a) L (ay (a_ (av L (bM (bE (d:=.str b) L (aI #[show 2<=sizeLine by decide,L,L])))))))))))
   ·have en:((p.2.filter J4).map λw=>eE (M1 w))=(J1 p.2).map eE:=by unfold J1;rw[QPq];rfl
    rw[en]
    refine av L (dR (ay (a_ (av L (bM (bE (d:=.str r.nm) L (ay (av L (aI #[show 2<=sizeLine by decide,S.length,_,X,qG f,yp f,jx (r.nm,p.1),L,L,aJ v,zY C,#[Mz C,?_,?_],?_])))))))))
    ·have:(qG f).length=(f.map (·.k)).length:=by unfold qG;simp
     rw[this,hk,lQa,lQm,Qxq]
     let h3:=h.len
     rw[sp,tk,lQa,lQa,lQm] at h3
     omega
    ·rw[C9 lf.sok,Qdq a2]
    ·refine#[_,_,_,f++ [#[(r.nm,p.1),A.length,J1 p.2]],L,lf.add C c3 c7 a2,?_,λe s=>?_]
     ·rw[Qzq,hk,tj]
      simp
     ·rcases mQa.mp s with s|s
      ·exact ho e s
      ·rw[Qfq] at s
       subst s
       exact#[ix,Y,b1]
  ·rintro g A ⟨B,I,K,f,rfl,lf,hk,ho⟩
   refine#[_,_,_,_,f,L,lf,?_,ho]
   rw[hk,tk]
   have:(r.de.take (r.de.map u5).length)=r.de:=by rw[lQm,QEq]
   rw[this]
 ·rintro g A ⟨U,B,I,K,f,rfl,lf,hk,ho⟩
  have N:f.length<=16:=by
   have:f.length=(f.map (·.k)).length:=by simp
   rw[this,hk]
   have:n.take (n.map Rm.d).length=n:=by rw[lQm,QEq]
   rw[this]
   exact h.len
  refine aU (DS (λm g A=>∃U B I K f,g= [some (.tup (n.map Rm.d)),some (.ref S.length),U,B,I,K]/\Lf S A f/\f.length<=m/\f.length<=16/\∀e∈f,Ord os e) (λm g A hI=>?_) 40 16 _ _ (!1) #[_,_,_,_,f,L,lf,N,N,ho])
  let#[U,B,I,K,f,rfl,lf,hm,N,ho]:=hI
  let#[X,v]:=lf.dct
  have lk:(qG f).length=f.length:=by unfold qG;simp
  refine HN (av L #[S.length,X,qG f,yp f,L,v,by omega,?_])
  cases c6:(qG f).isEmpty with
  | true=>
    refine cb (bM ?_)
    exact iu (nQl lf.len) lf.keep L q
  | false=>
    have h0:f≠[]:=λc=>by subst c;cases c6
    let R:=GB h.nd ho h0
    refine aU (lV (iM (eP (α:=En) (λg=>∃a,g= [a,some (.ref S.length)]) (λe=>eE e.k) (λe=>eE e.k) (fr f) #[none,L] (MJ (av L #[S.length,X,qG f,yp f,L,v,f,L,v,by omega,λe s g F=>?_,?_])))))
    · let#[a,rfl]:=F
      let#[C,a0,d3]:=lf.so e s
      refine bu #[L,#[_,L],?_]
      refine bF (bH (zN (α:=Str×Str) (λg=>∃a,g= [a,some (.ref S.length)]) eE (λq=>decide (q∈f.map (·.k))) #[none,L] (eD (bq (Np (av L (av L #[S.length,_,X,qG f,yp f,jx e.k,_,L,L,v,zY C,Mz C,Hv lf.sok lf.nd s,bB (lf.ref e s).2 #[e.nx,L,(lf.ref e s).2,by omega,λq W g F=>?_,?_]])))))))
      · let#[a,rfl]:=F
        refine bu #[L,#[_,L],LV (av L (av L #[S.length,_,X,qG f,yp f,jx q,L,L,v,zY (a0 q W),Mz (a0 q W),?_,L]))]
        rw[C9 lf.sok]
      · exact bf #[L,L,λ_=>av L #[L,L]]
    generalize c2:f.filter (fr f)=fs at R|-
    have J:fs.Sublist f:=c2▸List.filter_sublist
    have b6:(fs.map (·.k)).Nodup:=(J.map (·.k)).nodup lf.nd
    try dsimp only
    let hf:=aV (S:=A) (o:=.lst (fs.map λe=>eE e.k))
    let Z:=lf.app (G:= [O.lst (fs.map λe=>eE e.k)])
    let d4:=lf.len
    refine aU (bO (bF (bH (av L ?_))))
    refine#[!(fs.map λe=>eE e.k).isEmpty,by erw[Ai,hf],?_]
    cases c9:(fs.map λe=>eE e.k).isEmpty with
    |true=>exact absurd (by simpa using c9) R
    | false=>
      refine cN ?_
      generalize A++ [O.lst (fs.map λe=>eE e.k)]=S2 at hf Z|-
      refine hV (eD (bq (av L (bB hf #[λt g H=>∃B l,g= [some (.tup (n.map Rm.d)),some (.ref S.length),U,B,I,some (.ref A.length)]/\Lf S H l/\H[A.length]?=some (.lst (fs.map λe=>eE e.k))/\l.Sublist f/\l.length+t=f.length/\∀x∈fs.drop t,x.k∈l.map (·.k),#[_,f,L,Z,hf,QjQ _,L,λx hx=>Qkq.mpr #[x,J.subset hx,L]],λt M H hI=>?_,?_,?_]))))
      · let#[_,_,_,_,h3,_]:=hI
        exact h3
      · rintro t d M H u ⟨B,l,rfl,lf',hf',sl,hl,zu⟩
        have u:(fs.map λe=>eE e.k)[t]?=some d:=u
        rw[gQm] at u
        let#[x,hx,rfl]:=oQm.mp u
        let ht:=(gQs.mp hx).1
        have dt:fs.drop t=x::fs.drop (t+1):=by
          rw[QWq ht]
          congr 1
          exact QdQ ((gQe ht).symm.trans hx)
        have xk:x.k∈l.map (·.k):=zu x (by rw[dt];exact QBq ..)
        let#[j,e,hj,a6,c5]:=GY lf'.sok xk
        let b7:=(gQs.mp a6).1
        have a4:yu x.k:=(lf.so x (J.subset (mQg hx))).1
        let#[c4,b0]:=lf'.dct
        have d2:(qG l).length=l.length:=by unfold qG;simp
        let d1:=sl.length_le
        refine bu (IL (av L (av L #[S.length,_,c4,qG l,yp l,jx x.k,j,L,L,b0,zY a4,#[Mz a4,by omega],hj,?_])))
        refine#[_,l.eraseIdx j,L,lf'.del,?_,(List.eraseIdx_sublist _ _).trans sl,?_,λy hy=>?_]
        · rw[QKq (!0)]
          exact hf'
        · rw[List.length_eraseIdx_of_lt b7]
          omega
        · have c1:y.k∈l.map (·.k):=zu y (by rw[dt];exact Qpq _ hy)
          have ne:y.k≠x.k:=by
            have:=b6
            rw[<-List.take_append_drop t fs,dt,Qzq,List.nodup_append] at this
            have:=this.2.1
            rw[QDq,List.nodup_cons] at this
            exact λc=>this.1 (c▸Qkq.mpr #[y,hy,L])
          let#[z,hz,a3]:=Qkq.mp c1
          let#[i,hi]:=List.mem_iff_getElem?.mp hz
          refine Qkq.mpr #[z,List.mem_eraseIdx_iff_getElem?.mpr #[i,λc=>?_,hi],a3]
          subst c
          rw[a6] at hi
          cases hi
          exact ne (a3.symm.trans c5)
      · rintro M H ⟨B,l,rfl,lf',hf',sl,hl,_⟩
        have hl:l.length+(fs.map λe=>eE e.k).length=f.length:=hl
        rw[lQm] at hl
        have fp:0<fs.length:=List.length_pos_iff.mpr R
        exact#[m-1,by omega,_,_,_,_,l,L,lf',by omega,by omega,λe s=>ho e (sl.subset s)]
end
def G(m e:Nat)(d:D):Prop:=∃p,iX d=some p/\p.leavesShort 8=true/\p.showable=true/\p.weight<=m/\p.depth<=e
def Gs(m e:Nat)(ds:List D):Prop:=∃a,gh ds=some a/\PyData.leavesShortAll 8 a=true/\PyData.showableAll a=true/\PyData.weightAll a<=m/\PyData.depthAll a<=e
def Gs.nil{m e:Nat}:Gs m e []:=#[[],L,L,L,Nat.zero_le _,Nat.zero_le _]
def Gs.cons{m e a k:Nat}{d:D}{ds:List D}(h:G m e d)(j:Gs a e ds)(q:m+1+a<=k):Gs k e (d::ds):=by
 let#[p,l,n,g,s,r]:=h
 let#[f,b,i,c,t,o]:=j
 refine#[p::f,by erw[gh,l,b];rfl,by simp[PyData.leavesShortAll,n,i],by simp[PyData.showableAll,g,c],by erw[PyData.weightAll];omega,by erw[PyData.depthAll];omega]
def Gs.tup{m e:Nat}{ds:List D}(h:Gs m e ds):G m (e+1) (.tup ds):=by
 let#[a,b,c,f,d,g]:=h
 exact#[.tuple a,by erw[iX,b];rfl,by simpa only[PyData.leavesShort] using c,by simpa only[PyData.showable] using f,by simpa only[PyData.weight] using d,by erw[PyData.depth];omega]
def G.mono{m e b a:Nat}{d:D}(h:G m e d)(j:m<=b)(he:e<=a):G b a d:=by
 let#[p,c,f,g,i,k]:=h
 exact#[p,c,f,g,by omega,by omega]
theorem Gs.each{m e:Nat}:∀{ds:List D},(∀d∈ds,G m e d)->Gs ((m+1)*ds.length) e ds
 | [],_=>Gs.nil
 |d::ds,h=>Gs.cons (h d (QBq ..)) (Gs.each λx a=>h x (Qpq _ a)) (by rw[Qnq,Nat.mul_succ];omega)
def Gs.of{m e n k:Nat}{ds:List D}(h:∀d∈ds,G m e d)(l:ds.length<=n)(a:(m+1)*n<=k):Gs k e ds:=by
 let#[b,c,g,j,i,f]:=Gs.each h
 exact#[b,c,g,j,QAq i (QAq (Nat.mul_le_mul (Qmq _) l) a),f]
def Nm(x:Str):Prop:=x.length<=8/\PyData.strOk x=true
def iS{x:Str}{m e:Nat}(h:x.length<=m)(o:PyData.strOk x=true):G m e (.str x):=by
 refine#[.str x,by erw[iX];rw[Qhq o],?_,by erw[PyData.showable],by erw[PyData.weight];exact h,by erw[PyData.depth];omega]
 erw[PyData.leavesShort]
 rw[QUq]
 intro c d
 let a:=o
 erw[PyData.strOk,Array.all_eq_true] at a
 let#[i,b,rfl]:=List.mem_iff_getElem.mp d
 have:=a i (by simpa using b)
 erw[decide_eq_true_eq] at this|-
 erw[Array.getElem_toList]
 exact Nat.lt_trans this (!1)
def Kk:∀v,v<60->((PyData.int (v:Nat)).shown.length<=8)/\(((v:Nat):Int).natAbs.log2<1920)/\(PyData.int (v:Nat)).weight<=8:=by decide +kernel
def A_{v m e:Nat}(h:v<60)(c:8<=m):G m e (.int v):=by
 let#[a,b,d]:=Kk v h
 exact#[.int v,L,by erw[PyData.leavesShort];exact Qeq a,by erw[PyData.showable];exact Qeq b,by omega,by erw[PyData.depth];omega]
def KJ{m e:Nat}:G m e .non:=#[.none,L,by decide,L,by simp[PyData.weight],by simp[PyData.depth]]
def wN:Nat->Nat
 |0=>8
 |n+1=>wN n+wN n+10
theorem AJ:∀n,8<=wN n
 |0=>by decide
 |n+1=>by have:=AJ n;erw[wN];omega
def iG{x:Str}{m e:Nat}(h:Nm x)(a:8<=m):G m e (.str x):=iS (QAq h.1 a) h.2
def IC:∀x∈two,x.length<=5/\PyData.strOk x=true:=by decide +kernel
theorem Tr.g{ws bs:X6}(c:∀w∈ws,Nm w)(e:∀w∈bs,Nm w):∀{n:Nat} {t:Tr},t.ok ws bs n->G (wN n) n t.d
 |n+1,.wd w,h=>iG (c _ h) (AJ _)
 | n+1,.vl v,h=>by
   have h:v<10:=h
   exact A_ (!0) (AJ _)
 | n+1,.wt b,h=>by
   refine(Gs.cons (m:=5) (iS (!1) (by decide +kernel)) (Gs.cons (m:=8) (iG (e _ h) (!1)) (Gs.nil (m:=0)) (Qmq _)) ?_).tup
   have:=AJ n
   erw[wN]
   omega
 | n+1,.nt t,h=>by
   let i:=Tr.g c e (n:=n) (t:=t) h
   refine(Gs.cons (m:=3) (iS (!1) (by decide +kernel)) (Gs.cons i (Gs.nil (m:=0)) (Qmq _)) ?_).tup
   erw[wN]
   omega
 | n+1,.tw f a b,h=>by
   let i:=Tr.g c e (n:=n) (t:=a) h.2.1
   let l:=Tr.g c e (n:=n) (t:=b) h.2.2
   let#[k,j]:=IC f h.1
   refine(Gs.cons (m:=5) (iS k j) (Gs.cons i (Gs.cons l (Gs.nil (m:=0)) (Qmq _)) (Qmq _)) ?_).tup
   erw[wN]
   omega
 |0,_,h=>by cases h
structure Sc.nmd(c:Sc):Prop where
 w:∀w∈c.ws,Nm w
 g:∀w∈c.gs,Nm w
 b:∀w∈c.bs,Nm w
 d:∀q∈c.ds,Nm q.1/\Nm q.2
 p:∀w∈c.ps,Nm w
theorem Rw.g{c:Sc}{m:Nat}(s:c.nmd)(u:m<=40):∀{r:Rw},r.ok c m->G 620 6 r.d:=by
 have i:∀{t:Tr},t.ok c.ws c.bs 5->G 566 5 t.d:=λh=>(Tr.g s.w s.b h).mono (!1) (Qmq _)
 let a:=Gs.nil (m:=0) (e:=5)
 intro r h
 cases r with
 |un t n=>exact(Gs.cons (m:=6) (iS (!1) (by decide +kernel)) (Gs.cons (i h.1) (Gs.cons (m:=8) (A_ (by have:=h.2;omega) (!1)) a (Qmq _)) (Qmq _)) (!1)).tup
 |go n=>exact(Gs.cons (m:=2) (iS (!1) (by decide +kernel)) (Gs.cons (m:=8) (A_ (by have:n<=m:=h;omega) (!1)) a (Qmq _)) (!1)).tup
 | te k t=>
   have f:k.length<=4/\PyData.strOk k=true:=by rcases h.2.1 with rfl|rfl <;>decide +kernel
   exact(Gs.cons (m:=4) (iS f.1 f.2) (Gs.cons (i h.2.2) a (Qmq _)) (!1)).tup
 |pu w t=>exact(Gs.cons (m:=3) (iS (!1) (by decide +kernel)) (Gs.cons (m:=8) (iG (s.g _ h.2.1) (!1)) (Gs.cons (i h.2.2) a (Qmq _)) (Qmq _)) (!1)).tup
 | dd w r d t=>
   have o:G 8 5 (Ep w):=by
     cases w with
     |none=>exact KJ
     |some x=>exact iG (s.g _ (h.2.1 x L)) (!1)
   let#[l,j]:=s.d _ h.2.2.1
   exact(Gs.cons (m:=2) (iS (!1) (by decide +kernel)) (Gs.cons o (Gs.cons (m:=8) (iG l (!1)) (Gs.cons (m:=8) (iG j (!1)) (Gs.cons (i h.2.2.2) a (Qmq _)) (Qmq _)) (Qmq _)) (Qmq _)) (!1)).tup
 |wa b t=>exact(Gs.cons (m:=4) (iS (!1) (by decide +kernel)) (Gs.cons (m:=8) (iG (s.b _ h.2.1) (!1)) (Gs.cons (i h.2.2) a (Qmq _)) (Qmq _)) (!1)).tup
 | on k b=>
   have f:(k.length<=4/\PyData.strOk k=true)/\Nm b:=by
     rcases h.2 with⟨rfl|rfl,hb⟩|⟨rfl|rfl,hb⟩
     · exact#[by decide +kernel,s.b _ hb]
     · exact#[by decide +kernel,s.b _ hb]
     · exact#[by decide +kernel,s.p _ hb]
     · exact#[by decide +kernel,s.p _ hb]
   exact(Gs.cons (m:=4) (iS f.1.1 f.1.2) (Gs.cons (m:=8) (iG f.2 (!1)) a (Qmq _)) (!1)).tup
 |pa p q=>exact(Gs.cons (m:=4) (iS (!1) (by decide +kernel)) (Gs.cons (m:=8) (iG (s.p _ h.2.1) (!1)) (Gs.cons (m:=8) (iG (s.p _ h.2.2) (!1)) a (Qmq _)) (Qmq _)) (!1)).tup
def Pr.g{c:Sc}(s:c.nmd){a:List Rw}(h:Pr c a):G 25000 7 (.tup (a.map Rw.d)):=by
 refine(Gs.of (m:=620) (n:=40) (λd b=>?_) (by rw[lQm];exact h.2.1) (!1)).tup
 let#[r,e,rfl]:=Qkq.mp b
 exact Rw.g s h.2.1 (h.2.2 r e)
def F4{vs:List (Str×Nat)}(hv:(∀v∈vs,v.2<10)/\vs.length<=16)(b:∀v∈vs,Nm v.1):G 320 7 (.tup (vs.map j6)):=
 ((Gs.of (m:=18) (e:=1) (n:=16) (λd a=>by
   let#[v,h,rfl]:=Qkq.mp a
   exact(Gs.cons (m:=8) (iG (b v h) (!1)) (Gs.cons (m:=8) (A_ (by have:=hv.1 v h;omega) (!1)) (Gs.nil (m:=0)) (Qmq _)) (!1)).tup) (by rw[lQm];exact hv.2) (!1)).tup).mono (Qmq _) (!1)
def i9.nmd{x:Str}(h:i9 x):Nm x:=#[h.len,h.ok]
def Fd:Nm ("given":Str):=#[by decide,by decide +kernel]
section
variable{ws:X6}(hws:∀w∈ws,i9 w)
include hws
def AI{a:X6}{vs:List (Str×Nat)}{m:Nat}(b:∀x∈a,x∈ws)(h:Sub a (vs.map (·.1)) m/\∀v∈vs,v.2<10)(d:m<=16):((∀v∈vs,v.2<10)/\vs.length<=16)/\∀v∈vs,i9 v.1:=by
 have c:∀v∈vs,i9 v.1:=λv hv=>hws _ (b _ (h.1.mem (Qkq.mpr #[v,hv,L])))
 have:=h.1.len
 rw[lQm] at this
 exact#[#[h.2,by omega],c]
def MS{r:Rm}{os:List (Str×Str)}(h:r.ok ws os):G 102000 10 r.d:=by
 let#[I,y]:=AI hws (λ_ h=>h) h.th (!1)
 have c:∀b∈r.be,i9 b.1:=λb c=>hws _ (h.be.1.mem (Qkq.mpr #[b,c,L]))
 have j:∀b∈r.de,i9 b.1:=λb c=>hws _ (h.de.1.mem (Qkq.mpr #[b,c,L]))
 let C:=h.be.1.len
 let F:=h.de.1.len
 rw[lQm] at C F
 have o:∀p∈r.de,G 25000 7 (.tup (p.2.map Rw.d)):=λp o=>by
  let#[M,_,_,A,H]:=h.de.2 p o
  refine Pr.g ?_ H
  have B:∀x∈r.th.map (·.1),Nm x:=λx a=>by
   let#[v,hv,rfl]:=Qkq.mp a
   exact(y v hv).nmd
  refine#[λx a=>?_,B,λx a=>?_,λq z=>#[(hws _ (A q z).1).nmd,(hws _ (A q z).2).nmd],λx a=>(by cases a)]
  ·rcases mQa.mp a with a|a
   ·exact B x a
   ·rw[Qfq] at a
    subst a
    exact Fd
  ·let#[v,hv,rfl]:=Qkq.mp a
   exact(c v hv).nmd
 have s:∀x∈Cc,x.length<=9/\PyData.strOk x=true:=by decide +kernel
 have k:∀x∈sorts,x.length<=8/\PyData.strOk x=true:=by decide +kernel
 have J:G 57 7 (.tup (r.be.map vG)):=((Gs.of (m:=18) (e:=1) (n:=3) (λd j=>by
  let#[b,i,rfl]:=Qkq.mp j
  let#[t,l]:=k _ (h.be.2 b i)
  exact(Gs.cons (m:=8) (iG (c b i).nmd (!1)) (Gs.cons (m:=8) (iS t l) (Gs.nil (m:=0)) (Qmq _)) (!1)).tup) (by rw[lQm];exact C) (Qmq 57)).tup).mono (Qmq _) (!1)
 have K:G 100100 9 (.tup (r.de.map u5)):=(Gs.of (m:=25012) (e:=8) (n:=4) (λd u=>by
  let#[p,f,rfl]:=Qkq.mp u
  exact(Gs.cons (m:=8) (iG (j p f).nmd (!1)) (Gs.cons (o p f) (Gs.nil (m:=0)) (Qmq _)) (!1)).tup) (by rw[lQm];exact F) (!1)).tup
 let#[t,l]:=s _ h.mn
 exact((Gs.cons (m:=8) (e:=9) (iG (hws _ h.nm).nmd (!1)) (Gs.cons (m:=9) (iS t l) (Gs.cons ((F4 I λv hv=>(y v hv).nmd).mono (Qmq _) (!1)) (Gs.cons (J.mono (Qmq _) (!1)) (Gs.cons K (Gs.nil (m:=0)) (Qmq _)) (Qmq _)) (Qmq _)) (Qmq _)) (!1)).tup).mono (Qmq _) (!1)
def M8{w:Wr}(h:w.ok ws):G 520000 12 w.d:=by
 let#[t,U,b,l]:=h.rm
 let C:=t.len
 rw[lQm] at C
 let#[W,J,R]:=h.hd
 have s:∀r∈w.rm,G 102000 10 r.d:=λr s=>MS hws (b r s)
 let#[N,y]:=AI hws (λ_ h=>(List.mem_filter.mp h).1) h.ps (Qmq _)
 let#[K,A]:=AI hws (λ_ h=>h) h.op (Qmq _)
 have F:∀x∈w.hd,G 25400 9 x.d:=λx S=>by
  let j:=R x S
  let#[P,u]:=AI hws (λ_ h=>(List.mem_filter.mp h).1) j.th (!1)
  have B:∀z∈x.th.map (·.1)++w.op.map (·.1),Nm z:=λz a=>by
   rcases mQa.mp a with a|a
   ·let#[v,hv,rfl]:=Qkq.mp a
    exact(u v hv).nmd
   ·let#[v,hv,rfl]:=Qkq.mp a
    exact(A v hv).nmd
  let I:=Pr.g (c:=iK (x.th.map (·.1)++w.op.map (·.1)) (aO w.rm) (w.ps.map (·.1))) ⟨B,B,λz a=>(by cases a),λq o=>by
   let#[r,k,o]:=QOq.mp o
   let#[p,M,rfl]:=Qkq.mp o
   exact#[(hws _ (b r k).nm).nmd,(hws _ ((b r k).de.1.mem (Qkq.mpr #[p,M,L]))).nmd],λz a=>by
   let#[v,hv,rfl]:=Qkq.mp a
   exact(y v hv).nmd⟩ j.pr
  exact((Gs.cons (m:=320) (e:=7) (F4 P λv hv=>(u v hv).nmd) (Gs.cons I (Gs.nil (m:=0)) (Qmq _)) (!1)).tup).mono (Qmq _) (!1)
 have Q:G 408004 11 (.tup (w.rm.map Rm.d)):=(Gs.of (m:=102000) (e:=10) (n:=4) (λd i=>by
  let#[p,f,rfl]:=Qkq.mp i
  exact(s p f)) (by rw[lQm];exact C) (!1)).tup
 have H:G 101604 11 (.tup (w.hd.map Hd.d)):=((Gs.of (m:=25400) (e:=9) (n:=4) (λd i=>by
  let#[p,f,rfl]:=Qkq.mp i
  exact(F p f)) (by rw[lQm];exact J) (Qmq 101604)).tup).mono (Qmq _) (!1)
 exact(Gs.cons (e:=11) Q (Gs.cons ((F4 N λv hv=>(y v hv).nmd).mono (Qmq _) (!1)) (Gs.cons ((F4 K λv hv=>(A v hv).nmd).mono (Qmq _) (!1)) (Gs.cons H (Gs.nil (m:=0)) (Qmq _)) (Qmq _)) (Qmq _)) (!1)).tup
end
end W28
namespace DL
open PySem PySem.Spec L2
def Mr{S:aH}{b c:Bool}{Q:D->Prop}(q:Q (.bl (b==c))):Op (Gu false S (.bl b) (.bl c)) Q:=#[_,L,q]
end DL
namespace W28
open PySem PySem.Spec L2 DL
structure NG(w:Wr):Prop where
 rm:oQ w.rm Rm.d (·.nm) 5 4/\∀r∈w.rm,MQ r
 ps:oQ w.ps j6 (·.1) 2 16/\∀v∈w.ps,v.2<10
 op:oQ w.op j6 (·.1) 2 16/\∀v∈w.op,v.2<10/\v.1≠"given"
 hd:(1<=w.hd.length/\w.hd.length<=4)/\∀x∈w.hd,MX x
 d1:∀r∈w.rm,∀p∈w.ps,r.nm≠p.1
 d2:∀x∈w.hd,∀a∈x.th,∀b∈w.op,a.1≠b.1
 rf:∀r∈w.rm,MP (aO w.rm) r
 hf:∀x∈w.hd,NJ w x
 or_:∃os,LY os w.rm
 wd:∀q∈aO w.rm,yu q/\lX q.1=true/\lX q.2=true
section
variable{S:aH}{Q:Res->aH->Prop}
def AE{w:Wr}(h:NG w)(q:Q (.d (.bl true)) S):Fn lI [w.d] S Q:=by
 let#[o,f]:=h.or_
 let m:=h.rm.1.len
 let j:=h.ps.1.len
 let g:=h.op.1.len
 let n:=h.hd.1.2
 refine cA ?_
 unfold vC
 refine aU (bO (fi (bF (bH (cK (av L (dJ L (bf ?_))))))))
 refine aC (λc=>(by cases c)) (λ_=>?_)
 refine bj (a_ (fJ (bq (av L (br (ds:= [.tup (w.rm.map Rm.d),.tup (w.ps.map j6),.tup (w.op.map j6),.tup (w.hd.map Hd.d)]) (bM (vi ?_)))))))
 refine aC (λc=>absurd c (by simp)) (λ_=>cN ?_)
 refine aU (bO (fi (bF (bH (aS (ay (a_ (av L (bM (bE (d:=.tup (w.rm.map Rm.d)) L (aI (EC h.rm.1 h.rm.2 (bf ?_)))))))))))))
 refine aC (λc=>(by cases c)) (λ_=>?_)
 refine bF (bH (aS (ay (a_ (av L (bM (bE (d:=.tup (w.ps.map j6)) L (aI (B2 h.ps.1 h.ps.2 (bf ?_))))))))))
 refine aC (λc=>(by cases c)) (λ_=>cN ?_)
 refine aU (bO (fi (bF (bH (aS (ay (a_ (av L (bM (bE (d:=.tup (w.op.map j6)) L (ay (bM (aI (pV h.op.1 (!1) h.op.2 (bf ?_)))))))))))))))
 refine aC (λc=>(by cases c)) (λ_=>?_)
 refine bF (bH (aS (ay (a_ (av L (bM (bE (d:=.tup (w.hd.map Hd.d)) L (aI (DI h.hd.1.1 h.hd.1.2 h.hd.2 (bf ?_))))))))))
 refine aC (λc=>(by cases c)) (λ_=>cN ?_)
 refine aU (bO (bH (aS (ay (a_ (av L (bM (bE (d:=.tup (w.rm.map Rm.d)) L (ay (a_ (av L (bM (bE (d:=.tup (w.ps.map j6)) L (aI (vD (nm:=λr:Rm=>r.nm) (nm2:=λv:Str×Nat=>v.1) (λx _=>#[_,L]) (λx _=>#[_,L]) (!0) (!0) h.d1 (bf ?_))))))))))))))))
 refine aC (λc=>(by cases c)) (λ_=>cN ?_)
 refine aU (bO (bH (zN (α:=Hd) (λe=>∃a b,e= [a,b,some w.d]) Hd.d (λ_=>false) #[none,none,L] (eD (bq (a_ (av L (bM (bE (d:=.tup (w.hd.map Hd.d)) L (br #[w.hd,L,trivial,by omega,λx l e k=>?_,?_]))))))))))
 ·let#[a,b,rfl]:=k
  let p:=((h.hd.2 x l).th.1).len
  refine kG L (aL (bu (aL (bu (c0 #[L,#[_,_,L],?_])))))
  exact aS (ay (av L (ay (a_ (av L (bM (bE (d:=.tup (w.op.map j6)) L (aI (vD (nm:=λv:Str×Nat=>v.1) (nm2:=λv:Str×Nat=>v.1) (λx _=>#[_,L]) (λx _=>#[_,L]) (!0) (!0) (h.d2 x l) #[L,L])))))))))
 rw[show(w.hd.any λ_=>false)=false by simp]
 refine bf (aC (λc=>(by cases c)) (λ_=>cN ?_))
 refine cb (dB (aS (ay (av L (aI (yA m f.len (λq i=>(h.wd q i).1) h.rf #[_,L,aC (λ_=>?_) (λc=>(by cases c))]))))))
 refine dB (aS (ay (av L (aI (xO f.n4.2 f.len (λq i=>h.wd q i) #[h.ps.1.wd,j] #[h.op.1.wd,g] n h.hf #[_,L,aC (λ_=>?_) (λc=>(by cases c))])))))
 exact aS (ay (a_ (av L (bM (bE (d:=.tup (w.rm.map Rm.d)) L (aI (Ad f (eB q))))))))
def Km:∀i,i<26->∀j,j<5->nm i j≠"given":=by decide +kernel
def i9.ng{x:Str}(h:i9 x):x≠"given":=by let#[i,j,b,a,rfl]:=h;exact Km i b j a
def Sub.rl{ws ss:X6}{m:Nat}(h:Sub ws ss m)(nd:ws.Nodup):ss.Pairwise Nn/\ss.Nodup:=by
 let#[l,a]:=h.1
 let n:=(List.nodup_append.mp (a.nodup_iff.mpr nd)).1
 exact#[Mb h.2.2 n,n]
section
variable{ws:X6}(hws:∀w∈ws,i9 w)(nd:ws.Nodup)
include hws nd
def ir{α:Type}{b:X6}{xs:List α}{a:α->D}{nm:α->Str}{z m:Nat}(d:b.Sublist ws)(h:Sub b (xs.map nm) m)(he:∀x∈xs,∃r,a x=.tup (.str (nm x)::r)/\r.length+1=z):oQ xs a nm z m:=by
 let c:=h.len
 rw[lQm] at c
 exact#[he,λx e=>(hws _ (d.subset (h.mem (Qkq.mpr #[x,e,L])))).wd,(h.rl (d.nodup nd)).1,c]
def Nt{w:Wr}(h:w.ok ws):NG w:=by
 let#[u,N,f,i]:=h.rm
 let#[l2,l3,H]:=h.hd
 let n:=QjQ ws
 let Y:=xS u f
 let M:=u.len
 rw[lQm] at M
 have g:∀{X:X6} {U:Type} {R:List U} {nm:U->Str} {m:Nat},X.Sublist ws->Sub X (R.map nm) m->∀x∈R,i9 (nm x):=λhu h x s=>hws _ (hu.subset (h.mem (Qkq.mpr #[x,s,L])))
 have z:∀q∈aO w.rm,i9 q.1/\i9 q.2:=λq j=>by
  let#[r,k,j]:=QOq.mp j
  let#[p,o,rfl]:=Qkq.mp j
  exact#[hws _ (f r k).nm,g n (f r k).de.1 p o]
 have B:(aO w.rm).Nodup:=by
  unfold aO
  refine List.pairwise_flatMap.mpr #[λr k=>?_,?_]
  ·have:=((f r k).de.1.rl nd).2
   rw[List.Nodup,List.pairwise_map] at this
   rw[List.pairwise_map]
   exact this.imp λc e=>c (Prod.mk.inj e).2
  ·have:=(u.rl nd).2
   rw[List.Nodup,List.pairwise_map] at this
   refine this.imp λ{a b} c x s y hy e=>?_
   let#[p,_,rfl]:=Qkq.mp s
   let#[p',_,rfl]:=Qkq.mp hy
   exact c (Prod.mk.inj e).1
 have F:∀r:Rm,∃t,r.d=.tup (.str r.nm::t)/\t.length+1=5:=λr=>#[_,L,L]
 refine#[#[ir hws nd n u λr _=>F r,λr k=>?_],#[ir hws nd List.filter_sublist h.ps.1 λr _=>#[_,L,L],h.ps.2],#[ir hws nd n h.op.1 λr _=>#[_,L,L],λv hv=>#[h.op.2 v hv,(g n h.op.1 v hv).ng]],#[#[l2,l3],λx s=>?_],λr k p o=>?_,λx s a ha b Z=>?_,λr k=>?_,λx s=>?_,#[N,?_],λq j=>#[#[(z q j).1.ok,(z q j).2.ok],(z q j).1.wd,(z q j).2.wd]]
 ·let t:=f r k
  have pl:∀p∈r.de,1<=p.2.length/\p.2.length<=40:=λp o=>by
   let#[C,_,_,_,l]:=t.de.2 p o
   exact#[l.1,l.2.1]
  exact#[t.mn,#[ir hws nd n t.th.1 λr _=>#[_,L,L],λv hv=>#[t.th.2 v hv,(g n t.th.1 v hv).ng]],#[ir hws nd n t.be.1 λr _=>#[_,L,L],t.be.2],#[ir hws nd n t.de.1 λr _=>#[_,L,L],t.dn,pl]]
 ·let t:=H x s
  exact#[#[ir hws nd List.filter_sublist t.th.1 λr _=>#[_,L,L],λv hv=>#[t.th.2 v hv,(g List.filter_sublist t.th.1 v hv).ng]],t.pr.1,t.pr.2.1]
 ·have:=(List.mem_filter.mp (h.ps.1.mem (Qkq.mpr #[p,o,L]))).2
  exact λc=>QZq this (Qkq.mpr #[r,k,c])
 ·have:=(List.mem_filter.mp ((H x s).th.1.mem (Qkq.mpr #[a,ha,L]))).2
  exact λc=>QZq this (Qkq.mpr #[b,Z,c.symm])
 ·let t:=f r k
  let J:=t.th.1.len
  let K:=t.be.1.len
  let A:=t.de.1.len
  rw[lQm] at J K A
  refine#[#[λv hv=>(g n t.th.1 v hv).wd,J],#[λv hv=>(g n t.be.1 v hv).wd,K],#[A,λp o=>?_]]
  let#[C,P,_,I,l]:=t.de.2 p o
  exact#[N.drop (C+1),λq j=>#[i.subset (List.mem_of_mem_drop j),(hws _ (I q j).1).wd,(hws _ (I q j).2).wd],l]
 ·let t:=H x s
  let W:=t.th.1.len
  rw[lQm] at W
  exact#[#[λv hv=>(g List.filter_sublist t.th.1 v hv).wd,W],t.pr]
 ·refine#[i.nodup_iff.mpr B,B,λq j=>?_,Y,#[M,λr k=>?_],λr k p o=>?_]
  ·have:=z q (i.subset j)
   exact#[this.1.ok,this.2.ok]
  ·let A:=(f r k).de.1.len
   rw[lQm] at A
   exact A
  ·let#[C,P,_,I,l]:=(f r k).de.2 p o
   exact#[C,P,_,L,l]
def kQ{w:Wr}(h:w.ok ws)(q:Q (.d (.bl true)) S):Fn dw [w.d] S Q:=by
 let#[p,f,g,i,j,k]:=M8 hws h
 let a:=PyData.shown_le 8 (!1) p g
 have c:sizeLine=16777216:=by decide
 have rp:∀{b:cI} {S:aH} {R:D->aH->Prop},b[0]?=some (some w.d)->R (.str p.shown) S->E (Kd (ax 0)) b S R:=λe q=>MZ (av e #[p,f,i,by omega,by omega,q])
 refine cA ?_
 unfold qo
 refine aU (lV (rp L ?_))
 refine cb (dB (a_ (aS (ay (av L (aI (AE (Nt hws nd h) (bM (Mr #[_,L,aC (λ_=>?_) (λc=>(by cases c))])))))))))
 refine a_ (rp L (av L (cw ?_)))
 rw[Qeq L]
 exact eB q
end
end
end W28
namespace DL
open PySem PySem.Spec L2
def Li{i j:Int}{Q:D->Prop}(q:Q (.int (if j>i then j else i))):Op (maxD [.int i,.int j]) Q:=#[_,L,q]
def LO{S:aH}{i:List D}{k:Int}{Q:D->Prop}(h:2<=k/\k<2^63/\i≠[]/\i.length*k.toNat<=sizeLine)(q:Q (.tup (List.replicate k.toNat i).flatten)):Op (za S (.tup i) (.int k)) Q:=#[_,by erw[za];rw[Qhq h],q]
end DL
namespace W28
open PySem PySem.Spec L2 DL
def Ga{f s m:Nat}:(Fi f s m).length=m:=by simp[Fi]
def Hl:∀i,i<26->∀j,j<5->(nm i j).cps.toList.head? =lets.cps.toList[i]? :=by decide +kernel
def FX:lets.cps.toList.Nodup:=by decide +kernel
def DN:lets.cps.toList.length=26:=by decide +kernel
def Mc{i j b c:Nat}(hi:i<26)(g:j<5)(a:b<26)(d:c<5)(e:nm i j=nm b c):i=b:=by
 let f:=Hl i hi j g
 rw[e,Hl b a c d] at f
 exact((List.getElem?_inj (by rw[DN];exact a) FX).mp f).symm
def Fu:∀f,f<26->∀s∈([1,3,5,7,9,11]:List Nat),((List.range 26).map λk=>(f+s*k)%26).Nodup:=by decide +kernel
def Jz{f s:Nat}(a:f<26)(b:s∈([1,3,5,7,9,11]:List Nat)):(Fi f s 26).Nodup:=by
 let h:=Fu f a s b
 unfold Fi
 rw[List.Nodup,List.pairwise_map] at h|-
 exact h.imp λc e=>c (Mc (Nat.mod_lt _ (!1)) (Nat.mod_lt _ (!1)) (Nat.mod_lt _ (!1)) (Nat.mod_lt _ (!1)) e)
def j3{a:X6}{m:Nat}:Sub a [] m:=#[#[a,List.Perm.refl _],Nat.zero_le _,List.Pairwise.nil]
def Ej{a ss:X6}{m:Nat}{p:Str->Bool}(h:Sub (a.filter p) ss m):Sub a ss m:=by
 let#[#[l,b],c,d]:=h
 refine#[#[l++a.filter (λx=> !p x),?_],c,d]
 rw[<-Qvq]
 exact(b.append_right _).trans (List.filter_append_perm p a)
def AS(n:Nat):Hd:=#[[],[.go n]]
def C5{ws ps b:X6}{ds:List (Str×Str)}{n:Nat}(c:n<=1):Hd.ok ws ps b ds (AS n):=by
 refine#[#[j3,λv hv=>(by cases hv)],Qmq 1,show 1<=40 by decide,λr a=>?_]
 have a:r∈[Rw.go n]:=a
 rw[Qfq] at a
 subst a
 exact c
section
variable{ws:X6}{w:Wr}
def IT(h:w.ok ws):Wr.ok ws #[w.rm,w.ps,w.op,w.hd.take 1]:=by
 let b:=h.hd.1
 refine#[h.rm,h.ps,h.op,?_,?_,λx a=>h.hd.2.2 x (List.mem_of_mem_take a)]
 ·show 1<=(w.hd.take 1).length
  rw[Qxq]
  omega
 ·show(w.hd.take 1).length<=4
  rw[Qxq]
  omega
def E2(h:w.ok ws){n:Nat}(b:n<=1):Wr.ok ws #[w.rm,[],[],[AS n]]:=by
 refine#[h.rm,#[j3,λv hv=>(by cases hv)],#[j3,λv hv=>(by cases hv)],Qmq 1,show 1<=4 by decide,λx a=>?_]
 have a:x∈[AS n]:=a
 rw[Qfq] at a
 subst a
 exact C5 b
def Gk(h:w.ok ws){n:Nat}(c:n<=1):Wr.ok ws #[[],w.ps,w.op,[AS n,AS n,AS n,AS n]]:=by
 have e:(ws.filter λz=>decide (z∉([]:List Rm).map (·.nm)))=ws:=List.filter_eq_self.mpr λz _=>by simp
 refine#[#[j3,[],λr b=>(by cases b),List.Perm.refl _],#[by rw[e];exact Ej h.ps.1,h.ps.2],h.op,show 1<=4 by decide,Qmq 4,λx a=>?_]
 have a:x∈[AS n,AS n,AS n,AS n]:=a
 have:x=AS n:=by simpa using a
 subst this
 exact C5 c
def LX:Wr.ok ws #[[],[],[],[AS 1]]:=by
 refine#[#[j3,[],λr b=>(by cases b),List.Perm.refl _],#[j3,λv hv=>(by cases hv)],#[j3,λv hv=>(by cases hv)],Qmq 1,show 1<=4 by decide,λx a=>?_]
 have a:x∈[AS 1]:=a
 rw[Qfq] at a
 subst a
 exact C5 (Qmq 1)
end
def EI:∀ns:List Int,ns.length<=63->∃S',FS [.ref 0] [.frz (ns.map D.int)]=some (.d (.bl true),S'):=by
 intro ns K
 suffices h:Fn FS [.ref 0] [.frz (ns.map D.int)] λr _=>r=.d (.bl true) by
  let#[r,S',e,rfl]:=h
  exact⟨S',e⟩
 refine cA ?_
 unfold Ks
 symm
 apply Jg (ns:=ns) L K λu b N=>?_
 have Y:Ex 2 1 0 [.frz (ns.map D.int),kz u,qN 1 b 0] [.frz (ns.map D.int),kz u,qN 1 b 0]:=⟨Qmq _,by decide,λ_ _ _ _ h=>h,u,b,0,L,L,N,Int.le_refl _,Int.le_refl _⟩
 refine DG (S:= [.frz (ns.map D.int),kz u,qN 1 b 0]) Y (!1) (!1) λf s k hf hs p _ A=>?_
 have p:Ex 2 1 2 [.frz (ns.map D.int),kz u,qN 1 b 0] k:=p
 have A:k.length=3:=A
 obtain⟨g,j⟩:∃g,g=Fi f s 26:=⟨_,L⟩
 have wl:g.length<27:=by rw[j,Ga];decide
 have q:∀w∈g,i9 w:=by rw[j];exact HQ
 have z:g.Nodup:=by rw[j];exact Jz hf hs
 rw[<-j,A]
 have t:k[0]?=some (.frz (ns.map D.int)):=p.keep 0 _ (!1) (!1) L
 have U:(k++ [.lst (g.map D.str)])[3]?=some (.lst (g.map D.str)):=by rw[<-A];exact aV
 let t:=aJ (G:= [.lst (g.map D.str)]) t
 have p:Ex 2 1 2 (k++ [.lst (g.map D.str)]) (k++ [.lst (g.map D.str)]):=(p.here.app).here
 symm
 generalize k++ [.lst (g.map D.str)]=S2 at t U p|-
 apply hV ?_
 apply wz t ?_
 apply Hq ?_
 refine Li ?_
 obtain⟨m,hm,a0⟩:∃m:Nat,(if (if ((ns.map D.int).length:Int)<8 then((ns.map D.int).length:Int) else 8)>4 then(if ((ns.map D.int).length:Int)<8 then((ns.map D.int).length:Int) else 8) else 4)=(m:Int)/\m<=8:=by
  refine#[(if (if ((ns.map D.int).length:Int)<8 then((ns.map D.int).length:Int) else 8)>4 then(if ((ns.map D.int).length:Int)<8 then((ns.map D.int).length:Int) else 8) else 4).toNat,?_,?_] <;>(repeat' split) <;>omega
 refine#[m,congrArg D.int hm,#[by omega,by omega],?_]
 refine#[λi l S'=>∃M P F B I J R:Option D,l= [some (.ref 0),some (.ref 2),some (.ref 3),M,P,F,B,I,J,R]/\Ex 2 1 (2+300001*i) S2 S',#[none,none,none,none,none,none,none,L,p],λ_ _ _ _=>trivial,?_,?_]
 ·rintro i d l S' X ⟨M,P,F,B,I,J,R,rfl,e⟩
  let#[W,rfl]:=tO X
  apply bu ?_
  apply DD e (!0) (!1) (e.at (!1) U) wl (λx hx=>(q x hx).ok) λw S4 y e4 _ _=>?_
  refine kG L (aL (bu (aL (bu (aL (bu (aL (bu (c0 ?_)))))))))
  have a:∀{n:Nat},n<=4->n<=sizeLine:=λh=>QAq h (!1)
  refine aU (bO (fi (bF (bH (aS (ay (av L (aI (kQ q z y (bf ?_))))))))))
  refine aC (λc=>(by cases c)) (λ_=>?_)
  refine bF (bH (aS (ay (dR (ay (av L (ay (av L (ay (av L (ay (F6 (av L (kd (j2 (bM #[1,L,w.hd.map Hd.d,L,aI #[a (Qmq 4),aI ?_]]))))))))))))))))
  have ec:lh (w.hd.map Hd.d) none (some 1)=(w.hd.take 1).map Hd.d:=by
   unfold lh
   rw[HT.nK,show(some (1:Int))=some ((1:Nat):Int) from L,HT.rV,List.drop_zero,Nat.sub_zero]
   have:=y.hd.1
   rw[lQm,Nat.min_eq_left this,List.map_take]
  rw[ec]
  refine kQ q z (IT y) (bf ?_)
  refine aC (λc=>(by cases c)) (λ_=>cN ?_)
  refine aU (lV (dR (ay (dR (aI #[a (Nat.zero_le _),ay (dR (ay (dR (ay (bM (ay (aS (ay (av L (ay (bM (aI (cG e4 (!0) (!1) (!1) λv C hv Z _ _=>?_)))))))))))))])))))
  have hv:v<=1:=by omega
  refine aI #[a (by simp),aI #[a (by simp),aI #[a (by simp),?_]]]
  refine bO (fi (bF (bH (aS (ay (dR (ay (av L (ay (dR (aI #[a (Nat.zero_le _),ay (dR (aI #[a (Nat.zero_le _),ay (dR (ay (av L (aI #[a (by simp),aI #[a (by simp),aI (kQ q z (E2 y hv) (bf ?_))]]))))]))])))))))))))
  refine aC (λc=>(by cases c)) (λ_=>?_)
  refine bF (bH (aS (ay (dR (ay (dR (aI #[a (Nat.zero_le _),ay (av L (ay (av L (ay (a_ (dR (ay (av L (aI #[a (by simp),bM (LO #[by decide,by decide,by simp,a (by simp)] (aI #[a (by simp),aI (kQ q z (Gk y hv) (bf ?_))]))])))))))))])))))))
  exact aC (λc=>(by cases c)) (λ_=>cN #[_,_,_,_,_,_,_,L,Z.mono (!0)])
 rintro l C ⟨M,P,F,B,I,J,R,rfl,e⟩
 have a:∀{n:Nat},n<=4->n<=sizeLine:=λh=>QAq h (!1)
 let H:=e.keep 0 _ (!1) (!1) t
 have hp:∃G,C= [.frz (ns.map D.int)]++G:=by
  cases C with
  |nil=>cases H
  | cons o G=>
    erw[List.getElem?_cons_zero,Option.some.injEq] at H
    subst H
    exact#[G,L]
 refine cb (aS (ay (dR (ay (dR (aI #[a (Nat.zero_le _),?_]))))))
 refine ay (dR (aI #[a (Nat.zero_le _),?_]))
 refine ay (dR (aI #[a (Nat.zero_le _),?_]))
 refine ay (dR (ay (dR (ay (dR (aI #[a (Nat.zero_le _),?_]))))))
 refine ay (dR (ay (dR (ay (bM (ay (bM (aI #[a (by simp),?_]))))))))
 refine aI #[a (by simp),aI #[a (by simp),aI #[a (by simp),aI #[a (by simp),aI ?_]]]]
 refine kQ q z LX ?_
 let#[G,rfl]:=hp
 exact iu (Q:=λr _=>r=Res.d (D.bl true)) (by simp) (λi W=>QHq W) L L
end W28
open PySem PySem.W PyProof.Rows L2 DL
theorem PySem.Challenge.cw_calledroom_k07_worlds_drawn_holds : PySem.Challenge.rw_calledroom_k07_worlds_drawn.Holds := by
  w_on; o_law; k_head; (case hw => w_witness2)
  k_fill
  refine DL.Mg (l := PySem.Challenge.rw_calledroom_k07_worlds_drawn) (k := 21) rfl rfl #[rfl, by decide, by decide, rfl] (λw h Y => PySem.W.kIn_of Y) (λw => ?nl) ?F
  case nl => rfl
  case F =>
    intro w mg fa h KX G hmg
    refine' W28.all_mk KX G hmg ?_ ?_ ?_ ?_ ?_ ?_ ?_ ?_ ?_ ?_ ?_ ?_ ?_ ?_ ?_ ?_ ?_ ?_ ?_ ?_ ?_ ?_ ?_ ?_ ?_ ?_ ?_ ?_ ?_ ?_ ?_ ?_ ?_ ?_ ?_ ?_ ?_ ?_ ?_ ?_ ?_ ?_ ?_ ?_ ?_ ?_ ?_ ?_ ?_ ?_ ?_ ?_ ?_ ?_ ?_ ?_ ?_ ?_ ?_ ?_ ?_ ?_ ?_ ?_ ?_ ?_ ?_ ?_ ?_ ?_ ?_ ?_ ?_ ?_ ?_ ?_ ?_ ?_ ?_ ?_ ?_ ?_ ?_ ?_ ?_ ?_ ?_ ?_ ?_ ?_ ?_ ?_ ?_ ?_ ?_ ?_ ?_ ?_ ?_ ?_ ?_ ?_ ?_ ?_ ?_ ?_ ?_ ?_ ?_ ?_ ?_ ?_ W28.EI
    any_goals first | exact DL.bC.of (by k_is) (by k_is) (by k_is) (by k_is) | k_is | rfl | decide
