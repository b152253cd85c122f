import PyProof.Rows.All
import Wide.FinOn
import KE.KEqDict
import KE.KSortTup
import KE.KUnpack
import KE.KRevIter
import KE.KDictOf
import KE.KFromBytes
import KE.KIsAll
import PySem.Challenge.RW_calledroom_k37_whole_weavings_lead_into
set_option Elab.async false
set_option linter.all false
set_option compiler.extract_closed false
set_option maxRecDepth 100000
set_option maxHeartbeats 8000000
namespace PySem.W.Fast
def cS:=trivial
def tw11659065338517913161:=cS
def tw6868687881895165367:=cS
def tw1643750460124431972:=cS
def tw4447831769052649401:=cS
def tw17022376465441526932:=cS
def tw7336593047246350176:=cS
def tw1681124683380670265:=cS
def tw15036484990187385053:=cS
def tw14676924131583299000:=cS
def tw16353878773060521940:=cS
def tw16680651808231659221:=cS
def tw14298055341682717211:=cS
def tw11997358309862634309:=cS
def tw15776743930015120785:=cS
def tw3888480318509238059:=cS
def tw2040491198921033568:=cS
def tw3682420292524026683:=cS
def tw4390744615979753155:=cS
def tw6153926025394586508:=cS
def tw12620153566310839929:=cS
def tw17493804165144396149:=cS
def tw13628152871481960120:=cS
def tw6838087474133335772:=cS
def tw9094077848098651439:=cS
def tw2884730460249851386:=cS
def tw15175192332806498010:=cS
def tw5220727865961186294:=cS
def tw12478364676509231579:=cS
def tw14962163264613148393:=cS
def tw15704882980235784704:=cS
def tw4522717464497282600:=cS
def tw16095851394899423640:=cS
def tw2007626266707059369:=cS
def tw8850630700657547615:=cS
def tw11937509449467427113:=cS
def tw12033737352218226348:=cS
def tw9027259647893059354:=cS
def tw6416596339740058413:=cS
def tw1773492925258956812:=cS
def tw3536912621481645585:=cS
def tw15043815667087793802:=cS
def tw11657290708440445137:=cS
def tw16509074154293933247:=cS
def tw9160591323575526671:=cS
def tw14466792351588085943:=cS
def tw12481551675236713726:=cS
def tw9976540527449960396:=cS
def tw3081402630109021947:=cS
def tw5648113428758502822:=cS
def tw18416164049795446822:=cS
def tw10401492559007838985:=cS
def tw13164220113298357300:=cS
def tw23197223522861388:=cS
def tw2779172211380774805:=cS
def tw18313085593909325389:=cS
def tw2423926333183815293:=cS
def tw13291220194515041788:=cS
def tw14333888138843551091:=cS
def tw10667415814125188449:=cS
def tw2173017477179062551:=cS
def tw10472299921317844933:=cS
def tw2549108654372994097:=cS
def tw13042574555652909943:=cS
def tw17319866697638862898:=cS
def tw12149830676078741150:=cS
def tw15989974281907809660:=cS
def tw9410010124997694188:=cS
def tw13246352411567735787:=cS
def tw5042892752315399584:=cS
def tw1854910795987809684:=cS
def tw12062251785025013658:=cS
def tw11624956178161496753:=cS
def tw708072220905220818:=cS
def tw12711928711033898179:=cS
def tw5809220746439309210:=cS
def tw9725882828020516890:=cS
def tw3722624338621812835:=cS
def tw18339995146028131100:=cS
def tw7687796978820473114:=cS
def tw13729573831180740053:=cS
def tw16118168405933982820:=cS
def tw1252902016435449768:=cS
def tw4153478738206901819:=cS
def tw4612026017745157135:=cS
def tw16272113822033592002:=cS
def tw5005470312375953857:=cS
def tw4322908973843835269:=cS
def tw13211111086355002868:=cS
def tw15995201734792997588:=cS
def tw18229381969764194743:=cS
def tw16622438800641168637:=cS
def tw8107029976736628615:=cS
def tw4560962763923918688:=cS
def tw4165722601023515124:=cS
def tw18403639491987714324:=cS
def tw3756334918616515177:=cS
def tw5514750697394056450:=cS
def tw15097803411190024853:=cS
def tw5589337160898661563:=cS
def tw15803678901437235733:=cS
def tw243047385273572916:=cS
def tw12295821963974068287:=cS
def tw16277226152822021370:=cS
def tw7029699807065602947:=cS
def tw15441495928094627412:=cS
def tw16738458491783043551:=cS
def tw14396409857540551629:=cS
def tw13056346202551341975:=cS
def tw17051687679381747116:=cS
def tw1974710114087848640:=cS
def tw7382765787679782621:=cS
def tw5793516547943746078:=cS
def tw8202680391028436997:=cS
def tw2561225724622048543:=cS
def tw6618958934257978388:=cS
def tw15854407588011327577:=cS
def tw12885235449425471291:=cS
def tw11272559980229488839:=cS
def tw179236331510046849:=cS
def tw3471128477640903161:=cS
def tw9185700129819606231:=cS
def tw11327040803501921890:=cS
def tw7527539619567504331:=cS
def tw6346801148637895845:=cS
def tw1417172244663896026:=cS
def tw4135008041393605966:=cS
def tw9749159817992747096:=cS
def tw12723708371117041596:=cS
def tw5026595014593174221:=cS
def tw5621634974937511975:=cS
def tw17996929260929818569:=cS
def tw2982607841370595245:=cS
def tw10091962646143619787:=cS
def tw4197371226701535893:=cS
def tw11974851863975129366:=cS
def tw6045475153205922289:=cS
def tw947733462456243400:=cS
def tw17714233773984945522:=cS
def tw15548709583968020886:=cS
def tw15676201806590240512:=cS
def tw2821996043353587237:=cS
def tw14920482541715177218:=cS
def tw17164186082119753478:=cS
def tw4327153483580097370:=cS
def tw4357000302161746026:=cS
def tw6764828911095212075:=cS
def tw16254170606085374204:=cS
def tw18144632458260915238:=cS
def tw9441362573229696889:=cS
def tw7250696110060076737:=cS
def tw11837849521822933512:=cS
def tw8276297520769898037:=cS
def tw14146300470589087776:=cS
def tw10540667512825967371:=cS
def tw2156015734358481685:=cS
def tw12321638057987993053:=cS
def tw10073816086727011718:=cS
def tw16790068427928108468:=cS
def tw14547422471809963807:=cS
def tw9471916023459285604:=cS
def tw12867081687926953593:=cS
def tw9447665274340065616:=cS
def tw12245369916897776391:=cS
def tw1655732157363022446:=cS
def tw8294313280630848068:=cS
def tw12653017943397435757:=cS
def tw6300732453369771238:=cS
def tw13304754608884541489:=cS
def tw4449411695071452839:=cS
def tw14998526712347534011:=cS
def tw7125104180720168826:=cS
def tw4045078154248157423:=cS
def tw15493843414301007745:=cS
def tw11346950600482588543:=cS
def tw17321162447682873818:=cS
def tw7549020259127868170:=cS
def tw18399095042374134170:=cS
def tw614266845553339412:=cS
def tw6463773407021935671:=cS
def tw16482118784104589903:=cS
def tw13950279387582098522:=cS
def tw17529082484184312950:=cS
def tw1083042253079654204:=cS
def tw14588160795066476637:=cS
def tw7467183785792136758:=cS
def tw14607206330921108319:=cS
def tw5486228324825072347:=cS
def tw698316107715581329:=cS
def tw12354523488584876957:=cS
def tw4706298761394902389:=cS
def tw11929360825964167427:=cS
def tw2509826561823733266:=cS
def tw4218109152463604212:=cS
def tw8714290021327844784:=cS
def tw8946603814280344116:=cS
def tw15627176016105521373:=cS
def tw15973562697343872432:=cS
def tw17661112011775479241:=cS
def tw9399024237580512744:=cS
def tw2852244477944285440:=cS
def tw7393333387632443092:=cS
def tw18362865926990190260:=cS
def tw12536057777334904767:=cS
def tw4336461896409851185:=cS
def tw5893103299334864893:=cS
def tw6813642690498276889:=cS
def tw6875849265723629895:=cS
def tw17094651969086942626:=cS
def tw16918756299603986787:=cS
def tw1587341788167479026:=cS
def tw7326577356589029605:=cS
def tw13082738642081443394:=cS
def tw12949336782507028359:=cS
def tw5529332308870342508:=cS
def tw6875874590482549945:=cS
def tw11845104001469903634:=cS
def tw3388474251787786655:=cS
def tw8490458258364075532:=cS
def tw4747267795051500245:=cS
def tw7608389602399285917:=cS
def tw9321241503751763149:=cS
def tw775797638284019189:=cS
def tw3520978706112368835:=cS
def tw3850813563055057252:=cS
def tw16352087419669109806:=cS
def tw8237668922654654661:=cS
def tw17224356248908232980:=cS
def tw11577006698828344864:=cS
def tw1289677233677800141:=cS
def tw9255933240306012342:=cS
def tw6617849061957394339:=cS
def tw14020969071242822247:=cS
def tw12770306520855813510:=cS
def tw11662171710976295565:=cS
def tw5494893043667434667:=cS
def tw3479463364770808788:=cS
def tw17405375786101375609:=cS
def tw10087621844645699701:=cS
def tw1507814366646079411:=cS
def tw11102313309394848965:=cS
def tw11217530231018967344:=cS
def tw9369188339177323733:=cS
def tw3496172744413808091:=cS
def tw1002742874780066861:=cS
def tw8404944449443834567:=cS
def tw12819455761882985877:=cS
def tw6160019066080914151:=cS
def tw16892267105619196109:=cS
def tw18264940428190365451:=cS
def tw1179015486138600894:=cS
def tw18147667953800023790:=cS
def tw4032677505456601198:=cS
def tw2802227113656279430:=cS
end PySem.W.Fast
set_option bootstrap.genMatcherCode false
set_option genSizeOf false
def cU(h:True:=by first|show Or.inl L|show Or.inr L|show Or.inr (Or.inl L)|show Or.inr (Or.inr L)|assumption):=h
def cV(h:True:=by decide):=h
def cY(h:True:=by first|show nobehind _ (!1) (!1)|rfl):=h
def db(h:True:=by rfl):=h
def dl(h:True:=by intro _;rfl):=h
def dL(h:True:=by intro _ _;rfl):=h
def dO(h:True:=by size_fits):=h
def ef(h:True:=by decide +kernel):=h
def ei(h:True:=by first|decide|omega):=h
def ej(h:True:=by repeat (first|show uu|show iQ ?_)):=h
def el(h:True:=by (repeat intro a);rfl):=h
set_option compiler.extract_closed false
open Lean in
def v4(s:String)(q:List Syntax:=[]):Syntax:=((s.splitOn " ").foldl (λ(st:List Syntax) t=>
 let n (k:Name) (a:List Syntax):Syntax:=.node .none k a.toArray
 let S (x:Syntax):=n `Lean.Parser.Tactic.tacticSeq [n `Lean.Parser.Tactic.tacticSeq1Indented [n `null [x]]]
 let c:=t.front
 let r:=(t.drop 1).toString
 if c='\'' then mkAtom r::st else if c='$' then (mkIdent r.toName).raw::st else if c='S' then S st.head!::st.tail! else if c='G' then n `group [mkAtom "|",S st.head!]::st.tail! else
 if c='%' then q[r.toNat!]!::st else if c='H' then n `Lean.Parser.Term.hole [mkAtom "_"]::st else if c='Y' then n `Lean.Parser.Term.syntheticHole [mkAtom "?",mkAtom "_"]::st else
 let p:=r.splitOn ","
 let m:=p.head!.toNat!
 n (((",".intercalate p.tail!).splitOn ".").foldl .str (if c='T' then `Lean.Parser.Tactic else if c='E' then `Lean.Parser.Term else .anonymous)) (st.take m).reverse::st.drop m) []).head!
def Z4{a}:Lean.MacroM a:=Lean.Macro.throwUnsupported
def Z5(s:Lean.Syntax)(n:Nat):Lean.MacroM Lean.Syntax:=match s[1].isNatLit? with|some k=>if k<n then pure<|s.setArg 1 (Lean.Syntax.mkNumLit (toString (k+1))) else Z4|none=>Z4
def Z2(s:String):String:=("ÑÉA2U´¾{ G §Ð HÁ2U·§ÏS ³withReducibl§Îdecide¢decide §Í ´A1U® Ã5&G §ÌÁ3,term_§ËU³{§Ê'by '§É Y Y §È °', °',§Ç- '1 A1,num A2,term-_§Æ '; 'ac_rfl T1,acRfl A§Å!A0!'=> §Ä °¾}G §Ã³}S T4,cas@A§Âomega¢omega §Á H A§À $z0 $z0§¿'{ $§¾A1U³§½'¦'( '( X§¼X© $P§»simp A0!T1,optConfig A0!'only A1!'[ §º!³¸'; '¯A3&G '§¹!³¦§¸intro §·A0!T3,©`§¶ ') E5,namedArgument §µ'}$Or.in§´') E3,paren §³T2,§²S E2,byTactic§±A3&G '( '( X§°$rfl §¯rfl T1,tacticRfl §®E4,basicFun E2,fun§¬!T1,tacticSeq1Indented T1,tacticSeq ') T3,paren§«'( '( X{' $my '? $pg^'? $ff^A2UT2,{'`( 'case $pg*( '{' $Cw '( $v ':= '. $int E2,dotIdent+'§ª H H A2U'<| $§©change§¨ T3,simpLemma ', A0!A0!$DL.§¦first §¥+'by 'ZS E2,byTactic ') E3,paren Y Y A3UT2,{ G §¤ ') E3,paren A1U') E5,namedArgument '? $a0^'? $m0^'? $r0^'? $d0^A5UT2,{' '; '( 'case $a0*}$rfl T2,}~m0*Z~r0*}'#[ H ', $rfl A3!'] A3,term#[_,] T2,}~d0*decide¢decide S T4,cas@A9&~ff*}'λ H H A2!A0!'=> '. $int E2,dotIdent+'§£ '? $cc^'? $hh^Y '? $hk^Y '? $hn^Y Y Y A9UT2,{'`( 'case $cc*Z~hh*Z~hk*first 'decide¢decide G 'omega¢omega G A2!T2,first ~hn*repeat '( 'first '}$uu T2,}G '{ $iQ Y A1UT2,{ G A2!T2,first S ') T3,paren S T2,tacticRepeat_ S T4,cas@A9&G §¢ A0!T1,optConfig T2,§¡ $rfl A1UT2,}G '}$Or.inr+$Or.inl $rfl A1U') E3,paren A1UT2,}G '}$Or.inr+$Or.inr $rfl A1U') E3,paren A1UT2,}G §~S T4,cas@'; '( 'case $§}exact §{refine§` S T2,withReducibl@'; '§^ E2,syntheticHole §Zassumption T1,assumption §X'with_reducible '§V H H A2UA3,term_<|_ A0!T3,change S T2,withReducible S§U!E2,app §@e S ') T3,paren §+ '( $[a A1,hygieneInfo E2,hygienicLParen §* A1,Lean.binderIdent A0!T2,caseArg A1!'=> '§&!T1,tacticSeq1Indented T1,tacticSeq ') T3,paren §!,null ".splitOn "§").foldl (λs t=>s.replace (t.take 1).toString (t.drop 1).toString) s
abbrev Z6:=Z2 "'set_option $tactic.hygienic A0!'false 'in 'obtain "
abbrev Z7:=Z2 " A1!A0!':= %0 A1!A2!T4,obtain S T6,set_option"
abbrev Z8:=Z2 "'¦'( ¿_root_.z5 'fun $v6 $v9 A2ÅY ® ¾{ '; '( "
abbrev Z9:=Z2 " S ') T3,paren '; ¿v9 Y ¾{ '; 'clear $v9 $v6 A2!³clear A7&G "
abbrev Y0:=Z2 "'»%0 '] A3!%1 T6,simp"
abbrev Y1:=Z2 "ÊÂ²"
abbrev Y2:=Z2 "ÊÎ²"
abbrev Y3:=Z2 " ÊZ²"
abbrev Y4:=Z2 " '( '( X{ $P4 $"
abbrev Y5:=Z2 " Y A2Ë`{ $"
abbrev Y6:=Z2 " Ê¯² Y A5Ë A3¬"
abbrev Y7:=Z2 " 'funÀÀ A4ÅY ®"
abbrev Y8:=Z2 "'( ¿cJ '( $N ':= %0¶'( $js ':= %1¶$aP.gen °°°°°°A6U°Y"
abbrev Y9:=Z2 " A8ËÆ3¬"
abbrev W0:=Z2 "'( 'have A0!E1,letConfig $z0 E1,letId A0!A0!':= $aI.nd %0 A1UE5,letIdDecl E1,letDecl T3,tacticHave__ '; ¿bz ÊZ² %0 'funÀÀÀ $z0 A7ÅY ® A3Ë '; 'delta %1 A1!A0!T3,deltaÆ7¬"
abbrev W1:=Z2 "½{ $DL.Q6 Y ¾{`¸H A1!³¸±{ $DL.aw '( $d ':= Y¶Y Y A3Ë`rotate_left A0!³rotateLeft '; '¯A5&G 'd»A0!A0!$DL.bI¨bo¨bF¨cI¨cP¨g8 T3,simpLemma A11!'] A3!A0!T6,dsimp G A3!³first"
def pQ9:Nat->Lean.Syntax->String
 |0,_=>""
 |n+1,s=>if s.isIdent then "$"++toString s.getId++" T1,rcasesPat.one A1,null T1,rcasesPatMed" else if s.getNumArgs=3 then let l:=s[1].getSepArgs.toList.map (pQ9 n)
  "'⟨ "++" A0,null T2,rcasesPatLo ', ".intercalate l++" A0,null T2,rcasesPatLo A"++toString (2*l.length-1)++",null '⟩ T3,rcasesPat.tuple A1,null T1,rcasesPatMed" else "'_ T1,rcasesPat.ignore A1,null T1,rcasesPatMed"
theorem z5{P:Prop}(h:∀G:Prop,(P->G)->G):P:=h P id
local macro_rules(kind:=Lean.Parser.Tactic.tacticLet__)|s=>do
 let d:=s[2][0]
 if d[0][0].getAtomVal=="#[" then
  let o:=Z6++pQ9 9 d[0]++Z7
  pure<|v4 (if d[0][1].getNumArgs<7 then o else Z8++o++Z9++o++" G A2,null T2,first") [d[4]]
 else if d[0].getNumArgs=1&&d[1].getNumArgs=0&&d[2].getNumArgs=0 then pure<|.node .none `Lean.Parser.Tactic.tacticHave__ #[Lean.mkAtom "have",s[1],s[2]] else Z4
local macro_rules|`(#[$a,*])=>`(⟨$a,*⟩)
local macro_rules(kind:=Lean.Parser.Term.fun)|s=>do
 let d:=s[1]
 let h:=λx:Lean.Syntax=>x.isOfKind `Lean.Parser.Term.hole
 if d.getNumArgs=4&&d[1].getNumArgs=0&&d[0].getArgs.any h then pure<|s.setArg 1<|d.setArg 0<|.node .none `null<|d[0].getArgs.map λx=>if h x then Lean.mkIdent `z0 else x else Z4
local macro_rules(kind:=Lean.Parser.Tactic.tacticErw___)|s=>pure<|v4 Y0 [.node .none `null<|s[2][1].getArgs.map λr=>if r.getNumArgs=2 then v4 "A0,null %0 %1 T3,simpLemma" [r[0],r[1]] else r,s[3]]
local macro_rules(kind:=«term!_»)|s=>match s[1].isNatLit? with
 |some 0=>pure<|v4 Y1
 |some 1=>pure<|v4 Y2
 |_=>Z4
open PySem PySem.Spec
abbrev X0:=Value->Shared->Prop
abbrev X1:=PySem.W.Frag
abbrev X2:=List (Addr×Obj)
abbrev X3:=Str->Option Value
abbrev X4:=Shared
abbrev X5:=List Value
abbrev X6:=List Str
abbrev X7:=List Addr
abbrev X8:=Addr
abbrev X9:=Program
abbrev X_:=Around
abbrev Xa:=Array Value
abbrev Xb:=Option Int
abbrev Xc:=World
abbrev Xd:=Value
abbrev Xe:=Heap
abbrev Xf:=Bool->Shared->Prop
abbrev L{α:Sort u}{a:α}:a=a:=rfl
noncomputable section
local macro_rules|`(tactic|omega)=>`(tactic|lia)
local macro_rules|`(tactic|show $e)=>`(tactic|refine $e)
open PySem PySem.Spec
abbrev gQm:=@List.getElem?_map
abbrev lQm:=@List.length_map
abbrev mQg:=@List.mem_of_getElem?
abbrev oQm:=@Option.map_eq_some_iff
abbrev gQe:=@List.getElem?_eq_getElem
abbrev gQs:=@List.getElem?_eq_some_iff
abbrev lQa:=@List.length_append
abbrev nQl:=@Nat.le_of_lt
abbrev mQa:=@List.mem_append
abbrev Qaq:=@PySem.wpAny_bind
abbrev Qbq:=@Option.bind_some
abbrev Qcq:=@PySem.Heap.get?_push_of_some
abbrev Qdq:=@decide_eq_false
abbrev Qeq:=@decide_eq_true
abbrev Qfq:=@List.mem_singleton
abbrev Qgq:=@PySem.wpAny_pure
abbrev Qhq:=@if_pos
abbrev Qiq:=@PySem.Heap.lt_size
abbrev Qjq:=@List.size_toArray
abbrev Qkq:=@List.mem_map
abbrev Qlq:=@List.getD_eq_getElem?_getD
abbrev Qmq:=@Nat.le_refl
abbrev Qnq:=@List.length_cons
abbrev Qoq:=@List.mem_append_right
abbrev Qpq:=@List.mem_cons_of_mem
abbrev Qqq:=@Nat.lt_of_lt_of_le
abbrev Qrq:=@PySem.Heap.get?_push_size
abbrev Qsq:=@List.mem_cons
abbrev Qtq:=@Bool.false_ne_true
abbrev Quq:=@if_neg
abbrev Qvq:=@List.append_assoc
abbrev Qwq:=@Nat.ne_of_lt
abbrev Qxq:=@List.length_take
abbrev Qyq:=@List.getElem?_set_self
abbrev Qzq:=@List.map_append
abbrev QAq:=@Nat.le_trans
abbrev QBq:=@List.mem_cons_self
abbrev QCq:=@Bool.and_eq_true
abbrev QDq:=@List.map_cons
abbrev QEq:=@List.take_length
abbrev QFq:=@PySem.W.mg_none_of
abbrev QGq:=@List.length_nil
abbrev QHq:=@List.getElem?_append_left
abbrev QIq:=@List.length_replicate
abbrev QJq:=@List.Perm.append_right
abbrev QKq:=@List.getElem?_set_ne
abbrev QLq:=@PySem.wpAny_holding
abbrev QMq:=@PySem.wpAny_field
abbrev QNq:=@List.replicate_succ
abbrev QOq:=@List.mem_flatMap
abbrev QPq:=@List.map_map
abbrev QQq:=@List.getElem?_append_right
abbrev QRq:=@PySem.wpAny_mono
abbrev QSq:=@List.flatMap_cons
abbrev QTq:=@List.mem_or_eq_of_mem_set
abbrev QUq:=@List.all_eq_true
abbrev QVq:=@List.length_range
abbrev QWq:=@List.drop_eq_getElem_cons
abbrev QXq:=@List.not_mem_nil
abbrev QYq:=@List.take_add_one
abbrev QZq:=@of_decide_eq_true
abbrev QaQ:=@of_decide_eq_false
abbrev QbQ:=@List.getElem_of_mem
abbrev QcQ:=@List.mem_of_getLast?
abbrev QdQ:=@Option.some.inj
abbrev QeQ:=@List.of_mem_zip
abbrev QfQ:=@List.getLast?_map
abbrev QgQ:=@PySem.wpAny_ite_false
abbrev QhQ:=@PySem.wpAny_newObj_type
abbrev QiQ:=@PySem.wpAny_callSpecial?_slot
abbrev QjQ:=@List.Sublist.refl
abbrev QkQ:=@List.eq_of_mem_replicate
abbrev QlQ:=@List.map_replicate
namespace L2
open PyProof.Rows
abbrev Key:=Sum Int Str
noncomputable def qS:Key->Value->Bool
 |.inl k,v=>Value.isInt k v
 |.inr x,v=>Value.isStrOf x v
noncomputable def P7(w:Xc):Key->Int
 |.inl k=>hashInt k
 |.inr x=>hashStr w x
def dr:∀{k:Key} {v:Xd},qS k v=true->(∃i t,k=Sum.inl i/\v=Value.int i t)\/(∃x t,k=Sum.inr x/\v=Value.str x t)
 | .inl i,v,h=>by
   let#[t,e]:=Value.isInt_shape (k:=i) (v:=v) h
   show .inl #[i,t,L,e]
 | .inr x,v,h=>by
   let#[t,e]:=Value.isStrOf_shape (x:=x) (v:=v) h
   show .inr #[x,t,L,e]
def C8(i:Int)(t:Tok):qS (.inl i) (.int i t)=true:=by simp[qS,Value.isInt]
def qi(x:Str)(t:Tok):qS (.inr x) (.str x t)=true:=by simp[qS,Value.isStrOf]
def LF(a b:Int):decide ((Sum.inl a:Key)=Sum.inl b)=(a==b):=by
 by_cases e:a=b
 ·subst e;simp
 ·have h:¬(Sum.inl a:Key)=Sum.inl b:=λq=>e (Sum.inl.inj q)
  rw[Qdq h]
  show(beq_eq_false_iff_ne.mpr e).symm
def LL(a b:Str):decide ((Sum.inr a:Key)=Sum.inr b)=decide (a=b):=by
 by_cases e:a=b
 ·subst e;simp
 ·have h:¬(Sum.inr a:Key)=Sum.inr b:=λq=>e (Sum.inr.inj q)
  rw[Qdq h,Qdq e]
def Ki(a:Int)(b:Str):decide ((Sum.inl a:Key)=Sum.inr b)=false:=Qdq (λq=>nomatch q)
def Ks(a:Str)(b:Int):decide ((Sum.inr a:Key)=Sum.inl b)=false:=Qdq (λq=>nomatch q)
noncomputable def bO(prog:X9)(w:Xc):PySem.KeyKind prog w Key where
 is:=qS
 hash:=P7 w
 inj:=λv a b g f=>by
  rcases dr g with⟨i,t,rfl,rfl⟩|⟨x,t,rfl,rfl⟩
  ·rcases dr f with⟨j,u,rfl,e⟩|⟨y,u,rfl,e⟩
   ·injection e with c _;rw[c]
   ·show nomatch e
  ·rcases dr f with⟨j,u,rfl,e⟩|⟨y,u,rfl,e⟩
   ·show nomatch e
   ·injection e with c _;rw[c]
 byValue:=λk v h=>by
  rcases dr h with⟨i,t,rfl,rfl⟩|⟨x,t,rfl,rfl⟩ <;>rfl
 pyHash:=λd h=>by
  rcases dr d with⟨i,t,rfl,rfl⟩|⟨x,t,rfl,rfl⟩
  ·show wpAny_pyHash_int h
  ·show wpAny_pyHash_str h
 eqBool:=λl d h=>by
  rcases dr l with⟨i,t,rfl,rfl⟩|⟨x,t,rfl,rfl⟩
  ·rcases dr d with⟨j,u,rfl,rfl⟩|⟨y,u,rfl,rfl⟩
   ·rw[LF] at h;show wpAny_eqBool_int h
   ·rw[Ki] at h;show SeqAt.EqAt.int_str i t y u _ _ _ _ h
  ·rcases dr d with⟨j,u,rfl,rfl⟩|⟨y,u,rfl,rfl⟩
   ·rw[Ks] at h;show SeqAt.EqAt.str_int x t j u _ _ _ _ h
   ·rw[LL] at h;show wpAny_eqBool_str h
 «strs»:=λk x t v h=>by
  rcases dr h with⟨i,u,rfl,e⟩|⟨y,u,rfl,e⟩
  ·show nomatch e
  ·injection e with c _
   subst c
   cases v <;>rfl
def ye(prog:X9)(w:Xc)(i:Int)(t:Tok):(bO prog w).is (.inl i) (.int i t)=true:=C8 i t
def yz(prog:X9)(w:Xc)(x:Str)(t:Tok):(bO prog w).is (.inr x) (.str x t)=true:=qi x t
inductive V where
 |non|bl (b:Bool)|int (i:Int)|str (x:Str)|byt (b:Array UInt8)|flt (b:UInt64)|ref (a:X8)|ty (n:String)
 deriving DecidableEq
def RelV:V->Value->Prop
 |.non,u=>u=Value.none
 |.bl b,u=>u=Value.bool b
 |.int i,u=>∃t,u=Value.int i t
 |.str x,u=>∃t,u=Value.str x t
 |.byt b,u=>∃t,u=Value.bytes b t
 |.flt b,u=>∃t,u=Value.float b t
 |.ref a,u=>u=Value.ref a
 |.ty n,u=>u=Value.type n
abbrev bL:List V->List Value->Prop:=Paired RelV
def bL.length(r:bL xs a):xs.length=a.length:=Paired.length r
theorem bL.get:∀{xs:List V} {a:X5} {i:Nat} {x:V},bL xs a->xs[i]?=some x->∃u,a[i]?=some u/\RelV x u
 |_,_,_,_,.nil,e=>by simp at e
 |_,_,0,_,.cons r _,e=>by simp at e;subst e;show#[_,L,r]
 | _,_,i+1,x,.cons _ t,e=>by
   let#[u,c,b]:=bL.get (i:=i) (x:=x) t (by simpa using e)
   show#[u,by simpa using c,b]
theorem bL.set(r:RelV x u):∀{xs:List V} {a:X5} (i:Nat),bL xs a->bL (xs.set i x) (a.set i u)
 |_,_,_,.nil=>.nil
 |_,_,0,.cons _ t=>.cons r t
 |_,_,i+1,.cons q t=>.cons q (bL.set r i t)
theorem bL.append:∀{xs ys:List V} {a ws:X5},bL xs a->bL ys ws->bL (xs++ys) (a++ws)
 |_,_,_,_,.nil,s=>s
 |_,_,_,_,.cons r t,s=>.cons r (bL.append t s)
theorem bL.take:∀{xs:List V} {a:X5} (n:Nat),bL xs a->bL (xs.take n) (a.take n)
 |_,_,0,_=>.nil
 |_,_,_+1,.nil=>.nil
 |_,_,n+1,.cons r t=>.cons r (bL.take n t)
theorem bL.drop:∀{xs:List V} {a:X5} (n:Nat),bL xs a->bL (xs.drop n) (a.drop n)
 |_,_,0,r=>r
 |_,_,_+1,.nil=>.nil
 |_,_,n+1,.cons _ t=>bL.drop n t
def uC:Option V->Option Value->Prop
 |some v,some u=>RelV v u
 |none,none=>True
 |_,_=>False
def KV:List (a×V)->List (a×Value)->Prop:=Paired λ(p:a×V) (q:a×Value)=>p.1=q.1/\RelV p.2 q.2
noncomputable def kV:Key->V
 |.inl i=>.int i
 |.inr x=>.str x
inductive HO where
 |lst (xs:List V)
 |tup (xs:List V)
 |dK (kvs:List (Key×V))|dT (kvs:List (List Key×V))
 |set (S:Int->Bool) (n:Nat)
 |ins (C dx:X8) (fs:List (Str×V))
 |own (x:X8)
 |xd (fs:List (Str×V))
 |met (f x:X8)
 |rng (lo hi:Int)
 |frz (o:Obj) (u:HO)
 |tbl (ps:Xa)
 |ext (φ:Heap->Prop)
abbrev Hp:=Addr->Option HO
noncomputable def upd(H:Hp)(a:X8)(o:HO):Hp:=λb=>if b=a then some o else H b
def bx:upd H a o a=some o:=by unfold upd;rw[Qhq L]
def aU(h:b≠a):upd H a o b=H b:=by unfold upd;rw[Quq h]
def ED{H:Hp}(h:H a=some o)(h':H b=some u)(d:o≠u):a≠b:=by
 intro e;subst e;rw[h] at h';show d (QdQ h')
def fj{H:Hp}(h:H a=some o)(h':H b=none):a≠b:=by
 intro e;subst e;rw[h] at h';cases h'
def zH(h:Xe)(a:X8)(items:Xa):Prop:=∃o,h.get? a=some o/\o.cls=.type "tuple" /\o.dict=none/\∃n,o.data=.seq items n
def zH.it(x:zH h a items):IsTup h a items:=by
 let#[o,e,c,_,d]:=x
 show#[o,e,c,d]
def zH.new(h:Xe)(items:Xa):zH (h.push {cls:=.type "tuple",data:=.seq items}) h.objs.size items:=#[_,Qrq _ L,L,L,_,L]
section
variable(P:X9)(w:Xc)
def cb(H:Hp)(h:Xe)(a:X8):HO->Prop
 |.lst d=>d.length<=sizeLine/\∃(c:X5) (n:Nat),bL d c/\h.get? a=some {cls:=.type "list",data:=.seq c.toArray n}
 |.tup d=>d.length<=sizeLine/\∃c:List Value,bL d c/\zH h a c.toArray
 |.dK b=>b.length<=sizeLine/\(a==sysModules)=false/\∃l,KV b l/\h.DictOf (bO P w) a l
 |.dT b=>b.length<=sizeLine/\(a==sysModules)=false/\∃d:List (List Key×Addr×Value),
   Paired (λ(p:List Key×V) (q:List Key×Addr×Value)=>p.1=q.1/\H q.2.1=some (.tup (p.1.map kV))/\RelV p.2 q.2.2) b d∧
   ∃o r z,h.get? a=some o/\o.ExactDict/\o.data=.dict r z/\r.toList=d.map (entryOfKey<|tupleKind<|bO P w)/\(d.map (·.1)).Nodup
 |.set S n=>h.SetOf (intKind P w) a S n
 |.ins C i g=>H i=some (.own a)/\g.length<=1000/\i≠a/\h.get? a=some (PySem.W.instObj C i)∧
   ∃e,h.Ns1 i e/\(∀f,uC (g.lookup f)<|e f)/\PySem.Within e (g.map (·.1))
 |.own _=>∃o,h.get? a=some o
 |.xd g=>∃e,h.Ns1 a e/\∀f,uC (g.lookup f) (e f)
 |.rng A y=>∃t u v,h.get? a=some {cls:=.type "range",data:=.fields (List.toArray [.int A t,.int y u,.int 1 v])}
 |.frz o u=>h.get? a=some o/\cb H h a u
 |.tbl s=>h.get? a=some {cls:=.none,data:=.fields s}
 |.met f x=>h.get? a=some (PySem.W.methodObj (.ref f)<|.ref x)
 |.ext j=>j h/\(∃o,h.get? a=some o)/\∀m k:Heap,j m->(∀o,m.get? a=some o->k.get? a=some o)->j k
def ou(H:Hp)(h:Xe):Prop:=∀a o,H a=some o->cb P w H h a o
end
theorem cb.lt(x:cb P w H h a o):a<h.objs.size:=by
 cases o with
 |lst c=>let#[_,_,_,_,e]:=x;show Qiq e
 |tup c=>let#[_,_,_,p]:=x;show p.it.lt
 |dK b=>let#[_,_,_,_,o,_,_,e,_]:=x;show Qiq e
 |dT b=>let#[_,_,_,_,o,_,_,e,_]:=x;show Qiq e
 |set S n=>let#[o,_,_,_,e,_]:=x;show Qiq e
 |ins C m d=>let#[_,_,_,e,_]:=x;show Qiq e
 |own y=>let#[_,e]:=x;show Qiq e
 |xd d=>let#[_,#[_,_,_,e,_],_]:=x;show Qiq e
 |rng q l=>let#[_,_,_,e]:=x;show Qiq e
 |frz k u=>let#[e,_]:=x;show Qiq e
 |tbl j=>show Qiq (show h.get? a=some _ from x)
 |met f y=>show Qiq (show h.get? a=some _ from x)
 |ext i=>let#[_,#[_,e],_]:=x;show Qiq e
theorem Paired.mapP{F G:α->c->Prop}:∀{l₁:List α} {l₂:List c},Paired F l₁ l₂->(∀a b,F a b->G a b)->Paired G l₁ l₂
 |_,_,.nil,_=>.nil
 |_,_,.cons r t,f=>.cons (f _ _ r) (Paired.mapP t f)
def cb.stay{g:Hp}{h':Xe}(x:cb P w H h a o)(k:∀b u,(b=a\/H b=some (.own a))->h.get? b=some u->h'.get? b=some u)
  (N:∀b,H b=some (.own a)->g b=some (.own a)) (I:∀b xs,H b=some (.tup xs)->g b=some (.tup xs)):cb P w g h' a o:=by
 induction o with
 |lst xs=>let#[z,m,n,r,e]:=x;show#[z,m,n,r,k _ _ (.inl L) e]
 |tup xs=>let#[z,m,r,i,e,c]:=x;show#[z,m,r,i,k _ _ (.inl L) e,c]
 |dK s=>let#[z,y,J,r,i,j,l,e,c]:=x;show#[z,y,J,r,i,j,l,k _ _ (.inl L) e,c]
 | dT s=>
   let#[z,y,xs,r,i,j,l,e,c]:=x
   show#[z,y,xs,Paired.mapP r λp q z=>#[z.1,I _ _ z.2.1,z.2.2],i,j,l,k _ _ (.inl L) e,c]
 |set S n=>let#[i,j,l,t,e,c]:=x;show#[i,j,l,t,k _ _ (.inl L) e,c]
 | ins C Y Q=>
   let#[d,z,K,e,A,#[B,j,l,M,c],r]:=x
   show#[N _ d,z,K,k _ _ (.inl L) e,A,#[B,j,l,k _ _ (.inr d) M,c],r]
 |own y=>let#[i,e]:=x;show#[i,k _ _ (.inl L) e]
 |xd Q=>let#[A,#[B,j,l,e,c],r]:=x;show#[A,#[B,j,l,k _ _ (.inl L) e,c],r]
 |rng Z X=>let#[t,u,v,e]:=x;show#[t,u,v,k _ _ (.inl L) e]
 |frz i u R=>let#[e,q]:=x;show#[k _ _ (.inl L) e,R q]
 | tbl F=>
   have e:h.get? a=some {cls:=.none,data:=.fields F}:=x
   show h'.get? a=some {cls:=.none,data:=.fields F}
   show k a _ (.inl L) e
 | met f y=>
   have e:h.get? a=some (PySem.W.methodObj (.ref f)<|.ref y):=x
   show h'.get? a=some (PySem.W.methodObj (.ref f)<|.ref y)
   show k a _ (.inl L) e
 |ext U=>let#[p,#[o,e],G]:=x;show#[G _ _ p λo q=>k _ _ (.inl L) q,#[o,k _ _ (.inl L) e],G]
def ou.lt(x:ou P w H h)(e:H a=some o):a<h.objs.size:=(x a o e).lt
def ou.fresh(x:ou P w H h)(e:h.objs.size<=a):H a=none:=by
 cases q:H a with
 |none=>rfl
 |some u=>show absurd (Qqq (x.lt q) e) (Nat.lt_irrefl _)
def ou.kept{h':Xe}(x:ou P w H h)(k:∀b u,h.get? b=some u->h'.get? b=some u):ou P w H h':=λa o e=>
 (x a o e).stay (λb u _ q=>k b u q) (λ_ q=>q) λ_ _ q=>q
def ou.laid{h':Xe}(x:ou P w H h)(k:∀b u,h.get? b=some u->h'.get? b=some u)(j:h.objs.size<=a)(d:cb P w (upd H a o) h' a o):ou P w (upd H a o) h':=λb u e=>by
 let i:=x.fresh j
 by_cases f:b=a
 ·subst f;rw[bx] at e;cases e;show d
 ·rw[aU f] at e
  show(x b u e).stay (λc v _ q=>k c v q) (λc q=>by rw[aU (fj q i)];show q) λc l q=>by rw[aU (fj q i)];show q
def Rd(H:Hp)(a:X8)(u:HO):Prop:=H a=some u\/∃o,H a=some (.frz o u)
def Rd.ok(r:Rd H a u)(x:ou P w H h):cb P w H h a u:=by
 rcases r with r|⟨o,r⟩
 ·show x a u r
 ·let#[_,q]:=x a _ r
  show q
def Na:Option HO->Prop
 |some (.lst _)=>True
 |some (.dK _)=>True
 |some (.dT _)=>True
 |some (.set _ _)=>True
 |some (.ins _ _ _)=>True
 |some (.ext _)=>True
 |_=>False
def ou.write{h':Xe}(ok:ou P w H h)(j:Na (H x))(he:e=x\/H e=some (.own x))(k:∀b u,b≠e->h.get? b=some u->h'.get? b=some u)(m:∃u,h'.get? e=some u)
  (n:cb P w (upd H x o') h' x o'):ou P w (upd H x o') h':=λb u q=>by
 have d:∀c y,H c=some (.own y)->c≠x:=λc y r z=>by subst z;rw[r] at j;show j
 have f:∀c i,H c=some (.tup i)->c≠x:=λc i r z=>by subst z;rw[r] at j;show j
 by_cases g:b=x
 ·subst g;rw[bx] at q;cases q;show n
 ·rw[aU g] at q
  by_cases a:b=e
  ·have o:H b=some (.own x):=by
    rcases he with z|z
    ·show absurd (a.trans z) g
    ·rw[a];show z
   rw[q] at o;cases o
   let#[v,p]:=m
   show#[v,by rw[a];show p]
  ·show(ok b u q).stay (λc v l r=>k c v ?_ r) (λc r=>by rw[aU (d c b r)];show r) λc i r=>by rw[aU (f c i r)];show r
   rcases l with rfl|l
   ·show a
   ·rintro rfl
    rcases he with z|z
    ·show d c b l z
    ·rw[l] at z;cases z;show g L
structure Un(fs ex:X7)(H H':Hp)(h h':Xe):Prop where
 keep:∀b o,h.get? b=some o->H b=none->b∉fs->b∉ex->h'.get? b=some o
 slot:∀b o,h.get? b=some o->H b=none->b∈fs->b∉ex->∃sl,h'.get? b=some {o with slots:=sl}
 free:∀b o,h.get? b=some o->H b=none->b∉ex->H' b=none
 there:∀b o,h.get? b=some o->b∉ex->∃o',h'.get? b=some o'
 tups:∀b xs,H b=some (.tup xs)->H' b=some (.tup xs)
 frzs:∀b o u,H b=some (.frz o u)->H' b=some (.frz o u)
 tbls:∀b ps,H b=some (.tbl ps)->∃more,H' b=some (.tbl (ps++more))
def Un.any{fs:X7}{c:X7}{H:Hp}{H1:Hp}{h:Xe}{d:Xe}(u:Un fs c H H1 h d){b:X8}{j:Obj}(q:h.get? b=some j)(n:H b=none)(l:b∉c):∃sl,d.get? b=some {j with slots:=sl}:=by
 by_cases k:b∈fs
 ·show u.slot b j q n k l
 ·show#[j.slots,u.keep b j q n k l]
def Un.kept{h:Xe}{h':Xe}(k:∀b u,h.get? b=some u->h'.get? b=some u):Un fs c H H h h':=
 #[λb j q _ _ _=>k b j q,λb j q _ _ _=>#[j.slots,k b j q],λ_ _ _ n _=>n,λb j q _=>#[j,k b j q],λ_ _ q=>q,λ_ _ _ q=>q,λ_ l q=>#[(List.toArray []),by rw[q];simp]]
def Un.refl:Un fs c H H h h:=Un.kept λ_ _ q=>q
def Un.laid{H:Hp}{h:Xe}{h':Xe}(k:∀b u,h.get? b=some u->h'.get? b=some u)(l:h.objs.size<=a)(j:H a=none):Un fs c H (upd H a o) h h' where
 keep:=λb u q _ _ _=>k b u q
 slot:=λb u q _ _ _=>#[u.slots,k b u q]
 free:=λb u q n _=>by rw[aU (Qwq<|Qqq (Qiq q) l)];show n
 there:=λb u q _=>#[u,k b u q]
 tups:=λb m q=>by rw[aU (fj q j)];show q
 frzs:=λb u m q=>by rw[aU (fj q j)];show q
 tbls:=λb p q=>#[(List.toArray []),by rw[aU (fj q j),q];simp]
def Un.write{H:Hp}{h:Xe}{h':Xe}(l:Na (H x))(he:e=x\/H e=some (.own x))(k:∀b u,b≠e->h.get? b=some u->h'.get? b=some u)(p:∃u,h'.get? e=some u):Un fs c H (upd H x o) h h':=by
 have t:∀b,H b=none->b≠x:=λb n z=>by subst z;rw[n] at l;show l
 have s:∀b,H b=none->b≠e:=λb n z=>by
  subst z
  rcases he with r|r
  ·show t b n r
  ·rw[n] at r;cases r
 have m:∀b u,H b=some u->¬Na (some u)->b≠x:=λb u q nm z=>by subst z;rw[q] at l;show nm l
 show⟨λb u q n _ _=>k b u (s b n) q,λb u q n _ _=>⟨u.slots,k b u (s b n) q⟩,λb u q n _=>by rw[aU (t b n)];show n,λb u q _=>?_,
  λb v q=>by rw[aU (m b _ q λz=>z)];show q,λb u v q=>by rw[aU (m b _ q λz=>z)];show q,λb w q=>#[(List.toArray []),by rw[aU (m b _ q λz=>z),q];simp]⟩
 by_cases j:b=e
 ·subst j;show p
 ·show#[u,k b u j q]
noncomputable def OF(h:Xe)(H:Hp):List Addr:=(List.range h.objs.size).filter λa=>(H a).isSome
noncomputable def wN(h:Xe)(H:Hp):Heap:=PySem.W.hideAll h (OF h H)
def CZ(h:Xe)(H:Hp):(wN h H).objs.size=h.objs.size:=PySem.W.hideAll_size _ _
def FJ{h:Xe}{H:Hp}(e:h.get? b=some o)(n:H b=none):(wN h H).get? b=some o:=
 PySem.W.hideAll_get _ e λa=>by
  have q:(H b).isSome=true:=(List.mem_filter.mp a).2
  rw[n] at q;simp at q
def Ji(e:(wN h H).get? b=some o):h.get? b=some o/\H b=none:=by
 have a:h.get? b=some o:=PySem.W.of_hideAll (OF h H) e
 show#[a,?_]
 cases q:H b with
 |none=>rfl
 | some x=>
   have c:b∈OF h H:=List.mem_filter.mpr #[List.mem_range.mpr<|Qiq a,by simp[q]]
   have z:(wN h H).get? b=none:=PySem.W.hideAll_none (OF h H) c
   rw[z] at e;cases e
structure Mod(K:X1)(mg:X3)(base:Xe):Prop where
 kin:K.In base
 glob:base.Ns mainGlobals mg
 blt:∃mb,base.Ns builtinsNs mb/\∀x:Str,x≠"__name__" ->mb x=bootBuiltins x
 nolimit:base.NoLimit
structure Cx where
 prog:Program
 w:World
 K:PySem.W.Frag
 mg:Str->Option Value
 base:Heap
 A:Around
 N:List Str
 s₀:Shared
 H₀:Hp
 env:Env
 outer:List Env
 stack:List Env
 ex:List Addr
 fn:Str->Bool
 calm:Bool
 pn:List (Addr×Obj)
 xe:Value->Shared->Prop
noncomputable def EZ(l:List Env):List Addr:=l.filterMap (·.frame)
noncomputable abbrev Cx.fs(X:Cx):List Addr:=EZ X.outer
def G0(a:Scope)(x:Str):Prop:=a.names.lookup x=some .local\/a.names.lookup x=some .cell\/a.names.lookup x=some .free
def Loc(a:Scope)(x:Str):Prop:=a.names.lookup x=some .local\/a.names.lookup x=some .cell
def Look(env:Env)(h:Xe)(m:X3)(x:Str)(u:Xd):Prop:=
 (env.kindOf x=some .local/\m x=some u)\/((env.kindOf x=some .cell\/env.kindOf x=some .free)/\∃c,env.cells.lookup x=some c/\h.IsCell c (some u))
structure Cx.Ok(X:Cx):Prop where
 mod:Mod X.K X.mg X.base
 kind:X.env.scope.kind=.function
 glob:X.env.globals=mainGlobals
 blt:X.env.builtins=builtinsNs
 above:X.s₀.heap.objs.size<=X.env.locals
 inj:∀x y c,X.env.cells.lookup x=some c->X.env.cells.lookup y=some c->x=y
 has:∀x,(X.env.kindOf x=some .cell\/X.env.kindOf x=some .free)->∃c,X.env.cells.lookup x=some c
 cab:∀x c,X.fn x=true->X.env.cells.lookup x=some c->X.s₀.heap.objs.size<=c
 hd:X.calm=true->X.A.handled=none
 frames:X.A.frames=some X.stack
 stk:X.stack=X.outer\/(X.stack=X.env::X.outer/\X.env.frame=some X.env.locals)
 exf:∀b∈X.ex,b≠X.env.locals/\∀x c,X.env.cells.lookup x=some c->c≠b
 bs:∀b o,X.base.get? b=some o->X.s₀.heap.get? b=some o/\X.H₀ b=none
 bsz:X.base.objs.size<=X.s₀.heap.objs.size
 noex:∀b o,X.base.get? b=some o->b∉X.ex
 exfs:∀b∈X.ex,b∉X.fs
 funs:X.s₀.heap.FunFrames X.base X.outer
 frf:∀b∈X.fs,X.H₀ b=none
structure Inv(X:Cx)(pins:X2)(σ:List (Option V))(H:Hp)(s:X4):Prop where
 ok:X.Ok
 os:s.os=X.s₀.os
 bare:AllBare s.gens
 base:Un X.fs X.ex X.H₀ H X.s₀.heap s.heap
 loc:∃m,s.heap.Ns X.env.locals m/\∀(i:Nat) (x:Str) (v:V),X.N[i]?=some x->σ[i]?=some (some v)->G0 X.env.scope x->∃u,RelV v u/\Look X.env s.heap m x u
 cell:∀x c,X.env.cells.lookup x=some c->∃v,s.heap.IsCell c v
 free:H X.env.locals=none
 freeC:∀x c,X.env.cells.lookup x=some c->H c=none
 pin:∀p∈X.pn++pins,s.heap.get? p.1=some p.2/\H p.1=none/\p.1≠X.env.locals/\p.1∉X.fs/\∀v,p.2.data≠.cell v
 hok:ou X.prog X.w H s.heap
 len:σ.length=X.N.length
def Cx.Ok.nofr{X:Cx}(ok:X.Ok)(e:X.base.get? b=some o):b∉X.fs:=λa=>by
 have:=(ok.funs.mem a).1
 rw[e] at this;cases this
def Inv.bs(I:Inv X f g H s):∀b o,X.base.get? b=some o->s.heap.get? b=some o/\H b=none:=λb o e=>
 #[I.base.keep b o (I.ok.bs b o e).1 (I.ok.bs b o e).2 (I.ok.nofr e)<|I.ok.noex b o e,I.base.free b o (I.ok.bs b o e).1 (I.ok.bs b o e).2<|I.ok.noex b o e]
def Inv.bk(I:Inv X f g H s):∀b o,X.base.get? b=some o->s.heap.get? b=some o:=λb o e=>(I.bs b o e).1
def Inv.mod(I:Inv X f g H s):Mod X.K X.mg X.base:=I.ok.mod
def Inv.kIn(I:Inv X f g H s):X.K.In s.heap:=I.ok.mod.kin.keeps I.bk
def Inv.lt(I:Inv X f g H s):X.env.locals<s.heap.objs.size:=let ⟨_,hn,_⟩:=I.loc;hn.lt
def Inv.sz(I:Inv X f g H s):X.s₀.heap.objs.size<=s.heap.objs.size:=QAq I.ok.above (nQl I.lt)
def Inv.nofs(I:Inv X f g H s)(h:s.heap.objs.size<=a):a∉X.fs:=λc=>by
 let#[_,o,b,_]:=I.ok.funs.mem c
 show absurd (Qqq (Qiq b)<|QAq I.sz h)<|Nat.lt_irrefl _
def Inv.cne(I:Inv X f g H s):∀x c,X.env.cells.lookup x=some c->c≠X.env.locals:=λx c e z=>by
 let#[v,o,h,d]:=I.cell x c e
 let#[m,#[k,j,i,b,a,_],_]:=I.loc
 rw[z,b] at h;cases h;rw[a] at d;cases d
theorem Inv.funs(I:Inv X f g H s):s.heap.FunFrames X.base X.outer:=by
 have h:∀(l:List Env),(∀b∈EZ l,b∈X.fs)->X.s₀.heap.FunFrames X.base l->s.heap.FunFrames X.base l:=by
  intro l
  induction l with
  |nil=>intro _ _;trivial
  | cons m r t=>
    intro i hl
    let#[k,#[L,o,d,q,n,j],p]:=hl
    have c:L∈X.fs:=i L (by unfold EZ;rw[List.filterMap_cons,d];show QBq)
    let#[sl,e]:=I.base.slot L o n (I.ok.frf L c) c λz=>I.ok.exfs L z c
    show#[k,#[L,_,d,q,e,j],t (λb a=>i b (by unfold EZ;rw[List.filterMap_cons,d];show Qpq _ a)) p]
 show h X.outer (λ_ a=>a) I.ok.funs
def Inv.stack(I:Inv X f g H s):s.heap.FunFrames X.base X.stack:=by
 rcases I.ok.stk with e|⟨e,a⟩
 ·rw[e];show I.funs
 ·rw[e]
  let#[m,b,_]:=I.loc
  show .cons (by rw[I.ok.kind];decide) a b ?_ I.funs
  show Heap.get?_none_of_le<|QAq I.ok.bsz I.ok.above
def Inv.stkSub(I:Inv X f g H s):∀b∈EZ X.stack,b∈X.env.locals::X.fs:=λb a=>by
 rcases I.ok.stk with e|⟨e,c⟩
 ·rw[e] at a;show Qpq _ a
 ·rw[e] at a
  unfold EZ at a
  rw[List.filterMap_cons,c] at a
  show a
def Inv.stkFree(I:Inv X f g H s):∀b∈EZ X.stack,H b=none:=λb a=>by
 rcases Qsq.mp (I.stkSub b a) with e|a
 ·rw[e];show I.free
 ·let#[_,o,c,_]:=I.ok.funs.mem a
  show I.base.free b o c (I.ok.frf b a) λz=>I.ok.exfs b z a
def Inv.step{X:Cx}{f:X2}{g:List (Option V)}{H:Hp}{B:Hp}{s:X4}{h':Xe}{g':Array GenState}{t':Nat}{d':Drawn}{ch:X7}(I:Inv X f g H s)
  (A:∀b∈ch,(b∈X.ex\/X.s₀.heap.objs.size<=b)/\b≠X.env.locals/\(∀x c,X.env.cells.lookup x=some c->c≠b)/\∀p∈X.pn++f,p.1≠b)
  (y:∀b o,b≠X.env.locals->b∉X.fs->b∉ch->s.heap.get? b=some o->H b=none->h'.get? b=some o)
  (G:∀b o,b≠X.env.locals->b∈X.fs->b∉ch->s.heap.get? b=some o->H b=none->∃sl,h'.get? b=some {o with slots:=sl}) (h:∀b o,b∉ch->s.heap.get? b=some o->H b=none->B b=none)
  (K:∀b o,b∉ch->s.heap.get? b=some o->∃o',h'.get? b=some o')
  (R:∀b xs,H b=some (.tup xs)->B b=some (.tup xs)) (P:∀b o u,H b=some (.frz o u)->B b=some (.frz o u)) (S:∀b ps,H b=some (.tbl ps)->∃more,B b=some (.tbl (ps++more)))
  (ns:∀m,s.heap.Ns X.env.locals m->h'.Ns X.env.locals m) (W:ou X.prog X.w B h') (hg:AllBare g'):
  Inv X f g B {s with heap:=h',gens:=g',drawn:=d',toks:=t'}:=by
 have N:∀b o,X.s₀.heap.get? b=some o->b≠X.env.locals:=λb o e=>Qwq (Qqq (Qiq e) I.ok.above)
 have C:∀b o,X.s₀.heap.get? b=some o->b∉X.ex->b∉ch:=λb o e a J=>by
  rcases(A b J).1 with z|z
  ·show a z
  ·show absurd (Qqq (Qiq e) z)<|Nat.lt_irrefl _
 have j:∀x c,X.env.cells.lookup x=some c->∀v,s.heap.IsCell c v->h'.IsCell c v:=λx c e v qq=>by
  let#[o,M,U]:=qq
  have t:c∉ch:=λz=>(A c z).2.2.1 x c e L
  by_cases hc:c∈X.fs
  ·let#[sl,q]:=G c o (I.cne x c e) hc t M (I.freeC x c e)
   show#[_,q,U]
  ·show#[o,y c o (I.cne x c e) hc t M<|I.freeC x c e,U]
 show#[I.ok,I.os,hg,#[λb o e n J a=>?_,λb o e n J a=>?_,λb o e n a=>?_,λb o e a=>?_,λb xs e=>R b xs<|I.base.tups b xs e,λb o xs e=>P b o xs<|I.base.frzs b o xs e,λb ps e=>?_],?_,λx c e=>?_,?_,λx c e=>?_,λp hp=>?_,W,I.len]
 ·show y b o (N b o e) J (C b o e a) (I.base.keep b o e n J a)<|I.base.free b o e n a
 ·let#[sl,F]:=I.base.slot b o e n J a
  let#[Y,Q]:=G b _ (N b o e) J (C b o e a) F (I.base.free b o e n a)
  show#[Y,Q]
 ·let#[o',F]:=I.base.there b o e a
  show h b o' (C b o e a) F<|I.base.free b o e n a
 ·let#[o',F]:=I.base.there b o e a
  show K b o' (C b o e a) F
 ·let#[m1,F]:=I.base.tbls b ps e
  let#[m2,Q]:=S b _ F
  show#[m1++m2,by rw[Q,Array.append_assoc]]
 ·let#[m,hn,hl]:=I.loc
  show#[m,ns m hn,λi x v F Q e3=>?_]
  let#[u,r,l]:=hl i x v F Q e3
  show#[u,r,?_]
  rcases l with l|⟨k,c,e,z⟩
  ·show .inl l
  ·show .inr #[k,c,e,j x c e _ z]
 ·let#[v,z]:=I.cell x c e
  show#[v,j x c e v z]
 ·let#[m,#[o,_,_,M,_],_]:=I.loc
  show h _ o (λz=>(A _ z).2.1 L) M I.free
 ·let#[v,o,M,U]:=I.cell x c e
  show h c o (λz=>(A c z).2.2.1 x c e L) M<|I.freeC x c e
 ·let#[e,n,Z,nf,d]:=I.pin p hp
  have t:p.1∉ch:=λz=>(A p.1 z).2.2.2 p hp L
  show#[y p.1 p.2 Z nf t e n,h p.1 p.2 t e n,Z,nf,d]
def Inv.un(I:Inv X f g H s)(u:Un X.fs [] H B s.heap h')(i:ou X.prog X.w B h'):Inv X f g B {s with heap:=h',toks:=t'}:=by
 let#[m,#[o,q,x,j,r],_]:=id I.loc
 let#[sl,l]:=u.any j I.free (by simp)
 show I.step (g':=s.gens) (d':=s.drawn) (ch:= []) (λ_ z=>nomatch z) (λb o _ c _ e n=>u.keep b o e n c (by simp)) (λb o _ c _ e n=>u.slot b o e n c (by simp)) (λb o _ e n=>u.free b o e n (by simp)) (λb o _ e=>u.there b o e (by simp)) u.tups u.frzs u.tbls (λv p=>by
  let#[t,h,d,a,k]:=p
  rw[j] at a;cases a
  show#[_,h,d,l,k]) i I.bare
def Inv.call(I:Inv X f g H s)(u:Un (EZ X.stack) ch H B s.heap h')(l:ou X.prog X.w B h')(y:AllBare g')
  (h:∀b∈ch,(b∈X.ex\/X.s₀.heap.objs.size<=b)/\b≠X.env.locals/\(∀x c,X.env.cells.lookup x=some c->c≠b)/\∀p∈X.pn++f,p.1≠b):
  Inv X f g B {s with heap:=h',gens:=g',drawn:=d',toks:=t'}:=by
 let#[m,#[o,C,J,q,r],_]:=id I.loc
 let#[sl,j]:=u.any q I.free λz=>(h _ z).2.1 L
 show I.step (ch:=ch) h (λb o j v a e n=>u.keep b o e n (λz=>(Qsq.mp (I.stkSub b z)).elim j v) a) (λb o _ _ a e n=>u.any e n a) (λb o a e n=>u.free b o e n a) (λb o a e=>u.there b o e a) u.tups u.frzs u.tbls (λG A=>by
  let#[F,k,i,d,t]:=A
  rw[q] at d;cases d
  show#[_,k,i,j,t]) l y
def Inv.turned{h':Xe}(I:Inv X f g H s)(k:∀b o,b≠it->s.heap.get? b=some o->h'.get? b=some o)(A:H it=none)(h:it≠X.env.locals)
  (l:it∈X.ex\/X.s₀.heap.objs.size<=it) (i:∀x c,X.env.cells.lookup x=some c->c≠it) (y:∀p∈X.pn++f,p.1≠it):Inv X f g H {s with heap:=h',toks:=t'}:=by
 have d:∀b u,H b=some u->b≠it:=λb u e z=>by rw[z,A] at e;cases e
 show I.step (g':=s.gens) (d':=s.drawn) (ch:= [it]) (λb j=>?_) (λb o _ _ a e _=>k b o (λz=>a (by simp[z])) e) (λb o _ _ a e _=>#[o.slots,k b o (λz=>a (by simp[z])) e]) (λ_ _ _ _ n=>n)
  (λb o a e=>#[o,k b o (λz=>a (by simp[z])) e]) (λ_ _ e=>e) (λ_ _ _ e=>e) (λb G e=>#[(List.toArray []),by rw[e];simp]) (λm C=>?_) (λb u e=>?_) I.bare
 ·have e:b=it:=by simpa using j
  subst e
  show#[l,h,i,y]
 ·let#[o,w,F,t,r]:=C
  show#[o,w,F,k _ o (Ne.symm h) t,r]
 ·show(I.hok b u e).stay (λc v a q=>k c v ?_ q) (λ_ q=>q) λ_ _ q=>q
  rcases a with z|z
  ·rw[z];show d b u e
  ·show d c _ z
def Inv.tok(I:Inv X f g H s)(t:Nat):Inv X f g H {s with toks:=t}:=I.un (h':=s.heap) (t':=t) Un.refl I.hok
def Inv.kept{h':Xe}(I:Inv X f g H s)(k:∀b u,s.heap.get? b=some u->h'.get? b=some u):Inv X f g H {s with heap:=h',toks:=t'}:=I.un (Un.kept k) (I.hok.kept k)
def Inv.laid{h':Xe}(I:Inv X f g H s)(k:∀b u,s.heap.get? b=some u->h'.get? b=some u)(c:s.heap.objs.size<=a)(d:cb X.prog X.w (upd H a o) h' a o):
  Inv X f g (upd H a o) {s with heap:=h',toks:=t'}:=I.un (Un.laid k c<|I.hok.fresh c) (I.hok.laid k c d)
def Inv.write{h':Xe}(I:Inv X f g H s)(d:Na (H x))(he:e=x\/H e=some (.own x))(k:∀b u,b≠e->s.heap.get? b=some u->h'.get? b=some u)(a:∃u,h'.get? e=some u)
  (c:cb X.prog X.w (upd H x o) h' x o):Inv X f g (upd H x o) {s with heap:=h',toks:=t'}:=I.un (Un.write d he k a) (I.hok.write d he k a c)
def Inv.pins_of(I:Inv X f g H s)(h:∀p∈a,s.heap.get? p.1=some p.2/\H p.1=none/\p.1≠X.env.locals/\p.1∉X.fs/\∀v,p.2.data≠.cell v):Inv X a g H s:=
 #[I.ok,I.os,I.bare,I.base,I.loc,I.cell,I.free,I.freeC,λp b=>(mQa.mp b).elim (λz=>I.pin p<|List.mem_append_left _ z) (h p),I.hok,I.len]
def yj{N:X6}(d:N.Nodup){i j:Nat}{x:Str}(a:N[i]?=some x)(b:N[j]?=some x):i=j:=by
 let#[k,c]:=gQs.mp a
 let#[h,e]:=gQs.mp b
 show(List.getElem_inj d).mp (c.trans e.symm)
def D5{E:X0}{Q:Unit->Shared->Prop}(I:Inv X f g H s)(hN:X.N.Nodup)(hi:X.N[i]?=some x)(G:Loc X.env.scope x)(r:RelV v u)
  (h:∀s',Inv X f (g.set i<|some v) H s'->(∃a,Heap.SameBut a s.heap s'.heap/\(a=X.env.locals\/X.env.cells.lookup x=some a))->Q () s') (hf:autoParam (X.fn x=true\/X.env.scope.names.lookup x=some .local) cU._auto_1):wpAny M A (storeName X.env x u) Q E s:=by
 let#[m,hn,hl]:=id I.loc
 have a3:(X.env.scope.kind==.class||(X.env.scope.kind==.module&&X.env.locals !=X.env.globals))=false:=by rw[I.ok.kind];rfl
 have R:i<g.length:=by rw[I.len];show(gQs.mp hi).1
 let U:=I.cne
 have t:∀{a:X8} {h':Xe},(∃o,s.heap.get? a=some o/\H a=none)->Heap.SameBut a s.heap h'->ou X.prog X.w H h':=λ{a h'} ha l b ob e=>by
  let#[_,_,J]:=ha
  show(I.hok b ob e).stay (λc w' F q=>(l.2 c ?_).trans q) (λ_ q=>q) λ_ _ q=>q
  rintro rfl
  rcases F with rfl|F
  ·rw[J] at e;cases e
  ·rw[J] at F;cases F
 rcases G with P|P
 ·show wpAny_storeName_local P hn (λh' a4 l=>?_) a3
  let#[oL,_,_,a5,_]:=id hn
  show h _ #[I.ok,I.os,I.bare,#[λb o e n S G=>?_,λb o e n S G=>?_,I.base.free,λb o e G=>?_,I.base.tups,I.base.frzs,I.base.tbls],#[_,a4,λj y v' C K e3=>?_],λy c e=>?_,I.free,I.freeC,λp hp=>?_,t #[oL,a5,I.free] l,by simpa using I.len] #[_,l,.inl L]
  ·show(l.2 b<|Qwq<|Qqq (Qiq e) I.ok.above).trans (I.base.keep b o e n S G)
  ·let#[sl,C]:=I.base.slot b o e n S G
   show#[sl,(l.2 b<|Qwq<|Qqq (Qiq e) I.ok.above).trans C]
  ·let#[o',C]:=I.base.there b o e G
   show#[o',(l.2 b<|Qwq<|Qqq (Qiq e) I.ok.above).trans C]
  ·by_cases W:j=i
   ·subst W
    rw[hi] at C;cases C
    rw[Qyq R] at K
    cases K
    show#[u,r,.inl #[P,by simp]]
   ·rw[QKq (Ne.symm W)] at K
    let#[u',r',q]:=hl j y v' C K e3
    show#[u',r',?_]
    rcases q with⟨k,e⟩|⟨k,c,e,z⟩
    ·show .inl #[k,?_]
     have:y≠x:=λe=>W (yj hN C (e▸hi))
     simp[this,e]
    ·show .inr #[k,c,e,z.sameBut l<|U y c e]
  ·let#[w',z]:=I.cell y c e
   show#[w',z.sameBut l<|U y c e]
  ·let#[e,n,ne,nf,d]:=I.pin p hp
   show#[(l.2 p.1 ne).trans e,n,ne,nf,d]
 ·have Y:X.fn x=true:=by
   rcases hf with z|z
   ·show z
   ·rw[z] at P;cases P
  let#[c,F]:=I.ok.has x (.inl P)
  let#[w',z]:=I.cell x c F
  show wpAny_storeName_cell I.ok.kind P F z (λh' a2 l=>?_)
  let#[oc,Z,a0]:=id z
  show h {s with heap:=h'} #[I.ok,I.os,I.bare,#[λb o e n S G=>?_,λb o e n S G=>?_,I.base.free,λb o e G=>?_,I.base.tups,I.base.frzs,I.base.tbls],#[m,hn.sameBut l<|Ne.symm<|U x c F,λj y v' C K e3=>?_],λy c' e=>?_,I.free,I.freeC,λp hp=>?_,t #[oc,Z,I.freeC x c F] l,by simpa using I.len] #[c,l,.inr F]
  ·show(l.2 b<|Qwq<|Qqq (Qiq e)<|I.ok.cab x c Y F).trans (I.base.keep b o e n S G)
  ·let#[sl,C]:=I.base.slot b o e n S G
   show#[sl,(l.2 b<|Qwq<|Qqq (Qiq e)<|I.ok.cab x c Y F).trans C]
  ·let#[o',C]:=I.base.there b o e G
   show#[o',(l.2 b<|Qwq<|Qqq (Qiq e)<|I.ok.cab x c Y F).trans C]
  ·by_cases W:j=i
   ·subst W
    rw[hi] at C;cases C
    rw[Qyq R] at K
    cases K
    show#[u,r,.inr #[.inl P,c,F,a2]]
   ·rw[QKq (Ne.symm W)] at K
    let#[u',r',q]:=hl j y v' C K e3
    show#[u',r',?_]
    rcases q with q|⟨k,c',e,z'⟩
    ·show .inl q
    ·show .inr #[k,c',e,z'.sameBut l ?_]
     rintro rfl
     show W<|yj hN C (I.ok.inj _ _ _ e F▸hi)
  ·by_cases a1:c'=c
   ·subst a1;show#[_,a2]
   ·let#[w2,z2]:=I.cell y c' e
    show#[w2,z2.sameBut l a1]
  ·let#[e,n,ne,nf,d]:=I.pin p hp
   show#[(l.2 p.1 ?_).trans e,n,ne,nf,d]
   intro q
   rw[q,Z] at e
   have q':oc=p.2:=QdQ e
   show d w' (by rw[<-q'];show a0)
def lP{E:X0}{Q:Unit->Shared->Prop}(I:Inv X f g H s)(c:X.N.Nodup)(hi:X.N[i]?=some x)(d:Loc X.env.scope x)(r:RelV v u)
  (h:∀s',Inv X f (g.set i<|some v) H s'->Q () s') (a:autoParam (X.fn x=true\/X.env.scope.names.lookup x=some .local) cU._auto_1):wpAny M A (storeName X.env x u) Q E s:=
 D5 I c hi d r (λs' b _=>h s' b) a
def Inv.call'{s':X4}(I:Inv X f g H s)(h:s'.os=s.os)(u:Un (EZ X.stack) ch H B s.heap s'.heap)(a:ou X.prog X.w B s'.heap)(i:AllBare s'.gens)
  (d:∀b∈ch,(b∈X.ex\/X.s₀.heap.objs.size<=b)/\b≠X.env.locals/\(∀x c,X.env.cells.lookup x=some c->c≠b)/\∀p∈X.pn++f,p.1≠b):Inv X f g B s':=by
 let#[h',g',d',t',j]:=s'
 have e:j=s.os:=h
 subst e
 show I.call (g':=g') (t':=t') (d':=d') u a i d
abbrev XK:=Value->Option Addr->Hp->Prop
abbrev St:=List (Option V)
abbrev VK:=V->Hp->Prop
abbrev TE:=St->Hp->VK->Prop
abbrev TT:=St->Hp->(Bool->Hp->Prop)->Prop
abbrev TA:=St->Hp->(List V->Hp->Prop)->Prop
structure Ends where
 nx:St->Hp->Prop
 rt:VK
 bk:St->Hp->Prop:=λ_ _=>False
 ct:St->Hp->Prop:=λ_ _=>False
abbrev TS:=Ends->St->Hp->Prop
def EP(X:Cx)(a:X2)(c:St)(Q:VK)(u:Xd)(s':X4):Prop:=∃v b,Inv X a c b s'/\RelV v u/\Q v b
def TP(X:Cx)(a:X2)(d:St)(Q:Bool->Hp->Prop)(b:Bool)(s':X4):Prop:=∃c,Inv X a d c s'/\Q b c
def AP(X:Cx)(a:X2)(e:St)(Q:List V->Hp->Prop)(d:X5)(s':X4):Prop:=∃b c,Inv X a e c s'/\bL b d/\Q b c
def SP(X:Cx)(b:X2)(D:Ends)(f:Flow)(s':X4):Prop:=
 match f with
 |.next=>∃a c,Inv X b a c s'/\D.nx a c
 |.brk=>∃a c,Inv X b a c s'/\D.bk a c
 |.cont=>∃a c,Inv X b a c s'/\D.ct a c
 |.ret u=>∃v a c,Inv X b a c s'/\RelV v u/\D.rt v c
def PE(X:Cx)(e:Expr)(t:TE):Prop:=
 ∀(a:X2) (s:X4) (b:St) (H:Hp) (Q:VK),Inv X a b H s->t b H Q->wpAny (model X.prog X.w) X.A (eval e X.env) (EP X a b Q) X.xe s
def PT(X:Cx)(e:Expr)(t:TT):Prop:=
 ∀(a:X2) (s:X4) (b:St) (H:Hp) (Q:Bool->Hp->Prop),Inv X a b H s->t b H Q->wpAny (model X.prog X.w) X.A (isTrue e X.env<|eval e X.env) (TP X a b Q) X.xe s
def PW(X:Cx)(e:Expr)(t:TT):Prop:=
 ∀(b:Sem Value) (a:X2) (s:X4) (c:St) (H:Hp) (Q:Bool->Hp->Prop),Inv X a c H s->t c H Q->wpAny (model X.prog X.w) X.A (isTrue e X.env b) (TP X a c Q) X.xe s
def PW.pt(h:PW X e t):PT X e t:=h _
def PA(X:Cx)(es:List Expr)(t:TA):Prop:=
 ∀(b:Pos) (a:X2) (s:X4) (c:St) (H:Hp) (Q:List V->Hp->Prop),Inv X a c H s->t c H Q->wpAny (model X.prog X.w) X.A (spliced<|backTo b<|starEach es X.env) (AP X a c Q) X.xe s
def PS(X:Cx)(st:Stmt)(t:TS):Prop:=
 ∀(a:X2) (s:X4) (b:St) (H:Hp) (D:Ends),Inv X a b H s->t D b H->wpAny (model X.prog X.w) X.A (exec st X.env) (SP X a D) X.xe s
def qY(X:Cx)(st:List Stmt)(t:TS):Prop:=
 ∀(a:X2) (s:X4) (b:St) (H:Hp) (D:Ends),Inv X a b H s->t D b H->wpAny (model X.prog X.w) X.A (execs st X.env) (SP X a D) X.xe s
def cE{Q b:α->Shared->Prop}{E:X0}(h:wpAny M A t Q E s)(c:∀a s,Q a s->b a s):wpAny M A t b E s:=QRq h c λ_ _ x=>x
def LB(i:Nat):TE:=λa H Q=>∃v,a[i]?=some (some v)/\Q v H
def tC(v:V):TE:=λ_ H Q=>Q v H
def Fx{X:Cx}(p:X.N[i]?=some x)(w:G0 X.env.scope x)(j:autoParam ((x==("__debug__":Str))=false) cV._auto_1)(k:autoParam ((x==("__classdict__":Str))=false) cV._auto_1):PE X (.Name x f) (LB i):=by
 intro g s o H Q I h
 let#[v,e,h]:=h
 let#[m,q,hl]:=I.loc
 let#[u,r,l]:=hl i x v p e w
 have b:EP X g o Q u s:=#[v,H,I,r,h]
 rcases l with⟨d,t⟩|⟨d,c,n,a⟩
 ·show wpAny_Name (wpAny_loadName_local I.ok.kind d q t b) j
 ·rcases d with d|d
  ·show wpAny_Name (wpAny_loadName_cell I.ok.kind d n a b) j
  ·show wpAny_Name (wpAny_loadName_free I.ok.kind d n a b k) j
def LM{i j f}:PE X (.Constant (.int i) j f) (tC<|.int i):=λ_ _ _ H _ I h=>wpAny_Constant_int #[.int i,H,I.tok _,#[_,L],h]
def NG{b j f}:PE X (.Constant (.bool b) j f) (tC<|.bl b):=λ_ _ _ H _ I h=>Constant_bool #[.bl b,H,I,L,h]
def K_{j f}:PE X (.Constant .none j f) (tC .non):=λ_ _ _ H _ I h=>Constant_none #[.non,H,I,L,h]
def KP{x j f}:PE X (.Constant (.str x) j f) (tC<|.str x):=λ_ _ _ H _ I h=>Calls.Constant_str #[.str x,H,I.tok _,#[_,L],h]
def Gl(X:Cx)(x:Str):Prop:=X.env.kindOf x=some .globalImplicit
def xT{E:X0}{Q:X0}(I:Inv X a e H s)(d:Gl X x)(c:X.mg x=some u)(h:Q u s)
  (b:autoParam ((x==("__debug__":Str))=false) cV._auto_1):wpAny (model X.prog X.w) X.A (eval (.Name x f) X.env) Q E s:=
 Calls.Name_function_global I.ok.kind d (Calls.loadGlobal_global (by rw[I.ok.glob];show I.mod.glob.keeps I.bk) c h) b
def jh{E:X0}{Q:X0}(I:Inv X a g H s)(d:Gl X x)(j:X.mg x=none)(k:bootBuiltins x=some u)(h:Q u s)
  (i:autoParam (x≠"__name__") cV._auto_1) (b:autoParam ((x==("__debug__":Str))=false) cV._auto_1):wpAny (model X.prog X.w) X.A (eval (.Name x f) X.env) Q E s:=by
 let#[l,e,c]:=I.mod.blt
 show Calls.Name_function_global I.ok.kind d (Calls.loadGlobal_builtin (by rw[I.ok.glob];show I.mod.glob.keeps I.bk) j (by rw[I.ok.blt];show e.keeps I.bk) ((c x i).trans k) h) b
def Cw(c:Gl X x)(b:X.mg x=some u)(r:RelV v u)(a:autoParam ((x==("__debug__":Str))=false) cV._auto_1):PE X (.Name x f) (tC v):=
 λ_ _ _ H _ I h=>xT I c b #[v,H,I,r,h] a
def HN(d:Gl X x)(b:X.mg x=none)(c:bootBuiltins x=some u)(r:RelV v u)(e:autoParam (x≠"__name__") cV._auto_1)(a:autoParam ((x==("__debug__":Str))=false) cV._auto_1):PE X (.Name x f) (tC v):=
 λ_ _ _ H _ I h=>jh I d b c #[v,H,I,r,h] e a
def PC(X:Cx)(op:CmpOp)(a b:Expr)(t:TE):Prop:=
 ∀ (c:X2) (s:X4) (g:St) (H:Hp) (Q:VK),Inv X c g H s->t g H Q->
   wpAny (model X.prog X.w) X.A (eval a X.env) (λv e=>wpAny (model X.prog X.w) X.A (eval b X.env) (λu d=>wpAny (model X.prog X.w) X.A (compareOp op v u) (EP X c g Q) X.xe d) X.xe e) X.xe s
def tB(t:TE):TT:=λd H Q=>t d H λx H1=>∃c,x=.bl c/\Q c H1
def Bo(h:PC X op a b t)(g:autoParam (behindInMarks op b=false) cY._auto_1):PT X (.Compare a [op] [b] f) (tB t):=by
 intro e s o H Q I n
 show wpAny_isTrue_Compare1 (cE (h e s o H _ I n) λv w g=>cE g λu r i=>cE i λc y ⟨x,H1,l,j,m⟩=>?_) g
 let#[d,rfl,q]:=m
 cases j
 show wpAny_truthy_bool #[H1,l,q]
def OS(t u:TT):TT:=λd H Q=>t d H λc H1=>if c=true then u d H1 Q else Q false H1
def Q4(t u:TT):TT:=λd H Q=>t d H λc H1=>if c=true then Q true H1 else u d H1 Q
def P3(t:TT):TT:=λd H Q=>t d H λc H1=>Q (!c) H1
def Ia(i:PT X a n):PW X (.BoolOp .And [a] f) n:=by
 intro l d s j H Q I h
 show isTrue_and (cE (i d s j H Q I h) λc m e=>?_)
 cases c with
 |true=>show isTrue_and_nil e
 |false=>show e
def KI(i:PT X a n):PW X (.BoolOp .Or [a] f) n:=by
 intro l d s j H Q I h
 show isTrue_or (cE (i d s j H Q I h) λc m e=>?_)
 cases c with
 |false=>show isTrue_or_nil e
 |true=>show e
def KF(l:PT X a n)(r:PW X (.BoolOp .And (b::g) f) o):PW X (.BoolOp .And (a::b::g) f) (OS n o):=by
 intro m d s j H Q I h
 show isTrue_and (cE (l d s j H _ I h) λc q t=>?_)
 let#[H1,i,e]:=t
 cases c with
 |true=>show r m d q j H1 Q i e
 |false=>show#[H1,i,e]
def NJ(l:PT X a n)(r:PW X (.BoolOp .Or (b::g) f) o):PW X (.BoolOp .Or (a::b::g) f) (Q4 n o):=by
 intro m d s j H Q I h
 show isTrue_or (cE (l d s j H _ I h) λc q t=>?_)
 let#[H1,i,e]:=t
 cases c with
 |true=>show#[H1,i,e]
 |false=>show r m d q j H1 Q i e
def Ke(e:PT X a n):PT X (.UnaryOp .Not a f) (P3 n):=by
 intro d s i H Q I h
 show isTrue_not<|e d s i H (λc H1=>Q (!c) H1) I h
def MG(k p:TE):TE:=λd H Q=>k d H λx H1=>∃c,x=.bl c/\if c=true then p d H1 Q else Q (.bl false) H1
def Nq(k:TE):TE:=λd H Q=>k d H λx H1=>∃c,x=.bl c/\Q (.bl (!c)) H1
def Kw{op}{t:TE}(h:PE X a t):PE X (.BoolOp op [a] f) t:=λc s e H Q I d=>BoolOp_one (h c s e H Q I d)
def JT(t:PE X a k)(m:PE X (.BoolOp .And (b::g) f) p):PE X (.BoolOp .And (a::b::g) f) (MG k p):=by
 intro d s j H Q I h
 show BoolOp_and (cE (t d s j H _ I h) λv q r=>?_)
 let#[x,H1,i,l,e]:=r
 let#[c,rfl,e]:=e
 cases l
 show wpAny_truthy_bool ?_
 cases c with
 |true=>show m d q j H1 Q i e
 |false=>show#[.bl false,H1,i,L,e]
def Lw(i:PE X a k):PE X (.UnaryOp .Not a f) (Nq k):=by
 intro d s q H Q I h
 show UnaryOp_ (cE (i d s q H _ I h) λv r m=>?_)
 let#[x,H1,l,j,e]:=m
 let#[c,rfl,e]:=e
 cases j
 show not_of<|wpAny_truthy_bool #[.bl (!c),H1,l,L,e]
def Q7(t:TT)(k p:TE):TE:=λd H Q=>t d H λc H1=>if c=true then k d H1 Q else p d H1 Q
def FF(u:PT X c n)(q:PE X a k)(r:PE X b p):PE X (.IfExp c a b f) (Q7 n k p):=by
 intro e s i H Q I h
 show wpAny_IfExp (cE (u e s i H _ I h) λd l t=>?_)
 let#[H1,m,j]:=t
 cases d with
 |true=>show q e l i H1 Q m j
 |false=>show r e l i H1 Q m j
def i8(K:X1)(H:Hp)(a:X8)(xs:List V):Prop:=
 Rd H a (.lst xs)∨
  ∃(o:Obj) (b:Xa) (n:Nat),K.lookup a=some o/\o.cls=.type "list" /\o.dict=none/\o.data=.seq b n/\b.size<=sizeLine/\bL xs b.toList
def iJ(K:X1)(H:Hp)(a:X8)(xs:List V):Prop:=
 Rd H a (.tup xs)∨
  ∃(o:Obj) (b:Xa) (n:Nat),K.lookup a=some o/\o.cls=.type "tuple" /\o.data=.seq b n/\b.size<=sizeLine/\bL xs b.toList
noncomputable def Qd:Value->Option V
 |.none=>some .non
 |.bool b=>some (.bl b)
 |.int i _=>some (.int i)
 |.str x _=>some (.str x)
 |.bytes b _=>some (.byt b)
 |.float b _=>some (.flt b)
 |.ref a=>some (.ref a)
 |.type n=>some (.ty n)
 |_=>none
def RelV.abs(r:RelV x u):Qd u=some x:=by
 cases x with
 |non=>cases r;rfl
 |bl _=>cases r;rfl
 |int _=>let#[t,rfl]:=r;rfl
 |str _=>let#[t,rfl]:=r;rfl
 |byt _=>let#[t,rfl]:=r;rfl
 |flt _=>let#[t,rfl]:=r;rfl
 |ref _=>cases r;rfl
 |ty _=>cases r;rfl
def RelV.inj(r:RelV x u)(q:RelV y u):x=y:=QdQ (r.abs.symm.trans q.abs)
theorem bL.inj:∀{xs ys:List V} {a:X5},bL xs a->bL ys a->xs=ys
 |_,_,_,.nil,.nil=>rfl
 |_,_,_,.cons r t,.cons r' t'=>by rw[r.inj r',bL.inj t t']
def i8.of{H:Hp}{a:X8}{xs:List V}{K:X1}(h:H a=some (.lst xs)):i8 K H a xs:=.inl (.inl h)
def iJ.of{H:Hp}{a:X8}{xs:List V}{K:X1}(h:H a=some (.tup xs)):iJ K H a xs:=.inl (.inl h)
def Inv.list(I:Inv X b c H s)(h:i8 X.K H a xs):∃d:List Value,bL xs d/\PlainL s.heap a d.toArray/\xs.length<=sizeLine:=by
 rcases h with h|⟨o,d,n,g,j,f,i,k,r⟩
 ·let#[z,d,n,r,e]:=h.ok I.hok
  show#[d,r,#[_,n,e,L,L,L],z]
 ·show#[d.toList,r,#[o,n,I.kIn a o g,j,f,by simpa using i],?_]
  let e:=r.length
  erw[Array.length_toList] at e
  omega
def Inv.tuple(I:Inv X b c H s)(h:iJ X.K H a xs):∃d:List Value,bL xs d/\IsTup s.heap a d.toArray/\xs.length<=sizeLine:=by
 rcases h with h|⟨o,d,n,f,i,g,j,r⟩
 ·let#[z,d,r,p]:=h.ok I.hok
  show#[d,r,p.it,z]
 ·show#[d.toList,r,#[o,I.kIn a o f,i,n,by simpa using g],?_]
  let e:=r.length
  erw[Array.length_toList] at e
  omega
def Inv.list_inj(I:Inv X b c H s)(h:i8 X.K H a xs)(h':i8 X.K H a ys):xs=ys:=by
 let#[g,r,#[o,n,e,_,_,d],_]:=I.list h
 let#[f,k,#[p,m,j,_,_,i],_]:=I.list h'
 rw[e] at j;cases j
 rw[d] at i
 injection i with l _
 have:g=f:=by simpa using congrArg Array.toList l
 subst this
 show r.inj k
def Inv.tuple_inj(I:Inv X b c H s)(h:iJ X.K H a xs)(h':iJ X.K H a ys):xs=ys:=by
 let#[g,r,#[o,e,_,n,d],_]:=I.tuple h
 let#[f,k,#[p,j,_,m,i],_]:=I.tuple h'
 rw[e] at j;cases j
 rw[d] at i
 injection i with l _
 have:g=f:=by simpa using congrArg Array.toList l
 subst this
 show r.inj k
noncomputable abbrev Cx.wish(X:Cx)(E:X0):Cx:={X with xe:=E}
noncomputable abbrev Cx.nox(X:Cx):Cx:=X.wish λ_ _=>False
def Cx.Ok.wish{X:Cx}(ok:X.Ok)(E:X0):(X.wish E).Ok:=
 #[ok.mod,ok.kind,ok.glob,ok.blt,ok.above,ok.inj,ok.has,ok.cab,ok.hd,ok.frames,ok.stk,ok.exf,ok.bs,ok.bsz,ok.noex,ok.exfs,ok.funs,ok.frf]
def Cx.Ok.unwish{X:Cx}{E:X0}(ok:(X.wish E).Ok):X.Ok:=
 #[ok.mod,ok.kind,ok.glob,ok.blt,ok.above,ok.inj,ok.has,ok.cab,ok.hd,ok.frames,ok.stk,ok.exf,ok.bs,ok.bsz,ok.noex,ok.exfs,ok.funs,ok.frf]
def Inv.wish(I:Inv X a b H s)(E:X0):Inv (X.wish E) a b H s:=#[I.ok.wish E,I.os,I.bare,I.base,I.loc,I.cell,I.free,I.freeC,I.pin,I.hok,I.len]
def Inv.unwish{X:Cx}{E:X0}(I:Inv (X.wish E) a b H s):Inv X a b H s:=#[I.ok.unwish,I.os,I.bare,I.base,I.loc,I.cell,I.free,I.freeC,I.pin,I.hok,I.len]
theorem SP.unwish{X:Cx}{E:X0}{D:Ends}(h:SP (X.wish E) a D f s'):SP X a D f s':=by
 cases f with
 |next=>let#[c,d,I,q]:=h;show#[c,d,I.unwish,q]
 |brk=>let#[c,d,I,q]:=h;show#[c,d,I.unwish,q]
 |cont=>let#[c,d,I,q]:=h;show#[c,d,I.unwish,q]
 |ret u=>let#[v,c,d,I,r,q]:=h;show#[v,c,d,I.unwish,r,q]
def qY.nox{X:Cx}{st:List Stmt}{t:TS}(h:qY X.nox st t):qY X st t:=λa s b H D I c=>
 QRq (h a s b H D (I.wish _) c) (λ_ _ q=>q.unwish) λ_ _ z=>False.elim z
def M7:TS:=λD a H=>D.nx a H
def O0(t u:TS):TS:=λD a H=>t {D with nx:=u D} a H
def Hk:qY X [] M7:=λ_ _ a H _ I h=>wpAny_execs_nil #[a,H,I,h]
def Eu{X:Cx}{st:Stmt}{j:List Stmt}{t:TS}{u:TS}(d:PS X st t)(c:qY X j u):qY X (st::j) (O0 t u):=by
 intro a s n H D I h
 show wpAny_execs_cons (cE (d a s n H {D with nx:=u D} I h) λf l q=>?_)
 cases f with
 | next=>
   let#[b,m,k,q]:=q
   show c a l b m D k q
 |ret v=>show q
 |brk=>show q
 |cont=>show q
def Hh{X:Cx}{st:Stmt}{t:TS}(b:PS X st t):qY X [st] t:=by
 intro a s c H D I h
 show wpAny_execs_cons (cE (b a s c H D I h) λf d q=>?_)
 cases f with
 |next=>show wpAny_execs_nil q
 |ret v=>show q
 |brk=>show q
 |cont=>show q
def Inv.quiet(I:Inv X a b H s):interactive X.env=false:=by simp[interactive,I.ok.kind]
def NA(i:TE):TS:=λD a H=>i a H λ_ H1=>D.nx a H1
def HX{g:Pos}(he:PE X e i)(d:autoParam (swapsWith e none g.line X.env=pure false) db._auto_1):PS X (.Expr e g) (NA i):=by
 intro a s b H D I h
 show wpAny_Expr_any (cE (he a s b H _ I h) λv l ⟨x,H1,f,k,c⟩=>#[b,H1,f,c]) I.quiet d
def Py(i:TE):TS:=λD a H=>i a H D.rt
def E1(he:PE X e i):PS X (.Return (some e) g) (Py i):=by
 intro a s b H D I h
 show wpAny_Return_some (cE (he a s b H _ I h) λv k ⟨x,H1,f,c,d⟩=>#[x,b,H1,f,c,d])
def P6(c:TT)(t u:TS):TS:=λD a H=>c a H λb H1=>if b=true then t D a H1 else u D a H1
def N9(v:PT X c m)(r:qY X a t)(p:qY X b u):PS X (.If c a b g) (P6 m t u):=by
 intro f s k H D I h
 show wpAny_If (cE (v f s k H _ I h) λd o q=>?_)
 let#[H1,l,n]:=q
 cases d with
 |true=>show r f o k H1 D l n
 |false=>show p f o k H1 D l n
def J8:TS:=λ_ _ _=>False
def EF{X:Cx}{st:Stmt}:PS X st J8:=λ_ _ _ _ _ _ h=>h.elim
abbrev TG:=V->St->Hp->(St->Hp->Prop)->Prop
abbrev Io:=List V->St->Hp->(St->Hp->Prop)->Prop
def PG(X:Cx)(a:Expr)(t:TG):Prop:=
 ∀ (b:X2) (s:X4) (e:St) (H:Hp) (v:V) (u:Xd) (Q:St->Hp->Prop),Inv X b e H s->RelV v u->t v e H Q->
   wpAny (model X.prog X.w) X.A (assign a X.env u) (λ_ f=>∃c d,Inv X b c d f/\Q c d) X.xe s
def EM(X:Cx)(ts:List Expr)(t:Io):Prop:=
 ∀ (a:X2) (s:X4) (f:St) (H:Hp) (d:List V) (c:X5) (Q:St->Hp->Prop),Inv X a f H s->bL d c->t d f H Q->
   wpAny (model X.prog X.w) X.A (assignInOrder ((assignEach ts X.env).map (·.2)) c) (λ_ g=>∃b e,Inv X a b e g/\Q b e) X.xe s
abbrev Lg:=V->V->V->Hp->(Hp->Prop)->Prop
def NR(X:Cx)(t:Lg):Prop:=
 ∀ (a:X2) (s:X4) (e:St) (H:Hp) (o i v:V) (d b u:Xd) (Q:Hp->Prop),Inv X a e H s->RelV o d->RelV i b->RelV v u->t o i v H Q->
   wpAny (model X.prog X.w) X.A (setItem d b u) (λ_ f=>∃c,Inv X a e c f/\Q c) X.xe s
abbrev Ol:=V->V->Hp->VK->Prop
def QD(X:Cx)(op:Operator)(t:Ol):Prop:=
 ∀ (a:X2) (s:X4) (b:St) (H:Hp) (x y:V) (v u:Xd) (Q:VK),Inv X a b H s->RelV x v->RelV y u->t x y H Q->
   wpAny (model X.prog X.w) X.A (inplaceOp op v u) (EP X a b Q) X.xe s
def oD(i:Nat):TG:=λv a H Q=>Q (a.set i<|some v) H
def xZ{X:Cx}(e:X.N.Nodup)(hi:X.N[i]?=some x)(f:Loc X.env.scope x)(b:autoParam (X.fn x=true\/X.env.scope.names.lookup x=some .local) cU._auto_1):PG X (.Name x d) (oD i):=by
 intro a s j H v u Q I r h
 show wpAny_assign_Name<|lP I e hi f r (λg c=>#[_,H,c,h]) b
def Pg:Io:=λb a H Q=>b= []/\Q a H
def Np(t:TG)(u:Io):Io:=λb e H Q=>∃v r,b=v::r/\t v e H λa c=>u r a c Q
def Iu:EM X [] Pg:=by
 intro a s b H f c Q I r h
 let#[e,h]:=h
 subst e
 cases r
 show assignInOrder_nil #[b,H,I,h]
def GM(i:PG X e t)(c:EM X es u)
  (l:autoParam ((assignEach (e::es) X.env).map (·.2)=assign e X.env::(assignEach es X.env).map (·.2)) db._auto_1):EM X (e::es) (Np t u):=by
 intro a s n H p w Q I r h
 let#[v,q,o,h]:=h
 subst o
 cases r with
 | cons r j=>
   rw[l]
   show assignInOrder_cons (cE (i a s n H _ _ _ I r h) λ_ k m=>?_)
   let#[b,H1,f,g]:=m
   show c a k b H1 _ _ Q f j g
def PP(K:X1)(n:Nat)(t:Io):TG:=λv c H Q=>∃a b,v=.ref a/\iJ K H a b/\b.length=n/\t b c H Q
def Lq{X:Cx}(B:X.calm=true)(h:EM X es t)
  (y:autoParam ((assignEach es X.env).length=n) db._auto_1) (f:autoParam ((assignEach es X.env).findIdx? (·.1)=none) db._auto_1):PG X (.Tuple es k d) (PP X.K n t):=by
 intro c s j H v u Q I r g
 let#[a,x,A,q,hl,g]:=g
 subst A
 cases r
 let#[w,i,l,C]:=I.tuple q
 show assign_Tuple_tuple (I.ok.hd B) l (by simp[y,<-hl,i.length]) f λp z=>?_
 have m:Inv X c j H {s with heap:=p}:=I.kept (t':=s.toks) λb o e=>z b o (Qwq<|Qiq e) e
 show h c _ j H x _ Q m (by simpa using i) g
def N4(c b:TE)(t:Lg):TG:=λv a H Q=>c a H λo H1=>b a H1 λi H2=>t o i v H2 λH3=>Q a H3
def JQ(z:PE X o g)(hi:PE X i j)(B:NR X t)
  (F:autoParam (∀v,assign (.Subscript o i d) X.env v=(do
   let b<-holding [v] (eval o X.env)
   let e<-holding [v,b] (eval i X.env)
   standAt d
   holding [v,b,e] (setItem b e v)
   release [v,b,e] [])) dl._auto_1):PG X (.Subscript o i d) (N4 g j t):=by
 intro a s f H v u Q I r h
 rw[F]
 show Qaq<|QLq (cE (z a s f H _ I h) λb A c=>?_)
 let#[x,H1,l,k,p]:=c
 show Qaq<|QLq (cE (hi a A f H1 _ l p) λe n c=>?_)
 let#[y,H2,w,C,G]:=c
 show Qaq<|wpAny_standAt<|Qaq<|QLq (cE (B a n f H2 x y v b e u _ w k C r G) λ_ J c=>?_)
 let#[H3,m,q]:=c
 show wpAny_release #[f,H3,m,q]
def Df(b:TE)(g:TG):TS:=λD a H=>b a H λx H1=>g x a H1 D.nx
def KG{d:Pos}(he:PE X e c)(j:PG X b g)(p:autoParam (swapsWithSole [b] e d.line X.env=pure false) db._auto_1)(n:autoParam (swappedStores [b] e X.env=pure none) db._auto_1)
  (m:autoParam ((assignEach [b] X.env).map (·.2)= [assign b X.env]) db._auto_1):PS X (.Assign [b] e d) (Df c g):=by
 intro a s f H D I h
 show wpAny_Assign_stores (cE (he a s f H _ I h) λv o ⟨x,H1,k,i,l⟩=>?_) p n
 rw[m]
 show cE (j a o f H1 x v _ k i l) λ_ r q=>q
def LJ{X:Cx}{d:Pos}(o:X.N.Nodup)(hi:X.N[i]?=some x)(p:Loc X.env.scope x)(he:PE X e c)(m:autoParam (swapsWith e (some<|.Name x a) d.line X.env=pure false) db._auto_1)(l:autoParam (X.fn x=true\/X.env.scope.names.lookup x=some .local) cU._auto_1):
  PS X (.Assign [.Name x a] e d) (Df c<|oD i):=by
 intro b s n H D I h
 show wpAny_Assign_Name (cE (he b s n H _ I h) λv r ⟨y,H1,g,f,j⟩=>?_) m
 show lP g o hi p f (λq k=>#[_,H1,k,j]) l
def MH(i j:Nat)(c:TA):TS:=λD a H=>c a H λb H1=>∃v w,b= [v,w]/\D.nx ((a.set i<|some v).set j (some w)) H1
def wM{X:Cx}{d:Pos}{i j:Nat}{x y:Str}{a b:Expr}{B:TA}{m u r:Pos}{kt k2 pt2}(hc:X.calm=true)(J:X.N.Nodup)(hi:X.N[i]?=some x)(hj:X.N[j]?=some y)(n:i≠j)
  (F:X.env.scope.names.lookup x=some .local) (C:X.env.scope.names.lookup y=some .local) (ha:PA X [a,b] B)
  (S:swappedStores [.Tuple [.Name x m,.Name y u] kt r] (.Tuple [a,b] k2 pt2) X.env=pure (some [x,y]))
  (U:autoParam (swapsWithSole [.Tuple [.Name x m,.Name y u] kt r] (.Tuple [a,b] k2 pt2) d.line X.env=pure false) db._auto_1):
  PS X (.Assign [.Tuple [.Name x m,.Name y u] kt r] (.Tuple [a,b] k2 pt2) d) (MH i j B):=by
 intro c s G H D I h
 rw[exec_Assign_arm]
 show Qaq<|wpAny_standAt ?_
 rw[U]
 show Qaq<|Qgq ?_
 rw[Quq (!1)]
 show Qaq<|Tuple_ (cE (ha _ c s G H _ I h) λY k W=>?_)
 let#[vs,H1,P,K,t]:=W
 let#[v,w,Z,t]:=t
 subst Z
 obtain⟨g,f,rfl,rv,rw'⟩:∃g f,Y= [g,f]/\RelV v g/\RelV w f:=by
  cases K with
  | cons p q=>
    cases q with
    | cons p' q'=>
      cases q'
      show#[_,_,L,p,p']
 show QhQ ?_ (by show 2<=_;decide)
 have R:Inv X c G H1 {k with heap:=k.heap.push {cls:=.type "tuple",data:=.seq [g,f].toArray}}:=P.kept (t':=k.toks) λb o e=>Qcq _ e
 rw[S]
 show Qaq<|Qgq ?_
 show wpAny (model X.prog X.w) X.A (do rule "assign.swapped-stores";let items<-unpackItems (.ref k.heap.objs.size) 2 none;assignInOrder [λv=>bindName X.env y v,λv=>bindName X.env x v] items.reverse;pure Flow.next) _ _ _
 show Qaq<|wpAny_rule<|Qaq (unpackItems_tuple (items:= (List.toArray [g,f])) (I.ok.hd hc) (IsTup.new k.heap _) λh' l=>?_)
 let Q:=R.kept (h':=h') (t':=k.toks) λb o e=>l b o (Qwq<|Qiq e) e
 show wpAny _ _ (assignInOrder [λv=>bindName X.env y v,λv=>bindName X.env x v] [f,g] >>= λ_=>pure Flow.next) _ _ _
 show Qaq<|assignInOrder_cons<|wpAny_bindName<|lP Q J hj (.inl C) rw' (λs2 M=>?_)<|.inr C
 show assignInOrder_cons<|wpAny_bindName<|lP M J hi (.inl F) rv (λs3 z=>assignInOrder_nil<|Qgq ?_)<|.inr F
 rw[List.set_comm _ _ (Ne.symm n)] at z
 show#[_,H1,z,t]
def Qb(i:Nat)(c:TE)(b:Ol):TS:=λD a H=>∃x,a[i]?=some (some x)/\c a H λy H1=>b x y H1 λz H2=>D.nx (a.set i<|some z) H2
def LV{X:Cx}(W:X.N.Nodup)(hi:X.N[i]?=some x)(p:Loc X.env.scope x)(he:PE X e t)(S:QD X op C)(R:autoParam (X.fn x=true\/X.env.scope.names.lookup x=some .local) cU._auto_1):
  PS X (.AugAssign (.Name x g) op e d) (Qb i t C):=by
 intro a s B H D I h
 let#[v,e1,h]:=h
 let#[m,Y,hl]:=I.loc
 have q:G0 X.env.scope x:=by rcases p with k|k;show .inl k;show .inr (.inl k)
 let#[u,r,l]:=hl i x v hi e1 q
 show wpAny_AugAssign_Name ?_
 have F:wpAny (model X.prog X.w) X.A (eval e X.env) (λw n=>wpAny (model X.prog X.w) X.A (inplaceOp op u w) (λr j=>wpAny (model X.prog X.w) X.A (storeName X.env x r) (λ_=>SP X a D .next) X.xe j) X.xe n) X.xe s:=by
  show cE (he a s B H _ I h) λw U o=>?_
  let#[y,H1,J,G,M]:=o
  show cE (S a U B H1 v y u w _ J r G M) λz s2 o=>?_
  let#[zv,H2,Q,Z,q2]:=o
  show lP Q W hi p Z (λs3 K=>#[_,H2,K,q2]) R
 rcases l with⟨b,hm⟩|⟨b,c,P,f⟩
 ·show wpAny_loadName_local I.ok.kind b Y hm F
 ·rcases b with b|b
  ·show wpAny_loadName_cell I.ok.kind b P f F
  ·rcases p with k|k
   ·have:X.env.scope.names.lookup x=some .free:=b
    rw[k] at this;cases this
   ·have:X.env.scope.names.lookup x=some .free:=b
    rw[k] at this;cases this
def Q1(f:Int->Int->Int):Ol:=λx y H Q=>∃i j,x=.int i/\y=.int j/\Q (.int (f i j)) H
def LI:QD X .Add (Q1 λi j=>i+j):=by
 intro a s k H x y v u Q I b e h
 let#[i,j,f,c,q]:=h
 subst f;subst c
 let#[t,rfl]:=b
 let#[g,rfl]:=e
 show iadd_int #[.int _,H,I.tok _,#[_,L],q]
def Ko(c:TT)(h:TS):TS:=λD d H=>∃W:Nat->St->Hp->Prop,(∃m,W m d H)/\∀m d H,W m d H->
 c d H λb H1=>if b=true then∃N:St->Hp->Prop,(∀e g,N e g->∃f,f<m/\W f e g)/\h {D with nx:=N,ct:=N,bk:=D.nx} d H1 else D.nx d H1
def Gy{X:Cx}(z:PassesOwn (model X.prog X.w) X.A X.env X.xe)(Y:PT X c u)(J:qY X i y):PS X (.While c i [] a) (Ko u y):=by
 intro e s U H D I h
 let#[W,#[P,Q],k]:=h
 show wpAny_While<|codeAny_whileLoop (λn F=>∃j B,Inv X e j B F/\W n j B) ?_ P #[U,H,I,Q]
 rintro n R ⟨g,H1,K,G⟩
 show wpAny_passesOwn z (cE (Y e R g H1 _ K<|k n g H1 G) λb M S=>?_)
 let#[H2,x,m]:=S
 cases b with
 | true=>
   let#[N,C,m]:=m
   rw[Qhq L]
   show wpAny_passesOwn z (cE (J e M g H2 _ x m) λf Z l=>?_)
   cases f with
   | next=>
     let#[d,H3,q,p]:=l
     let#[r,t,o]:=C d H3 p
     show#[r,t,d,H3,q,o]
   | cont=>
     let#[d,H3,q,p]:=l
     let#[r,t,o]:=C d H3 p
     show#[r,t,d,H3,q,o]
   |brk=>show l
   |ret v=>show l
 | false=>
   rw[Quq Qtq]
   show wpAny_execs_nil #[g,H2,x,m]
structure It where
 go:Nat->Hp->Prop
 yld:Nat->Hp->V->Hp->Prop
 stop:Nat->Hp->Prop
def qB(X:Cx)(a:X2)(H:Hp)(b:X8):Prop:=
 H b=none/\b≠X.env.locals/\b∉X.fs/\(b∈X.ex\/X.s₀.heap.objs.size<=b)/\(∀x c,X.env.cells.lookup x=some c->c≠b)/\∀p∈X.pn++a,p.1≠b
def Inv.fpOk{H f:Hp}(I:Inv X a h H s)(d:s.heap.objs.size<=b)(i:f b=none):qB X a f b:=by
 show#[i,Nat.ne_of_gt<|Qqq I.lt d,I.nofs d,.inr (QAq I.sz d),λx c e z=>?_,λp g z=>?_]
 ·let#[v,q]:=I.cell x c e
  show absurd (Qqq q.lt (by rw[z];show d))<|Nat.lt_irrefl _
 ·show absurd (Qqq (Qiq (I.pin p g).1) (by rw[z];show d))<|Nat.lt_irrefl _
structure Turn(P:X9)(w:Xc)(K:X1)(tg:Expr)(J:It)(fp:X7)(it:X8)(tn:Nat->Heap->Prop):Prop where
 mem:it∈fp
 obj:∀i h,tn i h->∀b∈fp,∃o,h.get? b=some o/\∀v,o.data≠.cell v
 keep:∀i h h',tn i h->(∀b∈fp,∀o,h.get? b=some o->h'.get? b=some o)->tn i h'
 item:∀(X:Cx),X.prog=P->X.w=w->X.K=K->X.calm=true->∀(i:Nat) (pins:X2) (s:X4) (σ:St) (H:Hp) (E:X0),Inv X pins σ H s->(∀b∈fp,qB X pins H b)->tn i s.heap->J.go i H->
  wpAny (model P w) X.A (pyNext (.ref it)) (λr s1=>∃u,r=some u∧
   wpAny (model P w) X.A (letOwnedTupleGo tg (.ref it) u) (λ_ s2=>∃x H',Inv X pins σ H' s2/\RelV x u/\J.yld i H x H'/\tn (i+1) s2.heap/\∀b∈fp,H' b=none) E s1) E s
 done:∀(X:Cx),X.prog=P->X.w=w->X.K=K->X.calm=true->∀(i:Nat) (pins:X2) (s:X4) (σ:St) (H:Hp) (E:X0),Inv X pins σ H s->(∀b∈fp,qB X pins H b)->tn i s.heap->J.stop i H->
  wpAny (model P w) X.A (pyNext<|.ref it) (λr s1=>r=none/\Inv X pins σ H s1) E s
 self:∀(A:X_) (i:Nat) (s:X4) (Q:X0) (E:X0),tn i s.heap->Q (.ref it) s->wpAny (model P w) A (pyIter<|.ref it) Q E s
abbrev TI:=St->Hp->(It->Hp->Prop)->Prop
def Ql(X:Cx)(a:X2)(j:St)(i:Expr)(R:It->Hp->Prop)(c:Xd)(g:X4):Prop:=
 ∃(e:X8) (h:X7) (f:Nat->Heap->Prop) (J:It) (d:Hp),c=.ref e/\Inv X a j d g/\Turn X.prog X.w X.K i J h e f/\f 0 g.heap/\(∀b∈h,qB X a d b)/\R J d
def PI(X:Cx)(e b:Expr)(d:TI):Prop:=
 ∀ (a:X2) (s:X4) (c:St) (H:Hp) (R:It->Hp->Prop),Inv X a c H s->d c H R->
   wpAny (model X.prog X.w) X.A (eval b X.env) (λv f=>wpAny (model X.prog X.w) X.A (pyIter v) (Ql X a c e R) X.xe f) X.xe s
def EE{E:X0}{s:X4}{Q:Unit->Shared->Prop}(d:s.heap.get? it=some o)(e:o.cls=.type n)(c:o.data=.fields vs)
    (f: ["enumerate","zip","dict_itemiterator","dict_reverseitemiterator","odict_iterator","itertools.zip_longest","itertools.pairwise"].contains n=false) (a:Q () s):wpAny M A (letOwnedTupleGo b (.ref it) u) Q E s:=by
  unfold letOwnedTupleGo
  cases b <;>first
    |show Qgq a
    |(cases u <;>first
        |show Qgq a
        |(show Qaq (wpAny_load d ?_)
          rw[e,c]
          show wpAny M A (if (["enumerate","zip","dict_itemiterator","dict_reverseitemiterator","odict_iterator","itertools.zip_longest","itertools.pairwise"].contains n&&vs[0]? ==some (rawInt _))=true then _ else _) Q E s
          rw[Quq (by intro h;rw[f,Bool.false_and] at h;cases h)]
          show Qgq a))
noncomputable def Qm(K:X1)(a:X8):It:=
 #[λi H=>∃b x,i8 K H a b/\b[i]?=some x,λi H x c=>c=H/\∀b,i8 K H a b->b[i]?=some x,λi H=>∃b,i8 K H a b/\b.length<=i]
noncomputable def QJ(K:X1)(a:X8):It:=
 #[λi H=>∃b x,iJ K H a b/\b[i]?=some x,λi H x c=>c=H/\∀b,iJ K H a b->b[i]?=some x,λi H=>∃b,iJ K H a b/\b.length<=i]
noncomputable def Nz(lo:Int)(n:Nat):It:=#[λi _=>i<n,λi H x a=>a=H/\x=.int (lo+i),λi _=>n<=i]
def DN{P:X9}{w:Xc}{K:X1}{tg:Expr}(a it:X8):Turn P w K tg (Qm K a) [it] it (λi h=>h.IsListIter it a i) where
 mem:=by simp
 obj:=λi h f b j=>by
  have e:b=it:=by simpa using j
  subst e
  let#[o,e,c,d]:=f
  show#[o,e,λv z=>by rw[d] at z;cases z]
 keep:=λi h m f k=>f.at λo e=>k it (by simp) o e
 item:=by
  intro X N F B S i g s R H E I q f r
  subst N F B
  let#[xs,x,n,J]:=r
  let#[A,C,p,Z]:=I.list n
  let#[u,hu,ru]:=C.get J
  let#[t,y,f2,Q,M,G]:=q it (by simp)
  show wpAny_pyNext_list_item f p.isList (x:=u) (by simpa using hu) λm l sb=>?_
  have U:Inv X g R H {s with heap:=m}:=I.turned (t':=s.toks) (λb o j e=>(sb.2 b j).trans e) t y Q M G
  let#[o,e,c,d]:=id l
  show#[u,L,EE (s:={s with heap:=m}) e c d (!1) #[x,H,U,ru,#[L,λys hy=>by rw[I.list_inj hy n];show J],l,λb j=>(q b j).1]]
 done:=by
  intro X N F B S i g s R H E I q f r
  subst N F B
  let#[xs,n,J]:=r
  let#[A,C,p,Z]:=I.list n
  let#[t,y,f2,Q,M,G]:=q it (by simp)
  let hl:=C.length
  show wpAny_pyNext_list_end (I.ok.hd S) f p.isList (by simp;omega) λm Y=>#[L,I.turned (t':=s.toks) (λb o j e=>Y b o j e) t y Q M G]
 self:=λ_ _ _ _ _ f h=>wpAny_pyIter_listiter f h
def Bm{P:X9}{w:Xc}{K:X1}{tg:Expr}(a it:X8):Turn P w K tg (QJ K a) [it] it (λi h=>h.IsTupleIter it a i) where
 mem:=by simp
 obj:=λi h f b j=>by
  have e:b=it:=by simpa using j
  subst e
  let#[o,e,c,d]:=f
  show#[o,e,λv z=>by rw[d] at z;cases z]
 keep:=λi h n f k=>f.at λo e=>k it (by simp) o e
 item:=by
  intro X N F B S i g s R H E I r f t
  subst N F B
  let#[xs,x,q,J]:=t
  let#[l,C,p,Z]:=I.tuple q
  let#[u,hu,ru]:=C.get J
  let#[y,A,f2,Q,M,G]:=r it (by simp)
  show wpAny_pyNext_tuple_item f (show s.heap.IsTuple a l.toArray from p) (x:=u) (by simpa using hu) λn m sb=>?_
  have U:Inv X g R H {s with heap:=n}:=I.turned (t':=s.toks) (λb o j e=>(sb.2 b j).trans e) y A Q M G
  let#[o,e,c,d]:=id m
  show#[u,L,EE (s:={s with heap:=n}) e c d (!1) #[x,H,U,ru,#[L,λys hy=>by rw[I.tuple_inj hy q];show J],m,λb j=>(r b j).1]]
 done:=by
  intro X N F B S i g s R H E I r f t
  subst N F B
  let#[xs,q,J]:=t
  let#[l,C,p,Z]:=I.tuple q
  let#[y,A,f2,Q,M,G]:=r it (by simp)
  let hl:=C.length
  show wpAny_pyNext_tuple_end (I.ok.hd S) f (show s.heap.IsTuple a l.toArray from p) (by simp;omega) λn Y=>#[L,I.turned (t':=s.toks) (λb o j e=>Y b o j e) y A Q M G]
 self:=λ_ _ _ _ _ f h=>wpAny_pyIter_tupleiter f h
def AW{P:X9}{w:Xc}{K:X1}{Q:Expr}(it:X8)(lo:Int)(n:Nat):Turn P w K Q (Nz lo n) [it] it (λi h=>IsRangeIter h it (lo+(i:Nat)*1) ((n:Int)-(i:Nat)) 1) where
 mem:=by simp
 obj:=λi h a b d=>by
  have e:b=it:=by simpa using d
  subst e
  show⟨_,a,λv z=>by
   have G:Data.fields _=Data.cell v:=z
   cases G⟩
 keep:=λi h g a k=>k it (by simp) _ a
 item:=by
  intro X A u q r i c s F H E I j a l
  subst A u q
  let#[m,p,R,B,y,x]:=j it (by simp)
  let W:=Walks.range (prog:=X.prog) (w:=X.w) (I.ok.hd r) it lo 1 n
  show W.item i s _ _ l a λv g C S f M=>?_
  let#[t,rfl]:=S
  have J:Inv X c F H {s with heap:=g,toks:=C}:=I.turned (λb o d e=>M b o (by simpa using d) e) m p B y x
  show#[_,L,EE (s:={s with heap:=g,toks:=C}) (n:="range_iterator") f L L (!1) #[.int (lo+i),H,J,#[t,?_],#[L,L],f,λb d=>(j b d).1]]
  rw[Int.mul_one]
 done:=by
  intro X A u q r i c s F H E I j a l
  subst A u q
  let#[m,p,R,B,y,x]:=j it (by simp)
  show wpAny_pyNext_range_end (I.ok.hd r) a (by have:n<=i:=l;omega) λg N=>#[L,I.turned (t':=s.toks) (λb o d e=>N b o d e) m p B y x]
 self:=λ_ _ _ _ _ a h=>wpAny_pyIter_rangeiter a h
def yf{X:Cx}{c:Expr}{a:X2}{g:St}{H:Hp}{s:X4}{R:It->Hp->Prop}{E:X0}{lo hi:Int}{t u v:Tok}{f:Nat}(I:Inv X a g H s)(k: -(2^62)<=lo)(h:lo<2^62)(m: -(2^62)<=hi)(j:hi<2^62)
  (q:R (Nz lo (hi-lo).toNat) H):wpAny (model X.prog X.w) X.A (pyIter<|.ref s.heap.objs.size) (Ql X a g c R) E {s with heap:=s.heap.push {cls:=.type "range",data:=.fields (List.toArray [.int lo t,.int hi u,.int 1 v])},toks:=f}:=by
 show wpAny_pyIter_range (IsRange.new ..) (small_one k h m j) ?_
 have d:Inv X a g H {s with heap:=s.heap.push {cls:=.type "range",data:=.fields (List.toArray [.int lo t,.int hi u,.int 1 v])},toks:=f}:=I.kept λb o e=>Qcq _ e
 show⟨(s.heap.push {cls:=.type "range",data:=.fields (List.toArray [.int lo t,.int hi u,.int 1 v])}).objs.size,[(s.heap.push {cls:=.type "range",data:=.fields (List.toArray [.int lo t,.int hi u,.int 1 v])}).objs.size],_,_,H,L,
  d.kept (t':=f) λb o e=>Qcq _ e,AW _ lo (hi-lo).toNat,?_,λb i=>?_,q⟩
 ·have n:lo+((0:Nat):Int)*1=lo:=by simp
  have l:(((hi-lo).toNat:Nat):Int)-((0:Nat):Int)=Builtin.Range.rangeSize lo hi 1:=by rw[rangeSize_one];split <;>omega
  show IsRangeIter _ _ (lo+((0:Nat):Int)*1) ((((hi-lo).toNat:Nat):Int)-((0:Nat):Int)) 1
  rw[n,l]
  show Qrq _ L
 ·have e:b=(s.heap.push {cls:=.type "range",data:=.fields (List.toArray [.int lo t,.int hi u,.int 1 v])}).objs.size:=by simpa using i
  subst e
  show d.fpOk (Qmq _)<|d.hok.fresh<|Qmq _
def Mp(b:TA):TI:=λd H R=>b d H λa H1=>∃j:Int,a= [.int j]/\ -(2^62)<=j/\j<2^62/\R (Nz 0 j.toNat) H1
def Nj(b:TA):TI:=λd H R=>b d H λa H1=>∃i j:Int,a= [.int i,.int j]/\(-(2^62)<=i/\i<2^62/\ -(2^62)<=j/\j<2^62)/\R (Nz i (j-i).toNat) H1
def Ei{X:Cx}{c:Expr}{a:Expr}{g:TA}{p d:Pos}(k:Gl X "range")(u:X.mg "range"=none)(v:PA X [a] g)(n:autoParam (starEach [a] X.env= [(false,eval a X.env)]) db._auto_1):PI X c (.Call (.Name "range" p) [a] [] d) (Mp g):=by
 intro b s o H R I h
 show Call_<|jh I k u boot_range<|PyProof.Rows.callWith_type1 (cE (v d b s o H _ I h) λz y ⟨x,H1,l,i,f⟩=>?_) n L
 let#[j,e,f,w,q]:=f
 subst e
 cases i with
 | cons r m=>
   cases m
   let#[t,rfl]:=r
   show call_range_1<|yf l (!0) (!0) f w (by simpa using q)
def Du(u:Gl X "range")(A:X.mg "range"=none)(B:PA X [a,b] m)(y:autoParam (starEach [a,b] X.env= [(false,eval a X.env),(false,eval b X.env)]) db._auto_1)(f:autoParam (starEach [b] X.env= [(false,eval b X.env)]) db._auto_1):
  PI X c (.Call (.Name "range" p) [a,b] [] g) (Nj m):=by
 intro d s z H R I h
 show Call_<|jh I u A boot_range<|PyProof.Rows.callWith_type1 (cE (B g d s z H _ I h) λK J ⟨G,H1,v,o,k⟩=>?_) (by rw[y,f]) (by rw[f];rfl)
 let#[i,j,e,#[k,C,w,x],q]:=k
 subst e
 cases o with
 | cons r l=>
   cases l with
   | cons n l=>
     cases l
     let#[t,rfl]:=r
     let#[F,rfl]:=n
     show call_range_2<|yf v k C w x q
def PX(h:TI)(g:TG)(j:TS):TS:=λD a H=>h a H λJ H1=>∃W:Nat->Nat->St->Hp->Prop,(∃m,W 0 m a H1)/\∀i m a H,W i m a H->
 (J.stop i H/\D.nx a H)\/(J.go i H/\∃N:St->Hp->Prop,(∀b d,N b d->∃f,f<m/\W (i+1) f b d)/\∀x d,J.yld i H x d->g x a d λe H2=>j {D with nx:=N,ct:=N,bk:=D.nx} e H2)
noncomputable def nX(fp:X7)(h:Xe):List (Addr×Obj):=fp.filterMap λb=>(h.get? b).map λo=>(b,o)
def dw{h:Xe}(a:b∈fp)(e:h.get? b=some o):(b,o)∈nX fp h:=List.mem_filterMap.mpr #[b,a,by rw[e];rfl]
def DF(a:p∈nX fp h):p.1∈fp/\h.get? p.1=some p.2:=by
 let#[b,d,e]:=List.mem_filterMap.mp a
 cases q:h.get? b with
 |none=>rw[q] at e;cases e
 | some o=>
   rw[q] at e
   have f:(b,o)=p:=QdQ e
   subst f
   show#[d,q]
def Inv.pinned(I:Inv X a h H s)(l:∀b∈fp,qB X a H b)(m:∀b∈fp,∃o,s.heap.get? b=some o/\∀v,o.data≠.cell v):Inv X (a++nX fp s.heap) h H s:=
 I.pins_of λp k=>(mQa.mp k).elim (λz=>I.pin p<|Qoq _ z) λz=>by
  let#[f,e]:=DF z
  let#[i,j,n,_]:=l p.1 f
  let#[o,g,d]:=m p.1 f
  rw[e] at g;cases g
  show#[e,i,j,n,d]
def Inv.unpinned(I:Inv X (a++e) b H s):Inv X a b H s:=I.pins_of λp d=>I.pin p (Qoq _<|List.mem_append_left _ d)
def KZ{X:Cx}(U:PassesOwn (model X.prog X.w) X.A X.env X.xe)(hc:X.calm=true)(hi:PI X c q wi)(hg:PG X c g)(l:qY X F tb)
  (hs:autoParam (∀x,foldedSetIterable q X.env x=pure x) dl._auto_1):PS X (.For c q F [] a1) (PX wi g tb):=by
 intro j s σ H D I h
 show wpAny_For (cE (hi j s σ H _ I h) λv s1 h1=>cE h1 λa5 s2 h2=>?_) hs
 let#[it,P,tn,J,H2,e,I2,T,a3,f2,W,#[m0,w0],Y]:=h2
 subst e
 have p:∀{B:Hp},(∀b∈P,B b=none)->∀b∈P,qB X j B b:=λhn b l=>#[hn b l,(f2 b l).2]
 show codeAny_forLoop_any (λn s'=>∃i z B,Inv X j z B s'/\tn i s'.heap/\(∀b∈P,B b=none)/\W i n z B) ?_ m0 #[0,σ,H2,I2,a3,λb l=>(f2 b l).1,w0]
 rintro n s3 ⟨i,k,H3,I3,R,S,w3⟩
 rcases Y i n k H3 w3 with⟨stop,qn⟩|⟨go,N,hN,Q⟩
 ·show wpAny_passesOwn U (cE (T.done X L L L hc i j s3 k H3 X.xe I3 (p S) R stop) λr s4 K=>?_)
  let#[hr,I4]:=K
  subst hr
  show wpAny_execs_nil #[k,H3,I4,qn]
 ·show wpAny_passesOwn U (cE (T.item X L L L hc i j s3 k H3 X.xe I3 (p S) R go) λr s4 K=>?_)
  let#[u,hr,h4]:=K
  subst hr
  show wpAny_passesOwn U (cE h4 λ_ s5 K=>?_)
  let#[x,H5,I5,r5,y5,G,a0]:=K
  let a4:=I5.pinned (p a0) (T.obj _ _ G)
  show wpAny_passesOwn U (cE (hg _ s5 k H5 x u _ a4 r5<|Q x H5 y5) λ_ s6 K=>?_)
  let#[a2,H6,I6,q6]:=K
  show wpAny_passesOwn U (cE (l _ s6 a2 H6 _ I6 q6) λf Z C=>?_)
  have again:∀{a:St} {t:Hp},Inv X (j++nX P s5.heap) a t Z->N a t->∃m,m<n/\∃i z B,Inv X j z B Z/\tn i Z.heap/\(∀b∈P,B b=none)/\W i m z B:=λ{a t} y M=>by
   let#[m',hm,w7]:=hN a t M
   show#[m',hm,i+1,a,t,y.unpinned,T.keep _ _ _ G λb l o e=>(y.pin (b,o)<|Qoq _<|Qoq _<|dw l e).1,λb l=>?_,w7]
   let#[o,e,d]:=T.obj _ _ G b l
   show(y.pin (b,o)<|Qoq _<|Qoq _<|dw l e).2.1
  cases f with
  |next=>let#[a,t,y,M]:=C;show again y M
  |cont=>let#[a,t,y,M]:=C;show again y M
  |brk=>let#[a,t,y,C]:=C;show#[a,t,y.unpinned,C]
  |ret v=>let#[x7,a,t,y,r7,C]:=C;show#[x7,a,t,y.unpinned,r7,C]
abbrev R2:=V->V->Hp->VK->Prop
def jV(X:Cx)(f:Value->Value->Sem Value)(r:R2):Prop:=
 ∀ (a:X2) (s:X4) (b:St) (H:Hp) (x y:V) (v u:Xd) (Q:VK),Inv X a b H s->RelV x v->RelV y u->r x y H Q->
   wpAny (model X.prog X.w) X.A (f v u) (EP X a b Q) X.xe s
def P9(X:Cx)(f:Value->Sem Value)(r:V->Hp->VK->Prop):Prop:=
 ∀ (a:X2) (s:X4) (b:St) (H:Hp) (x:V) (v:Xd) (Q:VK),Inv X a b H s->RelV x v->r x H Q->
   wpAny (model X.prog X.w) X.A (f v) (EP X a b Q) X.xe s
def ic(X:Cx)(f:Xd)(r:List V->Hp->VK->Prop):Prop:=
 ∀ (a:X2) (s:X4) (d:St) (H:Hp) (c:List V) (b:X5) (Q:VK),Inv X a d H s->bL c b->r c H Q->
   wpAny (model X.prog X.w) X.A (call f b) (EP X a d Q) X.xe s
def P5(X:Cx)(r:V->Hp->(Bool->Hp->Prop)->Prop):Prop:=
 ∀ (a:X2) (s:X4) (b:St) (H:Hp) (x:V) (v:Xd) (Q:Bool->Hp->Prop),Inv X a b H s->RelV x v->r x H Q->
   wpAny (model X.prog X.w) X.A (truthy v) (TP X a b Q) X.xe s
def G1(r:R2)(c b:TE):TE:=λa H Q=>c a H λx H1=>b a H1 λy H2=>r x y H2 Q
def Rf(r:V->Hp->VK->Prop)(a:TE):TE:=λb H Q=>a b H λx H1=>r x H1 Q
def rI(C:Int->Int->Prop)(g:Int->Int->V):R2:=λx y H Q=>∃i j,x=.int i/\y=.int j/\C i j/\Q (g i j) H
def C6(g:Int->Int->V):R2:=λx y H Q=>∃i j,x=.int i/\y=.int j/\Q (g i j) H
def rU(g:Int->V):V->Hp->VK->Prop:=λx H Q=>∃i,x=.int i/\Q (g i) H
def LC(G:PE X a d)(q:PE X b k){R:V->V->Hp->Prop}(I:Inv X g i H s)
  (h:d i H λx H1=>k i H1 λy H2=>R x y H2)  {f:Value->Value->Sem Value}
  (B:∀v u n x y H2,Inv X g i H2 n->RelV x v->RelV y u->R x y H2->wpAny (model X.prog X.w) X.A (f v u) Q X.xe n):
  wpAny (model X.prog X.w) X.A (eval a X.env) (λv m=>wpAny (model X.prog X.w) X.A (eval b X.env) (λu j=>wpAny (model X.prog X.w) X.A (f v u) Q X.xe j) X.xe m) X.xe s:=by
 show cE (G g s i H _ I h) λv C o=>?_
 let#[x,H1,r,p,t]:=o
 show cE (q g C i H1 _ r t) λu n o=>?_
 let#[y,H2,z,F,J]:=o
 show B v u n x y H2 z p F J
def qE{X:Cx}{a:Expr}{b:Expr}{d:TE}{k:TE}{e:Pos}{op:Operator}{r:R2}(m:jV X (binaryOp op) r)(t:PE X a d)(g:PE X b k):PE X (.BinOp a op b e) (G1 r d k):=by
 intro f s p H Q I h
 show wpAny_BinOp (LC t g I h λv u i x y H2 j n o q=>m f i p H2 x y v u Q j n o q)
def NY{X:Cx}{a:Expr}{d:TE}{e:Pos}{op:UnaryOp}{r:V->Hp->VK->Prop}(i:P9 X (unaryOp op) r)(j:PE X a d):PE X (.UnaryOp op a e) (Rf r d):=by
 intro f s g H Q I h
 show UnaryOp_ (cE (j f s g H _ I h) λv o ⟨x,H1,p,m,n⟩=>i f o g H1 x v Q p m n)
def OD{X:Cx}{f:Value->Value->Sem Value}{C:Int->Int->Prop}{g:Int->Int->Int}
  (m:∀(i j:Int) (t u:Tok) (s:X4) (Q:X0) (E:X0),C i j->Q (.int (g i j) s.toks) {s with toks:=s.toks+1}->wpAny (model X.prog X.w) X.A (f (.int i t)<|.int j u) Q E s):
  jV X f (rI C λi j=>.int (g i j)):=by
 intro n s z H x y v u Q I p r h
 let#[i,j,rfl,rfl,hc,q]:=h
 let#[t,rfl]:=p
 let#[o,rfl]:=r
 show m i j t o s _ _ hc #[.int (g i j),H,I.tok _,#[_,L],q]
def Nr{X:Cx}{f:Value->Value->Sem Value}{g:Int->Int->Int}
  (m:∀(i j:Int) (t u:Tok) (s:X4) (Q:X0) (E:X0),Q (.int (g i j) s.toks) {s with toks:=s.toks+1}->wpAny (model X.prog X.w) X.A (f (.int i t)<|.int j u) Q E s):
  jV X f (C6 λi j=>.int (g i j)):=by
 intro n s z H x y v u Q I p r h
 let#[i,j,rfl,rfl,q]:=h
 let#[t,rfl]:=p
 let#[o,rfl]:=r
 show m i j t o s _ _ #[.int (g i j),H,I.tok _,#[_,L],q]
def Jj{X:Cx}{f:Value->Value->Sem Value}{g:Int->Int->Bool}
  (m:∀(i j:Int) (t u:Tok) (s:X4) (Q:X0) (E:X0),Q (.bool (g i j)) s->wpAny (model X.prog X.w) X.A (f (.int i t)<|.int j u) Q E s):
  jV X f (C6 λi j=>.bl (g i j)):=by
 intro n s z H x y v u Q I p r h
 let#[i,j,rfl,rfl,q]:=h
 let#[t,rfl]:=p
 let#[o,rfl]:=r
 show m i j t o s _ _ #[.bl (g i j),H,I,L,q]
def E3(i j:Int):Prop:=0<j/\j<1073741824
def Fq(i j:Int):Prop:=0<=j/\j<=1000000/\i.natAbs<2^64
def Ih(i j:Int):Prop:=(-(2^64)<i/\i<2^64)\/(-(2^64)<j/\j<2^64)
def Ih.ok(h:Ih i j):IntMulOk i j:=by
 rcases h with⟨g,f⟩|⟨g,f⟩
 ·show .of_left (intBits_le_64 g f)
 ·show .of_right (intBits_le_64 g f)
def KW:jV X (binaryOp .Add) (C6 λi j=>.int (i+j)):=Nr λ_ _ _ _ _ _ _ q=>add_int q
def J3:jV X (binaryOp .Sub) (C6 λi j=>.int (i-j)):=Nr λ_ _ _ _ _ _ _ q=>sub_int q
def IV:jV X (binaryOp .FloorDiv) (rI E3 λi j=>.int (i/j)):=OD λi j _ _ _ _ _ f q=>by
 have h:(0:Int)<j:=f.1
 have g:j<1073741824:=f.2
 show floordiv_int (!0) (by rw[Int.fdiv_eq_ediv_of_nonneg i (!0)];show q)<|.inl (PyProof.noPylong_small (!0))
def Kb:jV X (binaryOp .Mod) (rI (λ_ j=>0<j) λi j=>.int (i%j)):=OD λi j _ _ _ _ _ f q=>by
 have g:(0:Int)<j:=f
 show mod_int' (!0) (by rw[Int.fmod_eq_emod_of_nonneg i (!0)];show q)
def Lu:jV X (binaryOp .Pow) (rI Fq λi j=>.int (i^j.toNat)):=OD λ_ _ _ _ _ _ _ f q=>pow_int_small f.1 f.2.1 f.2.2 q
def Q0{X:Cx}{g:Int->Int}
  (j:∀(i:Int) (t:Tok) (s:X4) (Q:X0) (E:X0),Q (.int (g i) s.toks) {s with toks:=s.toks+1}->wpAny (model X.prog X.w) X.A (f<|.int i t) Q E s):
  P9 X f (rU λi=>.int (g i)):=by
 intro m s o H x v Q I n h
 let#[i,rfl,q]:=h
 let#[t,rfl]:=n
 show j i t s _ _ #[.int (g i),H,I.tok _,#[_,L],q]
def Kx:P9 X (unaryOp .USub) (rU λi=>.int (-i)):=Q0 λ_ _ _ _ _ q=>neg_int q
noncomputable def Ba:V->V->Bool
 |.non,.non=>true|.non,.int _=>true|.int _,.non=>true|.non,.bl _=>true|.bl _,.non=>true|.non,.str _=>true|.str _,.non=>true
 |.int _,.int _=>true|.bl _,.bl _=>true|.str _,.str _=>true|.byt _,.byt _=>true
 |.int _,.str _=>true|.str _,.int _=>true|.bl _,.str _=>true|.str _,.bl _=>true
 |_,_=>false
def QE:R2:=λx y H Q=>Ba x y=true/\Q (.bl (decide (x=y))) H
def Qw:R2:=λx y H Q=>Ba x y=true/\Q (.bl (!decide (x=y))) H
def Cr:decide (V.int i=V.int j)=(i==j):=by
 rw[Bool.eq_iff_iff]
 simp
def FC:decide (V.bl i=V.bl j)=(i==j):=by
 rw[Bool.eq_iff_iff]
 simp
def B2:decide (V.str i=V.str j)=(i==j):=by
 rw[Bool.eq_iff_iff]
 simp
def CW:decide (V.byt i=V.byt j)=(i.toList==j.toList):=by
 rw[Bool.eq_iff_iff]
 cases i
 cases j
 simp
def bU{Q:VK}(I:Inv X f i H s)(q:Q (.bl k) H)(e:k=h):EP X f i Q (.bool h) s:=by
 subst e
 show#[.bl k,H,I,L,q]
def Qv:jV X (compareOp .Eq) QE:=by
 intro o s p H x y v u Q I m e h
 let#[k,q]:=h
 cases x with
 | non=>
   cases m
   cases y with
   |non=>cases e;show PySem.EqNone.eq_none_none (bU I q (by simp))
   |bl j=>cases e;show PySem.EqNone.eq_none_bool (bU I q (by simp))
   |int j=>let#[f,rfl]:=e;show PySem.EqNone.eq_none_int (bU I q (by simp))
   |str j=>let#[f,rfl]:=e;show PySem.EqNone.eq_none_str (bU I q (by simp))
   |_=>show absurd (show false=true from k) Qtq
 | bl i=>
   cases m
   cases y with
   |non=>cases e;show PySem.EqNone.eq_bool_none (bU I q (by simp))
   |bl j=>cases e;show eq_bool (bU I q FC)
   |str j=>let#[f,rfl]:=e;show PySem.EqMixed.eq_bool_str (bU I q (by simp))
   |_=>show absurd (show false=true from k) Qtq
 | int i=>
   let#[t,rfl]:=m
   cases y with
   |non=>cases e;show PySem.EqNone.eq_int_none (bU I q (by simp))
   |int j=>let#[f,rfl]:=e;show eq_int (bU I q Cr)
   |str j=>let#[f,rfl]:=e;show PySem.EqMixed.eq_int_str (bU I q (by simp))
   |_=>show absurd (show false=true from k) Qtq
 | str i=>
   let#[t,rfl]:=m
   cases y with
   |non=>cases e;show PySem.EqNone.eq_str_none (bU I q (by simp))
   |bl j=>cases e;show PySem.EqMixed.eq_str_bool (bU I q (by simp))
   |int j=>let#[f,rfl]:=e;show PySem.EqMixed.eq_str_int (bU I q (by simp))
   |str j=>let#[f,rfl]:=e;show eq_str (bU I q B2)
   |_=>show absurd (show false=true from k) Qtq
 | byt i=>
   let#[t,rfl]:=m
   cases y with
   |byt j=>let#[f,rfl]:=e;show PySem.W.eq_bytes (bU I q CW)
   |_=>show absurd (show false=true from k) Qtq
 |_=>cases y <;>show absurd (show false=true from k) Qtq
def QS:jV X (compareOp .NotEq) Qw:=by
 intro o s p H x y v u Q I m e h
 let#[k,q]:=h
 cases x with
 | non=>
   cases m
   cases y with
   |non=>cases e;show PySem.EqNone.ne_none_none (bU I q (by simp))
   |bl j=>cases e;show PySem.EqNone.ne_none_bool (bU I q (by simp))
   |int j=>let#[f,rfl]:=e;show PySem.EqNone.ne_none_int (bU I q (by simp))
   |str j=>let#[f,rfl]:=e;show PySem.EqNone.ne_none_str (bU I q (by simp))
   |_=>show absurd (show false=true from k) Qtq
 | bl i=>
   cases m
   cases y with
   |non=>cases e;show PySem.EqNone.ne_bool_none (bU I q (by simp))
   |bl j=>cases e;show ne_bool (bU I q<|congrArg not FC)
   |str j=>let#[f,rfl]:=e;show PySem.EqMixed.ne_bool_str (bU I q (by simp))
   |_=>show absurd (show false=true from k) Qtq
 | int i=>
   let#[t,rfl]:=m
   cases y with
   |non=>cases e;show PySem.EqNone.ne_int_none (bU I q (by simp))
   |int j=>let#[f,rfl]:=e;show ne_int (bU I q<|congrArg not Cr)
   |str j=>let#[f,rfl]:=e;show PySem.EqMixed.ne_int_str (bU I q (by simp))
   |_=>show absurd (show false=true from k) Qtq
 | str i=>
   let#[t,rfl]:=m
   cases y with
   |non=>cases e;show PySem.EqNone.ne_str_none (bU I q (by simp))
   |bl j=>cases e;show PySem.EqMixed.ne_str_bool (bU I q (by simp))
   |int j=>let#[f,rfl]:=e;show PySem.EqMixed.ne_str_int (bU I q (by simp))
   |str j=>let#[f,rfl]:=e;show ne_str (bU I q<|congrArg not B2)
   |_=>show absurd (show false=true from k) Qtq
 | byt i=>
   let#[t,rfl]:=m
   cases y with
   |byt j=>let#[f,rfl]:=e;show PySem.W.ne_bytes (bU I q<|congrArg not CW)
   |_=>show absurd (show false=true from k) Qtq
 |_=>cases y <;>show absurd (show false=true from k) Qtq
def N2:jV X (compareOp .Lt) (C6 λi j=>.bl (decide (i<j))):=Jj λ_ _ _ _ _ _ _ q=>lt_int q
def Jn:jV X (compareOp .LtE) (C6 λi j=>.bl (decide (i<=j))):=Jj λ_ _ _ _ _ _ _ q=>le_int q
def Qz:jV X (compareOp .Gt) (C6 λi j=>.bl (decide (j<i))):=Jj λ_ _ _ _ _ _ _ q=>gt_int q
def QC:jV X (compareOp .GtE) (C6 λi j=>.bl (decide (j<=i))):=Jj λ_ _ _ _ _ _ _ q=>ge_int q
def OP:jV X (compareOp .Is) (λx y H Q=>y=.non/\Q (.bl (decide (x=.non))) H):=by
 intro e s j H x y v u Q I f i h
 let#[rfl,q]:=h
 cases i
 show is_none_gen<|bU I q ?_
 cases x <;>first
  |(cases f;rfl)
  |(let#[t,rfl]:=f;rfl)
def Ou:jV X (compareOp .IsNot) (λx y H Q=>y=.non/\Q (.bl (!decide (x=.non))) H):=by
 intro e s j H x y v u Q I f i h
 let#[rfl,q]:=h
 cases i
 show isnot_none_gen<|bU I q ?_
 cases x <;>first
  |(cases f;rfl)
  |(let#[t,rfl]:=f;rfl)
def jV.or(h:jV X f r)(h':jV X f i):jV X f (λx y H Q=>r x y H Q\/i x y H Q):=by
 intro e s m H x y v u Q I j k q
 rcases q with q|q
 ·show h e s m H x y v u Q I j k q
 ·show h' e s m H x y v u Q I j k q
def og(b:Expr){op:CmpOp}(h:autoParam (op≠.In) cV._auto_1)(f:autoParam (op≠.NotIn) cV._auto_1):behindInMarks op b=false:=by
 have e:(op==CmpOp.In)=false:=by cases op <;>first|rfl|show absurd L h
 have i:(op==CmpOp.NotIn)=false:=by cases op <;>first|rfl|show absurd L f
 cases b <;>simp[behindInMarks,e,i]
def IA{X:Cx}{a:Expr}{b:Expr}{d:TE}{l:TE}{g:Pos}{op:CmpOp}{r:R2}(k:jV X (compareOp op) r)(w:PE X a d)(f:PE X b l)(t:behindInMarks op b=false):PE X (.Compare a [op] [b] g) (G1 r d l):=by
 intro e s p H Q I h
 show wpAny_Compare1 (LC w f I h λv u i x y H2 j m o q=>k e i p H2 x y v u Q j m o q) t
def FG(t:TE):TT:=λf H Q=>t f H λx e=>∃k,x=.bl k/\Q k e
def mq(C:jV X (compareOp op) r)(K:PE X a d)(o:PE X b l)(J:behindInMarks op b=false):PT X (.Compare a [op] [b] g) (FG<|G1 r d l):=by
 intro f s i H Q I h
 show wpAny_isTrue_Compare1 (cE (K f s i H _ I h) λv F ⟨x,H1,p,m,w⟩=>cE (o f F i H1 _ p w) λu t ⟨y,H2,B,G,M⟩=>
  cE (C f t i H2 x y v u _ B m G M) λc N ⟨z,H3,q,j,k,e,A⟩=>?_) J
 subst e
 cases j
 show wpAny_truthy_bool #[H3,q,A]
def Lv(K:X1)(x:V)(H:Hp)(k:Bool):Prop:=
 match x with
 |.non=>k=false
 |.bl b=>k=b
 |.int i=>k=(i !=0)
 |.str y=>y.length<=sizeLine/\k=((y.length:Int) !=0)
 |.byt y=>y.size<=sizeLine/\k=((y.size:Int) !=0)
 |.ref p=>(∃f,i8 K H p f/\k= !f.isEmpty)\/(∃f,iJ K H p f/\k= !f.isEmpty)\/∃e,H p=some (.dK e)/\k= !e.isEmpty
 |_=>False
def Bk{e:Type}{kvs:List (e×V)}{vs:List (e×Value)}(r:KV kvs vs):(!vs.isEmpty)= !kvs.isEmpty:=by
 cases r <;>rfl
def sr{xs:List V}{e:X5}(r:bL xs e):(!e.toArray.isEmpty)= !xs.isEmpty:=by
 cases r <;>simp
def nF:(sizeLine:Nat)<2^63:=by rw[sizeLine_eq];decide
def Ky:P5 X (λx H Q=>∃k,Lv X.K x H k/\Q k H):=by
 intro J s S H x v Q I z h
 let#[k,e,q]:=h
 let hl:=nF
 have R:sizeLine=16777216:=sizeLine_eq
 cases x with
 | non=>
   cases z
   have f:k=false:=e
   subst f
   show truthy_none #[H,I,q]
 | bl b=>
   cases z
   have f:k=b:=e
   subst f
   show wpAny_truthy_bool #[H,I,q]
 | int i=>
   let#[t,rfl]:=z
   have f:k=(i !=0):=e
   subst f
   show PySem.P.truthy_int #[H,I,q]
 | str y=>
   let#[t,rfl]:=z
   obtain⟨M,f⟩:y.length<=sizeLine/\k=((y.length:Int) !=0):=e
   subst f
   show PySem.P.truthy_str (!0) #[H,I.tok _,q]
 | byt y=>
   let#[t,rfl]:=z
   obtain⟨M,f⟩:y.size<=sizeLine/\k=((y.size:Int) !=0):=e
   subst f
   show PySem.W.truthy_bytes (!0) #[H,I.tok _,q]
 | ref p=>
   cases z
   have f:(∃u,i8 X.K H p u/\k= !u.isEmpty)\/(∃u,iJ X.K H p u/\k= !u.isEmpty)\/∃j,H p=some (.dK j)/\k= !j.isEmpty:=e
   rcases f with⟨u,A,f⟩|⟨u,A,f⟩|⟨j,A,f⟩
   · subst f
     let#[C,r,F,G]:=I.list A
     let o:=r.length
     show wpAny_truthy_list F.isList (by erw[Qjq];omega) #[H,I.tok _,by rw[sr r];show q]
   · subst f
     let#[C,r,F,G]:=I.tuple A
     let o:=r.length
     show truthy_tuple F (by erw[Qjq];omega) ⟨H,I.tok _,by rw[sr r];show q⟩
   · subst f
     obtain⟨G,N,B,r,m⟩:j.length<=sizeLine/\(p==sysModules)=false/\∃B,KV j B/\s.heap.DictOf (bO X.prog X.w) p B:=I.hok p _ A
     have o:j.length=B.length:=Paired.length r
     show wpAny_truthy_dict N m (!0) #[H,I.tok _,by rw[Bk r];show q]
 |_=>show(show False from e).elim
def Fs(r:PE X a d)(he:∀e,isTrue a X.env e=(do let v<-e;standAt a.pos;holding [v] (truthy v))):
  PT X a (λi H Q=>d i H λx j=>∃k,Lv X.K x j k/\Q k j):=by
 intro f s i H Q I h
 show isTrue_plain (cE (r f s i H _ I h) λv q ⟨x,H1,o,m,p⟩=>Ky f q i H1 x v Q o m p)<|he _
def AM:jV X (binaryOp .Add) (λx y H Q=>∃i j,x=.str i/\y=.str j/\i.length+j.length<=sizeLine/\Q (.str (i++j)) H):=by
 intro e s p H x y v u Q I k m h
 let#[i,j,rfl,rfl,hz,q]:=h
 let#[t,rfl]:=k
 let#[f,rfl]:=m
 show add_str (λf o=>#[.str (i++j),H,I.tok _,#[_,L],q]) hz
def vals1(r:bL [x] e):∃u,e= [u]/\RelV x u:=by
 cases r with
 |cons h f=>cases f;show#[_,L,h]
def vals2(r:bL [x,y] e):∃u f,e= [u,f]/\RelV x u/\RelV y f:=by
 cases r with
 | cons k h=>
   cases h with
   |cons j i=>cases i;show#[_,_,L,k,j]
def MS:ic X (.builtin "abs") (λxs H Q=>∃i,xs= [.int i]/\Q (.int (if i<0 then -i else i)) H):=by
 intro e s k H xs f Q I r h
 let#[i,rfl,q]:=h
 let#[u,rfl,t,rfl]:=vals1 r
 show call_abs_int λu j=>#[.int (if i<0 then -i else i),H,I.tok _,#[_,L],q]
def L4{X:Cx}(m:X.calm=true):ic X (.builtin "max") (λxs H Q=>∃i j,xs= [.int i,.int j]/\Q (.int (if j>i then j else i)) H):=by
 intro f s w H xs x Q I r h
 let#[i,j,rfl,q]:=h
 let#[u,o,rfl,#[t,rfl],#[t',rfl]]:=vals2 r
 show max_two_ints (I.ok.hd m) λp v k=>#[_,H,I.kept k,?_,q]
 by_cases e:j>i
 ·rw[Qhq e,Qhq e];show#[_,L]
 ·rw[Quq e,Quq e];show#[_,L]
def LX{X:Cx}(m:X.calm=true):ic X (.builtin "min") (λxs H Q=>∃i j,xs= [.int i,.int j]/\Q (.int (if j<i then j else i)) H):=by
 intro f s w H xs x Q I r h
 let#[i,j,rfl,q]:=h
 let#[u,o,rfl,#[t,rfl],#[t',rfl]]:=vals2 r
 show min_two_ints (I.ok.hd m) λp v k=>#[_,H,I.kept k,?_,q]
 by_cases e:j<i
 ·rw[Qhq e,Qhq e];show#[_,L]
 ·rw[Quq e,Quq e];show#[_,L]
def L6:ic X (.type "int") (λxs H Q=>(∃i,xs= [.int i]/\Q (.int i) H)\/∃k,xs= [.bl k]/\Q (.int (if k then 1 else 0)) H):=by
 intro e s j H xs f Q I r h
 rcases h with⟨i,rfl,q⟩|⟨k,rfl,q⟩
 ·let#[u,rfl,t,rfl]:=vals1 r
  show call_int_int #[.int i,H,I,#[_,L],q]
 ·let#[u,rfl,r1]:=vals1 r
  cases r1
  show call_int_bool #[.int (if k then 1 else 0),H,I.tok _,#[_,L],q]
structure LP(h:Xe)(x dx C:X8)(mA:X3):Prop where
 obj:h.get? x=some (PySem.W.instObj C dx)
 ns:h.Ns1 dx mA
 ne:dx≠x
def D2{h:Xe}(n:h.Ns1 g d):∃f,h.get? g=some f/\∀name,PySem.W.lookIn name f=some (d name):=by
 let#[o,c,r,l,i,j,_,p]:=n
 show#[o,l,λname=>?_]
 let e:=p name
 unfold nsFind findBy at e
 rw[<-Array.find?_toList] at e
 unfold PySem.W.lookIn
 rw[i]
 dsimp only
 split
 ·rename_i y q
  rw[q] at e
  show congrArg some e
 ·rename_i q
  rw[q] at e
  have a:c.toList.any (·.refKey)=false:=by
   rw[List.any_eq_false]
   intro y m
   let#[z,t,b]:=j y (Array.mem_toList_iff.mp m)
   simp[DictEntry.refKey,b]
  have k:¬c.toList.any (·.refKey)=true:=by rw[a];show Qtq
  rw[Quq k]
  show congrArg some e
def LP.look(I:LP h x b C c):∃a,PySem.W.InstAt h x (PySem.W.instObj C b) C (some a)/\∀name,PySem.W.lookIn name a=some (c name):=
 let ⟨a,ho,hl⟩:=D2 I.ns
 #[a,#[I.obj,L,L,ho],hl]
def uC.some_of(r:uC (some v) o):∃u,o=some u/\RelV v u:=by
 cases o with
 |none=>show(show False from r).elim
 |some u=>show#[u,L,r]
def rZ(j:ou P w H h)(e:H a=some (.ins C b fs)):∃i,LP h a b C i/\(∀f,uC (fs.lookup f)<|i f)/\PySem.Within i (fs.map (·.1))/\fs.length<=1000/\H b=some (.own a):=by
 let#[d,z,k,l,i,n,r,q]:=(show cb P w H h a (.ins C b fs) from j a _ e)
 show#[i,#[l,n,k],r,q,z,d]
structure PD(K:X1)(C:X8):Prop where
 pg:PySem.W.plainGet K C Str.empty=true
 hd:PySem.W.hasDictIn K C=true
 po:PySem.W.plainOver K C=true
 sa:PySem.W.findIn K (.ref C) "__setattr__"=some (some<|.builtin "object.__setattr__")
def PD.get{K:X1}{C:X8}(c:PD K C)(f:Str):PySem.W.plainGet K C f=true:=c.pg
inductive qC(K:X1)(H:Hp):V->Value->Prop where
 |non:qC K H .non (.type "NoneType")
 |bl (x:Bool):qC K H (.bl x) (.type "bool")
 |int (i:Int):qC K H (.int i) (.type "int")
 |str (x:Str):qC K H (.str x) (.type "str")
 |flt (x:UInt64):qC K H (.flt x) (.type "float")
 |lst {a:X8} {xs:List V} (e:H a=some (.lst xs)):qC K H (.ref a) (.type "list")
 |frz {a:X8} {o:Obj} {xs:List V} (e:H a=some (.frz o (.lst xs))):qC K H (.ref a) (.type "list")
 |tup {a:X8} {xs:List V} (e:H a=some (.tup xs)):qC K H (.ref a) (.type "tuple")
 |dK {a:X8} {kvs:List (Key×V)} (e:H a=some (.dK kvs)):qC K H (.ref a) (.type "dict")
 |dT {a:X8} {kvs:List (List Key×V)} (e:H a=some (.dT kvs)):qC K H (.ref a) (.type "dict")
 |ins {a C dx:X8} {fs:List (Str×V)} (e:H a=some (.ins C dx fs)) (cl:PD K C) (ha:PySem.W.findIn K (.ref C) "__class__"=some (some<|.builtin "object.__class__"))
   (hn:PySem.W.specialIn K (.builtin "object.__class__") "__get__"=some (some<|.builtin "getset_descriptor.__get__")) (htk:PySem.W.takesIn K (.builtin "object.__class__")=some true)
   (hm:PySem.W.mroIn K C (.type "object")=some true):qC K H (.ref a) (.ref C)
def Dw{X:Cx}{d:X2}{f:St}{H:Hp}{s:X4}{A:X_}{E:X0}{Q:X0}{c:Xd}{b:Bool}{x:V}{u t:Xd}(I:Inv X d f H s)(g:RelV x u)(v:qC X.K H x t)(e:PySem.W.kitOne X.K t c=some b)(h:∀m,Q (.bool b) {s with toks:=m}):
  wpAny (model X.prog X.w) A (call (.builtin "isinstance") [u,c]) Q E s:=by
 cases v with
 |non=>cases (show u=Value.none from g);show PySem.W.kia_one PySem.W.kitx_none I.kIn True.intro e (λz=>nomatch z) h
 |bl y=>cases (show u=Value.bool y from g);show PySem.W.kia_one PySem.W.kitx_bool I.kIn True.intro e (λz=>nomatch z) h
 |int i=>let#[t,q]:=(show∃t,u=Value.int i t from g);cases q;show PySem.W.kia_one PySem.W.kitx_int I.kIn True.intro e (λz=>nomatch z) h
 |str y=>let#[t,q]:=(show∃t,u=Value.str y t from g);cases q;show PySem.W.kia_one PySem.W.kitx_str I.kIn True.intro e (λz=>nomatch z) h
 |flt y=>let#[t,q]:=(show∃t,u=Value.float y t from g);cases q;show PySem.W.kia_one PySem.W.kitx_float I.kIn True.intro e (λz=>nomatch z) h
 | @lst a k ea=>
   cases (show u=Value.ref a from g)
   let#[_,_,n,_,j]:=(show cb X.prog X.w H s.heap a (.lst k) from I.hok a _ ea)
   show PySem.W.kia_one PySem.W.kitx_list I.kIn #[_,j,L] e (λz=>nomatch z) h
 | @frz a ob k ea=>
   cases (show u=Value.ref a from g)
   let#[_,_,_,n,_,j]:=(show cb X.prog X.w H s.heap a (.frz ob (.lst k)) from I.hok a _ ea)
   show PySem.W.kia_one PySem.W.kitx_list I.kIn #[_,j,L] e (λz=>nomatch z) h
 | @tup a k ea=>
   cases (show u=Value.ref a from g)
   let#[_,_,_,p]:=(show cb X.prog X.w H s.heap a (.tup k) from I.hok a _ ea)
   let#[o,j,l,_]:=p
   show PySem.W.kia_one PySem.W.kitx_tuple I.kIn #[o,j,l] e (λz=>nomatch z) h
 | @dK a kvs ea=>
   cases (show u=Value.ref a from g)
   let#[_,_,F,_,p]:=(show cb X.prog X.w H s.heap a (.dK kvs) from I.hok a _ ea)
   let#[o,r,B,j,l,_]:=p
   show PySem.W.kia_one PySem.W.kitx_dict I.kIn #[o,j,l.1] e (λz=>nomatch z) h
 | @dT a kvs ea=>
   cases (show u=Value.ref a from g)
   let#[_,_,k,_,o,r,B,j,l,_]:=(show cb X.prog X.w H s.heap a (.dT kvs) from I.hok a _ ea)
   show PySem.W.kia_one PySem.W.kitx_dict I.kIn #[o,j,l.1] e (λz=>nomatch z) h
 | @ins a C dx fs ea cl ha hn htk hm=>
   cases (show u=Value.ref a from g)
   let#[G,O,_]:=rZ I.hok ea
   let#[M,J,_]:=O.look
   show PySem.W.kia_one (PySem.W.kitx_own (cl.get _) cl.hd ha hn htk hm) I.kIn J e (λz=>nomatch z) h
structure dU(k:Nat)(A:X_):Prop where
 hd:A.handled=none
 dp:A.depth+3*k+5<recursionLimit
 un:A.units+16*k+200<cLine
def dU.mono(r:dU k A)(h:j<=k):dU j A:=#[r.hd,by have:=r.dp;omega,by have:=r.un;omega]
def dU.deeper(r:dU (k+1) A)(env:Env):dU k (A.deeper env):=
 #[r.hd,by have:=r.dp;show A.depth+1+3*k+5<_;omega,by have:=r.un;show A.units+3+16*k+200<_;omega]
def dU.depth(r:dU k A):A.depth<recursionLimit:=by have:=r.dp;omega
def dU.units(r:dU k A):A.units+64<cLine:=by have:=r.un;omega
def dU.units0(r:dU k A):A.units<cLine:=by have:=r.un;omega
def HC:TA:=λ_ H Q=>Q [] H
def Fg(c:TE)(tr:TA):TA:=λa H Q=>c a H λx H1=>tr a H1 λb H2=>Q (x::b) H2
def fu:PA X [] HC:=λ_ _ _ _ H Q I h=>Calls.spliced_nil #[[],H,I,.nil,h]
def cK(q:PE X e c)(k:PA X es t)(n:autoParam (starEach (e::es) X.env=(false,eval e X.env)::starEach es X.env) db._auto_1):PA X (e::es) (Fg c t):=by
 intro a b s d H Q I h
 rw[n]
 show wpAny _ _ (spliced ((false,eval e X.env)::backTo a (starEach es X.env))) _ _ s
 show Calls.spliced_cons (cE (q b s d H _ I h) λu m o=>?_)
 let#[x,H1,g,f,i]:=o
 show cE (k a b m d H1 _ g i) λw v ⟨l,H2,j,p,r⟩=>#[x::l,H2,j,.cons f p,r]
def Pz(t:TA):TE:=λd H Q=>t d H λb H1=>b.length<=sizeLine/\∀p,H1 p=none->Q (.ref p) (upd H1 p<|.tup b)
def OX(t:TA):TE:=λd H Q=>t d H λb H1=>b.length<=sizeLine/\∀p,H1 p=none->Q (.ref p) (upd H1 p<|.lst b)
def ET{x1}(h:PA X es t):PE X (.Tuple es x1 a) (Pz t):=by
 intro d s l H Q I i
 show wpAny_Tuple_spliced (cE (h a d s l H _ I i) λm f ⟨k,H1,g,r,z,q⟩=>#[by rw[<-r.length];show z,?_])
 have j:H1 f.heap.objs.size=none:=g.hok.fresh (Qmq _)
 show#[.ref f.heap.objs.size,upd H1 f.heap.objs.size<|.tup k,g.laid (t':=f.toks) (λb u e=>Qcq _ e) (Qmq _) ?_,L,q _ j]
 show#[z,m,r,#[_,Qrq _ L,L,L,_,L]]
def LH(h:PA X es t):PE X (.List es a) (OX t):=by
 intro d s l H Q I i
 show wpAny_List_spliced (cE (h a d s l H _ I i) λm f ⟨k,H1,g,r,z,q⟩=>#[by rw[<-r.length];show z,?_])
 have j:H1 f.heap.objs.size=none:=g.hok.fresh (Qmq _)
 show#[.ref f.heap.objs.size,upd H1 f.heap.objs.size<|.lst k,g.laid (t':=f.toks) (λb u e=>Qcq _ e) (Qmq _) ?_,L,q _ j]
 show#[z,m,0,r,Qrq _ L]
abbrev Sp:=List V->Hp->VK->XK->Prop
abbrev Em:=List Env->Hp->Shared->XK->Value->Shared->Prop
structure HE(P:X9)(w:Xc)(K:X1)(mg:X3)(base:Xe)(A:X_)(outer:List Env)(s:X4)(H:Hp):Prop where
 frames:A.frames=some outer
 mod:Mod K mg base
 bs:∀b o,base.get? b=some o->s.heap.get? b=some o/\H b=none
 bsz:base.objs.size<=s.heap.objs.size
 funs:s.heap.FunFrames base outer
 frf:∀b∈EZ outer,H b=none
 hok:ou P w H s.heap
 bare:AllBare s.gens
def CE(a:List Env)(P:X9)(w:Xc)(H:Hp)(s:X4)(Q:VK)(u:Xd)(s':X4):Prop:=
 ∃v b,s'.os=s.os/\AllBare s'.gens/\Un (EZ a) [] H b s.heap s'.heap/\ou P w b s'.heap/\RelV v u/\Q v b
def CR(CX:Em)(a:List Env)(P:X9)(w:Xc)(H:Hp)(s:X4)(Q:VK)(E:XK)(r:Result)(s':X4):Prop:=
 match r with
 |.ok (.ret u)=>CE a P w H s Q u s'
 |.ok _=>False
 |.error e=>CX a H s E e s'
structure bB(P:X9)(w:Xc)(K:X1)(mg:X3)(base:Xe)(CX:Em)(k:Nat)(f:X8)(fd:FuncData)(ps:X6)(sp:Sp):Prop where
 len:∀vs H Q E,sp vs H Q E->vs.length=ps.length
 run:∀(A:X_) (outer:List Env) (s:X4) (H:Hp) (args:Args) (us:X5) (vs:List V) (Q:VK) (E:XK),dU k A->HE P w K mg base A outer s H->BindsTo s fd args (ps.zip us)->bL vs us->sp vs H Q E->
  codeAny (model P w) A (.call (.ref f) args) (CR CX outer P w H s Q E) s
def bB.mono{P:X9}{w:Xc}{K:X1}{e:X3}{a:Xe}{CX:Em}{j k:Nat}{f:X8}{d:FuncData}{ps:X6}{sp:Sp}(F:bB P w K e a CX j f d ps sp)(h:j<=k):
  bB P w K e a CX k f d ps sp:=#[F.len,λA b s H c l g Q E i=>F.run A b s H c l g Q E<|i.mono h]
def bB.imp{P:X9}{w:Xc}{K:X1}{g:X3}{a:Xe}{CX:Em}{k:Nat}{f:X8}{e:FuncData}{ps:X6}{sp d:Sp}(F:bB P w K g a CX k f e ps sp)
  (h:∀vs H Q E,d vs H Q E->sp vs H Q E):bB P w K g a CX k f e ps d:=
 #[λvs H Q E q=>F.len vs H Q E<|h _ _ _ _ q,λA b s H c m vs Q E j n i o l=>F.run A b s H c m vs Q E j n i o<|h _ _ _ _ l]
def Inv.env0(I:Inv X a c H s):HE X.prog X.w X.K X.mg X.base X.A X.stack s H:=
 #[I.ok.frames,I.ok.mod,I.bs,QAq I.ok.bsz I.sz,I.stack,I.stkFree,I.hok,I.bare]
def Inv.after(I:Inv X a c H s)(h:CE X.stack X.prog X.w H s Q u s'):EP X a c Q u s':=by
 let#[v,m,j,e,k,i,r,q]:=h
 let#[l,g,d,t,f]:=s'
 obtain rfl:f=s.os:=j
 show#[v,m,I.call (h':=l) (g':=g) (d':=d) (t':=t) (ch:= []) k i e (λb z=>absurd z (by simp)),r,q]
def E4(sp:Sp)(a:List V)(E:XK)(t:TA):TE:=λc H Q=>t c H λb H1=>sp (b++a) H1 Q E
def Binds(K:X1)(b:FuncData)(ps:X6)(ds:X5):Prop:=
 ∀(s:X4) (a:X5),K.In s.heap->(a++ds).length=ps.length->BindsTo s b #[a,[]] (ps.zip (a++ds))
def Binds.all{K:X1}{b:FuncData}{ps:X6}(h:∀a:List Value,a.length=ps.length->bindArgs b #[a,[]]=pure (ps.zip a)):Binds K b ps []:=λs a _ hl=>by
 rw[List.append_nil] at hl|-
 show .of_eq (h a hl)
def A7(CX:Em)(X:Cx)(E:XK):Prop:=∀(a:X2) (c:St) (H:Hp) (s:X4) (e:Xd) (b:X4),Inv X a c H s->CX X.stack H s E e b->X.xe e b
def GX{X:Cx}{E:XK}(F:bB X.prog X.w X.K X.mg X.base CX k f c ps sp)(B:dU k X.A)(z:Binds X.K c ps ds)(v:bL a ds)(J:A7 CX X E)
  (I:Inv X i n H s) (r:bL vs j) (h:sp (vs++a) H Q E):wpAny (model X.prog X.w) X.A (call (.ref f) j) (EP X i n Q) X.xe s:=by
 have q:bL (vs++a) (j++ds):=r.append v
 have hl:(j++ds).length=ps.length:=by rw[<-q.length];show F.len _ _ _ _ h
 show wpAny_call (codeAny_mono (F.run X.A X.stack s H #[j,[]] (j++ds) (vs++a) Q E B I.env0 (z s j I.kIn hl) q h) λr y l=>?_)
 cases r with
 |error e=>show J i n H s e y I l
 | ok G=>
   cases G with
   |ret u=>show I.after l
   |next=>show False.elim l
   |brk=>show False.elim l
   |cont=>show False.elim l
def B3{X:Cx}{E:XK}(F:bB X.prog X.w X.K X.mg X.base CX k f c ps sp)(z:dU k X.A)(v:Gl X x)(J:X.mg x=some (.ref f))(y:PySem.W.keepIn X.K (.ref f)=true)(u:Binds X.K c ps ds)(n:bL a ds)(G:A7 CX X E)
  (M:PA X (e::es) t) (j:autoParam ((x==("__debug__":Str))=false) cV._auto_1) (he:autoParam (starEach (e::es) X.env=(false,eval e X.env)::starEach es X.env) db._auto_1) (hpl:autoParam ((backTo b<|starEach es X.env).any (·.1)=false) db._auto_1):
  PE X (.Call (.Name x p) (e::es) [] b) (E4 sp a E t):=by
 intro i s B H Q I h
 show wpAny_Call_Name_kw<|xT I v J ?_ j
 show PySem.W.callWith_K (h₀:=X.base) I.ok.mod.kin y (cE (M b i s B H _ I h) λR P ⟨N,H1,l,r,q⟩=>#[l.kIn,?_]) he hpl
 show GX F z u n G l r q
structure aI(N P:X6)(sc:Scope):Prop where
 kind:sc.kind=.function
 co:sc.isCoroutine=false
 gen:sc.isGenerator=false
 nd:N.Nodup
 pre:N.take P.length=P
 par:∀x∈P,sc.names.lookup x=some .local\/sc.names.lookup x=some .cell
 nofree:∀y∈sc.names,y.2≠.free
theorem vz:∀{a:List (Str×Value)} {m:X3},(∀v,(x,v)∉a)->bindL b a m x=m x
 | [],_,_=>rfl
 | (n,v)::r,m,h=>by
   unfold bindL
   rw[vz λw c=>h w (Qpq _ c)]
   split
   · have:x≠n:=by rintro rfl;show h v QBq
     simp[this]
   · rfl
theorem vN:∀{a:List (Str×Value)} {m:X3},(∀v,(x,v)∉a)->bindC b a m x=m x
 | [],_,_=>rfl
 | (n,v)::r,m,h=>by
   unfold bindC
   rw[vN λw c=>h w (Qpq _ c)]
   split
   · rfl
   · have:x≠n:=by rintro rfl;show h v QBq
     simp[this]
theorem vg{a:Str->Option NameKind}:∀{P:X6} {vs:X5} {i:Nat} {m:X3},P.Nodup->P[i]?=some x->vs[i]?=some v->a x=some .local->
  bindL a (P.zip vs) m x=some v
 | [],_,_,_,_,h,_,_=>by simp at h
 |_::_,[],_,_,_,_,h,_=>by simp at h
 | p::P,w::vs,0,m,nd,h1,h2,hk=>by
   simp at h1 h2;subst h1;subst h2
   show bindL a ((p,w)::P.zip vs) m p=_
   unfold bindL
   rw[vz λv b=>(List.nodup_cons.mp nd).1 (QeQ b).1,Qhq hk]
   simp
 | p::P,w::vs,i+1,m,nd,h1,h2,hk=>by
   show bindL a ((p,w)::P.zip vs) m x=_
   unfold bindL
   show vg (i:=i) (List.nodup_cons.mp nd).2 (by simpa using h1) (by simpa using h2) hk
theorem vL{a:Str->Option NameKind}:∀{P:X6} {vs:X5} {i:Nat} {m:X3},P.Nodup->P[i]?=some x->vs[i]?=some v->a x≠some .local->
  bindC a (P.zip vs) m x=some v
 | [],_,_,_,_,h,_,_=>by simp at h
 |_::_,[],_,_,_,_,h,_=>by simp at h
 | p::P,w::vs,0,m,nd,h1,h2,hk=>by
   simp at h1 h2;subst h1;subst h2
   show bindC a ((p,w)::P.zip vs) m p=_
   unfold bindC
   rw[vN λv b=>(List.nodup_cons.mp nd).1 (QeQ b).1,Quq hk]
   simp
 | p::P,w::vs,i+1,m,nd,h1,h2,hk=>by
   show bindC a ((p,w)::P.zip vs) m x=_
   unfold bindC
   show vL (i:=i) (List.nodup_cons.mp nd).2 (by simpa using h1) (by simpa using h2) hk
noncomputable def start(N:X6)(vs:List V):St:=vs.map some++List.replicate (N.length-vs.length) none
noncomputable def yX(CX:Em)(P:X9)(w:Xc)(K:X1)(mg:X3)(base:Xe)(N:X6)(b:Str)(a:Scope)(f:X8)(d:Xd)(A:X_)(outer:List Env)(s:X4)(H:Hp)(E:XK):Cx where
 prog:=P
 w:=w
 K:=K
 mg:=mg
 base:=base
 A:=A.deeper (envOfC b a s.heap.objs.size f d)
 N:=N
 s₀:=s
 H₀:=H
 env:=envOfC b a s.heap.objs.size f d
 outer:=outer
 stack:=envOfC b a s.heap.objs.size f d::outer
 ex:= []
 calm:=true
 fn:=λ_=>true
 pn:= []
 xe:=λe g=>wpAny (model P w) (A.deeper<|envOfC b a s.heap.objs.size f d) (leaving (envOfC b a s.heap.objs.size f d) e) (λ_ c=>CX outer H s E e c) (λh c=>CX outer H s E h c) g
def yo{a:Scope}(h:a.names.lookup x=some .cell):∃c,(cellsFrom n a.names []).lookup x=some c:=by
 let q:=PySem.W.cellsFrom_some a.names n [] (.inl h)
 show Option.isSome_iff_exists.mp q
def DG{CX:Em}{P:X9}{w:Xc}{K:X1}{M:X3}{m:Xe}{N ps:X6}{j:Str}{d:Scope}{f:X8}{I:Xd}{A:X_}{g:List Env}{s U:X4}{H:Hp}{E:XK}{Q:X5}{vs:List V}
  (S:aI N ps d) (X:A.handled=none) (o:HE P w K M m A g s H) (hl:vs.length=ps.length) (r:bL vs Q)
  (x:InCallC s s.heap.objs.size (bindL (envOfC j d s.heap.objs.size f I).kindOf (ps.zip Q) λ_=>none) (cellsFrom (s.heap.objs.size+1) d.names []) (bindC (envOfC j d s.heap.objs.size f I).kindOf (ps.zip Q) λ_=>none) U):
  Inv (yX CX P w K M m N j d f I A g s H E) [] (start N vs) H U:=by
 have Y:ps.length<=N.length:=by have:=congrArg List.length S.pre;rw[Qxq] at this;omega
 let#[G,tk,rfl,hk]:=x.done
 have B:∀b:Addr,b∉(yX CX P w K M m N j d f I A g s H E).ex:=λb z=>absurd (show b∈([]:List Addr) from z) (by simp)
 show⟨⟨o.mod,S.kind,L,L,Qmq _,λy z c G l=>?_,λy t=>?_,λy c _ h=>?_,λ_=>X,Around.frames_deeper o.frames,.inr ⟨rfl,L⟩,λb z=>absurd z (B b),o.bs,o.bsz,λb _ _=>B b,λb z=>absurd z (B b),o.funs,o.frf⟩,
  rfl,o.bare,Un.kept hk,#[_,x.toInCall.ns,λi y v G l h3=>?_],λy c h=>#[_,x.cell y c h],o.hok.fresh (Qmq _),λy c h=>?_,λp C=>absurd (show p∈([]:List (Addr×Obj)) from C) (by simp),o.hok.kept hk,?_⟩
 ·show name_of_addr x.apart (PySem.mem_of_lookup G)<|PySem.mem_of_lookup l
 ·have t:d.names.lookup y=some .cell\/d.names.lookup y=some .free:=t
  rcases t with t|t
  ·show yo t
  ·show absurd L<|S.nofree _<|PySem.mem_of_lookup t
 ·show nQl<|x.above y c<|PySem.mem_of_lookup h
 ·have J:i<vs.length:=by
   unfold start at l
   by_cases J:i<vs.length
   ·show J
   ·rw[QQq (by simpa using J)] at l
    rw[List.getElem?_replicate] at l
    split at l <;>cases l
  have ha:vs[i]?=some v:=by
   unfold start at l
   rw[QHq (by simpa using J),gQm] at l
   cases e:vs[i]? with
   |none=>rw[e] at l;cases l
   |some a=>rw[e] at l;cases l;rfl
  let#[u,R,Z]:=r.get ha
  have C:ps[i]?=some y:=by
   rw[<-S.pre,List.getElem?_take_of_lt (!0)];show G
  have F:ps.Nodup:=by rw[<-S.pre];show S.nd.sublist (List.take_sublist _ _)
  show#[u,Z,?_]
  rcases S.par y (mQg C) with k|k
  ·show .inl #[k,vg F C R k]
  ·let#[c,e]:=yo (n:=s.heap.objs.size+1) k
   show .inr #[.inl k,c,e,?_]
   let q:=x.cell y c e
   rw[vL F C R (by show d.names.lookup y≠_;rw[k];decide)] at q
   show q
 ·show o.hok.fresh<|nQl<|x.above y c<|PySem.mem_of_lookup h
 ·unfold start
  show _=N.length
  rw[lQa,lQm,QIq]
  omega
def Mb{K:X1}{dV kV G pm g ct oc:Xd}
    {sp:Sp} (lk:K.lookup f=some #[oc,od,.func (PySem.W.fnOf name d i j a dV kV G pm an g ct),Y]) (a0:PySem.W.codeIn K g d=true) (S:aI N ps a)
  (R:∀vs H Q E,sp vs H Q E->vs.length=ps.length)
  (z:∀(A:X_) (c:List Env) (s:X4) (H:Hp) (vs:List V) (Q:VK) (E:XK),dU k (A.deeper (envOfC d a s.heap.objs.size f g))->sp vs H Q E->
   ∃t,qY (yX CX P w K U h N d a f g A c s H E) j t/\t {nx:=λ_ m=>Q .non m,rt:=Q} (start N vs) H):
  bB P w K U h CX (k+1) f (PySem.W.fnOf name d i j a dV kV G pm an g ct) ps sp:=by
 show#[R,λA c s H a1 us vs Q E hr C hb r M=>?_]
 let hl:=R _ _ _ _ M
 have KX:K.In s.heap:=C.mod.kin.keeps λb o e=>(C.bs b o e).1
 have X:s.heap.NoLimit:=C.mod.nolimit.keeps λb o e=>(C.bs b o e).1
 have p:∀y∈ps.zip us,a.names.lookup y.1=some .local\/(a.names.lookup y.1=some .cell/\((cellsFrom (s.heap.objs.size+1) a.names []).lookup y.1).isSome=true):=λ⟨n,v⟩ hy=>by
  rcases S.par n (QeQ hy).1 with q|q
  ·show .inl q
  ·show .inr #[q,PySem.W.cellsFrom_some _ _ _<|.inl q]
 show codeAny_call_function hr.depth (KX _ _ lk) L S.co S.gen L (PySem.W.codeRec_of KX a0)<|hb _ _ _ _ ?_
 show wpAny_newFunctionEnv_cells S.kind p λa2 he s1 x=>?_
 subst he
 show#[X.keeps x.toInCall.keep,codeAny_func ?_]
 let#[t,ht,hq]:=z A c s H vs Q E (hr.deeper _) M
 have I:Inv (yX CX P w K U h N d a f g A c s H E) [] (start N vs) H s1:=DG S hr.hd C hl r x
 show QRq (ht [] s1 (start N vs) H _ I hq) (λfl Z B=>?_) λe Z B=>B
 have F:∀{l:St} {m:Hp} {v:V} {u:Xd},Inv (yX CX P w K U h N d a f g A c s H E) [] l m Z->RelV v u->Q v m->CE c P w H s Q u Z:=
  λ{l m v u} J rv q=>#[v,m,J.os,J.bare,J.base,J.hok,rv,q]
 cases fl with
 | ret u=>
   let#[v,l,m,J,rv,q]:=B
   show F J rv q
 | next=>
   let#[l,m,J,q]:=B
   show F (v:=V.non) (u:=Value.none) J L q
 | brk=>
   let#[_,_,_,q]:=B
   show False.elim q
 | cont=>
   let#[_,_,_,q]:=B
   show False.elim q
def NW(r:List V->Hp->VK->Prop)(t:TA):TE:=λc H Q=>t c H λb H1=>r b H1 Q
def jM{X:Cx}{x:Str}{p:Pos}{a:Pos}{e:Expr}{es:List Expr}{t:TA}{id:String}{r:List V->Hp->VK->Prop}(l:ic X (.builtin id) r)(g:Gl X x)(o:X.mg x=none)(u:bootBuiltins x=some (.builtin id))(v:PA X (e::es) t)(n:autoParam (x≠"__name__") cV._auto_1)(c:autoParam ((x==("__debug__":Str))=false) cV._auto_1)
  (he:autoParam (starEach (e::es) X.env=(false,eval e X.env)::starEach es X.env) db._auto_1) (hpl:autoParam ((backTo a<|starEach es X.env).any (·.1)=false) db._auto_1):PE X (.Call (.Name x p) (e::es) [] a) (NW r t):=by
 intro b s d H Q I h
 show wpAny_Call_Name_kw<|jh I g o u ?_ n c
 show PyProof.Rows.callWith_builtin1 (cE (v a b s d H _ I h) λq m ⟨j,H1,i,f,k⟩=>l b m d H1 j q Q i f k) he hpl
def D8{T:String}(l:ic X (.type T) r)(g:Gl X x)(o:X.mg x=none)(u:bootBuiltins x=some (.type T))(v:PA X (e::es) t)(n:autoParam (x≠"__name__") cV._auto_1)(c:autoParam ((x==("__debug__":Str))=false) cV._auto_1)
  (he:autoParam (starEach (e::es) X.env=(false,eval e X.env)::starEach es X.env) db._auto_1) (hpl:autoParam ((backTo a<|starEach es X.env).any (·.1)=false) db._auto_1):PE X (.Call (.Name x p) (e::es) [] a) (NW r t):=by
 intro b s d H Q I h
 show wpAny_Call_Name_kw<|jh I g o u ?_ n c
 show PyProof.Rows.callWith_type1 (cE (v a b s d H _ I h) λq m ⟨j,H1,i,f,k⟩=>l b m d H1 j q Q i f k) he hpl
def Bi{T:String}(i:ic X (.type T) r)(g:Gl X x)(d:X.mg x=none)(f:bootBuiltins x=some (.type T))(k:autoParam (x≠"__name__") cV._auto_1)(c:autoParam ((x==("__debug__":Str))=false) cV._auto_1):
  PE X (.Call (.Name x p) [] [] a) (NW r HC):=by
 intro b s j H Q I h
 show wpAny_Call_Name_kw<|jh I g d f ?_ k c
 show PyProof.Rows.callWith_type0<|i b s j H [] [] Q I .nil h
section
variable{a:Type}[DecidableEq a]
noncomputable def p_(kvs:List (a×V))(k:a):Option V:=(kvs.find? λb=>decide (b.1=k)).map (·.2)
noncomputable def putK(kvs:List (a×V))(k:a)(v:V):List (a×V):=
 if (kvs.any λb=>decide (b.1=k))=true then kvs.map (λb=>if b.1=k then(b.1,v) else b) else kvs++ [(k,v)]
def t_{p:a×V}(e:p.1=k):p_ (p::r) k=some p.2:=by simp[p_,List.find?_cons,e]
def tN{p:a×V}(e:¬p.1=k):p_ (p::r) k=p_ r k:=by simp[p_,List.find?_cons,e]
theorem yw(k:a):∀kvs:List (a×V),(kvs.any λkv=>decide (kv.1=k))=(p_ kvs k).isSome
 | []=>rfl
 | p::r=>by
   rw[List.any_cons]
   by_cases e:p.1=k
   · erw[t_ e,Qeq e,Bool.true_or,Option.isSome_some]
   · rw[tN e,Qdq e,Bool.false_or];show yw k r
def i6(kvs:List (a×V))(k:a)(v:V):(putK kvs k v).length<=kvs.length+1:=by
 unfold putK
 split
 ·rw[lQm];omega
 ·rw[lQa,Qnq,QGq];omega
def uC.isSome_eq(r:uC o u):o.isSome=u.isSome:=by
 cases o with
 | none=>cases u with
   |none=>rfl
   |some _=>show(show False from r).elim
 | some _=>cases u with
   |none=>show(show False from r).elim
   |some _=>rfl
def KV.val(r:KV kvs vs)(k:a):uC (p_ kvs k) (valueAt vs k):=by
 unfold KV at r
 induction r with
 |nil=>show True.intro
 | @cons p q ps qs h t ih=>
   let#[d,f]:=h
   by_cases e:p.1=k
   · have c:q.1=k:=d.symm.trans e
     have b:valueAt (q::qs) k=some q.2:=by simp[valueAt,List.find?_cons,c]
     rw[t_ e,b];show f
   · have c:¬q.1=k:=λz=>e (d.trans z)
     have b:valueAt (q::qs) k=valueAt qs k:=by simp[valueAt,List.find?_cons,c]
     rw[tN e,b];show ih
theorem KV.any(r:KV kvs vs)(k:a):(kvs.any λkv=>decide (kv.1=k))=vs.any λkv=>decide (kv.1=k):=by
 unfold KV at r
 induction r with
 |nil=>rfl
 |cons h t b=>rw[List.any_cons,List.any_cons,b,h.1]
def KV.repl(r:KV kvs vs)(k:a)(d:RelV y u):
  KV (kvs.map λkv=>if kv.1=k then(kv.1,y) else kv) (vs.map λkv=>if kv.1=k then(kv.1,u) else kv):=by
 unfold KV at r|-
 induction r with
 |nil=>show .nil
 | @cons p q ps qs h t ih=>
   rw[QDq,QDq]
   show .cons ?_ ih
   let#[b,c]:=h
   by_cases e:p.1=k
   · rw[Qhq e,Qhq (b.symm.trans e)];show#[b,d]
   · rw[Quq e,Quq (λz=>e<|b.trans z)];show#[b,c]
def KV.put(r:KV kvs vs)(k:a)(b:RelV y u):KV (putK kvs k y) (stored vs k u):=by
 unfold putK stored
 rw[r.any k]
 by_cases e:(vs.any λc=>decide (c.1=k))=true
 ·rw[Qhq e,Qhq e];show r.repl k b
 ·rw[Quq e,Quq e];show Paired.snoc r #[L,b]
def KV.length(r:KV kvs vs):kvs.length=vs.length:=Paired.length r
end
def z9(r:RelV (kV k) u):(bO P w).is k u=true:=by
 cases k with
 |inl i=>let#[t,e]:=(show∃t,u=Value.int i t from r);subst e;show ye P w i t
 |inr x=>let#[t,e]:=(show∃t,u=Value.str x t from r);subst e;show yz P w x t
theorem vf:∀{a:List Key} {b:X5},bL (a.map kV) b->ItemsAre (bO P w) a b
 | [],_,r=>by rw[List.map_nil] at r;cases r;show .nil
 | k::a,_,r=>by
   rw[QDq] at r
   cases r with
   |cons h t=>show .cons (z9 h) (vf t)
abbrev KT(H:Hp):List (List Key×V)->List (List Key×Addr×Value)->Prop:=Paired λp q=>p.1=q.1/\H q.2.1=some (.tup (p.1.map kV))/\RelV p.2 q.2.2
def KT.val(r:KT H kvs xs)(k:List Key):uC (p_ kvs k) ((atKey xs k).map (·.2)):=by
 induction r with
 |nil=>show True.intro
 | @cons p q ps qs h t ih=>
   let#[c,_,d]:=h
   by_cases e:p.1=k
   · have a:q.1=k:=c.symm.trans e
     have b:atKey (q::qs) k=some q.2:=by simp[atKey,List.find?_cons,a]
     rw[t_ e,b];show d
   · have a:¬q.1=k:=λz=>e (c.trans z)
     have b:atKey (q::qs) k=atKey qs k:=by simp[atKey,List.find?_cons,a]
     rw[tN e,b];show ih
def KT.repl(r:KT H kvs xs)(k:List Key)(d:RelV y u):
  KT H (kvs.map λkv=>if kv.1=k then(kv.1,y) else kv) (xs.map<|putAt k u):=by
 induction r with
 |nil=>show .nil
 | @cons p q ps qs h t ih=>
   rw[QDq,QDq]
   show .cons ?_ ih
   let#[a,b,c]:=h
   unfold putAt
   by_cases e:p.1=k
   · rw[Qhq e,Qhq (a.symm.trans e)];show#[a,b,d]
   · rw[Quq e,Quq (λz=>e<|a.trans z)];show#[a,b,c]
def KT.put(r:KT H kvs xs)(k:List Key)(d:H b=some (.tup (k.map kV)))(a:RelV y u):
  KT H (putK kvs k y) (storedH xs k b u):=by
 have e:(kvs.any λc=>decide (c.1=k))=(atKey xs k).isSome:=by
  rw[yw,(r.val k).isSome_eq,Option.isSome_map]
 unfold putK storedH
 rw[e]
 by_cases q:(atKey xs k).isSome=true
 ·rw[Qhq q,Qhq q];show r.repl k a
 ·rw[Quq q,Quq q];show Paired.snoc r #[L,d,a]
def KT.keeps{H a:Hp}(r:KT H kvs xs)(c:∀b ys,H b=some (.tup ys)->a b=some (.tup ys)):KT a kvs xs:=
 Paired.mapP r λ_ _ z=>#[z.1,c _ _ z.2.1,z.2.2]
def JF(ok:ou P w H h)(e:Rd H a u):cb P w H h a u:=e.ok ok
def GU(ok:ou P w H h)(e:Rd H a (.dK kvs)):kvs.length<=sizeLine/\(a==sysModules)=false/\∃vs,KV kvs vs/\h.DictOf (bO P w) a vs:=
 show cb P w H h a (.dK kvs) from JF ok e
def zp(ok:ou P w H h)(e:H a=some (.dK kvs)):kvs.length<=sizeLine/\(a==sysModules)=false/\∃vs,KV kvs vs/\h.DictOf (bO P w) a vs:=GU ok (.inl e)
def Bh{c:List Key}(ok:ou P w H h)(e:H a=some (.tup (c.map kV))):(tupleKind<|bO P w).is h c a:=by
 let#[_,b,r,o,f,d,_,n,g]:=(show cb P w H h a (.tup (c.map kV)) from ok a _ e)
 show#[o,b.toArray,n,f,d,g,by simpa using vf r]
def Gw(ok:ou P w H h)(e:Rd H a (.dT kvs)):kvs.length<=sizeLine/\(a==sysModules)=false∧
  ∃xs,KT H kvs xs/\h.DictOfH (tupleKind<|bO P w) a xs:=by
 let#[z,y,xs,r,o,j,n,g,d,k,f,i]:=(show cb P w H h a (.dT kvs) from JF ok e)
 show#[z,y,xs,r,o,j,n,g,d,k,f,λx b=>?_,i]
 have c:∀{l:List (List Key×V)} {m:List (List Key×Addr×Value)},KT H l m->∀x∈m,(tupleKind<|bO P w).is h x.1 x.2.1:=by
  intro l m q
  induction q with
  |nil=>intro x b;show nomatch b
  | @cons p q ps qs hq t ih=>
    intro x b
    rcases Qsq.mp b with e|b
    · subst e
      show Bh ok (by rw[<-hq.1];show hq.2.1)
    · show ih x b
 show c r x b
def Mq(ok:ou P w H h)(e:H a=some (.dT kvs)):kvs.length<=sizeLine/\(a==sysModules)=false∧
  ∃xs,KT H kvs xs/\h.DictOfH (tupleKind<|bO P w) a xs:=Gw ok (.inl e)
def Dl(H:Hp)(a:X8)(y:V)(r:Option V):Prop:=
 (∃c k,Rd H a (.dK c)/\y=kV k/\r=p_ c k)\/∃c k b,Rd H a (.dT c)/\y=.ref b/\H b=some (.tup (k.map kV))/\r=p_ c k
def GW(H:Hp)(a:X8)(y v:V)(d:Hp):Prop:=
 (∃c k,H a=some (.dK c)/\y=kV k/\c.length<sizeLine/\d=upd H a (.dK (putK c k v)))∨
 ∃c k b,H a=some (.dT c)/\y=.ref b/\H b=some (.tup (k.map kV))/\c.length<sizeLine/\d=upd H a (.dT (putK c k v))
def Dl.k{H:Hp}{a:X8}{kvs:List (Key×V)}{k:Key}(e:H a=some (.dK kvs)):Dl H a (kV k) (p_ kvs k):=.inl #[kvs,k,.inl e,L,L]
def GW.k{H:Hp}{a:X8}{kvs:List (Key×V)}{k:Key}{v:V}(e:H a=some (.dK kvs))(hl:kvs.length<sizeLine):GW H a (kV k) v (upd H a<|.dK (putK kvs k v)):=.inl #[kvs,k,e,L,hl,L]
def Inv.big(I:Inv X d f H s):sysModules<s.heap.objs.size:=by
 have h:mainGlobals<s.heap.objs.size:=(I.mod.glob.keeps I.bk).lt
 show Nat.lt_trans (!1) h
def DJ{A:X_}{E:X0}{Q:X0}(M:A.units+1<cLine)(I:Inv X d f H s)(g:Dl H a y (some v))(B:RelV y u)(h:∀j s',Inv X d f H s'->RelV v j->Q j s'):
  wpAny (model X.prog X.w) A (getItem (.ref a) u) Q E s:=by
 rcases g with⟨m,k,e,x,l⟩|⟨m,k,b,e,x,G,l⟩
 ·subst x
  let#[z,C,F,i,t]:=GU I.hok e
  let#[j,q,c]:=uC.some_of (v:=v) (o:=valueAt F k) (by rw[l];show i.val k)
  show wpAny_getItem_of (z9 B) t.mapOf q<|h j _ (I.tok _) c
 ·subst x
  cases (show u=Value.ref b from B)
  let#[z,C,K,i,t]:=Gw I.hok e
  let#[j,q,c]:=uC.some_of (v:=v) (o:=(atKey K k).map (·.2)) (by rw[l];show i.val k)
  let#[p,J,n]:=oQm.mp q
  show wpAny_getItem_heap (tupleKind_room_in1 M) (Bh I.hok G) t J ?_
  rw[n]
  show h j _ (I.tok _) c
def oE(I:Inv X d f H s)(j:Na (H a))(i:Heap.SameBut a s.heap h')(he:∃q,h'.get? a=some q)(c:cb X.prog X.w (upd H a g) h' a g):
  Inv X d f (upd H a g) {s with heap:=h',toks:=t'}:=
 I.write (x:=a) (e:=a) j (.inl L) (λb q h z=>(i.2 b h).trans z) he c
def sF{h':Xe}{kvs:List (Key×V)}(z:kvs.length<=sizeLine)(c:(a==sysModules)=false)(b:KV kvs vs)(g:h'.DictOf (bO P w) a vs):
  cb P w e h' a (.dK kvs):=#[z,c,vs,b,g]
def Ds{X:Cx}{d:X2}{f:St}{H:Hp}{s:X4}{a:X8}{y:V}{v:V}{u:Xd}{r:Xd}{A:X_}{E:X0}{P:Hp}{Q:Unit->Shared->Prop}(hu:A.units+1<cLine)(I:Inv X d f H s)(g:GW H a y v P)(N:RelV y u)(M:RelV v r)(h:∀s',Inv X d f P s'->Q () s'):
  wpAny (model X.prog X.w) A (setItem (.ref a) u r) Q E s:=by
 rcases g with⟨i,k,e,F,l,t⟩|⟨i,k,b,e,F,K,l,t⟩
 ·subst F t
  let#[z,p,S,j,C]:=zp I.hok e
  have x:S.length<=sizeLine:=by rw[<-j.length];show z
  have hl:(putK i k v).length<=sizeLine:=by have:=i6 i k v;omega
  show wpAny_setItem_pairs (hsz:=x) (z9 N) C λJ m B=>h _ ?_
  have he:∃q,J.get? a=some q:=let ⟨q,_,_,n,_⟩:=m;#[q,n]
  show oE I (by rw[e];show True.intro) B he<|sF hl p (j.put k M) m
 ·subst F t
  cases (show u=Value.ref b from N)
  let#[z,p,Y,j,C]:=Mq I.hok e
  have x:Y.length<=sizeLine:=by rw[<-Paired.length j];show z
  have hl:(putK i k v).length<=sizeLine:=by have:=i6 i k v;omega
  show wpAny_setItem_heap (hsz:=x) (tupleKind_room_in1 hu) (Bh I.hok K) C λJ m B=>h _ ?_
  let#[q,Z,ep,n,R,h3,U,_,W]:=m
  show oE I (by rw[e];show True.intro) B #[q,n] #[hl,p,_,(j.put k K M).keeps λc ys G=>?_,q,Z,ep,n,R,h3,U,W]
  rw[aU (ED G e (λz=>nomatch z))]
  show G
def HW(i:Expr):Prop:=∀b a,subscripted i false b a=operate [b,a] (getItem b a)
def CP{E:X0}{T id:String}
  (hl:typeLookup (.type T) "__getitem__"=pure (some<|.builtin id)) (n:HW a)
  (h:wpAny (model prog w) A (eval b env) (λo f=>wpAny (model prog w) A (eval a env) (λi c=>c.TypeIs o T/\wpAny (model prog w) A (getItem o i) Q E c) E f) E s):
  wpAny (model prog w) A (eval (.Subscript b a l) env) Q E s:=by
 show Subscript_ (QRq h (λo f j=>QRq j (λi c d=>?_) λ_ _ x=>x) λ_ _ x=>x)
 let#[m,d]:=d
 unfold subscriptTail
 show Qaq ?_
 rw[getitemInPython_of_ne m.not_modules]
 show Qaq<|wpAny_specialOf m hl ?_
 have g:wpAny (model prog w) A (subscripted a false o i) (λr e=>wpAny (model prog w) A (letTemporaryGo b o r >>= λ_=>pure r) Q E e) E c:=by
  rw[n o i]
  show wpAny_operating (QRq d (λr e k=>Qaq<|wpAny_letTemporaryGo<|Qgq k) λ_ _ x=>x)
 first
  |show Qgq (Qaq g)
  |show Qaq (Qgq<|Qaq g)
  |show Qaq g
def yT(I:Inv X c h H s)(g:Dl H a y o):s.TypeIs (.ref a) "dict":=by
 rcases g with⟨d,k,e,_,_⟩|⟨d,k,b,e,_,_,_⟩
 ·let#[_,_,i,_,f]:=GU I.hok e
  show f.typeIs
 ·let#[_,_,j,_,f]:=Gw I.hok e
  show f.typeIs
def MM(c d:TE):TE:=λb H Q=>c b H λx H1=>d b H1 λy H2=>∃a v,x=.ref a/\Dl H2 a y (some v)/\Q v H2
def ML(d e c:TE):TS:=λD b H=>c b H λv H1=>d b H1 λx H2=>e b H2 λy H3=>∃a H4,x=.ref a/\GW H3 a y v H4/\D.nx b H4
def G5{X:Cx}(C:X.A.units+1<cLine)(B:PE X o f)(hi:PE X i j)(K:HW i):PE X (.Subscript o i d) (MM f j):=by
 intro m s q H Q I h
 show CP PySem.F.slot_dict_getitem.lookup K (cE (B m s q H _ I h) λu G ⟨x,H1,t,J,z⟩=>cE (hi m G q H1 _ t z) λW S M=>?_)
 let#[y,H2,p,N,a,v,r,g,P]:=M
 subst r
 obtain rfl:u=Value.ref a:=J
 show#[yT p g,DJ C p g N λR U w n=>#[v,H2,w,n,P]]
def Hi{X:Cx}{d:Pos}(K:X.A.units+1<cLine)(J:PE X o f)(hi:PE X i j)(R:PE X b k)(P:swapsWith b (some<|.Subscript o i c) d.line X.env=pure false):
  PS X (.Assign [.Subscript o i c] b d) (ML f j k):=by
 intro m s n H D I h
 show wpAny_Assign_Subscript (cE (R m s n H _ I h) λr M ⟨v,H1,t,G,B⟩=>cE (J m M n H1 _ t B) λu z ⟨x,H2,F,N,S⟩=>cE (hi m z n H2 _ F S) λY W ⟨y,H3,w,Q,a,H4,p,g,C⟩=>?_) P
 subst p
 obtain rfl:u=Value.ref a:=N
 show Ds K w g Q G λU q=>#[n,H4,q,C]
def Fj(h:Xe)(a:sysModules<h.objs.size):cb P w H (h.push {cls:=.type "dict",data:=.dict (List.toArray [])}) h.objs.size (.dK []):=
 #[Nat.zero_le _,beq_eq_false_iff_ne.mpr<|Ne.symm<|Qwq a,[],.nil,Heap.DictOf.new h]
def Lc:TE:=λ_ H Q=>∀p,H p=none->Q (.ref p) (upd H p<|.dK [])
def Ff:PE X (.Dict [] [] b) Lc:=λc s d H Q I h=>
 wpAny_Dict_empty #[.ref s.heap.objs.size,_,I.laid (a:=s.heap.objs.size) (o:=.dK []) (t':=s.toks) (λ_ _ q=>Qcq _ q) (Qmq _)<|Fj s.heap I.big,L,h _<|I.hok.fresh<|Qmq _]
noncomputable def kz(kvs more:List (Key×V)):List (Key×V):=more.foldl (λa b=>putK a b.1 b.2) kvs
def KV.merge:∀{more:List (Key×V)} {rs:List (Key×Value)} {kvs:List (Key×V)} {vs:List (Key×Value)},KV more rs->KV kvs vs->KV (kz kvs more) (merged vs rs):=by
 intro more rs kvs vs r
 unfold KV at r
 induction r generalizing kvs vs with
 |nil=>intro q;show q
 | @cons p q ps qs h t ih=>
   intro a
   have e:KV (putK kvs p.1 p.2) (stored vs q.1 q.2):=by
     have:=a.put p.1 h.2
     rw[<-h.1];show this
   show ih e
theorem jg:∀(more kvs:List (Key×V)),(kz kvs more).length<=kvs.length+more.length
 | [],kvs=>by show kvs.length<=kvs.length+0;omega
 | p::r,kvs=>by
   let b:=jg r (putK kvs p.1 p.2)
   let a:=i6 kvs p.1 p.2
   show(kz (putK kvs p.1 p.2) r).length<=_
   rw[Qnq];omega
end L2
namespace HT
open PySem PyProof.Rows
section
open PySem.SeqAt
open PySem.AutoSeq1 (wpAny_loadPart')
open PySem.MeetsSeq PySem.MeetsSeq2 PySem.MeetsSeq3
end
def H_{E:X0}{s:X4}{vs ws:X5}{Q:X0}(u:IsTup s.heap t vs.toArray)(v:IsTup s.heap b ws.toArray)(o:vs≠[])
  (x:ws= []->Q (.ref t) s) (r:ws≠[]->Q (.ref s.heap.objs.size) {s with heap:=s.heap.push {cls:=.type "tuple",data:=.seq (vs++ws).toArray}})
  (hsz:vs.length+ws.length<=sizeLine):wpAny (model prog w) A (binaryOp .Add (.ref t)<|.ref b) Q E s:=by
 let#[#[cls,m,data,sl],i,q,n,k]:=id u
 let#[#[l,d,j,g],a,f,p,c]:=id v
 simp only at q k f c
 subst q k f c
 have e:vs.toArray++ws.toArray=(vs++ws).toArray:=by simp
 by_cases h:ws= []
 ·show concat_meets #[_,i,L] #[_,a,L] noFill_tuple_add seq_tuple_add PySem.F.slot_tuple_add PySem.F.entry_tuple_add (PySem.F.args_tuple_add_2 _ _)
   (tuple_addW1 t b vs.toArray ws.toArray n p m d sl g (by simpa using o) (by simp[h])) #[i,a,x h]
 ·show concat_meets #[_,i,L] #[_,a,L] noFill_tuple_add seq_tuple_add PySem.F.slot_tuple_add PySem.F.entry_tuple_add (PySem.F.args_tuple_add_2 _ _)
   (tuple_addW2 t b vs.toArray ws.toArray n p m d sl g (by simpa using o) (by simpa using h) (by rw[Qjq,Qjq];show hsz)) #[i,a,?_]
  rw[e]
  show r h
noncomputable def dP(n d:Nat):Option Int->Nat
 |none=>d
 |some v=>if v<0 then(v+(n:Int)).toNat else min v.toNat n
def sY(n d:Nat):dP n d none=d:=rfl
def rX(n d k:Nat):dP n d (some (k:Int))=min k n:=by
 show(if (k:Int)<0 then((k:Int)+(n:Int)).toNat else min (k:Int).toNat n)=min k n
 rw[Quq (!0),Int.toNat_natCast]
def KE(n d:Nat)(b:d<=n)(o:Xb):dP n d o<=n:=by
 cases o with
 |none=>show b
 | some v=>
   show(if v<0 then(v+(n:Int)).toNat else min v.toNat n)<=n
   by_cases a:v<0
   · rw[Qhq a];omega
   · rw[Quq a];show Nat.min_le_right _ _
def BU(v:Int)(n d:Nat):(if v<0 then max (v+(n:Int)) 0 else min v (n:Int))=((dP n d (some v):Nat):Int):=by
 show(if v<0 then max (v+(n:Int)) 0 else min v (n:Int))=(((if v<0 then(v+(n:Int)).toNat else min v.toNat n):Nat):Int)
 by_cases a:v<0
 ·erw[Qhq a];omega
 ·erw[Quq a];omega
def AO(lo hi:Xb)(n:Nat):Builtin.Slice.sliceAdjust lo hi 1 (n:Int)=(((dP n 0 lo:Nat):Int),((dP n n hi:Nat):Int)):=by
 have a:¬((1:Int)<0):=by omega
 unfold Builtin.Slice.sliceAdjust
 erw[a,if_false]
 show Prod.ext ?_ ?_
 ·cases lo with
  |none=>rfl
  |some v=>show BU v n 0
 ·cases hi with
  |none=>rfl
  |some v=>show BU v n n
def Bc(i j:Nat):Builtin.Slice.slicePlaces (i:Int) (j:Int) 1=j-i:=by
 unfold Builtin.Slice.slicePlaces
 have a:(1:Int)>0:=by omega
 erw[a,if_true,Int.ediv_one]
 split <;>omega
def ur{E:X0}{Q:Option Int->Shared->Prop}(p:IsPart v o)(h:Q o s):wpAny (model prog w) A (Builtin.Slice.slicePartIndex v) Q E s:=by
 cases p with
 |none=>show slicePart_none h
 |int i t=>show slicePart_int h
def jH{prog:X9}{w:Xc}{A:X_}{E:X0}{s:X4}{sl:X8}{d c:Xd}{lo hi:Xb}{n:Nat}{Q:Int×Int×Nat->Shared->Prop}(i:s.heap.IsSliceOf sl d c .none)(e:IsPart d lo)(f:IsPart c hi)
  (h:Q (((dP n 0 lo:Nat):Int),1,dP n n hi-dP n 0 lo) s):wpAny (model prog w) A (Builtin.Slice.sliceApplied (.ref sl)<|pure (n:Int)) Q E s:=by
 let#[j,a,g,b]:=id i
 unfold Builtin.Slice.sliceApplied Builtin.Slice.sliceFields
 show Qaq<|Qaq<|QMq a b (x:=d) L<|Qaq<|QMq a b (x:=c) L<|Qaq<|QMq a b (x:=.none) L<|Qgq ?_
 show Qaq<|slicePart_none ?_
 show wpAny _ _ (if ((1:Int)==0)=true then _ else _) _ _ s
 rw[Quq (!1)]
 show Qaq<|ur e<|Qaq<|ur f<|Qaq<|Qgq ?_
 show wpAny _ _ (match Builtin.Slice.sliceAdjust lo hi 1 (n:Int) with|(lo,hi)=>pure (lo,(1:Int),Builtin.Slice.slicePlaces lo hi 1)) _ _ s
 rw[AO lo hi n]
 show wpAny _ _ (pure (((dP n 0 lo:Nat):Int),(1:Int),Builtin.Slice.slicePlaces ((dP n 0 lo:Nat):Int) ((dP n n hi:Nat):Int) 1)) _ _ s
 rw[Bc]
 show Qgq h
def F1(xs:Xa)(i k:Nat):((List.range k).filterMap λ(m:Nat)=>xs[((i:Int)+(m:Int)*1).toNat]?).toArray=((xs.toList.drop i).take k).toArray:=by
 have e:(λ(m:Nat)=>xs[((i:Int)+(m:Int)*1).toNat]?)=λm=>xs[i+m]? :=by
  funext m
  have:((i:Int)+(m:Int)*1).toNat=i+m:=by omega
  rw[this]
 rw[e]
 have:=pick_run xs i k
 rw[List.filterMap_map] at this
 have a:((λx=>xs[x]?)∘λx=>i+x)=λm=>xs[i+m]? :=rfl
 rw[a] at this
 rw[this]
def o8{prog:X9}{w:Xc}{A:X_}{E:X0}{s:X4}{t sl:X8}{items:Xa}{i g:Xd}{lo hi:Xb}{Q:X0}(b:IsTup s.heap t items)(j:s.heap.IsSliceOf sl i g .none)(o:IsPart i lo)(p:IsPart g hi)
  (n:¬(dP items.size 0 lo=0/\dP items.size items.size hi=items.size))
  (h:Q (.ref s.heap.objs.size) {s with heap:=s.heap.push {cls:=.type "tuple",data:=.seq ((items.toList.drop<|dP items.size 0 lo).take (dP items.size items.size hi-dP items.size 0 lo)).toArray}})
  (hsz:items.size<=sizeLine):wpAny (model prog w) A (getItem (.ref t)<|.ref sl) Q E s:=by
 have a:sizeOk (.seq ((items.toList.drop<|dP items.size 0 lo).take (dP items.size items.size hi-dP items.size 0 lo)).toArray):=by
  show((items.toList.drop<|dP items.size 0 lo).take (dP items.size items.size hi-dP items.size 0 lo)).toArray.size<=sizeLine
  rw[Qjq,Qxq,List.length_drop,Array.length_toList]
  omega
 have u:dP items.size items.size hi<=items.size:=KE _ _ (Qmq _) hi
 let#[l,e,d,k]:=id j
 have f:s.TypeIs (.ref sl) "slice":=#[l,e,d]
 unfold getItem
 try with_reducible show QLq ?_
 first|show Qaq (Qgq ?_)|skip
 show Qaq<|wpAny_sequenceKey b.typeIs (!1) ?_
 show Qaq (QiQ (name:=Str.ofString "__getitem__") b.typeIs PyProof.Rows.slot_tuple_getitem
  (wpAny_call_entry PyProof.Rows.slot_tuple_getitem b.typeIs entry_tuple_getitem ?_ (args_tuple_getitem _ _)))
 show wpAny _ _ (Builtin.Tuple.tupleItemsOf (.ref t) >>= _) _ _ s
 show Qaq<|tupleItemsOf_ b ?_
 show Qaq<|wpAny_typeOf f ?_
 rw[Qhq (!1)]
 show Qaq<|jH j o p ?_
 have c:¬((((dP items.size 0 lo:Nat):Int)==0&&(1:Int)==1&&(dP items.size items.size hi-dP items.size 0 lo)==items.size)=true):=by
  intro q
  rw[QCq,QCq] at q
  have r:((dP items.size 0 lo:Nat):Int)=0:=eq_of_beq q.1.1
  have v:dP items.size items.size hi-dP items.size 0 lo=items.size:=eq_of_beq q.2
  show n #[by omega,by omega]
 show wpAny _ _ (if (((dP items.size 0 lo:Nat):Int)==0&&(1:Int)==1&&(dP items.size items.size hi-dP items.size 0 lo)==items.size)=true then _ else _) _ _ s
 rw[Quq c,F1]
 first
  |show Qaq (m:=Builtin.Tuple.tupleExact _) (QhQ (Qgq #[_,L,Qgq h]) a)
  |show Qaq (m:=Builtin.Tuple.tupleExact _) (QhQ (Qaq<|Qgq<|Qgq #[_,L,Qgq h]) a)
  |show Qaq (Qaq (m:=Builtin.Tuple.tupleExact _)<|QhQ (Qgq<|Qgq #[_,L,Qgq h]) a)
  |show Qaq (Qaq (m:=Builtin.Tuple.tupleExact _)<|QhQ (Qgq #[_,L,Qgq h]) a)
end HT
namespace L2
open PyProof.Rows
abbrev TO:=St->Hp->(Option Int->Hp->Prop)->Prop
def PO(X:Cx)(e:Option Expr)(t:TO):Prop:=
 ∀ (a:X2) (s:X4) (b:St) (H:Hp) (Q:Option Int->Hp->Prop),Inv X a b H s->t b H Q->
   wpAny (model X.prog X.w) X.A (evalPart e X.env) (λu d=>∃o c,Inv X a b c d/\IsPart u o/\Q o c) X.xe s
def IJ:TO:=λ_ H Q=>Q none H
def MN(t:TE):TO:=λa H Q=>t a H λx H1=>∃i,x=.int i/\Q (some i) H1
def HI:PO X none IJ:=by
 intro a s b H Q I h
 rw[evalPart_none]
 show Qgq #[none,H,I,.none,h]
def HZ(h:PE X e c):PO X (some e) (MN c):=by
 intro a s n H Q I b
 rw[evalPart_some]
 show cE (h a s n H _ I b) λu o m=>?_
 let#[x,H1,l,j,k]:=m
 let#[i,rfl,q]:=k
 let#[t,rfl]:=j
 show#[some i,H1,l,.int i t,q]
def Ow(X:Cx)(r:V->Option Int->Option Int->Hp->VK->Prop):Prop:=
 ∀ (a:X2) (s:X4) (i:St) (H:Hp) (x:V) (v h b:Xd) (lo hi:Xb) (sl:X8) (Q:VK),Inv X a i H s->RelV x v->s.heap.IsSliceOf sl h b .none->IsPart h lo->IsPart b hi->r x lo hi H Q->
   ∃T id,typeLookup (.type T) "__getitem__"=pure (some<|.builtin id)/\s.TypeIs v T/\wpAny (model X.prog X.w) X.A (getItem v<|.ref sl) (EP X a i Q) X.xe s
def Re(r:V->Option Int->Option Int->Hp->VK->Prop)(c:TE)(d th:TO):TE:=λa H Q=>c a H λx H1=>d a H1 λl H2=>th a H2 λu H3=>r x l u H3 Q
def y_{X:Cx}{e:Expr}{c:TE}{lo:Option Expr}{hi:Option Expr}{d:TO}{th:TO}{g:Pos}{f:Pos}{r:V->Option Int->Option Int->Hp->VK->Prop}(G:Ow X r)(he:PE X e c)(hl:PO X lo d)(M:PO X hi th):PE X (.Subscript e (.Slice lo hi none f) g) (Re r c d th):=by
 intro a s j H Q I h
 show Subscript_ (cE (he a s j H _ I h) λv N n=>?_)
 let#[x,H1,t,o,B]:=n
 show wpAny_Slice (cE (hl a N j H1 _ t B) λm z ⟨l,H2,F,J,P⟩=>cE (M a z j H2 _ F P) λk i n=>?_)
 let#[u,H3,y,K,C]:=n
 rw[evalPart_none]
 show Qgq ?_
 have p:Inv X a j H3 {i with heap:=i.heap.push {cls:=.type "slice",data:=.fields (List.toArray [m,k,.none])}}:=y.kept (t':=i.toks) λb R q=>Qcq _ q
 let#[T,id,hT,ht,hg]:=G a {i with heap:=i.heap.push {cls:=.type "slice",data:=.fields (List.toArray [m,k,.none])}} j H3 x v m k l u i.heap.objs.size Q p o (Heap.IsSliceOf.new ..) J K C
 show wpAny (model X.prog X.w) X.A (subscriptTail e (.Slice lo hi none f) v<|.ref i.heap.objs.size) (EP X a j Q) X.xe {i with heap:=i.heap.push {cls:=.type "slice",data:=.fields (List.toArray [m,k,.none])}}
 show tail_any (ops:= [.ref i.heap.objs.size,v]) ht hT hg (by with_unfolding_all rfl)
noncomputable def wj(xs:List V)(lo hi:Xb):List V:=(xs.drop<|HT.dP xs.length 0 lo).take (HT.dP xs.length xs.length hi-HT.dP xs.length 0 lo)
def qH(xs:List V)(lo hi:Xb):(wj xs lo hi).length<=xs.length:=by
 unfold wj
 rw[Qxq,List.length_drop]
 omega
def PM(K:X1):V->Option Int->Option Int->Hp->VK->Prop:=λx lo hi H Q=>∃a b,x=.ref a/\iJ K H a b∧
 ¬(HT.dP b.length 0 lo=0/\HT.dP b.length b.length hi=b.length)/\∀p,H p=none->Q (.ref p) (upd H p<|.tup (wj b lo hi))
def Kz:Ow X (PM X.K):=by
 intro n s B H x v A y lo hi sl Q I u w p t h
 let#[a,j,rfl,hx,hw,q]:=h
 cases u
 let#[k,r,l,m]:=I.tuple hx
 have i:k.toArray.size=j.length:=by rw[Qjq];show r.length.symm
 show#["tuple",_,PyProof.Rows.slot_tuple_getitem.lookup,l.typeIs,?_]
 show HT.o8 l w p t (by rw[i];show hw) ?_ (by rw[i];show m)
 rw[i]
 show#[.ref s.heap.objs.size,_,I.laid (t':=s.toks) (o:=.tup (wj j lo hi)) (λb z q=>Qcq _ q) (Qmq _) ?_,L,q _<|I.hok.fresh<|Qmq _]
 show#[QAq (qH j lo hi) m,_,(r.drop<|HT.dP j.length 0 lo).take (HT.dP j.length j.length hi-HT.dP j.length 0 lo),zH.new _ _]
def Jv(K:X1):R2:=λx y H Q=>∃a b i h,x=.ref a/\y=.ref b/\iJ K H a i/\iJ K H b h/\i≠[]/\i.length+h.length<=sizeLine∧
 (h= []->Q (.ref a) H)/\(h≠[]->∀p,H p=none->Q (.ref p) (upd H p<|.tup (i++h)))
def bL.nil_iff(r:bL xs a):a= []↔xs= []:=by
 cases r with
 |nil=>simp
 |cons _ _=>simp
def HD:jV X (binaryOp .Add) (Jv X.K):=by
 intro k s C H x y v u Q I r t h
 let#[a,b,p,A,rfl,rfl,ha,hb,hx,hz,q1,q2]:=h
 cases r
 cases t
 let#[m,j,n,_]:=I.tuple ha
 let#[l,i,f,_]:=I.tuple hb
 show HT.H_ n f (λz=>hx<|j.nil_iff.mp z) (λz=>#[.ref a,H,I,L,q1<|i.nil_iff.mp z]) (λz=>?_) (by rw[<-j.length,<-i.length];show hz)
 show#[.ref s.heap.objs.size,_,I.laid (t':=s.toks) (o:=.tup (p++A)) (λb B q=>Qcq _ q) (Qmq _) ?_,L,q2 (λw=>z<|i.nil_iff.mpr w) _<|I.hok.fresh<|Qmq _]
 show#[by rw[lQa];show hz,_,j.append i,zH.new _ _]
noncomputable def G2(n:Nat)(i:Int):Option Nat:=if 0<=i then(if i<n then some i.toNat else none) else if -(n:Int)<=i then some (i+n).toNat else none
noncomputable def mO(xs:List α)(i:Int):Option α:=(G2 xs.length i).bind λj=>xs[j]?
def B4(h:G2 n i=some j):seqIndex? i n=some j/\j<n/\ -(n:Int)<=i/\i<n:=by
 unfold G2 at h
 by_cases b:0<=i
 ·rw[Qhq b] at h
  by_cases a:i<n
  ·rw[Qhq a] at h
   have e:i.toNat=j:=QdQ h
   show#[by rw[seqIndex_of b a,e],by omega,by omega,a]
  ·rw[Quq a] at h;cases h
 ·rw[Quq b] at h
  by_cases a: -(n:Int)<=i
  ·rw[Qhq a] at h
   have e:(i+n).toNat=j:=QdQ h
   show#[by rw[seqIndex_neg (!0) a,e],by omega,a,by omega]
  ·rw[Quq a] at h;cases h
def wc(h:mO xs i=some v):∃j,seqIndex? i xs.length=some j/\xs[j]?=some v/\j<xs.length/\ -(xs.length:Int)<=i/\i<xs.length:=by
 unfold mO at h
 cases e:G2 xs.length i with
 |none=>rw[e] at h;cases h
 | some j=>
   rw[e] at h
   let#[c,a,d,b]:=B4 e
   show#[j,c,h,a,d,b]
def Cv(b:Expr):Prop:=∀o i,subscripted b false o i=operate [o,i] (getItem o i)
def G4(X:Cx)(r:R2):Prop:=
 ∀ (c a:Expr) (b:X2) (s:X4) (d:St) (H:Hp) (x y:V) (v u:Xd) (Q:VK),Inv X b d H s->RelV x v->RelV y u->r x y H Q->
   subscripted a false v u=operate [v,u] (getItem v u)->wpAny (model X.prog X.w) X.A (subscriptTail c a v u) (EP X b d Q) X.xe s
def Oj(X:Cx)(id:String)(r:V->List V->Hp->VK->Prop):Prop:=
 ∀ (a:X2) (s:X4) (d:St) (H:Hp) (x:V) (c:List V) (v:Xd) (b:X5) (Q:VK),Inv X a d H s->RelV x v->bL c b->r x c H Q->
   wpAny (model X.prog X.w) X.A (call (.builtin id) (v::b)) (EP X a d Q) X.xe s
def G4.or(h:G4 X r)(h':G4 X f):G4 X (λx y H Q=>r x y H Q\/f x y H Q):=by
 intro d c e s k H x y v u Q I g j q i
 rcases q with q|q
 ·show h d c e s k H x y v u Q I g j q i
 ·show h' d c e s k H x y v u Q I g j q i
def Ng(g:G4 X r)(m:PE X a F)(d:PE X b C)(j:Cv b):PE X (.Subscript a b B) (G1 r F C):=by
 intro c s l H Q I h
 show Subscript_ (LC m d I h λv u e x y H2 f i k q=>g a b c e l H2 x y v u Q f i k q<|j _ _)
def NL(K:X1):R2:=λx y H Q=>∃p c i v,x=.ref p/\y=.int i/\i8 K H p c/\mO c i=some v/\Q v H
def Mc(K:X1):R2:=λx y H Q=>∃p c i v,x=.ref p/\y=.int i/\iJ K H p c/\mO c i=some v/\Q v H
def Mj:R2:=λx y H Q=>∃z i c,x=.str z/\y=.int i/\z.length<=sizeLine/\mO z.cps.toList i=some c/\Q (.str #[(List.toArray [c])]) H
def HK:G4 X (NL X.K):=by
 intro g f c s J H x y v u Q I S U h G
 let#[p,Y,i,z,rfl,rfl,hq,he,q]:=h
 cases S
 let#[t,rfl]:=U
 let#[l,r,m,W]:=I.list hq
 let#[j,e,N,Z,P,R]:=wc he
 let#[w,A,k]:=r.get N
 let hl:=r.length
 let hn:=nF
 have d:EP X c J Q w s:=#[z,H,I,k,q]
 by_cases o:0<=i
 ·have n:i.toNat=j:=by
   rw[seqIndex_of o R] at e
   show QdQ e
  show item_listR m.isList o (!0) (by rw[n];simpa using A) d G
 ·have n:(i+(l.toArray.size:Int)).toNat=j:=by
   rw[seqIndex_neg (!0) P] at e
   rw[Qjq,<-hl]
   show QdQ e
  show subscriptTail_builtinR (x:=w) m.isList.typeIs slot_list_getitem.lookup
   (wpAny_getItem_list_neg (Q:=λr M=>r=w/\EP X c J Q r M) m.isList (!0) (by rw[Qjq] <;>omega) (!0) (by rw[n];simpa using A) #[L,d]) G
def K6:G4 X (Mc X.K):=by
 intro e d c s l H x y v u Q I J N h M
 let#[p,U,i,z,rfl,rfl,hq,he,q]:=h
 cases J
 let#[t,rfl]:=N
 let#[o,r,k,S]:=I.tuple hq
 let#[j,A,n,W,P,R]:=wc he
 let#[w,G,g]:=r.get n
 let hl:=r.length
 let Y:=nF
 have f:EP X c l Q w s:=#[z,H,I,g,q]
 show subscriptTail_builtinR (x:=w) k.typeIs slot_tuple_getitem.lookup
  (getItem_tuple (j:=j) (Q:=λr m=>r=w/\EP X c l Q r m) k (!0) (!0) (by rw[Qjq,<-hl];show A) (by simpa using G) #[L,f]) M
def KU:G4 X Mj:=by
 intro e d g s J H x y v u Q I o r h p
 let#[z,i,c,rfl,rfl,hz,he,q]:=h
 let#[t,rfl]:=o
 let#[A,rfl]:=r
 let#[j,f,k,G,l,m]:=wc he
 have hl:z.cps.toList.length=z.length:=by simp[Str.length]
 rw[hl] at f l m
 let K:=nF
 show tail_any (typeIs_str s z t) slot_str_getitem.lookup (getItem_str (c:=c) (by
  have w:decide (i< -(2^63:Int))=false:=Qdq (!0)
  have n:decide (i>=2^63)=false:=Qdq (!0)
  rw[w,n,Bool.or_false]) (by rw[f];simpa using k) #[.str #[(List.toArray [c])],H,I.tok _,#[_,L],q]) p
def QQ(K:X1):R2:=λx y H Q=>NL K x y H Q\/Mc K x y H Q\/Mj x y H Q
def Ly:G4 X (QQ X.K):=HK.or (K6.or KU)
def AC(c:X5)(n j:Nat)(u:Xd):Obj.mapSeq (·.setIfInBounds j u) {cls:=.type "list",data:=.seq c.toArray n}={cls:=.type "list",data:=.seq (c.set j u).toArray n}:=by
 simp[Obj.mapSeq]
def Inv.lst(I:Inv X d f H s)(h:H p=some (.lst xs)):
  ∃(c:X5) (n:Nat),bL xs c/\s.heap.get? p=some {cls:=.type "list",data:=.seq c.toArray n}/\xs.length<=sizeLine:=by
 let#[z,c,n,r,e]:=I.hok p _ h
 show#[c,n,r,e,z]
def Inv.lstUpd{d its':X5}(I:Inv X c j H s)(h:H p=some (.lst xs))
  (l:s.heap.get? p=some {cls:=.type "list",data:=.seq d.toArray n}) (i:f {cls:=.type "list",data:=.seq d.toArray n}={cls:=.type "list",data:=.seq its'.toArray g}) (r:bL ys its') (hz:ys.length<=sizeLine) (t:Nat):
  Inv X c j (upd H p<|.lst ys) {s with heap:=s.heap.update p f,toks:=t}:=by
 have e:(s.heap.update p f).get? p=some {cls:=.type "list",data:=.seq its'.toArray g}:=by
  rw[Heap.get?_update_self f l (by rw[i] <;>rfl),i]
 show I.write (x:=p) (e:=p) (by rw[h];trivial) (.inl L) (λb u k q=>(Heap.get?_update_other _ _<|Ne.symm k).trans q) #[_,e] ?_
 show#[hz,its',g,r,e]
def Jr:V->V->V->Hp->(Hp->Prop)->Prop:=λo i v H Q=>∃p c k j,o=.ref p/\i=.int k/\H p=some (.lst c)/\G2 c.length k=some j/\Q (upd H p<|.lst (c.set j v))
def set_list:NR X Jr:=by
 intro d s J H o i v N R u Q I y K z h
 let#[p,G,k,j,rfl,rfl,hp,hj,q]:=h
 cases y
 let#[t,rfl]:=K
 let#[c,n,r,g,A]:=I.lst hp
 let#[e,M,x,m]:=B4 hj
 let hl:=r.length
 let P:=nF
 have w:Inv X d J (upd H p<|.lst (G.set j v)) {s with heap:=s.heap.update p (Obj.mapSeq (·.setIfInBounds j u))}:=
  I.lstUpd hp g (AC c n j u) (r.set z j) (by rw[List.length_set];show A) s.toks
 by_cases l:0<=k
 ·have f:k.toNat=j:=by
   rw[seqIndex_of l m] at e
   show QdQ e
  show PySem.W.ki_setAt g l (!0) (by rw[Qjq,<-hl];show m) (by rw[f];show#[_,w,q])
 ·have f:(k+(c.toArray.size:Int)).toNat=j:=by
   rw[seqIndex_neg (!0) x] at e
   rw[Qjq,<-hl]
   show QdQ e
  show PySem.W.ki_setBack g (!0) (by rw[Qjq,<-hl];show x) (!0) (by rw[f];show#[_,w,q])
def xc(lo hi:Xb)(n:Nat):(sliceBounds lo hi none n).1=((HT.dP n 0 lo:Nat):Int)/\(sliceBounds lo hi none n).2.1=((HT.dP n n hi:Nat):Int)/\(sliceBounds lo hi none n).2.2=1:=by
 show#[?_,?_,L]
 ·cases lo with
  |none=>simp[sliceBounds,HT.dP]
  | some i=>
    erw[sliceBounds,HT.dP,Option.getD_none,show(1:Int)>0 by decide,if_true]
    by_cases h:i<0
    · erw[h,if_true] <;>omega
    · erw[h,if_false] <;>omega
 ·cases hi with
  |none=>simp[sliceBounds,HT.dP]
  | some i=>
    erw[sliceBounds,HT.dP,Option.getD_none,show(1:Int)>0 by decide,if_true]
    by_cases h:i<0
    · erw[h,if_true] <;>omega
    · erw[h,if_false] <;>omega
def uK(c:X5)(lo hi:Xb):slicePick c.toArray lo hi none=((c.drop<|HT.dP c.length 0 lo).take (HT.dP c.length c.length hi-HT.dP c.length 0 lo)).toArray:=by
 let#[e,d,f]:=xc lo hi c.toArray.size
 unfold slicePick
 rw[e,d,f]
 erw[sliceRange_one,pick_run,Qjq] <;>rfl
def Pn(K:X1):V->Option Int->Option Int->Hp->VK->Prop:=λx d e H Q=>∃a c,x=.ref a/\i8 K H a c/\∀p,H p=none->Q (.ref p) (upd H p<|.lst (wj c d e))
def Hd:Ow X (Pn X.K):=by
 intro i s y H x v w t e f sl Q I n p l m h
 let#[a,c,rfl,hx,q]:=h
 cases n
 let#[j,r,g,k]:=I.list hx
 let d:=r.length
 show#["list",_,slot_list_getitem.lookup,g.isList.typeIs,?_]
 show wpAny_getItem_list_slice g.isList p l m .none (by simp) ?_ (by rw[Qjq] <;>omega)
 rw[uK,<-d]
 show#[.ref s.heap.objs.size,_,I.laid (t':=s.toks) (o:=.lst (wj c e f)) (λb u q=>Qcq _ q) (Qmq _) ?_,L,q _<|I.hok.fresh<|Qmq _]
 show#[QAq (qH c e f) k,_,0,(r.drop<|HT.dP c.length 0 e).take (HT.dP c.length c.length f-HT.dP c.length 0 e),Qrq _ L]
noncomputable def gW:V->Bool
 |.non=>true
 |.bl _=>true
 |.int _=>true
 |.str _=>true
 |_=>false
noncomputable def rF:V->V->Bool
 |.non,.non=>true
 |.bl a,.bl b=>a==b
 |.bl a,.int b=>(if a then 1 else 0)==b
 |.int a,.bl b=>a==(if b then 1 else 0)
 |.int a,.int b=>a==b
 |.str a,.str b=>a==b
 |_,_=>false
def FB(f:RelV y u)(c:RelV x v)(g:gW y=true)(e:gW x=true):SeqAt.EqAt A s u v (rF y x):=by
 cases y with
 | non=>
   cases f
   cases x with
   |non=>cases c;show SeqAt.EqAt.same _
   |bl b=>cases c;show SeqAt.EqAt.none_bool b
   |int b=>let#[t,rfl]:=c;show SeqAt.EqAt.none_int b t
   |str b=>let#[t,rfl]:=c;show SeqAt.EqAt.none_str b t
   |_=>show absurd (show false=true from e) Qtq
 | bl a=>
   cases f
   cases x with
   |non=>cases c;show SeqAt.EqAt.bool_none a
   |bl b=>cases c;show SeqAt.EqAt.bool_bool a b
   |int b=>let#[t,rfl]:=c;show SeqAt.EqAt.bool_int a b t
   |str b=>let#[t,rfl]:=c;show SeqAt.EqAt.bool_str a b t
   |_=>show absurd (show false=true from e) Qtq
 | int a=>
   let#[d,rfl]:=f
   cases x with
   |non=>cases c;show SeqAt.EqAt.int_none a d
   |bl b=>cases c;show SeqAt.EqAt.int_bool a d b
   |int b=>let#[t,rfl]:=c;show SeqAt.EqAt.int_int a d b t
   |str b=>let#[t,rfl]:=c;show SeqAt.EqAt.int_str a d b t
   |_=>show absurd (show false=true from e) Qtq
 | str a=>
   let#[d,rfl]:=f
   cases x with
   |non=>cases c;show SeqAt.EqAt.str_none a d
   |bl b=>cases c;show SeqAt.EqAt.str_bool a d b
   |int b=>let#[t,rfl]:=c;show SeqAt.EqAt.str_int a d b t
   |str b=>let#[t,rfl]:=c;show SeqAt.EqAt.str_str a d b t
   |_=>show absurd (show false=true from e) Qtq
 |_=>show absurd (show false=true from g) Qtq
noncomputable def Ae(x:V)(u:Xd):Bool:=match u with
 |.none=>rF .non x
 |.bool b=>rF (.bl b) x
 |.int i _=>rF (.int i) x
 |.str z _=>rF (.str z) x
 |_=>false
def wx(r:RelV y u)(f:gW y=true):Ae x u=rF y x:=by
 cases y with
 |non=>cases r;rfl
 |bl b=>cases r;rfl
 |int i=>let#[t,rfl]:=r;rfl
 |str z=>let#[t,rfl]:=r;rfl
 |_=>show absurd (show false=true from f) Qtq
theorem o_:∀{xs:List V} {c:X5},bL xs c->xs.all gW=true->c.any (Ae x)=xs.any λy=>rF y x
 |_,_,.nil,_=>rfl
 | y::xs,u::c,.cons r t,f=>by
   rw[List.all_cons,QCq] at f
   rw[List.any_cons,List.any_cons,wx r f.1,o_ t f.2]
theorem jq(g:RelV x v)(e:gW x=true):∀{xs:List V} {d:X5},bL xs d->xs.all gW=true->∀u∈d,SeqAt.EqAt A s u v (Ae x u)
 |_,_,.nil,_=>λu c=>by cases c
 | y::xs,u::d,.cons r t,f=>λh c=>by
   rw[List.all_cons,QCq] at f
   rcases Qsq.mp c with rfl|c
   · rw[wx r f.1];show FB r g f.1 e
   · show jq g e t f.2 h c
noncomputable def FI(x:V)(xs:List V):Bool:=xs.any λy=>rF y x
def Pu(K:X1)(d:Bool):R2:=λx y H Q=>∃p c,y=.ref p/\(i8 K H p c\/iJ K H p c)/\gW x=true/\c.all gW=true/\Q (.bl (if d then !FI x c else FI x c)) H
def Ea:jV X (compareOp .In) (Pu X.K false):=by
 intro g s m H x y v u Q I i k h
 let#[p,l,rfl,d,fx,fs,q]:=h
 cases k
 rcases d with d|d
 ·let#[c,r,f,j]:=I.list d
  show SeqAt.in_listAt (Ae x) f.isList (λw e=>jq i fx r fs w (by simpa using e)) #[.bl _,H,I,L,?_]
  rw[show c.toArray.any (Ae x)=c.any (Ae x) by simp,o_ r fs]
  show q
 ·let#[c,r,f,j]:=I.tuple d
  show SeqAt.in_tupleAt (Ae x) f (λw e=>jq i fx r fs w (by simpa using e)) #[.bl _,H,I,L,?_]
  rw[show c.toArray.any (Ae x)=c.any (Ae x) by simp,o_ r fs]
  show q
def vU:jV X (compareOp .NotIn) (Pu X.K true):=by
 intro g s m H x y v u Q I i k h
 let#[p,l,rfl,d,fx,fs,q]:=h
 cases k
 rcases d with d|d
 ·let#[c,r,f,j]:=I.list d
  show SeqAt.notIn_listAt (Ae x) f.isList (λw e=>jq i fx r fs w (by simpa using e)) #[.bl _,H,I,L,?_]
  rw[show c.toArray.any (Ae x)=c.any (Ae x) by simp,o_ r fs]
  show q
 ·let#[c,r,f,j]:=I.tuple d
  show SeqAt.notIn_tupleAt (Ae x) f (λw e=>jq i fx r fs w (by simpa using e)) #[.bl _,H,I,L,?_]
  rw[show c.toArray.any (Ae x)=c.any (Ae x) by simp,o_ r fs]
  show q
def wF:ic X (.builtin "len") (λxs H Q=>∃p ys,xs= [.ref p]/\(i8 X.K H p ys\/iJ X.K H p ys)/\Q (.int ys.length) H):=by
 intro i s k H xs m Q I r h
 let#[p,ys,rfl,d,q]:=h
 let#[u,rfl,rx]:=vals1 r
 cases rx
 let l:=nF
 rcases d with d|d
 ·let#[f,e,g,j]:=I.list d
  let c:=e.length
  show Calls.call_len_list g.isList (by erw[Qjq] <;>omega) #[.int ys.length,H,I.tok _,#[s.toks+1,by rw[Qjq,c]],q]
 ·let#[f,e,g,j]:=I.tuple d
  let c:=e.length
  show len_tuple g (by erw[Qjq] <;>omega) #[.int ys.length,H,I.tok _,#[s.toks+1,by rw[Qjq,c]],q]
def uX:ic X (.type "tuple") (λxs H Q=>∃p ys,xs= [.ref p]/\((i8 X.K H p ys/\∀l,H l=none->Q (.ref l) (upd H l<|.tup ys))\/(iJ X.K H p ys/\Q (.ref p) H))):=by
 intro c s t H xs y Q I r h
 let#[p,ys,rfl,h]:=h
 let#[u,rfl,rx]:=vals1 r
 cases rx
 rcases h with⟨i,q⟩|⟨i,q⟩
 ·let#[d,g,j,n]:=I.list i
  let m:=g.length
  show call_tuple_list j.isList (λf v=>?_) (by erw[Qjq] <;>omega)
  have k:Inv X c t H {s with heap:=f}:=I.kept (t':=s.toks) v
  have x:Inv X c t (upd H f.objs.size<|.tup ys) {s with heap:=f.push {cls:=.type "tuple",data:=.seq d.toArray}}:=
   k.laid (t':=s.toks) (λb o e=>Qcq _ e) (Qmq _) (show cb X.prog X.w _ _ _ (.tup ys) from#[n,d,g,zH.new _ _])
  show#[.ref f.objs.size,_,x,L,q _<|k.hok.fresh<|Qmq _]
 ·let#[d,g,j,n]:=I.tuple i
  show call_tuple_same j #[.ref p,H,I,L,q]
def QT(K:X1)(T:String)(x:V)(H:Hp):Prop:=match x with
 |.str _=>T="str"
 |.int _=>T="int"
 |.ref p=>(T="list" /\∃d,i8 K H p d)\/(T="tuple" /\∃o,K.lookup p=some o/\o.cls=.type "tuple" /\o.dict=none)∨
   (T="dict" /\((∃c,H p=some (.dK c))\/∃c,H p=some (.dT c)))\/(T="set" /\∃S n,H p=some (.set S n))
 |_=>False
def Kt{T:String}(I:Inv X g w H s)(r:RelV x v)(h:QT X.K T x H):
  s.TypeIs v T/\∀a,v=.ref a->∃m,s.heap.get? a=some m/\m.dict=none:=by
 cases x with
 | str z=>
   let#[t,rfl]:=r
   cases (show T="str" from h)
   show#[typeIs_str s z t,λ_ e=>nomatch e]
 | int i=>
   let#[t,rfl]:=r
   cases (show T="int" from h)
   show#[typeIs_int s i t,λ_ e=>nomatch e]
 | ref p=>
   cases r
   rcases h with⟨rfl,xs,hq⟩|⟨rfl,o,d,hc,j⟩|⟨rfl,d⟩|⟨rfl,S,n,d⟩
   · let#[u,_,q,_]:=I.list hq
     show#[q.isList.typeIs,λa e=>?_]
     cases e
     let#[o,n,e,c,j,_]:=q
     show#[o,e,j]
   · show#[#[o,I.kIn p o d,hc],λa e=>?_]
     cases e
     show#[o,I.kIn _ o d,j]
   · have z:∃o,s.heap.get? p=some o/\o.ExactDict:=by
       rcases d with⟨k,d⟩|⟨k,d⟩
       · let#[_,_,_,_,o,_,_,e,f,_]:=I.hok p _ d
         show#[o,e,f]
       · let#[_,_,_,_,o,_,_,e,f,_]:=I.hok p _ d
         show#[o,e,f]
     let#[o,e,f]:=z
     show#[#[o,e,f.1],λa l=>?_]
     cases l
     show#[o,e,f.2.1]
   · let#[o,_,_,_,e,f,_]:=I.hok p _ d
     show#[#[o,e,f.1],λa l=>?_]
     cases l
     show#[o,e,f.2.1]
 |_=>show False.elim h
def Os(K:X1)(T:String)(r:V->List V->Hp->VK->Prop)(m:TE)(t:TA):TE:=λc H Q=>m c H λx H1=>QT K T x H1/\t c H1 λd H2=>r x d H2 Q
def zO{X:Cx}{o:Expr}{e:Expr}{es:List Expr}{m:TE}{t:TA}{name:Str}{g:Pos}{d:Pos}{T:String}{id:String}{r:V->List V->Hp->VK->Prop}(pa:PlainAttrs T)(k:Slot T name id)(n:typeOf (.builtin id)=pure (.type "method_descriptor"))(Y:Oj X id r)(N:PE X o m)(ha:PA X (e::es) t)
  (i:autoParam (attributeBase o name X.env (eval o X.env)=eval o X.env) db._auto_1)
  (l:autoParam (((backTo d (starEach (e::es) X.env)).all (λx=> !x.1)&&(backToKw d (keywordEach [] X.env)).all (λx=>x.1.isSome)
   &&decide ((e::es).length+([]:List Keyword).length+(if ([]:List Keyword).isEmpty then 0 else 1)<30))=true) db._auto_1)
  (j:autoParam ((g.endLine==d.line)=true) db._auto_1) (R:autoParam (starEach (e::es) X.env=(false,eval e X.env)::starEach es X.env) db._auto_1) (f:autoParam ((backTo d<|starEach es X.env).any (·.1)=false) db._auto_1):
  PE X (.Call (.Attribute o name g) (e::es) [] d) (Os X.K T r m t):=by
 intro c s p H Q I h
 show wpAny_Call_method_late i l j L (cE (N c s p H _ I h) λv P S=>?_)
 let#[x,H1,u,q,U,G]:=S
 let#[J,y]:=Kt u q U
 show#[T,id,pa,k,n,J,y,?_]
 let w:=ha d c P p H1 _ u G
 rw[R] at w|-
 show Calls.callWith_builtin (by show(false||(backTo d<|starEach es X.env).any (·.1))=false;rw[f] <;>rfl)<|Calls.evalArgs_plain ?_
 show cE w λZ A ⟨z,H2,M,W,q2⟩=>Y c A p H2 x z v Z Q M q W q2
def P_(X:Cx)(id:String)(r:V->List V->Hp->VK->Prop):Prop:=
 ∀ (a:X2) (s:X4) (d:St) (H:Hp) (x:V) (c:List V) (v:Xd) (b:X5) (Q:VK),Inv X a d H s->RelV x v->bL c b->r x c H Q->
   wpAny (model X.prog X.w) X.A (call (.builtin id) (v::b)) (EP X a d Q) X.xe s
def bL.one:∀{x:V} {a:X5},bL [x] a->∃u,a= [u]/\RelV x u
 |_,_,.cons r .nil=>#[_,L,r]
theorem bL.rep(h:bL xs a):∀k:Nat,bL (List.replicate k xs).flatten (List.replicate k a).flatten
 |0=>.nil
 | k+1=>by
   rw[QNq,QNq,List.flatten_cons,List.flatten_cons]
   show bL.append h<|bL.rep h k
theorem foldl_rep(a:X5):∀(k:Nat) (b:X5),
  List.foldl (λd f=>d++f) b.toArray (List.replicate k a.toArray)=(b++(List.replicate k a).flatten).toArray
 |0,b=>by simp
 | k+1,b=>by
   have e:b.toArray++a.toArray=(b++a).toArray:=by simp
   have c:(b++a)++(List.replicate k a).flatten=b++(List.replicate (k+1) a).flatten:=by
     rw[QNq,List.flatten_cons,Qvq]
   rw[<-c,<-foldl_rep a k (b++a),<-e,QNq,List.foldl_cons]
def Inv.lset{g its':X5}{f:Array Value->Array Value}(I:Inv X a c H s)(j:H l=some (.lst xs))
  (e:s.heap.get? l=some {cls:=.type "list",data:=.seq g.toArray n}) (h:f g.toArray=its'.toArray) (i:bL ys its') (hz:ys.length<=sizeLine):
  Inv X a c (upd H l<|.lst ys) {s with heap:=s.heap.update l (Obj.mapSeq f),toks:=t'}:=by
 let q:=PySem.IsL.update e f
 rw[h] at q
 show I.write (x:=l) (e:=l) (by rw[j];show trivial) (.inl L) (λo u m k=>(Heap.get?_update_other s.heap (Obj.mapSeq f)<|Ne.symm m).trans k) #[_,q] ?_
 show#[hz,its',_,i,q]
def Inv.lnew(I:Inv X a c H s)(f:bL ys e)(hz:ys.length<=sizeLine):
  Inv X a c (upd H s.heap.objs.size<|.lst ys) {s with heap:=s.heap.push {cls:=.type "list",data:=.seq e.toArray},toks:=t'}:=
 I.laid (λ_ _ q=>Qcq _ q) (Qmq _) #[hz,e,0,f,Qrq _ L]
def Inv.fresh(I:Inv X a c H s):H s.heap.objs.size=none:=I.hok.fresh (Qmq _)
def Inv.lstM(I:Inv X a c H s)(g:H l=some (.lst xs)):xs.length<=sizeLine/\∃(f:X5) (n:Nat),bL xs f/\xs.length=f.length/\s.heap.get? l=some {cls:=.type "list",data:=.seq f.toArray n}:=by
 let#[z,f,n,r,e]:=I.hok l _ g
 show#[z,f,n,r,r.length,e]
def ue(h:n<=sizeLine):Builtin.List.listTooLong n=false:=by
 unfold Builtin.List.listTooLong
 show Qdq (!0)
def Cu:V->List V->Hp->VK->Prop:=λx b H Q=>∃l a y,x=.ref l/\b= [y]/\H l=some (.lst a)/\a.length<sizeLine/\Q .non (upd H l<|.lst (a++ [y]))
def qc:P_ X "list.append" Cu:=by
 intro b s i H x f v j Q I d c h
 let#[l,g,y,rfl,rfl,hH,hz,q]:=h
 cases d
 let#[u,rfl,ru]:=c.one
 let#[z,a,n,r,hl,e]:=I.lstM hH
 show call_meets F.slot_list_append #[_,e,L] F.entry_list_append (F.args_list_append_2 _ _) (PySem.list_append l a.toArray n u (by rw[Qjq];omega)) #[e,?_]
 show#[.non,_,I.lset (its':=a++ [u]) hH e (by simp) (r.append<|.cons ru .nil) ?_,L,q]
 rw[lQa,List.length_singleton]
 omega
def CY:V->List V->Hp->VK->Prop:=λx d H Q=>∃l b a c,x=.ref l/\d= [.ref b]/\H l=some (.lst a)/\H b=some (.lst c)/\a.length+c.length<=sizeLine/\Q .non (upd H l<|.lst (a++c))
def Dq:P_ X "list.extend" CY:=by
 intro g s B H x y v C Q I m j h
 let#[l,b,A,t,rfl,rfl,hH,hB,hz,q]:=h
 cases m
 let#[u,rfl,ru]:=j.one
 cases ru
 let#[z,c,n,r,hl,e]:=I.lstM hH
 let#[w,a,p,o,i,k]:=I.lstM hB
 have f:c.toArray.size+a.toArray.size<=sizeLine:=by rw[Qjq,Qjq];omega
 have d:¬(!c.toArray.isEmpty&&Builtin.List.listTooLong (c.toArray.size+a.toArray.size))=true:=by
  rw[ue f,Bool.and_false]
  show Qtq
 show call_meets F.slot_list_extend #[_,e,L] F.entry_list_extend (F.args_list_extend_2 _ _)
  (AutoSeq1.list_extend_list_list_0 l c.toArray n b a.toArray p d (by rw[Qjq];omega) (!0)) #[e,k,?_]
 show#[.non,_,I.lset (its':=c++a) hH e (by simp) (r.append o) ?_,L,q]
 rw[lQa]
 omega
def PN:R2:=λx y H Q=>∃l b a c,x=.ref l/\y=.ref b/\H l=some (.lst a)/\H b=some (.lst c)/\a.length+c.length<=sizeLine/\∀p,H p=none->Q (.ref p) (upd H p<|.lst (a++c))
def KO:jV X (binaryOp .Add) PN:=by
 intro d s w H x y v u Q I i j h
 let#[l,b,t,o,rfl,rfl,hH,hB,hz,q]:=h
 cases i
 cases j
 let#[z,c,n,r,hl,e]:=I.lstM hH
 let#[p,a,A,k,f,g]:=I.lstM hB
 show PySem.P.add_list e g ?_ (by rw[Qjq,Qjq];omega)
 have m:c.toArray++a.toArray=(c++a).toArray:=by simp
 rw[m]
 show#[.ref _,_,I.lnew (t':=s.toks) (r.append k) (by rw[lQa];omega),L,q _ I.fresh]
def Pe:R2:=λx y H Q=>∃l k a,x=.ref l/\y=.int k/\H l=some (.lst a)/\ -(2^63)<=k/\k<2^63/\a.length*k.toNat<=sizeLine∧
 ∀p,H p=none->Q (.ref p) (upd H p<|.lst (List.replicate k.toNat a).flatten)
def len_rep(xs:List α)(k:Nat):(List.replicate k xs).flatten.length=k*xs.length:=by
 induction k with
 |zero=>simp
 |succ k a=>rw[QNq,List.flatten_cons,lQa,a,Nat.succ_mul,Nat.add_comm]
def Kg:jV X (binaryOp .Mult) Pe:=by
 intro p s K H x y v u Q I B C h
 let#[l,k,J,rfl,rfl,hH,h1,h2,hz,q]:=h
 cases B
 let#[t,rfl]:=C
 let#[z,b,n,r,hl,e]:=I.lstM hH
 have f:b.toArray.size*k.toNat<=sizeLine:=by rw[Qjq,<-hl];show hz
 have d:¬b.toArray.size*k.toNat>(2^63-1)/8:=by
  have:(sizeLine:Nat)<=(2^63-1)/8:=by decide
  omega
 have i:¬(!Builtin.List.listFitsIndex k)=true:=by
  rw[fitsIndex_both h1 h2]
  show Qtq
 have c:¬Builtin.List.listTooLong (b.toArray.size*k.toNat)=true:=by
  rw[ue f]
  show Qtq
 have g:List.foldl (λo j=>o++j) (List.toArray []) (List.replicate (if b.toArray.isEmpty=true then 0 else k.toNat) b.toArray)=(List.replicate k.toNat b).flatten.toArray:=by
  have A:∀m:Nat,List.foldl (λo j=>o++j) (List.toArray []) (List.replicate m b.toArray)=(List.replicate m b).flatten.toArray:=λm=>by
   have:=foldl_rep b m []
   rw[List.nil_append] at this
   show this
  rw[A]
  cases b with
  |nil=>simp
  |cons a G=>rw[Quq (by simp)]
 show wpAny_binaryOp_repeat_ref (T:="list") (U:="int") (!1) #[_,e,L] (λw=>typeIs_int w k t) noFill_list_mul F.fills_int_mul F.slot_int_rmul repeat_list F.slot_int_index.lookup
  (call_meets F.slot_int_rmul (typeIs_int s k t) F.entry_int_rmul (F.args_int_rmul_2 _ _) (int___rmul___int_list k t l b.toArray n)
   #[e,L,#[_,e,L],call_meets F.slot_list_mul #[_,e,L] F.entry_list_mul (F.args_list_mul_2 _ _) (AutoListH.list___mul___list_int_3 l b.toArray n k t i d c) #[e,?_]])
 rw[g]
 show#[.ref _,_,I.lnew (t':=s.toks) (r.rep k.toNat) (by rw[len_rep,Nat.mul_comm];show hz),L,q _ I.fresh]
end L2
namespace Att
open PySem PySem.W PySem.Calls PyProof.Rows
def rO:∀(ns:List Int) (vs:X5),WellAll P h vs (ns.map WData.int)->IntsAre vs ns:=by
 intro ns
 induction ns with
 | nil=>
   intro vs w
   rw[List.map_nil] at w
   cases w
   show .nil
 | cons n ns c=>
   intro vs w
   rw[QDq] at w
   cases w with
   | cons a b=>
     cases a
     show .cons _ _ (c _ b)
def Eh{l:OpenLaw}(p:l.most=some n)
  (c:l.row.toRowW.claim.pre args=true) (j:WellAll P h b args):
  ∃a vs ns,b= [Value.ref a]/\args= [WData.list (ns.map WData.int)]/\h.get? a=some {cls:=.type "list",data:=.seq vs.toArray}/\IntsAre vs ns/\ns.length<=n:=by
 have rh:WShape.hasAll [] args [.list .int]=true:=(pre_splitW c).1
 have k:l.pre.holds [] {args:=args}=true:=(pre_splitW c).2
 let#[d,r,rfl,h1,h2]:=hasAllW_cons rh
 obtain rfl:=hasAllW_nil h2
 let#[u,rfl,h3]:=hasW_list h1
 let#[ns,rfl]:=items_int h3
 have e:ns.length<=n:=by
  unfold OpenLaw.pre at k
  have g:(WTm.not<|.lt (.lit (.int (n:Int))) (.len (.arg 0))).holds [] {args:= [.list (ns.map .int)]}=true:=by
   let g:=(holds_andW k).1
   rw[p] at g
   show g
  let i:=condW_of g (w_not<|w_lt w_lit<|w_len_list<|w_arg L)
  rw[lQm] at i
  show Nat.le_of_not_lt λq=>?_
  have t:(n:Int)<((ns.length:Nat):Int):=by omega
  first
   |(rw[Qeq t] at i;show absurd i (!1))
   |(simp at i;omega)
 cases j with
 | cons m s=>
   cases s
   cases m with
   |list o f=>show#[_,_,ns,L,L,o,rO ns _ f,e]
def DQ(l:OpenLaw)(args:List WData):l.row.toRowW.claim.post args (.bool true) args=true:=
 postW_of (r:=l.row.toRowW) (X:=(true==true))
  (show WShape.has [] (.bool true) .bool=true by first|rfl|decide|simp[WShape.has,WShape.arms,WShape.armsAll])
  (show(WTm.eq .res<|.lit (.bool true)).value [] {args:=args,res:=some (.bool true),after:=args}=some (.bool (true==true)) from w_eq_bool (w_res L) w_lit) L
def yF{l:OpenLaw}{B:World->Heap->Prop}{d:DefRec}
  (M:l.most=some n) (t:d.params.defaults= [])
  (h:∀(w:Xc) (c b:X4) (m u:X3) (i:X8) (o:Obj) (p k g:Xd) (a:X8) (vs:X5) (ns:List Int),
   Ground q e [] C w c m u b.heap->B w b.heap->
   b.heap.get? i=some o->o.data=.func (docDef d.name d.params d.body d.scope p k g)->b.heap.CodeRec k d.name->m d.name=some (.ref i)->
   b.heap.get? a=some {cls:=.type "list",data:=.seq vs.toArray}->IntsAre vs ns->ns.length<=n->b.gens= (List.toArray [])->
   codeAny (model l.prog w) callerA (.call (.ref i) #[[.ref a],[]]) (λr s'=>r=.ok (.ret (.bool true))/\OldK b.heap s'.heap/\s'.os=b.os/\AllBare s'.gens) b):
  WalkO q e C B l.row.toRowW d [] (λf vs=>PySem.call f vs):=by
 intro w c b m u G Y i o p k g Q kV K H x A v I y z S j F R s P
 obtain rfl:Q=.none:=Dflts.none A t
 obtain rfl:kV=.none:=Dflts.noKw A
 let#[a,vs,ns,rfl,rfl,hobj,hints,hlen]:=Eh M j s
 show enter_call (codeAny_mono (h w c b m u i o p k g a vs ns G Y K (fd_plain H) x v hobj hints hlen I) λr s' J=>?_)
 let#[rfl,h2,h3,h4]:=J
 show#[.inl #[.bool true,.bool true,[],L,λ_=>rfl,.bool true,DQ l _,λ_=>#[List.Pairwise.nil,λ_ N=>(nomatch N)]],h2,h3,h4]
end Att
namespace L2
open PyProof.Rows
theorem u7:∀{vs:X5} {ns:List Int},IntsAre vs ns->bL (ns.map V.int) vs
 |_,_,.nil=>.nil
 |_,_,.cons n t h=>.cons #[t,L] (u7 h)
def II(H:Hp):Prop:=∀b,H b=none\/∃o a,H b=some (.frz o (.lst a))
def FU{K:X1}{c:X4}{vs:X5}
  (KX:K.In c.heap) (M:c.heap.Ns mainGlobals Q) (g:c.heap.Ns builtinsNs Y) (S:∀x:Str,x≠"__name__" ->Y x=bootBuiltins x) (N:c.heap.NoLimit) (hg:c.gens= (List.toArray []))
  (R:c.heap.get? a=some {cls:=.type "list",data:=.seq vs.toArray}) (hi:IntsAre vs ns) (hl:ns.length<=sizeLine) (hr:dU k callerA)
  (F:∀i:Heap,K.In i->i.Ns mainGlobals Q->bB P w K Q i CX k fa fd [x] sp) (p:∀(s:X4) (u:Xd),BindsTo s fd #[[u],[]] [(x,u)])
  (a0:∀H:Hp,II H->i8 K H a (ns.map V.int)->sp [.ref a] H (λv _=>v=.bl true) λ_ _ _=>False)
  (Z:∀H e s',CX [] H c (λ_ _ _=>False) e s'->False):
  codeAny (model P w) callerA (.call (.ref fa) #[[.ref a],[]]) (λr s'=>r=.ok (.ret (.bool true))/\OldK c.heap s'.heap/\s'.os=c.os/\AllBare s'.gens) c:=by
 let rv:=u7 hi
 let G:=hi.length
 have l:∀H:Hp,II H->i8 K H a (ns.map V.int)->ou P w H c.heap->(∀b,H b≠none->b=a)->(H a≠none->K.lookup a=none)->
   codeAny (model P w) callerA (.call (.ref fa) #[[.ref a],[]]) (λr s'=>r=.ok (.ret (.bool true))/\OldK c.heap s'.heap/\s'.os=c.os/\AllBare s'.gens) c:=by
  intro H hO hS y hA hK
  have f:∀{b:X8} {o:Obj},c.heap.get? b=some o->H b=none->(wN c.heap H).get? b=some o:=λe n=>FJ e n
  have U:∀{b:X8} {o:Obj} {C:Array DictEntry} {I:Nat},c.heap.get? b=some o->o.data=.dict C I->H b=none:=λ{b o C I} e d=>by
   cases q:H b with
   |none=>rfl
   | some u=>
     have e':b=a:=hA b (by rw[q];simp)
     subst e'
     rw[R] at e;cases e
     have d':Data.seq vs.toArray _=Data.dict C I:=d
     cases d'
  have j:∀{b:X8} {m:X3},c.heap.Ns b m->(wN c.heap H).Ns b m:=λ{b m} ⟨o,C,I,e,d,r⟩=>#[o,C,I,f e<|U e d,d,r]
  have A:K.In (wN c.heap H):=λb o e=>f (KX b o e) (by
   cases q:H b with
   |none=>rfl
   | some u=>
     have e':b=a:=hA b (by rw[q];simp)
     subst e'
     rw[hK (by rw[q];simp)] at e;cases e)
  have hM:Mod K Q (wN c.heap H):=#[A,j M,#[Y,j g,S],let ⟨mc,h1,h2⟩:=N;#[mc,j h1,h2]]
  have e0:HE P w K Q (wN c.heap H) callerA [] c H:=#[L,hM,λb o e=>Ji e,Nat.le_of_eq<|CZ _ _,trivial,λb g=>absurd (show b∈([]:List Addr) from g) (by simp),y,.of_eq hg]
  show codeAny_mono ((F _ A<|j M).run callerA [] c H #[[.ref a],[]] [.ref a] [.ref a] _ _ hr e0 (p c<|.ref a) (.cons rfl .nil) (a0 H hO hS)) λr s' h=>?_
  cases r with
  |error e=>show(Z H e s' h).elim
  | ok fl=>
    cases fl with
    |next=>show False.elim h
    |brk=>show False.elim h
    |cont=>show False.elim h
    | ret u=>
      let#[v,H',os,t,un,J,r',q]:=h
      have q':v=.bl true:=q
      subst q'
      obtain rfl:u=Value.bool true:=r'
      show#[L,OldK.of_keep λb o e=>?_,os,t]
      cases q:H b with
      |none=>show un.keep b o e q (by intro z;show absurd (show b∈([]:List Addr) from z) (by simp)) (by simp)
      | some u=>
        rcases hO b with z|⟨ob,xs,z⟩
        · rw[q] at z;cases z
        · have z2:=un.frzs b ob _ z
          let#[e1,_]:=y b _ z
          let#[e2,_]:=J b _ z2
          rw[e] at e1;cases e1
          show e2
 cases X:K.lookup a with
 | some o=>
   let e:=KX a o X
   rw[R] at e
   cases e
   show l (λ_=>none) (λ_=>.inl L) (.inr #[_,vs.toArray,_,X,L,L,L,by rw[Qjq,G];show hl,by simpa using rv]) (λb u z=>by have B:(none:Option HO)=some u:=z;cases B) (λb z=>absurd L z) λz=>absurd L z
 | none=>
   show l (λb=>if b=a then some (.frz {cls:=.type "list",data:=.seq vs.toArray} (.lst (ns.map V.int))) else none) (λb=>?_) (.inl (.inr #[{cls:=.type "list",data:=.seq vs.toArray},Qhq L])) (λb u z=>?_) (λb z=>?_) λ_=>X
   · by_cases g:b=a
     · show .inr #[_,_,Qhq g]
     · show .inl (Quq g)
   · by_cases g:b=a
     · have B:=(Qhq g).symm.trans z
       cases B
       subst g
       show#[R,by rw[lQm];show hl,vs,_,rv,R]
     · have B:=(Quq g).symm.trans z
       cases B
   · by_cases g:b=a
     · show g
     · show absurd (Quq g) z
def IU{l:PySem.W.OpenLaw}{P:World->Heap->Prop}{d:DefRec}{K:Params->PySem.W.Frag}{CX:World->Em}{sp:World->Sp}
  (hn:l.most=some n) (C:n<=sizeLine) (A:d.params.defaults= []) (hr:dU k callerA)
  (Z:∀(w:Xc) (h:Xe),P w h->(K w.params).In h)
  (F:∀(w:Xc) (p:X3) (y:X8) (h:Xe),(K w.params).In h->h.Ns mainGlobals p->p d.name=some (.ref y)->
   ∃ z:FuncData,(∀(s:X4) (u:Xd),BindsTo s z #[[u],[]] [(x,u)])∧
     ∀c:Heap,(K w.params).In c->c.Ns mainGlobals p->bB l.prog w (K w.params) p c (CX w) k y z [x] (sp w))
  (J:∀(w:Xc) (H:Hp) (a:X8) (ns:List Int),ns.length<=n->II H->i8 (K w.params) H a (ns.map V.int)->sp w [.ref a] H (λv _=>v=.bl true) λ_ _ _=>False)
  (B:∀(w:Xc) (H:Hp) (s:X4) (e:Xd) (s':X4),CX w [] H s (λ_ _ _=>False) e s'->False):
  PySem.W.WalkO q j S P l.row.toRowW d [] (λf vs=>PySem.call f vs):=by
 show Att.yF hn A λw N t p mb y o pm cd a0 a vs ns G Y ho hd a1 I r m i R=>?_
 let M:=Z w _ Y
 let#[z,Q,X]:=F w p y _ M G.T.g I
 show FU M G.T.g G.T.b G.T.builtins G.T.nolimit R r m (QAq i C) hr X Q (λH U hS=>J w H a ns i U hS) λH e s'=>B w H t e s'
noncomputable def g_(s:Stmt):Arguments:=match s with
 |.FunctionDef _ a _ _ _ _ _ _ _ _=>a
 |_=>{posonlyargs:= [],args:= [],vararg:=none,kwonlyargs:= [],kw_defaults:= [],kwarg:=none,defaults:= []}
noncomputable def fc(s:Stmt):List Stmt:=match s with
 |.FunctionDef _ _ b _ _ _ _ _ _ _=>b
 |_=> []
noncomputable def aC(s:Stmt):Scope:=match s with
 |.FunctionDef _ _ _ _ _ _ a _ _ _=>a
 |_=>{kind:=.function,names:= [],isGenerator:=false,isCoroutine:=false}
abbrev dX:Em:=λ_ _ _ _ _ _=>False
abbrev E0:XK:=λ_ _ _=>False
def FW:A7 dX X E0:=λ_ _ _ _ _ _ _ h=>h.elim
structure eW(K:X1)(x qual:Str)(st:Stmt)(f:X8)(fd:FuncData):Prop where
 ex:∃(oc:Xd) (od:Option Addr) (kV doc pm:Xd) (an:Option Addr) (cdv ct:Xd) (osl:Array (Option Value)),
  fd=PySem.W.fnOf x qual (g_ st) (fc st) (aC st) .none kV doc pm an cdv ct/\K.lookup f=some #[oc,od,.func fd,osl]/\PySem.W.codeIn K cdv qual=true
 kp:PySem.W.keepIn K (.ref f)=true
def eW.ok{P:X9}{w:Xc}{K:X1}{b:X3}{a:Xe}{x d:Str}{st:Stmt}{f:X8}{l:FuncData}{N ps:X6}{k:Nat}{sp:Sp}(F:eW K x d st f l)(S:aI N ps (aC st))(j:∀vs H Q E,sp vs H Q E->vs.length=ps.length)
  (g:∀(e:Xd) (A:X_) (c:List Env) (s:X4) (H:Hp) (vs:List V) (Q:VK) (E:XK),dU k (A.deeper (envOfC d (aC st) s.heap.objs.size f e))->sp vs H Q E->
   ∃t,qY (yX dX P w K b a N d (aC st) f e A c s H E).nox (fc st) t/\t {nx:=λ_ o=>Q .non o,rt:=Q} (start N vs) H):bB P w K b a dX (k+1) f l ps sp:=by
 let#[u,y,kV,n,r,v,e,z,p,rfl,lk,hcd]:=F.ex
 show Mb lk hcd S j λA c s H vs Q E m i=>?_
 let#[t,h,q]:=g e A c s H vs Q E m i
 show#[t,h.nox,q]
def eW.binds{K:X1}{x c:Str}{st:Stmt}{f:X8}{l:FuncData}{ps:X6}(F:eW K x c st f l)
  (h:∀(kV e i:Xd) (g:Option Addr) (d k:Xd) (j:X5),j.length=ps.length->bindArgs (PySem.W.fnOf x c (g_ st) (fc st) (aC st) .none kV e i g d k) #[j,[]]=pure (ps.zip j)):Binds K l ps []:=by
 let#[o,n,kV,e,i,g,d,k,m,rfl,lk,hcd]:=F.ex
 show .all (h kV e i g d k)
def Bj{K:X1}{x d:Str}{st:Stmt}{f:X8}{o:Xd}{n i:Option Addr}{h:Array (Option Value)}{kV g j e m:Xd}(l:K.lookup f=some #[o,n,.func (PySem.W.fnOf x d (g_ st) (fc st) (aC st) .none kV g j i e m),h])
  (c:PySem.W.codeIn K e d=true) (k:PySem.W.keepIn K (.ref f)=true):eW K x d st f (PySem.W.fnOf x d (g_ st) (fc st) (aC st) .none kV g j i e m):=#[#[o,n,kV,g,j,i,e,m,h,L,l,c],k]
def Jy(a:dU k A):A.units+1<cLine:=Nat.lt_of_le_of_lt (Nat.add_le_add_left (by decide:1<=64) _) a.units
def aM(h:n<=1000):n<sizeLine:=Nat.lt_of_le_of_lt h (!1)
def pv{X:Cx}(i:Nat)(e:autoParam (X.N[i]?=some x) db._auto_1)(d:autoParam (G0 X.env.scope x) cU._auto_1)(c:autoParam ((x==("__debug__":Str))=false) cV._auto_1)
  (b:autoParam ((x==("__classdict__":Str))=false) cV._auto_1):PE X (.Name x a) (LB i):=Fx e d c b
def pH{R:Result->Shared->Prop}(I:Nat->Shared->Prop)
  (C:∀n s,I n s->wpAny (model prog w) A (pyNext it) (λr f=>match r with
   |none=>R (.ok .next) f
   |some v=>wpAny (model prog w) A (letOwnedTupleGo a it v) (λ_ b=>wpAny (model prog w) A (assign a env v) (λ_ k=>
     wpAny (model prog w) A (forIn t true λc r=>if r=true then do let ok<-isTrue c env (eval c env);pure (ForInStep.yield ok) else pure (ForInStep.yield r)) (λok s₃=>
      if ok=true then wpAny (model prog w) A (eval o env) (λx i=>
       wpAny (model prog w) A (call (.builtin "list.append") [p,x]) (λ_ j=>∃m,m<n/\I m j) (λ_ _=>False) i) (λ_ _=>False) s₃
      else∃m,m<n/\I m s₃) (λ_ _=>False) k) (λ_ _=>False) b) (λ_ _=>False) f) (λ_ _=>False) s)
  (n:Nat) (h:I n s):codeAny (model prog w) A (.compLoop (.ListComp o [#[a,l,t,0]] e B) 0 it p env) R s:=by
 show codeAny_loop L I (λn s F=>?_) n h
 show wpAny _ A ((compTurn (.ListComp o [#[a,l,t,0]] e B) 0 it p env).onRaise (λx=>do noteFrame x env;theTreesLotGoes x)) _ _ s
 show wpAny_noted ?_
 rw[compTurn_list]
 show Qaq<|wpAny_standAt<|Qaq (QRq (C n s F) (λr f g=>?_) λ_ _ d=>d.elim)
 cases r with
 |none=>show Qgq g
 | some v=>
   show Qaq (QRq g (λ_ b q=>?_) λ_ _ d=>d.elim)
   show Qaq (QRq q (λ_ k y=>Qaq (QRq y (λok s₃ h₃=>?_) λ_ _ d=>d.elim)) λ_ _ d=>d.elim)
   cases ok with
   |false=>show Qgq #[L,h₃]
   | true=>
     show Qaq<|Qaq (QRq h₃ (λx i u=>Qaq (QRq u (λ_ j z=>Qgq<|Qgq #[rfl,z]) λ_ _ d=>d.elim)) λ_ _ d=>d.elim)
noncomputable def aK(X:Cx)(N:X6)(a:Scope)(b:List (Str×Addr))(C:X8)(s:X4)(H:Hp)(fp:X7):Cx where
 prog:=X.prog
 w:=X.w
 K:=X.K
 mg:=X.mg
 base:=X.base
 A:=X.A
 N:=N
 s₀:=s
 H₀:=H
 env:=compEnvC a b C X.env
 outer:=X.stack
 stack:=X.stack
 ex:=fp
 fn:=λ_=>false
 calm:=X.calm
 pn:= []
 xe:=λ_ _=>False
noncomputable def kg(js:List (Option Nat))(a:St):St:=js.map λo=>o.bind λj=>a.getD j none
structure aP(X:Cx)(N:X6)(js:List (Option Nat))(scope:Scope)(cl:List (Str×Addr)):Prop where
 kind:scope.kind=.function
 nocell:∀y∈scope.names,y.2≠.cell
 names:∀y∈scope.names,y.2=.local->scope.names.lookup y.1=some .local
 clos:closureFor scope X.env=pure cl
 sub:∀x c,cl.lookup x=some c->X.env.cells.lookup x=some c
 has:∀x,((relabel scope X.env).names.lookup x=some .cell\/(relabel scope X.env).names.lookup x=some .free)->∃c,cl.lookup x=some c
 cap:∀(k j:Nat) (x:Str),js[k]?=some (some j)->N[k]?=some x->X.N[j]?=some x/\(X.env.kindOf x=some .cell\/X.env.kindOf x=some .free)/\((relabel scope X.env).names.lookup x=some .cell\/(relabel scope X.env).names.lookup x=some .free)
 len:js.length=N.length
def m6(X:Cx)(d:List Expr)(t:TT):Prop:=
 ∀ (a:X2) (s:X4) (b:St) (H:Hp) (Q:Bool->Hp->Prop),Inv X a b H s->t b H Q->
   wpAny (model X.prog X.w) X.A (forIn d true λc r=>if r=true then do let ok<-isTrue c X.env (eval c X.env);pure (ForInStep.yield ok) else pure (ForInStep.yield r)) (TP X a b Q) X.xe s
def KJ:m6 X [] (λ_ H Q=>Q true H):=λ_ _ _ H _ I h=>wpAny_tests_nil #[H,I,h]
def J1(b:PT X c t):m6 X [c] t:=λa s d H Q I h=>
 wpAny_tests_one (cE (b a s d H Q I h) λok s' h'=>h')
def MJ(J:It)(g:TG)(k:TT)(j:TE)(Q:VK)(D:X8)(l:St)(H:Hp):Prop:=
 ∃ W:Nat->Nat->St->Hp->Prop,(∃m,W 0 m l H)/\∀i m d e,W i m d e->
   (J.stop i e/\Q (.ref D) e)\/(J.go i e/\∃Nx:St->Hp->Prop,(∀b c,Nx b c->∃h,h<m/\W (i+1) h b c)∧
     ∀ x H2,J.yld i e x H2->g x d H2 λa H3=>k a H3 λok H4=>
       if ok=true then j a H4 λy H5=>∃f,H5 D=some (.lst f)/\f.length<sizeLine/\Nx a (upd H5 D (.lst (f++ [y]))) else Nx a H4)
def GQ(js:List (Option Nat))(b:TI)(g:TG)(d:TT)(c:TE):TE:=λa H Q=>b a H λJ H1=>∀D,H1 D=none->MJ J g d c Q D (kg js a) (upd H1 D<|.lst [])
def HS
  (S:aP X N js a U) (hc:X.calm=true) (hi:PI X tg R wi)
  (hg:∀C s H fp,PG (aK X N a U C s H fp) tg g) (ht:∀C s H fp,m6 (aK X N a U C s H fp) b3 tt) (he:∀C s H fp,PE (aK X N a U C s H fp) a9 te)
  (hs:autoParam (∀x,foldedSetIterable R X.env x=pure x) dl._auto_1):PE X (.ListComp a9 [⟨tg,R,b3,0⟩] a b8) (GQ js wi g tt te):=by
 intro a7 s σ H Q I h
 rw[eval_ListComp]
 show wpAny_comprehension_free (use:=none) L hs S.clos S.kind S.names (cE (hi a7 s σ H _ I h) λv s1 h1=>cE h1 λd2 f h2=>?_)
 let#[it,fp,tn,J,H2,e,B,T,b1,f2,hD]:=h2
 subst e
 show QhQ<|wpAny_newFunctionEnv S.nocell (by intro y hy;simp at hy) (λM G t=>?_) S.kind
 dsimp only at G t|-
 generalize b0:f.heap.push {cls:=.type "list",dict:=none,data:=.seq ([]:List Value).toArray}=P2 at G t|-
 have hC:P2.objs.size=f.heap.objs.size+1:=by rw[<-b0,Heap.size_push]
 have c5:f.heap.objs.size≠P2.objs.size:=by rw[hC];show Qwq (Nat.lt_succ_self _)
 have a5:f.heap.objs.size<=P2.objs.size:=by rw[hC];show Nat.le_succ _
 have F:∀b,b<f.heap.objs.size->b≠P2.objs.size:=λb k=>by rw[hC];show Qwq (Nat.lt_succ_of_lt k)
 have Y:∀b o,f.heap.get? b=some o->M.get? b=some o:=λb o e=>t.extBut b o (F b<|Qiq e) (Qcq _ (b0▸Qcq _ e))
 have c4:M.get? f.heap.objs.size=some {cls:=.type "list",dict:=none,data:=.seq ([]:List Value).toArray}:=t.extBut _ _ c5 (Qcq _ (b0▸Qrq _ L))
 have nD:H2 f.heap.objs.size=none:=B.fresh
 have nC:H2 P2.objs.size=none:=B.hok.fresh a5
 have b2:∀b∈fp,b<f.heap.objs.size:=λb k=>by
  let#[o,e,_]:=T.obj _ _ b1 b k
  show Qiq e
 let#[W,#[m0,w0],c6]:=hD f.heap.objs.size nD
 have b4:(aK X N a U P2.objs.size f H2 fp).Ok:=by
  show⟨B.ok.mod,S.kind,B.ok.glob,B.ok.blt,a5,λx y c h1 h2=>B.ok.inj x y c (S.sub x c h1) (S.sub y c h2),S.has,(λx c h=>by cases h),B.ok.hd,B.ok.frames,.inl L,
   λb k=>#[F b (b2 b k),λx c h=>(f2 b k).2.2.2.2.1 x c (S.sub x c h)],B.bs,QAq B.ok.bsz B.sz,λb o e k=>?_,λb k z=>?_,B.stack,B.stkFree⟩
  ·rcases(f2 b k).2.2.2.1 with z|z
   ·show B.ok.noex b o e z
   ·show absurd (Qqq (Qqq (Qiq e) B.ok.bsz) z)<|Nat.lt_irrefl _
  ·rcases Qsq.mp (B.stkSub b z) with q|q
   ·show(f2 b k).2.1 q
   ·show(f2 b k).2.2.1 q
 have c0:cb X.prog X.w (upd H2 f.heap.objs.size<|.lst []) M f.heap.objs.size (.lst []):=#[Nat.zero_le _,[],0,.nil,c4]
 have I4:Inv (aK X N a U P2.objs.size f H2 fp) [] (kg js σ) (upd H2 f.heap.objs.size<|.lst []) {f with heap:=M,toks:=f.toks+([]:List (Str×Value)).length}:=by
  show#[b4,L,B.bare,Un.laid Y (Qmq _) nD,#[_,G,λi x v h1 h2 h3=>?_],λx c h=>?_,by show upd H2 _ _ P2.objs.size=none;rw[aU c5.symm];show nC,λx c h=>?_,λp hp=>absurd (show p∈([]:List (Addr×Obj)) from hp) (by simp),B.hok.laid Y (Qmq _) c0,by show(kg js σ).length=N.length;unfold kg;rw[lQm];show S.len]
  ·unfold kg at h2
   rw[gQm] at h2
   cases e:js[i]? with
   |none=>rw[e] at h2;cases h2
   | some o=>
     rw[e] at h2
     cases o with
     |none=>cases h2
     | some j=>
       have a1:σ.getD j none=some v:=QdQ h2
       have hj:σ[j]?=some (some v):=by
         rw[Qlq] at a1
         cases q:σ[j]? with
         |none=>rw[q] at a1;cases a1
         |some y=>rw[q] at a1;show congrArg some a1
       let#[c1,c2,c3]:=S.cap i j x e h1
       let#[m,hn,hl]:=B.loc
       have d0:G0 X.env.scope x:=by
         rcases c2 with z|z
         · show .inr (.inl z)
         · show .inr (.inr z)
       let#[u,r,l]:=hl j x v c1 hj d0
       show#[u,r,.inr #[c3,?_]]
       let#[c,b7]:=S.has x c3
       show#[c,b7,?_]
       rcases l with⟨z,_⟩|⟨_,c',e',z⟩
       · rcases c2 with y|y <;>rw[y] at z <;>cases z
       · rw[S.sub x c b7] at e'
         cases e'
         let#[o,ho,hd]:=z
         show#[o,Y _ _ ho,hd]
  ·let#[v,o,ho,hd]:=B.cell x c (S.sub x c h)
   show#[v,o,Y _ _ ho,hd]
  ·let#[v,o,ho,hd]:=B.cell x c (S.sub x c h)
   rw[aU (Qwq<|Qiq ho)]
   show B.freeC x c<|S.sub x c h
 have a0:∀{P:X2} {Z:Hp},P= []->(∀b∈fp,Z b=none)->∀b∈fp,qB (aK X N a U P2.objs.size f H2 fp) P Z b:=λ{P Z} ep hn b k=>by
  subst ep
  show#[hn b k,F b<|b2 b k,λz=>b4.exfs b k z,.inl k,λx c h=>(f2 b k).2.2.2.2.1 x c (S.sub x c h),λp hp=>absurd (show p∈([]:List (Addr×Obj)) from hp) (by simp)]
 have a6:codeAny (model X.prog X.w) X.A (.compLoop (.ListComp a9 [⟨tg,R,b3,0⟩] a b8) 0 (.ref it) (.ref f.heap.objs.size) (compEnvC a U P2.objs.size X.env))
   (compPost (model X.prog X.w) X.A X.xe none (EP X a7 σ Q) (.ref f.heap.objs.size) P2.objs.size) {f with heap:=M,toks:=f.toks+([]:List (Str×Value)).length}:=by
  show pH (λn s'=>∃i a2 Z,Inv (aK X N a U P2.objs.size f H2 fp) [] a2 Z s'/\tn i s'.heap/\(∀b∈fp,Z b=none)/\W i n a2 Z) ?_ m0
   #[0,_,_,I4,T.keep _ _ _ b1 λb _ o e=>Y b o e,λb k=>by rw[aU (Qwq<|b2 b k)];show(f2 b k).1,w0]
  rintro n s3 ⟨i,a3,H3,I3,b6,b9,w3⟩
  rcases c6 i n a3 H3 w3 with⟨stop,q⟩|⟨go,Nx,hN,b5⟩
  ·show cE (T.done (aK X N a U P2.objs.size f H2 fp) L L L hc i [] s3 a3 H3 _ I3 (a0 L b9) b6 stop) λr s4 qr=>?_
   let#[hr,I5]:=qr
   subst hr
   let#[m,hn,_]:=id I5.loc
   show#[m,hn,λh' a4=>#[.ref f.heap.objs.size,H3,?_,L,q]]
   let u:=I5.base
   have ne:∀b o,f.heap.get? b=some o->b≠P2.objs.size:=λb o e=>F b (Qiq e)
   show B.call' (ch:=fp) I5.os #[λb o e n k hx=>(a4.2 b<|ne b o e).trans (u.keep b o e n k hx),λb o e n k hx=>?_,u.free,λb o e hx=>?_,u.tups,u.frzs,u.tbls] (λb ob e=>?_) I5.bare λb k=>#[(f2 b k).2.2.2.1,(f2 b k).2.1,(f2 b k).2.2.2.2.1,(f2 b k).2.2.2.2.2]
   ·let#[sl,e1]:=u.slot b o e n k hx
    show#[sl,(a4.2 b<|ne b o e).trans e1]
   ·let#[o',e1]:=u.there b o e hx
    show#[o',(a4.2 b<|ne b o e).trans e1]
   ·show(I5.hok b ob e).stay (λc w' hc q=>(a4.2 c ?_).trans q) (λ_ q=>q) λ_ _ q=>q
    have fC:H3 P2.objs.size=none:=I5.free
    rintro rfl
    rcases hc with z|z
    ·rw[<-z,fC] at e;cases e
    ·rw[fC] at z;cases z
  ·show cE (T.item (aK X N a U P2.objs.size f H2 fp) L L L hc i [] s3 a3 H3 _ I3 (a0 L b9) b6 go) λr s4 qr=>?_
   let#[u,hr,h4]:=qr
   subst hr
   show cE h4 λ_ s5 qr=>?_
   let#[x,H5,I5,r5,y5,a8,c7]:=qr
   let d1:=I5.pinned (a0 L c7) (T.obj _ _ a8)
   show cE (hg P2.objs.size f H2 fp _ s5 a3 H5 x u _ d1 r5<|b5 x H5 y5) λ_ s6 qr=>?_
   let#[K,H6,I6,q6]:=qr
   show cE (ht P2.objs.size f H2 fp _ s6 K H6 _ I6 q6) λok s7 qr=>?_
   let#[H7,I7,q7]:=qr
   have again:∀{s8:X4} {H8:Hp},Inv (aK X N a U P2.objs.size f H2 fp) ([]++nX fp s5.heap) K H8 s8->Nx K H8->∃m,m<n/\∃i a2 Z,Inv (aK X N a U P2.objs.size f H2 fp) [] a2 Z s8/\tn i s8.heap/\(∀b∈fp,Z b=none)/\W i m a2 Z:=λ{s8 H8} I8 n8=>by
    let#[m',hm,w8]:=hN K H8 n8
    show#[m',hm,i+1,K,H8,I8.unpinned,T.keep _ _ _ a8 λb k o e=>(I8.pin (b,o)<|Qoq _<|Qoq _<|dw k e).1,λb k=>?_,w8]
    let#[o,e,d]:=T.obj _ _ a8 b k
    show(I8.pin (b,o)<|Qoq _<|Qoq _<|dw k e).2.1
   cases ok with
   |false=>show again I7 q7
   | true=>
     show cE (he P2.objs.size f H2 fp _ s7 K H7 _ I7 q7) λyv s8 qr=>?_
     let#[y,H8,I8,ry,xs,hx,hl,n8]:=qr
     show cE (qc (X:=aK X N a U P2.objs.size f H2 fp) _ s8 K H8 (.ref f.heap.objs.size) [y] (.ref f.heap.objs.size) [yv] (λ_ Z=>Nx K Z) I8 L (.cons ry .nil) #[_,xs,y,L,L,hx,hl,n8]) λ_ s9 qr=>?_
     let#[z,H9,I9,_,q9]:=qr
     show again I9 q9
 show codeAny_compStart_list a6<|T.self _ 0 _ _ _ (T.keep _ _ _ b1 λb _ o e=>Y b o e) a6
def EG:ic X (.builtin "isinstance") (λxs H Q=>∃x T t b,xs= [x,.ty T]/\qC X.K H x t/\PySem.W.kitOne X.K t (.type T)=some b/\Q (.bl b) H):=by
 intro a s g H xs f Q I r h
 let#[x,T,t,b,rfl,ty,e,q]:=h
 let#[u,c,rfl,rx,rt]:=vals2 r
 cases (show c=Value.type T from rt)
 show Dw I rx ty e λd=>#[.bl b,H,I.tok d,L,q]
noncomputable def Eo:List V->List V->Bool
 | [],[]=>true
 |x::xs,y::ys=>rF x y&&Eo xs ys
 |_,_=>false
theorem vY:∀{xs ys:List V},xs.length≠ys.length->Eo xs ys=false
 | [],[],h=>absurd L h
 | [],_::_,_=>rfl
 |_::_,[],_=>rfl
 | x::xs,y::ys,h=>by
   have:=vY (xs:=xs) (ys:=ys) λe=>h (by simp[e])
   show(rF x y&&Eo xs ys)=false
   rw[this,Bool.and_false]
theorem xG:∀{xs ys:List V},xs.length=ys.length->(List.range xs.length).all (λj=>rF (xs.getD j .non)<|ys.getD j .non)=Eo xs ys
 | [],[],_=>rfl
 | [],_::_,h=>by cases h
 |_::_,[],h=>by cases h
 | x::xs,y::ys,h=>by
   let a:=xG (xs:=xs) (ys:=ys) (Nat.succ.inj h)
   rw[Qnq,List.range_succ_eq_map,List.all_cons,List.all_map]
   show(rF x y&&_)=(rF x y&&Eo xs ys)
   rw[<-a]
   rfl
def GI(r:bL xs a)(d:bL ys vs)(f:xs.all gW=true)(f':ys.all gW=true)(j:Nat)(i:j<a.toArray.size)(g:j<vs.toArray.size):
  SeqAt.EqAt A s a.toArray[j] vs.toArray[j] (rF (xs.getD j .non)<|ys.getD j .non):=by
 let o:=r.length
 let p:=d.length
 have c:j<xs.length:=by rw[o];simpa using i
 have b:j<ys.length:=by rw[p];simpa using g
 let#[u,m,h]:=r.get (gQe c)
 let#[v,l,t]:=d.get (gQe b)
 have k:xs.getD j .non=xs[j]:=by rw[Qlq,gQe c];rfl
 have e:ys.getD j .non=ys[j]:=by rw[Qlq,gQe b];rfl
 have n:a.toArray[j]=u:=by
  have:=(gQs.mp m).2
  simpa using this
 have q:vs.toArray[j]=v:=by
  have:=(gQs.mp l).2
  simpa using this
 rw[n,q,k,e]
 show FB h t (QUq.mp f _<|List.getElem_mem c)<|QUq.mp f' _<|List.getElem_mem b
def Kn(K:X1)(e:Bool):R2:=λx y H Q=>∃a b d c,x=.ref a/\y=.ref b/\i8 K H a d/\i8 K H b c/\d.all gW=true/\c.all gW=true/\Q (.bl (if e then !Eo d c else Eo d c)) H
def LK{X:Cx}(m:X.A.units<cLine):jV X (compareOp .Eq) (Kn X.K false):=by
 intro n s F H x y v u Q I w z h
 let#[a,b,k,o,rfl,rfl,ha,hb,fa,fb,q]:=h
 cases w
 cases z
 let#[c,r,l,C]:=I.list ha
 let#[i,f,d,B]:=I.list hb
 by_cases hl:k.length=o.length
 ·have g:c.toArray.size=i.toArray.size:=by simp[<-r.length,<-f.length,hl]
  show SeqAt.eq_listAt (e:=λj=>rF (k.getD j .non)<|o.getD j .non) l.isList d.isList g m (λj t p=>GI r f fa fb j t p) #[.bl _,H,I,L,?_]
  rw[show c.toArray.size=k.length by simp[r.length],xG hl]
  show q
 ·show SeqAt.eq_list_lengthsAt l.isList d.isList (by simpa [<-r.length,<-f.length] using hl) m #[.bl _,H,I,L,?_]
  rw[<-vY hl]
  show q
def LA{X:Cx}(n:X.A.units<cLine):jV X (compareOp .NotEq) (Kn X.K true):=by
 intro o s G H x y v u Q I z B h
 let#[a,b,f,l,rfl,rfl,ha,hb,fa,fb,q]:=h
 cases z
 cases B
 let#[c,r,m,F]:=I.list ha
 let#[k,g,d,C]:=I.list hb
 by_cases hl:f.length=l.length
 ·have i:c.toArray.size=k.toArray.size:=by simp[<-r.length,<-g.length,hl]
  show SeqAt.RcNeAt.lists (e:=λj=>rF (f.getD j .non)<|l.getD j .non) m.isList d.isList i n (λj w t=>GI r g fa fb j w t) _ _ _ _ #[.bl _,H,I,L,?_]
  rw[show c.toArray.size=f.length by simp[r.length],xG hl]
  show q
 ·show SeqAt.RcNeAt.lists_lengths m.isList d.isList (by simpa [<-r.length,<-g.length] using hl) n _ _ _ _ #[.bl _,H,I,L,?_]
  have p:Q (.bl (!Eo f l)) H:=q
  rw[vY hl] at p
  show p
def GO{bs:List Bool}{a:X5}(r:bL (bs.map V.bl) a){i:Nat}{v:Xd}(h:a.toArray[i]?=some v):v=.bool (bs.getD i false):=by
 have f:i<a.length:=by
  have:=(Array.getElem?_eq_some_iff.mp h).1
  simpa using this
 let l:=r.length
 rw[lQm] at l
 have b:i<bs.length:=by omega
 let#[u,e,q]:=r.get (i:=i) (x:=V.bl bs[i]) (by rw[gQm,gQe b];rfl)
 have c:a[i]?=some v:=by simpa using h
 rw[e] at c
 cases c
 have d:bs.getD i false=bs[i]:=by rw[Qlq,gQe b];rfl
 rw[d]
 show q
theorem zJ:∀bs:List Bool,(List.range bs.length).all (λi=>bs.getD i false)=bs.all id
 | []=>rfl
 | b::bs=>by
   rw[Qnq,List.range_succ_eq_map,List.all_cons,List.all_map,List.all_cons,<-zJ bs]
   rfl
def My(K:X1)(f:List Bool->Bool):List V->Hp->VK->Prop:=λc H Q=>∃a b,c= [.ref a]/\i8 K H a (b.map V.bl)/\Q (.bl (f b)) H
def DH{X:Cx}(n:X.calm=true):ic X (.builtin "all") (My X.K λbs=>bs.all id):=by
 intro j s z H y C Q I r h
 let#[a,bs,rfl,ha,q]:=h
 let#[u,rfl,rx]:=vals1 r
 cases (show u=Value.ref a from rx)
 let#[c,g,f,x]:=I.list ha
 have hl:c.toArray.size=bs.length:=by have:=g.length;simp at this;simp[this]
 have d:a<s.heap.objs.size:=by let#[o,e,_]:=f.isList;show Qiq e
 show call_all_walk<|wpAny_pyIter_list f.isList #[s.heap.objs.size,_,_,_,_,_,λi=>bs.getD i false,L,Walks.list (A:=X.A.in1) (show X.A.in1.handled=none from I.ok.hd n) s.heap.objs.size a (Qwq d) c.toArray,#[#[_,Qrq _ L,L,L],f.isList.at λo e=>Qcq _ e],?_,λh' t k=>?_]
 ·intro i v p B w m l
  rw[GO g m]
  show wpAny_truthy_bool l
 ·rw[hl,zJ]
  show#[.bl _,H,I.kept (h':=h') λb o e=>k b o ?_<|Qcq _ e,L,q]
  have:=Qiq e
  simp
  show Qwq this
end L2
namespace Dk
open PySem
def t8:mroOf (Value.type "dict")=pure [Value.type "dict",Value.type "object"]:=by
 rw[mroOf_type]
 rfl
def rR:typeLookup (Value.type "dict") (Str.ofString "__new__")=pure (some<|Value.builtin "dict.__new__"):=by
 rw[typeLookup_type,builtinLookup_eq_fast]
 rfl
def yr:isSubtype (Value.type "dict") (Value.type "dict")=pure true:=by
 rw[isSubtype_type]
 rfl
def iz:plainId "dict.__new__"=true:=by decide +kernel
def dj:TypeCalled "dict" "dict.__new__" "dict.__init__" where
 notType:=by decide +kernel
 canCreate:=by decide +kernel
 mro:=#[_,_,t8]
 made:=madeBy_type t8 rR (by decide +kernel)
 plain:=iz
 sub:=yr
 init:=F.slot_dict_init
def rP(a:Xd):checkTypeCall "dict" {pos:= [a]}=pure ():=by rfl
def uw(a:Xd):checkBuiltinCall "dict.__new__" {pos:= [Value.type "dict",a]}=pure ():=by with_unfolding_all rfl
def uE:entryFor table "dict.__new__"=some Builtin.«dict.__new__»:=by rfl
def rJ{E:X0}{s:X4}(a:Xd){Q₁:X0}
  (h:Q₁ (.ref s.heap.objs.size) {s with heap:=s.heap.push {cls:=.type "dict",data:=.dict (List.toArray [])}}):
  codeAny (model prog w) A (.call (.builtin "dict.__new__") {pos:= [.type "dict",a]}) (wants Q₁ E) s:=by
 show codeAny_of_tree ?_
 show wpAny _ _ (do checkBuiltinCall "dict.__new__" _;_) _ _ _
 show Qaq<|wpAny_of_eq (uw a)<|Qgq #[plainId_quiet iz _,codeAny_builtin uE ?_]
 rw[Around.under_plainId iz]
 show Qaq<|Qgq<|QgQ L<|Qaq<|wpAny_of_eq yr<|QgQ L<|Qaq<|wpAny_of_eq t8<|QgQ ?_ ?_
 ·rfl
 ·show Qaq ?_
  have e:newObj (.type "dict") (.dict (List.toArray []))=newObjAsIs (.type "dict") (.dict (List.toArray [])):=by
   unfold newObj
   simp
  rw[e]
  show Qaq<|wpAny_alloc<|Qgq<|Qgq h
def zi{A:X_}{E:X0}{s:X4}{Q:X0}
  (h:wpAny (model prog w) A.in1.in1 (Builtin.«dict.__init__» {pos:= [.ref s.heap.objs.size,a]})
   (λl s'=>match l with|.done f=>wants (λr b=>r=.none/\Q (.ref s.heap.objs.size) b) E (.ok f) s'|.again u=>u.quiet=true/\codeAny (model prog w) A.in1 u (wants (λr b=>r=.none/\Q (.ref s.heap.objs.size) b) E) s')
   (λe s'=>wants (λr b=>r=.none/\Q (.ref s.heap.objs.size) b) E (.error e) s') {s with heap:=s.heap.push {cls:=.type "dict",data:=.dict (List.toArray [])}}):
  wpAny (model prog w) A (call (.type "dict") [a]) Q E s:=by
 let#[c,B,k]:=dj.mro
 let g:=dj.made
 let j:=dj.sub
 show wpAny_call<|codeAny_of_tree ?_
 show Qgq #[Code.quiet_builtin _ (by decide +kernel),codeAny_builtin F.entry_type_call ?_]
 rw[Around.under_plain (weight_type_call_type "dict" [a] []) L]
 let C:=dj.notType
 let x:=dj.canCreate
 let p:=rP a
 unfold Builtin.«type.__call__»
 dsimp only
 show QgQ L ?_
 show QgQ (by rw[x];rfl) ?_
 show Qaq<|wpAny_of_eq p<|Qaq<|wpAny_of_eq k<|QgQ L<|Qaq<|wpAny_of_eq g<|Qaq<|Qgq<|Qaq<|QLq<|wpAny_call (codeAny_mono (rJ (E:=E) (Q₁:=λv d=>v=.ref s.heap.objs.size/\d={s with heap:=s.heap.push {cls:=.type "dict",data:=.dict (List.toArray [])}}) a #[L,L]) λr d i=>?_)
 cases r with
 |error e=>show i
 | ok q=>
   cases q with
   | ret y=>
     let#[rfl,rfl]:=i
     let z:=Qrq s.heap (o:={cls:=.type "dict",data:=.dict (List.toArray [])}) L
     have m:Shared.TypeIs {s with heap:=s.heap.push {cls:=.type "dict",data:=.dict (List.toArray [])}} (.ref s.heap.objs.size) "dict":=#[_,z,L]
     let t:=dj.init.lookup
     let n:=dj.init.bind (.ref s.heap.objs.size)
     show Qaq<|wpAny_isInstance m j<|QgQ L<|Qaq<|QLq ?_
     unfold callSpecial?
     show Qaq<|wpAny_specialOf m t<|QLq<|Qaq<|wpAny_of_eq n<|Qaq<|wpAny_call (codeAny_mono (codeAny_call_builtin dj.init.plain F.entry_dict_init<|dj.init.check _ _ _ _ _ [a] [] _ m (F.args_dict_init_2 _ _) h) λr b i=>?_)
     cases r with
     |error e=>show i
     | ok q=>
       cases q with
       | ret v=>
         let#[rfl,hq]:=i
         show Qgq<|QgQ L<|Qgq hq
       |_=>show i.elim
   |_=>show i.elim
def kG:entryFor table "dict.update.loop"=some Builtin.«dict.update.loop»:=by rfl
def gK:plainId "dict.update.loop"=true:=by decide +kernel
section
variable{K:Type}[DecidableEq K]
def A2(kvs:List (K×Value))(k:K)(v:Xd):(stored kvs k v).length<=kvs.length+1:=by
 unfold stored
 split
 ·rw[lQm];omega
 ·rw[lQa];simp
noncomputable def LU(b:Nat->K)(a:Nat->Value):Nat->List (K×Value)
 |0=> []
 |i+1=>stored (LU b a i) (b i) (a i)
theorem CN(b:Nat->K)(a:Nat->Value):∀i,(LU b a i).length<=i
 |0=>Qmq _
 |i+1=>QAq (A2 _ _ _) (Nat.succ_le_succ<|CN b a i)
end
end Dk
namespace L2
open PyProof.Rows
def key_is(r:RelV (kV k) u)(P:X9)(w:Xc):(bO P w).is k u=true:=by
 cases k with
 |inl i=>let#[t,rfl]:=(show∃t,u=Value.int i t from r);simp[bO,qS,Value.isInt]
 |inr x=>let#[t,rfl]:=(show∃t,u=Value.str x t from r);simp[bO,qS,Value.isStrOf]
end L2
namespace Dk
open PySem
end Dk
namespace L2
open PyProof.Rows
def Ho{X:Cx}{N:X6}{js:List (Option Nat)}{a:Scope}{Z:List (Str×Addr)}{tg P a7 G:Expr}{a9:List Expr}{b3 b0:Pos}{wi:TI}{g gt:TG}{tt:TT}{te:TE}
  (S:aP X N js a Z) (hc:X.calm=true) (hi:PI X tg P wi)
  (hg:∀C s H fp,PG (aK X N a Z C s H fp) tg g) (ht:∀C s H fp,m6 (aK X N a Z C s H fp) a9 tt) (he:∀C s H fp,PE (aK X N a Z C s H fp) a7 te) (d8:PG X G gt)
  (hs:autoParam (∀x,foldedSetIterable P X.env x=pure x) dl._auto_1) (d9:autoParam (swapsWithSole [G] (.ListComp a7 [⟨tg,P,a9,0⟩] a b3) b0.line X.env=pure true) db._auto_1)
  (h1:autoParam ((assignEach [G] X.env).map (·.2)= [assign G X.env]) db._auto_1):PS X (.Assign [G] (.ListComp a7 [#[tg,P,a9,0]] a b3) b0) (Df (GQ js wi g tt te) gt):=by
 intro Y s σ H Dn I h
 rw[exec_Assign_arm]
 show Qaq<|wpAny_standAt<|Qaq<|wpAny_of_eq d9<|wpAny_ite_true L<|Qaq ?_
 rw[h1]
 show wpAny _ _ (do let _<-comprehension _ _ _ _ _ _ _ (some λv=>assignAll v [assign G X.env]);pure ()) _ _ _
 show Qaq ?_
 show wpAny_comprehension_free (use:=some λv=>assignAll v [assign G X.env]) L hs S.clos S.kind S.names (cE (hi Y s σ H _ I h) λv s1 h1=>cE h1 λe2 k h2=>?_)
 let#[it,fp,tn,J,H2,e,B,T,b5,f2,hD]:=h2
 subst e
 show QhQ<|wpAny_newFunctionEnv S.nocell (by intro y hy;simp at hy) (λQ M t=>?_) S.kind
 dsimp only at M t|-
 generalize b4:k.heap.push {cls:=.type "list",dict:=none,data:=.seq ([]:List Value).toArray}=P2 at M t|-
 have hC:P2.objs.size=k.heap.objs.size+1:=by rw[<-b4,Heap.size_push]
 have d0:k.heap.objs.size≠P2.objs.size:=by rw[hC];show Qwq (Nat.lt_succ_self _)
 have a2:k.heap.objs.size<=P2.objs.size:=by rw[hC];show Nat.le_succ _
 have K:∀b,b<k.heap.objs.size->b≠P2.objs.size:=λb f=>by rw[hC];show Qwq (Nat.lt_succ_of_lt f)
 have a0:∀b o,k.heap.get? b=some o->Q.get? b=some o:=λb o e=>t.extBut b o (K b<|Qiq e) (Qcq _ (b4▸Qcq _ e))
 have c7:Q.get? k.heap.objs.size=some {cls:=.type "list",dict:=none,data:=.seq ([]:List Value).toArray}:=t.extBut _ _ d0 (Qcq _ (b4▸Qrq _ L))
 have nD:H2 k.heap.objs.size=none:=B.fresh
 have nC:H2 P2.objs.size=none:=B.hok.fresh a2
 have b6:∀b∈fp,b<k.heap.objs.size:=λb f=>by
  let#[o,e,_]:=T.obj _ _ b5 b f
  show Qiq e
 let#[W,#[m0,w0],d2]:=hD k.heap.objs.size nD
 have b7:(aK X N a Z P2.objs.size k H2 fp).Ok:=by
  show⟨B.ok.mod,S.kind,B.ok.glob,B.ok.blt,a2,λx y c h1 h2=>B.ok.inj x y c (S.sub x c h1) (S.sub y c h2),S.has,(λx c h=>by cases h),B.ok.hd,B.ok.frames,.inl L,
   λb f=>#[K b (b6 b f),λx c h=>(f2 b f).2.2.2.2.1 x c (S.sub x c h)],B.bs,QAq B.ok.bsz B.sz,λb o e f=>?_,λb f z=>?_,B.stack,B.stkFree⟩
  ·rcases(f2 b f).2.2.2.1 with z|z
   ·show B.ok.noex b o e z
   ·show absurd (Qqq (Qqq (Qiq e) B.ok.bsz) z)<|Nat.lt_irrefl _
  ·rcases Qsq.mp (B.stkSub b z) with q|q
   ·show(f2 b f).2.1 q
   ·show(f2 b f).2.2.1 q
 have c6:cb X.prog X.w (upd H2 k.heap.objs.size<|.lst []) Q k.heap.objs.size (.lst []):=#[Nat.zero_le _,[],0,.nil,c7]
 have I4:Inv (aK X N a Z P2.objs.size k H2 fp) [] (kg js σ) (upd H2 k.heap.objs.size<|.lst []) {k with heap:=Q,toks:=k.toks+([]:List (Str×Value)).length}:=by
  show#[b7,L,B.bare,Un.laid a0 (Qmq _) nD,#[_,M,λi x v h1 h2 h3=>?_],λx c h=>?_,by show upd H2 _ _ P2.objs.size=none;rw[aU d0.symm];show nC,λx c h=>?_,λp hp=>absurd (show p∈([]:List (Addr×Obj)) from hp) (by simp),B.hok.laid a0 (Qmq _) c6,by show(kg js σ).length=N.length;unfold kg;rw[lQm];show S.len]
  ·unfold kg at h2
   rw[gQm] at h2
   cases e:js[i]? with
   |none=>rw[e] at h2;cases h2
   | some o=>
     rw[e] at h2
     cases o with
     |none=>cases h2
     | some j=>
       have a4:σ.getD j none=some v:=QdQ h2
       have hj:σ[j]?=some (some v):=by
         rw[Qlq] at a4
         cases q:σ[j]? with
         |none=>rw[q] at a4;cases a4
         |some y=>rw[q] at a4;show congrArg some a4
       let#[c1,c2,c3]:=S.cap i j x e h1
       let#[m,hn,hl]:=B.loc
       have d7:G0 X.env.scope x:=by
         rcases c2 with z|z
         · show .inr (.inl z)
         · show .inr (.inr z)
       let#[u,r,l]:=hl j x v c1 hj d7
       show#[u,r,.inr #[c3,?_]]
       let#[c,c0]:=S.has x c3
       show#[c,c0,?_]
       rcases l with⟨z,_⟩|⟨_,c',e',z⟩
       · rcases c2 with y|y <;>rw[y] at z <;>cases z
       · rw[S.sub x c c0] at e'
         cases e'
         let#[o,ho,hd]:=z
         show#[o,a0 _ _ ho,hd]
  ·let#[v,o,ho,hd]:=B.cell x c (S.sub x c h)
   show#[v,o,a0 _ _ ho,hd]
  ·let#[v,o,ho,hd]:=B.cell x c (S.sub x c h)
   rw[aU (Qwq<|Qiq ho)]
   show B.freeC x c<|S.sub x c h
 have a3:∀{R:X2} {H':Hp},R= []->(∀b∈fp,H' b=none)->∀b∈fp,qB (aK X N a Z P2.objs.size k H2 fp) R H' b:=λ{R H'} ep hn b f=>by
  subst ep
  show#[hn b f,K b<|b6 b f,λz=>b7.exfs b f z,.inl f,λx c h=>(f2 b f).2.2.2.2.1 x c (S.sub x c h),λp hp=>absurd (show p∈([]:List (Addr×Obj)) from hp) (by simp)]
 have b1:codeAny (model X.prog X.w) X.A (.compLoop (.ListComp a7 [⟨tg,P,a9,0⟩] a b3) 0 (.ref it) (.ref k.heap.objs.size) (compEnvC a Z P2.objs.size X.env))
   (compPost (model X.prog X.w) X.A X.xe (some λv=>assignAll v [assign G X.env]) (λ_ s9=>wpAny (model X.prog X.w) X.A (pure ()) (λ_ d3=>wpAny (model X.prog X.w) X.A (pure Flow.next) (SP X Y Dn) X.xe d3) X.xe s9) (.ref k.heap.objs.size) P2.objs.size) {k with heap:=Q,toks:=k.toks+([]:List (Str×Value)).length}:=by
  show pH (λn s'=>∃i a5 H',Inv (aK X N a Z P2.objs.size k H2 fp) [] a5 H' s'/\tn i s'.heap/\(∀b∈fp,H' b=none)/\W i n a5 H') ?_ m0
   #[0,_,_,I4,T.keep _ _ _ b5 λb _ o e=>a0 b o e,λb f=>by rw[aU (Qwq<|b6 b f)];show(f2 b f).1,w0]
  rintro n s3 ⟨i,a6,H3,I3,b9,c5,w3⟩
  rcases d2 i n a6 H3 w3 with⟨stop,q⟩|⟨go,Nx,hN,b8⟩
  ·show cE (T.done (aK X N a Z P2.objs.size k H2 fp) L L L hc i [] s3 a6 H3 _ I3 (a3 L c5) b9 stop) λr s4 U=>?_
   let#[hr,I5]:=U
   subst hr
   let#[m,hn,_]:=id I5.loc
   have d5:∀h',Heap.SameBut P2.objs.size s4.heap h'->Inv X Y σ H3 {s4 with heap:=h'}:=by
    intro h' a1
    let u:=I5.base
    have ne:∀b o,k.heap.get? b=some o->b≠P2.objs.size:=λb o e=>K b (Qiq e)
    show B.call' (ch:=fp) I5.os #[λb o e n f hx=>(a1.2 b<|ne b o e).trans (u.keep b o e n f hx),λb o e n f hx=>?_,u.free,λb o e hx=>?_,u.tups,u.frzs,u.tbls] (λb ob e=>?_) I5.bare λb f=>#[(f2 b f).2.2.2.1,(f2 b f).2.1,(f2 b f).2.2.2.2.1,(f2 b f).2.2.2.2.2]
    ·let#[sl,e1]:=u.slot b o e n f hx
     show#[sl,(a1.2 b<|ne b o e).trans e1]
    ·let#[o',e1]:=u.there b o e hx
     show#[o',(a1.2 b<|ne b o e).trans e1]
    ·show(I5.hok b ob e).stay (λc w' hc q=>(a1.2 c ?_).trans q) (λ_ q=>q) λ_ _ q=>q
     have fC:H3 P2.objs.size=none:=I5.free
     rintro rfl
     rcases hc with z|z
     ·rw[<-z,fC] at e;cases e
     ·rw[fC] at z;cases z
   let IX:=d5 s4.heap #[L,λ_ _=>rfl]
   have a8:qB X Y H3 P2.objs.size:=B.fpOk a2 I5.free
   let#[oC,es,ep,d1,c4,d4]:=hn
   let IP:=IX.pinned (fp:= [P2.objs.size]) (λb f=>by rw[Qfq] at f;rw[f];show a8) (λb f=>by rw[Qfq] at f;rw[f];show#[oC,d1,λv=>by rw[c4];simp])
   show wpAny _ _ (assignAll (.ref k.heap.objs.size) [assign G X.env]) _ _ _
   rw[assignAll.eq_2]
   show cE (d8 _ s4 σ H3 (.ref k.heap.objs.size) (.ref k.heap.objs.size) _ IP L q) λ_ s6 U=>?_
   let#[F,H6,I6,q6]:=U
   let pC:=I6.pin (P2.objs.size,oC) (Qoq _<|Qoq _<|dw (Qfq.mpr L) d1)
   show#[m,#[oC,es,ep,pC.1,c4,d4],λh' a1=>Qgq<|Qgq #[F,H6,?_,q6]]
   show I6.unpinned.turned (it:=P2.objs.size) (t':=s6.toks) (λb o' f e=>(a1.2 b f).trans e) pC.2.1 pC.2.2.1 a8.2.2.2.1 a8.2.2.2.2.1 a8.2.2.2.2.2
  ·show cE (T.item (aK X N a Z P2.objs.size k H2 fp) L L L hc i [] s3 a6 H3 _ I3 (a3 L c5) b9 go) λr s4 U=>?_
   let#[u,hr,h4]:=U
   subst hr
   show cE h4 λ_ s5 U=>?_
   let#[x,H5,I5,r5,y5,b2,d6]:=U
   let e0:=I5.pinned (a3 L d6) (T.obj _ _ b2)
   show cE (hg P2.objs.size k H2 fp _ s5 a6 H5 x u _ e0 r5<|b8 x H5 y5) λ_ s6 U=>?_
   let#[F,H6,I6,q6]:=U
   show cE (ht P2.objs.size k H2 fp _ s6 F H6 _ I6 q6) λok s7 U=>?_
   let#[H7,I7,q7]:=U
   have again:∀{s8:X4} {H8:Hp},Inv (aK X N a Z P2.objs.size k H2 fp) ([]++nX fp s5.heap) F H8 s8->Nx F H8->∃m,m<n/\∃i a5 H',Inv (aK X N a Z P2.objs.size k H2 fp) [] a5 H' s8/\tn i s8.heap/\(∀b∈fp,H' b=none)/\W i m a5 H':=λ{s8 H8} I8 n8=>by
    let#[m',hm,w8]:=hN F H8 n8
    show#[m',hm,i+1,F,H8,I8.unpinned,T.keep _ _ _ b2 λb f o e=>(I8.pin (b,o)<|Qoq _<|Qoq _<|dw f e).1,λb f=>?_,w8]
    let#[o,e,d]:=T.obj _ _ b2 b f
    show(I8.pin (b,o)<|Qoq _<|Qoq _<|dw f e).2.1
   cases ok with
   |false=>show again I7 q7
   | true=>
     show cE (he P2.objs.size k H2 fp _ s7 F H7 _ I7 q7) λyv s8 U=>?_
     let#[y,H8,I8,ry,xs,hx,hl,n8]:=U
     show cE (qc (X:=aK X N a Z P2.objs.size k H2 fp) _ s8 F H8 (.ref k.heap.objs.size) [y] (.ref k.heap.objs.size) [yv] (λ_ H'=>Nx F H') I8 L (.cons ry .nil) #[_,xs,y,L,L,hx,hl,n8]) λ_ s9 U=>?_
     let#[z,H9,I9,_,q9]:=U
     show again I9 q9
 show codeAny_compStart_list b1<|T.self _ 0 _ _ _ (T.keep _ _ _ b5 λb _ o e=>a0 b o e) b1
end L2
namespace Dk
open PySem
end Dk
namespace L2
open PyProof.Rows
def G_(K:X1):List V->Hp->VK->Prop:=λd H Q=>∃(a:X8) (c:X6),d= [.ref a]/\i8 K H a (c.map V.str)/\c.length<64/\∀(l:X8) (b:X6),H l=none->sortedS b=true->b.Perm c->Q (.ref l) (upd H l<|.lst (b.map V.str))
theorem vb:∀{ys:X6} {a:X5},bL (ys.map V.str) a->StrsAre a ys
 | [],_,r=>by cases r;show .nil
 | y::ys,_,r=>by
   cases r with
   | cons h t=>
     let#[b,rfl]:=h
     show .cons y b (vb t)
def wU(h:StrsAre vs a):bL (a.map V.str) vs:=by
 induction h with
 |nil=>show .nil
 |cons y t _ b=>show .cons #[t,L] b
def w6:ic X (.builtin "sorted") (G_ X.K):=by
 intro m s A H z B Q I r h
 let#[a,j,rfl,ha,h64,q]:=h
 let#[u,rfl,rx]:=vals1 r
 cases (show u=Value.ref a from rx)
 let#[f,k,t,y]:=I.list ha
 have v:f.length=j.length:=by have:=k.length;simpa using this.symm
 have g:s.heap.objs.size<=s.heap.objs.size+1:=Nat.le_succ _
 show sorted_strs t.isList (vb k) (!0) λc d p l w=>?_
 let#[e,x]:=sortedAll_at s.heap f c
 have i:d.length=j.length:=l.length_eq
 show#[.ref (s.heap.objs.size+1),_,I.laid (a:=s.heap.objs.size+1) (o:=.lst (d.map V.str)) (h':=sortedAll s.heap f c) (t':=s.toks) (λb o n=>?_) g #[?_,c.toList,e,wU p,?_],L,q _ d (I.hok.fresh g) w l]
 ·show sortedAll_old n
 ·rw[lQm,i]
  show QAq (nQl h64) (!1)
 ·simpa using x
end L2
namespace Zp
open PySem
def MZ{E:X0}{s:X4}{Q:X0}(c:s.heap.IsTupleIter i t k)(g:s.heap.IsTuple t vs)(h:vs[k]?=some v)
  (q:∀h',h'.IsTupleIter i t (k+1)->Heap.SameBut i s.heap h'->Q v {s with heap:=h'}):wpAny (model prog w) A (Builtin.SmallTypes.nextOf<|.ref i) Q E s:=by
 let#[j,b,e,a]:=id c
 let#[m,f,_,l,d]:=g
 unfold Builtin.SmallTypes.nextOf
 show Qaq<|QiQ (name:=Str.ofString "__next__") c.typeIs F.slot_tuple_iterator_next<|wpAny_call_entry F.slot_tuple_iterator_next c.typeIs F.entry_tuple_iterator_next ?_<|F.args_tuple_iterator_next_1 _
 show(?_:wpAny _ _ (field (.ref i) 0 >>= _) _ _ s)
 show Qaq<|QMq b a (x:=.ref t) L ?_
 show(?_:wpAny _ _ (if (Value.ref t==Value.none)=true then _ else _) _ _ s)
 rw[Quq (λz=>by cases (show false=true from z))]
 show(?_:wpAny _ _ (field (.ref i) 1 >>= _) _ _ s)
 show Qaq<|QMq b a (x:=.int k 0) L ?_
 show(?_:wpAny _ _ (seqItems? (.ref t) >>= _) _ _ s)
 show Qaq<|wpAny_seqItems f d ?_
 erw[Int.toNat_natCast,h]
 show Qaq<|wpAny_setField b a (by simp)<|Qgq #[v,L,Qgq<|q _ #[_,Heap.get?_update_self _ b<|Obj.isFreed_of_fields<|Obj.data_mapFields a _,(Obj.cls_mapFields ..).trans e,?_]<|Heap.SameBut.update ..]
 rw[Obj.data_mapFields a]
 simp[rawInt]
def NF{A:X_}{E:X0}{s:X4}(f:A.handled=none)(b:s.heap.IsTupleIter i t k)(j:s.heap.IsTuple t vs)(l:vs[k]?=none)
  (q:∀h' e,Heap.ExtBut i s.heap h'->(∃o,h'.get? e=some o/\o.cls=.type "StopIteration")->E (.ref e) {s with heap:=h'}):wpAny (model prog w) A (Builtin.SmallTypes.nextOf<|.ref i) Q E s:=by
 let#[p,c,n,d]:=id b
 let#[u,h,_,r,g]:=j
 unfold Builtin.SmallTypes.nextOf
 show Qaq<|QiQ (name:=Str.ofString "__next__") b.typeIs F.slot_tuple_iterator_next<|wpAny_call_entry F.slot_tuple_iterator_next b.typeIs F.entry_tuple_iterator_next ?_<|F.args_tuple_iterator_next_1 _
 show(?_:wpAny _ _ (field (.ref i) 0 >>= _) _ _ s)
 show Qaq<|QMq c d (x:=.ref t) L ?_
 show(?_:wpAny _ _ (if (Value.ref t==Value.none)=true then _ else _) _ _ s)
 rw[Quq (λz=>by cases (show false=true from z))]
 show(?_:wpAny _ _ (field (.ref i) 1 >>= _) _ _ s)
 show Qaq<|QMq c d (x:=.int k 0) L ?_
 show(?_:wpAny _ _ (seqItems? (.ref t) >>= _) _ _ s)
 show Qaq<|wpAny_seqItems h g ?_
 erw[Int.toNat_natCast,l]
 show Qaq<|wpAny_rule<|Qaq<|wpAny_setField c d (by simp) ?_
 show(?_:wpAny _ _ (newExc (.type "StopIteration") [] >>= _) _ _ _)
 show Qaq ?_
 erw[newExc,newTuple]
 show Qaq<|QhQ ?_ (by size_fits)
 show Qaq (m:=firstArgMember _ _)<|wpAny_of_eq (a:=Value.none) (by first|rfl|(erw[firstArgMember];rfl))<|QhQ ?_ (by size_fits)
 erw[raiseNew]
 show Qaq<|wpAny_handled ?_
 first|rw[show A.in1.handled=none from f]|rw[f]
 show Qaq<|Qgq<|wpAny_throw<|q _ _ (((Heap.SameBut.update ..).extBut.push _).push _) #[_,Qrq _ L,L]
def Rest(z O i j:X8)(h h':Xe):Prop:=∀c o,c≠z->c≠O->c≠i->c≠j->h.get? c=some o->h'.get? c=some o
end Zp
namespace L2
open PyProof.Rows
def Inv.turnedL{X:Cx}{a:X2}{d:St}{H:Hp}{s:X4}{h':Xe}{t':Nat}{fp:X7}(I:Inv X a d H s)(g:∀b∈fp,qB X a H b)(k:∀b o,b∉fp->s.heap.get? b=some o->h'.get? b=some o):Inv X a d H {s with heap:=h',toks:=t'}:=by
 have h:∀b u,H b=some u->b∉fp:=λb u e z=>by rw[(g b z).1] at e;cases e
 show I.step (g':=s.gens) (d':=s.drawn) (ch:=fp) (λb i=>#[(g b i).2.2.2.1,(g b i).2.1,(g b i).2.2.2.2.1,(g b i).2.2.2.2.2]) (λb o _ _ f e _=>k b o f e) (λb o _ _ f e _=>#[o.slots,k b o f e]) (λ_ _ _ _ n=>n)
  (λb o f e=>#[o,k b o f e]) (λ_ _ e=>e) (λ_ _ _ e=>e) (λb w e=>#[(List.toArray []),by rw[e];simp]) (λm p=>?_) (λb u e=>?_) I.bare
 ·let#[o,l,t,j,r]:=p
  show#[o,l,t,k _ o (λz=>(g _ z).2.1 L) j,r]
 ·show(I.hok b u e).stay (λc v f q=>k c v ?_ q) (λ_ q=>q) λ_ _ q=>q
  rcases f with z|z
  ·rw[z];show h b u e
  ·show h c _ z
def Inv.turnedNew{X:Cx}{a:X2}{d:St}{H:Hp}{s:X4}{h':Xe}{t':Nat}{fp:X7}{p:X8}{o:HO}(I:Inv X a d H s)(h:∀b∈fp,qB X a H b)(k:∀b u,b∉fp->s.heap.get? b=some u->h'.get? b=some u)(t:s.heap.objs.size<=p)
  (l:cb X.prog X.w (upd H p o) h' p o):Inv X a d (upd H p o) {s with heap:=h',toks:=t'}:=by
 let A:=I.hok.fresh t
 have j:∀b u,H b=some u->b∉fp:=λb u e z=>by rw[(h b z).1] at e;cases e
 have i:∀b u,H b=some u->upd H p o b=some u:=λb u e=>by rw[aU (fj e A)];show e
 show I.step (g':=s.gens) (d':=s.drawn) (ch:=fp) (λb f=>#[(h b f).2.2.2.1,(h b f).2.1,(h b f).2.2.2.2.1,(h b f).2.2.2.2.2]) (λb o _ _ g e _=>k b o g e) (λb o _ _ g e _=>#[o.slots,k b o g e])
  (λb u _ e n=>by rw[aU (λz=>Nat.lt_irrefl _<|Qqq (Qiq e) (by rw[z];show t))];show n)
  (λb o g e=>#[o,k b o g e]) (λb G e=>i b _ e) (λb u v e=>i b _ e) (λb F e=>#[(List.toArray []),by rw[i b _ e];simp]) (λm B=>?_) (λb u e=>?_) I.bare
 ·let#[o,y,C,x,r]:=B
  show#[o,y,C,k _ o (λz=>(h _ z).2.1 L) x,r]
 ·by_cases f:b=p
  ·subst f
   rw[bx] at e
   cases e
   show l
  ·rw[aU f] at e
   show(I.hok b u e).stay (λc v g q=>k c v ?_ q) (λc q=>i c _ q) λc _ q=>i c _ q
   rcases g with z|z
   ·rw[z];show j b u e
   ·show j c _ z
end L2
namespace Zp
open PySem PySem.W PyProof.Rows
end Zp
namespace L2
open PyProof.Rows
mutual
inductive ju(N:Addr->Prop)(H:Hp):PyData->V->Prop
 |non:ju N H .none .non
 |bl (b:Bool):ju N H (.bool b) (.bl b)
 |int (i:Int):ju N H (.int i) (.int i)
 |str (x:Str):ju N H (.str x) (.str x)
 |tup {a:X8} {us:List V} {xs:List PyData}:H a=some (.tup us)->rj N H xs us->ju N H (.tuple xs) (.ref a)
 |lst {a:X8} {us:List V} {xs:List PyData}:H a=some (.lst us)->N a->rj N H xs us->ju N H (.list xs) (.ref a)
 |dct {a:X8}:H a=some (.dK [])->ju N H (.dict []) (.ref a)
inductive rj(N:Addr->Prop)(H:Hp):List PyData->List V->Prop
 |nil:rj N H [] []
 |cons {x:PyData} {u:V} {xs:List PyData} {us:List V}:ju N H x u->rj N H xs us->rj N H (x::xs) (u::us)
end
mutual
theorem eO{X:Cx}{g:X2}{J:St}{H:Hp}{s:X4}{N:Addr->Prop}(I:Inv X g J H s)(q:∀a,N a->a≠sysModules):∀{d:PyData} {v:V} {u:Xd},ju N H d v->RelV v u->∃as,Reads s.heap u d as/\sysModules∉as
 |_,_,_,.non,r=>by cases r;show#[_,.none,by simp]
 |_,_,_,.bl b,r=>by cases r;show#[_,.bool b,by simp]
 |_,_,_,.int i,r=>by let#[t,rfl]:=r;show#[_,.int i t,by simp]
 |_,_,_,.str x,r=>by let#[t,rfl]:=r;show#[_,.str x t,by simp]
 | _,_,_,.tup (a:=a) h hs,r=>by
   cases r
   let#[k,l,#[o,f,c,n,p],A]:=I.tuple (iJ.of h)
   let#[as,j,m]:=jl I q hs l
   show#[as,.tuple f c p (by simpa using j),m]
 | _,_,_,.lst (a:=a) h n hs,r=>by
   cases r
   let#[k,l,C,A]:=I.list (i8.of h)
   let#[o,f,c,M,p]:=C.isList
   let#[as,j,m]:=jl I q hs l
   show#[_,.list f c p (by simpa using j),by rw[Qsq];show λe=>e.elim (λe=>q _ n e.symm) m]
 | _,_,_,.dct (a:=a) h,r=>by
   cases r
   let#[_,y,P,G,z]:=zp I.hok h
   cases G
   let#[o,F,Q,f,K,c,_,B,_]:=z
   have w:F.toList= []:=List.eq_nil_of_length_eq_zero B.length
   show⟨_,.dict (as:= []) (bs:= []) (kvs:= []) f K.1 c (by rw[w];show .nil) (by rw[w];show .nil),by
     simp
     intro e
     rw[e] at y
     simp at y⟩
theorem jl{N:Addr->Prop}(I:Inv X b l H s)(d:∀a,N a->a≠sysModules):∀{xs:List PyData} {c:List V} {vs:X5},rj N H xs c->bL c vs->∃as,ReadsAll s.heap vs xs as/\sysModules∉as
 |_,_,_,.nil,r=>by cases r;show#[_,.nil,by simp]
 | _,_,_,.cons h hs,r=>by
   cases r with
   | cons r i=>
     let#[as,f,j]:=eO I d h r
     let#[m,k,g]:=jl I d hs i
     show#[_,.cons f k,by rw[mQa];show λe=>e.elim j g]
end
def G9:jV X (binaryOp .Mult) (rI IntMulOk λi j=>.int (i*j)):=OD λ_ _ _ _ _ _ _ a q=>mul_int q a
def Fw(K:X1):R2:=λx y H Q=>∃a b c,x=.ref a/\y=.ref b/\i8 K H a c/\i8 K H b []/\Q (.bl (!c.isEmpty)) H
def EN{X:Cx}(e:X.A.units<cLine):jV X (compareOp .NotEq) (Fw X.K):=by
 intro c s n H x y v u Q I f g h
 let#[a,b,m,rfl,rfl,ha,hb,q]:=h
 cases m with
 |nil=>show LA e c s n H _ _ v u Q I f g #[a,b,[],[],L,L,ha,hb,L,L,q]
 | cons z w=>
   cases f
   cases g
   let#[j,r,l,B]:=I.list ha
   let#[k,i,d,t]:=I.list hb
   let o:=r.length
   let p:=i.length
   show SeqAt.RcNeAt.lists_lengths l.isList d.isList (by simp[<-o,<-p]) e _ _ _ _ #[.bl true,H,I,L,q]
end L2
namespace HT
open PyProof.Rows
def mL{prog:X9}{w:Xc}{A:X_}{E:X0}{s:X4}{t sl:X8}{items:Xa}{i f:Xd}{lo hi:Xb}{Q:X0}(a:IsTup s.heap t items)(j:s.heap.IsSliceOf sl i f .none)(o:IsPart i lo)(p:IsPart f hi)
  (g:dP items.size 0 lo=0/\dP items.size items.size hi=items.size) (h:Q (.ref t) s):wpAny (model prog w) A (getItem (.ref t)<|.ref sl) Q E s:=by
 let#[n,d,c,l]:=id j
 have e:s.TypeIs (.ref sl) "slice":=#[n,d,c]
 unfold getItem
 try with_reducible show QLq ?_
 first|show Qaq (Qgq ?_)|skip
 show Qaq<|wpAny_sequenceKey a.typeIs (!1) ?_
 show Qaq (QiQ (name:=Str.ofString "__getitem__") a.typeIs PyProof.Rows.slot_tuple_getitem
  (wpAny_call_entry PyProof.Rows.slot_tuple_getitem a.typeIs entry_tuple_getitem ?_ (args_tuple_getitem _ _)))
 show wpAny _ _ (Builtin.Tuple.tupleItemsOf (.ref t) >>= _) _ _ s
 show Qaq<|tupleItemsOf_ a ?_
 show Qaq<|wpAny_typeOf e ?_
 rw[Qhq (!1)]
 show Qaq<|jH j o p ?_
 have b:(((dP items.size 0 lo:Nat):Int)==0&&(1:Int)==1&&(dP items.size items.size hi-dP items.size 0 lo)==items.size)=true:=by
  rw[g.1,g.2]
  simp
 show wpAny _ _ (if (((dP items.size 0 lo:Nat):Int)==0&&(1:Int)==1&&(dP items.size items.size hi-dP items.size 0 lo)==items.size)=true then _ else _) _ _ s
 rw[Qhq b]
 have k:∀{A:X_} {E:X0} {R:Xf},R true s->wpAny (model prog w) A (Builtin.Tuple.tupleIsExact<|.ref t) R E s:=λ{A E R} h=>by
  unfold Builtin.Tuple.tupleIsExact
  show Qaq<|wpAny_typeOf a.typeIs<|Qgq h
 show Qaq (m:=Builtin.Tuple.tupleIsExact _)<|k ?_
 rw[Qhq L]
 show Qaq<|wpAny_rule ?_
 show Qgq #[_,L,Qgq h]
end HT
namespace L2
open PyProof.Rows
def Pr(K:X1):V->Option Int->Option Int->Hp->VK->Prop:=λx c d H Q=>∃a b,x=.ref a/\iJ K H a b∧
 (HT.dP b.length 0 c=0/\HT.dP b.length b.length d=b.length->Q (.ref a) H)/\(¬(HT.dP b.length 0 c=0/\HT.dP b.length b.length d=b.length)->∀p,H p=none->Q (.ref p) (upd H p<|.tup (wj b c d)))
def HL:Ow X (Pr X.K):=by
 intro d s q H x v p o n m sl Q I k l i j h
 let#[a,b,rfl,hx,q1,q2]:=h
 by_cases e:HT.dP b.length 0 n=0/\HT.dP b.length b.length m=b.length
 ·cases k
  let#[f,r,g,t]:=I.tuple hx
  have c:f.toArray.size=b.length:=by rw[Qjq];show r.length.symm
  show⟨"tuple",_,PyProof.Rows.slot_tuple_getitem.lookup,g.typeIs,?_⟩
  show HT.mL g l i j (by rw[c];show e) ⟨.ref a,H,I,L,q1 e⟩
 ·show Kz d s q H _ v p o n m sl Q I k l i j ⟨a,b,L,hx,e,q2 e⟩
end L2
namespace ST
open PySem
noncomputable def sm:Nat->Nat
 |0=>0
 |n+1=>5*sm n+1
theorem JU:∀n,5^n=4*sm n+1
 |0=>rfl
 |n+1=>by rw[Nat.pow_succ,JU n,sm];omega
theorem Gj(a:Nat):∀b,sm (a+b)=5^b*sm a+sm b
 |0=>by simp[sm]
 |b+1=>by rw[<-Nat.add_assoc,sm,Gj a b,sm,Nat.pow_succ,Nat.mul_add,Nat.mul_comm (5^b) 5,Nat.mul_assoc];omega
theorem E6:∀n,sm n%2=n%2
 |0=>rfl
 |n+1=>by have:=E6 n;rw[sm];omega
def Cd(h:2^k ∣ a*(2*c+1)):2^k ∣ a:=by
 have:Nat.Coprime (2^k) (2*c+1):=Nat.Coprime.pow_left k (by rw[Nat.coprime_iff_gcd_eq_one,Nat.gcd_rec];simp[Nat.add_mod])
 show this.dvd_of_dvd_mul_right h
theorem GE:∀(k d:Nat),2^k ∣ sm d->2^k ∣ d
 |0,d,_=>by simp
 | k+1,d,h=>by
   have b:2 ∣ sm d:=Nat.dvd_trans ⟨2^k,by rw[Nat.pow_succ,Nat.mul_comm]⟩ h
   have:=E6 d
   obtain⟨e,rfl⟩:∃e,d=e+e:=#[d/2,by omega]
   have a:sm (e+e)=2*(sm e*(2*sm e+1)):=by
     rw[Gj,JU,Nat.add_mul,Nat.mul_add]
     have:sm e*(2*sm e)=2*(sm e*sm e):=by rw[<-Nat.mul_assoc,Nat.mul_comm (sm e) 2,Nat.mul_assoc]
     rw[this,Nat.mul_assoc]
     omega
   rw[a,Nat.pow_succ,Nat.mul_comm] at h
   have:=GE k e (Cd<|Nat.dvd_of_mul_dvd_mul_left (!1) h)
   rw[Nat.pow_succ,<-Nat.two_mul,Nat.mul_comm]
   show Nat.mul_dvd_mul_left 2 this
noncomputable def yp(N x:Nat):Nat->Nat
 |0=>x
 |n+1=>(yp N x n*5+1)%N
theorem CV(a:x<N):∀n,yp N x n=(5^n*x+sm n)%N
 |0=>by simp[yp,sm,Nat.mod_eq_of_lt a]
 | n+1=>by
   rw[yp,CV a n,Nat.add_mod,Nat.mod_mul_mod,<-Nat.add_mod,sm,Nat.pow_succ,Nat.add_mul]
   congr 1
   rw[Nat.mul_right_comm]
   omega
def LG(a:0<N)(b:x<N):∀n,yp N x n<N
 |0=>b
 |n+1=>Nat.mod_lt _ a
theorem B8(a:Nat):∀b,yp N x (a+b)=yp N (yp N x a) b
 |0=>rfl
 |b+1=>by rw[<-Nat.add_assoc,yp,B8 a b,yp]
def HA(b:x<2^k)(h:yp (2^k) x d=x):2^k ∣ d:=by
 rw[CV b,JU] at h
 show GE k d<|Cd (c:=2*x) ?_
 have e:(4*sm d+1)*x+sm d=x+sm d*(2*(2*x)+1):=by
  rw[Nat.add_mul,Nat.mul_add]
  have:4*sm d*x=sm d*(2*(2*x)):=by rw[<-Nat.mul_assoc 2 2 x,<-Nat.mul_assoc (sm d),Nat.mul_comm (sm d) (2*2)]
  omega
 rw[e] at h
 have f:(x+sm d*(2*(2*x)+1))%2^k=x%2^k:=by rw[h,Nat.mod_eq_of_lt b]
 let a:=Nat.sub_mod_eq_zero_of_mod_eq f
 rw[Nat.add_sub_cancel_left] at a
 show Nat.dvd_of_mod_eq_zero a
def IG(d:x<2^k)(c:a<b)(f:b-a<2^k):yp (2^k) x a≠yp (2^k) x b:=by
 intro h
 have e:b=a+(b-a):=by omega
 rw[e,B8] at h
 have:=HA (LG (Nat.two_pow_pos k) d a) h.symm
 show absurd (Nat.le_of_dvd (!0) this) (!0)
theorem yd[DecidableEq α]:∀{l m:List α},l.Nodup->(∀x∈l,x∈m)->l.length<=m.length
 | [],_,_,_=>Nat.zero_le _
 | x::l,m,n,h=>by
   rw[List.nodup_cons] at n
   let b:=h x QBq
   have:=yd (l:=l) (m:=m.erase x) n.2 λy a=>(List.mem_erase_of_ne (λz=>n.1 (by rw[<-z];show a))).mpr (h y<|Qpq _ a)
   rw[List.length_erase_of_mem b] at this
   have:=List.length_pos_of_mem b
   simp
   omega
def Ft{occ:List Nat}(o:x<2^k)(h:occ.length<2^k):∃n,n<=occ.length/\yp (2^k) x n∉occ:=by
 show Classical.byContradiction λc=>?_
 have d:∀n,n<=occ.length->yp (2^k) x n∈occ:=λn e=>Classical.byContradiction λg=>c #[n,e,g]
 have f:((List.range (occ.length+1)).map (yp (2^k) x)).Nodup:=by
  rw[List.nodup_iff_pairwise_ne,List.pairwise_map]
  show List.Pairwise.imp_of_mem (R:=(·<·)) ?_ List.pairwise_lt_range
  intro a b p j l
  have:=List.mem_range.mp j
  show IG o l (!0)
 have:=yd f (m:=occ) λy i=>by
  let#[n,e,rfl]:=Qkq.mp i
  show d n (by have:=List.mem_range.mp e;omega)
 simp at this
 omega
end ST
namespace ST
open PySem PySem.SetTable
noncomputable def rn(m:Nat)(h:Int):Nat->Nat×Nat
 |0=>(bits h%(m+1),bits h)
 |n+1=>leap m (rn m h n).1 (rn m h n).2
noncomputable def L(m i:Nat):Nat:=runEnd m i-i
def HQ(m i:Nat):L m i<=9:=by unfold L runEnd;split <;>omega
def Mw(hi:i<=m)(a:r<=L m i):i+r<=m:=by
 unfold L runEnd at a
 split at a <;>omega
def Jz(m:Nat)(h:Int):∀n,(rn m h n).1<=m
 |0=>Nat.le_of_lt_succ (Nat.mod_lt _<|Nat.succ_pos m)
 | n+1=>by
   show(leap m (rn m h n).1 (rn m h n).2).1<=m
   show Nat.le_of_lt_succ<|Nat.mod_lt _<|Nat.succ_pos m
def Jc(h:Int):bits h<2^64:=by
 unfold bits
 let a:=Int.emod_nonneg h (show(2^64:Int)≠0 by decide)
 let b:=Int.emod_lt_of_pos h (show(0:Int)<2^64 by decide)
 have:((h%(2^64:Int)).toNat:Int)<2^64:=by omega
 omega
theorem FT(m:Nat)(h:Int):∀n,(rn m h n).2=bits h/32^n
 |0=>by simp[rn]
 | n+1=>by
   show(rn m h n).2/32=_
   rw[FT m h n,Nat.div_div_eq_div_mul,Nat.pow_succ]
def OQ(m:Nat)(h:Int)(a:13<=n):(rn m h n).2=0:=by
 rw[FT]
 show Nat.div_eq_of_lt<|Qqq (Jc h) ?_
 show QAq (show 2^64<=32^13 by decide)<|Nat.pow_le_pow_right (!1) a
theorem JD(h:Int)(a:m+1=2^k):∀n,(rn m h (13+n)).1=yp (2^k) (rn m h 13).1 n
 |0=>rfl
 | n+1=>by
   show((rn m h (13+n)).1*5+1+(rn m h (13+n)).2/32)%(m+1)=_
   rw[OQ m h (!0),JD h a n,a]
   rfl
def BQ(h:Int)(a:m+1=2^k){occ:List Nat}(c:occ.length<=m):∃n,n<=13+occ.length/\(rn m h n).1∉occ:=by
 let#[n,d,b]:=Ft (k:=k) (x:=(rn m h 13).1) (occ:=occ) (by have:=Jz m h 13;omega) (!0)
 show#[13+n,by omega,by rw[JD h a];show b]
noncomputable def sl(m:Nat)(h:Int)(n r:Nat):Nat:=(rn m h n).1+r
noncomputable def pb(m:Nat)(h:Int)(n r:Nat):Probe:={j:=sl m h n r,more:=L m (rn m h n).1-r,i:=(rn m h n).1,perturb:=(rn m h n).2,dummy:=none}
def EW{t:SetTable}(a:r<L t.mask (rn t.mask h n).1):t.advance (pb t.mask h n r)=pb t.mask h n (r+1):=by
 unfold advance
 rw[Qhq (by show 0<L _ _-r;omega)]
 erw[pb,sl,Probe.mk.injEq]
 show#[by omega,by omega,trivial,trivial,trivial]
def Cj{t:SetTable}:t.advance (pb t.mask h n<|L t.mask (rn t.mask h n).1)=pb t.mask h (n+1) 0:=by
 unfold advance
 rw[Quq (by show¬0<L _ _-L _ _;omega)]
 rfl
def uH(m:Nat)(h:Int)(n r:Nat)(V:Nat->Prop):Prop:=(∀b a,b<n->a<=L m (rn m h b).1->V (sl m h b a))/\∀a,a<r->V (sl m h n a)
def uH.in{V:Nat->Prop}(b:uH m h n r V)(v:V (sl m h n r)):uH m h n (r+1) V:=
 #[b.1,λa c=>(Nat.lt_succ_iff_lt_or_eq.mp c).elim (b.2 a) λe=>e▸v]
def uH.out{V:Nat->Prop}(b:uH m h n (L m (rn m h n).1) V)(v:V (sl m h n<|L m (rn m h n).1)):uH m h (n+1) 0 V:=
 ⟨λf d g a=>(Nat.lt_succ_iff_lt_or_eq.mp g).elim (λc=>b.1 f d c a) λe=>by
  subst e
  show(Nat.lt_or_eq_of_le a).elim (b.2 d) λe=>e▸v,λd a=>absurd a (Nat.not_lt_zero _)⟩
def uH.zero{V:Nat->Prop}:uH m h 0 0 V:=#[λ_ _ c=>absurd c<|Nat.not_lt_zero _,λ_ c=>absurd c<|Nat.not_lt_zero _]
def uH.imp{V W:Nat->Prop}(b:uH m h n r V)(i:∀j,V j->W j):uH m h n r W:=#[λe a c d=>i _<|b.1 e a c d,λa c=>i _<|b.2 a c]
def Ii(m:Nat)(h:Int)(V:Nat->Prop)(j:Nat):Prop:=∃n r,r<=L m (rn m h n).1/\j=sl m h n r/\uH m h n r V
def Ii.imp{V W:Nat->Prop}(x:Ii m h V j)(i:∀j,V j->W j):Ii m h W j:=by
 let#[n,r,b,a,c]:=x
 show#[n,r,b,a,c.imp i]
def tX(xs:Array Nat)(j:Nat)(w:xs.toList.Pairwise (·<·)):below xs j<=xs.size/\(∀i x,xs[i]?=some x->i<below xs j->x<j)/\∀i x,xs[i]?=some x->below xs j<=i->j<=x:=by
 have f:∀{i p x r:Nat},xs[i]?=some x->xs[p]?=some r->i<p->x<r:=λ{i p x r} q l c=>by
  let#[z,C]:=Array.getElem?_eq_some_iff.mp q
  let#[A,B]:=Array.getElem?_eq_some_iff.mp l
  have:=List.pairwise_iff_getElem.mp w i p (by simpa using z) (by simpa using A) c
  simp at this
  omega
 have s:∀a d b,d<=b->b<=xs.size->b-d<=a->(∀i x,xs[i]?=some x->i<d->x<j)->(∀i x,xs[i]?=some x->b<=i->j<=x)->
   below.go xs j a d b<=xs.size/\(∀i x,xs[i]?=some x->i<below.go xs j a d b->x<j)/\∀i x,xs[i]?=some x->below.go xs j a d b<=i->j<=x:=by
  intro a
  induction a with
  | zero=>
    intro d b q l y m n
    have:d=b:=by omega
    subst this
    show#[l,m,n]
  | succ a v=>
    intro d b q l y m n
    unfold below.go
    by_cases c:d<b
    · rw[Qhq c]
      dsimp only
      have u:(d+b)/2<xs.size:=by omega
      have e:xs.getD ((d+b)/2) j=xs[(d+b)/2]:=by simp[Array.getD,u]
      have g:xs[(d+b)/2]?=some xs[(d+b)/2]:=by simp[u]
      rw[e]
      by_cases o:xs[(d+b)/2]<j
      · rw[Qhq o]
        show v _ _ (!0) l (!0) (λi x k hl=>?_) n
        by_cases t:i=(d+b)/2
        · subst t;rw[g] at k;cases k;show o
        · show Nat.lt_trans (f k g (!0)) o
      · rw[Quq o]
        show v _ _ (!0) (!0) (!0) m (λi x k hl=>?_)
        by_cases t:i=(d+b)/2
        · subst t;rw[g] at k;cases k;omega
        · have:=f g k (!0);omega
    · rw[Quq c]
      have:d=b:=by omega
      subst this
      show#[l,m,n]
 show s xs.size 0 xs.size (Nat.zero_le _) (Qmq _) (!0) (λi x _ c=>absurd c (Nat.not_lt_zero _)) (λi x h c=>by
  have:=(Array.getElem?_eq_some_iff.mp h).1;omega)
def yx{xs:Array Nat}(e:xs.toList.Pairwise (·<·)){i a x:Nat}(g:xs[i]?=some x)(f:xs[a]?=some x):i=a:=by
 let#[b,h]:=Array.getElem?_eq_some_iff.mp g
 let#[d,j]:=Array.getElem?_eq_some_iff.mp f
 rcases Nat.lt_trichotomy i a with c|c|c
 ·have:=List.pairwise_iff_getElem.mp e i a (by simpa using b) (by simpa using d) c
  simp at this;omega
 ·show c
 ·have:=List.pairwise_iff_getElem.mp e a i (by simpa using d) (by simpa using b) c
  simp at this;omega
def below_at{xs:Array Nat}(d:xs.toList.Pairwise (·<·))(h:xs[i]?=some j):below xs j=i:=by
 let#[l,g,k]:=tX xs j d
 rcases Nat.lt_trichotomy (below xs j) i with c|c|c
 ·have f:below xs j<xs.size:=Nat.lt_trans c (Array.getElem?_eq_some_iff.mp h).1
  have e:xs[below xs j]?=some xs[below xs j]:=by simp[f]
  let a:=k _ _ e (Qmq _)
  let b:=(Array.getElem?_eq_some_iff.mp h)
  let#[b,m]:=b
  have:=List.pairwise_iff_getElem.mp d (below xs j) i (by simpa using f) (by simpa using b) c
  simp at this
  omega
 ·show c
 ·have:=g i j h c;omega
def ml{t:SetTable}(a:t.place.toList.Pairwise (·<·))(h:t.place[i]?=some j):t.slot j=.live i:=by
 unfold slot
 dsimp only
 rw[below_at a h,h]
 simp
def Be{t:SetTable}(a:t.dummies= (List.toArray []))(h:j∉t.place.toList):t.slot j=.empty:=by
 unfold slot
 dsimp only
 rw[Quq,Quq]
 ·rw[a]
  simp[has,below,below.go]
 ·intro z
  have z:t.place[below t.place j]?=some j:=by simpa using z
  show h (by have:=Array.mem_of_getElem? z;simpa using this)
structure TI(t:SetTable)(es:Array (Int×Value)):Prop where
 pw:∃k,t.mask+1=2^k/\1<=k
 dm:t.dummies= (List.toArray [])
 rise:t.place.toList.Pairwise (·<·)
 sz:t.place.size=es.size
 room:es.size<=t.mask
 rch:∀(i:Nat) (h:Int) (v:Xd) (j:Nat),es[i]?=some (h,v)->t.place[i]?=some j->Ii t.mask h (·∈t.place.toList) j
def TI.fits(x:TI t es):t.fits es.size=true:=by
 unfold SetTable.fits fill
 rw[x.dm,x.sz]
 simpa using x.room
def TI.odd(x:TI t es):t.gaveWay=false:=by
 let#[k,a,c]:=x.pw
 obtain⟨k,rfl⟩:∃b,k=b+1:=#[k-1,by omega]
 rw[Nat.pow_succ] at a
 unfold SetTable.gaveWay
 erw[beq_eq_false_iff_ne,ne_eq]
 omega
def TI.live(x:TI t es)(h:j∈t.place.toList):∃i,t.place[i]?=some j/\i<es.size:=by
 let#[i,a,e]:=QbQ h
 have a:i<t.place.size:=by simpa using a
 show#[i,by rw[Array.getElem?_eq_getElem a];simpa using e,by rw[<-x.sz];show a]
def TI.free(x:TI t es)(h:Int):∃N,N<=13+es.size/\(rn t.mask h N).1∉t.place.toList:=by
 let#[k,b,_]:=x.pw
 have hl:t.place.toList.length=es.size:=by rw[Array.length_toList];show x.sz
 let#[N,a,c]:=BQ (m:=t.mask) h b (occ:=t.place.toList) (by rw[hl];show x.room)
 show#[N,by rw[hl] at a;show a,c]
def HY(x:TI t es){hashAt:Nat->Int}(F:(rn t.mask h N).1∉t.place.toList){V:Nat->Prop}(C:∀i j,t.place[i]?=some j->hashAt i≠h->V j):∀a n r,r<=L t.mask (rn t.mask h n).1->(n<N\/n=N/\r=0)->10*(N-n)+1<=a+r->uH t.mask h n r V->
  ∃ b d,d<=L t.mask (rn t.mask h b).1/\(b<N\/b=N/\d=0)/\10*n+r<=10*b+d/\uH t.mask h b d V∧
    ((sl t.mask h b d∉t.place.toList/\probe.go t hashAt h a (pb t.mask h n r)=some (.empty (sl t.mask h b d) none))∨
      ∃i,t.place[i]?=some (sl t.mask h b d)/\hashAt i=h/\probe.go t hashAt h a (pb t.mask h n r)=some (.candidate (sl t.mask h b d) i (t.advance (pb t.mask h b d)))):=by
 intro a
 induction a with
 |zero=>intro n r p f B;have:=HQ t.mask (rn t.mask h n).1;omega
 | succ a w=>
   intro n r p f B l
   by_cases c:sl t.mask h n r∈t.place.toList
   · let#[i,k,_]:=x.live c
     by_cases g:hashAt i=h
     · show#[n,r,p,f,Qmq _,l,.inr #[i,k,g,?_]]
       unfold probe.go
       rw[show(pb t.mask h n r).j=sl t.mask h n r from rfl,ml x.rise k]
       simp[g]
     · have y:=C i _ k g
       have e:probe.go t hashAt h (a+1) (pb t.mask h n r)=probe.go t hashAt h a (t.advance<|pb t.mask h n r):=by
         conv=>lhs;unfold probe.go
         rw[show(pb t.mask h n r).j=sl t.mask h n r from rfl,ml x.rise k]
         simp[g]
       rw[e]
       have u:n<N:=by
         rcases f with f|⟨rfl,rfl⟩
         · show f
         · show absurd c F
       by_cases v:r<L t.mask (rn t.mask h n).1
       · rw[EW v]
         let#[b,d,q,s,A,o,m]:=w n (r+1) v (.inl u) (!0) (l.in y)
         show#[b,d,q,s,by omega,o,m]
       · have z:r=L t.mask (rn t.mask h n).1:=by omega
         have:=HQ t.mask (rn t.mask h n).1
         subst z
         rw[Cj]
         let#[b,d,q,s,A,o,m]:=w (n+1) 0 (Nat.zero_le _) (!0) (!0) (l.out y)
         show#[b,d,q,s,by omega,o,m]
   · show#[n,r,p,f,Qmq _,l,.inl #[c,?_]]
     unfold probe.go
     rw[show(pb t.mask h n r).j=sl t.mask h n r from rfl,Be x.dm c]
     rfl
def Bb(x:TI t es){hashAt:Nat->Int}(c:N<=13+es.size)(g:(rn t.mask h N).1∉t.place.toList){V:Nat->Prop}(f:∀i j,t.place[i]?=some j->hashAt i≠h->V j)(d:r<=L t.mask (rn t.mask h n).1)(k:n<N\/n=N/\r=0)(e:uH t.mask h n r V):
  ∃ a b,b<=L t.mask (rn t.mask h a).1/\(a<N\/a=N/\b=0)/\10*n+r<=10*a+b/\uH t.mask h a b V∧
    ((sl t.mask h a b∉t.place.toList/\t.probe hashAt h (pb t.mask h n r)=some (.empty (sl t.mask h a b) none))∨
      ∃i,t.place[i]?=some (sl t.mask h a b)/\hashAt i=h/\t.probe hashAt h (pb t.mask h n r)=some (.candidate (sl t.mask h a b) i (t.advance (pb t.mask h a b)))):=by
 unfold SetTable.probe
 show HY x g f _ n r d k ?_ e
 have:=x.room
 unfold turns
 omega
def zM(x:TI t es){hashAt:Nat->Int}(e:t.probe hashAt h p=m)(y:p=pb t.mask h n r)(q:∀i,hashAt i=(es[i]?.map (·.1)).getD 0){same:Nat->Bool}(f:N<=13+es.size)(C:(rn t.mask h N).1∉t.place.toList)(z:r<=L t.mask (rn t.mask h n).1)(B:n<N\/n=N/\r=0)
  (I:uH t.mask h n r (λj=>∃i,t.place[i]?=some j/\∀v,es[i]?=some (h,v)->same i=false)):
  ∃ a b,b<=L t.mask (rn t.mask h a).1/\(a<N\/a=N/\b=0)/\10*n+r<=10*a+b/\uH t.mask h a b (λj=>∃i,t.place[i]?=some j/\∀v,es[i]?=some (h,v)->same i=false)∧
    ((sl t.mask h a b∉t.place.toList/\m=some (.empty (sl t.mask h a b) none))∨
      ∃i v,t.place[i]?=some (sl t.mask h a b)/\es[i]?=some (h,v)/\m=some (.candidate (sl t.mask h a b) i (t.advance (pb t.mask h a b)))):=by
 subst y
 let#[a,b,F,G,u,w,d]:=Bb x (hashAt:=hashAt) f C (λi j k g=>#[i,k,λv H=>absurd (by rw[q,H];rfl) g]) z B I
 show#[a,b,F,G,u,w,?_]
 rw[e] at d
 rcases d with d|⟨i,l,c,A⟩
 ·show .inl d
 ·let#[j,s,o]:=x.live (j:=sl t.mask h a b) (by have:=Array.mem_of_getElem? l;simpa using this)
  have:i=j:=yx x.rise l s
  subst this
  show .inr #[i,es[i].2,l,?_,A]
  rw[Array.getElem?_eq_getElem o]
  rw[q,Array.getElem?_eq_getElem o] at c
  have c:es[i].1=h:=c
  rw[<-c]
def Pj(es:Array (Int×Value)):Prop:=∀(i:Nat) (h:Int) (v:Xd),es[i]?=some (h,v)->∃b,v=.ref b
def yZ{E:X0}{s:X4}(T:TI t es)(R:Pj es)(ho:s.heap.get? a=some o)(hd:o.data=.set es ep t){same:Nat->Bool}(F:N<=13+es.size)(hN:(rn t.mask h N).1∉t.place.toList)
  (H:∀(Q:Xf),Q false s->wpAny (model prog w) A (searchCouldBeSeen x ((es.filter (·.1==h)).toList.map (·.2))) Q E s)
  (S:∀i v,es[i]?=some (h,v)->∀(Q:Xf),Q (same i) s->wpAny (model prog w) A (eqBool v x) Q E s)
  {Q:SetFound->Shared->Prop} (q1:(∃i v,es[i]?=some (h,v)/\same i=true)->∀f:Option Nat,(adding=false->f.isSome=true)->Q (.there f) s) (q2:(∀i v,es[i]?=some (h,v)->same i=false)->∀j,j∉t.place.toList->Ii t.mask h (·∈t.place.toList) j->Q (.free j false) s):
  ∀ c n r k,k.getD (t.probeStart h)=pb t.mask h n r->r<=L t.mask (rn t.mask h n).1->(n<N\/n=N/\r=0)->10*(N-n)+1<=c+r->uH t.mask h n r (λj=>∃i,t.place[i]?=some j/\∀v,es[i]?=some (h,v)->same i=false)->
    wpAny (model prog w) A (setSearchFrom a x h adding c k) Q E s:=by
 intro c
 induction c with
 |zero=>intro n r _ _ Y Z hf;have:=HQ t.mask (rn t.mask h n).1;omega
 | succ c ih=>
   intro n r k G Y Z hf hB
   unfold setSearchFrom
   show Qaq<|wpAny_setState_of ho hd T.fits ?_
   dsimp only
   rw[T.odd]
   erw[Bool.false_eq_true,if_false]
   split
   · rename_i a6 e
     let#[g,q,a1,M,a3,B,W]:=zM T e G (λ_=>rfl) F hN Y Z hB
     rcases W with⟨u,l⟩|⟨i,v,u,l,b3⟩
     · cases l
       dsimp only
       show Qgq<|q2 (λi v J=>?_) _ u #[g,q,a1,rfl,B.imp λj ⟨i,J,_⟩=>by have:=Array.mem_of_getElem? J;simpa using this]
       cases C:same i with
       |false=>rfl
       | true=>
         exfalso
         have I:i<t.place.size:=by rw[T.sz];show(Array.getElem?_eq_some_iff.mp J).1
         let#[U,K,c1,c2,c3]:=T.rch i h v _ J (Array.getElem?_eq_getElem I)
         have no:∀{n1 P:Nat},sl t.mask h U K=sl t.mask h n1 P->(∃p,t.place[p]?=some (sl t.mask h n1 P)/\∀v,es[p]?=some (h,v)->same p=false)->False:=λ{n1 P} e ⟨p,d1,d2⟩=>by
           have:p=i:=yx T.rise d1 (by rw[Array.getElem?_eq_getElem I,c2,e])
           subst this
           rw[d2 v J] at C
           cases C
         rcases Nat.lt_trichotomy U g with d|d|d
         · show no rfl<|B.1 U K d c1
         · subst d
           rcases Nat.lt_trichotomy K q with d|d|d
           · show no rfl<|B.2 K d
           · subst d
             show u (by rw[<-c2];simp)
           · show u<|c3.2 q d
         · show u<|c3.1 g q d a1
     · cases b3
       have a0:g<N:=by
         rcases M with M|⟨rfl,rfl⟩
         · show M
         · show absurd (by have:=Array.mem_of_getElem? u;simpa [sl] using this) hN
       let#[b,rfl]:=R i h v l
       have y:wpAny (model prog w) A (do
           let equal<-holding [Value.ref b] (eqBool (Value.ref b) x)
           let __x<-setState a
           if (adding&&equal)=true then pure (SetFound.there none)
             else
               match __x.2.snd.sameMemory t.moves t.mask with
               | some same=>
                 match if same=true then __x.2.snd.slot (sl t.mask h g q) else Slot.empty with
                 | Slot.live p=>
                   match __x.fst[p]? with
                   | some (fst,y')=>do
                     let __do_lift<-isSame y' (Value.ref b)
                     let still<-pure (if __do_lift=true then some p else none)
                     match still with
                       | none=>do
                         rule "set.search.anew"
                         setSearchFrom a x h adding c none
                       | some p=>
                         if equal=true then pure (SetFound.there<|some p)
                         else setSearchFrom a x h adding c (some<|t.advance<|pb t.mask h g q)
                   | none=>do
                     let still<-pure none
                     match still with
                       | none=>do
                         rule "set.search.anew"
                         setSearchFrom a x h adding c none
                       | some p=>
                         if equal=true then pure (SetFound.there<|some p)
                         else setSearchFrom a x h adding c (some<|t.advance<|pb t.mask h g q)
                 | x_1=>do
                   let still<-pure none
                   match still with
                     | none=>do
                       rule "set.search.anew"
                       setSearchFrom a x h adding c none
                     | some p=>
                       if equal=true then pure (SetFound.there<|some p)
                       else setSearchFrom a x h adding c (some<|t.advance<|pb t.mask h g q)
               |x=>unsupported "set.changed-during-lookup:is-the-new-block-at-the-old-address") Q E s:=by
         show Qaq<|QLq<|S i _ l _ ?_
         show Qaq<|wpAny_setState_of ho hd T.fits ?_
         dsimp only
         have sm:t.sameMemory t.moves t.mask=some true:=by unfold sameMemory;simp
         cases C:same i with
         | true=>
           cases adding with
           | true=>
             erw[Bool.true_and,if_true]
             show Qgq (q1 #[i,_,l,C] _ λz=>by cases z)
           | false=>
             erw[Bool.false_and,Bool.false_eq_true,if_false]
             rw[sm]
             dsimp only
             rw[Qhq rfl,ml T.rise u]
             dsimp only
             rw[l]
             dsimp only
             show Qaq ?_
             unfold isSame
             dsimp only
             rw[Qhq (by simp)]
             show Qgq<|Qaq<|Qgq ?_
             erw[if_true]
             show Qgq (q1 #[i,_,l,C] _ λ_=>rfl)
         | false=>
           rw[Bool.and_false]
           erw[Bool.false_eq_true,if_false]
           rw[sm]
           dsimp only
           rw[Qhq rfl,ml T.rise u]
           dsimp only
           rw[l]
           dsimp only
           show Qaq ?_
           unfold isSame
           dsimp only
           rw[Qhq (by simp)]
           show Qgq<|Qaq<|Qgq ?_
           erw[if_true]
           have hv:∃X,t.place[X]?=some (sl t.mask h g q)/\∀v,es[X]?=some (h,v)->same X=false:=#[i,u,λ_ _=>C]
           have:=HQ t.mask (rn t.mask h g).1
           by_cases cr:q<L t.mask (rn t.mask h g).1
           · show ih g (q+1) _ (by rw[<-EW cr];rfl) cr (.inl a0) (!0)<|B.in hv
           · have er:q=L t.mask (rn t.mask h g).1:=by omega
             subst er
             show ih (g+1) 0 _ (by rw[<-Cj];rfl) (Nat.zero_le _) (!0) (!0)<|B.out hv
       dsimp only
       split
       · show Qaq (H _ ?_)
         erw[Bool.false_eq_true,if_false]
         rw[l]
         show y
       · rw[l]
         show y
   · rename_i e
     let#[g,q,a1,M,a3,B,W]:=zM T (m:=t.probe _ h _) rfl G (λ_=>rfl) F hN Y Z hB
     rcases W with⟨_,l⟩|⟨_,_,_,_,l⟩
     · show absurd l<|e _
     · show absurd l<|e _
def Ic(a:Array (Option Nat))(j:Nat):Prop:=∃k:Nat,a[j]?=some (some k)
structure OI(m:Nat)(hs:List Int)(ow:Array (Option Nat)):Prop where
 sz:ow.size=m+1
 fn:∀(k:Nat) (h:Int),hs[k]?=some h->∃j,ow[j]?=some (some k)/\Ii m h (Ic ow) j
 inj:∀(j j' k:Nat),ow[j]?=some (some k)->ow[j']?=some (some k)->j=j'
 lt:∀(j k:Nat),ow[j]?=some (some k)->k<hs.length
noncomputable def slots(m:Nat)(g:Array (Option Nat)):List (Nat×Nat):=(List.range (m+1)).filterMap λj=>(g.getD j none).map (j,·)
def getD_some{g:Array (Option Nat)}:g.getD j none=some k↔g[j]?=some (some k):=by
 unfold Array.getD
 by_cases h:j<g.size
 ·simp[h]
 ·simp[h]
def fI(x:OI m l g):p∈slots m g↔g[p.1]?=some (some p.2):=by
 unfold slots
 rw[List.mem_filterMap]
 constructor
 ·rintro⟨j,_,e⟩
  let#[k,a,rfl]:=oQm.mp e
  show getD_some.mp a
 ·intro h
  show#[p.1,List.mem_range.mpr ?_,by rw[getD_some.mpr h];rfl]
  rw[<-x.sz]
  show(Array.getElem?_eq_some_iff.mp h).1
theorem ua:∀(n a:Nat) (f:Nat->Option Nat),(((List.range' a n).filterMap λj=>(f j).map (j,·)).map (·.1)).Pairwise (·<·)
 |0,a,f=>by simp
 | n+1,a,f=>by
   rw[List.range'_succ]
   let c:=ua n (a+1) f
   cases e:f a with
   |none=>rw[List.filterMap_cons_none (by rw[e];rfl)];show c
   | some k=>
     rw[List.filterMap_cons_some (by rw[e];rfl),QDq,List.pairwise_cons]
     show#[λb i=>?_,c]
     let#[p,d,rfl]:=Qkq.mp i
     let#[j,h,e]:=List.mem_filterMap.mp d
     let#[o,_,rfl]:=oQm.mp e
     have:=(List.mem_range'_1.mp h).1
     show a<j
     omega
def ya(m:Nat)(g:Array (Option Nat)):((slots m g).map (·.1)).Pairwise (·<·):=by
 unfold slots
 rw[List.range_eq_range']
 show ua (m+1) 0 λj=>g.getD j none
def um(x:OI m l g):((slots m g).map (·.2)).Perm (List.range l.length):=by
 show(List.perm_ext_iff_of_nodup ?_ List.nodup_range).mpr λk=>?_
 ·rw[List.nodup_iff_pairwise_ne,List.pairwise_map]
  let c:=ya m g
  rw[List.pairwise_map] at c
  show List.Pairwise.imp_of_mem (λ{p q} a hq lt e=>?_) c
  let h:=(fI x).mp a
  let b:=(fI x).mp hq
  rw[<-e] at b
  have:=x.inj _ _ _ h b
  omega
 ·rw[Qkq,List.mem_range]
  constructor
  ·rintro⟨p,a,rfl⟩
   show x.lt _ _ ((fI x).mp a)
  ·intro d
   let#[j,f,_]:=x.fn k l[k] (gQe d)
   show#[(j,k),(fI x).mpr f,rfl]
def Ek{g:Array (Option Nat)}(I:g.size=m+1)(C:¬Ic g (rn m h N).1):∀a n,n<=N->N-n<a->uH m h n 0 (Ic g)->∃j,layClean.free m g a (rn m h n).1 (rn m h n).2=some j/\g[j]?=some none/\Ii m h (Ic g) j:=by
 have p:∀{j:Nat},j<=m->¬Ic g j->g[j]?=some none:=λ{j} w no=>by
  have hl:j<g.size:=by omega
  rw[Array.getElem?_eq_getElem hl]
  cases e:g[j] with
  |none=>rfl
  |some k=>show absurd #[k,by rw[Array.getElem?_eq_getElem hl,e]] no
 intro a
 induction a with
 |zero=>intro n B A;omega
 | succ a F=>
   intro n B A x
   let v:=Jz m h n
   have G:runEnd m (rn m h n).1+1-(rn m h n).1=L m (rn m h n).1+1:=by unfold L runEnd;split <;>omega
   unfold layClean.free
   rw[G]
   cases e:(List.range (L m (rn m h n).1+1)).find? λk=>(g.getD ((rn m h n).1+k)<|some 0).isNone with
   | some r=>
     have u:r<=L m (rn m h n).1:=by have:=List.mem_range.mp (List.mem_of_find?_eq_some e);omega
     let t:=List.find?_some e
     have w:(rn m h n).1+r<=m:=Mw v u
     have hl:(rn m h n).1+r<g.size:=by omega
     show#[_,rfl,?_,n,r,u,rfl,x.1,λb o=>?_]
     · rw[Array.getElem?_eq_getElem hl]
       erw[Array.getD,hl,dif_pos] at t
       simpa using t
     · have f:=List.find?_range_eq_some.mp e
       let#[_,_,f]:=f
       let f:=f b o
       have i:(rn m h n).1+b<g.size:=by omega
       erw[Array.getD,i,dif_pos,Bool.not_eq_true',Option.isNone_eq_false_iff,Option.isSome_iff_exists] at f
       let#[k,s]:=f
       show#[k,by show g[(rn m h n).1+b]?=_;rw[Array.getElem?_eq_getElem i];show congrArg some s]
   | none=>
     have q:∀b,b<=L m (rn m h n).1->Ic g (sl m h n b):=λb o=>by
       have:=List.find?_eq_none.mp e b (List.mem_range.mpr (!0))
       have w:(rn m h n).1+b<=m:=Mw v o
       have i:(rn m h n).1+b<g.size:=by omega
       erw[Array.getD,i,dif_pos,Bool.not_eq_true,Option.isNone_eq_false_iff,Option.isSome_iff_exists] at this
       let#[k,s]:=this
       show#[k,by show g[(rn m h n).1+b]?=_;rw[Array.getElem?_eq_getElem i];show congrArg some s]
     have H:n≠N:=λz=>by subst z;show C (q 0<|Nat.zero_le _)
     show F (n+1) (!0) (!0) #[λy b c d=>(Nat.lt_succ_iff_lt_or_eq.mp c).elim (λc=>x.1 y b c d) λe=>by subst e;show q b d,λb c=>absurd c<|Nat.not_lt_zero _]
def OI.step(u:m+1=2^k)(x:OI m l g)(hl:l.length<=m)(h:Int):∃j,layClean.free m g (turns m) (bits h%(m+1)) (bits h)=some j/\OI m (l++ [h]) (g.setIfInBounds j<|some l.length):=by
 let n:=(um x).length_eq
 rw[lQm,QVq] at n
 let#[N,r,p]:=BQ (m:=m) h u (occ:=(slots m g).map (·.1)) (by rw[lQm,n];show hl)
 rw[lQm,n] at r
 have z:¬Ic g (rn m h N).1:=λ⟨k,b⟩=>p (Qkq.mpr #[((rn m h N).1,k),(fI x).mpr b,rfl])
 let#[j,v,f,w]:=Ek x.sz z (turns m) 0 (Nat.zero_le _) (by unfold turns;omega) uH.zero
 show#[j,v,?_]
 have y:j<g.size:=(Array.getElem?_eq_some_iff.mp f).1
 have d:∀i,(g.setIfInBounds j<|some l.length)[i]?=if j=i then some (some l.length) else g[i]? :=λi=>by
  rw[Array.getElem?_setIfInBounds]
  by_cases c:j=i
  ·subst c;simp[y]
  ·simp[c]
 have o:∀i,Ic g i->Ic (g.setIfInBounds j<|some l.length) i:=λi s=>by
  let#[k,b]:=s
  show#[k,?_]
  rw[d,Quq]
  ·show b
  ·rintro rfl;rw[f] at b;cases b
 show#[by rw[Array.size_setIfInBounds];show x.sz,λk q b=>?_,λi A k a e=>?_,λi k a=>?_]
 ·by_cases c:k<l.length
  ·rw[QHq c] at b
   let#[i,a,t]:=x.fn k q b
   show#[i,?_,t.imp o]
   rw[d,Quq]
   ·show a
   ·rintro rfl;rw[f] at a;cases a
  ·rw[QQq (!0)] at b
   have:k-l.length=0:=by have:=(gQs.mp b).1;simp at this;omega
   rw[this] at b
   cases b
   have:k=l.length:=by omega
   subst this
   show#[j,by rw[d,Qhq rfl],w.imp o]
 ·rw[d] at a e
  split at a <;>split at e
  ·omega
  ·cases a;have:=x.lt _ _ e;omega
  ·cases e;have:=x.lt _ _ a;omega
  ·show x.inj _ _ _ a e
 ·rw[d] at a
  rw[lQa]
  split at a
  ·cases a;simp
  ·have:=x.lt _ _ a;simp;omega
def OI.nil:OI m [] (Array.replicate (m+1) none):=by
 show#[by simp,λk h e=>by simp at e,λj a k h _=>?_,λj k h=>?_]
 ·rw[Array.getElem?_replicate] at h;split at h <;>cases h
 ·rw[Array.getElem?_replicate] at h;split at h <;>cases h
noncomputable def CC(m:Nat)(a:Option (Array (Option Nat)×Nat))(h:Int):Option (Array (Option Nat)×Nat):=do
 let (owner,k)<-a
 let j<-layClean.free m owner (turns m) (bits h%(m+1)) (bits h)
 pure (owner.setIfInBounds j<|some k,k+1)
theorem B0(c:m+1=2^k):∀(more l:List Int) (g:Array (Option Nat)),OI m l g->l.length+more.length<=m+1->
  ∃a,more.foldl (CC m) (some (g,l.length))=some (a,l.length+more.length)/\OI m (l++more) a
 | [],l,g,x,_=>#[g,rfl,by rw[List.append_nil];show x]
 | h::more,l,g,x,hl=>by
   rw[Qnq] at hl
   let#[j,e,y]:=x.step c (!0) h
   let#[a,b,z]:=B0 c more (l++ [h]) _ y (by rw[lQa];simp;omega)
   show#[a,?_,by rw[Qvq] at z;show z]
   have d:CC m (some (g,l.length)) h=some (g.setIfInBounds j<|some l.length,l.length+1):=by simp[CC,e]
   rw[List.foldl_cons,d]
   rw[lQa] at b
   erw[Qnq,QGq,Nat.zero_add] at b|-
   rw[b]
   congr 2
   omega
def GK(a:m+1=2^k)(l:Array Int)(hl:l.size<=m+1):∃g,layClean m l=some g/\OI m l.toList g:=by
 let#[g,e,x]:=B0 a l.toList [] _ OI.nil (by simpa using hl)
 show#[g,?_,by simpa using x]
 unfold layClean
 rw[<-Array.foldl_toList]
 show Option.map _ (l.toList.foldl (CC m)<|some (Array.replicate (m+1) none,0))=_
 rw[show(some (Array.replicate (m+1) none,0):Option (Array (Option Nat)×Nat))=some (Array.replicate (m+1) none,([]:List Int).length) from rfl,e]
 rfl
theorem zu:∀(b n a:Nat),(∃k,a=2^k/\3<=k)->n<a*2^b->a<=2*n+8->(∃k,sizeAbove.go n b a=2^k/\3<=k)/\n<sizeAbove.go n b a/\sizeAbove.go n b a<=2*n+8
 |0,n,a,h,lt,le=>#[h,by simpa [sizeAbove.go] using lt,le]
 | b+1,n,a,h,lt,le=>by
   unfold sizeAbove.go
   by_cases c:a<=n
   · rw[Qhq c]
     let#[k,rfl,hk]:=h
     show zu b n _ #[k+1,by rw[Nat.pow_succ],by omega] ?_ (!0)
     rw[Nat.pow_succ] at lt
     rw[Nat.mul_assoc,Nat.mul_comm 2]
     show lt
   · rw[Quq c]
     show#[h,by omega,le]
def si(a:n<2^64):(∃k,sizeAbove n=2^k/\3<=k)/\n<sizeAbove n/\sizeAbove n<=2*n+8:=by
 unfold sizeAbove
 show zu 64 n 8 #[3,rfl,Qmq _] ?_ (!0)
 omega
def zq{t:SetTable}{es:Array (Int×Value)}(hw:es.size<=wanted)(A:wanted<2^64):∃(t':SetTable) (a:Array Nat),t.relaid (es.map (·.1)) wanted=some (t',a)/\t'.mask+1=sizeAbove wanted∧
  (a.filterMap (es[·]?)).size=es.size/\(a.filterMap (es[·]?)).toList.Perm es.toList/\TI t' (a.filterMap (es[·]?)):=by
 let#[#[k,P,W],Z,Y]:=si A
 have I:sizeAbove wanted-1+1=2^k:=by rw[P];have:=Nat.two_pow_pos k;omega
 generalize z:sizeAbove wanted-1=m at I
 have F:(es.map (·.1)).size=es.size:=by simp
 let#[K,e,x]:=GK I (es.map (·.1)) (by rw[F];omega)
 have hl:((es.map (·.1)).toList).length=es.size:=by simp
 let c:=um x
 rw[hl] at c
 let d:_:=slots m K
 let b:_:=(d.map (·.2)).toArray.filterMap (es[·]?)
 have o:d.length=es.size:=by have:=c.length_eq;simpa using this
 have w:∀i (f:i<d.length),b[i]?=es[(d[i]).2]? :=by
  have B:∀(l:List (Nat×Nat)),(∀p∈l,p.2<es.size)->∀i (f:i<l.length),((l.map (·.2)).filterMap (es[·]?))[i]?=es[(l[i]).2]? :=by
   intro l
   induction l with
   |nil=>intro _ i f;simp at f
   | cons p l X=>
     intro g i f
     let r:=g p (QBq ..)
     rw[QDq,List.filterMap_cons_some (Array.getElem?_eq_getElem r)]
     cases i with
     |zero=>simp[r]
     |succ i=>simpa using X (λq Q=>g q<|Qpq _ Q) i (by simpa using f)
  intro i f
  have:=B d (λp g=>by have:=x.lt _ _ ((fI x).mp g);rw[hl] at this;show this) i f
  simpa [b] using this
 have J:b.toList.Perm es.toList:=by
  have:=c.filterMap (es[·]?)
  rw[filterMap_getElem?_range] at this
  simpa [b] using this
 have n:b.size=es.size:=by have:=J.length_eq;simpa using this
 show#[{mask:=m,place:=(d.map (·.1)).toArray,dummies:= (List.toArray []),finger:=t.finger,led:=t.led,moves:=t.movedTo m,plain:=t.plain},(d.map (·.2)).toArray,?_,?_,n,J,?_]
 ·unfold relaid laid
  rw[z,e]
  rfl
 ·show m+1=_
  omega
 ·show#[#[k,I,by omega],rfl,?_,?_,?_,?_]
  ·show((d.map (·.1)).toArray.toList).Pairwise _
   show ya m K
  ·show(d.map (·.1)).toArray.size=b.size
   rw[n,Qjq,lQm]
   show o
  ·show b.size<=m
   omega
  ·intro i h v j s u
   have u:(d.map (·.1))[i]?=some j:=by simpa using u
   rw[gQm] at u
   let#[p,g,rfl]:=oQm.mp u
   let#[f,y]:=gQs.mp g
   have s:b[i]?=some (h,v):=s
   rw[w i f,y] at s
   let#[N,H,S]:=x.fn p.2 h (by
    rw[Array.toList_map,gQm]
    have:es.toList[p.2]?=some (h,v):=by simpa using s
    rw[this]
    rfl)
   let G:=(fI x).mp (mQg g)
   have:N=p.1:=x.inj _ _ _ H G
   subst this
   show S.imp λM U=>?_
   let#[R,C]:=U
   show M∈((d.map (·.1)).toArray).toList
   show Qkq.mpr #[(M,R),(fI x).mpr C,rfl]
mutual
noncomputable def nu:Nat->PyData->Bool
 |_,.int _=>true
 |n+1,.tuple ps=>jW n ps
 |_,_=>false
noncomputable def jW:Nat->List PyData->Bool
 |_,[]=>true
 |n,p::ps=>nu n p&&jW n ps
end
mutual
noncomputable def rh:PyData->Int
 |.int i=>hashInt i
 |.tuple a=>reduceHash (Builtin.Tuple.tupleHashOf<|jz a)
 |_=>0
noncomputable def jz:List PyData->List Int
 | []=> []
 |p::ps=>rh p::jz ps
end
mutual
theorem ub:∀{n:Nat} {p q:PyData} {m:Nat},nu n p=true->nu m q=true->PyData.eqv p q=true->p=q
 |_,.int i,.int j,_,_,_,h=>by simp[PyData.eqv] at h;rw[h]
 | n+1,.tuple ps,.tuple qs,m+1,h1,h2,h=>by
   erw[nu] at h1 h2
   rw[PyData.eqv] at h
   rw[EO h1 h2 h]
 |_,.int i,.tuple qs,_,_,_,h=>by simp[PyData.eqv] at h
 |_,.tuple ps,.int j,_,_,_,h=>by simp[PyData.eqv] at h
 |_,.none,_,_,h,_,_=>by simp[nu] at h
 |_,.bool _,_,_,h,_,_=>by simp[nu] at h
 |_,.str _,_,_,h,_,_=>by simp[nu] at h
 |_,.list _,_,_,h,_,_=>by simp[nu] at h
 |_,.dict _,_,_,h,_,_=>by simp[nu] at h
 |_,_,.none,_,_,h,_=>by simp[nu] at h
 |_,_,.bool _,_,_,h,_=>by simp[nu] at h
 |_,_,.str _,_,_,h,_=>by simp[nu] at h
 |_,_,.list _,_,_,h,_=>by simp[nu] at h
 |_,_,.dict _,_,_,h,_=>by simp[nu] at h
 |0,.tuple _,_,_,h,_,_=>by simp[nu] at h
 |_,_,.tuple _,0,_,h,_=>by simp[nu] at h
theorem EO:∀{n:Nat} {ps a:List PyData} {m:Nat},jW n ps=true->jW m a=true->PyData.eqvAll ps a=true->ps=a
 |_,[],[],_,_,_,_=>rfl
 | _,p::ps,q::a,_,h1,h2,h=>by
   erw[jW,QCq] at h1 h2
   erw[PyData.eqvAll,QCq] at h
   rw[ub h1.1 h2.1 h.1,EO h1.2 h2.2 h.2]
 |_,[],_::_,_,_,_,h=>by simp[PyData.eqvAll] at h
 |_,_::_,[],_,_,_,h=>by simp[PyData.eqvAll] at h
end
mutual
theorem xr:∀{n:Nat} {p:PyData} {v:Xd} {as:X7} {A:X_} {E:X0} {s:X4} {Q:Int->Shared->Prop},Reads s.heap v p as->nu n p=true->A.units+n<cLine->(∀d,Q (rh p) {s with toks:=d})->wpAny (model prog w) A (pyHash v) Q E s
 |_,.int i,_,_,A,E,s,Q,.int _ t,_,_,q=>wpAny_pyHash_int (q _)
 | n+1,.tuple ps,_,_,A,E,s,Q,.tuple (a:=a) (o:=o) (vs:=vs) ho hc hd hi,hn,hu,q=>by
   have b:s.TypeIs (.ref a) "tuple":=#[o,ho,hc]
   unfold pyHash
   first|unfold pyHashByItsType|skip
   show Qaq<|wpAny_cRoomFor_or (.inr (!0))<|Qaq<|wpAny_specialOf b F.slot_tuple_hash.lookup ?_
   show wpAny _ _ (if (some (Value.builtin "tuple.__hash__")==some Value.none)=true then _ else _) Q E s
   rw[Quq (by rw[beq_builtin_none];show Qtq)]
   show Qaq<|wpAny_specialOf b F.slot_tuple_hash.lookup ?_
   show wpAny _ _ (callSpecialIfBoundUnlessNone? (.ref a) "__hash__" _ >>= _) Q E s
   show Qaq<|wpAny_callSpecialIfBoundUnlessNone?_slot b F.slot_tuple_hash<|wpAny_call_entry F.slot_tuple_hash b F.entry_tuple_hash ?_<|F.args_tuple_hash_1 _
   show wpAny _ _ (Builtin.Tuple.tupleItemsOf (.ref a) >>= _) _ _ s
   show Qaq<|wpAny_tupleItemsOf ho hd<|Qaq ?_
   rw[<-Array.forIn_toList]
   show tq (n:=n) (List.toArray []) hi hn (show A.in1.units+n<cLine from by have:A.in1.units=A.units+1:=rfl;omega) λd=>?_
   show wpAny _ _ (retInt<|Builtin.Tuple.tupleHashOf ((List.toArray [])++(jz ps).toArray).toList) _ _ _
   rw[show((List.toArray [])++(jz ps).toArray:Array Int).toList=jz ps by simp]
   show wpAny_ret_mkInt ?_
   let q:=q
   erw[rh] at q
   generalize Builtin.Tuple.tupleHashOf (jz ps)=z at q
   show wpAny _ _ (if (decide (-(2:Int)^63<=z)&&decide (z<2^63))=true then _ else _) Q E _
   unfold reduceHash at q
   by_cases c:(decide (-(2:Int)^63<=z)&&decide (z<2^63))=true
   · rw[Qhq c]
     rw[Qhq c] at q
     show Qgq<|q _
   · rw[Quq c]
     rw[Quq c] at q
     show Qaq<|wpAny_rule<|Qgq<|q _
 |_,.none,_,_,_,_,_,_,_,h,_,_=>by simp[nu] at h
 |_,.bool _,_,_,_,_,_,_,_,h,_,_=>by simp[nu] at h
 |_,.str _,_,_,_,_,_,_,_,h,_,_=>by simp[nu] at h
 |_,.list _,_,_,_,_,_,_,_,h,_,_=>by simp[nu] at h
 |_,.dict _,_,_,_,_,_,_,_,h,_,_=>by simp[nu] at h
 |0,.tuple _,_,_,_,_,_,_,_,h,_,_=>by simp[nu] at h
theorem tq:∀{n:Nat} {ps:List PyData} {vs:X5} {as:X7} {A:X_} {E:X0} {s:X4} {R:Array Int->Shared->Prop} (a:Array Int),ReadsAll s.heap vs ps as->jW n ps=true->A.units+n<cLine->(∀b,R (a++(jz ps).toArray) {s with toks:=b})->
  wpAny (model prog w) A (forIn vs a λx d=>do let h<-pyHash x;pure (ForInStep.yield<|d.push h)) R E s
 | _,[],_,_,A,E,s,R,a,.nil,_,_,q=>by
   rw[List.forIn_nil]
   have:=q s.toks
   simp[jz] at this
   show Qgq this
 | n,p::ps,_,_,A,E,s,R,a,.cons h d,hn,hu,q=>by
   erw[jW,QCq] at hn
   rw[List.forIn_cons]
   show Qaq<|Qaq (xr h hn.1 hu λb=>Qgq ?_)
   show tq (s:={s with toks:=b}) (a.push<|rh p) d hn.2 hu λc=>?_
   have:=q c
   erw[jz] at this
   rw[show a.push (rh p)++(jz ps).toArray=a++(rh p::jz ps).toArray by apply Array.toList_inj.mp;simp]
   show this
end
mutual
theorem oG:∀{n:Nat} {p:PyData} {v:Xd} {as:X7} {A:X_} {E:X0} {s:X4} {Q:Xf} {m:Nat},Reads s.heap v p as->nu n p=true->n<=m->Q true s->wpAny (model prog w) A (eqIsQuiet m v) Q E s
 |_,.int i,_,_,A,E,s,Q,m,.int _ t,_,_,q=>by rw[eqIsQuiet_byValue m rfl];show Qgq q
 | n+1,.tuple ps,_,_,A,E,s,Q,m+1,.tuple (a:=a) (o:=o) (vs:=vs) ho hc hd hi,hn,hm,q=>by
   have b:s.TypeIs (.ref a) "tuple":=#[o,ho,hc]
   unfold eqIsQuiet
   show Qaq<|wpAny_specialOf b F.slot_tuple_eq.lookup ?_
   show wpAny _ _ (isInstance (.ref a) (.type "tuple") >>= _) _ _ s
   show Qaq<|wpAny_isInstance b isSubtype_tuple_tuple ?_
   erw[Bool.not_true,Bool.false_eq_true,if_false]
   show Qaq<|wpAny_seqItems ho hd<|Qaq ?_
   show wpAny _ _ (forIn vs _ _) _ _ s
   rw[<-Array.forIn_toList]
   show uf (n:=n) hi hn (!0)<|Qgq q
 |n+1,.tuple _,_,_,_,_,_,_,0,_,_,hm,_=>absurd hm (Nat.not_succ_le_zero n)
 |_,.none,_,_,_,_,_,_,_,_,h,_,_=>by simp[nu] at h
 |_,.bool _,_,_,_,_,_,_,_,_,h,_,_=>by simp[nu] at h
 |_,.str _,_,_,_,_,_,_,_,_,h,_,_=>by simp[nu] at h
 |_,.list _,_,_,_,_,_,_,_,_,h,_,_=>by simp[nu] at h
 |_,.dict _,_,_,_,_,_,_,_,_,h,_,_=>by simp[nu] at h
 |0,.tuple _,_,_,_,_,_,_,_,_,h,_,_=>by simp[nu] at h
theorem uf:∀{n:Nat} {ps:List PyData} {vs:X5} {as:X7} {A:X_} {E:X0} {s:X4} {R:Option Bool×Unit->Shared->Prop} {m:Nat},ReadsAll s.heap vs ps as->jW n ps=true->n<=m->R (none,()) s->
  wpAny (model prog w) A (forIn vs (none,()) λy (r:Option Bool×Unit)=>do let b<-eqIsQuiet m y;if (!b)=true then pure (ForInStep.done (some false,())) else pure (ForInStep.yield (none,()))) R E s
 |_,[],_,_,A,E,s,R,_,.nil,_,_,q=>by rw[List.forIn_nil];show Qgq q
 | n,p::ps,_,_,A,E,s,R,m,.cons h hs,hn,hm,q=>by
   erw[jW,QCq] at hn
   rw[List.forIn_cons]
   show Qaq<|Qaq<|oG h hn.1 hm ?_
   erw[Bool.not_true,Bool.false_eq_true,if_false]
   show Qgq<|uf hs hn.2 hm q
end
mutual
theorem p7:∀{n:Nat} {p:PyData} {v:Xd} {as:X7} {A:X_} {E:X0} {s:X4} {Q:Xf} {m:Nat},Reads s.heap v p as->nu n p=true->n<=m->Q false s->wpAny (model prog w) A (ofAClassStatement m v) Q E s
 |_,.int i,_,_,A,E,s,Q,m,.int _ t,_,_,q=>by unfold ofAClassStatement;show Qgq q
 | n+1,.tuple ps,_,_,A,E,s,Q,m+1,.tuple (a:=a) (o:=o) (vs:=vs) ho hc hd hi,hn,hm,q=>by
   have b:s.TypeIs (.ref a) "tuple":=#[o,ho,hc]
   unfold ofAClassStatement
   show Qaq<|wpAny_typeOf b ?_
   dsimp only
   rw[Qhq (!1)]
   show Qaq<|Qgq ?_
   erw[Bool.not_true,Bool.false_eq_true,if_false]
   show Qaq<|wpAny_seqItems ho hd ?_
   dsimp only
   show Qaq ?_
   rw[<-Array.forIn_toList]
   show qJ (n:=n) hi hn (!0)<|Qgq q
 |n+1,.tuple _,_,_,_,_,_,_,0,_,_,hm,_=>absurd hm (Nat.not_succ_le_zero n)
 |_,.none,_,_,_,_,_,_,_,_,h,_,_=>by simp[nu] at h
 |_,.bool _,_,_,_,_,_,_,_,_,h,_,_=>by simp[nu] at h
 |_,.str _,_,_,_,_,_,_,_,_,h,_,_=>by simp[nu] at h
 |_,.list _,_,_,_,_,_,_,_,_,h,_,_=>by simp[nu] at h
 |_,.dict _,_,_,_,_,_,_,_,_,h,_,_=>by simp[nu] at h
 |0,.tuple _,_,_,_,_,_,_,_,_,h,_,_=>by simp[nu] at h
theorem qJ:∀{n:Nat} {ps:List PyData} {vs:X5} {as:X7} {A:X_} {E:X0} {s:X4} {R:Option Bool×Unit->Shared->Prop} {m:Nat},ReadsAll s.heap vs ps as->jW n ps=true->n<=m->R (none,()) s->
  wpAny (model prog w) A (forIn vs (none,()) λy (r:Option Bool×Unit)=>do let b<-ofAClassStatement m y;if b=true then pure (ForInStep.done (some true,())) else pure (ForInStep.yield (none,()))) R E s
 |_,[],_,_,A,E,s,R,_,.nil,_,_,q=>by rw[List.forIn_nil];show Qgq q
 | n,p::ps,_,_,A,E,s,R,m,.cons h hs,hn,hm,q=>by
   erw[jW,QCq] at hn
   rw[List.forIn_cons]
   show Qaq<|Qaq<|p7 h hn.1 hm ?_
   erw[Bool.false_eq_true,if_false]
   show Qgq<|qJ hs hn.2 hm q
end
mutual
theorem yS:∀{n:Nat} {p:PyData} {v:Xd} {as:X7} {A:X_} {E:X0} {s:X4} {Q:Xf} {m:Nat},Reads s.heap v p as->nu n p=true->n<=m->(∀b,Q b s)->wpAny (model prog w) A (hashByValue m v) Q E s
 |_,.int i,_,_,A,E,s,Q,m,.int _ t,_,_,q=>by unfold hashByValue;show Qgq (q _)
 | n+1,.tuple ps,_,_,A,E,s,Q,m+1,.tuple (a:=a) (o:=o) (vs:=vs) ho hc hd hi,hn,hm,q=>by
   have c:s.TypeIs (.ref a) "tuple":=#[o,ho,hc]
   unfold hashByValue
   show Qaq<|wpAny_specialOf c F.slot_tuple_hash.lookup ?_
   dsimp only
   show wpAny _ _ (seqItems? (.ref a) >>= _) _ _ s
   show Qaq<|wpAny_seqItems ho hd<|Qaq ?_
   show wpAny _ _ (forIn vs _ _) _ _ s
   rw[<-Array.forIn_toList]
   show sj (n:=n) hi hn (!0) (Qgq<|q _)<|Qgq<|q _
 |n+1,.tuple _,_,_,_,_,_,_,0,_,_,hm,_=>absurd hm (Nat.not_succ_le_zero n)
 |_,.none,_,_,_,_,_,_,_,_,h,_,_=>by simp[nu] at h
 |_,.bool _,_,_,_,_,_,_,_,_,h,_,_=>by simp[nu] at h
 |_,.str _,_,_,_,_,_,_,_,_,h,_,_=>by simp[nu] at h
 |_,.list _,_,_,_,_,_,_,_,_,h,_,_=>by simp[nu] at h
 |_,.dict _,_,_,_,_,_,_,_,_,h,_,_=>by simp[nu] at h
 |0,.tuple _,_,_,_,_,_,_,_,_,h,_,_=>by simp[nu] at h
theorem sj:∀{n:Nat} {ps:List PyData} {vs:X5} {as:X7} {A:X_} {E:X0} {s:X4} {R:Option Bool×Unit->Shared->Prop} {m:Nat},ReadsAll s.heap vs ps as->jW n ps=true->n<=m->R (none,()) s->R (some false,()) s->
  wpAny (model prog w) A (forIn vs (none,()) λy (r:Option Bool×Unit)=>do let b<-hashByValue m y;if (!b)=true then pure (ForInStep.done (some false,())) else pure (ForInStep.yield (none,()))) R E s
 |_,[],_,_,A,E,s,R,_,.nil,_,_,q,_=>by rw[List.forIn_nil];show Qgq q
 | n,p::ps,_,_,A,E,s,R,m,.cons h hs,hn,hm,q,q'=>by
   erw[jW,QCq] at hn
   rw[List.forIn_cons]
   show Qaq<|Qaq (yS h hn.1 hm λb=>?_)
   cases b with
   | true=>
     erw[Bool.not_true,Bool.false_eq_true,if_false]
     show Qgq<|sj hs hn.2 hm q q'
   | false=>
     erw[Bool.not_false,if_true]
     show Qgq<|Qgq q'
end
def JG[Decidable c]{E:X0}(e:wpAny M A a Q E s)(d:wpAny M A b Q E s):wpAny M A (if c then a else b) Q E s:=by
 split
 ·show e
 ·show d
def JY{E:X0}{s:X4}(f:Reads s.heap x p as)(e:nu 8 p=true):∀(l:X5) {Q:Xf},(∀y∈l,∃q bs,Reads s.heap y q bs/\nu 8 q=true)->Q false s->wpAny (model prog w) A (searchCouldBeSeen x l) Q E s:=by
 intro l Q hl q
 unfold searchCouldBeSeen
 show Qaq<|wpAny_forIn_list _ (λa (r:Option Bool×Unit) c=>r=(none,())/\c=s/\∀y∈a,∃q bs,Reads s.heap y q bs/\nu 8 q=true) _ ?_ ?_ _ _ #[rfl,rfl,hl]
 ·rintro y a r c ⟨rfl,rfl,hr⟩
  let#[i,bs,g,d]:=hr y (QBq ..)
  have b:∀y∈a,∃q bs,Reads c.heap y q bs/\nu 8 q=true:=λy h=>hr y (Qpq _ h)
  dsimp only
  show JG (Qgq ⟨rfl,rfl,b⟩) ?_
  ·show Qaq (oG f e (Qmq _) ?_)
   erw[Bool.not_true,Bool.false_eq_true,if_false]
   show Qaq<|oG g d (Qmq _) ?_
   erw[Bool.not_true,Bool.false_eq_true,if_false]
   show Qaq<|p7 f e (Qmq _) ?_
   erw[Bool.false_eq_true,if_false]
   show Qaq<|p7 g d (Qmq _) ?_
   erw[Bool.false_eq_true,if_false]
   show Qgq ⟨rfl,rfl,b⟩
 ·rintro r c ⟨rfl,rfl,_⟩
  show Qgq q
def rZ{xs:Array α}(d:p<=xs.size)(i:Nat):(insertAt xs p x)[i]?=if i<p then xs[i]? else if i=p then some x else xs[i-1]? :=by
 rw[<-Array.getElem?_toList,SetTable.toList_insertAt]
 have hl:(xs.toList.take p).length=p:=by rw[Qxq,Array.length_toList];omega
 by_cases c:i<p
 ·rw[Qhq c,QHq (!0),List.getElem?_take_of_lt c,Array.getElem?_toList]
 ·rw[Quq c,QQq (!0),hl]
  by_cases a:i=p
  ·subst a;simp
  ·obtain⟨k,b⟩:∃k,i-p=k+1:=#[i-p-1,by omega]
   rw[Quq a,b,List.getElem?_cons_succ,List.getElem?_drop,Array.getElem?_toList]
   congr 1
   omega
def TI.put(T:TI t es)(S:j∉t.place.toList)(Q:Ii t.mask h (·∈t.place.toList) j)(q:es.size+1<=t.mask):
  TI (t.put j).1 (insertAt es (t.put j).2 (h,x))/\(t.put j).1.mask=t.mask/\(insertAt es (t.put j).2 (h,x)).size=es.size+1:=by
 let#[B,R,M]:=tX t.place j T.rise
 have N:(t.put j).2=below t.place j:=rfl
 have g:(t.put j).1.place=insertAt t.place (below t.place j) j:=rfl
 have u:(t.put j).1.dummies= (List.toArray []):=by
  show(if has t.dummies j then _ else t.dummies)= (List.toArray [])
  rw[T.dm]
  simp[has,below,below.go]
 have m:(t.put j).1.mask=t.mask:=rfl
 rw[N]
 have w:below t.place j<=es.size:=by rw[<-T.sz];show B
 have k:∀{I:Type} (r:Array I) (p:Nat) (y:I),(insertAt r p y).size=r.size+1:=λr p y=>by
  have:=(SetTable.insertAt_perm r p y).length_eq
  simpa using this
 have f:∀i,i∈t.place.toList->i∈(t.put j).1.place.toList:=λi o=>by
  rw[g]
  show(SetTable.insertAt_perm t.place _ j).mem_iff.mpr ?_
  rw[Array.toList_push]
  show mQa.mpr<|.inl o
 show#[#[T.pw,u,?_,?_,?_,?_],m,k ..]
 ·rw[g,SetTable.toList_insertAt]
  have z:∀a∈t.place.toList.take (below t.place j),a<j:=λa n=>by
   let#[i,o,e]:=QbQ n
   rw[Qxq] at o
   rw[List.getElem_take] at e
   show R i a (by rw[<-Array.getElem?_toList,gQe (!0),e]) (!0)
  have v:∀a∈t.place.toList.drop (below t.place j),j<a:=λa n=>by
   let#[i,o,e]:=QbQ n
   rw[List.length_drop] at o
   rw[List.getElem_drop] at e
   have:=M (below t.place j+i) a (by rw[<-Array.getElem?_toList,gQe (!0),e]) (!0)
   rcases Nat.lt_or_eq_of_le this with c|c
   ·show c
   ·show absurd (c▸List.mem_of_mem_drop n) S
  let H:=T.rise
  rw[<-List.take_append_drop (below t.place j) t.place.toList] at H
  let#[P,K,J]:=List.pairwise_append.mp H
  show List.pairwise_append.mpr #[P,List.pairwise_cons.mpr #[v,K],λa n b s=>?_]
  rcases Qsq.mp s with rfl|s
  ·show z a n
  ·show J a n b s
 ·rw[g,k,k,T.sz]
 ·rw[k,m];show q
 ·intro i F C A l d
  rw[m]
  rw[g,rZ B] at d
  rw[rZ w] at l
  by_cases c:i<below t.place j
  ·rw[Qhq c] at l d
   show(T.rch i F C A l d).imp f
  ·rw[Quq c] at l d
   by_cases G:i=below t.place j
   ·rw[Qhq G] at l d
    cases l
    cases d
    show Q.imp f
   ·rw[Quq G] at l d
    show(T.rch _ F C A l d).imp f
def da(a:X8)(els:List (PyData×Addr))(h:Xe):Prop:=∃o b c t,h.get? a=some o/\o.ExactSet/\o.data=.set b c t/\TI t b/\b.size*5<t.mask*3/\b.toList.Perm (els.map λe=>(rh e.1,.ref e.2))
def da.keep{h h':Xe}(x:da a els h)(k:∀o,h.get? a=some o->h'.get? a=some o):da a els h':=by
 let#[o,e,b,t,d,c]:=x
 show#[o,e,b,t,k o d,c]
def LO(h:Xe)(els:List (PyData×Addr)):Prop:=∀e∈els,nu 8 e.1=true/\∃a,Reads h (.ref e.2) e.1 a
mutual
theorem ed:∀{n:Nat} {p:PyData},nu n p=true->p.canLay0=true/\p.depth<=n+1
 |_,.int _,_=>#[rfl,by simp[PyData.depth]]
 | n+1,.tuple ps,h=>by
   let#[a,b]:=CT (n:=n) (ps:=ps) h
   show#[a,by erw[PyData.depth];omega]
 |_,.none,h=>by simp[nu] at h
 |_,.bool _,h=>by simp[nu] at h
 |_,.str _,h=>by simp[nu] at h
 |_,.list _,h=>by simp[nu] at h
 |_,.dict _,h=>by simp[nu] at h
 |0,.tuple _,h=>by simp[nu] at h
theorem CT:∀{n:Nat} {ps:List PyData},jW n ps=true->PyData.canLayAll0 ps=true/\PyData.depthAll ps<=n+1
 |_,[],_=>#[rfl,by simp[PyData.depthAll]]
 | n,p::ps,h=>by
   erw[jW,QCq] at h
   let#[a,c]:=ed h.1
   let#[b,d]:=CT h.2
   show#[by erw[PyData.canLayAll0,QCq];show#[a,b],by erw[PyData.depthAll];omega]
end
def vp{A:X_}{E:X0}{s:X4}{els:List (PyData×Addr)}{Q:SetFound->Shared->Prop}(hu:A.units+16<cLine)(ho:s.heap.get? a=some o)(Y:o.data=.set es ep t)(T:TI t es)(K:es.toList.Perm (els.map λe=>(rh e.1,.ref e.2)))(he:LO s.heap els)(hl:els.length<=5000)
  (W:Reads s.heap (.ref b) p as) (R:nu 8 p=true) (Z:(els.any λe=>PyData.eqv e.1 p)=true->∀f:Option Nat,(adding=false->f.isSome=true)->Q (.there f) s) (q2:(els.any λe=>PyData.eqv e.1 p)=false->∀j,j∉t.place.toList->Ii t.mask (rh p) (·∈t.place.toList) j->Q (.free j false) s):
  wpAny (model prog w) A (setSearch a (.ref b) (rh p) adding) Q E s:=by
 have a0:es.size=els.length:=by have:=K.length_eq;simpa using this
 let#[lp,dp]:=ed R
 let#[N,M,S]:=T.free (rh p)
 have c:∀{i:Nat} {h:Int} {v:Xd},es[i]?=some (h,v)->∃e∈els,h=rh e.1/\v=.ref e.2:=λ{i h v} g=>by
  have m:(h,v)∈es.toList:=by have:=Array.mem_of_getElem? g;simpa using this
  let#[e,he,k]:=Qkq.mp (K.mem_iff.mp m)
  cases k
  show#[e,he,rfl,rfl]
 have u:∀{e:PyData×Addr},e∈els->∃i:Nat,es[i]?=some (rh e.1,.ref e.2):=λ{e} he=>by
  let m:=K.mem_iff.mpr (Qkq.mpr #[e,he,rfl])
  let#[i,g,k]:=QbQ m
  show#[i,by rw[<-Array.getElem?_toList,gQe g,k]]
 let same:Nat->Bool:=λi=> @decide (∃e∈els,es[i]?=some (rh e.1,.ref e.2)/\PyData.eqv e.1 p=true) (Classical.propDecidable _)
 have d:∀{i:Nat} {h:Int} {e:PyData×Addr},e∈els->es[i]?=some (h,.ref e.2)->same i=PyData.eqv e.1 p:=λ{i h e} l g=>by
  cases k:PyData.eqv e.1 p with
  | true=>
    let#[F,B,C,q]:=c g
    show @Qeq _ (Classical.propDecidable _) #[e,l,?_,k]
    rw[g,C]
    congr 2
    let#[r,n,x]:=he e l
    let#[n2,J,G]:=he F B
    have q:e.2=F.2:=by injection q
    rw[<-q] at G
    rw[SeqAt.Reads.unique _ _ _ _ _ (ed r).1 x G]
  | false=>
    show @Qdq _ (Classical.propDecidable _) ?_
    rintro⟨F,B,C,q⟩
    rw[g] at C
    have h3:Value.ref e.2=Value.ref F.2:=by injection C with C;injection C
    let#[r,n,x]:=he e l
    let#[n2,J,G]:=he F B
    rw[<-h3] at G
    rw[SeqAt.Reads.unique _ _ _ _ _ (ed r).1 x G] at k
    rw[k] at q
    cases q
 unfold setSearch
 show yZ T (λi h v g=>by let#[e,_,_,rfl]:=c g;show#[_,rfl]) ho Y (same:=same) M S (λQ' H=>?_) (λi v g Q' H=>?_) (λP f hf=>?_) (λI j hj hr=>?_) 100000 0 0 none rfl (Nat.zero_le _) (!0) (!0) uH.zero
 ·show JY W R _ (λy hy=>?_) H
  let#[z,k,rfl]:=Qkq.mp hy
  have k:z∈es.toList:=by
   rw[Array.toList_filter] at k
   show(List.mem_filter.mp k).1
  let#[i,g,U]:=QbQ k
  let#[e,l,_,q]:=c (i:=i) (h:=z.1) (v:=z.2) (by rw[<-Array.getElem?_toList,gQe g,U])
  let#[r,n,x]:=he e l
  rw[q]
  show#[e.1,n,x,r]
 ·let#[e,l,_,rfl]:=c g
  let#[r,n,x]:=he e l
  rw[d l g] at H
  show SeqAt.eqBoolOverData _ _ _ _ _ _ _ _ _ _ _ _ x W (ed r).1 lp (by have:=(ed r).2;omega) H
 ·show Z ?_ f hf
  let#[i,v,g,X]:=P
  let#[e,l,_,rfl]:=c g
  rw[d l g] at X
  show List.any_eq_true.mpr #[e,l,X]
 ·show q2 ?_ j hj hr
  rw[List.any_eq_false]
  intro e l k
  let ep:=ub (he e l).1 R k
  let#[i,g]:=u l
  have:=I i _ (by rw[<-ep];show g)
  rw[d l g] at this
  rw[k] at this
  cases this
def ze{A:X_}{E:X0}{s:X4}{Q:Xf}(v:A.units+16<cLine)(y:da a els s.heap)(he:LO s.heap els)(hl:els.length<=5000)(k:Reads s.heap (.ref b) p as)(l:nu 8 p=true)(q:∀c,Q (els.any λe=>PyData.eqv e.1 p) {s with toks:=c}):
  wpAny (model prog w) A (setContains a<|.ref b) Q E s:=by
 let#[o,u,C,t,h,B,g,T,m,r]:=y
 unfold setContains
 show QLq<|Qaq (xr k l (!0) λc=>Qaq ?_)
 unfold setFind setFindIn
 show Qaq<|wpAny_setState_of (s:={s with toks:=c}) h g T.fits ?_
 dsimp only
 have n:byScan (Value.ref b) u=false:=by unfold byScan Value.scannable;simp
 rw[n]
 erw[Bool.false_eq_true,if_false]
 show Qaq (vp (s:={s with toks:=c}) v h g T r he hl k l (λd x f=>?_) λd j F z=>?_)
 ·cases x with
  |none=>show absurd (f rfl) (!1)
  | some i=>
    show Qgq<|Qgq ?_
    have:=q c
    rw[d] at this
    show this
 ·show Qgq (Qgq ?_)
  have:=q c
  rw[d] at this
  show this
def K3{A:X_}{E:X0}{s:X4}{Q:Xf}(hu:A.units+16<cLine)(Y:da a els s.heap)(he:LO s.heap els)(hl:els.length<=5000)(P:Reads s.heap (.ref b) p as)(R:nu 8 p=true)
  (q:∀g f h',Heap.SameBut a s.heap h'->da a (if (els.any λe=>PyData.eqv e.1 p)=true then els else els++ [(p,b)]) h'->Q f {s with heap:=h',toks:=g}):
  wpAny (model prog w) A (setAdd a<|.ref b) Q E s:=by
 let H:=Y
 let#[o,es,m,t,y,hx,n,T,a0,J]:=Y
 have a4:es.size=els.length:=by have:=J.length_eq;simpa using this
 unfold setAdd
 show QLq<|Qaq (xr P R (!0) λg=>?_)
 unfold setAddHashed setAddHashedIn
 show QLq<|Qaq<|wpAny_setState_of (s:={s with toks:=g}) y n T.fits ?_
 dsimp only
 have hb:byScan (Value.ref b) es=false:=by unfold byScan Value.scannable;simp
 rw[hb]
 erw[Bool.false_eq_true,if_false]
 show Qaq (vp (s:={s with toks:=g}) (adding:=true) hu y n T J he hl P R (λI o' _=>?_) λI j hj hr=>?_)
 ·show Qgq ?_
  have:=q g false s.heap (Heap.SameBut.refl a s.heap)
  rw[I,Qhq rfl] at this
  show this H
 ·dsimp only
  show Qaq<|wpAny_setState_of (s:={s with toks:=g}) y n T.fits ?_
  dsimp only
  rw[I,Quq (!1)] at q
  let#[k,a2,a1]:=T.pw
  let#[i,X,G]:=T.put (x:=Value.ref b) hj hr (!0)
  have K:(insertAt es (t.put j).2 (rh p,Value.ref b)).toList.Perm ((els++ [(p,b)]).map λe=>(rh e.1,Value.ref e.2)):=by
   show(SetTable.insertAt_perm es _ _).trans ?_
   rw[Array.toList_push,Qzq]
   show J.append_right _
  generalize (insertAt es (t.put j).2 (rh p,Value.ref b))=es1 at i G K|-
  generalize (t.put j).1=t1 at i X|-
  have h:∀(c:SetTable),TI c es1->c.mask=t1.mask->wpAny (model prog w) A (do
    storeSet a es1 c
    if (!false&&c.tooFull)=true then do
     setRelay a (SetTable.grown (es.size+1))
     pure true
    else pure true) Q E {s with toks:=g}:=by
   intro c C m2
   show Qaq<|wpAny_storeSet_of (s:={s with toks:=g}) y n ?_ (by rw[G,sizeLine_eq];omega)
   have B:(s.heap.update a<|Obj.putSet es1 c).get? a=some {o with data:=.set es1 (m+1) c}:=by
    have:=Heap.get?_update_self (Obj.putSet es1 c) y (by rw[putSet_of es1 c n];rfl)
    rw[putSet_of es1 c n] at this
    show this
   have u:({o with data:=.set es1 (m+1) c}:Obj).ExactSet:=hx
   have z:Heap.SameBut a s.heap (s.heap.update a<|Obj.putSet es1 c):=Heap.SameBut.update _ a _
   have a5:t1.mask=t.mask:=X
   cases hf:(!false&&c.tooFull) with
   | true=>
     rw[Qhq rfl]
     have N:SetTable.grown (es.size+1)=(es.size+1)*4:=by unfold SetTable.grown;rw[Quq (!0)]
     have r:(es.size+1)*4<2^64:=by omega
     let#[_,a3,a6]:=si r
     show Qaq ?_
     rw[N]
     unfold setRelay
     show Qaq<|wpAny_setState_of (s:={s with toks:=g,heap:=s.heap.update a (Obj.putSet es1 c)}) B rfl C.fits ?_
     dsimp only
     rw[Quq (by rw[sizeLine_eq];omega)]
     let#[l,d,e1,e2,S,Z,U]:=zq (t:=c) (es:=es1) (wanted:=(es.size+1)*4) (!0) r
     show Qaq ?_
     rw[e1]
     have v:((d.filterMap (es1[·]?)).size !=es1.size)=false:=by rw[S];simp
     show(?_:wpAny (model prog w) A (do
       if ((d.filterMap (es1[·]?)).size !=es1.size)=true then unsupported "internal:set-table-lost-an-element"
       pure (d.filterMap (es1[·]?),l)) _ E _)
     rw[v]
     erw[Bool.false_eq_true,if_false]
     show Qgq ?_
     generalize (d.filterMap (es1[·]?))=es3 at S Z U
     dsimp only
     show wpAny_storeSet_of (s:={s with toks:=g,heap:=s.heap.update a (Obj.putSet es1 c)}) B rfl ?_ (by rw[S,G,sizeLine_eq];omega)
     have F:((s.heap.update a<|Obj.putSet es1 c).update a (Obj.putSet es3 l)).get? a=some {o with data:=.set es3 (m+1+1) l}:=by
       have:=Heap.get?_update_self (Obj.putSet es3 l) B (by rw[putSet_of (o:={o with data:=.set es1 (m+1) c}) es3 l rfl];rfl)
       rw[putSet_of (o:={o with data:=.set es1 (m+1) c}) es3 l rfl] at this
       show this
     show Qgq<|q g true _ (z.trans<|Heap.SameBut.update _ a _) #[_,es3,m+1+1,l,F,u,rfl,U,by omega,Z.trans K]
   | false=>
     rw[Quq (!1)]
     show Qgq<|q g true _ z #[_,es1,m+1,c,B,u,rfl,C,?_,K]
     have:c.tooFull=false:=by simpa using hf
     unfold SetTable.tooFull SetTable.fill at this
     rw[C.dm] at this
     let h5:=C.sz
     simp at this
     omega
  have M:∀W:Bool,TI {t1 with plain:=W} es1:=λW=>#[i.pw,i.dm,i.rise,i.sz,i.room,i.rch]
  show JG ?_ ?_
  ·show Qaq (yS (s:={s with toks:=g}) P R (Qmq _) λbv=>?_)
   cases bv with
   |true=>show h t1 i rfl
   |false=>show h _ (M false) rfl
  ·show Qaq<|Qgq<|h t1 i rfl
def da.typeIs{s:X4}(x:da a els s.heap):s.TypeIs (.ref a) "set":=by
 let#[o,f,e,t,d,c,_]:=x
 show#[o,d,c.1]
def da.noDict{s:X4}(x:da a els s.heap):∀b,Value.ref a=.ref b->∃c,s.heap.get? b=some c/\c.dict=none:=λb e=>by
 let#[o,h,g,t,f,d,_]:=x
 cases e
 show#[o,f,d.2.1]
def K0{A:X_}{E:X0}{s:X4}{Q:Xf}(h:A.units+32<cLine)(c:da a els s.heap)(he:LO s.heap els)(hl:els.length<=5000)(f:Reads s.heap (.ref b) p as)(g:nu 8 p=true)(q:∀d,Q (els.any λe=>PyData.eqv e.1 p) {s with toks:=d}):
  wpAny (model prog w) A (contains (.ref a)<|.ref b) Q E s:=by
 unfold contains
 try with_reducible show QLq ?_
 show Qaq<|wpAny_specialOf c.typeIs F.slot_set_contains.lookup ?_
 show wpAny _ _ (if (some (Value.builtin "set.__contains__")==some Value.none)=true then _ else _) _ E s
 rw[Quq (by rw[beq_builtin_none];show Qtq)]
 show Qaq<|wpAny_callSpecialUnlessNone?_slot (name:=Str.ofString "__contains__") c.typeIs F.slot_set_contains<|wpAny_call_entry F.slot_set_contains c.typeIs entry_set_contains ?_<|F.args_set_contains_2 _ _
 unfold Builtin.«frozenset.__contains__» Builtin.Frozenset.oneOther
 erw[List.isEmpty_nil,bind_assoc]
 unfold Builtin.Frozenset.addrOf Builtin.Frozenset.withSetAsKey
 show Qaq<|Qgq ?_
 try dsimp only
 show Qaq<|Qgq ?_
 try dsimp only
 show Qaq<|wpAny_tryCatch (ze (show A.in1.units+16<cLine from by have:A.in1.units=A.units+1:=rfl;omega) c he hl f g λd=>?_)
 show wpAny _ _ (ret<|Value.bool _) _ _ _
 show Qgq #[_,rfl,wpAny_truthy_bool<|q d]
def E5{A:X_}{E:X0}{s:X4}{Q:X0}(f:A.units+32<cLine)(d:da a els s.heap)(he:LO s.heap els)(hl:els.length<=5000)(g:Reads s.heap (.ref b) p as)(h:nu 8 p=true)(q:∀c,Q (.bool (!els.any λe=>PyData.eqv e.1 p)) {s with toks:=c}):
  wpAny (model prog w) A (compareOp .NotIn (.ref b)<|.ref a) Q E s:=by
 show wpAny _ _ (do return .bool (!(<-contains (.ref a) (.ref b)))) Q E s
 show Qaq (K0 f d he hl g h λc=>Qgq<|q c)
def Hn{A:X_}{E:X0}{s:X4}{Q:X0}(k:A.units+32<cLine)(g:da a els s.heap)(he:LO s.heap els)(hl:els.length<=5000)(h:Reads s.heap (.ref b) p as)(j:nu 8 p=true)
  (q:∀c h',Heap.SameBut a s.heap h'->da a (if (els.any λe=>PyData.eqv e.1 p)=true then els else els++ [(p,b)]) h'->Q .none {s with heap:=h',toks:=c}):
  wpAny (model prog w) A (call (.builtin "set.add") [.ref a,.ref b]) Q E s:=by
 show wpAny_call_entry F.slot_set_add g.typeIs F.entry_set_add ?_<|F.args_set_add_2 _ _
 unfold Builtin.«set.add» Builtin.Frozenset.oneOther
 erw[List.isEmpty_nil,bind_assoc]
 unfold Builtin.Frozenset.addrOf
 show Qaq<|Qgq ?_
 try dsimp only
 show Qaq<|Qgq ?_
 try dsimp only
 show Qaq (K3 (show A.in1.units+16<cLine from by have:A.in1.units=A.units+1:=rfl;omega) g he hl h j λc f h' i d=>?_)
 show wpAny _ _ (ret Value.none) _ _ _
 show Qgq #[_,rfl,q c h' i d]
def IR{E:X0}{s:X4}{Q:X0}(q:∀h':Heap,(∀b o,s.heap.get? b=some o->h'.get? b=some o)->da s.heap.objs.size [] h'->Q (.ref s.heap.objs.size) {s with heap:=h'}):wpAny (model prog w) A (call (.type "set") []) Q E s:=by
 show call_set_0 λc=>?_
 show q _ (λb o e=>Qcq _ e) #[_,(List.toArray []),0,.fresh 0 0 c,Qrq _ rfl,#[rfl,rfl,rfl],rfl,#[#[3,rfl,by decide],rfl,by simp[SetTable.fresh],rfl,Nat.zero_le _,λi h v j e=>by simp at e],by show 0<7*3;decide,by simp]
mutual
noncomputable def JR:PyData->Nat
 |.int _=>1
 |.tuple a=>1+wg a
 |_=>0
noncomputable def wg:List PyData->Nat
 | []=>0
 |p::ps=>JR p+wg ps
end
mutual
theorem Cn:∀{n:Nat} {p:PyData} {v:Xd} {as:X7} {A:X_} {E:X0} {s:X4} {Q:Int->Shared->Prop},Reads s.heap v p as->nu n p=true->A.units+n<cLine->Q (rh p) {s with toks:=s.toks+JR p}->wpAny (model prog w) A (pyHash v) Q E s
 |_,.int i,_,_,A,E,s,Q,.int _ t,_,_,q=>wpAny_pyHash_int q
 | n+1,.tuple ps,_,_,A,E,s,Q,.tuple (a:=a) (o:=o) (vs:=vs) ho hc hd hi,hn,hu,q=>by
   have b:s.TypeIs (.ref a) "tuple":=#[o,ho,hc]
   unfold pyHash
   first|unfold pyHashByItsType|skip
   show Qaq<|wpAny_cRoomFor_or (.inr (!0))<|Qaq<|wpAny_specialOf b F.slot_tuple_hash.lookup ?_
   show wpAny _ _ (if (some (Value.builtin "tuple.__hash__")==some Value.none)=true then _ else _) Q E s
   rw[Quq (by rw[beq_builtin_none];show Qtq)]
   show Qaq<|wpAny_specialOf b F.slot_tuple_hash.lookup ?_
   show wpAny _ _ (callSpecialIfBoundUnlessNone? (.ref a) "__hash__" _ >>= _) Q E s
   show Qaq<|wpAny_callSpecialIfBoundUnlessNone?_slot b F.slot_tuple_hash<|wpAny_call_entry F.slot_tuple_hash b F.entry_tuple_hash ?_<|F.args_tuple_hash_1 _
   show wpAny _ _ (Builtin.Tuple.tupleItemsOf (.ref a) >>= _) _ _ s
   show Qaq<|wpAny_tupleItemsOf ho hd<|Qaq ?_
   rw[<-Array.forIn_toList]
   show vy (n:=n) (List.toArray []) hi hn (show A.in1.units+n<cLine from by have:A.in1.units=A.units+1:=rfl;omega) ?_
   show wpAny _ _ (retInt<|Builtin.Tuple.tupleHashOf ((List.toArray [])++(jz ps).toArray).toList) _ _ _
   rw[show((List.toArray [])++(jz ps).toArray:Array Int).toList=jz ps by simp]
   show wpAny_ret_mkInt ?_
   let q:=q
   erw[rh,JR] at q
   rw[show s.toks+(1+wg ps)=s.toks+wg ps+1 by omega] at q
   generalize Builtin.Tuple.tupleHashOf (jz ps)=z at q
   show wpAny _ _ (if (decide (-(2:Int)^63<=z)&&decide (z<2^63))=true then _ else _) Q E _
   unfold reduceHash at q
   by_cases c:(decide (-(2:Int)^63<=z)&&decide (z<2^63))=true
   · rw[Qhq c]
     rw[Qhq c] at q
     show Qgq q
   · rw[Quq c]
     rw[Quq c] at q
     show Qaq<|wpAny_rule<|Qgq q
 |_,.none,_,_,_,_,_,_,_,h,_,_=>by simp[nu] at h
 |_,.bool _,_,_,_,_,_,_,_,h,_,_=>by simp[nu] at h
 |_,.str _,_,_,_,_,_,_,_,h,_,_=>by simp[nu] at h
 |_,.list _,_,_,_,_,_,_,_,h,_,_=>by simp[nu] at h
 |_,.dict _,_,_,_,_,_,_,_,h,_,_=>by simp[nu] at h
 |0,.tuple _,_,_,_,_,_,_,_,h,_,_=>by simp[nu] at h
theorem vy:∀{n:Nat} {ps:List PyData} {vs:X5} {as:X7} {A:X_} {E:X0} {s:X4} {R:Array Int->Shared->Prop} (a:Array Int),ReadsAll s.heap vs ps as->jW n ps=true->A.units+n<cLine->R (a++(jz ps).toArray) {s with toks:=s.toks+wg ps}->
  wpAny (model prog w) A (forIn vs a λx b=>do let h<-pyHash x;pure (ForInStep.yield<|b.push h)) R E s
 | _,[],_,_,A,E,s,R,a,.nil,_,_,q=>by
   rw[List.forIn_nil]
   simp[jz,wg] at q
   show Qgq q
 | n,p::ps,_,_,A,E,s,R,a,.cons h b,hn,hu,q=>by
   erw[jW,QCq] at hn
   rw[List.forIn_cons]
   show Qaq<|Qaq<|Cn h hn.1 hu<|Qgq ?_
   show vy (s:={s with toks:=s.toks+JR p}) (a.push<|rh p) b hn.2 hu ?_
   erw[jz,wg] at q
   rw[show a.push (rh p)++(jz ps).toArray=a++(rh p::jz ps).toArray by apply Array.toList_inj.mp;simp]
   rw[show s.toks+(JR p+wg ps)=s.toks+JR p+wg ps by omega] at q
   show q
end
mutual
theorem uh:∀{n:Nat} {p:PyData} {v:Xd} {as:X7} {h h':Xe} {d:X8} {o:Obj} {es:Array DictEntry} {ep:Nat},Reads h v p as->nu n p=true->h.get? d=some o->o.data=.dict es ep->Heap.SameBut d h h'->Reads h' v p as
 |_,.int i,_,_,h,h',d,o,es,ep,.int _ t,_,_,_,_=>.int _ t
 | n+1,.tuple ps,_,_,h,h',d,o,es,ep,.tuple ho hc hd hi,hn,hg,hdd,sb=>by
   show .tuple ((sb.2 _ λz=>?_).trans ho) hc hd (qM (n:=n) hi hn hg hdd sb)
   subst z
   rw[hg] at ho
   cases ho
   rw[hd] at hdd
   cases hdd
 |_,.none,_,_,_,_,_,_,_,_,_,h,_,_,_=>by simp[nu] at h
 |_,.bool _,_,_,_,_,_,_,_,_,_,h,_,_,_=>by simp[nu] at h
 |_,.str _,_,_,_,_,_,_,_,_,_,h,_,_,_=>by simp[nu] at h
 |_,.list _,_,_,_,_,_,_,_,_,_,h,_,_,_=>by simp[nu] at h
 |_,.dict _,_,_,_,_,_,_,_,_,_,h,_,_,_=>by simp[nu] at h
 |0,.tuple _,_,_,_,_,_,_,_,_,_,h,_,_,_=>by simp[nu] at h
theorem qM:∀{n:Nat} {ps:List PyData} {vs:X5} {as:X7} {h h':Xe} {d:X8} {o:Obj} {es:Array DictEntry} {ep:Nat},ReadsAll h vs ps as->jW n ps=true->h.get? d=some o->o.data=.dict es ep->Heap.SameBut d h h'->ReadsAll h' vs ps as
 |_,[],_,_,_,_,_,_,_,_,.nil,_,_,_,_=>.nil
 | n,p::ps,_,_,_,_,_,_,_,_,.cons h hs,hn,hg,hdd,sb=>by
   erw[jW,QCq] at hn
   show .cons (uh h hn.1 hg hdd sb) (qM hs hn.2 hg hdd sb)
end
noncomputable instance:DecidableEq PyData:=λa b=>Classical.propDecidable (a=b)
def Q5(h:Xe)(p:PyData)(a:X8):Prop:=nu 8 p=true/\∃b,Reads h (.ref a) p b
def zK(prog:X9)(w:Xc):HeapKind prog w PyData where
 is:=Q5
 hash:=rh
 draws:=JR
 room:=λA=>A.units+16<cLine
 inj:=λ⟨c,_,d⟩ ⟨_,_,f⟩=>SeqAt.Reads.unique _ _ _ _ _ (ed c).1 d f
 keeps:=λ⟨c,l,d⟩ i h k=>#[c,l,uh d c i h k]
 pyHash:=λj ⟨c,_,d⟩ q=>Cn d c (!0) q
 eqBool:=λ{A E s x y a b Q} j ⟨c,_,d⟩ ⟨h3,_,f⟩ q=>by
  show SeqAt.eqBoolOverData _ _ _ _ _ _ _ _ _ _ _ _ d f (ed c).1 (ed h3).1 (by have:=(ed c).2;omega) ?_
  cases g:PyData.eqv x y with
  | true=>
    have:=ub c h3 g
    rw[Qeq this] at q
    show q
  | false=>
    have:¬x=y:=λe=>by
      subst e
      rw[SeqAt.eqv_refl _ (ed c).1] at g
      cases g
    rw[Qdq this] at q
    show q
 quiet:=λ⟨c,_,d⟩ q=>oG d c (Qmq _) q
end ST
namespace L2
open PyProof.Rows
abbrev yV:=PyData×Addr×V
def Gg(e:yV)(x:PyData×Addr×Value):Prop:=e.1=x.1/\e.2.1=x.2.1/\RelV e.2.2 x.2.2
noncomputable def N3(x:PyData×Addr×Value):DictEntry:=#[ST.rh x.1,.ref x.2.1,x.2.2]
def jT(a:X8)(els:List yV)(h:Xe):Prop:=(a==sysModules)=false/\∃o c d b,h.get? a=some o/\o.ExactDict/\o.data=.dict c d/\c.toList=b.map N3/\Paired Gg els b/\(els.map (·.1)).Nodup
def jT.keep{h h':Xe}(x:jT a els h)(k:∀o,h.get? a=some o->h'.get? a=some o):jT a els h':=by
 let#[g,o,f,b,e,d,c]:=x
 show#[g,o,f,b,e,k _ d,c]
def OH(H:Hp)(els:List yV):Prop:=∀e∈els,ST.nu 8 e.1=true/\ju (λ_=>False) H e.1 (.ref e.2.1)
def CA(h:Paired Gg els xs):els.map (·.1)=xs.map (·.1):=by
 induction h with
 |nil=>rfl
 |cons h _ a=>rw[QDq,QDq,a,h.1]
def KA(h:Paired Gg els xs):∀x∈xs,∃e∈els,Gg e x:=by
 induction h with
 |nil=>intro x a;cases a
 | cons h _ b=>
   intro x a
   rcases Qsq.mp a with rfl|a
   · show#[_,QBq,h]
   · let#[e,c,r]:=b x a
     show#[e,Qpq _ c,r]
noncomputable def mR(els:List yV)(p:PyData):Option V:=(els.find? λe=>PyData.eqv e.1 p).map (·.2.2)
def KL(b:ST.nu 8 x=true)(c:ST.nu 8 y=true):PyData.eqv x y=decide (x=y):=by
 cases a:PyData.eqv x y with
 |true=>show(Qeq<|ST.ub b c a).symm
 | false=>
   have:¬x=y:=λe=>by
     subst e
     rw[SeqAt.eqv_refl _ (ST.ed b).1] at a
     cases a
   show(Qdq this).symm
def JM(h:Paired Gg els xs)(b:∀e∈els,ST.nu 8 e.1=true)(d:ST.nu 8 p=true):
  (atKey xs p=none/\mR els p=none)\/∃q v,atKey xs p=some q/\mR els p=some v/\RelV v q.2:=by
 induction h with
 |nil=>show .inl #[L,L]
 | @cons e x es xs h _ a=>
   let a:=a λe f=>b e (Qpq _ f)
   let c:=KL (b e QBq) d
   unfold atKey mR at a|-
   rw[List.find?_cons,List.find?_cons,c,h.1]
   by_cases z:x.1=p
   · rw[Qeq z]
     show .inr #[_,_,L,L,h.2.2]
   · rw[Qdq z]
     show a
def Jw(x:jT a els h):cb P w H h a (.ext (jT a els)):=by
 show#[x,?_,λd g p k=>p.keep k]
 let#[_,o,j,e,i,d,_]:=x
 show#[o,d]
def Js(I:Inv X c f H s)(h:H a=some (.ext (jT a els)))(A:OH H els):(a==sysModules)=false/\∃xs,s.heap.DictOfH (ST.zK X.prog X.w) a xs/\Paired Gg els xs:=by
 let#[l,o,t,C,xs,q,j,v,n,g,B]:=(show cb X.prog X.w H s.heap a (.ext _) from I.hok a _ h).1
 show#[l,xs,#[o,t,C,q,j,v,n,λx y=>?_,by rw[<-CA g];show B],g]
 let#[e,F,r]:=KA g x y
 let#[i,m]:=A e F
 let#[k,d,_]:=eO I (λa z=>z.elim) m (u:=.ref e.2.1) L
 rw[r.1] at i d
 rw[r.2.1] at d
 show#[i,k,d]
def JK{X:Cx}{h:Xe}(m:(a==sysModules)=false)(d:h.DictOfH (ST.zK X.prog X.w) a xs)(r:Paired Gg els xs):jT a els h:=by
 let#[o,l,g,k,i,n,j,_,e]:=d
 show#[m,o,l,g,xs,k,i,n,j,r,by rw[CA r];show e]
def Fc(I:Inv X c f H s)(d:ju (λ_=>False) H p (.ref b))(h:ST.nu 8 p=true):(ST.zK X.prog X.w).is s.heap p b:=by
 let#[e,g,_]:=eO I (λa z=>z.elim) d (u:=.ref b) L
 show#[h,e,g]
def kh{X:Cx}{A:X_}(d:A.units+64<cLine):(ST.zK X.prog X.w).room A.in1:=show A.in1.units+16<cLine from by
 have:A.in1.units=A.units+1:=rfl
 omega
def Ni(f e:TE):TE:=λd H Q=>f d H λy H1=>e d H1 λx H2=>∃a b c p,x=.ref a/\y=.ref b/\H2 a=some (.ext (jT a c))/\OH H2 c/\ju (λ_=>False) H2 p (.ref b)/\ST.nu 8 p=true/\Q (.bl (!(mR c p).isSome)) H2
def MP(f g e:TE):TS:=λD d H=>e d H λv H1=>f d H1 λx H2=>g d H2 λy H3=>∃a b c p,x=.ref a/\y=.ref b/\H3 a=some (.ext (jT a c))/\OH H3 c/\ju (λ_=>False) H3 p (.ref b)/\ST.nu 8 p=true/\c.length<=5000/\mR c p=none/\D.nx d (upd H3 a<|.ext (jT a (c++ [(p,b,v)])))
def Ln{X:Cx}(S:X.A.units+64<cLine)(hi:PE X i j)(P:PE X o g):PC X .NotIn i o (Ni j g):=by
 intro n s B H Q I h
 show cE (hi n s B H _ I h) λiv U ⟨y,H1,M,Y,N⟩=>cE (P n U B H1 _ M N) λu s2 Z=>?_
 let#[x,H2,q,W,a,b,w,p,J,ey,hS,F,G,C,q2]:=Z
 subst J ey
 obtain rfl:u=Value.ref a:=W
 obtain rfl:iv=Value.ref b:=Y
 let#[K,R,dd,r]:=Js q hS F
 show wpAny_notIn_heap (kh S) (Fc q G C) K dd ?_
 have:(atKey R p).isSome=(mR w p).isSome:=by
  rcases JM r (λe h=>(F e h).1) C with⟨z,t⟩|⟨_,_,z,t,_⟩
  ·rw[z,t];rfl
  ·rw[z,t];rfl
 rw[this]
 show#[.bl _,H2,q.tok _,L,q2]
def Lp(h:Paired Gg els xs)(r:Gg e x):Paired Gg (els++ [e]) (xs++ [x]):=by
 induction h with
 |nil=>show .cons r .nil
 |cons h _ a=>show .cons h a
def Fi(h:Paired Gg els xs):xs.length=els.length:=by
 induction h with
 |nil=>rfl
 |cons h _ a=>rw[Qnq,Qnq,a]
def IL{X:Cx}{f:Pos}(hu:X.A.units+64<cLine)(ho:PE X o g)(hi:PE X i j)(hv:PE X c l)(hs:swapsWith c (some<|.Subscript o i d) f.line X.env=pure false):
  PS X (.Assign [.Subscript o i d] c f) (MP g j l):=by
 intro n s w H D I h
 show wpAny_Assign_Subscript (cE (hv n s w H _ I h) λr s1 ⟨v,H1,R,rv,Y⟩=>cE (ho n s1 w H1 _ R Y) λu W ⟨x,H2,I2,rx,q2⟩=>cE (hi n W w H2 _ I2 q2) λiv s3 ⟨y,H3,z,ry,a,b,els,p,P,ey,M,K,N,G,hl,S,Z⟩=>?_) hs
 subst P ey
 obtain rfl:u=Value.ref a:=rx
 obtain rfl:iv=Value.ref b:=ry
 let#[Q,xs,dd,F]:=Js z M K
 rcases JM F (λe h=>(K e h).1) G with⟨J,B⟩|⟨q,v',J,B,e3⟩
 ·show wpAny_setItem_heap (kh hu) (Fc z N G) dd (λU t sb=>?_) (by have:=Fi F;rw[sizeLine_eq];omega)
  rw[storedH_new J] at t
  let hN:=JK (X:=X) (els:=els++ [(p,b,v)]) Q t (Lp F #[L,L,rv])
  have C:∃q,U.get? a=some q:=let ⟨q,_,_,hq,_⟩:=t;#[q,hq]
  show#[w,_,oE z (by rw[M];show True.intro) sb C<|Jw hN,Z]
 ·rw[S] at B;cases B
end L2
namespace DL
open PyProof.Rows L2
inductive D where
 |non|bl (b:Bool)|int (i:Int)|str (x:Str)|tup (xs:List D)|ref (k:Nat)|fn (x:Str)
inductive O where
 |lst (xs:List D)|frz (xs:List D)|dct (kvs:List (Key×D))|sett (xs:List D)|dctN (ks vs:List D)
abbrev aE:=List O
mutual
noncomputable def eX:D->Option PyData
 |.int i=>some (.int i)
 |.tup a=>(df a).map .tuple
 |_=>none
noncomputable def df:List D->Option (List PyData)
 | []=>some []
 |d::ds=>(eX d).bind λp=>(df ds).map (p::·)
end
abbrev cv:=List (Option D)
structure Md where
 K:PySem.W.Frag
 mg:Str->Option Value
mutual
inductive Rel(M:Md)(ρ:X7)(H:Hp):D->V->Prop
 |non:Rel M ρ H .non .non
 |bl (b:Bool):Rel M ρ H (.bl b) (.bl b)
 |int (i:Int):Rel M ρ H (.int i) (.int i)
 |str (x:Str):Rel M ρ H (.str x) (.str x)
 |tup {a:X8} {vs:List V} {ds:List D}:H a=some (.tup vs)->bh M ρ H ds vs->Rel M ρ H (.tup ds) (.ref a)
 |ref {k:Nat} {a:X8}:ρ[k]?=some a->Rel M ρ H (.ref k) (.ref a)
 |fn {x:Str} {a:X8}:M.mg x=some (.ref a)->Rel M ρ H (.fn x) (.ref a)
inductive bh(M:Md)(ρ:X7)(H:Hp):List D->List V->Prop
 |nil:bh M ρ H [] []
 |cons {d:D} {v:V} {ds:List D} {vs:List V}:Rel M ρ H d v->bh M ρ H ds vs->bh M ρ H (d::ds) (v::vs)
end
def Ox:HO->Prop
 |.tup _=>True
 |.frz _ _=>True
 |_=>False
structure bS(ρ:X7)(H:Hp)(g:X7)(s:Hp):Prop where
 pre:ρ <+: g
 new:∀a∈g,a∈ρ\/H a=none
 keep:∀a o,H a=some o->a∉ρ\/Ox o->s a=some o
 grow:∀a,s a=none->H a=none
def bS.refl:bS ρ H ρ H:=#[List.prefix_refl _,λ_ h=>.inl h,λ_ _ h _=>h,λ_ h=>h]
def bS.trans{H1 H2:Hp}(e:bS ρ H b H1)(f:bS b H1 d H2):bS ρ H d H2 where
 pre:=e.pre.trans f.pre
 new:=λa h=>(f.new a h).elim (λh=>e.new a h) λh=>.inr (e.grow a h)
 keep:=λa o h c=>f.keep a o (e.keep a o h c) (c.imp (λn m=>(e.new a m).elim n λz=>by rw[z] at h;cases h) id)
 grow:=λa h=>e.grow a (f.grow a h)
def bS.laid{H:Hp}(h:H a=none):bS ρ H ρ (upd H a o) where
 pre:=List.prefix_refl _
 new:=λ_ h=>.inl h
 keep:=λb c e _=>by rw[aU];show e;intro z;subst z;rw[h] at e;cases e
 grow:=λb e=>by
  by_cases z:b=a
  ·subst z;show h
  ·rw[aU z] at e;show e
theorem iD:∀{l:List α},l.Nodup->∀{i j:Nat} {a:α},l[i]?=some a->l[j]?=some a->i=j
 | [],_,_,_,_,h,_=>by simp at h
 |x::l,n,0,0,_,_,_=>rfl
 | x::l,n,0,j+1,a,h1,h2=>by
   rw[List.nodup_cons] at n
   simp at h1 h2
   subst h1
   show absurd (mQg h2) n.1
 | x::l,n,i+1,0,a,h1,h2=>by
   rw[List.nodup_cons] at n
   simp at h1 h2
   subst h2
   show absurd (mQg h1) n.1
 | x::l,n,i+1,j+1,a,h1,h2=>by
   rw[List.nodup_cons] at n
   simp at h1 h2
   show congrArg (·+1)<|iD n.2 h1 h2
def bZ(h:some (a,b)=some (c,d)):a=c/\b=d:=by cases h;show#[L,L]
def cD{α:Type}{l b:List α}(h:l <+: b){k:Nat}{a:α}(e:l[k]?=some a):b[k]?=some a:=by
 let#[t,rfl]:=h
 rw[QHq (gQs.mp e).1]
 show e
mutual
theorem Rel.ext(e:bS ρ H g s):∀{d:D} {v:V},Rel M ρ H d v->Rel M g s d v
 |_,_,.non=>.non
 |_,_,.bl b=>.bl b
 |_,_,.int i=>.int i
 |_,_,.str x=>.str x
 |_,_,.tup h hs=>.tup (e.keep _ _ h<|.inr trivial) (bh.ext e hs)
 |_,_,.ref h=>.ref (cD e.pre h)
 |_,_,.fn h=>.fn h
theorem bh.ext(e:bS ρ H g s):∀{ds:List D} {vs:List V},bh M ρ H ds vs->bh M g s ds vs
 |_,_,.nil=>.nil
 |_,_,.cons h hs=>.cons (Rel.ext e h) (bh.ext e hs)
end
mutual
theorem Rel.pre(e:ρ <+: g):∀{d:D} {v:V},Rel M ρ H d v->Rel M g H d v
 |_,_,.non=>.non
 |_,_,.bl b=>.bl b
 |_,_,.int i=>.int i
 |_,_,.str x=>.str x
 |_,_,.tup h hs=>.tup h (bh.pre e hs)
 |_,_,.ref h=>.ref (cD e h)
 |_,_,.fn h=>.fn h
theorem bh.pre(e:ρ <+: g):∀{ds:List D} {vs:List V},bh M ρ H ds vs->bh M g H ds vs
 |_,_,.nil=>.nil
 |_,_,.cons h hs=>.cons (Rel.pre e h) (bh.pre e hs)
end
theorem bh.length:∀{ds:List D} {vs:List V},bh M ρ H ds vs->ds.length=vs.length
 |_,_,.nil=>rfl
 |_,_,.cons _ h=>congrArg (·+1) h.length
theorem bh.append:∀{ds es:List D} {vs ws:List V},bh M ρ H ds vs->bh M ρ H es ws->bh M ρ H (ds++es) (vs++ws)
 |_,_,_,_,.nil,h=>h
 |_,_,_,_,.cons h hs,h'=>.cons h (hs.append h')
theorem bh.get:∀{ds:List D} {vs:List V} {i:Nat} {d:D},bh M ρ H ds vs->ds[i]?=some d->∃v,vs[i]?=some v/\Rel M ρ H d v
 |_,_,0,_,.cons h _,e=>by cases e;show#[_,L,h]
 |_,_,i+1,_,.cons _ hs,e=>hs.get (i:=i) (by simpa using e)
 |_,_,_,_,.nil,e=>by simp at e
theorem bh.set(h:Rel M ρ H d v):∀{ds:List D} {vs:List V} (i:Nat),bh M ρ H ds vs->bh M ρ H (ds.set i d) (vs.set i v)
 |_,_,_,.nil=>.nil
 |_,_,0,.cons _ t=>.cons h t
 |_,_,i+1,.cons q t=>.cons q (bh.set h i t)
theorem bh.take:∀{ds:List D} {vs:List V} (n:Nat),bh M ρ H ds vs->bh M ρ H (ds.take n) (vs.take n)
 |_,_,0,_=>.nil
 |_,_,_+1,.nil=>.nil
 |_,_,n+1,.cons h hs=>.cons h (hs.take n)
theorem bh.drop:∀{ds:List D} {vs:List V} (n:Nat),bh M ρ H ds vs->bh M ρ H (ds.drop n) (vs.drop n)
 |_,_,0,h=>h
 |_,_,_+1,.nil=>.nil
 |_,_,n+1,.cons _ hs=>hs.drop n
theorem bh.rep(h:bh M ρ H ds vs):∀k:Nat,bh M ρ H (List.replicate k ds).flatten (List.replicate k vs).flatten
 |0=>.nil
 |k+1=>by rw[QNq,QNq,List.flatten_cons,List.flatten_cons];show h.append (h.rep k)
def cq(M:Md)(ρ:X7)(H:Hp):List (Key×D)->List (Key×V)->Prop
 | [],kv=>kv= []
 |(k,d)::r,kv=>∃v t,kv=(k,v)::t/\Rel M ρ H d v/\cq M ρ H r t
theorem cq.imp(f:∀d v,Rel M ρ H d v->Rel M g s d v):∀{l:List (Key×D)} {kv:List (Key×V)},cq M ρ H l kv->cq M g s l kv
 | [],_,h=>h
 |(_,_)::_,_,#[v,t,e,h,hs]=>#[v,t,e,f _ _ h,cq.imp f hs]
theorem cq.length:∀{l:List (Key×D)} {kv:List (Key×V)},cq M ρ H l kv->l.length=kv.length
 | [],_,h=>by cases h;rfl
 |(_,_)::_,_,#[v,t,e,h,hs]=>by subst e;show congrArg (·+1) hs.length
def oX(M:Md)(ρ:X7)(H:Hp)(a:X8):O->Prop
 |.lst d=>∃c,H a=some (.lst c)/\bh M ρ H d c
 |.frz d=>∃c o,H a=some (.frz o (.lst c))/\bh M ρ H d c
 |.dct f=>∃i,H a=some (.dK i)/\cq M ρ H f i
 |.sett d=>∃(j:X7) (h:List PyData),H a=some (.ext (ST.da a<|List.zip h j))/\bh M ρ H d (j.map V.ref)/\df d=some h/\ST.jW 8 h=true
 |.dctN k c=>∃b:List yV,H a=some (.ext (jT a b))/\bh M ρ H k (b.map λe=>V.ref e.2.1)/\bh M ρ H c (b.map (·.2.2))/\df k=some (b.map (·.1))/\ST.jW 8 (b.map (·.1))=true
structure fT(M:Md)(ρ:X7)(S:aE)(H:Hp):Prop where
 len:ρ.length=S.length
 nd:ρ.Nodup
 obj:∀(k:Nat) (a:X8) (o:O),ρ[k]?=some a->S[k]?=some o->oX M ρ H a o
def oX.lay(h:oX M ρ H a o)(l:H b=none):oX M ρ (upd H b u) a o:=by
 have e:bS ρ H ρ (upd H b u):=bS.laid l
 have f:∀{x},H a=some x->upd H b u a=some x:=λ{x} h=>by rw[aU];show h;intro z;subst z;rw[l] at h;cases h
 cases o with
 |lst m=>let#[i,d,c]:=h;show#[i,f d,c.ext e]
 |frz m=>let#[i,o,d,c]:=h;show#[i,o,f d,c.ext e]
 |dct n=>let#[v,d,c]:=h;show#[v,f d,c.imp λ_ _ r=>r.ext e]
 |sett m=>let#[p,q,d,c,j]:=h;show#[p,q,f d,c.ext e,j]
 |dctN w i=>let#[k,d,c,j,t]:=h;show#[k,f d,c.ext e,j.ext e,t]
def fT.lay(h:fT M ρ S H)(e:H b=none):fT M ρ S (upd H b u):=#[h.len,h.nd,λk a o d c=>(h.obj k a o d c).lay e]
theorem oX.pre(e:ρ <+: g)(h:oX M ρ H a o):oX M g H a o:=by
 cases o with
 |lst j=>let#[d,c,b]:=h;show#[d,c,b.pre e]
 |frz j=>let#[d,o,c,b]:=h;show#[d,o,c,b.pre e]
 |dct k=>let#[l,c,b]:=h;show#[l,c,b.imp λ_ _ r=>r.pre e]
 |sett j=>let#[p,m,c,b,i]:=h;show#[p,m,c,b.pre e,i]
 |dctN q d=>let#[f,c,b,i,n]:=h;show#[f,c,b.pre e,i.pre e,n]
def fT.box(h:fT M ρ S H)(m:a∉ρ)(i:oX M (ρ++ [a]) H a o):fT M (ρ++ [a]) (S++ [o]) H where
 len:=by rw[lQa,lQa,h.len];rfl
 nd:=by rw[List.nodup_append];show#[h.nd,by simp,λx l y f=>by rw[Qfq] at f;subst f;show λz=>m (z▸l)]
 obj:=λk b u d e=>by
  by_cases c:k<ρ.length
  ·rw[QHq c] at d
   rw[QHq (h.len▸c)] at e
   show(h.obj k b u d e).pre (List.prefix_append _ _)
  ·have c:ρ.length<=k:=Nat.le_of_not_lt c
   rw[QQq c] at d
   rw[QQq (h.len▸c)] at e
   have z:k-ρ.length=0:=by
    have:=(gQs.mp d).1
    simp at this
    omega
   have j:k-S.length=0:=by rw[<-h.len];show z
   rw[z] at d
   rw[j] at e
   cases d
   cases e
   show i
def fT.put(h:fT M ρ S H)(v:ρ[k]?=some a)(Q:S[k]?=some o)(U:oX M ρ (upd H a u) a o')(N:∀x,H a=some x->¬Ox x):fT M ρ (S.set k o') (upd H a u)/\bS ρ H ρ (upd H a u):=by
 have P:a∈ρ:=mQg v
 have e:bS ρ H ρ (upd H a u):=by
  show#[List.prefix_refl _,λ_ h=>.inl h,λb x C c=>?_,λb t=>?_]
  ·rw[aU]
   ·show C
   ·intro z
    subst z
    show c.elim (λn=>n P) λX=>N _ C X
  ·by_cases z:b=a
   ·subst z;rw[bx] at t;cases t
   ·rw[aU z] at t;show t
 show#[#[by rw[List.length_set];show h.len,h.nd,λj b p i m=>?_],e]
 by_cases c:j=k
 ·subst c
  rw[v] at i
  cases i
  rw[Qyq (gQs.mp Q).1] at m
  cases m
  show U
 ·rw[QKq (Ne.symm c)] at m
  have l:b≠a:=by
   intro z
   subst z
   let F:=(gQs.mp i)
   let G:=(gQs.mp v)
   let#[F,e1]:=F
   let#[G,Z]:=G
   show c<|iD h.nd i v
  let q:=h.obj j b p i m
  cases p with
  |lst B=>let#[w,d,f]:=q;show#[w,by rw[aU l];show d,f.ext e]
  |frz B=>let#[w,o,d,f]:=q;show#[w,o,by rw[aU l];show d,f.ext e]
  |dct I=>let#[W,d,f]:=q;show#[W,by rw[aU l];show d,f.imp λ_ _ r=>r.ext e]
  |sett B=>let#[J,K,d,f,y]:=q;show#[J,K,by rw[aU l];show d,f.ext e,y]
  |dctN Y w=>let#[A,d,f,y,R]:=q;show#[A,by rw[aU l];show d,f.ext e,y.ext e,R]
structure En(M:Md)(ρ:X7)(H:Hp)(Γ:cv)(σ:L2.St):Prop where
 len:σ.length=Γ.length
 get:∀(i:Nat) (d:D),Γ[i]?=some (some d)->∃v,σ[i]?=some (some v)/\Rel M ρ H d v
def En.ext(h:En M ρ H c f)(e:bS ρ H a b):En M a b c f:=#[h.len,λi d q=>by let#[v,j,g]:=h.get i d q;show#[v,j,g.ext e]]
def En.set(h:En M ρ H a b)(r:Rel M ρ H d v):En M ρ H (a.set i<|some d) (b.set i<|some v) where
 len:=by rw[List.length_set,List.length_set];show h.len
 get:=λj e q=>by
  by_cases c:i=j
  ·subst c
   have l:i<a.length:=by
    have:=(gQs.mp q).1
    rwa [List.length_set] at this
   rw[Qyq l] at q
   cases q
   show#[v,Qyq (h.len▸l),r]
  ·rw[QKq c] at q|-
   show h.get j e q
structure Ok(M:Md)(ρ:X7)(Γ:cv)(S:aE)(σ:L2.St)(H:Hp):Prop where
 en:En M ρ H Γ σ
 st:fT M ρ S H
def Ok.to(h:Ok M ρ d S f H)(e:bS ρ H a b)(s:fT M a c b):Ok M a d c f b:=#[h.en.ext e,s]
abbrev bj:=cv->aE->Option (D×aE)
abbrev gw:=cv->aE->Option (List D×aE)
abbrev iH:=cv->aE->Option (Bool×aE)
def tD(M:Md)(f:bj):TE:=λh H Q=>∃e g S d c,Ok M e g S h H/\f g S=some (d,c)/\∀a v b,bS e H a b->fT M a c b->Rel M a b d v->Q v b
def tL(M:Md)(f:gw):TE:=λj H Q=>∃g h S i d,Ok M g h S j H/\f h S=some (i,d)∧
 ∀b a e c,bS g H b c->fT M b d c->H a=none->a∉b->c a=some (.lst e)->bh M b c i e->Q (.ref a) c
def x_(M:Md)(f:gw):TA:=λi H Q=>∃e g S h c,Ok M e g S i H/\f g S=some (h,c)/\∀a d b,bS e H a b->fT M a c b->bh M a b h d->Q d b
def tB(M:Md)(f:iH):TT:=λh H Q=>∃e g S b d,Ok M e g S h H/\f g S=some (b,d)/\∀a c,bS e H a c->fT M a d c->Q b c
noncomputable abbrev md(X:Cx):Md:=#[X.K,X.mg]
def j2{t t':TE}(h:PE X e t)(w:∀b H Q,t' b H Q->t b H Q):PE X e t':=λa s b H Q I q=>h a s b H Q I (w _ _ _ q)
def OJ{t t':TT}(h:PT X e t)(w:∀b H Q,t' b H Q->t b H Q):PT X e t':=λa s b H Q I q=>h a s b H Q I (w _ _ _ q)
def QL{t t':TT}(h:PW X e t)(w:∀b H Q,t' b H Q->t b H Q):PW X e t':=λc a s b H Q I q=>h c a s b H Q I (w _ _ _ q)
def QW{t t':TA}(h:PA X es t)(w:∀b H Q,t' b H Q->t b H Q):PA X es t':=λc a s b H Q I q=>h c a s b H Q I (w _ _ _ q)
def Aj{t t':TS}(h:PS X e t)(w:∀D b H,t' D b H->t D b H):PS X e t':=λa s b H D I q=>h a s b H D I (w _ _ _ q)
def Nl{t t':TS}(h:qY X e t)(w:∀D b H,t' D b H->t D b H):qY X e t':=λa s b H D I q=>h a s b H D I (w _ _ _ q)
noncomputable def au(i:Nat):bj:=λa S=>match a[i]? with
 |some (some d)=>some (d,S)
 |_=>none
def Dh(h:au i b S=some (d,a)):b[i]?=some (some d)/\a=S:=by
 unfold au at h
 split at h
 ·cases h;show#[by assumption,L]
 ·cases h
def Mf(h:PE X e (LB i)):PE X e (tD (md X)<|au i):=j2 h λl H Q b=>by
 let#[c,k,S,d,j,ok,e,q]:=b
 let#[a,rfl]:=Dh e
 let#[v,g,f]:=ok.en.get i d a
 show#[v,g,q c v H bS.refl ok.st f]
noncomputable def cF(d:D):bj:=λ_ S=>some (d,S)
def my(h:PE X e (tC v))(r:∀ρ H,Rel (md X) ρ H d v):PE X e (tD (md X)<|cF d):=j2 h λg H Q a=>by
 let#[ρ,f,S,c,b,ok,e,q]:=a
 cases e
 show q ρ v H bS.refl ok.st<|r _ _
def vF{i:Int}{j pos}:PE X (.Constant (.int i) j pos) (tD (md X)<|cF<|.int i):=my LM λ_ _=>.int i
def Q9{b:Bool}{j pos}:PE X (.Constant (.bool b) j pos) (tD (md X)<|cF<|.bl b):=my NG λ_ _=>.bl b
def Nk{j pos}:PE X (.Constant .none j pos) (tD (md X)<|cF .non):=my K_ λ_ _=>.non
def Qn{x:Str}{j pos}:PE X (.Constant (.str x) j pos) (tD (md X)<|cF<|.str x):=my KP λ_ _=>.str x
noncomputable def bE(f:gw):bj:=λb S=>(f b S).bind λ(c,a)=>some (.ref a.length,a++ [.lst c])
def ND(h:PE X e (tL (md X) f)):PE X e (tD (md X)<|bE f):=j2 h λz H Q t=>by
 let#[u,k,S,d,A,ok,e,q]:=t
 unfold bE at e
 cases j:f k S with
 |none=>rw[j] at e;cases e
 | some p=>
   let#[n,w]:=p
   rw[j] at e
   let#[rfl,rfl]:=bZ e
   show#[u,k,S,n,w,ok,j,λg a m y x l o s v r=>?_]
   let i:=r.pre (List.prefix_append g [a])
   show q (g++ [a]) (.ref a) y #[x.pre.trans<|List.prefix_append _ _,λb c=>?_,x.keep,x.grow] (l.box s #[m,v,i])<|.ref ?_
   · rcases mQa.mp c with c|c
     · show x.new b c
     · rw[Qfq] at c;subst c;show .inr o
   · rw[<-l.len,QQq (Qmq _)]
     simp
noncomputable def av:gw:=λ_ S=>some ([],S)
noncomputable def ar(f:bj)(g:gw):gw:=λa S=>(f a S).bind λ(d,c)=>(g a c).bind λ(e,b)=>some (d::e,b)
def aq{o:Option α}(h:o.bind f=some b):∃a,o=some a/\f a=some b:=by
 cases o with
 |none=>cases h
 |some a=>show#[a,L,h]
def kK:PA X [] (x_ (md X) av):=QW fu λg H Q a=>by
 let#[b,f,S,d,c,ok,e,q]:=a
 cases e
 show q b [] H bS.refl ok.st .nil
def dg(A:PE X e (tD (md X) f))(t:PA X es (x_ (md X) g))(w:autoParam (starEach (e::es) X.env=(false,eval e X.env)::starEach es X.env) db._auto_1):PA X (e::es) (x_ (md X)<|ar f g):=
 QW (cK A t w) λB H Q r=>by
  let#[s,i,S,d,C,ok,e,q]:=r
  let#[#[x,k],z,e]:=aq e
  let#[#[u,p],o,e]:=aq e
  let#[rfl,rfl]:=bZ e
  show#[s,i,S,x,k,ok,z,λh v H1 l a m=>#[h,i,k,u,p,ok.to l a,o,λb n H2 j c y=>?_]]
  show q b (v::n) H2 (l.trans j) c<|.cons (m.ext j) y
noncomputable def aY(f:gw):bj:=λc S=>(f c S).bind λ(a,b)=>if a.length<=sizeLine then some (.tup a,b) else none
def Jm{es:List Expr}{f:gw}{k pos}(h:PA X es (x_ (md X) f)):PE X (.Tuple es k pos) (tD (md X)<|aY f):=j2 (ET h) λu H Q l=>by
 let#[m,n,S,d,v,ok,e,q]:=l
 let#[#[j,r],o,e]:=aq e
 dsimp only at e
 split at e
 ·rename_i c
  let#[rfl,rfl]:=bZ e
  show#[m,n,S,j,r,ok,o,λb t H1 s a i=>#[i.length▸c,λp g=>?_]]
  show q b (.ref p) _ (s.trans<|bS.laid g) (a.lay g)<|.tup bx (i.ext<|bS.laid g)
 ·cases e
noncomputable def bA(f:gw):gw:=λc S=>(f c S).bind λ(a,b)=>if a.length<=sizeLine then some (a,b) else none
def cR(x:bS ρ H a f)(st:fT M a S f)(b:f p=none):p∉a:=λm=>by
 let#[k,g]:=List.getElem?_of_mem m
 have l:k<S.length:=st.len▸(gQs.mp g).1
 have:=st.obj k p _ g (gQe l)
 cases e:S[k] with
 |lst d=>rw[e] at this;let#[c,h,_]:=this;rw[b] at h;cases h
 |frz d=>rw[e] at this;let#[c,o,h,_]:=this;rw[b] at h;cases h
 |dct d=>rw[e] at this;let#[c,h,_]:=this;rw[b] at h;cases h
 |sett d=>rw[e] at this;let#[_,_,h,_]:=this;rw[b] at h;cases h
 |dctN i c=>rw[e] at this;let#[_,h,_]:=this;rw[b] at h;cases h
def Ju{es:List Expr}{f:gw}{pos}(h:PA X es (x_ (md X) f)):PE X (.List es pos) (tL (md X)<|bA f):=j2 (LH h) λt H Q m=>by
 let#[n,o,S,d,u,ok,e,q]:=m
 let#[#[l,s],r,e]:=aq e
 dsimp only at e
 split at e
 ·rename_i c
  let#[rfl,rfl]:=bZ e
  show#[n,o,S,l,s,ok,r,λg k H1 i a j=>#[j.length▸c,λp b=>?_]]
  show q g p k _ (i.trans<|bS.laid b) (a.lay b) (i.grow p b) (cR i a b) bx<|j.ext<|bS.laid b
 ·cases e
def F6:jV X (binaryOp .Add) (λx y H Q=>∃a b ys,x=.ref a/\y=.ref b/\iJ X.K H a []/\iJ X.K H b ys/\Q (.ref b) H):=by
 intro z s S H x y v u Q I M N h
 let#[a,b,ys,rfl,rfl,ha,j,q]:=h
 cases M
 cases N
 let#[J,C,G,_]:=I.tuple ha
 let#[g,U,j,_]:=I.tuple j
 cases C
 let#[#[B,P,r,sl],w,A,n,p]:=id G
 let#[#[t,k,o,l],i,f,R,d]:=id j
 simp only at A p f d
 subst A p f d
 show concat_meets #[_,w,L] #[_,i,L] noFill_tuple_add seq_tuple_add PySem.F.slot_tuple_add PySem.F.entry_tuple_add (PySem.F.args_tuple_add_2 _ _)
   (tuple_addW0 a b _ g.toArray n R P k sl l (by simp)) #[w,i,.ref b,H,I,L,q]
abbrev uF:=aE->D->D->Option D
def kQ(M:Md)(r:R2)(o:uF):Prop:=∀{f:X7} {S:aE} {H:Hp} {x y d:D} {u v:V} {Q:VK},fT M f S H->Rel M f H x u->Rel M f H y v->o S x y=some d->(∀w g,bS f H f g->fT M f S g->Rel M f g d w->Q w g)->r u v H Q
noncomputable def bp(o:uF)(f g:bj):bj:=λi S=>(f i S).bind λ(x,j)=>(g i j).bind λ(y,h)=>(o h x y).bind λd=>some (d,h)
def qG(I:kQ (md X) r o)(h:PE X e (G1 r (tD (md X) f)<|tD (md X) g)):PE X e (tD (md X)<|bp o f g):=j2 h λU H Q J=>by
 let#[K,p,S,d,W,ok,e,q]:=J
 let#[#[x,t],N,e]:=aq e
 let#[#[y,G],F,e]:=aq e
 let#[R,P,e]:=aq e
 let#[rfl,rfl]:=bZ e
 show#[K,p,S,x,t,ok,N,λn v H1 u i B=>#[n,p,t,y,G,ok.to u i,F,λj w H2 s l M=>?_]]
 show I l (B.ext s) M P λA H3 C k z=>q j A H3 ((u.trans s).trans C) k z
noncomputable def bW:uF:=λ_ x y=>match x,y with
 |.int i,.int j=>some (.int (i+j))
 |.str i,.str j=>if i.length+j.length<=sizeLine then some (.str (i++j)) else none
 |.tup i,.tup j=>if i.length+j.length<=sizeLine then some (.tup (i++j)) else none
 |_,_=>none
abbrev Nv(K:X1):R2:=λx y H Q=>(∃i j,x=.int i/\y=.int j/\Q (.int (i+j)) H)\/(∃i j,x=.str i/\y=.str j/\i.length+j.length<=sizeLine/\Q (.str (i++j)) H)∨
 (∃a b d,x=.ref a/\y=.ref b/\iJ K H a []/\iJ K H b d/\Q (.ref b) H)\/Jv K x y H Q
def Jg:jV X (binaryOp .Add) (Nv X.K):=KW.or (AM.or<|F6.or HD)
def J_:kQ M (Nv M.K) bW:=by
 intro w S H x y d u v Q h r o e q
 cases r with
 |int i=>cases o <;>erw[bW,reduceCtorEq] at e;cases e;show .inl #[_,_,L,L,q _ _ bS.refl h<|.int _]
 | str i=>
   cases o <;>erw[bW,reduceCtorEq] at e
   split at e <;>cases e
   show .inr (.inl #[_,_,L,L,by assumption,q _ _ bS.refl h<|.str _])
 | tup k f=>
   cases o with
   | tup n j=>
     erw[bW] at e
     split at e <;>cases e
     rename_i hl
     let s:=f.length
     let t:=j.length
     cases f with
     |nil=>show .inr (.inr (.inl #[_,_,_,L,L,iJ.of k,iJ.of n,q _ _ bS.refl h<|.tup n j]))
     | cons f g=>
       show .inr (.inr (.inr #[_,_,_,_,L,L,iJ.of k,iJ.of n,by simp,by rw[<-s,<-t];show hl,λz=>?_,λz p l=>?_]))
       · subst z
         cases j
         rw[List.append_nil] at q
         show q _ _ bS.refl h<|.tup k (.cons f g)
       · show q _ _ (bS.laid l) (h.lay l)<|.tup bx ((bh.append (.cons f g) j).ext (bS.laid l))
   |_=>erw[bW,reduceCtorEq] at e
 |_=>erw[bW,reduceCtorEq] at e
def Qs(d:PE X a (tD (md X) f))(h:PE X b (tD (md X) g)):PE X (.BinOp a .Add b m) (tD (md X)<|bp bW f g):=qG J_ (qE Jg d h)
noncomputable def intD(C:Int->Int->Prop)[∀i j,Decidable (C i j)](k:Int->Int->D):uF:=λ_ x y=>match x,y with
 |.int i,.int j=>if C i j then some (k i j) else none
 |_,_=>none
def xm{C:Int->Int->Prop}[∀i j,Decidable (C i j)]{k:Int->Int->D}{g:Int->Int->V}(h:∀i j ρ H,Rel M ρ H (k i j)<|g i j):kQ M (rI C g) (intD C k):=by
 intro ρ S H x y d u v Q l f n e q
 cases f <;>cases n <;>erw[intD,reduceCtorEq] at e
 split at e <;>cases e
 show#[_,_,L,L,by assumption,q _ _ bS.refl l<|h _ _ _ _]
def pI{k:Int->Int->D}{g:Int->Int->V}(h:∀i j ρ H,Rel M ρ H (k i j)<|g i j):kQ M (C6 g) (intD (λ_ _=>True) k):=by
 intro ρ S H x y d u v Q l f n e q
 cases f <;>cases n <;>erw[intD,reduceCtorEq] at e
 rw[Qhq trivial] at e
 cases e
 show#[_,_,L,L,q _ _ bS.refl l<|h _ _ _ _]
instance{i j:Int}:Decidable (E3 i j):=by unfold E3;infer_instance
instance{i j:Int}:Decidable (Fq i j):=by unfold Fq;infer_instance
open Classical in
noncomputable instance{i j:Int}:Decidable (IntMulOk i j):=Classical.propDecidable _
noncomputable abbrev zT:uF:=intD (λ_ _=>True) λi j=>.int (i-j)
noncomputable abbrev t5:uF:=intD IntMulOk λi j=>.int (i*j)
noncomputable abbrev rC:uF:=intD (λ_ j=>0<j) λi j=>.int (i%j)
noncomputable abbrev zj:uF:=intD E3 λi j=>.int (i/j)
noncomputable abbrev Hb:uF:=intD Fq λi j=>.int (i^j.toNat)
def QH(d:PE X a (tD (md X) f))(h:PE X b (tD (md X) g)):PE X (.BinOp a .Sub b m) (tD (md X)<|bp zT f g):=qG (pI λi j _ _=>.int _) (qE J3 d h)
def Qe(d:PE X a (tD (md X) f))(h:PE X b (tD (md X) g)):PE X (.BinOp a .Mult b m) (tD (md X)<|bp t5 f g):=qG (xm λi j _ _=>.int _) (qE G9 d h)
def Qx(d:PE X a (tD (md X) f))(h:PE X b (tD (md X) g)):PE X (.BinOp a .Mod b m) (tD (md X)<|bp rC f g):=qG (xm λi j _ _=>.int _) (qE Kb d h)
def PL(d:PE X a (tD (md X) f))(h:PE X b (tD (md X) g)):PE X (.BinOp a .FloorDiv b m) (tD (md X)<|bp zj f g):=qG (xm λi j _ _=>.int _) (qE IV d h)
def QV(d:PE X a (tD (md X) f))(h:PE X b (tD (md X) g)):PE X (.BinOp a .Pow b m) (tD (md X)<|bp Hb f g):=qG (xm λi j _ _=>.int _) (qE Lu d h)
noncomputable def rA(f:bj):bj:=λh S=>(f h S).bind λ(d,g)=>match d with
 |.int i=>some (.int (-i),g)
 |_=>none
def JJ(o:PE X a (tD (md X) f)):PE X (.UnaryOp .USub a m) (tD (md X)<|rA f):=j2 (NY Kx o) λs H Q j=>by
 let#[k,l,S,d,t,ok,e,q]:=j
 let#[#[x,p],n,e]:=aq e
 dsimp only at e
 split at e
 ·let#[rfl,rfl]:=bZ e
  show#[k,l,S,_,p,ok,n,λi v H1 r g h=>?_]
  cases h
  show#[_,L,q _ _ _ r g<|.int _]
 ·cases e
noncomputable def xn:D->Option V
 |.non=>some .non
 |.bl b=>some (.bl b)
 |.int i=>some (.int i)
 |.str x=>some (.str x)
 |_=>none
def nQ(r:Rel M ρ H d u)(e:xn d=some v):u=v:=by
 cases r <;>simp[xn] at e <;>show e
noncomputable def gk(d:Bool):uF:=λ_ x y=>match xn x,xn y with
 |some u,some v=>if Ba u v=true then some (.bl (if d then !decide (u=v) else decide (u=v))) else none
 |_,_=>none
def y1(e:gk f S x y=some d):∃u v,xn x=some u/\xn y=some v/\Ba u v=true/\d=.bl (if f then !decide (u=v) else decide (u=v)):=by
 unfold gk at e
 split at e
 ·split at e <;>cases e
  show#[_,_,by assumption,by assumption,by assumption,L]
 ·cases e
def Qy:kQ M QE (gk false):=by
 intro o S H x y d u v Q j g k e q
 let#[n,l,h,f,i,rfl]:=y1 e
 cases nQ g h
 cases nQ k f
 show#[i,q _ _ bS.refl j<|.bl _]
def QX:kQ M Qw (gk true):=by
 intro o S H x y d u v Q j g k e q
 let#[n,l,h,f,i,rfl]:=y1 e
 cases nQ g h
 cases nQ k f
 show#[i,q _ _ bS.refl j<|.bl _]
noncomputable abbrev Fo:uF:=intD (λ_ _=>True) λi j=>.bl (decide (i<j))
noncomputable abbrev L1:uF:=intD (λ_ _=>True) λi j=>.bl (decide (i<=j))
noncomputable abbrev OC:uF:=intD (λ_ _=>True) λi j=>.bl (decide (j<i))
noncomputable abbrev Qp:uF:=intD (λ_ _=>True) λi j=>.bl (decide (j<=i))
def ME:kQ M (C6 λi j=>.bl (decide (i<j))) Fo:=pI λi j _ _=>.bl _
def Jo:kQ M (C6 λi j=>.bl (decide (i<=j))) L1:=pI λi j _ _=>.bl _
def QI:kQ M (C6 λi j=>.bl (decide (j<i))) OC:=pI λi j _ _=>.bl _
def Qq:kQ M (C6 λi j=>.bl (decide (j<=i))) Qp:=pI λi j _ _=>.bl _
noncomputable def isNone:D->Bool
 |.non=>true
 |_=>false
noncomputable def pT(d:Bool):uF:=λ_ x y=>match y with
 |.non=>some (.bl (if d then !isNone x else isNone x))
 |_=>none
def vE(r:Rel M ρ H d u):decide (u=V.non)=isNone d:=by
 cases r <;>simp[isNone]
def PZ:kQ M (λx y H Q=>y=.non/\Q (.bl (decide (x=.non))) H) (pT false):=by
 intro i S H x y d u v Q h g f e q
 cases f <;>erw[pT,reduceCtorEq] at e
 cases e
 rw[vE g]
 show#[L,q _ _ bS.refl h<|.bl _]
def OL:kQ M (λx y H Q=>y=.non/\Q (.bl (!decide (x=.non))) H) (pT true):=by
 intro i S H x y d u v Q h g f e q
 cases f <;>erw[pT,reduceCtorEq] at e
 cases e
 rw[vE g]
 show#[L,q _ _ bS.refl h<|.bl _]
def Qr(i:jV X (compareOp op) r)(d:kQ (md X) r o)(j:PE X a (tD (md X) f))(k:PE X b (tD (md X) g))(h:behindInMarks op b=false):PE X (.Compare a [op] [b] m) (tD (md X)<|bp o f g):=qG d (IA i j k h)
noncomputable def aJ(f:bj):iH:=λh S=>(f h S).bind λ(d,g)=>match d with
 |.bl k=>some (k,g)
 |_=>none
def tR(e:aJ f h S=some (k,g)):f h S=some (.bl k,g):=by
 let#[#[d,j],i,e]:=aq e
 dsimp only at e
 split at e
 ·cases e;show i
 ·cases e
def NT(G:kQ (md X) r o)(h:PT X e (FG<|G1 r (tD (md X) f)<|tD (md X) g)):PT X e (tB (md X)<|aJ<|bp o f g):=OJ h λU H Q I=>by
 let#[J,p,S,d,W,ok,e,q]:=I
 let e:=tR e
 let#[#[x,t],M,e]:=aq e
 let#[#[y,F],C,e]:=aq e
 let#[R,N,e]:=aq e
 let#[rfl,rfl]:=bZ e
 show#[J,p,S,x,t,ok,M,λn v H1 u i A=>#[n,p,t,y,F,ok.to u i,C,λj w H2 s l K=>?_]]
 show G l (A.ext s) K N λP H3 B k z=>by cases z;show#[_,L,q j H3 ((u.trans s).trans B) k]
def zQ(i:jV X (compareOp op) r)(d:kQ (md X) r o)(j:PE X a (tD (md X) f))(k:PE X b (tD (md X) g))(h:behindInMarks op b=false):PT X (.Compare a [op] [b] m) (tB (md X)<|aJ<|bp o f g):=NT d (mq i j k h)
noncomputable def A_(S:aE):D->Option Bool
 |.non=>some false
 |.bl b=>some b
 |.int i=>some (i !=0)
 |.str y=>if y.length<=sizeLine then some ((y.length:Int) !=0) else none
 |.tup d=>some (!d.isEmpty)
 | .ref k=>match S[k]? with
   |some (.lst d)=>some (!d.isEmpty)
   |some (.dct d)=>some (!d.isEmpty)
   |_=>none
 |.fn _=>none
def bh.isEmpty(h:bh M ρ H ds vs):ds.isEmpty=vs.isEmpty:=by cases h <;>rfl
theorem cq.isEmpty(h:cq M ρ H ds vs):ds.isEmpty=vs.isEmpty:=by
 cases ds with
 |nil=>cases h;rfl
 |cons p r=>let#[v,t,e,_]:=h;subst e;rfl
def HU(st:fT M ρ S H)(r:Rel M ρ H d u)(e:A_ S d=some k):Lv M.K u H k:=by
 cases r with
 |non=>cases e;rfl
 |bl=>cases e;rfl
 |int=>cases e;rfl
 |str=>erw[A_] at e;split at e <;>cases e;show#[by assumption,L]
 |tup h j=>cases e;show .inr (.inl #[_,iJ.of h,by rw[j.isEmpty]])
 |fn=>cases e
 | ref h=>
   erw[A_] at e
   split at e
   · cases e
     let#[f,i,g]:=st.obj _ _ _ h (by assumption)
     show .inl #[f,i8.of i,by rw[g.isEmpty]]
   · cases e
     let#[f,i,g]:=st.obj _ _ _ h (by assumption)
     show .inr (.inr #[f,i,by rw[g.isEmpty]])
   · cases e
noncomputable def mJ(f:bj):iH:=λh S=>(f h S).bind λ(d,g)=>(A_ g d).bind λk=>some (k,g)
def Qo(s:PE X a (tD (md X) f))(he:autoParam (∀d,isTrue a X.env d=(do let v<-d;standAt a.pos;holding [v] (truthy v))) dl._auto_1):PT X a (tB (md X)<|mJ f):=OJ (Fs s he) λw H Q n=>by
 let#[o,p,S,k,y,ok,e,q]:=n
 let#[#[x,t],r,e]:=aq e
 let#[j,l,e]:=aq e
 let#[rfl,rfl]:=bZ e
 show#[o,p,S,x,t,ok,r,λi v H1 u g h=>#[j,HU g h l,q _ _ u g]]
noncomputable def A4(f:iH):iH:=λg S=>(f g S).bind λ(k,d)=>some (!k,d)
def Qf(o:PT X a (tB (md X) f)):PT X (.UnaryOp .Not a m) (tB (md X)<|A4 f):=OJ (Ke o) λs H Q i=>by
 let#[j,l,S,k,t,ok,e,q]:=i
 let#[#[g,p],n,e]:=aq e
 let#[rfl,rfl]:=bZ e
 show#[j,l,S,g,p,ok,n,λh H1 r d=>q _ _ r d]
noncomputable def j3(f g:iH):iH:=λh S=>(f h S).bind λ(k,d)=>if k=true then g h d else some (false,d)
noncomputable def EJ(f g:iH):iH:=λh S=>(f h S).bind λ(k,d)=>if k=true then some (true,d) else g h d
def KD(d:PT X a (tB (md X) f)):PW X (.BoolOp .And [a] m) (tB (md X) f):=Ia d
def QA(d:PT X a (tB (md X) f)):PW X (.BoolOp .Or [a] m) (tB (md X) f):=KI d
def w_and(y:PT X a (tB (md X) f))(r:PW X (.BoolOp .And (b::d) m) (tB (md X) g)):PW X (.BoolOp .And (a::b::d) m) (tB (md X)<|j3 f g):=QL (KF y r) λz H Q t=>by
 let#[u,n,S,k,w,ok,e,q]:=t
 let#[#[p,o],x,e]:=aq e
 show#[u,n,S,p,o,ok,x,λj H1 l h=>?_]
 dsimp only at e
 split at e
 ·rename_i c
  rw[Qhq c]
  show#[j,n,o,k,w,ok.to l h,e,λs H2 v i=>q _ _ (l.trans v) i]
 ·rename_i c
  rw[Quq c]
  let#[rfl,rfl]:=bZ e
  show q _ _ l h
def w_or(y:PT X a (tB (md X) f))(r:PW X (.BoolOp .Or (b::d) m) (tB (md X) g)):PW X (.BoolOp .Or (a::b::d) m) (tB (md X)<|EJ f g):=QL (NJ y r) λz H Q t=>by
 let#[u,n,S,k,w,ok,e,q]:=t
 let#[#[p,o],x,e]:=aq e
 show#[u,n,S,p,o,ok,x,λj H1 l h=>?_]
 dsimp only at e
 split at e
 ·rename_i c
  rw[Qhq c]
  let#[rfl,rfl]:=bZ e
  show q _ _ l h
 ·rename_i c
  rw[Quq c]
  show#[j,n,o,k,w,ok.to l h,e,λs H2 v i=>q _ _ (l.trans v) i]
noncomputable def vQ(f g:bj):bj:=λi S=>(f i S).bind λ(d,h)=>match d with
 |.bl true=>g i h
 |.bl false=>some (.bl false,h)
 |_=>none
noncomputable def Je(f:bj):bj:=λh S=>(f h S).bind λ(d,g)=>match d with
 |.bl k=>some (.bl (!k),g)
 |_=>none
def Qu{op}{f:bj}(h:PE X a (tD (md X) f)):PE X (.BoolOp op [a] m) (tD (md X) f):=Kw h
def Qk(C:PE X a (tD (md X) f))(r:PE X (.BoolOp .And (b::h) m) (tD (md X) g)):PE X (.BoolOp .And (a::b::h) m) (tD (md X)<|vQ f g):=j2 (JT C r) λF H Q t=>by
 let#[u,o,S,d,A,ok,e,q]:=t
 let#[#[x,p],B,e]:=aq e
 show#[u,o,S,x,p,ok,B,λk v H1 l i n=>?_]
 dsimp only at e
 split at e
 ·cases n
  show#[_,L,?_]
  rw[Qhq L]
  show#[k,o,p,d,A,ok.to l i,e,λs w H2 y j z=>q _ _ _ (l.trans y) j z]
 ·cases n
  show#[_,L,?_]
  rw[Quq Qtq]
  let#[rfl,rfl]:=bZ e
  show q _ _ _ l i<|.bl _
 ·cases e
def QR(o:PE X a (tD (md X) f)):PE X (.UnaryOp .Not a m) (tD (md X)<|Je f):=j2 (Lw o) λs H Q j=>by
 let#[k,l,S,d,t,ok,e,q]:=j
 let#[#[x,p],n,e]:=aq e
 show#[k,l,S,x,p,ok,n,λi v H1 r g h=>?_]
 dsimp only at e
 split at e
 ·cases h
  let#[rfl,rfl]:=bZ e
  show#[_,L,q _ _ _ r g<|.bl _]
 ·cases e
noncomputable def sW(c:iH)(f g:bj):bj:=λd S=>(c d S).bind λ(k,h)=>if k=true then f d h else g d h
def Mh(B:PT X c (tB (md X) h))(A:PE X a (tD (md X) f))(v:PE X b (tD (md X) g)):PE X (.IfExp c a b m) (tD (md X)<|sW h f g):=j2 (FF B A v) λC H Q x=>by
 let#[y,o,S,d,t,ok,e,q]:=x
 let#[#[u,s],z,e]:=aq e
 show#[y,o,S,u,s,ok,z,λk H1 l j=>?_]
 dsimp only at e
 split at e
 ·rename_i c
  rw[Qhq c]
  show#[k,o,s,d,t,ok.to l j,e,λn w H2 p i r=>q _ _ _ (l.trans p) i r]
 ·rename_i c
  rw[Quq c]
  show#[k,o,s,d,t,ok.to l j,e,λn w H2 p i r=>q _ _ _ (l.trans p) i r]
noncomputable def kL:uF:=λS x y=>match x,y with
 |.tup xs,.int i=>mO xs i
 |.str z,.int i=>if z.length<=sizeLine then(mO z.cps.toList i).map λc=>.str #[(List.toArray [c])] else none
 | .ref k,.int i=>match S[k]? with
   |some (.lst xs)=>mO xs i
   |some (.frz xs)=>mO xs i
   |_=>none
 |_,_=>none
def Iw{ys:List d}(h:mO xs i=some x)(l:xs.length=ys.length):∃j:Nat,xs[j]?=some x/\∀y,ys[j]?=some y->mO ys i=some y:=by
 unfold mO at h
 let#[j,e,h]:=aq h
 show#[j,h,λy f=>by unfold mO;rw[<-l,e];show f]
def bh.atI(h:bh M ρ H ds vs)(e:L2.mO ds i=some d):∃v,L2.mO vs i=some v/\Rel M ρ H d v:=by
 let#[j,k,f]:=Iw e h.length
 let#[v,l,g]:=h.get k
 show#[v,f v l,g]
def M6:kQ M (QQ M.K) kL:=by
 intro s S H x y d u v Q i l r e q
 cases r <;>cases l <;>erw[kL,reduceCtorEq] at e
 ·split at e
  ·let#[c,g,f]:=oQm.mp e
   subst f
   show .inr (.inr #[_,_,c,L,L,by assumption,g,q _ _ bS.refl i<|.str _])
  ·cases e
 ·rename_i h p
  let#[v,g,f]:=p.atI e
  show .inr (.inl #[_,_,_,v,L,L,iJ.of h,g,q _ _ bS.refl i f])
 ·rename_i h
  split at e
  ·let#[n,k,j]:=i.obj _ _ _ h (by assumption)
   let#[v,g,f]:=j.atI e
   show .inl #[_,_,_,v,L,L,i8.of k,g,q _ _ bS.refl i f]
  ·let#[n,o,k,j]:=i.obj _ _ _ h (by assumption)
   let#[v,g,f]:=j.atI e
   show .inl #[_,_,_,v,L,L,.inl (.inr #[o,k]),g,q _ _ bS.refl i f]
  ·cases e
def Kv(d:PE X a (tD (md X) f))(h:PE X b (tD (md X) g))(i:autoParam (Cv b) dL._auto_1):PE X (.Subscript a b m) (tD (md X)<|bp kL f g):=qG M6 (Ng Ly d h i)
inductive Tag where
 |tu|fr|st (k:Nat)|fz (k:Nat)
def AA(M:Md)(ρ:X7)(H:Hp)(a:X8)(vs:List V):Tag->Prop
 |.tu=>iJ M.K H a vs
 |.fr=>H a=some (.lst vs)/\a∉ρ
 |.st k=>ρ[k]?=some a/\H a=some (.lst vs)
 |.fz k=>ρ[k]?=some a/\∃o,H a=some (.frz o (.lst vs))
abbrev et:=cv->aE->Option ((List D×Tag)×aE)
def tQ(M:Md)(f:et):TE:=λj H Q=>∃g h S i t d,Ok M g h S j H/\f h S=some ((i,t),d)∧
 ∀b a e c,bS g H b c->fT M b d c->AA M b c a e t->bh M b c i e->Q (.ref a) c
def AA.sq(h:AA M ρ H a vs t):i8 M.K H a vs\/iJ M.K H a vs:=by
 cases t with
 |tu=>show .inr h
 |fr=>show .inl (i8.of h.1)
 |st k=>show .inl (i8.of h.2)
 |fz k=>let#[_,o,h]:=h;show .inl (.inl (.inr #[o,h]))
noncomputable def Tag.isL:Tag->Bool
 |.tu=>false
 |_=>true
noncomputable def Tag.isM:Tag->Bool
 |.fr=>true
 |.st _=>true
 |_=>false
def AA.sqL(h:AA M ρ H a vs t)(c:t.isL=true):i8 M.K H a vs:=by
 cases t with
 |tu=>cases c
 |fr=>show i8.of h.1
 |st k=>show i8.of h.2
 |fz k=>let#[_,o,h]:=h;show .inl (.inr #[o,h])
def AA.sqM(h:AA M ρ H a vs t)(c:t.isM=true):H a=some (.lst vs):=by
 cases t with
 |tu=>cases c
 |fr=>show h.1
 |st k=>show h.2
 |fz k=>cases c
def AA.sqT(h:AA M ρ H a vs t)(c:t.isL=false):iJ M.K H a vs:=by
 cases t with
 |tu=>show h
 |fr=>cases c
 |st k=>cases c
 |fz k=>cases c
def Tag.stays(S:aE)(ds:List D):Tag->Prop
 |.st k=>S[k]?=some (.lst ds)
 |.fz k=>S[k]?=some (.frz ds)
 |_=>True
def iJ.ext{K:X1}{ρ b:X7}{H c:Hp}{a:X8}{vs:List V}(e:bS ρ H b c)(h:iJ K H a vs):iJ K c a vs:=by
 rcases h with(h|⟨o,h⟩)|h
 ·show .inl (.inl (e.keep _ _ h<|.inr trivial))
 ·show .inl (.inr #[o,e.keep _ _ h<|.inr trivial])
 ·show .inr h
def AA.to(h:AA M ρ H a vs t)(r:bh M ρ H ds vs)(e:bS ρ H d i)(st:fT M d S i)(c:t.stays S ds):∃b,AA M d i a b t/\bh M d i ds b:=by
 cases t with
 |tu=>show#[vs,iJ.ext e h,r.ext e]
 |fr=>show#[vs,#[e.keep _ _ h.1<|.inl h.2,λm=>(e.new a m).elim h.2 λz=>by have f:=h.1;rw[z] at f;cases f],r.ext e]
 | st k=>
   let g:=cD e.pre h.1
   let#[b,f,j]:=st.obj k a _ g c
   show#[b,#[g,f],j]
 | fz k=>
   let g:=cD e.pre h.1
   let#[b,o,f,j]:=st.obj k a _ g c
   show#[b,#[g,o,f],j]
noncomputable def fM(f:gw):et:=λg S=>(f g S).bind λ(h,d)=>some ((h,.fr),d)
def Ri(h:PE X e (tL (md X) f)):PE X e (tQ (md X)<|fM f):=j2 h λz H Q l=>by
 let#[n,o,S,w,t,A,ok,e,q]:=l
 let#[#[d,u],r,e]:=aq e
 let#[i,rfl]:=bZ e
 let#[rfl,rfl]:=Prod.mk.inj i
 show#[n,o,S,d,u,ok,r,λg a v B x p y k s j=>q _ _ _ _ x p #[s,k] j]
noncomputable def tW(S:aE):D->Option (List D×Tag)
 |.tup d=>some (d,.tu)
 | .ref k=>match S[k]? with
   |some (.lst d)=>some (d,.st k)
   |some (.frz d)=>some (d,.fz k)
   |_=>none
 |_=>none
noncomputable def aS(f:bj):et:=λh S=>(f h S).bind λ(d,g)=>(tW g d).bind λp=>some (p,g)
def Hm(st:fT M ρ S H)(r:Rel M ρ H d v)(e:tW S d=some (ds,t)):∃a vs,v=.ref a/\AA M ρ H a vs t/\bh M ρ H ds vs:=by
 cases r with
 |tup h i=>erw[tW] at e;cases e;show#[_,_,L,iJ.of h,i]
 | ref h=>
   erw[tW] at e
   split at e
   · rename_i q
     cases e
     let#[vs,g,f]:=st.obj _ _ _ h q
     show#[_,vs,L,#[h,g],f]
   · rename_i q
     cases e
     let#[vs,o,g,f]:=st.obj _ _ _ h q
     show#[_,vs,L,#[h,o,g],f]
   · cases e
 |_=>erw[tW,reduceCtorEq] at e
def ON(h:PE X e (tD (md X) f)):PE X e (tQ (md X)<|aS f):=j2 h λA H Q l=>by
 let#[n,o,S,z,t,B,ok,e,q]:=l
 let#[#[d,u],p,e]:=aq e
 let#[#[k,w],j,e]:=aq e
 let#[s,rfl]:=bZ e
 let#[rfl,rfl]:=Prod.mk.inj s
 show#[n,o,S,d,u,ok,p,λi v C x g r=>?_]
 let#[a,y,rfl,h1,h2]:=Hm g r j
 show q _ _ _ _ x g h1 h2
def CJ(n:Gl X "len")(w:X.mg "len"=none)(z:PE X a (tQ (md X) f))(k:autoParam (starEach [a] X.env= [(false,eval a X.env)]) db._auto_1):
  PE X (.Call (.Name "len" p) [a] [] m) (tD (md X) λg S=>(f g S).bind λ(p,i)=>some (.int p.1.length,i)):=
 j2 (jM wF n w PySem.boot_len (cK z fu k) (he:=k)) λA H Q s=>by
  let#[u,g,S,d,B,ok,e,q]:=s
  let#[#[#[o,t],i],y,e]:=aq e
  let#[rfl,rfl]:=bZ e
  show#[u,g,S,o,t,i,ok,y,λl a j C x v h r=>#[a,j,L,h.sq,?_]]
  have:=q _ (.int j.length) _ x v (by rw[<-r.length];show .int _)
  show this
noncomputable def ee(f:et):bj:=λg S=>(f g S).bind λ(p,d)=>some (.int p.1.length,d)
noncomputable def tupQ(f:et):bj:=λg S=>(f g S).bind λ(p,d)=>some (.tup p.1,d)
def Oy(s:Gl X "tuple")(z:X.mg "tuple"=none)(A:PE X a (tQ (md X) f))(i:autoParam (starEach [a] X.env= [(false,eval a X.env)]) db._auto_1)(o:∀g S ds t j,f g S=some ((ds,t),j)->t.isL=true):
  PE X (.Call (.Name "tuple" p) [a] [] m) (tD (md X)<|tupQ f):=
 j2 (D8 uX s z (by rfl) (cK A fu i) (he:=i)) λC H Q v=>by
  let#[w,g,S,d,j,ok,e,q]:=v
  let#[#[#[ds,t],B],k,e]:=aq e
  let#[rfl,rfl]:=bZ e
  show#[w,g,S,ds,t,B,ok,k,λn a u F x y h r=>#[a,u,L,.inl #[h.sqL<|o _ _ _ _ _ k,λl hl=>?_]]]
  show q _ _ _ (x.trans<|bS.laid hl) (y.lay hl)<|.tup bx (r.ext<|bS.laid hl)
def Oo:∀g S ds t d,fM f g S=some ((ds,t),d)->t.isL=true:=λg S ds t d e=>by
 let#[#[h,j],i,e]:=aq e
 cases e
 rfl
noncomputable def dC(f:et):et:=λg S=>(f g S).bind λ(p,d)=>if p.2.isL=true then some (p,d) else none
def JI:∀g S ds t d,dC f g S=some ((ds,t),d)->t.isL=true:=λg S ds t d e=>by
 let#[#[#[h,k],j],i,e]:=aq e
 dsimp only at e
 split at e <;>cases e
 assumption
def QB(h:PE X e (tQ (md X) f)):PE X e (tQ (md X)<|dC f):=j2 h λs H Q i=>by
 let#[j,o,S,r,t,p,ok,e,q]:=i
 let#[#[#[d,n],l],g,e]:=aq e
 dsimp only at e
 split at e
 ·let#[k,rfl]:=bZ e
  let#[rfl,rfl]:=Prod.mk.inj k
  show#[j,o,S,d,n,l,ok,g,q]
 ·cases e
noncomputable def lD:List D->Option (List Bool)
 | []=>some []
 |.bl b::r=>(lD r).bind λd=>some (b::d)
 |_::_=>none
theorem Gu:∀{ds:List D} {vs:List V} {bs:List Bool},bh M ρ H ds vs->lD ds=some bs->vs=bs.map V.bl
 | [],_,_,h,e=>by cases h;cases e;rfl
 | d::ds,_,_,h,e=>by
   cases d with
   | bl b=>
     erw[lD] at e
     let#[g,f,e]:=aq e
     cases e
     cases h with
     | cons h i=>
       cases h
       rw[Gu i f]
       rfl
   |_=>cases e
noncomputable def Hu(f:et):bj:=λg S=>(f g S).bind λ(p,d)=>if p.2.isL=true then(lD p.1).bind λh=>some (.bl (h.all id),d) else none
def QP{X:Cx}(B:X.calm=true)(k:Gl X "all")(w:X.mg "all"=none)(z:PE X a (tQ (md X) f))(g:autoParam (starEach [a] X.env= [(false,eval a X.env)]) db._auto_1):
  PE X (.Call (.Name "all" p) [a] [] m) (tD (md X)<|Hu f):=
 j2 (jM (DH B) k w (by rfl) (cK z fu g) (he:=g)) λF H Q o=>by
  let#[s,u,S,d,G,ok,e,q]:=o
  let#[#[#[l,t],A],y,e]:=aq e
  dsimp only at e
  split at e
  ·rename_i c
   let#[j,n,e]:=aq e
   let#[rfl,rfl]:=bZ e
   show#[s,u,S,l,t,A,ok,y,λi a C I x v h r=>#[a,j,L,?_,q _ _ _ x v<|.bl _]]
   rw[<-Gu r n]
   show h.sqL c
  ·cases e
noncomputable def uc(S:aE)(T:String):D->Option Bool
 |.non=>some (T=="NoneType")
 |.bl _=>some (T=="bool" ||T=="int")
 |.int _=>some (T=="int")
 |.str _=>some (T=="str")
 |.tup _=>some (T=="tuple")
 | .ref k=>match S[k]? with
   |some (.lst _)=>some (T=="list")
   |some (.frz _)=>some (T=="list")
   |some (.dct _)=>some (T=="dict")
   |_=>none
 |.fn _=>none
def EL(K:X1)(T:String):Prop:=(PySem.W.kitOne K (.type "NoneType") (.type T)=some (T=="NoneType"))/\(PySem.W.kitOne K (.type "bool") (.type T)=some (T=="bool" ||T=="int"))/\(PySem.W.kitOne K (.type "int") (.type T)=some (T=="int"))/\(PySem.W.kitOne K (.type "str") (.type T)=some (T=="str"))∧
 (PySem.W.kitOne K (.type "tuple") (.type T)=some (T=="tuple"))/\(PySem.W.kitOne K (.type "list") (.type T)=some (T=="list"))/\(PySem.W.kitOne K (.type "dict") (.type T)=some (T=="dict"))
noncomputable def oH(T:String)(f:bj):bj:=λh S=>(f h S).bind λ(d,g)=>(uc g T d).bind λk=>some (.bl k,g)
def Qh{X:Cx}{T:String}(G:EL X.K T)(C:Gl X "isinstance")(U:X.mg "isinstance"=none)(Z:PE X a (tD (md X) f))(B:PE X l (tC<|.ty T))(u:autoParam (starEach [a,l] X.env= [(false,eval a X.env),(false,eval l X.env)]) db._auto_1)(j:autoParam (starEach [l] X.env= [(false,eval l X.env)]) db._auto_1):
  PE X (.Call (.Name "isinstance" p) [a,l] [] m) (tD (md X)<|oH T f):=
 j2 (jM EG C U boot_isinstance (cK Z (cK B fu j) (by rw[u,j])) (he:=by rw[u,j]) (hpl:=by rw[j];rfl)) λσ H Q M=>by
  let#[N,R,S,d,S',ok,e,q]:=M
  let#[#[P,S1],Y,e]:=aq e
  let#[k,i,e]:=aq e
  let#[rfl,rfl]:=bZ e
  let#[z,W,I,k4,J,y,F]:=G
  show#[N,R,S,P,S1,ok,Y,λA v H' x t r=>?_]
  let g:=q _ _ _ x t (.bl _)
  cases r with
  |non=>cases i;show#[_,_,_,_,L,.non,z,g]
  |bl=>cases i;show#[_,_,_,_,L,.bl _,W,g]
  |int=>cases i;show#[_,_,_,_,L,.int _,I,g]
  |str=>cases i;show#[_,_,_,_,L,.str _,k4,g]
  |tup h u=>cases i;show#[_,_,_,_,L,.tup h,J,g]
  |fn=>cases i
  | ref h=>
    erw[uc] at i
    split at i
    · rename_i s;cases i;let#[w,n,_]:=t.obj _ _ _ h s;show#[_,_,_,_,L,.lst n,y,g]
    · rename_i s;cases i;let#[w,o,n,_]:=t.obj _ _ _ h s;show#[_,_,_,_,L,.frz n,y,g]
    · rename_i s;cases i;let#[w,n,_]:=t.obj _ _ _ h s;show#[_,_,_,_,L,.dK n,F,g]
    · cases i
abbrev JP:=List D->Option D
def EB(M:Md)(r:List V->Hp->VK->Prop)(o:JP):Prop:=∀{f:X7} {S:aE} {H:Hp} {h:List D} {d:D} {g:List V} {Q:VK},fT M f S H->bh M f H h g->o h=some d->(∀w,Rel M f H d w->Q w H)->r g H Q
noncomputable def Cp(o:JP)(f:gw):bj:=λi S=>(f i S).bind λ(h,g)=>(o h).bind λd=>some (d,g)
def P4(l:EB (md X) r o)(h:PE X e (NW r<|x_ (md X) f)):PE X e (tD (md X)<|Cp o f):=j2 h λB H Q n=>by
 let#[p,t,S,d,C,ok,e,q]:=n
 let#[#[s,x],u,e]:=aq e
 let#[A,v,e]:=aq e
 let#[rfl,rfl]:=bZ e
 show#[p,t,S,s,x,ok,u,λi z H1 y g k=>l g k v λw j=>q i w H1 y g j]
noncomputable def GL:JP
 | [.int i]=>some (.int (if i<0 then -i else i))
 |_=>none
noncomputable def maxD:JP
 | [.int i,.int j]=>some (.int (if j>i then j else i))
 |_=>none
noncomputable def minD:JP
 | [.int i,.int j]=>some (.int (if j<i then j else i))
 |_=>none
noncomputable def intOfD:JP
 | [.int i]=>some (.int i)
 | [.bl k]=>some (.int (if k then 1 else 0))
 |_=>none
def Pf:EB M (λxs H Q=>∃i,xs= [.int i]/\Q (.int (if i<0 then -i else i)) H) GL:=by
 intro h S H xs d g Q j r e q
 unfold GL at e
 split at e <;>cases e
 cases r with|cons r f=>cases f;cases r;show#[_,L,q _<|.int _]
def PY:EB M (λxs H Q=>∃i j,xs= [.int i,.int j]/\Q (.int (if j>i then j else i)) H) maxD:=by
 intro k S H xs d h Q l r e q
 unfold maxD at e
 split at e <;>cases e
 cases r with|cons r f=>cases f with|cons g f=>cases f;cases r;cases g;show#[_,_,L,q _<|.int _]
def PK:EB M (λxs H Q=>∃i j,xs= [.int i,.int j]/\Q (.int (if j<i then j else i)) H) minD:=by
 intro k S H xs d h Q l r e q
 unfold minD at e
 split at e <;>cases e
 cases r with|cons r f=>cases f with|cons g f=>cases f;cases r;cases g;show#[_,_,L,q _<|.int _]
def MU:EB M (λxs H Q=>(∃i,xs= [.int i]/\Q (.int i) H)\/∃k,xs= [.bl k]/\Q (.int (if k then 1 else 0)) H) intOfD:=by
 intro h S H xs d g Q j r e q
 unfold intOfD at e
 split at e <;>cases e
 ·cases r with|cons r f=>cases f;cases r;show .inl #[_,L,q _<|.int _]
 ·cases r with|cons r f=>cases f;cases r;show .inr #[_,L,q _<|.int _]
noncomputable def iG:List D->Option (List V)
 | []=>some []
 |d::r=>(xn d).bind λv=>(iG r).bind λf=>some (v::f)
def sP(e:xn d=some v):gW v=true:=by
 cases d <;>simp[xn] at e <;>subst e <;>rfl
theorem l9:∀{ds:List D} {d vs:List V},bh M ρ H ds d->iG ds=some vs->d=vs/\vs.all gW=true
 |_,_,_,.nil,e=>by cases e;show#[L,L]
 | _,_,_,.cons h hs,e=>by
   let#[v,f,e]:=aq e
   let#[vs,j,e]:=aq e
   cases e
   let#[i,g]:=l9 hs j
   rw[nQ h f,i]
   show#[L,by rw[List.all_cons,sP f,g];rfl]
noncomputable def GZ(d:Bool)(f:bj)(g:et):bj:=λi S=>(f i S).bind λ(x,k)=>(g i k).bind λ(p,j)=>(xn x).bind λv=>(iG p.1).bind λh=>some (.bl (if d then !FI v h else FI v h),j)
def kT{t:TE}(g:∀d H Q,tD (md X) f d H Q->t d H Q)(h:PT X e (FG t)):PT X e (tB (md X)<|aJ f):=OJ h λd H Q ⟨j,n,S,k,i,ok,e,q⟩=>
 g _ _ _ #[j,n,S,.bl k,i,ok,tR e,λl v p x o r=>by cases r;show#[k,L,q _ _ x o]]
def JL:∀l H Q,tD (md X) (GZ h f g) l H Q->G1 (Pu X.K h) (tD (md X) f) (tQ (md X) g) l H Q:=λl H Q F=>by
 let#[G,n,S,d,W,ok,e,q]:=F
 let#[#[x,p],P,e]:=aq e
 let#[#[#[A,t],C],B,e]:=aq e
 let#[v,o,e]:=aq e
 let#[U,R,e]:=aq e
 let#[rfl,rfl]:=bZ e
 show#[G,n,S,x,p,ok,P,λk u H1 r i w=>#[k,n,p,A,t,C,ok.to r i,B,λy a N H2 J j s M=>?_]]
 cases nQ w o
 let#[I,z]:=l9 M R
 subst I
 show#[a,N,L,s.sq,sP o,z,q _ _ _ (r.trans J) j<|.bl _]
def Rb(h:PE X a (tD (md X) f))(i:PE X b (tQ (md X) g))(d:autoParam (behindInMarks .In b=false) db._auto_1):PT X (.Compare a [.In] [b] m) (tB (md X)<|aJ<|GZ false f g):=kT JL (mq Ea h i d)
def OA(h:PE X a (tD (md X) f))(i:PE X b (tQ (md X) g))(d:autoParam (behindInMarks .NotIn b=false) db._auto_1):PT X (.Compare a [.NotIn] [b] m) (tB (md X)<|aJ<|GZ true f g):=kT JL (mq vU h i d)
inductive Out where
 |nx (Γ:cv) (S:aE)|bk (Γ:cv) (S:aE)|ct (Γ:cv) (S:aE)|rt (d:D) (S:aE)|rl (ds:List D) (S:aE)
abbrev cO:=cv->aE->Option Out
def xx(M:Md)(ρ:X7)(H:Hp)(D:Ends):Out->Prop
 |.nx f g=>∀b e c,bS ρ H b c->Ok M b f g e c->D.nx e c
 |.bk f g=>∀b e c,bS ρ H b c->Ok M b f g e c->D.bk e c
 |.ct f g=>∀b e c,bS ρ H b c->Ok M b f g e c->D.ct e c
 |.rt d g=>∀b v c,bS ρ H b c->fT M b g c->Rel M b c d v->D.rt v c
 |.rl i g=>∀b a h c,bS ρ H b c->fT M b g c->H a=none->a∉b->c a=some (.lst h)->bh M b c i h->D.rt (.ref a) c
def xx.to{H H1:Hp}{D:Ends}(h:xx M ρ H D o)(e:bS ρ H c H1):xx M c H1 D o:=by
 cases o with
 |nx=>show λb d f x ok=>h _ _ _ (e.trans x) ok
 |bk=>show λb d f x ok=>h _ _ _ (e.trans x) ok
 |ct=>show λb d f x ok=>h _ _ _ (e.trans x) ok
 |rt=>show λb v f x g r=>h _ _ _ (e.trans x) g r
 |rl=>show λb a l f x g i j k r=>h _ _ _ _ (e.trans x) g (e.grow _ i) j k r
def tS(M:Md)(g:cO):TS:=λD c H=>∃a b S o,Ok M a b S c H/\g b S=some o/\xx M a H D o
noncomputable def fE:cO:=λd S=>some (.nx d S)
def Nn:qY X [] (tS (md X) fE):=Nl Hk λD g H ⟨d,f,S,o,ok,e,q⟩=>by cases e;show q _ _ _ bS.refl ok
noncomputable def aD(f g:cO):cO:=λi S=>(f i S).bind λo=>match o with
 |.nx d h=>g d h
 |o=>some o
def iE{X:Cx}{st:Stmt}{C:List Stmt}{f g:cO}(l:PS X st (tS (md X) f))(k:qY X C (tS (md X) g)):qY X (st::C) (tS (md X)<|aD f g):=Nl (Eu l k) λD v H n=>by
 let#[p,r,S,o,ok,e,q]:=n
 let#[j,s,e]:=aq e
 show#[p,r,S,j,ok,s,?_]
 cases j with
 |nx i t=>show λd m H1 u h=>#[d,i,t,o,h,e,q.to u]
 |bk=>cases e;show q
 |ct=>cases e;show q
 |rt=>cases e;show q
 |rl=>cases e;show q
def vK{X:Cx}{st:Stmt}{f:cO}(d:PS X st (tS (md X) f)):qY X [st] (tS (md X) f):=Hh d
noncomputable def never:cO:=λ_ _=>none
def On{X:Cx}{st:Stmt}:PS X st (tS (md X) never):=Aj EF λD g H ⟨d,f,S,o,ok,e,q⟩=>by cases e
noncomputable def tH(f:bj):cO:=λd S=>(f d S).bind λ(_,g)=>some (.nx d g)
def Bs{y:Pos}(h:PE X e (tD (md X) f))(l:autoParam (swapsWith e none y.line X.env=pure false) db._auto_1):PS X (.Expr e y) (tS (md X)<|tH f):=Aj (HX h l) λD p H i=>by
 let#[j,k,S,o,ok,e,q]:=i
 let#[#[d,n],m,e]:=aq e
 cases e
 show#[j,k,S,d,n,ok,m,λg v s x st r=>q _ _ _ x<|ok.to x st]
noncomputable def cB(f:bj):cO:=λh S=>(f h S).bind λ(d,g)=>some (.rt d g)
def Jt(h:PE X e (tD (md X) f)):PS X (.Return (some e) y) (tS (md X)<|cB f):=Aj (E1 h) λD m H i=>by
 let#[j,l,S,o,ok,e,q]:=i
 let#[#[d,k],g,e]:=aq e
 cases e
 show#[j,l,S,d,k,ok,g,q]
noncomputable def JE(f:gw):cO:=λg S=>(f g S).bind λ(h,d)=>some (.rl h d)
def Px(h:PE X e (tL (md X) f)):PS X (.Return (some e) y) (tS (md X)<|JE f):=Aj (E1 h) λD m H i=>by
 let#[j,l,S,o,ok,e,q]:=i
 let#[#[d,k],g,e]:=aq e
 cases e
 show#[j,l,S,d,k,ok,g,q]
noncomputable def eY(c:iH)(f g:cO):cO:=λd S=>(c d S).bind λ(k,h)=>if k=true then f d h else g d h
def OO(u:PT X c (tB (md X) h))(t:qY X z (tS (md X) f))(n:qY X B (tS (md X) g)):PS X (.If c z B y) (tS (md X)<|eY h f g):=Aj (N9 u t n) λD v H p=>by
 let#[r,l,S,o,ok,e,q]:=p
 let#[#[k,m],s,e]:=aq e
 show#[r,l,S,k,m,ok,s,λi H1 j d=>?_]
 dsimp only at e
 split at e
 ·rename_i c
  rw[Qhq c]
  show#[i,l,m,o,ok.to j d,e,q.to j]
 ·rename_i c
  rw[Quq c]
  show#[i,l,m,o,ok.to j d,e,q.to j]
abbrev me:=D->cv->aE->Option (cv×aE)
abbrev rQ:=List D->cv->aE->Option (cv×aE)
def tG(M:Md)(g:me):TG:=λv n H Q=>∃j m S d f l,Ok M j m S n H/\Rel M j H d v/\g d m S=some (f,l)/\∀h i k,bS j H h k->Ok M h f l i k->Q i k
def N5(M:Md)(g:rQ):Io:=λn o H Q=>∃i l S m f k,Ok M i l S o H/\bh M i H m n/\g m l S=some (f,k)/\∀h d j,bS i H h j->Ok M h f k d j->Q d j
def Pq{t t':TG}(h:PG X e t)(w:∀v f H Q,t' v f H Q->t v f H Q):PG X e t':=λd s f H v u Q I r q=>h d s f H v u Q I r (w _ _ _ _ q)
def Mn{t t':Io}(h:EM X es t)(w:∀v f H Q,t' v f H Q->t v f H Q):EM X es t':=λd s f H v u Q I r q=>h d s f H v u Q I r (w _ _ _ _ q)
noncomputable def bD(i:Nat):me:=λd f S=>some (f.set i<|some d,S)
def GN(h:PG X e (oD i)):PG X e (tG (md X)<|bD i):=Pq h λv m H Q f=>by
 let#[k,l,S,d,g,j,ok,r,e,q]:=f
 cases e
 show q _ _ _ bS.refl #[ok.en.set r,ok.st]
noncomputable def cW:rQ:=λd f S=>match d with
 | []=>some (f,S)
 |_=>none
noncomputable def aH(f:me)(g:rQ):rQ:=λk j S=>match k with
 |d::r=>(f d j S).bind λ(h,i)=>g r h i
 | []=>none
def KH:EM X [] (N5 (md X) cW):=Mn Iu λh l H Q d=>by
 let#[i,j,S,k,f,g,ok,r,e,q]:=d
 cases r with
 |nil=>cases e;show#[L,q _ _ _ bS.refl ok]
 |cons=>cases e
def CK(p:PG X e (tG (md X) f))(n:EM X es (N5 (md X) g))(x:autoParam ((assignEach (e::es) X.env).map (·.2)=assign e X.env::(assignEach es X.env).map (·.2)) db._auto_1):EM X (e::es) (N5 (md X)<|aH f g):=
 Mn (GM p n x) λJ M H Q u=>by
  let#[v,w,S,K,k,F,ok,r,e,q]:=u
  cases r with
  |nil=>cases e
  | cons r s=>
    let#[#[d,l],G,e]:=aq e
    show#[_,_,L,v,w,S,_,d,l,ok,r,G,λi t H1 m j=>#[i,d,l,_,k,F,j,s.ext m,e,λo I H2 A h=>q _ _ _ (m.trans A) h]]
noncomputable def g9(g:rQ):me:=λd f S=>match d with
 |.tup h=>g h f S
 |_=>none
noncomputable def nG(n:Nat)(g:rQ):rQ:=λd f S=>if d.length=n then g d f S else none
def MX{X:Cx}(s:X.calm=true)(h:EM X es (N5 (md X) g))(o:autoParam ((assignEach es X.env).length=n) db._auto_1)(f:autoParam ((assignEach es X.env).findIdx? (·.1)=none) db._auto_1):
  PG X (.Tuple es k y) (tG (md X)<|g9<|nG n g):=Pq (Lq s h o f) λv t H Q ⟨l,m,S,d,i,p,ok,r,e,q⟩=>by
 cases r with
 | tup h j=>
   erw[g9,nG] at e
   split at e
   · rename_i c
     show#[_,_,L,iJ.of h,by rw[<-j.length];show c,l,m,S,_,i,p,ok,j,e,q]
   · cases e
 |_=>cases e
noncomputable def lK(f:bj)(g:me):cO:=λi S=>(f i S).bind λ(d,k)=>(g d i k).bind λ(h,j)=>some (.nx h j)
def Ma:∀D k H,tS (md X) (lK f g) D k H->Df (tD (md X) f) (tG (md X) g) D k H:=λD k H w=>by
 let#[x,m,S,o,ok,e,q]:=w
 let#[#[d,n],F,e]:=aq e
 let#[#[l,u],t,e]:=aq e
 cases e
 show#[x,m,S,d,n,ok,F,λj v H1 p h r=>#[j,m,n,d,l,u,ok.to p h,r,t,λs G H2 A i=>q _ _ _ (p.trans A) i]]
def Me{y:Pos}(he:PE X e (tD (md X) f))(k:PG X d (tG (md X) g))(j:autoParam (swapsWithSole [d] e y.line X.env=pure false) db._auto_1)(h:autoParam (swappedStores [d] e X.env=pure none) db._auto_1)
  (i:autoParam ((assignEach [d] X.env).map (·.2)= [assign d X.env]) db._auto_1):PS X (.Assign [d] e y) (tS (md X)<|lK f g):=Aj (KG he k j h i) Ma
noncomputable def aV(i:Nat)(f:bj):cO:=λg S=>(f g S).bind λ(d,h)=>some (.nx (g.set i<|some d) h)
def NU{X:Cx}{st:Stmt}{i:Nat}{f:bj}(h:PS X st (Df (tD (md X) f)<|oD i)):PS X st (tS (md X)<|aV i f):=Aj h λD t H m=>by
 let#[n,p,S,o,ok,e,q]:=m
 let#[#[d,s],r,e]:=aq e
 cases e
 show#[n,p,S,d,s,ok,r,λl v H1 j g k=>q _ _ _ j #[(ok.en.ext j).set k,g]]
abbrev sE:=cv->aE->Option ((List D×(aE->Prop))×aE)
def Walks(M:Md)(J:It)(ρ:X7)(H:Hp)(ds:List D)(W:aE->Prop):Prop:=∀(i:Nat) (f:X7) (j:aE) (h:Hp),bS ρ H f h->fT M f j h->W j->
 (∀d,ds[i]?=some d->J.go i h/\∀x g,J.yld i h x g->bS f h f g/\fT M f j g/\Rel M f g d x)/\(i=ds.length->J.stop i h)
def tI(M:Md)(f:sE):TI:=λl H R=>∃i j S k W h,Ok M i j S l H/\f j S=some ((k,W),h)/\∀d J g,bS i H d g->fT M d h g->Walks M J d g k W->R J g
def N8{t t':TI}(h:PI X g e t)(w:∀f H R,t' f H R->t f H R):PI X g e t':=λd s f H R I q=>h d s f H R I (w _ _ _ q)
def Lm(hl:PE X l r):PI X A l (λn H R=>r n H λx H1=>∃a,x=.ref a/\((∃xs,i8 X.K H1 a xs)/\R (Qm X.K a) H1\/(∃xs,iJ X.K H1 a xs)/\R (QJ X.K a) H1)):=by
 intro i s n H R I h
 show cE (hl i s n H _ I h) λv d F=>?_
 let#[x,H1,f,t,m]:=F
 let#[a,e,m]:=m
 subst e
 cases t
 rcases m with⟨⟨xs,k⟩,q⟩|⟨⟨xs,k⟩,q⟩
 ·let#[g,u,p,w]:=f.list k
  show wpAny_pyIter_list p.isList ?_
  show#[d.heap.objs.size,[d.heap.objs.size],_,_,H1,L,f.kept (t':=d.toks) λb o e=>Qcq _ e,DN a _,#[_,Qrq _ L,L,L],λb j=>?_,q]
  have e:b=d.heap.objs.size:=by simpa using j
  subst e
  show f.fpOk (Qmq _)<|f.hok.fresh<|Qmq _
 ·let#[g,u,p,w]:=f.tuple k
  show wpAny_pyIter_tuple (show d.heap.IsTuple a g.toArray from p) ?_
  show#[d.heap.objs.size,[d.heap.objs.size],_,_,H1,L,f.kept (t':=d.toks) λb o e=>Qcq _ e,Bm a _,#[_,Qrq _ L,L,L],λb j=>?_,q]
  have e:b=d.heap.objs.size:=by simpa using j
  subst e
  show f.fpOk (Qmq _)<|f.hok.fresh<|Qmq _
noncomputable def ki(f:et):sE:=λh S=>(f h S).bind λ(p,g)=>some ((p.1,λd=>p.2.stays d p.1),g)
def N7{X:Cx}{P l:Expr}{f:et}(hl:PE X l (tQ (md X) f)):PI X P l (tI (md X)<|ki f):=N8 (Lm hl) λσ H R Q=>by
 let#[U,Y,S,ds,W,S',ok,e,q]:=Q
 let#[#[#[A,t],S1],Z,e]:=aq e
 let#[M,rfl]:=bZ e
 let#[rfl,rfl]:=Prod.mk.inj M
 show#[U,Y,S,A,t,S1,ok,Z,λK a J H' x st h r=>#[a,L,?_]]
 cases c:t.isL with
 | true=>
   show .inl #[#[J,h.sqL c],q _ _ _ x st λi s N H2 G j w=>?_]
   let#[g,u,n]:=h.to r G j w
   let k:=u.sqL c
   show#[λd p=>?_,λI=>#[g,k,by rw[I,n.length];show Qmq _]]
   let#[v,o,F]:=n.get p
   show#[#[g,v,k,o],λx H3 m=>?_]
   let#[rfl,m]:=m
   have:=m g k
   rw[o] at this
   cases this
   show#[bS.refl,j,F]
 | false=>
   show .inr #[#[J,h.sqT c],q _ _ _ x st λi s N H2 G j w=>?_]
   let#[g,u,n]:=h.to r G j w
   let k:=u.sqT c
   show#[λd p=>?_,λI=>#[g,k,by rw[I,n.length];show Qmq _]]
   let#[v,o,F]:=n.get p
   show#[#[g,v,k,o],λx H3 m=>?_]
   let#[rfl,m]:=m
   have:=m g k
   rw[o] at this
   cases this
   show#[bS.refl,j,F]
noncomputable def jt(lo hi:Int):List D:=(List.range (hi-lo).toNat).map λ(i:Nat)=>D.int (lo+(i:Int))
noncomputable def j9(f:bj):sE:=λh S=>(f h S).bind λ(d,g)=>match d with
 |.int j=>if -(2^62)<=j/\j<2^62 then some ((jt 0 j,λ_=>True),g) else none
 |_=>none
def va{M:Md}{ρ:X7}{H:Hp}{lo hi:Int}:Walks M (Nz lo (hi-lo).toNat) ρ H (jt lo hi) (λ_=>True):=λi j n H2 o f w=>by
 unfold jt
 show#[λd g=>?_,λhi=>by rw[lQm,QVq] at hi;show Nat.le_of_eq hi.symm]
 rw[gQm] at g
 let#[k,l,rfl]:=oQm.mp g
 let hl:=(gQs.mp l)
 let#[hl,h]:=hl
 rw[List.getElem_range] at h
 subst h
 rw[QVq] at hl
 show#[hl,λx H3 m=>?_]
 let#[rfl,rfl]:=m
 show#[bS.refl,f,.int _]
def OT(k:Gl X "range")(t:X.mg "range"=none)(v:PE X a (tD (md X) f))(h:autoParam (starEach [a] X.env= [(false,eval a X.env)]) db._auto_1):PI X n (.Call (.Name "range" p) [a] [] y) (tI (md X)<|j9 f):=
 N8 (Ei k t (dg v kK h) h) λI H R o=>by
  let#[ρ,s,S,G,W,J,ok,e,q]:=o
  let#[#[d,w],u,e]:=aq e
  dsimp only at e
  split at e
  ·rename_i j
   split at e
   ·rename_i i
    let#[l,rfl]:=bZ e
    let#[rfl,rfl]:=Prod.mk.inj l
    show#[ρ,s,S,[.int j],w,ok,by unfold ar av;rw[u];rfl,λg F A x st r=>?_]
    cases r with
    | cons r m=>
      cases m
      cases r
      show#[j,L,i.1,i.2,q _ _ _ x st ?_]
      have:=va (M:=md X) (ρ:=g) (H:=A) (lo:=0) (hi:=j)
      rw[Int.sub_zero] at this
      show this
   ·cases e
  ·cases e
noncomputable def I0(f g:bj):sE:=λh S=>(f h S).bind λ(d,m)=>(g h m).bind λ(l,k)=>match d,l with
 |.int i,.int j=>if -(2^62)<=i/\i<2^62/\ -(2^62)<=j/\j<2^62 then some ((jt i j,λ_=>True),k) else none
 |_,_=>none
def Qa{X:Cx}{y:Pos}{w a b:Expr}{f g:bj}{p:Pos}(t:Gl X "range")(I:X.mg "range"=none)(N:PE X a (tD (md X) f))(s:PE X b (tD (md X) g))(l:autoParam (starEach [a,b] X.env= [(false,eval a X.env),(false,eval b X.env)]) db._auto_1)(h:autoParam (starEach [b] X.env= [(false,eval b X.env)]) db._auto_1):PI X w (.Call (.Name "range" p) [a,b] [] y) (tI (md X)<|I0 f g):=
 N8 (Du t I (dg N (dg s kK h) (by rw[l,h])) l h) λU H R A=>by
  let#[F,G,S,Q,W,Y,ok,e,q]:=A
  let#[#[d,Z],J,e]:=aq e
  let#[#[m,v],u,e]:=aq e
  cases d with
  | int i=>
    cases m with
    | int j=>
      dsimp only at e
      split at e
      · rename_i M
        let#[K,rfl]:=bZ e
        let#[rfl,rfl]:=Prod.mk.inj K
        show#[F,G,S,[.int i,.int j],v,ok,by erw[ar,av,J,Qbq,u],λo P H' x st r=>?_]
        cases r with
        | cons r k=>
          cases k with
          | cons n k=>
            cases k
            cases r
            cases n
            show#[i,j,L,M,q _ _ _ x st va]
      · cases e
    |_=>cases e
  |_=>cases e
open Classical in
def forL(g:me)(b:cO)(W:aE->Prop):List D->cv->aE->Option Out
 | [],Γ,S=>if W S then some (.nx Γ S) else none
 |d ::ds,Γ,S=>if W S then(g d Γ S).bind λ(i,j)=>(b i j).bind λo=>match o with
    |.nx f h=>forL g b W ds f h
    |.ct f h=>forL g b W ds f h
    |.bk f h=>some (.nx f h)
    |.rt x h=>some (.rt x h)
    |.rl x h=>some (.rl x h)
  else none
def jy(i:sE)(g:me)(b:cO):cO:=λd S=>(i d S).bind λ(p,f)=>forL g b p.2 p.1 d f
def NO{X:Cx}(hp:PassesOwn (model X.prog X.w) X.A X.env X.xe)(hc:X.calm=true)(hi:PI X tg j (tI (md X) i))(hg:PG X tg (tG (md X) g))(hb:qY X z (tS (md X) f))
  (hs:autoParam (∀x,foldedSetIterable j X.env x=pure x) dl._auto_1):PS X (.For tg j z [] y) (tS (md X)<|jy i g f):=Aj (KZ hp hc hi hg hb hs) λD σ H ⟨ρ,Γ,S,o,ok,e,q⟩=>by
 let#[#[#[h,W],S1],e1,e]:=aq e
 show#[ρ,Γ,S,h,W,S1,ok,e1,λu J H1 x1 a3 wk=>?_]
 let U:=q.to x1
 let Y:=ok.to x1 a3
 show#[λi m t I=>m=h.length-i/\i<=h.length/\∃d r G,bS u H1 d I/\Ok (md X) d r G t I/\forL g f W (h.drop i) r G=some o,#[h.length,by simp,Nat.zero_le _,u,Γ,S1,bS.refl,Y,e],?_]
 rintro i m a5 H2 ⟨rfl,hi,d,r,G,x2,ok2,e2⟩
 by_cases v:i<h.length
 ·have hd:h[i]?=some h[i]:=gQe v
  rw[QWq v] at e2
  unfold forL at e2
  split at e2
  ·rename_i w
   let#[w1,w2]:=wk i d G H2 x2 ok2.st w
   let#[go,Z]:=w1 _ hd
   show .inr #[go,λt I=>∃n p R,bS u H1 n I/\Ok (md X) n p R t I/\forL g f W (h.drop (i+1)) p R=some o,λt I ⟨n,p,R,h1,h2,h3⟩=>#[h.length-(i+1),by omega,L,v,n,p,R,h1,h2,h3],λx H3 hy=>?_]
   let#[x3,a0,r3]:=Z x H3 hy
   let#[#[M,S4],e4,e5]:=aq e2
   show#[d,r,G,_,M,S4,ok2.to x3 a0,r3,e4,λa1 a4 H4 x4 a2=>?_]
   let#[o5,e6,K]:=aq e5
   let N:=(x2.trans x3).trans x4
   show#[a1,M,S4,o5,a2,e6,?_]
   cases o5 with
   |nx s F=>show λl P H6 Q k=>#[l,s,F,N.trans Q,k,K]
   |ct s F=>show λl P H6 Q k=>#[l,s,F,N.trans Q,k,K]
   |bk s F=>cases K;show λl P H6 Q k=>U _ _ _ (N.trans Q) k
   |rt d6 F=>cases K;show U.to N
   |rl d6 F=>cases K;show U.to N
  ·cases e2
 ·have e3:i=h.length:=by omega
  subst e3
  rw[List.drop_length] at e2
  unfold forL at e2
  split at e2
  ·rename_i w
   cases e2
   let#[w1,w2]:=wk h.length d G H2 x2 ok2.st w
   show .inl #[w2 L,U _ _ _ x2 ok2]
  ·cases e2
mutual
theorem Rel.off{H:Hp}(a:H b=some (.lst f)):∀{d:D} {v:V},Rel M ρ H d v->Rel M ρ (upd H b<|.lst ws) d v
 |_,_,.non=>.non
 |_,_,.bl x=>.bl x
 |_,_,.int i=>.int i
 |_,_,.str x=>.str x
 |_,_,.tup h hs=>.tup (by rw[aU (ED h a (by intro z;cases z))];show h) (bh.off a hs)
 |_,_,.ref h=>.ref h
 |_,_,.fn h=>.fn h
theorem bh.off{H:Hp}(a:H b=some (.lst f)):∀{ds:List D} {vs:List V},bh M ρ H ds vs->bh M ρ (upd H b<|.lst ws) ds vs
 |_,_,.nil=>.nil
 |_,_,.cons h hs=>.cons (Rel.off a h) (bh.off a hs)
end
theorem fT.off(st:fT M ρ S H)(e:H b=some (.lst f))(n:b∉ρ):fT M ρ S (upd H b (.lst ws)):=⟨st.len,st.nd,λk a o l s=>by
 let q:=st.obj k a o l s
 have g:a≠b:=λz=>n (z▸mQg l)
 cases o with
 |lst m=>let#[h,c,d]:=q;show#[h,by rw[aU g];show c,d.off e]
 |frz m=>let#[h,o,c,d]:=q;show#[h,o,by rw[aU g];show c,d.off e]
 |dct p=>let#[w,c,d]:=q;show#[w,by rw[aU g];show c,d.imp λ_ _ r=>r.off e]
 |sett m=>let#[t,u,c,d,i]:=q;show#[t,u,by rw[aU g];show c,d.off e,i]
 |dctN x h=>let#[j,c,d,i,v]:=q;show#[j,by rw[aU g];show c,d.off e,i.off e,v]⟩
def En.off(h:En M ρ H a c)(j:H b=some (.lst f)):En M ρ (upd H b<|.lst ws) a c:=#[h.len,λi d q=>by let#[v,g,e]:=h.get i d q;show#[v,g,e.off j]]
def bS.off(e:bS d g ρ H)(i:g b=none)(u:HO):bS d g ρ (upd H b u):=⟨e.pre,e.new,λa o h c=>by rw[aU (fj h i)];show e.keep a o h c,λa h=>by
 by_cases z:a=b
 ·subst z;show i
 ·rw[aU z] at h;show e.grow a h⟩
noncomputable def nZ(js:List (Option Nat))(a:cv):cv:=js.map λo=>o.bind λj=>a.getD j none
def En.sig(js:List (Option Nat))(h:En M ρ H a c):En M ρ H (nZ js a) (kg js c) where
 len:=by unfold nZ kg;rw[lQm,lQm]
 get:=λi d q=>by
  unfold nZ at q
  unfold kg
  rw[gQm] at q|-
  cases e:js[i]? with
  |none=>rw[e] at q;cases q
  | some o=>
    rw[e] at q
    cases o with
    |none=>cases q
    | some j=>
      have b:a.getD j none=some d:=QdQ q
      have k:a[j]?=some (some d):=by
        rw[Qlq] at b
        cases z:a[j]? with
        |none=>rw[z] at b;cases b
        |some y=>rw[z] at b;show congrArg some b
      let#[v,g,f]:=h.get j d k
      show#[v,?_,f]
      show some (c.getD j none)=some (some v)
      rw[Qlq,g]
      rfl
open Classical in
def mY(g:me)(t:iH)(f:bj)(W:aE->Prop):List D->cv->aE->List D->Option (List D×aE)
 | [],Γ,S,acc=>if W S then some (acc,S) else none
 |d ::ds,Γ,S,acc=>if W S then(g d Γ S).bind λ(a,e)=>(t a e).bind λ(k,b)=>
    if k=true then(f a b).bind λ(y,c)=>if acc.length<sizeLine then mY g t f W ds a c (acc++ [y]) else none
    else mY g t f W ds a b acc
  else none
def bK(js:List (Option Nat))(i:sE)(g:me)(t:iH)(f:bj):gw:=λa S=>(i a S).bind λ(p,b)=>mY g t f p.2 p.1 (nZ js a) b []
def Gf:∀σ H Q,tL M (bK js i g t f) σ H Q->GQ js (tI M i) (tG M g) (tB M t) (tD M f) σ H Q:=λσ H Q qq=>by
 let#[ρ,Γ,S,rs,S',ok,e,q]:=qq
 let#[#[#[j,W],S1],e1,e]:=aq e
 show#[ρ,Γ,S,j,W,S1,ok,e1,λl J H1 x1 R wk D K=>?_]
 have n1:D∉l:=cR x1 R K
 have a1:Ok M l (nZ js Γ) S1 (kg js σ) (upd H1 D<|.lst []):=#[((ok.en.ext x1).ext (bS.laid K)).sig js,R.lay K]
 show⟨λi m B d=>m=j.length-i/\i<=j.length/\∃c s N b h,bS l H1 c d/\Ok M c s N B d/\D∉c/\d D=some (.lst h)/\bh M c d b h/\mY g t f W (j.drop i) s N b=some (rs,S'),
  #[j.length,by simp,Nat.zero_le _,l,_,S1,[],[],bS.laid K,a1,n1,bx,.nil,e],?_⟩
 rintro i m a8 H2 ⟨rfl,hi,c,s,N,b,h,x2,ok2,n2,hD2,racc,e2⟩
 by_cases G:i<j.length
 ·have hd:j[i]?=some j[i]:=gQe G
  rw[QWq G] at e2
  unfold mY at e2
  split at e2
  ·rename_i w
   let#[w1,w2]:=wk i c N H2 x2 ok2.st w
   let#[go,a2]:=w1 _ hd
   show .inr ⟨go,λB d=>∃a r A b h,bS l H1 a d/\Ok M a r A B d/\D∉a/\d D=some (.lst h)/\bh M a d b h/\mY g t f W (j.drop (i+1)) r A b=some (rs,S'),
    λB d ⟨a,r,A,b,h,h1,h2,h3,h4,h5,h6⟩=>#[j.length-(i+1),by omega,L,G,a,r,A,b,h,h1,h2,h3,h4,h5,h6],λx H3 hy=>?_⟩
   let#[x3,a3,r3]:=a2 x H3 hy
   let#[#[n,S4],e4,e5]:=aq e2
   show#[c,s,N,_,n,S4,ok2.to x3 a3,r3,e4,λa5 a7 H4 x4 p=>?_]
   let#[#[k,S5],e6,X]:=aq e5
   show#[a5,n,S4,k,S5,p,e6,λU H5 Y P=>?_]
   let o:=(x3.trans x4).trans Y
   have C:∀{a d},bS c H2 a d->d D=some (.lst h)/\D∉a:=λ{a d} x=>#[x.keep _ _ hD2<|.inl n2,λm=>(x.new _ m).elim n2 λz=>by rw[z] at hD2;cases hD2]
   dsimp only at X|-
   split at X
   ·rename_i ck
    rw[Qhq ck]
    let#[#[y,S6],e8,Z]:=aq X
    show#[U,n,S5,y,S6,p.to Y P,e8,λa0 v H6 x6 a4 r6=>?_]
    let I:=o.trans x6
    let#[u,n6]:=C I
    let F:=racc.ext I
    dsimp only at Z
    split at Z
    ·rename_i cl
     show#[h,u,by rw[<-racc.length];show cl,a0,n,S6,b++ [y],h++ [v],(x2.trans I).off K _,#[((p.en.ext Y).ext x6).off u,a4.off u n6],n6,bx,(F.append<|.cons r6 .nil).off u,Z]
    ·cases Z
   ·rename_i ck
    rw[Quq ck]
    let#[a6,n5]:=C o
    show#[U,n,S5,b,h,x2.trans o,p.to Y P,n5,a6,racc.ext o,X]
  ·cases e2
 ·have e3:i=j.length:=by omega
  subst e3
  rw[List.drop_length] at e2
  unfold mY at e2
  split at e2
  ·rename_i w
   let#[rfl,rfl]:=bZ e2
   let#[w1,w2]:=wk j.length c N H2 x2 ok2.st w
   show .inl #[w2 L,q c D h H2 (x1.trans x2) ok2.st (x1.grow _ K) n2 hD2 racc]
  ·cases e2
noncomputable def bT:iH:=λ_ S=>some (true,S)
def Mi{t t':TT}(h:m6 X f t)(w:∀g H Q,t' g H Q->t g H Q):m6 X f t':=λd s g H Q I q=>h d s g H Q I (w _ _ _ q)
def Qi:m6 X [] (tB (md X) bT):=Mi KJ λh H Q ⟨f,g,S,k,d,ok,e,q⟩=>by cases e;show q _ _ bS.refl ok.st
def Qt(d:PT X c (tB (md X) f)):m6 X [c] (tB (md X) f):=J1 d
def Ld
  (S:aP X N js d n) (w:X.calm=true) (hi:PI X o h (tI (md X) i))
  (u:∀C s H fp,PG (aK X N d n C s H fp) o<|tG (md X) g) (q:∀C s H fp,m6 (aK X N d n C s H fp) m<|tB (md X) t) (he:∀C s H fp,PE (aK X N d n C s H fp) k<|tD (md X) f)
  (v:autoParam (∀x,foldedSetIterable h X.env x=pure x) dl._auto_1):PE X (.ListComp k [⟨o,h,m,0⟩] d j) (tL (md X)<|bK js i g t f):=j2 (HS S w hi u q he v) Gf
def Lz{u:Pos}
  (S:aP X N js h B) (hc:X.calm=true) (hi:PI X A k (tI (md X) i))
  (U:∀C s H fp,PG (aK X N h B C s H fp) A<|tG (md X) g) (R:∀C s H fp,m6 (aK X N h B C s H fp) y<|tB (md X) t) (he:∀C s H fp,PE (aK X N h B C s H fp) w<|tD (md X) f) (F:PG X m (oD n))
  (hs:autoParam (∀x,foldedSetIterable k X.env x=pure x) dl._auto_1) (J:autoParam (swapsWithSole [m] (.ListComp w [⟨A,k,y,0⟩] h j) u.line X.env=pure true) db._auto_1)
  (Y:autoParam ((assignEach [m] X.env).map (·.2)= [assign m X.env]) db._auto_1):PS X (.Assign [m] (.ListComp w [#[A,k,y,0]] h j) u) (tS (md X)<|aV n<|bE<|bK js i g t f):=
 Aj (Ho S hc hi U R he F hs J Y) λD σ H qq=>by
  let#[P,Γ,S,o,ok,e,q]:=qq
  let#[#[d,S1],e1,e]:=aq e
  cases e
  let#[#[M,S2],Z,e3]:=aq e1
  let#[rfl,rfl]:=bZ e3
  show Gf σ H _ #[P,Γ,S,M,S2,ok,Z,λv a W Q x st fr nr ha rs=>?_]
  let G:=rs.pre (List.prefix_append v [a])
  let I:=st.box (o:=.lst M) nr #[W,ha,G]
  have K:bS P H (v++ [a]) Q:=⟨x.pre.trans (List.prefix_append _ _),λb z=>by
   rcases mQa.mp z with z|z
   ·show x.new b z
   ·rw[Qfq] at z;subst z;show .inr fr,x.keep,x.grow⟩
  show q (v++ [a]) _ Q K #[((ok.en.ext K).set (.ref ?_)),I]
  rw[<-st.len,QQq (Qmq _)]
  simp
noncomputable def G3(c:iH)(b:cO):Nat->cv->aE->Option Out
 |0,_,_=>none
 |n +1,Γ,S=>(c Γ S).bind λ(k,g)=>if k=true then(b Γ g).bind λo=>match o with
    |.nx d f=>G3 c b n d f
    |.ct d f=>G3 c b n d f
    |.bk d f=>some (.nx d f)
    |.rt x f=>some (.rt x f)
    |.rl x f=>some (.rl x f)
  else some (.nx Γ g)
def HH{X:Cx}(n:Nat)(hp:PassesOwn (model X.prog X.w) X.A X.env X.xe)(hc:PT X c (tB (md X) h))(hb:qY X l (tS (md X) f)):PS X (.While c l [] j) (tS (md X)<|G3 h f n):=Aj (Gy hp hc hb) λD σ H qq=>by
 let#[Q,Γ,S,o,ok,e,q]:=qq
 show#[λm v B=>∃d g y,bS Q H d B/\Ok (md X) d g y v B/\G3 h f m g y=some o,#[n,Q,Γ,S,bS.refl,ok,e],?_]
 rintro m a0 H1 ⟨N,I,S1,x1,F,i⟩
 cases m with
 |zero=>cases i
 | succ m=>
   unfold G3 at i
   let#[#[k,U],e2,i]:=aq i
   show#[N,I,S1,k,U,F,e2,λK H2 Y M=>?_]
   dsimp only at i|-
   let C:=F.to Y M
   let s:=x1.trans Y
   split at i
   · rename_i P
     rw[Qhq P]
     let#[W,e3,i]:=aq i
     show#[λv B=>∃d g y,bS Q H d B/\Ok (md X) d g y v B/\G3 h f m g y=some o,λv B ⟨d,g,y,h1,Z,h3⟩=>#[m,Nat.lt_succ_self _,d,g,y,h1,Z,h3],K,I,U,W,C,e3,?_]
     cases W with
     |nx x z=>show λu J R G t=>#[u,x,z,s.trans G,t,i]
     |ct x z=>show λu J R G t=>#[u,x,z,s.trans G,t,i]
     |bk x z=>cases i;show λu J R G t=>q _ _ _ (s.trans G) t
     |rt d6 z=>cases i;show q.to s
     |rl d6 z=>cases i;show q.to s
   · rename_i P
     rw[Quq P]
     cases i
     show q _ _ _ s C
inductive Res where
 |d (x:D)|l (ds:List D)
abbrev dE:=List D->aE->Option (Res×aE)
def Kf(M:Md)(ρ:X7)(H b:Hp)(v:V):Res->Prop
 |.d x=>Rel M ρ b x v
 |.l e=>∃a c,v=.ref a/\H a=none/\a∉ρ/\b a=some (.lst c)/\bh M ρ b e c
def eU(M:Md)(n:Nat)(F:dE):Sp:=λf H Q _=>∃c S d r e,d.length=n/\bh M c H d f/\fT M c S H/\F d S=some (r,e)/\∀a v b,bS c H a b->fT M a e b->Kf M a H b v r->Q v b
mutual
noncomputable def cj(m:Nat):D->Bool
 |.ref k=>decide (k<m)
 |.tup a=>bC m a
 |_=>true
noncomputable def bC(m:Nat):List D->Bool
 | []=>true
 |d::ds=>cj m d&&bC m ds
end
noncomputable def Ej(m:Nat):O->Bool
 |.lst a=>bC m a
 |.frz a=>bC m a
 |.dct b=>bC m (b.map (·.2))
 |.sett a=>bC m a
 |.dctN d c=>bC m d&&bC m c
mutual
theorem Rel.cut(e:ρ <+: f):∀{d:D} {v:V},Rel M f H d v->cj ρ.length d=true->Rel M ρ H d v
 |_,_,.non,_=>.non
 |_,_,.bl x,_=>.bl x
 |_,_,.int i,_=>.int i
 |_,_,.str x,_=>.str x
 |_,_,.tup h hs,b=>.tup h (bh.cut e hs (by simpa [cj] using b))
 | _,_,.ref (k:=k) (a:=a) h,b=>.ref (by
   let#[t,rfl]:=e
   have c:k<ρ.length:=by simpa [cj] using b
   rwa [QHq c] at h)
 |_,_,.fn h,_=>.fn h
theorem bh.cut(e:ρ <+: f):∀{ds:List D} {vs:List V},bh M f H ds vs->bC ρ.length ds=true->bh M ρ H ds vs
 |_,_,.nil,_=>.nil
 | _,_,.cons h hs,b=>by
   let a:=b
   erw[bC,QDq,QCq] at a
   show .cons (Rel.cut e h a.1) (bh.cut e hs a.2)
end
theorem cq.cut(e:ρ <+: f):∀{l:List (Key×D)} {kv:List (Key×V)},cq M f H l kv->bC ρ.length (l.map (·.2))=true->cq M ρ H l kv
 | [],_,h,_=>h
 | (_,_)::_,_,#[v,t,q,h,hs],b=>by
   let a:=b
   erw[bC,QDq,QCq] at a
   show#[v,t,q,h.cut e a.1,cq.cut e hs a.2]
theorem oX.cut(e:ρ <+: f)(h:oX M f H a o)(b:Ej ρ.length o=true):oX M ρ H a o:=by
 cases o with
 |lst k=>let#[g,d,c]:=h;show#[g,d,c.cut e b]
 |frz k=>let#[g,o,d,c]:=h;show#[g,o,d,c.cut e b]
 |dct l=>let#[m,d,c]:=h;show#[m,d,c.cut e b]
 |sett k=>let#[q,n,d,c,j]:=h;show#[q,n,d,c.cut e b,j]
 |dctN r g=>let#[i,d,c,j,p]:=h;erw[Ej,QCq] at b;show#[i,d,c.cut e b.1,j.cut e b.2,p]
mutual
theorem Rel.low:∀{d:D} {v:V},Rel M ρ H d v->cj ρ.length d=true
 |_,_,.non=>rfl
 |_,_,.bl x=>rfl
 |_,_,.int i=>rfl
 |_,_,.str x=>rfl
 |_,_,.tup h hs=>by erw[cj];show bh.low hs
 |_,_,.ref h=>by erw[cj];show Qeq (gQs.mp h).1
 |_,_,.fn h=>rfl
theorem bh.low:∀{ds:List D} {vs:List V},bh M ρ H ds vs->bC ρ.length ds=true
 |_,_,.nil=>rfl
 |_,_,.cons h hs=>by erw[bC];rw[Rel.low h,bh.low hs];rfl
end
theorem cq.low:∀{l:List (Key×D)} {kv:List (Key×V)},cq M ρ H l kv->bC ρ.length (l.map (·.2))=true
 | [],_,_=>rfl
 |(_,_)::_,_,#[v,t,q,h,hs]=>by erw[QDq,bC];rw[h.low,cq.low hs];rfl
theorem oX.low(h:oX M ρ H a o):Ej ρ.length o=true:=by
 cases o with
 |lst g=>let#[d,c,b]:=h;show b.low
 |frz g=>let#[d,o,c,b]:=h;show b.low
 |dct j=>let#[k,c,b]:=h;show b.low
 |sett g=>let#[n,l,c,b,e]:=h;show b.low
 |dctN p d=>let#[i,c,b,e,m]:=h;erw[Ej,QCq];show#[b.low,e.low]
def oN(S a:aE):Prop:=S.length<=a.length/\∀k o,k<S.length->a[k]?=some o->S[k]?=some o\/Ej S.length o=true
open Classical in
def settle(S:aE)(d:D)(a:aE):Option (Res×aE):=if oN S a then match d with
  | .ref k=>if k<S.length then some (.d (.ref k),a.take S.length) else match a[k]? with
    |some (.lst ds)=>if bC S.length ds=true then some (.l ds,a.take S.length) else none
    |_=>none
  |d=>if cj S.length d=true then some (.d d,a.take S.length) else none
 else none
open Classical in
def fQ(S:aE)(ds:List D)(a:aE):Option (Res×aE):=if oN S a/\bC S.length ds=true then some (.l ds,a.take S.length) else none
noncomputable def fq(n:Nat)(b:cO):dE:=λc S=>(b (c.map some++List.replicate (n-c.length) none) S).bind λo=>match o with
 |.nx _ a=>settle S .non a
 |.rt d a=>settle S d a
 |.rl l a=>fQ S l a
 |_=>none
noncomputable def L3(n:Nat)(b:cO):dE:=λc S=>(b (c.map some++List.replicate (n-c.length) none) S).bind λo=>match o with
 |.nx _ a=>some (.d .non,a)
 |.rt d a=>some (.d d,a)
 |.rl l a=>some (.l l,a)
 |_=>none
def fT.clean(st:fT M ρ S H)(x:bS ρ H b e)(i:fT M b j e)(c:oN S j):fT M ρ (j.take S.length) e/\bS ρ H ρ e:=by
 show#[#[?_,st.nd,λk a o g f=>?_],List.prefix_refl _,λ_ h=>.inl h,x.keep,x.grow]
 ·rw[Qxq,st.len]
  have:=c.1
  omega
 ·have l:k<ρ.length:=(gQs.mp g).1
  have d:k<S.length:=st.len▸l
  rw[List.getElem?_take_of_lt d] at f
  show(i.obj k a o (cD x.pre g) f).cut x.pre ?_
  rcases c.2 k o d f with z|z
  ·show(st.obj k a o g z).low
  ·rw[st.len];show z
def ve(st:fT M ρ S H)(x:bS ρ H b g)(f:fT M b t g)(l:Rel M b g d v)(e:settle S d t=some (r,h)):
  bS ρ H ρ g/\fT M ρ h g/\Kf M ρ H g v r:=by
 unfold settle at e
 split at e
 ·rename_i c
  let#[o,q]:=st.clean x f c
  cases d with
  | ref k=>
    dsimp only at e
    split at e
    · rename_i n
      let#[rfl,rfl]:=bZ e
      show#[q,o,l.cut x.pre (by erw[cj];rw[st.len];show Qeq n)]
    · rename_i n
      split at e
      · rename_i B A
        split at e
        · rename_i i
          let#[rfl,rfl]:=bZ e
          cases l with
          | ref p=>
            rename_i a
            let#[y,z,w]:=f.obj k a _ p A
            have s:a∉ρ:=λm=>by
              let#[j,u]:=List.getElem?_of_mem m
              have:=iD f.nd (cD x.pre u) p
              subst this
              show n (st.len▸(gQs.mp u).1)
            show#[q,o,a,y,L,(x.new a<|mQg p).resolve_left s,s,z,w.cut x.pre (by rw[st.len];show i)]
        · cases e
      · cases e
  | _=>
    dsimp only at e
    split at e
    · rename_i i
      let#[rfl,rfl]:=bZ e
      show#[q,o,l.cut x.pre (by rw[st.len];show i)]
    · cases e
 ·cases e
def AV(st:fT M ρ S H)(x:bS ρ H b d)(g:fT M b h d)(fr:H a=none)(j:a∉b)(l:d a=some (.lst vs))(i:bh M b d ds vs)(e:fQ S ds h=some (r,f)):
  bS ρ H ρ d/\fT M ρ f d/\Kf M ρ H d (.ref a) r:=by
 unfold fQ at e
 split at e
 ·rename_i c
  let#[k,n]:=st.clean x g c.1
  let#[rfl,rfl]:=bZ e
  show#[n,k,a,vs,L,fr,λm=>j<|x.pre.subset m,l,i.cut x.pre (by rw[st.len];show c.2)]
 ·cases e
def yE{N:X6}(r:bh M ρ H ds vs):En M ρ H (ds.map some++List.replicate (N.length-ds.length) none) (L2.start N vs) where
 len:=by unfold L2.start;simp[r.length]
 get:=λi d q=>by
  unfold L2.start
  by_cases c:i<ds.length
  ·rw[QHq (by rw[lQm];show c),gQm] at q
   let#[g,e,a]:=oQm.mp q
   cases a
   let#[v,f,b]:=r.get e
   show#[v,by rw[QHq (by rw[lQm,<-r.length];show c),gQm,f];rfl,b]
  ·rw[QQq (by rw[lQm];omega)] at q
   have:=mQg q
   rw[List.mem_replicate] at this
   cases this.2
def bz{P:X9}{w:Xc}{K:X1}{g:X3}{c:Xe}{x i:Str}{st:Stmt}{f:X8}{I:FuncData}{N ps:X6}{k:Nat}{b:cO}(F:eW K x i st f I)(S:aI N ps (aC st))
  (m:∀(j:Xd) (A:X_) (h:List Env) (s:X4) (H:Hp) (E:XK),dU k (A.deeper (envOfC i (aC st) s.heap.objs.size f j))->
   qY (yX dX P w K g c N i (aC st) f j A h s H E).nox (fc st) (tS #[K,g] b)):bB P w K g c dX (k+1) f I ps (eU #[K,g] ps.length (fq N.length b)):=by
 show F.ok S (λJ H Q E ⟨R,S,Y,r,S',M,C,_⟩=>by rw[<-C.length];show M) λj A h s H J Q E hr ⟨R,S,Y,r,S',M,C,z,X,q⟩=>#[_,m j A h s H E hr,?_]
 let#[o,e1,e]:=aq X
 show#[R,_,S,o,#[yE C,z],e1,?_]
 cases o with
 |nx a1 U=>show λn a0 W t G=>by let#[u,p,y]:=ve z t G.st .non e;show q _ _ _ u p y
 |rt d U=>show λn v W t l B=>by let#[u,p,y]:=ve z t l B e;show q _ _ _ u p y
 |rl d U=>show λn a J W t l Z na ha B=>by let#[u,p,y]:=AV z t l Z na ha B e;show q _ _ _ u p y
 |bk=>cases e
 |ct=>cases e
def KN{P:X9}{w:Xc}{K:X1}{g:X3}{c:Xe}{x i:Str}{st:Stmt}{f:X8}{B:FuncData}{N ps:X6}{k:Nat}{b:cO}(F:eW K x i st f B)(S:aI N ps (aC st))
  (m:∀(j:Xd) (A:X_) (h:List Env) (s:X4) (H:Hp) (E:XK),dU k (A.deeper (envOfC i (aC st) s.heap.objs.size f j))->
   qY (yX dX P w K g c N i (aC st) f j A h s H E).nox (fc st) (tS #[K,g] b)):bB P w K g c dX (k+1) f B ps (eU #[K,g] ps.length (L3 N.length b)):=by
 show F.ok S (λy H Q E ⟨G,S,R,r,S',C,u,_⟩=>by rw[<-u.length];show C) λj A h s H y Q E X ⟨G,S,R,r,S',C,u,Y,M,q⟩=>#[_,m j A h s H E X,?_]
 let#[o,e1,e]:=aq M
 show#[G,_,S,o,#[yE u,Y],e1,?_]
 cases o with
 |nx a0 I=>cases e;show λn Z J p z=>q _ _ _ p z.st .non
 |rt d I=>cases e;show λn v J p l t=>q _ _ _ p l t
 |rl d I=>cases e;show λn a y J p l U W ha t=>q _ _ _ p l #[a,y,L,U,W,ha,t]
 |bk=>cases e
 |ct=>cases e
noncomputable def az(F:dE)(g:gw):bj:=λi S=>(g i S).bind λ(j,h)=>(F j h).bind λ(r,a)=>match r with
 |.d x=>some (x,a)
 |.l _=>none
noncomputable def eQ(F:dE)(g:gw):gw:=λj S=>(g j S).bind λ(a,i)=>(F a i).bind λ(r,h)=>match r with
 |.d _=>none
 |.l a=>some (a,h)
def nA(n:Nat)(g:gw):Prop:=∀h S a d,g h S=some (a,d)->a.length=n
def uu:nA 0 av:=λ_ _ _ _ e=>by cases e;rfl
def iQ{n:Nat}{f:bj}{g:gw}(h:nA n g):nA (n+1) (ar f g):=λq S r j e=>by
 let#[#[d,o],m,e]:=aq e
 let#[#[i,l],a,e]:=aq e
 cases e
 rw[Qnq,h _ _ _ _ a]
def CI(G:nA n g):∀m H Q,tD M (az F g) m H Q->E4 (eU M n F) [] E0 (x_ M g) m H Q:=λm H Q z=>by
 let#[A,B,S,d,N,ok,e,q]:=z
 let#[#[j,s],o,e]:=aq e
 let#[#[r,y],w,e]:=aq e
 show#[A,B,S,j,s,ok,o,λi K H1 J a t=>#[i,s,j,r,y,G _ _ _ _ o,by rw[List.append_nil];show t,a,w,λu v H2 C h I=>?_]]
 cases r with
 |d x=>let#[rfl,rfl]:=bZ e;show q _ _ _ (J.trans C) h I
 |l j=>cases e
def Iz(K:nA n g):∀o H Q,tL M (eQ F g) o H Q->E4 (eU M n F) [] E0 (x_ M g) o H Q:=λo H Q C=>by
 let#[G,I,S,d,P,ok,e,q]:=C
 let#[#[m,t],s,e]:=aq e
 let#[#[r,B],A,e]:=aq e
 show#[G,I,S,m,t,ok,s,λj z H1 u h w=>#[j,t,m,r,B,K _ _ _ _ s,by rw[List.append_nil];show w,h,A,λy v H2 J i N=>?_]]
 cases r with
 |d x=>cases e
 | l m=>
   let#[rfl,rfl]:=bZ e
   let#[a,z,rfl,fr,na,ha,rr]:=N
   show q _ _ _ _ (u.trans J) i (u.grow _ fr) na ha rr
def K1{X:Cx}(G:bB X.prog X.w X.K X.mg X.base dX k f c ps (eU (md X) n F))(j:dU k X.A)(m:Gl X x)(d:X.mg x=some (.ref f))(h:PySem.W.keepIn X.K (.ref f)=true)(l:Binds X.K c ps [])(i:PA X (e::es) (x_ (md X) g))(o:nA n g)
  (a:autoParam ((x==("__debug__":Str))=false) cV._auto_1) (he:autoParam (starEach (e::es) X.env=(false,eval e X.env)::starEach es X.env) db._auto_1) (hpl:autoParam ((backTo b<|starEach es X.env).any (·.1)=false) db._auto_1):
  PE X (.Call (.Name x p) (e::es) [] b) (tD (md X)<|az F g):=j2 (B3 G j m d h l .nil FW i a he hpl) (CI o)
def Lb{X:Cx}(G:bB X.prog X.w X.K X.mg X.base dX k f c ps (eU (md X) n F))(j:dU k X.A)(m:Gl X x)(d:X.mg x=some (.ref f))(h:PySem.W.keepIn X.K (.ref f)=true)(l:Binds X.K c ps [])(i:PA X (e::es) (x_ (md X) g))(o:nA n g)
  (a:autoParam ((x==("__debug__":Str))=false) cV._auto_1) (he:autoParam (starEach (e::es) X.env=(false,eval e X.env)::starEach es X.env) db._auto_1) (hpl:autoParam ((backTo b<|starEach es X.env).any (·.1)=false) db._auto_1):
  PE X (.Call (.Name x p) (e::es) [] b) (tL (md X)<|eQ F g):=j2 (B3 G j m d h l .nil FW i a he hpl) (Iz o)
noncomputable def fP(xs:List α)(lo hi:Xb):List α:=(xs.drop<|HT.dP xs.length 0 lo).take (HT.dP xs.length xs.length hi-HT.dP xs.length 0 lo)
def bh.cut3{M:Md}{ρ:X7}{H:Hp}{ds:List D}{vs:List V}{lo hi:Xb}(h:bh M ρ H ds vs):bh M ρ H (fP ds lo hi) (wj vs lo hi):=by
 unfold fP wj
 rw[h.length]
 show(h.drop _).take _
def IQ{α:Type}{xs:List α}{lo hi:Xb}(b:HT.dP xs.length 0 lo=0)(a:HT.dP xs.length xs.length hi=xs.length):fP xs lo hi=xs:=by
 unfold fP
 rw[b,a]
 simp
abbrev IM:=cv->aE->Option (Option Int×aE)
def L0(M:Md)(f:IM):TO:=λg H Q=>∃d e S o c,Ok M d e S g H/\f e S=some (o,c)/\∀a b,bS d H a b->fT M a c b->Q o b
noncomputable def jk:IM:=λ_ S=>some (none,S)
noncomputable def jj(f:bj):IM:=λh S=>(f h S).bind λ(d,g)=>match d with
 |.int i=>some (some i,g)
 |_=>none
def QK{t t':TO}(h:PO X o t)(w:∀f H Q,t' f H Q->t f H Q):PO X o t':=λd s f H Q I q=>h d s f H Q I (w _ _ _ q)
def Pw:PO X none (L0 (md X) jk):=QK HI λh H Q ⟨f,g,S,o,d,ok,e,q⟩=>by cases e;show q _ _ bS.refl ok.st
def PV(h:PE X e (tD (md X) f)):PO X (some e) (L0 (md X)<|jj f):=QK (HZ h) λp H Q i=>by
 let#[k,l,S,o,s,ok,e,q]:=i
 let#[#[d,n],m,e]:=aq e
 dsimp only at e
 split at e
 ·let#[rfl,rfl]:=bZ e
  show#[k,l,S,_,n,ok,m,λg v t x st r=>?_]
  cases r
  show#[_,L,q _ _ x st]
 ·cases e
noncomputable def rS(f:bj)(lo hi:IM):bj:=λg S=>(f g S).bind λ(d,m)=>(lo g m).bind λ(l,i)=>(hi g i).bind λ(h,k)=>match d with
 |.tup n=>some (.tup (fP n l h),k)
 |_=>none
def Oq{X:Cx}{e:Expr}{j:Pos}{lo hi:Option Expr}{J:Pos}{f:bj}{l h:IM}(he:PE X e (tD (md X) f))(hl:PO X lo (L0 (md X) l))(U:PO X hi (L0 (md X) h)):PE X (.Subscript e (.Slice lo hi none J) j) (tD (md X)<|rS f l h):=
 j2 (y_ HL he hl U) λσ H Q P=>by
  let#[R,t,S,d,S',ok,e,q]:=P
  let#[#[x,F],Y,e]:=aq e
  let#[#[G,B],N,e]:=aq e
  let#[#[z,W],Z,e]:=aq e
  cases x with
  | tup A=>
    dsimp only at e
    let#[rfl,rfl]:=bZ e
    show#[R,t,S,_,F,ok,Y,λr v H1 w g K=>#[r,t,F,G,B,ok.to w g,N,λn H2 u o=>#[n,t,B,z,W,(ok.to w g).to u o,Z,λM H3 y i=>?_]]]
    let k:=(w.trans u).trans y
    let I:=K.ext (u.trans y)
    cases I with
    | tup C m=>
      show#[_,_,L,iJ.of C,λc=>?_,λc p s=>?_]
      · have:fP A G z=A:=IQ (by rw[m.length];show c.1) (by rw[m.length];show c.2)
        rw[this] at q
        show q _ _ _ k i<|.tup C m
      · show q _ _ _ (k.trans<|bS.laid s) (i.lay s)<|.tup bx (m.cut3.ext<|bS.laid s)
  |_=>cases e
open Classical in
def u4(f:et)(lo hi:IM):gw:=λd S=>(f d S).bind λ(p,k)=>(lo d k).bind λ(l,i)=>(hi d i).bind λ(h,g)=>if p.2.isL=true/\p.2.stays g p.1 then some (fP p.1 l h,g) else none
def OE{X:Cx}{e:Expr}{j:Pos}{lo hi:Option Expr}{B:Pos}{f:et}{l h:IM}(he:PE X e (tQ (md X) f))(hl:PO X lo (L0 (md X) l))(P:PO X hi (L0 (md X) h)):PE X (.Subscript e (.Slice lo hi none B) j) (tL (md X)<|u4 f l h):=
 j2 (y_ Hd he hl P) λσ H Q M=>by
  let#[N,s,S,d,S',ok,e,q]:=M
  let#[#[#[J,t],z],W,e]:=aq e
  let#[#[Z,y],K,e]:=aq e
  let#[#[F,U],Y,e]:=aq e
  dsimp only at e
  split at e
  ·rename_i c
   let#[rfl,rfl]:=bZ e
   show#[N,s,S,J,t,z,ok,W,λr a vs H1 w k G C=>#[r,s,z,Z,y,ok.to w k,K,λn H2 u o=>#[n,s,y,F,U,(ok.to w k).to u o,Y,λI H3 x g=>?_]]]
   let i:=(w.trans u).trans x
   let#[v,R,A]:=G.to C (u.trans x) g c.2
   show#[_,v,L,R.sqL c.1,λp m=>?_]
   show q _ _ _ _ (i.trans<|bS.laid m) (g.lay m) (i.grow _ m) (cR i g m) bx<|A.cut3.ext<|bS.laid m
  ·cases e
open Classical in
def uT(f g:et):gw:=λh S=>(f h S).bind λ(p,i)=>(g h i).bind λ(r,d)=>if p.2.isM=true/\r.2.isM=true/\p.2.stays d p.1/\p.1.length+r.1.length<=sizeLine then some (p.1++r.1,d) else none
def Qj(U:PE X a (tQ (md X) f))(A:PE X b (tQ (md X) g)):PE X (.BinOp a .Add b j) (tL (md X)<|uT f g):=j2 (qE KO U A) λY H Q K=>by
 let#[M,r,S,d,Z,ok,e,q]:=K
 let#[#[#[F,t],v],R,e]:=aq e
 let#[#[#[N,x],J],I,e]:=aq e
 dsimp only at e
 split at e
 ·rename_i c
  let#[rfl,rfl]:=bZ e
  show#[M,r,S,F,t,v,ok,R,λm a W H1 w l C z=>#[m,r,v,N,x,J,ok.to w l,I,λB b G H2 s h y u=>?_]]
  let#[n,P,o]:=C.to z s h c.2.2.1
  let i:=w.trans s
  show#[_,_,n,G,L,L,P.sqM c.1,y.sqM c.2.1,by rw[<-o.length,<-u.length];show c.2.2.2,λp k=>?_]
  show q _ _ _ _ (i.trans<|bS.laid k) (h.lay k) (i.grow _ k) (cR i h k) bx ((o.append u).ext (bS.laid k))
 ·cases e
open Classical in
def yt(f:et)(g:bj):gw:=λh S=>(f h S).bind λ(p,i)=>(g h i).bind λ(r,d)=>match r with
 |.int k=>if p.2.isM=true/\p.2.stays d p.1/\ -(2^63)<=k/\k<2^63/\p.1.length*k.toNat<=sizeLine then some ((List.replicate k.toNat p.1).flatten,d) else none
 |_=>none
def QO(R:PE X a (tQ (md X) f))(A:PE X b (tD (md X) g)):PE X (.BinOp a .Mult b j) (tL (md X)<|yt f g):=j2 (qE Kg R A) λW H Q J=>by
 let#[K,u,S,d,Y,ok,e,q]:=J
 let#[#[#[F,t],x],P,e]:=aq e
 let#[#[r,I],G,e]:=aq e
 cases r with
 | int k=>
   dsimp only at e
   split at e
   · rename_i c
     let#[rfl,rfl]:=bZ e
     show#[K,u,S,F,t,x,ok,P,λn a U H1 y m C z=>#[n,u,x,_,I,ok.to y m,G,λB w H2 v h N=>?_]]
     let#[o,M,s]:=C.to z v h c.2.1
     let i:=y.trans v
     cases N
     show#[_,k,o,L,L,M.sqM c.1,c.2.2.1,c.2.2.2.1,by rw[<-s.length];show c.2.2.2.2,λp l=>?_]
     show q _ _ _ _ (i.trans<|bS.laid l) (h.lay l) (i.grow _ l) (cR i h l) bx ((s.rep _).ext (bS.laid l))
   · cases e
 |_=>cases e
open Classical in
def eqQ(d:Bool)(f g:et):bj:=λl S=>(f l S).bind λ(p,m)=>(g l m).bind λ(r,h)=>if p.2.isL=true/\r.2.isL=true/\p.2.stays h p.1 then(iG p.1).bind λi=>(iG r.1).bind λk=>some (.bl (if d then !Eo i k else Eo i k),h) else none
def NN:∀n H Q,tD (md X) (eqQ i f g) n H Q->G1 (Kn X.K i) (tQ (md X) f) (tQ (md X) g) n H Q:=λn H Q G=>by
 let#[I,o,S,d,Z,ok,e,q]:=G
 let#[#[#[B,t],r],P,e]:=aq e
 let#[#[#[J,u],F],C,e]:=aq e
 dsimp only at e
 split at e
 ·rename_i c
  let#[us,R,e]:=aq e
  let#[Y,U,e]:=aq e
  let#[rfl,rfl]:=bZ e
  show#[I,o,S,B,t,r,ok,P,λm a W H1 s l A x=>#[m,o,r,J,u,F,ok.to s l,C,λy b z H2 p h w N=>?_]]
  let#[k,M,v]:=A.to x p h c.2.2
  let#[rfl,f1]:=l9 v R
  let#[rfl,f2]:=l9 N U
  show#[a,b,k,z,L,L,M.sqL c.1,w.sqL c.2.1,f1,f2,q _ _ _ (s.trans p) h<|.bl _]
 ·cases e
def QU{X:Cx}(h:X.A.units<cLine)(d:PE X a (tQ (md X) f))(i:PE X b (tQ (md X) g)):PT X (.Compare a [.Eq] [b] j) (tB (md X)<|aJ<|eqQ false f g):=kT NN (mq (LK h) d i<|og _)
open Classical in
def fX(f:et):bj:=λg S=>(f g S).bind λ(p,d)=>if p.2.isL=true/\p.2.stays d p.1 then some (.bl (!p.1.isEmpty),d) else none
def Jb:∀l H Q,tD (md X) (fX f) l H Q->G1 (Fw X.K) (tQ (md X) f) (tL (md X)<|bA av) l H Q:=λl H Q y=>by
 let#[z,n,S,d,M,ok,e,q]:=y
 let#[#[#[x,t],m],C,e]:=aq e
 dsimp only at e
 split at e
 ·rename_i c
  let#[rfl,rfl]:=bZ e
  show#[z,n,S,x,t,m,ok,C,λk a F H1 p i w s=>#[k,n,m,[],m,ok.to p i,L,λv b G H2 o g I J u B=>?_]]
  let#[h,A,r]:=w.to s o g c.2
  cases B
  show#[a,b,h,L,L,A.sqL c.1,i8.of u,?_]
  rw[<-r.isEmpty]
  show q _ _ _ (p.trans o) g<|.bl _
 ·cases e
def NC:PE X (.List [] j) (tL (md X)<|bA av):=Ju kK
def OB{X:Cx}(d:X.A.units<cLine)(g:PE X a (tQ (md X) f)):PT X (.Compare a [.NotEq] [.List [] p] j) (tB (md X)<|aJ<|fX f):=kT Jb (mq (EN d) g NC<|og _)
def fT.putL{M:Md}{ρ:X7}{S:aE}{H:Hp}{k:Nat}{a:X8}{ds es:List D}{ws:List V}(st:fT M ρ S H)(d:ρ[k]?=some a)(f:S[k]?=some (.lst ds))(r:bh M ρ H es ws):fT M ρ (S.set k<|.lst es) (upd H a<|.lst ws)/\bS ρ H ρ (upd H a<|.lst ws):=by
 let#[i,g,l]:=st.obj k a _ d f
 show st.put d f #[ws,bx,r.off g] λx h=>by rw[g] at h;cases h;show id
noncomputable def Bu(m:List D->List D->Option (List D×D))(f:bj)(g:gw):bj:=λl S=>(f l S).bind λ(x,i)=>match x with
 | .ref k=>(g l i).bind λ(n,h)=>match i[k]?,h[k]? with
   |some (.lst _),some (.lst ds)=>(m ds n).bind λ(o,d)=>some (d,h.set k<|.lst o)
   |_,_=>none
 |_=>none
def NK(M:Md)(r:V->List V->Hp->VK->Prop)(m:List D->List D->Option (List D×D)):Prop:=∀{f:X7} {H:Hp} {a:X8} {n i l:List D} {d:D} {k h:List V} {Q:VK},H a=some (.lst k)->bh M f H n k->bh M f H i h->m n i=some (l,d)->
 (∀g w,bh M f H l g->Rel M f H d w->Q w (upd H a<|.lst g))->r (.ref a) h H Q
def PU(U:NK (md X) r m):∀u H Q,tD (md X) (Bu m f g) u H Q->Os X.K "list" r (tD (md X) f) (x_ (md X) g) u H Q:=λu H Q Y=>by
 let#[Z,z,S,d,S',ok,e,q]:=Y
 let#[#[x,C],e1,e]:=aq e
 cases x with
 | ref k=>
   dsimp only at e
   let#[#[ys,R],P,e]:=aq e
   dsimp only at e
   split at e
   · rename_i J ds t l
     let#[#[es,d'],e3,e]:=aq e
     let#[rfl,rfl]:=bZ e
     show#[Z,z,S,_,C,ok,e1,λs v H1 F h I=>?_]
     cases I with
     | ref B=>
       rename_i a
       let#[o,W,_]:=h.obj k a _ B t
       show#[.inl #[L,o,i8.of W],s,z,C,ys,R,ok.to F h,P,λM us H2 A i r2=>?_]
       let n:=cD A.pre B
       let#[vs,N,G]:=i.obj k a _ n l
       show U N G r2 e3 λws w rw rd=>?_
       let#[p,y]:=i.putL n l rw
       show q _ _ _ ((F.trans A).trans y) p<|rd.ext y
   · cases e
 |_=>cases e
noncomputable def k_:List D->List D->Option (List D×D):=λd f=>match f with
 | [y]=>if d.length<sizeLine then some (d++ [y],.non) else none
 |_=>none
def Kj:NK M Cu k_:=by
 intro n H a p m o d h l Q k g f e q
 unfold k_ at e
 split at e
 ·split at e
  ·rename_i hl
   let#[rfl,rfl]:=bZ e
   cases f with
   | cons f i=>
     cases i
     show#[a,h,_,L,L,k,by rw[<-g.length];show hl,q _ _ (g.append<|.cons f .nil) .non]
  ·cases e
 ·cases e
def FY{h d:Pos}(n:PE X o (tD (md X) f))(p:PE X e (tD (md X) g))(i:autoParam (attributeBase o "append" X.env (eval o X.env)=eval o X.env) db._auto_1) (l:autoParam (((backTo d (starEach [e] X.env)).all (λx=> !x.1)&&(backToKw d (keywordEach [] X.env)).all (λx=>x.1.isSome)
   &&decide ([e].length+([]:List Keyword).length+(if ([]:List Keyword).isEmpty then 0 else 1)<30))=true) db._auto_1)
  (k:autoParam ((h.endLine==d.line)=true) db._auto_1) (m:autoParam (starEach [e] X.env= [(false,eval e X.env)]) db._auto_1):PE X (.Call (.Attribute o "append" h) [e] [] d) (tD (md X)<|Bu k_ f<|ar g av):=
 j2 (zO PySem.F.plainAttrs_list PySem.F.slot_list_append PySem.F.type_list_append qc n (dg p kK m) i l k m) (PU Kj)
noncomputable def zW(f:bj)(g:et):bj:=λi S=>(f i S).bind λ(x,h)=>match x with
 | .ref k=>(g i h).bind λ(p,d)=>match h[k]?,d[k]? with
   |some (.lst _),some (.lst ds)=>if p.2.isM=true/\ds.length+p.1.length<=sizeLine then some (.non,d.set k<|.lst (ds++p.1)) else none
   |_,_=>none
 |_=>none
def M0:∀s H Q,tD (md X) (zW f g) s H Q->Os X.K "list" CY (tD (md X) f) (Fg (tQ (md X) g) HC) s H Q:=λs H Q W=>by
 let#[Y,w,S,d,S',ok,e,q]:=W
 let#[#[x,B],e1,e]:=aq e
 cases x with
 | ref k=>
   dsimp only at e
   let#[#[#[ys,t],R],P,e]:=aq e
   dsimp only at e
   split at e
   · rename_i I ds r j
     split at e
     · rename_i c
       let#[rfl,rfl]:=bZ e
       show#[Y,w,S,_,B,ok,e1,λp v H1 C h G=>?_]
       cases G with
       | ref A=>
         rename_i a
         let#[n,U,_]:=h.obj k a _ A r
         show#[.inl #[L,n,i8.of U],p,w,B,ys,t,R,ok.to C h,P,λJ b us H2 y i F z=>?_]
         let m:=cD y.pre A
         let#[N,Z,u]:=i.obj k a _ m j
         show#[a,b,N,us,L,L,Z,F.sqM c.1,by rw[<-u.length,<-z.length];show c.2,?_]
         let#[o,M]:=i.putL m j (u.append z)
         show q _ _ _ ((C.trans y).trans M) o .non
     · cases e
   · cases e
 |_=>cases e
def NP{h d:Pos}(n:PE X o (tD (md X) f))(p:PE X e (tQ (md X) g))(i:autoParam (attributeBase o "extend" X.env (eval o X.env)=eval o X.env) db._auto_1) (k:autoParam (((backTo d (starEach [e] X.env)).all (λx=> !x.1)&&(backToKw d (keywordEach [] X.env)).all (λx=>x.1.isSome)
   &&decide ([e].length+([]:List Keyword).length+(if ([]:List Keyword).isEmpty then 0 else 1)<30))=true) db._auto_1)
  (j:autoParam ((h.endLine==d.line)=true) db._auto_1) (m:autoParam (starEach [e] X.env= [(false,eval e X.env)]) db._auto_1):PE X (.Call (.Attribute o "extend" h) [e] [] d) (tD (md X)<|zW f g):=
 j2 (zO PySem.F.plainAttrs_list PySem.F.slot_list_extend PySem.F.type_list_extend Dq n (cK p fu m) i k j m) M0
noncomputable def Lx(f g:bj):me:=λd h S=>(f h S).bind λ(x,n)=>(g h n).bind λ(y,m)=>match x,y with
 | .ref k,.int i=>match m[k]? with
   |some (.lst ds)=>(G2 ds.length i).bind λj=>some (h,m.set k<|.lst (ds.set j d))
   |_=>none
 |_,_=>none
def PH:∀v t H Q,tG (md X) (Lx f g) v t H Q->N4 (tD (md X) f) (tD (md X) g) Jr v t H Q:=λv t H Q N=>by
 let#[P,z,S,d,Z,S',ok,r,e,q]:=N
 let#[#[x,F],W,e]:=aq e
 let#[#[y,M],K,e]:=aq e
 cases x with
 | ref k=>
   cases y with
   | int i=>
     dsimp only at e
     split at e
     · rename_i ds A
       let#[j,Y,e]:=aq e
       let#[rfl,rfl]:=bZ e
       show#[P,z,S,_,F,ok,W,λs v1 H1 G o n=>#[s,z,F,_,M,ok.to G o,K,λI v2 H2 B h U=>?_]]
       cases U
       let n:=n.ext B
       cases n with
       | ref C=>
         let#[J,R,w]:=h.obj k _ _ C A
         let m:=G.trans B
         let#[p,u]:=h.putL C A (bh.set (r.ext m) j w)
         show#[_,J,i,j,L,L,R,by rw[<-w.length];show Y,q _ _ _ (m.trans u) ((ok.to m h).to u p)]
     · cases e
   |_=>cases e
 |_=>cases e
def QN(d:PE X o (tD (md X) f))(hi:PE X i (tD (md X) g))
  (h:autoParam (∀v,assign (.Subscript o i l) X.env v=(do
   let ov<-holding [v] (eval o X.env)
   let iv<-holding [v,ov] (eval i X.env)
   standAt l
   holding [v,ov,iv] (setItem ov iv v)
   release [v,ov,iv] [])) dl._auto_1):PG X (.Subscript o i l) (tG (md X) (Lx f g)):=Pq (JQ d hi set_list h) PH
noncomputable def wH(i j:Nat)(f:gw):cO:=λd S=>(f d S).bind λ(h,g)=>match h with
 | [v,w]=>some (.nx ((d.set i<|some v).set j (some w)) g)
 |_=>none
def CL{X:Cx}{st:Stmt}{i j:Nat}{f:gw}(h:PS X st (MH i j<|x_ (md X) f)):PS X st (tS (md X)<|wH i j f):=Aj h λD w H m=>by
 let#[n,p,S,o,ok,e,q]:=m
 let#[#[v,t],s,e]:=aq e
 dsimp only at e
 split at e
 ·cases e
  show#[n,p,S,_,t,ok,s,λk u y x st r=>?_]
  cases r with
  | cons r d=>
    cases d with
    | cons g d=>
      cases d
      show#[_,_,L,q _ _ _ x #[((ok.en.ext x).set r).set g,st]]
 ·cases e
noncomputable def dY(cells:List (Str×Addr)):List (Str×NameKind)->List (Str×Addr)->List (Str×Addr)
 | [],acc=>acc
 |(n,k)::r,acc=>if (k==.free)=true then dY cells r ((n,(cells.lookup n).getD 0)::acc) else dY cells r acc
theorem qk{env:Env}:∀(b:List (Str×NameKind)) (d:List (Str×Addr)),(∀y∈b,y.2=.free->(env.cells.lookup y.1).isSome=true)->
  (forIn b d λ(x:Str×NameKind) (g:List (Str×Addr))=>(do
   if (x.2==NameKind.free)=true then do
    let c<-cellOf env x.1
    pure (ForInStep.yield ((x.1,c)::g))
   else pure (ForInStep.yield g):Sem (ForInStep (List (Str×Addr)))))=(pure (dY env.cells b d):Sem _)
 | [],d,_=>rfl
 | (n,k)::r,d,h=>by
   rw[List.forIn_cons]
   unfold dY
   by_cases c:(k==NameKind.free)=true
   · let#[a,f]:=Option.isSome_iff_exists.mp (h (n,k) QBq (by simpa using c))
     erw[c,if_true]
     have i:cellOf env n=pure a:=by
       unfold cellOf
       rw[f]
     rw[i,pure_bind,pure_bind,f]
     show qk r _ λy e=>h y (Qpq _ e)
   · erw[c,Bool.false_eq_true,if_false]
     rw[pure_bind]
     show qk r _ λy e=>h y (Qpq _ e)
def EX{a:Scope}{env:Env}(h:∀y∈a.names,y.2=.free->(env.cells.lookup y.1).isSome=true):closureFor a env=pure (dY env.cells a.names []):=by
 unfold closureFor
 have:=qk a.names [] h
 rw[bind_pure]
 show this
theorem sR:∀(a:List (Str×NameKind)) (b:List (Str×Addr)) (p:Str×Addr),p∈dY cells a b->p∈b\/∃n,(n,NameKind.free)∈a/\p=(n,(cells.lookup n).getD 0)
 | [],b,p,h=>.inl h
 | (n,k)::r,b,p,h=>by
   unfold dY at h
   split at h
   · rename_i c
     rcases sR r _ p h with h|⟨m,e,d⟩
     · rcases Qsq.mp h with h|h
       · show .inr #[n,by rw[show k=NameKind.free by simpa using c];show QBq,h]
       · show .inl h
     · show .inr #[m,Qpq _ e,d]
   · rcases sR r _ p h with h|⟨m,e,d⟩
     · show .inl h
     · show .inr #[m,Qpq _ e,d]
theorem t6:∀(a:List (Str×NameKind)) (b:List (Str×Addr)),((x,NameKind.free)∈a\/∃c,(x,c)∈b)->∃c,(x,c)∈dY cells a b
 | [],b,h=>by
   rcases h with h|h
   · cases h
   · show h
 | (n,k)::r,b,h=>by
   unfold dY
   split
   · rename_i c
     show t6 r _ ?_
     rcases h with h|⟨c,h⟩
     · rcases Qsq.mp h with h|h
       · cases h;show .inr #[_,QBq]
       · show .inl h
     · show .inr #[c,Qpq _ h]
   · rename_i c
     show t6 r _ ?_
     rcases h with h|h
     · rcases Qsq.mp h with h|h
       · cases h;show absurd L c
       · show .inl h
     · show .inr h
theorem mU:∀{l:List (Str×Addr)},(x,c)∈l->∃a,l.lookup x=some a
 | [],h=>by cases h
 | (n,d)::r,h=>by
   unfold List.lookup
   by_cases e:(x==n)=true
   · rw[e];show#[d,L]
   · have b:(x==n)=false:=by simpa using e
     rw[b]
     rcases Qsq.mp h with h|h
     · cases h;simp at e
     · show mU h
noncomputable def sT(c:X6)(a:Str->Option NameKind)(b:List (Str×NameKind)):List (Option Nat)->List Str->Bool
 |some j::js,x::N=>(c[j]? ==some x)&&(a x==some .cell||a x==some .free)&&(b.lookup x==some .free)&&sT c a b js N
 |none::js,_::N=>sT c a b js N
 |_,_=>true
theorem tZ:∀{js:List (Option Nat)} {N:X6} {k j:Nat} {x:Str},sT c a b js N=true->js[k]?=some (some j)->N[k]?=some x->c[j]?=some x/\(a x=some .cell\/a x=some .free)/\b.lookup x=some .free
 | some i::js,y::N,0,j,x,h,h1,h2=>by
   cases h1
   cases h2
   erw[sT,QCq,Bool.or_eq_true,beq_iff_eq] at h
   show#[h.1.1.1,h.1.1.2,h.1.2]
 | some i::js,y::N,k+1,j,x,h,h1,h2=>by
   erw[sT,QCq] at h
   show tZ h.2 (by simpa using h1) (by simpa using h2)
 |none::js,y::N,0,j,x,h,h1,h2=>by cases h1
 |none::js,y::N,k+1,j,x,h,h1,h2=>tZ (k:=k) (by simpa [sT] using h) (by simpa using h1) (by simpa using h2)
 | [],N,k,j,x,h,h1,h2=>by simp at h1
 |some i::js,[],k,j,x,h,h1,h2=>by simp at h2
 |none::js,[],k,j,x,h,h1,h2=>by simp at h2
theorem pD{env:Env}:∀{a:List (Str×NameKind)},a.lookup x=some .free->(a.map λ(n,k)=>if (k==NameKind.free&&env.scope.kind==.function&&env.kindOf n==some .cell) then(n,NameKind.cell) else(n,k)).lookup x=some .cell∨
  (a.map λ(n,k)=>if (k==NameKind.free&&env.scope.kind==.function&&env.kindOf n==some .cell) then(n,NameKind.cell) else(n,k)).lookup x=some .free
 | [],h=>by cases h
 | (n,k)::r,h=>by
   unfold List.lookup at h
   rw[QDq]
   by_cases e:(x==n)=true
   · rw[e] at h
     cases h
     dsimp only
     split
     · left;unfold List.lookup;rw[e]
     · right;unfold List.lookup;rw[e]
   · have b:(x==n)=false:=by simpa using e
     rw[b] at h
     let c:=pD (env:=env) h
     dsimp only
     split <;>(unfold List.lookup;rw[b];show c)
def aP.gen{X:Cx}{d:Scope}(k:d.kind=.function)(o:d.names.all (λy=>y.2 !=.cell)=true)(r:d.names.all (λy=>y.2 !=.local||d.names.lookup y.1==some .local)=true)
  (p:d.names.all (λy=>y.2 !=.free||(X.env.cells.lookup y.1).isSome)=true) (u:sT X.N X.env.kindOf d.names js N=true) (v:js.length=N.length):aP X N js d (dY X.env.cells d.names []) where
 kind:=k
 nocell:=λy f=>by
  have:=QUq.mp o y f
  simpa using this
 names:=λy f e=>by
  have:=QUq.mp r y f
  rw[e] at this
  simpa using this
 clos:=EX λy f e=>by
  have:=QUq.mp p y f
  rw[e] at this
  simpa using this
 sub:=λx c h=>by
  rcases sR _ _ _ (PySem.mem_of_lookup h) with h|⟨n,m,e⟩
  ·cases h
  ·cases e
   have:=QUq.mp p _ m
   have w:(X.env.cells.lookup x).isSome=true:=by simpa using this
   let#[c,g]:=Option.isSome_iff_exists.mp w
   rw[g]
   rfl
 has:=λx h=>by
  have l:(x,NameKind.free)∈d.names:=by
   have:∃k,(relabel d X.env).names.lookup x=some k/\(k=.cell\/k=.free):=by
    rcases h with h|h
    ·show#[_,h,.inl L]
    ·show#[_,h,.inr L]
   let#[B,s,g]:=this
   let q:=PySem.mem_of_lookup s
   unfold relabel at q
   let#[#[n,t],f,i]:=Qkq.mp q
   dsimp only at i
   split at i
   ·rename_i c
    cases i
    erw[QCq] at c
    have:t=NameKind.free:=by simpa using c.1.1
    rw[<-this]
    show f
   ·cases i
    rcases g with z|z
    ·have:=QUq.mp o _ f
     rw[z] at this
     simp at this
    ·rw[<-z];show f
  let#[c,g]:=t6 (cells:=X.env.cells) d.names [] (.inl l)
  show mU g
 cap:=λk j x A m=>by
  let#[a,b,c]:=tZ u A m
  show#[a,b,?_]
  unfold relabel
  show pD c
 len:=v
structure fG(P:X9)(w:Xc)(K:X1)(mg:X3)(base:Xe)(k:Nat)(x:Str)(ps:X6)(F:dE):Prop where
 ex:∃f fd,bB P w K mg base dX k f fd ps (eU #[K,mg] ps.length F)/\Binds K fd ps []/\PySem.W.keepIn K (.ref f)=true/\mg x=some (.ref f)
def NX{X:Cx}(C:fG X.prog X.w X.K X.mg X.base k x ps F)(i:dU k X.A)(j:Gl X x)(h:PA X (e::es) (x_ (md X) g))(l:nA ps.length g)
  (c:autoParam ((x==("__debug__":Str))=false) cV._auto_1) (he:autoParam (starEach (e::es) X.env=(false,eval e X.env)::starEach es X.env) db._auto_1) (hpl:autoParam ((backTo a<|starEach es X.env).any (·.1)=false) db._auto_1):
  PE X (.Call (.Name x p) (e::es) [] a) (tD (md X)<|az F g):=by
 let#[f,o,G,b,d,m]:=C.ex
 show K1 G i j m d b h l c he hpl
def Nh{X:Cx}(C:fG X.prog X.w X.K X.mg X.base k x ps F)(i:dU k X.A)(j:Gl X x)(h:PA X (e::es) (x_ (md X) g))(l:nA ps.length g)
  (c:autoParam ((x==("__debug__":Str))=false) cV._auto_1) (he:autoParam (starEach (e::es) X.env=(false,eval e X.env)::starEach es X.env) db._auto_1) (hpl:autoParam ((backTo a<|starEach es X.env).any (·.1)=false) db._auto_1):
  PE X (.Call (.Name x p) (e::es) [] a) (tL (md X)<|eQ F g):=by
 let#[f,o,G,b,d,m]:=C.ex
 show Lb G i j m d b h l c he hpl
def fG.mono{P:X9}{w:Xc}{K:X1}{c:X3}{a:Xe}{j k:Nat}{x:Str}{ps:X6}{F:dE}(C:fG P w K c a j x ps F)(h:j<=k):fG P w K c a k x ps F:=by
 let#[f,d,G,b,e,m]:=C.ex
 show#[f,d,G.mono h,b,e,m]
structure Bl(mg:X3):Prop where
 len:mg "len"=none
 tuple:mg "tuple"=none
 list:mg "list"=none
 dict:mg "dict"=none
 set:mg "set"=none
 int:mg "int"=none
 str:mg "str"=none
 bool:mg "bool"=none
 all:mg "all"=none
 any:mg "any"=none
 range:mg "range"=none
 zip:mg "zip"=none
 sorted:mg "sorted"=none
 isi:mg "isinstance"=none
 min:mg "min"=none
 max:mg "max"=none
 abs:mg "abs"=none
 enum:mg "enumerate"=none
 reversed:mg "reversed"=none
open AutoSeq1 in
def oh(l:X8)(items:Xa)(n:Nat)(b:X8)(a:Xa)(o:Nat)(m:Option Addr)(sl:Array (Option Value))(k:¬(!items.isEmpty&&Builtin.List.listTooLong (items.size+a.size))=true)(c:items.size<=sizeLine)(e:items.size+a.size<=sizeLine+1):
  Meets (Builtin.«list.extend» #[[.ref l,.ref b],[]]) (λ_ R s=>s.heap.get? l=some {cls:=.type "list",dict:=none,data:=.seq items n,slots:= (List.toArray [])}/\s.heap.get? b=some {cls:=.type "tuple",dict:=m,data:=.seq a o,slots:=sl}/\R (.ok (.ret Value.none)) {s with heap:=s.heap.update l (Obj.mapSeq λx=>x++a),toks:=s.toks}):=
 .of_wp λi w A R s h=>by
  let#[t,g,d,p,q]:=s;let#[hl,j,h]:=h;let r:=idx_int;let v:=AutoSeq1.sub_tuple_tuple;let z:=AutoSeq1.sub_list_list;let y:=AutoSeq1.sub_tuple_list;let u:=AutoSeq1.sub_list_tuple;
  have f:(items++a).size<=sizeLine+1:=by rw[Array.size_append];show e
  wp_walk using (wpAny_updateSeq hl L (hz:=c) (_hz':=f)),AutoSeq1.wpAny_loadPart' hl,AutoSeq1.wpAny_loadPart' j;show#[_,L,h]
def HB:P_ X "list.extend" (λx vs H Q=>∃l b xs i,x=.ref l/\vs= [.ref b]/\H l=some (.lst xs)/\iJ X.K H b i/\xs.length+i.length<=sizeLine/\Q .non (upd H l<|.lst (xs++i))):=by
 intro m s P H x vs v R Q I J B h
 let#[l,b,xs,i,rfl,rfl,hH,hB,hz,q]:=h
 cases J
 let#[u,rfl,ru]:=B.one
 cases ru
 let#[z,f,n,r,hl,e]:=I.lstM hH
 let#[d,o,#[#[t,M,w,sl],C,p,N,k],G]:=I.tuple hB
 let y:=o.length
 simp only at p k
 subst p k
 have j:f.toArray.size+d.toArray.size<=sizeLine:=by rw[Qjq,Qjq];omega
 have g:¬(!f.toArray.isEmpty&&Builtin.List.listTooLong (f.toArray.size+d.toArray.size))=true:=by
  rw[ue j,Bool.and_false]
  show Qtq
 show call_meets F.slot_list_extend #[_,e,L] F.entry_list_extend (F.args_list_extend_2 _ _)
  (oh l f.toArray n b d.toArray N M sl g (by rw[Qjq];omega) (!0)) #[e,C,?_]
 show#[.non,_,I.lset (its':=f++d) hH e (by simp) (r.append o) ?_,L,q]
 rw[lQa]
 omega
noncomputable def u_(f:bj)(g:et):bj:=λi S=>(f i S).bind λ(x,h)=>match x with
 | .ref k=>(g i h).bind λ(p,d)=>match h[k]?,d[k]? with
   |some (.lst _),some (.lst ds)=>if p.2.isL=false/\ds.length+p.1.length<=sizeLine then some (.non,d.set k<|.lst (ds++p.1)) else none
   |_,_=>none
 |_=>none
def KB:∀u H Q,tD (md X) (u_ f g) u H Q->Os X.K "list" (λx vs H Q=>∃l b xs o,x=.ref l/\vs= [.ref b]/\H l=some (.lst xs)/\iJ X.K H b o/\xs.length+o.length<=sizeLine/\Q .non (upd H l<|.lst (xs++o))) (tD (md X) f) (Fg (tQ (md X) g) HC) u H Q:=λu H Q Y=>by
 let#[Z,y,S,d,S',ok,e,q]:=Y
 let#[#[x,F],e1,e]:=aq e
 cases x with
 | ref k=>
   dsimp only at e
   let#[#[#[ys,t],U],R,e]:=aq e
   dsimp only at e
   split at e
   · rename_i M ds s j
     split at e
     · rename_i c
       let#[rfl,rfl]:=bZ e
       show#[Z,y,S,_,F,ok,e1,λr v H1 G h J=>?_]
       cases J with
       | ref C=>
         rename_i a
         let#[n,W,_]:=h.obj k a _ C s
         show#[.inl #[L,n,i8.of W],r,y,F,ys,t,U,ok.to G h,R,λN b us H2 z i I B=>?_]
         let m:=cD z.pre C
         let#[vs,h3,w]:=i.obj k a _ m j
         show#[a,b,vs,us,L,L,h3,I.sqT c.1,by rw[<-w.length,<-B.length];show c.2,?_]
         let#[p,P]:=i.putL m j (w.append B)
         show q _ _ _ ((G.trans z).trans P) p .non
     · cases e
   · cases e
 |_=>cases e
def L7{h d:Pos}(m:PE X o (tD (md X) f))(n:PE X e (tQ (md X) g))(i:autoParam (attributeBase o "extend" X.env (eval o X.env)=eval o X.env) db._auto_1) (k:autoParam (((backTo d (starEach [e] X.env)).all (λx=> !x.1)&&(backToKw d (keywordEach [] X.env)).all (λx=>x.1.isSome)
   &&decide ([e].length+([]:List Keyword).length+(if ([]:List Keyword).isEmpty then 0 else 1)<30))=true) db._auto_1)
  (j:autoParam ((h.endLine==d.line)=true) db._auto_1) (l:autoParam (starEach [e] X.env= [(false,eval e X.env)]) db._auto_1):PE X (.Call (.Attribute o "extend" h) [e] [] d) (tD (md X)<|u_ f g):=
 j2 (zO PySem.F.plainAttrs_list PySem.F.slot_list_extend PySem.F.type_list_extend HB m (cK n fu l) i k j l) KB
noncomputable def oZ(x:V):List V->Option Nat
 | []=>none
 |y::r=>if rF y x=true then some 0 else(oZ x r).map (·+1)
theorem BS:∀{xs:List V} {j:Nat},oZ x xs=some j->(∃y,xs[j]?=some y/\rF y x=true)/\∀m y,m<j->xs[m]?=some y->rF y x=false
 | [],_,h=>by cases h
 | y::r,j,h=>by
   unfold oZ at h
   split at h
   · rename_i c
     cases h
     show#[#[y,L,c],λm _ d=>absurd d<|Nat.not_lt_zero _]
   · rename_i c
     let#[i,n,rfl]:=oQm.mp h
     let#[#[z,k,g],l]:=BS n
     show#[#[z,by simpa using k,g],λm w d f=>?_]
     cases m with
     |zero=>cases f;simpa using c
     |succ m=>show l m w (!0) (by simpa using f)
def F7:Oj X "list.index" (λx vs H Q=>∃a xs y j,x=.ref a/\vs= [y]/\i8 X.K H a xs/\gW y=true/\xs.all gW=true/\oZ y xs=some j/\Q (.int (j:Nat)) H):=by
 intro G s σ H x vs v us Q I rx U h
 let#[a,xs,y,j,rfl,rfl,hq,fy,fs,hj,q]:=h
 cases rx
 let#[u,rfl,ru]:=U.one
 let#[f,r,Y,hz]:=I.list hq
 let#[#[N,dd,R,sl],n,e,J,g,C]:=Y
 simp only at J g C
 subst J g C
 let#[#[z,t,P],Z]:=BS hj
 let hl:=r.length
 have S:j<xs.length:=(gQs.mp t).1
 let#[w,B,p]:=r.get t
 have i:f.toArray[j]'(by rw[Qjq];omega)=w:=by
  have:=(gQs.mp B).2
  simpa using this
 let M:=nF
 show call_meets PySem.F.slot_list_index #[_,e,L] PySem.F.entry_list_index (PySem.F.args_list_index_2 _ _)
  (SeqAt.list_indexAt a f.toArray n none sl u (Ae y) j (by rw[Qjq];omega) (!0) (by rw[i,wx p (QUq.mp fs z<|mQg t)];show P) λm hm k=>?_)
  #[e,λw B=>jq ru fy r fs w (by simpa using B),#[.int j,H,I.tok _,#[_,L],q]]
 have d:m<xs.length:=by rw[Qjq] at hm;omega
 let#[w2,l,o]:=r.get (gQe d)
 have W:f.toArray[m]=w2:=by
  have:=(gQs.mp l).2
  simpa using this
 rw[W,wx o (QUq.mp fs _<|List.getElem_mem d)]
 show Z m _ k<|gQe d
end DL
namespace Zq
open PySem
def It(t:Bool)(h:Xe)(i a:X8)(k:Nat):Prop:=if t=true then h.IsTupleIter i a k else h.IsListIter i a k
def Sq(t:Bool)(h:Xe)(a:X8)(xs:Xa):Prop:=if t=true then h.IsTuple a xs else h.IsList a xs
theorem It.at{h':Xe}(g:It t h i a k)(f:∀o,h.get? i=some o->h'.get? i=some o):It t h' i a k:=by
 cases t with
 |true=>show(show h.IsTupleIter i a k from g).at f
 |false=>show(show h.IsListIter i a k from g).at f
def It.ext(g:It t h i a k)(f:Heap.ExtBut c h h')(n:i≠c):It t h' i a k:=g.at λo e=>f i o n e
def Sq.at{h':Xe}(g:Sq t h a xs)(f:∀o,h.get? a=some o->h'.get? a=some o):Sq t h' a xs:=by
 cases t with
 |true=>let#[o,e,r]:=(show h.IsTuple a xs from g);show(show h'.IsTuple a xs from#[o,f o e,r])
 |false=>let#[o,e,r]:=(show h.IsList a xs from g);show(show h'.IsList a xs from#[o,f o e,r])
def Sq.ext(g:Sq t h a xs)(f:Heap.ExtBut c h h')(n:a≠c):Sq t h' a xs:=g.at λo e=>f a o n e
def It.obj(g:It t h i a k):∃o,h.get? i=some o/\∀v,o.data≠.cell v:=by
 cases t with
 |true=>let#[o,e,_,d]:=(show h.IsTupleIter i a k from g);show#[o,e,λv n=>by rw[d] at n;cases n]
 |false=>let#[o,e,_,d]:=(show h.IsListIter i a k from g);show#[o,e,λv n=>by rw[d] at n;cases n]
def draw{E:X0}{s:X4}{Q:X0}(e:It t s.heap i a k)(c:Sq t s.heap a xs)(d:xs[k]?=some v)
  (q:∀h',It t h' i a (k+1)->Heap.SameBut i s.heap h'->Q v {s with heap:=h'}):wpAny (model prog w) A (Builtin.SmallTypes.nextOf<|.ref i) Q E s:=by
 cases t with
 |true=>show Zp.MZ e c d q
 |false=>show wpAny_nextOf_list_item e c d q
def Ca{A:X_}{E:X0}{s:X4}(f:A.handled=none)(g:It t s.heap i a k)(c:Sq t s.heap a xs)(d:xs[k]?=none)
  (q:∀h' e,Heap.ExtBut i s.heap h'->(∃o,h'.get? e=some o/\o.cls=.type "StopIteration")->E (.ref e) {s with heap:=h'}):wpAny (model prog w) A (Builtin.SmallTypes.nextOf<|.ref i) Q E s:=by
 cases t with
 |true=>show Zp.NF f g c d q
 |false=>show wpAny_nextOf_list_end f g c d q
abbrev uG(h:Xe)(z T O:X8)(d c:Xd):Prop:=
 h.get? z=some {cls:=.type "zip",dict:=none,data:=.fields (List.toArray [d,c,.bool false,.ref T,.ref O]),slots:= (List.toArray [])}
def item{E:X0}{s:X4}{T:X8}{O:X8}(D:ZipApart z T O i j a b){Q:X0}(m:uG s.heap z T O .none (.bool false))(gT:IsPair s.heap T (.ref i) (.ref j))(gO:IsPair s.heap O u v)(gi:It t s.heap i a k)(gj:It t2 s.heap j b k)
  (ga:Sq t s.heap a xs) (gb:Sq t2 s.heap b ys) (ex:xs[k]?=some x) (ey:ys[k]?=some y)
  (q:∀h',uG h' z T O (rawInt s.heap.objs.size) (.bool false)->IsPair h' O x y->It t h' i a (k+1)->It t2 h' j b (k+1)->IsPair h' s.heap.objs.size x y->Zp.Rest z O i j s.heap h'->Q (.ref s.heap.objs.size) {s with heap:=h'}):
  wpAny (model prog w) A (Builtin.«zip.__next__» #[[.ref z],[]]) (λK s'=>∃r,K=.done (.ret r)/\Q r s') E s:=by
 show(?_:wpAny _ _ (field (.ref z) 2 >>= _) _ _ _)
 show Qaq<|QMq m L (x:=.bool false) L ?_
 show(?_:wpAny _ _ (field (.ref z) 3 >>= _) _ _ _)
 show Qaq<|QMq m L (x:=.ref T) L<|Qaq<|wpAny_seqItems gT L ?_
 show(?_:wpAny _ _ (Builtin.SmallTypes.ownedTupleIsFree (.ref z) >>= _) _ _ _)
 show Qaq ?_
 unfold Builtin.SmallTypes.ownedTupleIsFree
 show Qaq<|QMq m L (x:=.none) L<|Qgq ?_
 erw[if_true]
 show Qaq<|wpAny_rule<|Qaq<|QMq m L (x:=.ref O) L<|Qaq (wpAny_setField_rec m (by simp) λh1 M f=>?_)
 replace M:uG h1 z T O .ellipsis (.bool false):=M
 show Qaq ?_
 erw[List.zipIdx_cons,List.zipIdx_nil,List.forIn_nil,List.forIn_cons]
 show Qaq<|Qaq<|wpAny_onRaise ?_
 show(?_:wpAny _ _ (Builtin.SmallTypes.nextOf (.ref i) >>= _) _ _ _)
 show Qaq (draw (gi.ext f.extBut D.i1z) (ga.ext f.extBut D.l1z) ex λh2 i2 l=>Qgq ?_)
 have U:IsPair h2 O u v:=l.extBut _ _ D.TOi1 (f.extBut _ _ D.TOz gO)
 show Qaq<|wpAny_seqItems U L<|Qaq (wpAny_updateSeq_pair U λh3 I h=>Qaq<|wpAny_letGo<|Qgq ?_)
 replace I:IsPair h3 O x v:=I
 show Qaq<|Qaq<|wpAny_onRaise ?_
 show(?_:wpAny _ _ (Builtin.SmallTypes.nextOf (.ref j) >>= _) _ _ _)
 show Qaq (draw (((gj.ext f.extBut D.i2z).ext l.extBut D.i12.symm).ext h.extBut D.TOi2.symm) (((gb.ext f.extBut D.l2z).ext l.extBut D.l2i1).ext h.extBut D.l2TO) ey λh4 j4 p=>Qgq ?_)
 have Y:IsPair h4 O x v:=p.extBut _ _ D.TOi2 I
 show Qaq<|wpAny_seqItems Y L<|Qaq (wpAny_updateSeq_pair Y λd F n=>Qaq<|wpAny_letGo<|Qgq<|Qgq ?_)
 replace F:IsPair d O x y:=F
 show Qaq<|wpAny_seqItems F L<|Qaq<|wpAny_newTuple ?_
 have W:d.objs.size=s.heap.objs.size:=by rw[n.1,p.1,h.1,l.1,f.1]
 have R:uG d z T O .ellipsis (.bool false):=n.extBut _ _ D.TOz.symm (p.extBut _ _ D.i2z.symm<|h.extBut _ _ D.TOz.symm<|l.extBut _ _ D.i1z.symm M)
 have r5:Zp.Rest z O i j s.heap d:=λc o g B N P e=>n.extBut _ _ B (p.extBut _ _ P<|h.extBut _ _ B<|l.extBut _ _ N<|f.extBut _ _ g e)
 have i5:It t d i a (k+1):=((i2.ext h.extBut D.TOi1.symm).ext p.extBut D.i12).ext n.extBut D.TOi1.symm
 have j5:It t2 d j b (k+1):=j4.ext n.extBut D.TOi2.symm
 have Z:z<d.objs.size:=Qiq R
 show(?_:wpAny _ _ (Builtin.SmallTypes.ownedTupleHandOut (.ref z) (.ref d.objs.size) >>= _) _ _ _)
 show Qaq ?_
 unfold Builtin.SmallTypes.ownedTupleHandOut
 have z6:uG (d.push {cls:=.type "tuple",data:=.seq (List.toArray [x,y])}) z T O .ellipsis (.bool false):=Qcq _ R
 show Qaq (wpAny_setField_rec z6 (by simp) λh7 J S=>?_)
 replace J:uG h7 z T O (rawInt d.objs.size) (.bool false):=J
 show wpAny_setField_rec J (by simp) λC H b8=>?_
 replace H:uG C z T O (rawInt d.objs.size) (.bool false):=H
 have G:∀c o,c≠z->d.get? c=some o->C.get? c=some o:=λc o g e=>b8.extBut _ _ g (S.extBut _ _ g<|Qcq _ e)
 have X:IsPair C d.objs.size x y:=b8.extBut _ _ (Nat.ne_of_gt Z) (S.extBut _ _ (Nat.ne_of_gt Z)<|Qrq _ L)
 rw[W] at H X
 show Qgq #[_,L,?_]
 show(?_:Q (.ref d.objs.size) _)
 rw[W]
 show q C H (G _ _ D.TOz F) (i5.at λo e=>G _ o D.i1z e) (j5.at λo e=>G _ o D.i2z e) X λc o g B N P e=>G c o g (r5 c o g B N P e)
def alive{E:X0}{s:X4}{Q:Option Obj->Shared->Prop}(h:Q (s.heap.get? α) s):wpAny (model prog w) A (loadIfAlive α) Q E s:=λ_ _ _=>h
def again{prog:X9}{w:Xc}{A:X_}{E:X0}{s:X4}{t:Bool}{t2:Bool}{z:X8}{T:X8}{O:X8}{i:X8}{j:X8}{a:X8}{b:X8}{k:Nat}{xs:Xa}{ys:Xa}{x:Xd}{y:Xd}(D:ZipApart z T O i j a b){p:X8}{op:Obj}{m:Xd}{Q:X0}(g:uG s.heap z T O (rawInt p) m)(S:s.heap.get? p=some op)(Y:IsPair s.heap T (.ref i) (.ref j))(gi:It t s.heap i a k)(U:It t2 s.heap j b k)
  (K:Sq t s.heap a xs) (P:Sq t2 s.heap b ys) (M:xs[k]?=some x) (ey:ys[k]?=some y)
  (q:∀h',uG h' z T O (rawInt p) (.bool true)->It t h' i a (k+1)->It t2 h' j b (k+1)->IsPair h' s.heap.objs.size x y->Zp.Rest z O i j s.heap h'->Q (.ref s.heap.objs.size) {s with heap:=h'}):
  wpAny (model prog w) A (Builtin.«zip.__next__» #[[.ref z],[]]) (λG s'=>∃r,G=.done (.ret r)/\Q r s') E s:=by
 show(?_:wpAny _ _ (field (.ref z) 2 >>= _) _ _ _)
 show Qaq<|QMq g L (x:=.bool false) L ?_
 show(?_:wpAny _ _ (field (.ref z) 3 >>= _) _ _ _)
 show Qaq<|QMq g L (x:=.ref T) L<|Qaq<|wpAny_seqItems Y L ?_
 show(?_:wpAny _ _ (Builtin.SmallTypes.ownedTupleIsFree (.ref z) >>= _) _ _ _)
 show Qaq ?_
 unfold Builtin.SmallTypes.ownedTupleIsFree
 show Qaq<|QMq g L (x:=rawInt p) L ?_
 show(?_:wpAny _ _ (loadIfAlive ((p:Int).toNat) >>= _) _ _ _)
 show Qaq ?_
 rw[Int.toNat_natCast]
 show alive ?_
 rw[S]
 show(?_:wpAny _ _ (field (.ref z) 1 >>= _) _ _ _)
 show Qaq<|QMq g L (x:=m) L ?_
 have H:wpAny (model prog w) A (if (m !=Value.bool true)=true then(do let _<-setField (.ref z) 1 (.bool true);pure false) else pure false)
   (λr s'=>r=false/\∃l,s'={s with heap:=l}/\uG l z T O (rawInt p) (.bool true)/\Heap.SameBut z s.heap l) E s:=by
  by_cases c:(m !=Value.bool true)=true
  ·rw[Qhq c]
   show Qaq (wpAny_setField_rec g (by simp) λl I d=>Qgq #[L,l,L,I,d])
  ·rw[Quq c]
   have e:m=Value.bool true:=by simpa using c
   subst e
   show Qgq #[L,s.heap,L,g,Heap.SameBut.refl _ _]
 show QRq H (λr s' F=>?_) λ_ _ h=>h
 let#[rfl,l,rfl,I,d]:=F
 erw[Bool.false_eq_true,if_false]
 show Qaq ?_
 erw[List.forIn_toArray,List.forIn_cons,List.forIn_nil]
 show Qaq<|Qaq<|QLq ?_
 show(?_:wpAny _ _ (Builtin.SmallTypes.nextOf (.ref i) >>= _) _ _ _)
 show Qaq (draw (gi.ext d.extBut D.i1z) (K.ext d.extBut D.l1z) M λh2 N n=>Qgq<|Qgq ?_)
 show Qaq<|Qaq<|QLq ?_
 show(?_:wpAny _ _ (Builtin.SmallTypes.nextOf (.ref j) >>= _) _ _ _)
 show Qaq (draw ((U.ext d.extBut D.i2z).ext n.extBut D.i12.symm) ((P.ext d.extBut D.l2z).ext n.extBut D.l2i1) ey λf R B=>Qgq<|Qgq<|Qgq ?_)
 show Qaq<|wpAny_newTuple ?_ (by show 2<=_;decide)
 have X:f.objs.size=s.heap.objs.size:=by rw[B.1,n.1,d.1]
 have C:∀c o,f.get? c=some o->(f.push {cls:=.type "tuple",data:=.seq (List.toArray [x,y])}).get? c=some o:=λc o e=>Qcq _ e
 have J:IsPair (f.push {cls:=.type "tuple",data:=.seq (List.toArray [x,y])}) f.objs.size x y:=Qrq _ L
 have z8:uG (f.push {cls:=.type "tuple",data:=.seq (List.toArray [x,y])}) z T O (rawInt p) (.bool true):=C _ _ (B.extBut _ _ D.i2z.symm<|n.extBut _ _ D.i1z.symm I)
 show Qgq #[_,L,?_]
 show(?_:Q (.ref f.objs.size) _)
 rw[X] at J|-
 show q _ z8 ((N.ext B.extBut D.i12).at λo e=>C _ o e) (R.at λo e=>C _ o e) J λc o W c2 Z c4 e=>C c o (B.extBut _ _ c4<|n.extBut _ _ Z<|d.extBut _ _ W e)
def stop{A:X_}{E:X0}{s:X4}{T:X8}{O:X8}(D:ZipApart z T O i j a b)(K:A.handled=none)(d:uG s.heap z T O .none (.bool false))(M:IsPair s.heap T (.ref i) (.ref j))(S:It t s.heap i a k)(C:Sq t s.heap a xs)(F:xs[k]?=none)
  (q:∀h' e,Zp.Rest z O i j s.heap h'->(∃o,h'.get? e=some o/\o.cls=.type "StopIteration")->E (.ref e) {s with heap:=h'}):
  wpAny (model prog w) A (Builtin.«zip.__next__» #[[.ref z],[]]) Q E s:=by
 show(?_:wpAny _ _ (field (.ref z) 2 >>= _) _ _ _)
 show Qaq<|QMq d L (x:=.bool false) L ?_
 show(?_:wpAny _ _ (field (.ref z) 3 >>= _) _ _ _)
 show Qaq<|QMq d L (x:=.ref T) L<|Qaq<|wpAny_seqItems M L ?_
 show(?_:wpAny _ _ (Builtin.SmallTypes.ownedTupleIsFree (.ref z) >>= _) _ _ _)
 show Qaq ?_
 unfold Builtin.SmallTypes.ownedTupleIsFree
 show Qaq<|QMq d L (x:=.none) L<|Qgq ?_
 erw[if_true]
 show Qaq<|wpAny_rule<|Qaq<|QMq d L (x:=.ref O) L<|Qaq (wpAny_setField_rec d (by simp) λI g f=>?_)
 replace g:uG I z T O .ellipsis (.bool false):=g
 show Qaq ?_
 erw[List.zipIdx_cons,List.zipIdx_nil,List.forIn_nil,List.forIn_cons]
 show Qaq<|Qaq<|wpAny_onRaise ?_
 show(?_:wpAny _ _ (Builtin.SmallTypes.nextOf (.ref i) >>= _) _ _ _)
 show Qaq (Ca K (S.ext f.extBut D.i1z) (C.ext f.extBut D.l1z) F λG e r R=>?_)
 let#[J,h,B]:=R
 have m:uG G z T O .ellipsis (.bool false):=r _ _ D.i1z.symm g
 have H:e≠z:=λn=>by rw[n,m] at h;cases h;simp at B
 show wpAny_setField_rec m (by simp) λP _ l=>q P e (λc o p _ N _ n=>l.extBut _ _ p<|r _ _ N<|f.extBut _ _ p n) #[J,l.extBut _ _ H h,B]
def MD{prog:X9}{w:Xc}{A:X_}{E:X0}{s:X4}{t:Bool}{z:X8}{T:X8}{O:X8}{i:X8}{j:X8}{a:X8}{b:X8}{k:Nat}{xs:Xa}(D:ZipApart z T O i j a b){p:X8}{op:Obj}{g:Xd}{Q:Fin->Shared->Prop}(K:A.handled=none)(d:uG s.heap z T O (rawInt p) g)(J:s.heap.get? p=some op)(N:IsPair s.heap T (.ref i) (.ref j))(U:It t s.heap i a k)(G:Sq t s.heap a xs)(H:xs[k]?=none)
  (q:∀h' e,Zp.Rest z O i j s.heap h'->(∃o,h'.get? e=some o/\o.cls=.type "StopIteration")->E (.ref e) {s with heap:=h'}):
  wpAny (model prog w) A (Builtin.«zip.__next__» #[[.ref z],[]]) Q E s:=by
 show(?_:wpAny _ _ (field (.ref z) 2 >>= _) _ _ _)
 show Qaq<|QMq d L (x:=.bool false) L ?_
 show(?_:wpAny _ _ (field (.ref z) 3 >>= _) _ _ _)
 show Qaq<|QMq d L (x:=.ref T) L<|Qaq<|wpAny_seqItems N L ?_
 show(?_:wpAny _ _ (Builtin.SmallTypes.ownedTupleIsFree (.ref z) >>= _) _ _ _)
 show Qaq ?_
 unfold Builtin.SmallTypes.ownedTupleIsFree
 show Qaq<|QMq d L (x:=rawInt p) L ?_
 show(?_:wpAny _ _ (loadIfAlive ((p:Int).toNat) >>= _) _ _ _)
 show Qaq ?_
 rw[Int.toNat_natCast]
 show alive ?_
 rw[J]
 show(?_:wpAny _ _ (field (.ref z) 1 >>= _) _ _ _)
 show Qaq<|QMq d L (x:=g) L ?_
 have B:wpAny (model prog w) A (if (g !=Value.bool true)=true then(do let _<-setField (.ref z) 1 (.bool true);pure false) else pure false)
   (λr C=>r=false/\∃f,C={s with heap:=f}/\uG f z T O (rawInt p) (.bool true)/\Heap.SameBut z s.heap f) E s:=by
  by_cases c:(g !=Value.bool true)=true
  ·rw[Qhq c]
   show Qaq (wpAny_setField_rec d (by simp) λf F l=>Qgq #[L,f,L,F,l])
  ·rw[Quq c]
   have e:g=Value.bool true:=by simpa using c
   subst e
   show Qgq #[L,s.heap,L,d,Heap.SameBut.refl _ _]
 show QRq B (λr C m=>?_) λ_ _ h=>h
 let#[rfl,f,rfl,F,l]:=m
 erw[Bool.false_eq_true,if_false]
 show Qaq ?_
 erw[List.forIn_toArray,List.forIn_cons,List.forIn_nil]
 show Qaq<|Qaq<|QLq ?_
 show(?_:wpAny _ _ (Builtin.SmallTypes.nextOf (.ref i) >>= _) _ _ _)
 show Qaq (Ca K (U.ext l.extBut D.i1z) (G.ext l.extBut D.l1z) H λI e R S=>?_)
 show q I e (λc o M _ P _ n=>R _ _ P<|l.extBut _ _ M n) S
def Zs(h:Xe)(z T O i j:X8):Prop:=uG h z T O .none (.bool false)/\(∃u v,IsPair h O u v)\/∃(p:X8) (c:Obj) (d:Xd),uG h z T O (rawInt (p:Nat)) d/\h.get? p=some c/\p≠z/\p≠O/\p≠i/\p≠j
def Zs.but{T:X8}{O:X8}{h h':Xe}(g:Zs h z T O i j)(f:∀c o,c≠S->h.get? c=some o->h'.get? c=some o)(e:z≠S)(F:O≠S)(B:∃o,h'.get? S=some o):Zs h' z T O i j:=by
 rcases g with⟨d,u,v,C⟩|⟨p,r,l,d,m,n⟩
 ·show .inl #[f _ _ e d,u,v,f _ _ F C]
 ·by_cases c:p=S
  ·subst c
   let#[o,q]:=B
   show .inr #[p,o,l,f _ _ e d,q,n]
  ·show .inr #[p,r,l,f _ _ e d,f _ _ c m,n]
def FZ{E:X0}{s:X4}{T:X8}{O:X8}(D:ZipApart z T O i j a b){Q:Option Value->Shared->Prop}(d:Zs s.heap z T O i j)(R:IsPair s.heap T (.ref i) (.ref j))(C:It t s.heap i a k)(m:It t2 s.heap j b k)
  (G:Sq t s.heap a xs) (M:Sq t2 s.heap b ys) (I:xs[k]?=some x) (S:ys[k]?=some y)
  (q:∀h',Zs h' z T O i j->It t h' i a (k+1)->It t2 h' j b (k+1)->IsPair h' s.heap.objs.size x y->Zp.Rest z O i j s.heap h'->Q (some<|.ref s.heap.objs.size) {s with heap:=h'}):
  wpAny (model prog w) A (pyNext<|.ref z) Q E s:=by
 unfold pyNext
 have g:∀{c o},s.heap.get? c=some o->s.heap.objs.size≠c:=λe=>Nat.ne_of_gt (Qiq e)
 let#[oi,W,_]:=C.obj
 let#[oj,X,_]:=m.obj
 rcases d with⟨d,u,v,U⟩|⟨p,Y,Z,d,N,P,K,H,J⟩
 ·have f:s.TypeIs (.ref z) "zip":=#[_,d,L]
  show Qaq (wpAny_attempt (QiQ (name:=Str.ofString "__next__") f F.slot_zip_next (wpAny_call_entry F.slot_zip_next f F.entry_zip_next
   (item D d R U C m G M I S λh' B a2 n r h l=>Qgq (q h' (.inr #[_,_,_,B,h,g d,g U,g W,g X]) n r h l)) (F.args_zip_next_1 _))))
 ·have f:s.TypeIs (.ref z) "zip":=#[_,d,L]
  show Qaq (wpAny_attempt (QiQ (name:=Str.ofString "__next__") f F.slot_zip_next (wpAny_call_entry F.slot_zip_next f F.entry_zip_next
   (again D d N R C m G M I S λh' B n r h l=>Qgq (q h' (.inr #[p,Y,_,B,l _ _ P K H J N,P,K,H,J]) n r h l)) (F.args_zip_next_1 _))))
def yN{A:X_}{E:X0}{s:X4}{T:X8}{O:X8}(D:ZipApart z T O i j a b){Q:Option Value->Shared->Prop}(m:A.handled=none)(c:Zs s.heap z T O i j)(n:IsPair s.heap T (.ref i) (.ref j))(B:It t s.heap i a k)(h:Sq t s.heap a xs)(l:xs[k]?=none)
  (q:∀h',Zp.Rest z O i j s.heap h'->Q none {s with heap:=h'}):wpAny (model prog w) A (pyNext<|.ref z) Q E s:=by
 unfold pyNext
 rcases c with⟨c,u,v,I⟩|⟨p,H,G,c,C,_⟩
 ·have d:s.TypeIs (.ref z) "zip":=#[_,c,L]
  show Qaq (wpAny_attempt (QiQ (name:=Str.ofString "__next__") d F.slot_zip_next (wpAny_call_entry F.slot_zip_next d F.entry_zip_next
   (stop D m c n B h l λh' e r ⟨o,f,g⟩=>Qaq (wpAny_isInstance (T:="StopIteration") (b:=true) #[o,f,g] isSubtype_stop (Qgq (q _ r)))) (F.args_zip_next_1 _))))
 ·have d:s.TypeIs (.ref z) "zip":=#[_,c,L]
  show Qaq (wpAny_attempt (QiQ (name:=Str.ofString "__next__") d F.slot_zip_next (wpAny_call_entry F.slot_zip_next d F.entry_zip_next
   (MD D m c C n B h l λh' e r ⟨o,f,g⟩=>Qaq (wpAny_isInstance (T:="StopIteration") (b:=true) #[o,f,g] isSubtype_stop (Qgq (q _ r)))) (F.args_zip_next_1 _))))
noncomputable def OV(t:Bool):String:=if t=true then "tuple_iterator" else "list_iterator"
noncomputable abbrev H1(t:Bool)(h:Xe)(a:X8):Heap:=h.push {cls:=.type (OV t),data:=.fields (List.toArray [.ref a,.int 0 0])}
noncomputable abbrev H2(t t2:Bool)(h:Xe)(a b:X8):Heap:=(H1 t h a).push {cls:=.type (OV t2),data:=.fields (List.toArray [.ref b,.int 0 0])}
noncomputable abbrev H3(t t2:Bool)(h:Xe)(a b:X8):Heap:=(H2 t t2 h a b).push {cls:=.type "tuple",data:=.seq (List.toArray [.ref h.objs.size,.ref (H1 t h a).objs.size])}
noncomputable abbrev H4(t t2:Bool)(h:Xe)(a b:X8):Heap:=(H3 t t2 h a b).push {cls:=.type "tuple",data:=.seq (List.toArray [.none,.none])}
noncomputable abbrev H5(t t2:Bool)(h:Xe)(a b:X8):Heap:=(H4 t t2 h a b).push {cls:=.type "zip",data:=.fields (List.toArray [.none,.bool false,.bool false,.ref (H2 t t2 h a b).objs.size,.ref (H3 t t2 h a b).objs.size])}
def Sq.push(g:Sq t h a xs)(o:Obj):Sq t (h.push o) a xs:=g.at λ_ e=>Qcq _ e
def DI(t t2:Bool)(a b:X8)(xs ys:Xa):Meets (Builtin.«zip.__new__» #[[.type "zip",.ref a,.ref b],[]]) (λ_ R s=>Sq t s.heap a xs/\Sq t2 s.heap b ys/\R (.ok (.ret (.ref (H4 t t2 s.heap a b).objs.size))) {s with heap:=H5 t t2 s.heap a b}):=
 .of_wp λm w A R s h=>by
  let#[i,g,d,e,f]:=s
  let#[l,n,h]:=h
  let o:=sub_zip
  let c:=n.push {cls:=.type (OV t),data:=.fields (List.toArray [.ref a,.int 0 0])}
  cases t <;>cases t2
  ·have j:Heap.IsList (Shared.heap #[i,g,d,e,f]) a xs:=l
   have k:Heap.IsList (Shared.heap ⟨i.push {cls:=.type "list_iterator",data:=.fields (List.toArray [.ref a,.int 0 0])},g,d,e,f⟩) b ys:=c
   wp_walk using wpAny_pyIter_list j,wpAny_pyIter_list k
   show#[_,L,h]
  ·have j:Heap.IsList (Shared.heap #[i,g,d,e,f]) a xs:=l
   have k:Heap.IsTuple (Shared.heap ⟨i.push {cls:=.type "list_iterator",data:=.fields (List.toArray [.ref a,.int 0 0])},g,d,e,f⟩) b ys:=c
   wp_walk using wpAny_pyIter_list j,wpAny_pyIter_tuple k
   show#[_,L,h]
  ·have j:Heap.IsTuple (Shared.heap #[i,g,d,e,f]) a xs:=l
   have k:Heap.IsList (Shared.heap ⟨i.push {cls:=.type "tuple_iterator",data:=.fields (List.toArray [.ref a,.int 0 0])},g,d,e,f⟩) b ys:=c
   wp_walk using wpAny_pyIter_tuple j,wpAny_pyIter_list k
   show#[_,L,h]
  ·have j:Heap.IsTuple (Shared.heap #[i,g,d,e,f]) a xs:=l
   have k:Heap.IsTuple (Shared.heap ⟨i.push {cls:=.type "tuple_iterator",data:=.fields (List.toArray [.ref a,.int 0 0])},g,d,e,f⟩) b ys:=c
   wp_walk using wpAny_pyIter_tuple j,wpAny_pyIter_tuple k
   show#[_,L,h]
def JB{E:X0}{s:X4}{Q:X0}(p:Sq t s.heap a xs)(r:Sq t2 s.heap b ys)
  (q:∀h',uG h' (s.heap.objs.size+4) (s.heap.objs.size+2) (s.heap.objs.size+3) .none (.bool false)->IsPair h' (s.heap.objs.size+2) (.ref s.heap.objs.size) (.ref (s.heap.objs.size+1))->IsPair h' (s.heap.objs.size+3) .none .none->
   It t h' s.heap.objs.size a 0->It t2 h' (s.heap.objs.size+1) b 0->(∀c o,s.heap.get? c=some o->h'.get? c=some o)->Q (.ref (s.heap.objs.size+4)) {s with heap:=h'}):
  wpAny (model prog w) A (call (.type "zip") [.ref a,.ref b]) Q E s:=by
 show callType_new F.called_zip (!1) (F.typeCall_zip_2 _ _) (F.newCall_zip_2 _ _) (λf=>F.args_object_init_3 f _ _) F.entry_zip_new (DI t t2 a b xs ys) #[p,r,?_]
 have g:(H1 t s.heap a).objs.size=s.heap.objs.size+1:=Heap.size_push ..
 have e:(H2 t t2 s.heap a b).objs.size=s.heap.objs.size+2:=by rw[Heap.size_push,g]
 have h:(H3 t t2 s.heap a b).objs.size=s.heap.objs.size+3:=by rw[Heap.size_push,e]
 have k:(H4 t t2 s.heap a b).objs.size=s.heap.objs.size+4:=by rw[Heap.size_push,h]
 have d:(H5 t t2 s.heap a b).get? (H4 t t2 s.heap a b).objs.size=some _:=Qrq _ L
 have l:(H5 t t2 s.heap a b).get? (H3 t t2 s.heap a b).objs.size=some _:=Qcq _ (Qrq _ L)
 have i:(H5 t t2 s.heap a b).get? (H2 t t2 s.heap a b).objs.size=some _:=Qcq _ (Qcq _<|Qrq _ L)
 have j:(H5 t t2 s.heap a b).get? (H1 t s.heap a).objs.size=some _:=Qcq _ (Qcq _<|Qcq _<|Qrq _ L)
 have m:(H5 t t2 s.heap a b).get? s.heap.objs.size=some _:=Qcq _ (Qcq _<|Qcq _<|Qcq _<|Qrq _ L)
 show(?_:_/\_)
 rw[e,h,k] at d
 rw[g,e] at i
 rw[h] at l
 rw[g] at j
 rw[k]
 show#[#[_,d,L],q _ d i l ?_ ?_ λc o n=>Qcq _<|Qcq _<|Qcq _<|Qcq _<|Qcq _ n]
 ·cases t <;>show#[_,m,L,L]
 ·cases t2 <;>show#[_,j,L,L]
def qg:typeLookup (.type "zip") "__getattr__"=pure none:=by rw[typeLookup_type,builtinLookup_eq_fast];kernel_rfl
def kc:entryFor table "zip.__getattribute__"=some Builtin.«object.__getattribute__»:=
 entryFor_alias (id':="object.__getattribute__") (by kernel_rfl) (by decide +kernel) (by decide +kernel) (by kernel_rfl)
def rM:typeLookup (Value.type "zip") (Str.ofString "keys")=pure none:=by
 rw[typeLookup_type,builtinLookup_eq_fast]
 rfl
def tV(a:X8)(fs:Xa)(name:Str)(u:Tok)(e:typeLookup (.type "zip") name=pure none)(b:(["__module__","__name__","__qualname__","__doc__","__annotations__"]:List Str).contains name=false)(hsz:autoParam (name.length+100<=sizeLine) dO._auto_1):
  Meets (Builtin.«object.__getattribute__» #[[.ref a,.str name u],[]]) (λA R s=>s.heap.get? a=some {cls:=.type "zip",dict:=none,data:=.fields fs,slots:= (List.toArray [])}/\raisesAttr (.ref a) name A R s):=
 Meets.of_wp λf w A R s c=>by
  let#[j,g,d,h,i]:=s
  let#[k,c]:=c
  have l:(⟨j,g,d,h,i⟩:Shared).TypeIs (.ref a) "zip":=#[_,k,L]
  unfold Builtin.«object.__getattribute__»
  repeat (any_goals (first|assumption|wp_step))
  erw[b,Bool.false_eq_true,if_false]
  repeat (any_goals (first|assumption|wp_step))
  show wpAny_raiseAttrError c.1 c.2<|attrMsg_fits (by decide +kernel) hsz
def C0{A:X_}{E:X0}{s:X4}{Q:Option Value->Shared->Prop}
  (j:s.heap.get? a=some {cls:=.type "zip",dict:=none,data:=.fields fs,slots:= (List.toArray [])}) (p:A.handled=none)
  (h:∀(h':Xe) (i:Nat),(∀b o,s.heap.get? b=some o->h'.get? b=some o)->Q none {s with heap:=h',toks:=i}):
  wpAny (model prog w) A (getAttr? (.ref a)<|Str.ofString "keys") Q E s:=by
 let#[q,g,d,i,k]:=s
 have n:∀x,Shared.TypeIs ⟨q,g,d,x,k⟩ (.ref a) "zip":=λx=>#[_,j,L]
 let l:=sub_AttributeError
 let v:=F.slot_zip_getattribute.lookup
 let t:=F.slot_zip_getattribute.bind (Value.ref a)
 let r:=qg
 unfold getAttr? mkText getAttrBy? getAttrBy
 show Qaq<|Qaq<|wpAny_fresh'<|Qgq<|Qaq<|wpAny_attempt<|QLq ?_
 unfold typeOf
 show Qaq<|Qaq<|wpAny_loadPart' j<|Qgq<|Qaq<|wpAny_of_eq v<|QgQ L ?_
 unfold getAttrByItsOwn hookBefore
 show Qaq<|QgQ L<|Qgq<|Qaq<|wpAny_attempt<|QLq ?_
 unfold callGetattribute
 show QgQ L ?_
 unfold boundAndCalled
 show Qaq<|wpAny_of_eq t ?_
 show call_meets F.slot_zip_getattribute (n (i+1)) kc (F.args_zip_getattribute_2 (Value.ref a) _) (tV a fs (Str.ofString "keys") i rM (by decide +kernel) (by decide +kernel)) #[j,p,λh' f e c=>?_]
 let#[y,z,u]:=c.there
 have m:Shared.TypeIs ⟨h',g,d,f,k⟩ (.ref e) "AttributeError":=#[_,u,L]
 show wpAny _ _ (getattributeRaised _ _ _ _ _ _ _) _ _ _
 unfold getattributeRaised
 show Qaq<|wpAny_isInstance m l<|wpAny_ite_true L ?_
 unfold hookBehind hookOrError
 show Qaq<|QgQ L<|wpAny_of_eq r ?_
 show wpAny _ _ (attributeErrorLeaves _ _ _ _ _) _ _ _
 unfold attributeErrorLeaves
 show wpAny_ite_true L<|wpAny_throw ?_
 show Qaq<|wpAny_isInstance m l<|wpAny_ite_true L<|Qgq<|h h' f c.keeps
def uP{A:X_}{E:X0}{s:X4}{Q:X0}
  (k:s.heap.get? z=some {cls:=.type "zip",dict:=none,data:=.fields fs,slots:= (List.toArray [])}) (i:A.handled=none)
  (h:∀(h':Xe) (d:Nat),(∀b o,(s.heap.push {cls:=.type "dict",data:=.dict (List.toArray [])}).get? b=some o->h'.get? b=some o)->
   wpAny (model prog w) A.in1.in1 (pyIter (.ref z)) (λit s'=>codeAny (model prog w) A.in1 (.builtin "dict.update.loop" {pos:= [.ref s.heap.objs.size,it,rawInt 0,.none]}) (wants (λr c=>r=.none/\Q (.ref s.heap.objs.size) c) E) s') E {s with heap:=h',toks:=d}):
  wpAny (model prog w) A (call (.type "dict") [.ref z]) Q E s:=by
 show Dk.zi ?_
 let l:=Qrq s.heap (o:={cls:=.type "dict",data:=.dict (List.toArray [])}) L
 have g:Shared.TypeIs {s with heap:=s.heap.push {cls:=.type "dict",data:=.dict (List.toArray [])}} (.ref s.heap.objs.size) "dict":=#[_,l,L]
 let a:=Qcq {cls:=.type "dict",data:=.dict (List.toArray [])} k
 have j:Shared.TypeIs {s with heap:=s.heap.push {cls:=.type "dict",data:=.dict (List.toArray [])}} (.ref z) "zip":=#[_,a,L]
 unfold Builtin.«dict.__init__» Builtin.Dict.selfAndRest
 show Qaq<|Qaq<|wpAny_notOrdered_dict g ?_
 show Qaq<|Qgq<|Qgq ?_
 show wpAny _ _ (Builtin.Dict.updateFrom _ _ _ _ _) _ _ _
 unfold Builtin.Dict.updateFrom
 show Qaq<|wpAny_typeOf j<|wpAny_ite_true (by decide +kernel)<|Qaq (C0 a (by simpa using i) λh' d f=>?_)
 show wpAny_ite_true L ?_
 show Qaq<|wpAny_rule<|Qaq (QRq (h h' d f) (λit s' q=>?_) λe s' q=>q)
 show Qgq #[plainId_quiet (by decide +kernel) _,q]
end Zq
namespace Zq
open PySem Dk
section
variable{K:Type}[DecidableEq K]
def AQ{prog:X9}{w:Xc}{knd:KeyKind prog w K}{T:X8}{O:X8}{ys:Xa}{A:X_}{R:Result->Shared->Prop}(hA:A.in1.handled=none)(D:ZipApart z T O i j a b)(nS:S≠z/\S≠T/\S≠O/\S≠i/\S≠j/\S≠a/\S≠b)(a5:a≠T/\b≠T)(f:Nat->K)(x:∀(n:Nat) v,xs[n]?=some v->knd.is (f n) v=true)(a6:xs.size<=ys.size)(hn:xs.size<=sizeLine):
  ∀ (m n:Nat) (c:Int) (s:X4),xs.size-n=m->n<=xs.size->Zs s.heap z T O i j->IsPair s.heap T (.ref i) (.ref j)->It t s.heap i a n->It t2 s.heap j b n->Sq t s.heap a xs->Sq t2 s.heap b ys->Heap.DictOf knd s.heap S (LU f (λn=>ys.getD n .none) n)->
    (∀h' X,Heap.DictOf knd h' S (LU f (λn=>ys.getD n .none) xs.size)->(∀c o,c≠z->c≠O->c≠i->c≠j->c≠S->s.heap.get? c=some o->h'.get? c=some o)->R (.ok (.ret .none)) {s with heap:=h',toks:=X})->
    codeAny (model prog w) A (.builtin "dict.update.loop" {pos:= [.ref S,.ref z,rawInt c,.none]}) R s:=by
 let#[n1,n2,P,Q,J,n6,n7]:=nS
 intro m
 induction m with
 | zero=>
   intro n c s hm a3 I B gi gj y N G h
   have e:n=xs.size:=by omega
   subst e
   show codeAny_builtin kG ?_
   rw[Around.under_plainId gK]
   show wpAny _ _ (do let __x<-pyNext (.ref z);_) _ _ _
   show Qaq (yN D hA I B gi y (by simp) λh' r=>?_)
   show Qaq<|Qgq<|Qgq (h h' s.toks ?_ λc o g l p k _ e=>r c o g l p k e)
   let#[o,es,ep,Z,M]:=G
   show#[o,es,ep,r _ _ n1 P Q J Z,M]
 | succ m ih=>
   intro n c s hm a3 I B gi gj y N G h
   have u:n<xs.size:=by omega
   have ex:xs[n]?=some xs[n]:=by simp[u]
   have ey:ys[n]?=some ys[n]:=by simp[show n<ys.size by omega]
   show codeAny_builtin kG ?_
   rw[Around.under_plainId gK]
   show wpAny _ _ (do let __x<-pyNext (.ref z);_) _ _ _
   show Qaq (FZ D I B gi gj y N ex ey λhp a1 U H gp r=>?_)
   have a2:Heap.DictOf knd hp S (LU f (λn=>ys.getD n .none) n):=by
     let#[o,es,ep,Z,M]:=G
     show#[o,es,ep,r _ _ n1 P Q J Z,M]
   show Qaq<|QLq<|Qaq<|wpAny_tryCatch ?_
   unfold Builtin.Dict.pairItems
   show Qaq<|wpAny_typeOf (T:="tuple") #[_,gp,L]<|wpAny_ite_true L<|Qaq ?_
   unfold seqItems?
   show Qaq<|wpAny_load' gp<|Qgq<|Qgq<|QLq<|wpAny_dictSet_pairs (x n _ ex) a2 (λh' q hs=>?_)<|QAq (CN f _ n) (!0)
   have ev:ys.getD n .none=ys[n]:=by simp[Array.getD,show n<ys.size by omega]
   have F:∀c o,c≠S->hp.get? c=some o->h'.get? c=some o:=λc o hc e=>by rw[hs.2 c hc];show e
   have d:∀c o,c≠z->c≠O->c≠i->c≠j->c≠S->s.heap.get? c=some o->h'.get? c=some o:=λc o g l p k C e=>F c o C (r c o g l p k e)
   have a0:∃o,h'.get? S=some o:=by let#[o,_,_,e,_]:=q;show#[o,e]
   have Y:Heap.DictOf knd h' S (LU f (λn=>ys.getD n .none) (n+1)):=by
     show Heap.DictOf knd h' S (stored _ (f n)<|ys.getD n .none)
     rw[ev]
     show q
   show Qgq #[plainId_quiet gK _,ih (n+1) (c+1) _ (!0) u (a1.but F n1.symm P.symm a0) ?_ (U.at λo e=>F _ o Q.symm e) (H.at λo e=>F _ o J.symm e) ?_ ?_ Y λW X a4 k4=>h W X a4 λc o g l p k C e=>k4 c o g l p k C<|d c o g l p k C e]
   · show d _ _ D.TIz D.TITO D.TIi1 D.TIi2 n2.symm B
   · show y.at λo e=>d _ o D.l1z D.l1TO D.l1i1 D.l1i2 n6.symm e
   · show N.at λo e=>d _ o D.l2z D.l2TO D.l2i1 D.l2i2 n7.symm e
end
end Zq
namespace L2
open PyProof.Rows Zq
def zG(K:X1)(t:Bool)(H:Hp)(a:X8)(xs:List V):Prop:=if t=true then iJ K H a xs else i8 K H a xs
def Inv.sq(I:Inv X c d H s)(h:zG X.K t H a xs):∃b:List Value,bL xs b/\Sq t s.heap a b.toArray/\xs.length<=sizeLine:=by
 cases t with
 | true=>
   let#[b,r,p,z]:=I.tuple h
   show#[b,r,(show s.heap.IsTuple a b.toArray from p),z]
 | false=>
   let#[b,r,p,z]:=I.list h
   show#[b,r,(show s.heap.IsList a b.toArray from p.isList),z]
def Sq.lt(g:Sq t h a xs):a<h.objs.size:=by
 cases t with
 |true=>let#[o,e,_]:=(show h.IsTuple a xs from g);show Qiq e
 |false=>let#[o,e,_]:=(show h.IsList a xs from g);show Qiq e
def Lo(K:X1):List V->Hp->VK->Prop:=λf H Q=>∃(t e:Bool) (a b:X8) (d:List Key) (c:List V),f= [.ref a,.ref b]/\zG K t H a (d.map kV)/\zG K e H b c/\d.length=c.length/\∀p,H p=none->Q (.ref p) (upd H p<|.dK (kz []<|d.zip c))
def An{X:Cx}(B:X.calm=true)(a0:Gl X "dict")(a1:X.mg "dict"=none)(hg:Gl X "zip")(hm:X.mg "zip"=none)(ha:PA X [x,y] ta)(hs:autoParam (starEach [x,y] X.env= [(false,eval x X.env),(false,eval y X.env)]) db._auto_1)(M:autoParam (starEach [y] X.env= [(false,eval y X.env)]) db._auto_1)
  (he:autoParam (starEach [Expr.Call (.Name "zip" S) [x,y] [] J] X.env= [(false,eval (Expr.Call (.Name "zip" S) [x,y] [] J) X.env)]) db._auto_1):
  PE X (.Call (.Name "dict" p1) [.Call (.Name "zip" S) [x,y] [] J] [] c1) (NW (Lo X.K) ta):=by
 intro C s σ H Q I h
 show wpAny_Call_Name_kw<|jh I a0 a1 (by rfl) ?_
 show PyProof.Rows.callWith_type1 ?_ he L
 rw[he]
 show wpAny _ _ (spliced ((false,eval (Expr.Call (.Name "zip" S) [x,y] [] J) X.env)::backTo c1 (starEach [] X.env))) _ _ s
 show Calls.spliced_cons ?_
 show wpAny_Call_Name_kw<|jh I hg hm (by rfl) ?_
 show PyProof.Rows.callWith_type1 (cE (ha J C s σ H _ I h) λus j ⟨vs,H1,F,r1,q1⟩=>?_) (by rw[hs,M]) (by rw[M];rfl)
 let#[t,t2,a,b,d,ys,e,qa,qb,hl,q]:=q1
 subst e
 cases r1 with
 | cons r rr=>
   cases rr with
   | cons r' rr=>
     cases rr
     cases r
     cases r'
     let#[z,ra,pa,za]:=F.sq qa
     let#[m,rb,pb,zb]:=F.sq qb
     let lx:=Sq.lt pa
     let ly:=Sq.lt pb
     let la:=ra.length
     let lb:=rb.length
     rw[lQm] at la
     show Zq.JB pa pb λg U gT gO gi gj Z=>Calls.spliced_nil ?_
     have I2:Inv X C σ H1 {j with heap:=g}:=F.kept (t':=j.toks) Z
     show Zq.uP U (F.ok.hd B) λW tk k2=>?_
     have p:∀c o,g.get? c=some o->W.get? c=some o:=λc o e=>k2 c o (Qcq _ e)
     have a5:W.get? g.objs.size=some {cls:=.type "dict",data:=.dict (List.toArray [])}:=k2 _ _ (Qrq g L)
     show wpAny_pyIter_zip (p _ _ U) ?_
     let DD:=PyProof.Rows.zipApart_new lx ly
     have f:j.heap.objs.size+4<g.objs.size:=Qiq U
     have R:∀(n:Nat) k,d[n]?=some k->d.getD n (.inl 0)=k:=λn k e=>by rw[Qlq,e];rfl
     have G:∀c,c<j.heap.objs.size->c≠j.heap.objs.size+4/\c≠j.heap.objs.size+3/\c≠j.heap.objs.size/\c≠j.heap.objs.size+1/\c≠g.objs.size:=λc B=>
       #[Qwq<|Qqq B<|Nat.le_add_right _ _,Qwq<|Qqq B<|Nat.le_add_right _ _,Qwq B,Qwq<|Qqq B<|Nat.le_add_right _ _,Qwq<|Nat.lt_trans (Qqq B<|Nat.le_add_right _ 4) f]
     show Zq.AQ (knd:=bO X.prog X.w) (t:=t) (t2:=t2) (xs:=z.toArray) (ys:=m.toArray) (show X.A.in1.in1.handled=none from F.ok.hd B) DD ?_ ?_ (λn=>d.getD n<|.inl 0) ?_ (by simp;omega) (by simp;omega) z.toArray.size 0 0 _ L (Nat.zero_le _)
       (.inl #[p _ _ U,_,_,p _ _ gO]) (p _ _ gT) (gi.at λo e=>p _ o e) (gj.at λo e=>p _ o e) (pa.at λo e=>p _ o<|Z _ o e) (pb.at λo e=>p _ o<|Z _ o e) ?_ ?_
     · show#[Nat.ne_of_gt f,Nat.ne_of_gt<|Nat.lt_trans ?_ f,Nat.ne_of_gt<|Nat.lt_trans ?_ f,Nat.ne_of_gt<|Nat.lt_trans ?_ f,Nat.ne_of_gt<|Nat.lt_trans ?_ f,(G _ lx).2.2.2.2.symm,(G _ ly).2.2.2.2.symm] <;>(show _<j.heap.objs.size+4) <;>omega
     · show#[Qwq<|Qqq lx<|Nat.le_add_right _ _,Qwq<|Qqq ly<|Nat.le_add_right _ _]
     · intro n v hv
       have P:z[n]?=some v:=by simpa using hv
       have hn:n<d.length:=by
         have:=(gQs.mp P).1
         omega
       let N:=gQe hn
       let#[u,Y,ru]:=ra.get (i:=n) (x:=kV d[n]) (by rw[gQm,N];rfl)
       rw[P] at Y
       cases Y
       show(bO X.prog X.w).is (d.getD n<|.inl 0) v=true
       rw[R n _ N]
       show key_is ru _ _
     · let#[o,es,ep,e1,e2]:=Heap.DictOf.new (knd:=bO X.prog X.w) g
       show#[o,es,ep,k2 _ _ e1,e2]
     · intro h3 a3 dd k3
       have a2:g.objs.size≠sysModules:=by
         have:=I2.big
         show Nat.ne_of_gt this
       have le:j.heap.objs.size<=g.objs.size:=nQl (Nat.lt_of_le_of_lt (Nat.le_add_right _ 4) f)
       show#[L,.ref g.objs.size,_,F.laid (a:=g.objs.size) (o:=.dK (kz []<|d.zip ys)) (t':=a3) (h':=h3) (λc o e=>?_) le<|sF ?_ (beq_eq_false_iff_ne.mpr a2) ?_ dd,L,q _<|F.hok.fresh le]
       · let#[o1,o2,o3,o4,o5]:=G c (Qiq e)
         show k3 c o o1 o2 o3 o4 o5<|p c o<|Z c o e
       · have:=jg (d.zip ys) []
         rw[QGq,List.length_zip] at this
         omega
       · have a4:∀n,n<=d.length->KV (kz [] ((d.zip ys).take n)) (Dk.LU (λn=>d.getD n<|.inl 0) (λn=>m.toArray.getD n .none) n):=by
           intro n
           induction n with
           |zero=>intro _;show .nil
           | succ n ih=>
             intro hn
             let N:=gQe (l:=d) (i:=n) (!0)
             let hy:=gQe (l:=ys) (i:=n) (!0)
             let#[u,Y,ru]:=rb.get hy
             have ez:(d.zip ys)[n]?=some (d[n],ys[n]):=by rw[List.getElem?_zip_eq_some];show#[N,hy]
             have e3:(d.zip ys).take (n+1)=(d.zip ys).take n++ [(d[n],ys[n])]:=by rw[QYq,ez];rfl
             have eu:m.toArray.getD n .none=u:=by
               have:=(gQs.mp Y)
               let#[g,W]:=this
               simp[Array.getD,g,W]
             rw[e3]
             show KV (List.foldl _ [] ((d.zip ys).take n++ [(d[n],ys[n])])) (stored _ (d.getD n<|.inl 0)<|m.toArray.getD n .none)
             rw[List.foldl_append,R n _ N,eu]
             show(ih (!0)).put d[n] ru
         have:=a4 d.length (Qmq _)
         have e4:(d.zip ys).take d.length=d.zip ys:=by
           have:(d.zip ys).length=d.length:=by rw[List.length_zip];omega
           rw[<-this,QEq]
         rw[e4] at this
         have e5:z.toArray.size=d.length:=by simp;omega
         rw[e5]
         show this
end L2
namespace Zq
open PySem
def DK{E:X0}{s:X4}{T:X8}{O:X8}(D:ZipApart z T O i j a b){Q:Option Value->Shared->Prop}(c:uG s.heap z T O .none (.bool false))(o:IsPair s.heap T (.ref i) (.ref j))(G:IsPair s.heap O u v)(H:It t s.heap i a k)(h:It t2 s.heap j b k)
  (e:Sq t s.heap a xs) (g:Sq t2 s.heap b ys) (f:xs[k]?=some x) (C:ys[k]?=some y)
  (q:∀h',uG h' z T O (rawInt s.heap.objs.size) (.bool false)->IsPair h' O x y->It t h' i a (k+1)->It t2 h' j b (k+1)->IsPair h' s.heap.objs.size x y->Zp.Rest z O i j s.heap h'->Q (some<|.ref s.heap.objs.size) {s with heap:=h'}):
  wpAny (model prog w) A (pyNext<|.ref z) Q E s:=by
 have d:s.TypeIs (.ref z) "zip":=#[_,c,L]
 unfold pyNext
 show Qaq (wpAny_attempt (QiQ (name:=Str.ofString "__next__") d F.slot_zip_next (wpAny_call_entry F.slot_zip_next d F.entry_zip_next
  (item D c o G H h e g f C λh' r B l n m p=>Qgq (q h' r B l n m p)) (F.args_zip_next_1 _))))
end Zq
namespace L2
open PyProof.Rows Zq
def Inv.sq_inj(I:Inv X b c H s)(h:zG X.K t H a xs)(h':zG X.K t H a ys):xs=ys:=by
 cases t with
 |true=>show I.tuple_inj h h'
 |false=>show I.list_inj h h'
noncomputable def QG(K:X1)(t t2:Bool)(a b:X8):It:=
  ⟨λi H=>∃c d x y,zG K t H a c/\zG K t2 H b d/\c[i]?=some x/\d[i]?=some y,
   λi H v e=>∃p,v=.ref p/\H p=none/\∀c d x y,zG K t H a c->zG K t2 H b d->c[i]?=some x->d[i]?=some y->e=upd H p (.tup [x,y]),
   λi H=>∃c,zG K t H a c/\c.length<=i⟩
def D_{P:X9}{w:Xc}{K:X1}{C:List Expr}{x1:Nat}{tp:Pos}{t t2:Bool}{z T O i j a b:X8}(D:ZipApart z T O i j a b):
  Turn P w K (.Tuple C x1 tp) (QG K t t2 a b) [z,T,O,i,j] z (λn h=>uG h z T O .none (.bool false)/\IsPair h T (.ref i) (.ref j)/\(∃u v,IsPair h O u v)/\Zq.It t h i a n/\Zq.It t2 h j b n) where
 mem:=by simp
 obj:=λn h ⟨f,g,⟨u,v,l⟩,m,q⟩ c d=>by
  simp at d
  rcases d with rfl|rfl|rfl|rfl|rfl
  ·show#[_,f,λv n=>by cases n]
  ·show#[_,g,λv n=>by cases n]
  ·show#[_,l,λv n=>by cases n]
  ·show m.obj
  ·show q.obj
 keep:=λn h h' ⟨f,g,⟨u,v,l⟩,m,q⟩ k=>#[k z (by simp) _ f,k T (by simp) _ g,#[u,v,k O (by simp) _ l],m.at λo e=>k i (by simp) o e,q.at λo e=>k j (by simp) o e]
 item:=by
  rintro X U S hK d n p s σ H E I G ⟨f,g,⟨u,v,l⟩,m,q⟩ R
  subst U S hK
  let#[xs,ys,x,y,F,qb,N,hy]:=R
  let#[Z,Q,Y,_]:=I.sq F
  let#[a0,rb,pb,_]:=I.sq qb
  let#[ux,ex,rx]:=Q.get N
  let#[uy,ey,ry]:=rb.get hy
  have B:∀{c o},s.heap.get? c=some o->c≠s.heap.objs.size:=λe=>Qwq (Qiq e)
  have A:∀c∈[z,T,O,i,j],c≠s.heap.objs.size:=λc d=>by
   let#[oi,e1,_]:=m.obj
   let#[oj,e2,_]:=q.obj
   simp at d
   rcases d with rfl|rfl|rfl|rfl|rfl
   ·show B f
   ·show B g
   ·show B l
   ·show B e1
   ·show B e2
  show Zq.DK D f g l m q Y pb (x:=ux) (y:=uy) (by simpa using ex) (by simpa using ey) λh1 z1 O1 i1 j1 n1 J=>#[_,L,?_]
  let T1:=J _ _ D.TIz D.TITO D.TIi1 D.TIi2 g
  show wpAny_letOwnedTupleGo_zip z1 λh2 z2 r=>?_
  have I2:Inv X p σ (upd H s.heap.objs.size<|.tup [x,y]) {s with heap:=h2}:=I.turnedNew (t':=s.toks) (fp:= [z,T,O,i,j]) G (λc o d e=>?_) (Qmq _) ?_
  ·show#[.ref s.heap.objs.size,_,I2,L,#[s.heap.objs.size,L,I.hok.fresh<|Qmq _,λa1 a2 x' y' q1 q2 M q4=>?_],#[z2,r.extBut _ _ D.TIz T1,#[_,_,r.extBut _ _ D.TOz O1],i1.ext r.extBut D.i1z,j1.ext r.extBut D.i2z],λc d=>?_]
   ·rw[I.sq_inj q1 F] at M
    rw[I.sq_inj q2 qb] at q4
    rw[N] at M
    rw[hy] at q4
    cases M
    cases q4
    rfl
   ·rw[aU (A c d)]
    show(G c d).1
  ·simp at d
   show r.extBut _ _ d.1<|J c o d.1 d.2.2.1 d.2.2.2.1 d.2.2.2.2 e
  ·show#[by show 2<=_;decide,[ux,uy],.cons rx (.cons ry .nil),_,r.extBut _ _ (λe=>A z (by simp) e.symm) n1,L,L,0,L]
 done:=by
  rintro X U S hK d n p s σ H E I G ⟨f,g,⟨u,v,l⟩,m,q⟩ R
  subst U S hK
  let#[xs,F,N]:=R
  let#[Z,Q,Y,_]:=I.sq F
  let hl:=Q.length
  show Zq.yN D (I.ok.hd d) (.inl #[f,u,v,l]) g m Y (by simp;omega) λh1 J=>#[L,I.turnedL (t':=s.toks) (fp:= [z,T,O,i,j]) G λc o d e=>?_]
  simp at d
  show J c o d.1 d.2.2.1 d.2.2.2.1 d.2.2.2.2 e
 self:=λ_ _ _ _ _ ⟨f,_⟩ h=>wpAny_pyIter_zip f h
def QZ(K:X1)(g:TA):TI:=λh H R=>g h H λd H1=>∃(t c:Bool) (a b:X8) (f e:List V),d= [.ref a,.ref b]/\zG K t H1 a f/\zG K c H1 b e/\R (QG K t c a b) H1
def Hs(B:Gl X "zip")(Y:X.mg "zip"=none)(Z:PA X [a,b] o)(U:autoParam (starEach [a,b] X.env= [(false,eval a X.env),(false,eval b X.env)]) db._auto_1)(g:autoParam (starEach [b] X.env= [(false,eval b X.env)]) db._auto_1):
  PI X (.Tuple d x1 S) (.Call (.Name "zip" p) [a,b] [] j) (QZ X.K o):=by
 intro i s W H R I h
 show Call_<|jh I B Y (by rfl)<|PyProof.Rows.callWith_type1 (cE (Z j i s W H _ I h) λus u ⟨vs,H1,f,A,N⟩=>?_) (by rw[U,g]) (by rw[g];rfl)
 let#[t,t2,x,y,xs,ys,e,qa,F,q]:=N
 subst e
 cases A with
 | cons r l=>
   cases l with
   | cons z l=>
     cases l
     cases r
     cases z
     let#[M,ra,v,_]:=f.sq qa
     let#[P,rb,pb,_]:=f.sq F
     let G:=Sq.lt v
     let C:=Sq.lt pb
     show Zq.JB v pb λh' m Q gO gi J k=>?_
     show wpAny_pyIter_zip m #[_,_,_,_,H1,L,f.kept (t':=u.toks) k,D_<|PyProof.Rows.zipApart_new G C,#[m,Q,#[_,_,gO],gi,J],λc w=>?_,q]
     have n:u.heap.objs.size<=c:=by
       erw[Qsq,QXq,or_false] at w
       rcases w with e|e|e|e|e <;>(rw[e];first|show Qmq _|show Nat.le_add_right _ _)
     show f.fpOk n<|f.hok.fresh n
end L2
namespace DL
open PyProof.Rows L2
def AA.sqB(h:AA M ρ H a vs t):L2.zG M.K (!t.isL) H a vs:=by
 cases c:t.isL with
 |true=>show h.sqL c
 |false=>show h.sqT c
noncomputable def yY(xs ys:List D):List D:=List.zipWith (λx y=>D.tup [x,y]) xs ys
open Classical in
def GA(f g:et):sE:=λb S=>(f b S).bind λ(p,c)=>(g b c).bind λ(r,a)=>if p.2.stays a p.1/\p.1.length<=r.1.length then some ((yY p.1 r.1,λS=>p.2.stays S p.1/\r.2.stays S r.1),a) else none
def Qg(hg:Gl X "zip")(hm:X.mg "zip"=none)(ha:PE X a (tQ (md X) f))(hb:PE X b (tQ (md X) g))(P:autoParam (starEach [a,b] X.env= [(false,eval a X.env),(false,eval b X.env)]) db._auto_1)(k:autoParam (starEach [b] X.env= [(false,eval b X.env)]) db._auto_1):
  PI X (.Tuple n t tp) (.Call (.Name "zip" p) [a,b] [] h) (tI (md X)<|GA f g):=N8 (Hs hg hm (cK ha (cK hb fu k) (by rw[P,k])) P k) λσ H R ⟨ρ,N,S,ds,W,S',ok,e,q⟩=>by
 let#[#[#[r,t1],S1],e1,e]:=aq e
 let#[#[#[m,t2],S2],e2,e]:=aq e
 dsimp only at e
 split at e
 ·rename_i c
  let#[e3,rfl]:=bZ e
  let#[rfl,rfl]:=Prod.mk.inj e3
  show#[ρ,N,S,r,t1,S1,ok,e1,λA a1 a0 H1 t G h1 r1=>#[A,N,S1,m,t2,S2,ok.to t G,e2,λa3 b1 ws H2 M o Q r2=>?_]]
  let#[B,K,r3]:=h1.to r1 M o c.1
  show#[_,_,a1,b1,B,ws,L,K.sqB,Q.sqB,q _ _ _ (t.trans M) o λi a2 S3 H3 Y l w=>?_]
  let#[C,I,g2]:=K.to r3 Y l w.1
  let#[U,g3,g4]:=Q.to r2 Y l w.2
  show#[λd j=>?_,λhi=>#[C,I.sqB,?_]]
  ·unfold yY at j
   rw[List.getElem?_zipWith] at j
   cases s:r[i]? with
   |none=>rw[s] at j;cases j
   | some x=>
     cases F:m[i]? with
     |none=>rw[s,F] at j;cases j
     | some y=>
       rw[s,F] at j
       cases j
       let#[u,Z,ru]:=g2.get s
       let#[z,J,rz]:=g4.get F
       show#[#[C,U,u,z,I.sqB,g3.sqB,Z,J],λv H4 hv=>?_]
       let#[p,rfl,hp,hq]:=hv
       have:=hq C U u z I.sqB g3.sqB Z J
       subst this
       show#[bS.laid hp,l.lay hp,.tup bx ((bh.cons ru<|.cons rz .nil).ext (bS.laid hp))]
  ·rw[hi]
   unfold yY
   rw[List.length_zipWith,g2.length.symm]
   have:=c.2
   omega
 ·cases e
noncomputable def uY:D->Option Key
 |.int i=>some (.inl i)
 |.str x=>some (.inr x)
 |_=>none
def r9(r:Rel M ρ H d v)(e:uY d=some k):v=kV k:=by
 cases r <;>simp[uY] at e <;>subst e <;>rfl
noncomputable def yc:List D->Option (List Key)
 | []=>some []
 |d::r=>(uY d).bind λk=>(yc r).bind λa=>some (k::a)
theorem yO:∀{ds:List D} {vs:List V} {a:List Key},bh M ρ H ds vs->yc ds=some a->vs=a.map kV
 |_,_,_,.nil,e=>by cases e;rfl
 | _,_,_,.cons h hs,e=>by
   let#[k,b,e]:=aq e
   let#[a,c,e]:=aq e
   cases e
   rw[r9 h b,yO hs c]
   rfl
noncomputable def uo(kvs:List (Key×D))(k:Key):Option D:=(kvs.find? λa=>decide (a.1=k)).map (·.2)
noncomputable def putD(kvs:List (Key×D))(k:Key)(v:D):List (Key×D):=
 if (kvs.any λa=>decide (a.1=k))=true then kvs.map (λa=>if a.1=k then(a.1,v) else a) else kvs++ [(k,v)]
noncomputable def cZ(kvs more:List (Key×D)):List (Key×D):=more.foldl (λa b=>putD a b.1 b.2) kvs
theorem cq.append:∀{l m:List (Key×D)} {kv kw:List (Key×V)},cq M ρ H l kv->cq M ρ H m kw->cq M ρ H (l++m) (kv++kw)
 | [],_,_,_,h,h'=>by cases h;show h'
 |(_,_)::_,_,_,_,#[v,t,e,h,hs],h'=>by subst e;show#[v,_,L,h,cq.append hs h']
theorem cq.any:∀{l:List (Key×D)} {kv:List (Key×V)} (k:Key),cq M ρ H l kv->(l.any λp=>decide (p.1=k))=kv.any λp=>decide (p.1=k)
 | [],_,_,h=>by cases h;rfl
 |(_,_)::_,_,k,#[v,t,e,h,hs]=>by subst e;erw[List.any_cons,cq.any k hs]
theorem cq.mapP{k:Key}(r:Rel M ρ H d v):∀{l:List (Key×D)} {kv:List (Key×V)},cq M ρ H l kv->cq M ρ H (l.map λp=>if p.1=k then(p.1,d) else p) (kv.map λp=>if p.1=k then(p.1,v) else p)
 | [],_,h=>by cases h;rfl
 | (k',_)::_,_,#[u,t,e,h,hs]=>by
   subst e
   erw[QDq]
   by_cases c:k'=k
   · erw[c,if_true];show#[v,_,L,r,cq.mapP r hs]
   · erw[c,if_false];show#[u,_,L,h,cq.mapP r hs]
def cq.put(h:cq M ρ H l kv)(r:Rel M ρ H d v):cq M ρ H (putD l k d) (putK kv k v):=by
 unfold putD putK
 rw[h.any k]
 split
 ·show h.mapP r
 ·show h.append #[v,[],L,r,L]
theorem cq.merge:∀{m:List (Key×D)} {kw:List (Key×V)} {l:List (Key×D)} {kv:List (Key×V)},cq M ρ H m kw->cq M ρ H l kv->cq M ρ H (cZ l m) (kz kv kw)
 | [],_,_,_,h,h'=>by cases h;show h'
 | (k,d)::m,_,_,_,#[v,t,e,h,hs],h'=>by
   subst e
   unfold cZ kz
   rw[List.foldl_cons,List.foldl_cons]
   show cq.merge (m:=m) (kw:=t) hs<|h'.put h
theorem cq.zip:∀{a:List Key} {ds:List D} {vs:List V},bh M ρ H ds vs->cq M ρ H (a.zip ds) (a.zip vs)
 | [],_,_,_=>rfl
 |_::_,_,_,.nil=>rfl
 |k::a,_,_,.cons h hs=>#[_,_,L,h,cq.zip hs]
theorem cq.val:∀{l:List (Key×D)} {kv:List (Key×V)} {k:Key} {d:D},cq M ρ H l kv->uo l k=some d->∃v,p_ kv k=some v/\Rel M ρ H d v
 | [],_,_,_,_,e=>by cases e
 | (k',d')::_,_,k,d,#[v,t,e,h,hs],e'=>by
   subst e
   unfold uo at e'
   unfold p_
   rw[List.find?_cons] at e'|-
   by_cases c:k'=k
   · erw[c,decide_true] at e'|-
     cases e'
     show#[v,L,h]
   · erw[c,decide_false] at e'|-
     show cq.val hs e'
def cq.ext'(h:cq M ρ H l kv)(e:bS ρ H a b):cq M a b l kv:=h.imp λ_ _ r=>r.ext e
def cq.pre'(h:cq M ρ H l kv)(e:ρ <+: a):cq M a H l kv:=h.imp λ_ _ r=>r.pre e
def Od{Q:VK}(x:bS ρ H d h)(st:fT M d n h)(j:h p=none)(r:cq M d h l kv)
  (q:∀f v g,bS ρ H f g->fT M f (n++ [.dct l]) g->Rel M f g (.ref n.length) v->Q v g):Q (.ref p) (upd h p<|.dK kv):=by
 have t:p∉d:=cR x st j
 have s:bS d h d (upd h p<|.dK kv):=bS.laid j
 let k:=(st.lay (u:=.dK kv) j).box (o:=.dct l) t #[kv,bx,(r.ext' s).pre' (List.prefix_append _ _)]
 show q (d++ [p]) (.ref p) _ #[x.pre.trans<|List.prefix_append _ _,λc i=>?_,(x.trans s).keep,(x.trans s).grow] k<|.ref ?_
 ·rcases mQa.mp i with i|i
  ·show x.new c i
  ·rw[Qfq] at i;subst i;show .inr (x.grow _ j)
 ·rw[<-st.len,QQq (Qmq _)]
  simp
open Classical in
def L5(f g:et):bj:=λh S=>(f h S).bind λ(p,i)=>(g h i).bind λ(r,d)=>if p.2.stays d p.1/\p.1.length=r.1.length then(yc p.1).bind λj=>some (.ref d.length,d++ [.dct (cZ []<|j.zip r.1)]) else none
def LZ{X:Cx}{a:Expr}{b:Expr}{p1 j Z s:Pos}{f g:et}(hc:X.calm=true)(n:Gl X "dict")(o:X.mg "dict"=none)(P:Gl X "zip")(hm:X.mg "zip"=none)(ha:PE X a (tQ (md X) f))(K:PE X b (tQ (md X) g))(x:autoParam (starEach [a,b] X.env= [(false,eval a X.env),(false,eval b X.env)]) db._auto_1)(h:autoParam (starEach [b] X.env= [(false,eval b X.env)]) db._auto_1)
  (he:autoParam (starEach [Expr.Call (.Name "zip" j) [a,b] [] s] X.env= [(false,eval (Expr.Call (.Name "zip" j) [a,b] [] s) X.env)]) db._auto_1):
  PE X (.Call (.Name "dict" p1) [.Call (.Name "zip" j) [a,b] [] s] [] Z) (tD (md X)<|L5 f g):=j2 (An hc n o P hm (cK ha (cK K fu h) (by rw[x,h])) x h he) λσ H Q ⟨ρ,w,S,d,S',ok,e,q⟩=>by
 let#[#[#[t,t1],A],e1,e]:=aq e
 let#[#[#[u,C],S2],Y,e]:=aq e
 dsimp only at e
 split at e
 ·rename_i c
  let#[M,e3,e]:=aq e
  let#[rfl,rfl]:=bZ e
  show#[ρ,w,S,t,t1,A,ok,e1,λr a1 J H1 B k U I=>#[r,w,A,u,C,S2,ok.to B k,Y,λN F W H2 y i G z=>?_]]
  let#[a0,h3,v]:=U.to I y i c.1
  let R:=yO v e3
  subst R
  let hl:=v.length
  rw[lQm] at hl
  show#[_,_,a1,F,M,W,L,h3.sqB,G.sqB,by rw[<-hl,<-z.length];show c.2,λp hp=>?_]
  show Od (B.trans y) i hp (cq.merge (l:= []) (cq.zip z) L) q
 ·cases e
noncomputable def PQ:bj:=λ_ S=>some (.ref S.length,S++ [.dct []])
def Pa:PE X (.Dict [] [] m) (tD (md X) PQ):=j2 Ff λk H Q g=>by
 let#[i,j,S,d,h,ok,e,q]:=g
 let#[rfl,rfl]:=bZ e
 show λp f=>Od bS.refl ok.st f (l:= []) (kv:= []) L q
noncomputable def N1(f g:bj):bj:=λi S=>(f i S).bind λ(x,j)=>(g i j).bind λ(y,h)=>match x with
 | .ref k=>match h[k]? with
   |some (.dct l)=>(uY y).bind λn=>(uo l n).bind λd=>some (d,h)
   |_=>none
 |_=>none
def Ph{X:Cx}(M:X.A.units+1<cLine)(p:PE X a (tD (md X) f))(z:PE X b (tD (md X) g))(o:HW b):PE X (.Subscript a b m) (tD (md X)<|N1 f g):=j2 (G5 M p z o) λσ H Q J=>by
 let#[K,r,S,d,S',ok,e,q]:=J
 let#[#[x,t],R,e]:=aq e
 let#[#[y,I],G,e]:=aq e
 cases x with
 | ref k=>
   dsimp only at e
   split at e
   · rename_i l o
     let#[Y,U,e]:=aq e
     let#[d',W,e]:=aq e
     let#[rfl,rfl]:=bZ e
     show#[K,r,S,_,t,ok,R,λn Z H1 u j i=>#[n,r,t,y,I,ok.to u j,G,λB v2 H2 s h P=>?_]]
     cases r9 P U
     let i:=i.ext s
     cases i with
     | ref p=>
       let#[kv,F,w]:=h.obj k _ _ p o
       let#[v,N,C]:=w.val W
       show#[_,v,L,by rw[<-N];show Dl.k F,q _ _ _ (u.trans s) h C]
   · cases e
 |_=>cases e
noncomputable def OM(f g h:bj):cO:=λi S=>(h i S).bind λ(d,o)=>(f i o).bind λ(x,n)=>(g i n).bind λ(y,j)=>match x with
 | .ref k=>match j[k]? with
   |some (.dct l)=>(uY y).bind λp=>if l.length<sizeLine then some (.nx i (j.set k<|.dct (putD l p d))) else none
   |_=>none
 |_=>none
mutual
theorem Rel.offK{H:Hp}(f:H b=some (.dK g)):∀{d:D} {v:V},Rel M ρ H d v->Rel M ρ (upd H b o) d v
 |_,_,.non=>.non
 |_,_,.bl x=>.bl x
 |_,_,.int i=>.int i
 |_,_,.str x=>.str x
 |_,_,.tup h hs=>.tup (by rw[aU (ED h f (by intro z;cases z))];show h) (bh.offK f hs)
 |_,_,.ref h=>.ref h
 |_,_,.fn h=>.fn h
theorem bh.offK{H:Hp}(d:H b=some (.dK f)):∀{ds:List D} {vs:List V},bh M ρ H ds vs->bh M ρ (upd H b o) ds vs
 |_,_,.nil=>.nil
 |_,_,.cons h hs=>.cons (Rel.offK d h) (bh.offK d hs)
end
def fT.putKd(st:fT M ρ S H)(d:ρ[k]?=some a)(h:S[k]?=some (.dct l))(r:cq M ρ H i kw):fT M ρ (S.set k<|.dct i) (upd H a<|.dK kw)/\bS ρ H ρ (upd H a<|.dK kw):=by
 let#[n,f,j]:=st.obj k a _ d h
 show st.put d h #[kw,bx,r.imp λ_ _ q=>q.offK f] λx g=>by rw[f] at g;cases g;show id
def OZ{X:Cx}{m:Pos}(hu:X.A.units+1<cLine)(s:PE X a (tD (md X) f))(R:PE X b (tD (md X) g))(hv:PE X v (tD (md X) h))(r:autoParam (swapsWith v (some<|.Subscript a b i) m.line X.env=pure false) db._auto_1):PS X (.Assign [.Subscript a b i] v m) (tS (md X)<|OM f g h):=
 Aj (Hi hu s R hv r) λD σ H qq=>by
  let#[ρ,F,S,o,ok,e,q]:=qq
  let#[#[d,P],e1,e]:=aq e
  let#[#[x,N],Z,e]:=aq e
  let#[#[y,S3],e3,e]:=aq e
  cases x with
  | ref k=>
    dsimp only at e
    split at e
    · rename_i l r
      let#[U,e4,e]:=aq e
      split at e
      · rename_i hl
        cases e
        show#[ρ,F,S,d,P,ok,e1,λC v1 H1 J n u=>#[C,F,P,_,N,ok.to J n,Z,λw v2 H2 G B I=>#[w,F,N,y,S3,(ok.to J n).to G B,e3,λY v3 H3 z j Q=>?_]]]
        cases r9 Q e4
        let I:=I.ext z
        let u:=u.ext (G.trans z)
        let p:=(J.trans G).trans z
        cases I with
        | ref s=>
          let#[kv,W,K]:=j.obj k _ _ s r
          let#[t,M]:=j.putKd s r (K.put (k:=U) u)
          show#[_,_,L,GW.k W (by rw[<-K.length];show hl),q _ _ _ (p.trans M) ((ok.to p j).to M t)]
      · cases e
    · cases e
  |_=>cases e
open Classical in
def Kr(f:et)(g:bj):bj:=λh S=>(f h S).bind λ(p,k)=>if p.2.isL=true then(g h k).bind λ(y,d)=>if p.2.stays d p.1 then(xn y).bind λv=>(iG p.1).bind λi=>(oZ v i).bind λj=>some (.int (j:Nat),d) else none else none
def Ov{i h:Pos}(ho:PE X o (tQ (md X) f))(ha:PE X e (tD (md X) g))(k:autoParam (attributeBase o "index" X.env (eval o X.env)=eval o X.env) db._auto_1) (p:autoParam (((backTo h (starEach [e] X.env)).all (λx=> !x.1)&&(backToKw h (keywordEach [] X.env)).all (λx=>x.1.isSome)
   &&decide ([e].length+([]:List Keyword).length+(if ([]:List Keyword).isEmpty then 0 else 1)<30))=true) db._auto_1)
  (l:autoParam ((i.endLine==h.line)=true) db._auto_1) (C:autoParam (starEach [e] X.env= [(false,eval e X.env)]) db._auto_1):PE X (.Call (.Attribute o "index" i) [e] [] h) (tD (md X)<|Kr f g):=
 j2 (zO PySem.F.plainAttrs_list PySem.F.slot_list_index PySem.F.type_list_index F7 ho (dg ha kK C) k p l C) λσ H Q qq=>by
  let#[ρ,B,S,d,S',ok,e,q]:=qq
  let#[#[#[W,t],J],e1,e]:=aq e
  dsimp only at e
  split at e
  ·rename_i z
   let#[#[y,S2],Y,e]:=aq e
   dsimp only at e
   split at e
   ·rename_i R
    let#[v,I,e]:=aq e
    let#[vs,e4,e]:=aq e
    let#[j,M,e]:=aq e
    let#[rfl,rfl]:=bZ e
    show#[ρ,B,S,W,t,J,ok,e1,λu a us H1 K r A P=>#[.inl #[L,us,A.sqL z],u,B,J,[y],S2,ok.to K r,by erw[ar,av,Y,Qbq],λU ws H2 G n w=>?_]]
    let#[s,h3,N]:=A.to P G n R
    cases w with
    | cons w Z=>
      cases Z
      cases nQ w I
      let#[rfl,f1]:=l9 N e4
      show#[a,s,_,j,L,L,h3.sqL z,sP I,f1,M,q _ _ _ (K.trans G) n<|.int _]
   ·cases e
  ·cases e
def O_:V->List V->Hp->VK->Prop:=λx g H Q=>∃a b f d,x=.ref a/\g= [.ref b]/\a≠b/\H a=some (.dK f)/\H b=some (.dK d)/\f.length+d.length<=sizeLine/\Q .non (upd H a<|.dK (kz f d))
def DR:Oj X "dict.update" O_:=by
 intro n s M H x K v N Q I B A h
 let#[a,b,l,f,rfl,rfl,ab,ha,hb,hz,q]:=h
 cases B
 let#[u,rfl,ru]:=A.one
 cases ru
 let#[z,p,t,g,o]:=zp I.hok ha
 let#[J,k,r,d,m]:=zp I.hok hb
 show call_meetsIn PySem.F.slot_dict_update o.typeIs PySem.F.entry_dict_update (PySem.F.args_dict_update_2 _ _) (meets_dict_update (bO X.prog X.w) a b ab k) #[t,r,o,m,by rw[<-g.length,<-d.length];show hz,λy j _ C=>?_]
 have G:∃q,y.get? a=some q:=let ⟨q,_,_,hq,_⟩:=j;#[q,hq]
 let hl:=jg f l
 show#[.non,_,oE I (by rw[ha];show True.intro) C G<|sF (!0) p (KV.merge d g) j,L,q]
noncomputable def HR(f g:bj):bj:=λn S=>(f n S).bind λ(x,h)=>(g n h).bind λ(y,d)=>match x,y with
 | .ref k,.ref j=>if k≠j then match h[k]?,d[k]?,d[j]? with
   |some (.dct _),some (.dct l),some (.dct m)=>if l.length+m.length<=sizeLine then some (.non,d.set k<|.dct (cZ l m)) else none
   |_,_,_=>none
   else none
 |_,_=>none
def Nf{p h:Pos}(ho:PE X o (tD (md X) f))(B:PE X e (tD (md X) g))(r:autoParam (attributeBase o "update" X.env (eval o X.env)=eval o X.env) db._auto_1) (w:autoParam (((backTo h (starEach [e] X.env)).all (λx=> !x.1)&&(backToKw h (keywordEach [] X.env)).all (λx=>x.1.isSome)
   &&decide ([e].length+([]:List Keyword).length+(if ([]:List Keyword).isEmpty then 0 else 1)<30))=true) db._auto_1)
  (s:autoParam ((p.endLine==h.line)=true) db._auto_1) (Z:autoParam (starEach [e] X.env= [(false,eval e X.env)]) db._auto_1):PE X (.Call (.Attribute o "update" p) [e] [] h) (tD (md X)<|HR f g):=
 j2 (zO PySem.F.plainAttrs_dict PySem.F.slot_dict_update PySem.F.type_dict_update DR ho (dg B kK Z) r w s Z) λσ H Q qq=>by
  let#[ρ,Y,S,d,S',ok,e,q]:=qq
  let#[#[x,P],e1,e]:=aq e
  let#[#[y,J],e2,e]:=aq e
  cases x with
  | ref k=>
    cases y with
    | ref j=>
      dsimp only at e
      split at e
      · rename_i ne
        cases I:P[k]? with
        |none=>rw[I] at e;cases e
        | some o1=>
          rw[I] at e
          cases o1 with
          | dct l0=>
            cases A:J[k]? with
            |none=>rw[A] at e;cases e
            | some o2=>
              rw[A] at e
              cases o2 with
              | dct l=>
                cases M:J[j]? with
                |none=>rw[M] at e;cases e
                | some o3=>
                  rw[M] at e
                  cases o3 with
                  | dct m=>
                    dsimp only at e
                    split at e
                    · rename_i hl
                      let#[rfl,rfl]:=bZ e
                      show#[ρ,Y,S,_,P,ok,e1,λG v H1 x1 u r1=>?_]
                      cases r1 with
                      | ref B=>
                        rename_i a
                        let#[K,g0,_]:=u.obj k a _ B I
                        show#[.inr (.inr (.inl #[L,.inl #[K,g0]])),G,Y,P,[.ref j],J,ok.to x1 u,by erw[ar,av,e2,Qbq],λa0 ws H2 x2 n N=>?_]
                        cases N with
                        | cons N rr=>
                          cases rr
                          cases N with
                          | ref R=>
                            rename_i b
                            let t:=cD x2.pre B
                            let#[kv,g1,U]:=n.obj k a _ t A
                            let#[kw,g3,W]:=n.obj j b _ R M
                            have ab:a≠b:=λz=>by subst z;show ne (iD n.nd t R)
                            let#[C,x3]:=n.putKd t A (cq.merge W U)
                            show#[a,b,kv,kw,L,L,ab,g1,g3,by rw[<-U.length,<-W.length];show hl,q _ _ _ ((x1.trans x2).trans x3) C .non]
                    · cases e
                  |_=>cases e
              |_=>cases e
          |_=>cases e
      · cases e
    |_=>cases e
  |_=>cases e
end DL
namespace L2
open PyProof.Rows
def u0{D:X8}{R:Result->Shared->Prop}(I:Nat->Shared->Prop)
  (F:∀n s,I n s->wpAny (model prog w) A (pyNext it) (λr f=>match r with
   |none=>R (.ok .next) f
   |some v=>wpAny (model prog w) A (letOwnedTupleGo a it v) (λ_ d=>wpAny (model prog w) A (assign a env v) (λ_ l=>
     wpAny (model prog w) A (forIn q true λc r=>if r=true then do let ok<-isTrue c env (eval c env);pure (ForInStep.yield ok) else pure (ForInStep.yield r)) (λok s₃=>
      if ok=true then wpAny (model prog w) A (eval G env) (λx i=>wpAny (model prog w) A (eval H env) (λy j=>
       wpAny (model prog w) A (dictSet D x y) (λ_ k=>∃m,m<n/\I m k) (λ_ _=>False) j) (λ_ _=>False) i) (λ_ _=>False) s₃
      else∃m,m<n/\I m s₃) (λ_ _=>False) l) (λ_ _=>False) d) (λ_ _=>False) f) (λ_ _=>False) s)
  (n:Nat) (h:I n s):codeAny (model prog w) A (.compLoop (.DictComp G H [#[a,o,q,0]] e B) 0 it (.ref D) env) R s:=by
 show codeAny_loop L I (λn s J=>?_) n h
 show wpAny _ A ((compTurn (.DictComp G H [#[a,o,q,0]] e B) 0 it (.ref D) env).onRaise (λx=>do noteFrame x env;theTreesLotGoes x)) _ _ s
 show wpAny_noted ?_
 rw[compTurn_dict]
 show Qaq<|wpAny_standAt<|Qaq (QRq (F n s J) (λr f g=>?_) λ_ _ b=>b.elim)
 cases r with
 |none=>show Qgq g
 | some v=>
   show Qaq (QRq g (λ_ d p=>?_) λ_ _ b=>b.elim)
   show Qaq (QRq p (λ_ l u=>Qaq (QRq u (λok s₃ h₃=>?_) λ_ _ b=>b.elim)) λ_ _ b=>b.elim)
   cases ok with
   |false=>show Qgq #[L,h₃]
   | true=>
     show Qaq<|Qaq (QRq h₃ (λx i t=>Qaq<|QLq (QRq t (λy j z=>Qaq<|wpAny_standAt<|QLq (QRq z (λ_ k C=>Qgq #[L,C]) λ_ _ b=>b.elim)) λ_ _ b=>b.elim)) λ_ _ b=>b.elim)
def Ls(J:It)(g:TG)(p:TT)(o n:TE)(Q:VK)(D:X8)(q:St)(H:Hp):Prop:=
 ∃ W:Nat->Nat->St->Hp->Prop,(∃m,W 0 m q H)/\∀i m e f,W i m e f->
   (J.stop i f/\Q (.ref D) f)\/(J.go i f/\∃Nx:St->Hp->Prop,(∀b d,Nx b d->∃l,l<m/\W (i+1) l b d)∧
     ∀ x H2,J.yld i f x H2->g x e H2 λa H3=>p a H3 λok H4=>
       if ok=true then o a H4 λk H5=>n a H5 λy h=>∃c j,k=kV j/\h D=some (.dK c)/\c.length<sizeLine/\Nx a (upd h D (.dK (putK c j y))) else Nx a H4)
def Et(js:List (Option Nat))(c:TI)(g:TG)(e:TT)(d b:TE):TE:=λa H Q=>c a H λJ H1=>∀D,H1 D=none->Ls J g e d b Q D (kg js a) (upd H1 D<|.dK [])
def Fm{X:Cx}{N:X6}{js:List (Option Nat)}{a:Scope}{cl:List (Str×Addr)}{tg Q kx vx G:Expr}{a9:List Expr}{b3 b0:Pos}{wi:TI}{g gt:TG}{tt:TT}{tk tv:TE}
  (S:aP X N js a cl) (hc:X.calm=true) (hi:PI X tg Q wi)
  (hg:∀C s H fp,PG (aK X N a cl C s H fp) tg g) (ht:∀C s H fp,m6 (aK X N a cl C s H fp) a9 tt) (hk:∀C s H fp,PE (aK X N a cl C s H fp) kx tk) (hv:∀C s H fp,PE (aK X N a cl C s H fp) vx tv) (d8:PG X G gt)
  (hs:autoParam (∀x,foldedSetIterable Q X.env x=pure x) dl._auto_1) (d9:autoParam (swapsWithSole [G] (.DictComp kx vx [⟨tg,Q,a9,0⟩] a b3) b0.line X.env=pure true) db._auto_1)
  (h1:autoParam ((assignEach [G] X.env).map (·.2)= [assign G X.env]) db._auto_1):PS X (.Assign [G] (.DictComp kx vx [#[tg,Q,a9,0]] a b3) b0) (Df (Et js wi g tt tk tv) gt):=by
 intro a0 s σ H Dn I h
 rw[exec_Assign_arm]
 show Qaq<|wpAny_standAt<|Qaq<|wpAny_of_eq d9<|wpAny_ite_true L<|Qaq ?_
 rw[h1]
 show wpAny _ _ (do let _<-comprehension _ _ _ _ _ _ _ (some λv=>assignAll v [assign G X.env]);pure ()) _ _ _
 show Qaq ?_
 show wpAny_comprehension_free (use:=some λv=>assignAll v [assign G X.env]) L hs S.clos S.kind S.names (cE (hi a0 s σ H _ I h) λv s1 h1=>cE h1 λe5 t h2=>?_)
 let#[it,fp,tn,J,H2,e,F,T,b4,f2,hD]:=h2
 subst e
 show QhQ<|wpAny_newFunctionEnv S.nocell (by intro y hy;simp at hy) (λU P B=>?_) S.kind
 dsimp only at P B|-
 generalize a7:t.heap.push {cls:=.type "dict",data:=.dict (List.toArray [])}=P2 at P B|-
 have hC:P2.objs.size=t.heap.objs.size+1:=by rw[<-a7,Heap.size_push]
 have b6:t.heap.objs.size≠P2.objs.size:=by rw[hC];show Qwq (Nat.lt_succ_self _)
 have a2:t.heap.objs.size<=P2.objs.size:=by rw[hC];show Nat.le_succ _
 have K:∀b,b<t.heap.objs.size->b≠P2.objs.size:=λb f=>by rw[hC];show Qwq (Nat.lt_succ_of_lt f)
 have a1:∀b o,t.heap.get? b=some o->U.get? b=some o:=λb o e=>B.extBut b o (K b<|Qiq e) (Qcq _ (a7▸Qcq _ e))
 have e4:U.get? t.heap.objs.size=some {cls:=.type "dict",data:=.dict (List.toArray [])}:=B.extBut _ _ b6 (Qcq _ (a7▸Qrq _ L))
 have nD:H2 t.heap.objs.size=none:=F.fresh
 have nC:H2 P2.objs.size=none:=F.hok.fresh a2
 have b5:∀b∈fp,b<t.heap.objs.size:=λb f=>by
  let#[o,e,_]:=T.obj _ _ b4 b f
  show Qiq e
 let#[W,#[m0,w0],d2]:=hD t.heap.objs.size nD
 have b7:(aK X N a cl P2.objs.size t H2 fp).Ok:=by
  show⟨F.ok.mod,S.kind,F.ok.glob,F.ok.blt,a2,λx y c h1 h2=>F.ok.inj x y c (S.sub x c h1) (S.sub y c h2),S.has,(λx c h=>by cases h),F.ok.hd,F.ok.frames,.inl L,
   λb f=>#[K b (b5 b f),λx c h=>(f2 b f).2.2.2.2.1 x c (S.sub x c h)],F.bs,QAq F.ok.bsz F.sz,λb o e f=>?_,λb f z=>?_,F.stack,F.stkFree⟩
  ·rcases(f2 b f).2.2.2.1 with z|z
   ·show F.ok.noex b o e z
   ·show absurd (Qqq (Qqq (Qiq e) F.ok.bsz) z)<|Nat.lt_irrefl _
  ·rcases Qsq.mp (F.stkSub b z) with q|q
   ·show(f2 b f).2.1 q
   ·show(f2 b f).2.2.1 q
 have c7:cb X.prog X.w (upd H2 t.heap.objs.size<|.dK []) U t.heap.objs.size (.dK []):=by
  let#[o,es,ep,e1,e2]:=Heap.DictOf.new (knd:=bO X.prog X.w) t.heap
  show sF (Nat.zero_le _) (beq_eq_false_iff_ne.mpr<|Ne.symm<|Qwq F.big) .nil #[o,es,ep,B.extBut _ _ b6<|Qcq _ (a7▸e1),e2]
 have I4:Inv (aK X N a cl P2.objs.size t H2 fp) [] (kg js σ) (upd H2 t.heap.objs.size<|.dK []) {t with heap:=U,toks:=t.toks+([]:List (Str×Value)).length}:=by
  show#[b7,L,F.bare,Un.laid a1 (Qmq _) nD,#[_,P,λi x v h1 h2 h3=>?_],λx c h=>?_,by show upd H2 _ _ P2.objs.size=none;rw[aU b6.symm];show nC,λx c h=>?_,λp hp=>absurd (show p∈([]:List (Addr×Obj)) from hp) (by simp),F.hok.laid a1 (Qmq _) c7,by show(kg js σ).length=N.length;unfold kg;rw[lQm];show S.len]
  ·unfold kg at h2
   rw[gQm] at h2
   cases e:js[i]? with
   |none=>rw[e] at h2;cases h2
   | some o=>
     rw[e] at h2
     cases o with
     |none=>cases h2
     | some j=>
       have a4:σ.getD j none=some v:=QdQ h2
       have hj:σ[j]?=some (some v):=by
         rw[Qlq] at a4
         cases q:σ[j]? with
         |none=>rw[q] at a4;cases a4
         |some y=>rw[q] at a4;show congrArg some a4
       let#[c1,c2,c3]:=S.cap i j x e h1
       let#[m,hn,hl]:=F.loc
       have d7:G0 X.env.scope x:=by
         rcases c2 with z|z
         · show .inr (.inl z)
         · show .inr (.inr z)
       let#[u,r,l]:=hl j x v c1 hj d7
       show#[u,r,.inr #[c3,?_]]
       let#[c,c4]:=S.has x c3
       show#[c,c4,?_]
       rcases l with⟨z,_⟩|⟨_,c',e',z⟩
       · rcases c2 with y|y <;>rw[y] at z <;>cases z
       · rw[S.sub x c c4] at e'
         cases e'
         let#[o,ho,hd]:=z
         show#[o,a1 _ _ ho,hd]
  ·let#[v,o,ho,hd]:=F.cell x c (S.sub x c h)
   show#[v,o,a1 _ _ ho,hd]
  ·let#[v,o,ho,hd]:=F.cell x c (S.sub x c h)
   rw[aU (Qwq<|Qiq ho)]
   show F.freeC x c<|S.sub x c h
 have a3:∀{Y:X2} {H':Hp},Y= []->(∀b∈fp,H' b=none)->∀b∈fp,qB (aK X N a cl P2.objs.size t H2 fp) Y H' b:=λ{Y H'} ep hn b f=>by
  subst ep
  show#[hn b f,K b<|b5 b f,λz=>b7.exfs b f z,.inl f,λx c h=>(f2 b f).2.2.2.2.1 x c (S.sub x c h),λp hp=>absurd (show p∈([]:List (Addr×Obj)) from hp) (by simp)]
 have b1:codeAny (model X.prog X.w) X.A (.compLoop (.DictComp kx vx [⟨tg,Q,a9,0⟩] a b3) 0 (.ref it) (.ref t.heap.objs.size) (compEnvC a cl P2.objs.size X.env))
   (compPost (model X.prog X.w) X.A X.xe (some λv=>assignAll v [assign G X.env]) (λ_ s9=>wpAny (model X.prog X.w) X.A (pure ()) (λ_ d3=>wpAny (model X.prog X.w) X.A (pure Flow.next) (SP X a0 Dn) X.xe d3) X.xe s9) (.ref t.heap.objs.size) P2.objs.size) {t with heap:=U,toks:=t.toks+([]:List (Str×Value)).length}:=by
  show u0 (λn s'=>∃i a5 H',Inv (aK X N a cl P2.objs.size t H2 fp) [] a5 H' s'/\tn i s'.heap/\(∀b∈fp,H' b=none)/\W i n a5 H') ?_ m0
   #[0,_,_,I4,T.keep _ _ _ b4 λb _ o e=>a1 b o e,λb f=>by rw[aU (Qwq<|b5 b f)];show(f2 b f).1,w0]
  rintro n s3 ⟨i,a6,H3,I3,c0,c6,w3⟩
  rcases d2 i n a6 H3 w3 with⟨stop,q⟩|⟨go,Nx,hN,b9⟩
  ·show cE (T.done (aK X N a cl P2.objs.size t H2 fp) L L L hc i [] s3 a6 H3 _ I3 (a3 L c6) c0 stop) λr s4 Z=>?_
   let#[hr,I5]:=Z
   subst hr
   let#[m,hn,_]:=id I5.loc
   have d5:∀h',Heap.SameBut P2.objs.size s4.heap h'->Inv X a0 σ H3 {s4 with heap:=h'}:=by
    intro h' R
    let u:=I5.base
    have ne:∀b o,t.heap.get? b=some o->b≠P2.objs.size:=λb o e=>K b (Qiq e)
    show F.call' (ch:=fp) I5.os #[λb o e n f hx=>(R.2 b<|ne b o e).trans (u.keep b o e n f hx),λb o e n f hx=>?_,u.free,λb o e hx=>?_,u.tups,u.frzs,u.tbls] (λb ob e=>?_) I5.bare λb f=>#[(f2 b f).2.2.2.1,(f2 b f).2.1,(f2 b f).2.2.2.2.1,(f2 b f).2.2.2.2.2]
    ·let#[sl,e1]:=u.slot b o e n f hx
     show#[sl,(R.2 b<|ne b o e).trans e1]
    ·let#[o',e1]:=u.there b o e hx
     show#[o',(R.2 b<|ne b o e).trans e1]
    ·show(I5.hok b ob e).stay (λc w' hc q=>(R.2 c ?_).trans q) (λ_ q=>q) λ_ _ q=>q
     have fC:H3 P2.objs.size=none:=I5.free
     rintro rfl
     rcases hc with z|z
     ·rw[<-z,fC] at e;cases e
     ·rw[fC] at z;cases z
   let IX:=d5 s4.heap #[L,λ_ _=>rfl]
   have a8:qB X a0 H3 P2.objs.size:=F.fpOk a2 I5.free
   let#[oC,es,ep,d1,c5,d4]:=hn
   let IP:=IX.pinned (fp:= [P2.objs.size]) (λb f=>by rw[Qfq] at f;rw[f];show a8) (λb f=>by rw[Qfq] at f;rw[f];show#[oC,d1,λv=>by rw[c5];simp])
   show wpAny _ _ (assignAll (.ref t.heap.objs.size) [assign G X.env]) _ _ _
   rw[assignAll.eq_2]
   show cE (d8 _ s4 σ H3 (.ref t.heap.objs.size) (.ref t.heap.objs.size) _ IP L q) λ_ s6 Z=>?_
   let#[M,H6,I6,q6]:=Z
   let pC:=I6.pin (P2.objs.size,oC) (Qoq _<|Qoq _<|dw (Qfq.mpr L) d1)
   show#[m,#[oC,es,ep,pC.1,c5,d4],λh' R=>Qgq<|Qgq #[M,H6,?_,q6]]
   show I6.unpinned.turned (it:=P2.objs.size) (t':=s6.toks) (λb o' f e=>(R.2 b f).trans e) pC.2.1 pC.2.2.1 a8.2.2.2.1 a8.2.2.2.2.1 a8.2.2.2.2.2
  ·show cE (T.item (aK X N a cl P2.objs.size t H2 fp) L L L hc i [] s3 a6 H3 _ I3 (a3 L c6) c0 go) λr s4 Z=>?_
   let#[u,hr,h4]:=Z
   subst hr
   show cE h4 λ_ s5 Z=>?_
   let#[x,H5,I5,r5,y5,b2,d6]:=Z
   let e3:=I5.pinned (a3 L d6) (T.obj _ _ b2)
   show cE (hg P2.objs.size t H2 fp _ s5 a6 H5 x u _ e3 r5<|b9 x H5 y5) λ_ s6 Z=>?_
   let#[M,H6,I6,q6]:=Z
   show cE (ht P2.objs.size t H2 fp _ s6 M H6 _ I6 q6) λok s7 Z=>?_
   let#[H7,I7,q7]:=Z
   have again:∀{s8:X4} {H8:Hp},Inv (aK X N a cl P2.objs.size t H2 fp) ([]++nX fp s5.heap) M H8 s8->Nx M H8->∃m,m<n/\∃i a5 H',Inv (aK X N a cl P2.objs.size t H2 fp) [] a5 H' s8/\tn i s8.heap/\(∀b∈fp,H' b=none)/\W i m a5 H':=λ{s8 H8} I8 n8=>by
    let#[m',hm,w8]:=hN M H8 n8
    show#[m',hm,i+1,M,H8,I8.unpinned,T.keep _ _ _ b2 λb f o e=>(I8.pin (b,o)<|Qoq _<|Qoq _<|dw f e).1,λb f=>?_,w8]
    let#[o,e,d]:=T.obj _ _ b2 b f
    show(I8.pin (b,o)<|Qoq _<|Qoq _<|dw f e).2.1
   cases ok with
   |false=>show again I7 q7
   | true=>
     show cE (hk P2.objs.size t H2 fp _ s7 M H7 _ I7 q7) λkv s8 Z=>?_
     let#[k,H8,I8,rk,q8]:=Z
     show cE (hv P2.objs.size t H2 fp _ s8 M H8 _ I8 q8) λyv s9 Z=>?_
     let#[y,H9,I9,ry,e0,ky,ek,hx,hl,n9]:=Z
     subst ek
     let#[z,hd,vs,d0,dd]:=zp I9.hok hx
     show wpAny_dictSet_pairs (z9 rk) dd (λh' b8 R=>?_) (by rw[<-d0.length];show z)
     have he:∃q,h'.get? t.heap.objs.size=some q:=let ⟨q,_,_,hq,_⟩:=b8;#[q,hq]
     let e6:=i6 e0 ky y
     show again (oE I9 (by rw[hx];show True.intro) R he<|sF (!0) hd (d0.put ky ry) b8) n9
 show codeAny_compStart_dict b1<|T.self _ 0 _ _ _ (T.keep _ _ _ b4 λb _ o e=>a1 b o e) b1
end L2
namespace DL
open PyProof.Rows L2
theorem fT.offK(st:fT M ρ S H)(f:H b=some (.dK c))(n:b∉ρ):fT M ρ S (upd H b o):=⟨st.len,st.nd,λk a p l t=>by
 let q:=st.obj k a p l t
 have g:a≠b:=λz=>n (z▸mQg l)
 cases p with
 |lst m=>let#[h,d,e]:=q;show#[h,by rw[aU g];show d,e.offK f]
 |frz m=>let#[h,o,d,e]:=q;show#[h,o,by rw[aU g];show d,e.offK f]
 |dct s=>let#[x,d,e]:=q;show#[x,by rw[aU g];show d,e.imp λ_ _ r=>r.offK f]
 |sett m=>let#[u,v,d,e,i]:=q;show#[u,v,by rw[aU g];show d,e.offK f,i]
 |dctN y h=>let#[j,d,e,i,w]:=q;show#[j,by rw[aU g];show d,e.offK f,i.offK f,w]⟩
def En.offK(h:En M ρ H a e)(j:H b=some (.dK c)):En M ρ (upd H b o) a e:=#[h.len,λi d q=>by let#[v,g,f]:=h.get i d q;show#[v,g,f.offK j]]
open Classical in
def ji(g:me)(t:iH)(b c:bj)(W:aE->Prop):List D->cv->aE->List (Key×D)->Option (List (Key×D)×aE)
 | [],Γ,S,acc=>if W S then some (acc,S) else none
 |d ::ds,Γ,S,acc=>if W S then(g d Γ S).bind λ(a,j)=>(t a j).bind λ(k,e)=>
    if k=true then(b a e).bind λ(x,f)=>(c a f).bind λ(y,i)=>(uY x).bind λh=>if acc.length<sizeLine then ji g t b c W ds a i (putD acc h y) else none
    else ji g t b c W ds a e acc
  else none
def qp(js:List (Option Nat))(i:sE)(g:me)(t:iH)(b d:bj):cv->aE->Option (List (Key×D)×aE):=λa S=>(i a S).bind λ(p,c)=>ji g t b d p.2 p.1 (nZ js a) c []
def Hz{Q:VK}(ok:Ok M ρ Γ S σ H)(e:qp js i g t fk fv Γ S=some (l,S'))
  (q:∀b a kv f,bS ρ H b f->fT M b S' f->H a=none->a∉b->f a=some (.dK kv)->cq M b f l kv->Q (.ref a) f):Et js (tI M i) (tG M g) (tB M t) (tD M fk) (tD M fv) σ H Q:=by
 let#[#[#[n,W],S1],e1,e]:=aq e
 show#[ρ,Γ,S,n,W,S1,ok,e1,λo J H1 x1 Z wk D U=>?_]
 have n1:D∉o:=cR x1 Z U
 have a2:Ok M o (nZ js Γ) S1 (kg js σ) (upd H1 D<|.dK []):=#[((ok.en.ext x1).ext (bS.laid U)).sig js,Z.lay U]
 show⟨λi m F f=>m=n.length-i/\i<=n.length/\∃d B X c j,bS o H1 d f/\Ok M d B X F f/\D∉d/\f D=some (.dK j)/\cq M d f c j/\ji g t fk fv W (n.drop i) B X c=some (l,S'),
  #[n.length,by simp,Nat.zero_le _,o,_,S1,[],[],bS.laid U,a2,n1,bx,L,e],?_⟩
 rintro i m b4 H2 ⟨rfl,hi,d,B,X,c,j,x2,ok2,n2,hD2,racc,e2⟩
 by_cases N:i<n.length
 ·have hd:n[i]?=some n[i]:=gQe N
  rw[QWq N] at e2
  unfold ji at e2
  split at e2
  ·rename_i w
   let#[w1,w2]:=wk i d X H2 x2 ok2.st w
   let#[go,a4]:=w1 _ hd
   show .inr ⟨go,λF f=>∃b A C c j,bS o H1 b f/\Ok M b A C F f/\D∉b/\f D=some (.dK j)/\cq M b f c j/\ji g t fk fv W (n.drop (i+1)) A C c=some (l,S'),
    λF f ⟨b,A,C,c,j,h1,h2,h3,h4,h5,h6⟩=>#[n.length-(i+1),by omega,L,N,b,A,C,c,j,h1,h2,h3,h4,h5,h6],λx H3 hy=>?_⟩
   let#[x3,a5,r3]:=a4 x H3 hy
   let#[#[h,S4],e4,e5]:=aq e2
   show#[d,B,X,_,h,S4,ok2.to x3 a5,r3,e4,λa7 b3 H4 x4 p=>?_]
   let#[#[k,S5],e6,e7]:=aq e5
   show#[a7,h,S4,k,S5,p,e6,λa0 H5 Y I=>?_]
   let u:=(x3.trans x4).trans Y
   have G:∀{b f},bS d H2 b f->f D=some (.dK j)/\D∉b:=λ{b f} x=>#[x.keep _ _ hD2<|.inl n2,λm=>(x.new _ m).elim n2 λz=>by rw[z] at hD2;cases hD2]
   dsimp only at e7|-
   split at e7
   ·rename_i ck
    rw[Qhq ck]
    let#[#[kx,S6],e8,e9]:=aq e7
    let#[#[y,S7],a9,b1]:=aq e9
    let#[kk,b0,K]:=aq b1
    show#[a0,h,S5,kx,S6,p.to Y I,e8,λa1 kv H6 x6 a6 r6=>#[a1,h,S6,y,S7,(p.to Y I).to x6 a6,a9,λa3 v H7 x7 a8 r7=>?_]]
    let P:=(u.trans x6).trans x7
    let#[s,n7]:=G P
    let R:=racc.ext' P
    split at K
    ·rename_i cl
     show#[j,kk,r9 r6 b0,s,by rw[<-racc.length];show cl,a3,h,S7,putD c kk y,_,(x2.trans P).off U _,#[(((p.en.ext Y).ext x6).ext x7).offK s,a8.offK s n7],n7,bx,(R.put r7).imp λ_ _ r=>r.offK s,K]
    ·cases K
   ·rename_i ck
    rw[Quq ck]
    let#[b2,n5]:=G u
    show#[a0,h,S5,c,j,x2.trans u,p.to Y I,n5,b2,racc.ext' u,e7]
  ·cases e2
 ·have e3:i=n.length:=by omega
  subst e3
  rw[List.drop_length] at e2
  unfold ji at e2
  split at e2
  ·rename_i w
   let#[rfl,rfl]:=bZ e2
   let#[w1,w2]:=wk n.length d X H2 x2 ok2.st w
   show .inl #[w2 L,q d D j H2 (x1.trans x2) ok2.st (x1.grow _ U) n2 hD2 racc]
  ·cases e2
noncomputable def MT(n:Nat)(f:cv->aE->Option (List (Key×D)×aE)):cO:=λb S=>(f b S).bind λ(l,a)=>some (.nx (b.set n<|some<|.ref a.length) (a++ [.dct l]))
def Ig{j:Pos}
  (S:aP X N js d r) (hc:X.calm=true) (hi:PI X u f (tI (md X) i))
  (M:∀C s H fp,PG (aK X N d r C s H fp) u<|tG (md X) g) (K:∀C s H fp,m6 (aK X N d r C s H fp) m<|tB (md X) t) (P:∀C s H fp,PE (aK X N d r C s H fp) v<|tD (md X) B) (hv:∀C s H fp,PE (aK X N d r C s H fp) w<|tD (md X) J) (y:PG X h (oD n))
  (hs:autoParam (∀x,foldedSetIterable f X.env x=pure x) dl._auto_1) (A:autoParam (swapsWithSole [h] (.DictComp v w [⟨u,f,m,0⟩] d c) j.line X.env=pure true) db._auto_1)
  (Q:autoParam ((assignEach [h] X.env).map (·.2)= [assign h X.env]) db._auto_1):PS X (.Assign [h] (.DictComp v w [#[u,f,m,0]] d c) j) (tS (md X)<|MT n<|qp js i g t B J):=
 Aj (Fm S hc hi M K P hv y hs A Q) λD σ H Y=>by
  let#[Z,Γ,S,o,ok,e,q]:=Y
  let#[#[l,S1],e1,e]:=aq e
  cases e
  show Hz ok e1 λk a kv I x G R W ha U=>?_
  let z:=G.box (o:=.dct l) W #[kv,ha,U.pre'<|List.prefix_append k [a]]
  have F:bS Z H (k++ [a]) I:=⟨x.pre.trans (List.prefix_append _ _),λb p=>by
   rcases mQa.mp p with p|p
   ·show x.new b p
   ·rw[Qfq] at p;subst p;show .inr R,x.keep,x.grow⟩
  show q (k++ [a]) _ I F #[((ok.en.ext F).set (.ref ?_)),z]
  rw[<-G.len,QQq (Qmq _)]
  simp
end DL
namespace Zp
open PySem PySem.W PyProof.Rows
end Zp
namespace L2
open PyProof.Rows
end L2
namespace DL
open PyProof.Rows L2
def rq(a b:Str):Prop:=¬(b.cps.toList<a.cps.toList)
instance(a b:Str):Decidable (rq a b):=by unfold rq;infer_instance
def DZ(a b:Str):rq a b\/rq b a:=by
 by_cases h:b.cps.toList<a.cps.toList
 ·show .inr λc=>List.lt_asymm h c
 ·show .inl h
def vJ(e:rq a b)(d:rq b c):rq a c:=by
 unfold rq at *
 rw[List.not_lt] at *
 show List.le_trans e d
def GF(c:rq a b)(d:rq b a):a=b:=by
 unfold rq at *
 rw[List.not_lt] at *
 have:=List.le_antisymm c d
 cases a
 cases b
 erw[Str.mk.injEq]
 show Array.toList_inj.mp this
noncomputable def Br(x:Str):List Str->List Str
 | []=> [x]
 |y::r=>if rq x y then x::y::r else y::Br x r
noncomputable def qf:List Str->List Str
 | []=> []
 |x::r=>Br x (qf r)
theorem pJ(x:Str):∀l:List Str,(Br x l).Perm (x::l)
 | []=>List.Perm.refl _
 | y::r=>by
   unfold Br
   split
   · show List.Perm.refl _
   · show((pJ x r).cons y).trans (List.Perm.swap _ _ _)
theorem lF:∀l:List Str,(qf l).Perm l
 | []=>List.Perm.refl _
 |x::r=>(pJ x _).trans ((lF r).cons x)
theorem qR:∀{l:X6},l.Pairwise rq->(Br x l).Pairwise rq
 | [],_=>by simp[Br]
 | y::r,h=>by
   rw[List.pairwise_cons] at h
   unfold Br
   split
   · rename_i c
     show List.pairwise_cons.mpr #[λz a=>?_,List.pairwise_cons.mpr h]
     rcases Qsq.mp a with rfl|a
     · show c
     · show vJ c<|h.1 z a
   · rename_i c
     show List.pairwise_cons.mpr #[λz a=>?_,qR h.2]
     rcases Qsq.mp ((pJ x r).mem_iff.mp a) with rfl|a
     · show(DZ _ _).resolve_left c
     · show h.1 z a
theorem ja:∀l:List Str,(qf l).Pairwise rq
 | []=>List.Pairwise.nil
 |x::r=>qR (ja r)
def w4:∀{l:X6},sortedS l=true->l.Pairwise rq
 | [],_=>List.Pairwise.nil
 | x::r,h=>by
   have e:∀(r:X6) (x:Str),risingS x r=true->(x::r).Pairwise rq:=by
     intro r
     induction r with
     |nil=>intro x _;simp
     | cons y r d=>
       intro x h
       unfold risingS at h
       erw[QCq] at h
       let c:=d y h.2
       have b:rq x y:=by
         have:=h.1
         unfold rq
         rw[ltCps_eq] at this
         simpa using this
       show List.pairwise_cons.mpr #[λz a=>?_,c]
       rcases Qsq.mp a with rfl|a
       · show b
       · show vJ b ((List.pairwise_cons.mp c).1 z a)
   show e r x h
def C2(h:sortedS c=true)(p:c.Perm d):c=qf d:=
 List.Perm.eq_of_pairwise (le:=rq) (λa b _ _ f e=>GF f e) (w4 h) (ja d) (p.trans (lF d).symm)
end DL
namespace L2
open PyProof.Rows
end L2
namespace DL
open L2
noncomputable def vk:List D->Option (List Str)
 | []=>some []
 |.str x::r=>(vk r).bind λc=>some (x::c)
 |_::_=>none
theorem yH:∀{ds:List D} {vs:List V} {xs:X6},bh M ρ H ds vs->vk ds=some xs->vs=xs.map V.str
 | [],_,_,h,e=>by cases h;cases e;rfl
 | d::ds,_,_,h,e=>by
   cases d with
   | str b=>
     erw[vk] at e
     let#[f,c,e]:=aq e
     cases e
     cases h with
     | cons h i=>
       cases h
       rw[yH i c]
       rfl
   |_=>cases e
theorem vI:∀c:List Str,bh M ρ H (c.map D.str) (c.map V.str)
 | []=>.nil
 |s::c=>.cons (.str s) (vI c)
noncomputable def BW(f:et):gw:=λh S=>(f h S).bind λ(p,d)=>if p.2.isL=true then(vk p.1).bind λc=>if c.length<64 then some ((qf c).map D.str,d) else none else none
def MO(o:Gl X "sorted")(C:X.mg "sorted"=none)(G:PE X a (tQ (md X) f))(i:autoParam (starEach [a] X.env= [(false,eval a X.env)]) db._auto_1):
  PE X (.Call (.Name "sorted" p) [a] [] g) (tL (md X)<|BW f):=
 j2 (jM w6 o C PyProof.Rows.boot_sorted (cK G fu i) (he:=i)) λK H Q z=>by
  let#[A,B,S,d,M,ok,e,q]:=z
  let#[#[#[v,t],I],F,e]:=aq e
  dsimp only at e
  split at e
  ·rename_i c
   let#[m,w,e]:=aq e
   split at e
   ·rename_i y
    let#[rfl,rfl]:=bZ e
    show#[A,B,S,v,t,I,ok,F,λn a J N x j h r=>#[a,m,L,?_,y,λl s hl u k=>?_]]
    ·rw[<-yH r w];show h.sqL c
    ·cases C2 u k
     show q _ _ _ _ (x.trans<|bS.laid hl) (j.lay hl) (x.grow _ hl) (cR x j hl) bx<|vI _
   ·cases e
  ·cases e
def wz{K:X1}:bB P w K d a dX k f g ps (eU #[K,d] n λ_ _=>none):=
 {len:=λi H Q E h=>by
   let#[_,_,_,_,_,_,_,_,e,_]:=h
   cases e
  run:=λA b s H c j i Q E _ _ _ _ h=>by
   let#[_,_,_,_,_,_,_,_,e,_]:=h
   cases e}
end DL
namespace Zq
open PySem PyProof.Rows
def Jh{A:X_}(n:A.handled=none)(t:Bool)(it a:X8)(f:a≠it)(items:Xa):
  Draws prog w A it [it,a] items.size (λi v=>items[i]?=some v) (λi h=>It t h it a i/\Sq t h a items) where
 live:=λ_ _ b=>by let#[o,h,_]:=b.1.obj;show#[o,h]
 frame:=λ_ _ _ b g=>#[b.1.at λo e=>g it (by simp) o e,b.2.at λo e=>g a (by simp) o e]
 item:=λi s Q E j b k=>draw b.1 b.2 (v:=items[i]) (by simp[j]) λl d c=>k _ l s.toks (by simp[j]) #[d,b.2.ext c.extBut f] c
 done:=λs Q E b m=>Ca n b.1 b.2 (by simp) m
def EC{A:X_}(f:A.handled=none)(t:Bool)(it a:X8)(items:Xa)(k:Nat)(c:items.size<=k):
  Draws prog w A it [it,a] k (λi v=>items[i]?=some v) (λi h=>i=k/\It t h it a k/\Sq t h a items) where
 live:=λ_ _ b=>by let#[o,h,_]:=b.2.1.obj;show#[o,h]
 frame:=λ_ _ _ b c=>#[b.1,b.2.1.at λo e=>c it (by simp) o e,b.2.2.at λo e=>c a (by simp) o e]
 item:=λi s Q E g b j=>absurd b.1 (Qwq g)
 done:=λs Q E b d=>Ca f b.2.1 b.2.2 (by simp[c]) d
noncomputable abbrev E2(t:Bool)(h:Xe)(a:X8):Heap:=(H1 t h a).push {cls:=.type "enumerate",data:=.fields (List.toArray [.none,.bool false,.ref h.objs.size,rawInt 0,.none,.none])}
def AZ(t:Bool)(a:X8)(xs:Xa):Meets (Builtin.«enumerate.__new__» #[[.type "enumerate",.ref a],[]]) (λ_ R s=>Sq t s.heap a xs/\R (.ok (.ret (.ref (H1 t s.heap a).objs.size))) {s with heap:=E2 t s.heap a}):=
 .of_wp λk w A R s h=>by
  let#[j,g,d,f,i]:=s
  let#[e,h]:=h
  let l:=sub_enumerate
  cases t
  ·have b:Heap.IsList (Shared.heap #[j,g,d,f,i]) a xs:=e
   wp_walk
   show wpAny_stack_any λm=>Qgq ?_
   split
   ·rename_i c _ _ _ _ _
    cases (c==Value.type "enumerate")
    ·wp_walk using wpAny_pyIter_list b
     show#[_,L,h]
    ·wp_walk using wpAny_pyIter_list b
     show#[_,L,h]
   ·wp_walk using wpAny_pyIter_list b
    show#[_,L,h]
  ·have b:Heap.IsTuple (Shared.heap #[j,g,d,f,i]) a xs:=e
   wp_walk
   show wpAny_stack_any λm=>Qgq ?_
   split
   ·rename_i c _ _ _ _ _
    cases (c==Value.type "enumerate")
    ·wp_walk using wpAny_pyIter_tuple b
     show#[_,L,h]
    ·wp_walk using wpAny_pyIter_tuple b
     show#[_,L,h]
   ·wp_walk using wpAny_pyIter_tuple b
    show#[_,L,h]
def Oe{E:X0}{s:X4}{Q:X0}(g:Sq t s.heap a xs)
  (q:∀h',IsEnum h' (s.heap.objs.size+1) s.heap.objs.size 0 .none->It t h' s.heap.objs.size a 0->(∀c o,s.heap.get? c=some o->h'.get? c=some o)->Q (.ref (s.heap.objs.size+1)) {s with heap:=h'}):
  wpAny (model prog w) A (call (.type "enumerate") [.ref a]) Q E s:=by
 show callType_new F.called_enumerate (!1) (F.typeCall_enumerate_1 _) (F.newCall_enumerate_1 _) (λd=>F.args_object_init_2 d _) F.entry_enumerate_new (AZ t a xs) #[g,?_]
 have e:(H1 t s.heap a).objs.size=s.heap.objs.size+1:=Heap.size_push ..
 have b:(E2 t s.heap a).get? (H1 t s.heap a).objs.size=some _:=Qrq _ L
 have f:(E2 t s.heap a).get? s.heap.objs.size=some _:=Qcq _ (Qrq _ L)
 show(?_:_/\_)
 rw[e] at b
 rw[e]
 show#[#[_,b,L],q _ b ?_ λc o n=>Qcq _<|Qcq _ n]
 cases t <;>show#[_,f,L,L]
end Zq
namespace L2
open PySem PyProof.Rows Zq
noncomputable def QF(K:X1)(t:Bool)(a:X8):It:=
  ⟨λi H=>∃b x,zG K t H a b/\b[i]?=some x,
   λi H v c=>∃p,v=.ref p/\H p=none/\∀b x,zG K t H a b->b[i]?=some x->c=upd H p (.tup [.int (i:Nat),x]),
   λi H=>∃b,zG K t H a b/\b.length<=i⟩
def DT{P:X9}{w:Xc}{K:X1}{m:List Expr}{x1:Nat}{tp:Pos}{t:Bool}{e it a:X8}(l:e≠it)(B:a≠e)(S:a≠it):
  Turn P w K (.Tuple m x1 tp) (QF K t a) [e,it] e (λn h=>(∃d,IsEnum h e it (n:Nat) d)/\Zq.It t h it a n) where
 mem:=by simp
 obj:=λn h ⟨⟨d,f⟩,j⟩ c b=>by
  simp at b
  rcases b with rfl|rfl
  ·show#[_,f,λv n=>by cases n]
  ·show j.obj
 keep:=λn h h' ⟨⟨d,f⟩,j⟩ k=>#[#[d,k e (by simp) _ f],j.at λo e=>k it (by simp) o e]
 item:=by
  rintro X r N J b n i s σ H E I u ⟨⟨d,f⟩,j⟩ G
  subst r N J
  let#[xs,x,y,R]:=G
  let#[g,C,U,_]:=I.sq y
  let#[ux,Y,rx]:=C.get R
  have lt:∀{c o},s.heap.get? c=some o->c≠s.heap.objs.size:=λe=>Qwq (Qiq e)
  have p:∀c∈[e,it],c≠s.heap.objs.size:=λc b=>by
   let#[oi,e1,_]:=j.obj
   simp at b
   rcases b with rfl|rfl
   ·show lt f
   ·show lt e1
  have z:n<g.toArray.size:=by
   have:=(gQs.mp Y).1
   simpa using this
  show wpAny_pyNext_enum_itemD (Jh (A:=X.A.in1) (I.ok.hd b) t it a S g.toArray) f #[j,U] z l (by simp[l,Ne.symm B]) λx' h1 Z r ho F hT a1 hk=>#[_,L,?_]
  obtain rfl:x'=ux:=by
   have:=r
   erw[List.getElem?_toArray] at this
   rw[Y] at this
   show(QdQ this).symm
  show wpAny_letOwnedTupleGo_enum ho λh2 e2 Q=>?_
  have I2:Inv X i σ (upd H s.heap.objs.size<|.tup [.int (n:Nat),x]) {s with heap:=h2,toks:=Z+1}:=I.turnedNew (t':=Z+1) (fp:= [e,it]) u (λc o b q=>?_) (Qmq _) ?_
  ·show#[.ref s.heap.objs.size,_,I2,L,#[s.heap.objs.size,L,I.hok.fresh<|Qmq _,λa0 x' q1 M=>?_],#[#[_,by simpa using e2],F.1.ext Q.extBut<|Ne.symm l],λc b=>?_]
   ·rw[I.sq_inj q1 y] at M
    rw[R] at M
    cases M
    rfl
   ·rw[aU (p c b)]
    show(u c b).1
  ·simp at b
   show Q.extBut _ _ b.1<|hk c o b.1 b.2 q
  ·show#[by show 2<=_;decide,[_,_],.cons #[_,L] (.cons rx .nil),_,Q.extBut _ _ (λq=>p e (by simp) q.symm) hT,L,L,0,L]
 done:=by
  rintro X r N J b n i s σ H E I u ⟨⟨d,f⟩,j⟩ G
  subst r N J
  let#[xs,y,R]:=G
  let#[g,C,U,_]:=I.sq y
  let hl:=C.length
  show wpAny_pyNext_enum_endD (EC (A:=X.A.in1) (I.ok.hd b) t it a g.toArray n (by simp;omega)) f #[L,j,U] λh1 r1=>#[L,I.turnedL (t':=s.toks) (fp:= [e,it]) u λc o b q=>?_]
  simp at b
  show r1 c o b.2 q
 self:=λ_ _ _ _ _ ⟨⟨d,f⟩,_⟩ h=>wpAny_pyIter_enum f h
def M_(K:X1)(d:TA):TI:=λe H R=>d e H λb H1=>∃(t:Bool) (a:X8) (c:List V),b= [.ref a]/\zG K t H1 a c/\R (QF K t a) H1
def HG(w:Gl X "enumerate")(G:X.mg "enumerate"=none)(J:PA X [a] m)(C:autoParam (starEach [a] X.env= [(false,eval a X.env)]) db._auto_1):
  PI X (.Tuple b N B) (.Call (.Name "enumerate" p) [a] [] f) (M_ X.K m):=by
 intro d s F H R I h
 show Call_<|jh I w G (by rfl)<|PyProof.Rows.callWith_type1 (cE (J f d s F H _ I h) λY i ⟨U,H1,g,v,z⟩=>?_) C L
 let#[t,x,W,e,M,q]:=z
 subst e
 cases v with
 | cons r A=>
   cases A
   cases r
   let#[y,Q,n,_]:=g.sq M
   let l:=Sq.lt n
   show Zq.Oe n λS o P k=>?_
   show wpAny_pyIter_enum o #[_,_,_,_,H1,L,g.kept (t':=i.toks) k,DT (e:=i.heap.objs.size+1) (it:=i.heap.objs.size) (Nat.succ_ne_self _) (Qwq<|Nat.lt_succ_of_lt l)<|Qwq l,#[#[_,o],P],λc u=>?_,q]
   have j:i.heap.objs.size<=c:=by
     erw[Qsq,QXq,or_false] at u
     rcases u with e|e <;>(rw[e];first|show Qmq _|show Nat.le_add_right _ _)
   show g.fpOk j<|g.hok.fresh j
end L2
namespace DL
open L2
noncomputable def gy(n:Nat):List D->List D
 | []=> []
 |d::ds=>.tup [.int n,d]::gy (n+1) ds
theorem qA:∀{ds:List D} {n i:Nat} {d:D},(gy n ds)[i]?=some d->∃x,ds[i]?=some x/\d=.tup [.int ((n+i:Nat)),x]
 | [],_,_,_,h=>by simp[gy] at h
 | x::ds,n,0,d,h=>by
   erw[gy,List.getElem?_cons_zero,Option.some.injEq] at h
   show#[x,L,h.symm]
 | x::ds,n,i+1,d,h=>by
   erw[gy,List.getElem?_cons_succ] at h
   let#[y,b,a]:=qA h
   show#[y,by simpa using b,by rw[a];congr 3;omega]
theorem pX:∀{ds:List D} {n:Nat},(gy n ds).length=ds.length
 | [],_=>rfl
 |_::_,_=>congrArg (·+1) pX
noncomputable def yn(f:et):sE:=λb S=>(f b S).bind λ(p,a)=>some ((gy 0 p.1,λS=>p.2.stays S p.1),a)
def P1(B:Gl X "enumerate")(P:X.mg "enumerate"=none)(Z:PE X a (tQ (md X) f))(t:autoParam (starEach [a] X.env= [(false,eval a X.env)]) db._auto_1):
  PI X (.Tuple c n J) (.Call (.Name "enumerate" p) [a] [] b) (tI (md X)<|yn f):=N8 (HG B P (cK Z fu t) t) λσ H R ⟨I,K,S,ds,W,S',ok,e,q⟩=>by
 let#[#[#[k,G],S1],Q,e]:=aq e
 let#[U,rfl]:=bZ e
 let#[rfl,rfl]:=Prod.mk.inj U
 show#[I,K,S,k,G,S1,ok,Q,λC a1 h H1 n j r z=>?_]
 show#[_,a1,h,L,r.sqB,q _ _ _ n j λi F S3 H3 A g w=>?_]
 let#[m,l,o]:=r.to z A g w
 show#[λd y=>?_,λM=>#[m,l.sqB,?_]]
 ·let#[x,N,rfl]:=qA y
  let#[u,s,ru]:=o.get N
  show#[#[m,u,l.sqB,s],λv H4 Y=>?_]
  let#[p,rfl,hp,hq]:=Y
  have:=hq m u l.sqB s
  subst this
  show#[bS.laid hp,g.lay hp,.tup bx ((bh.cons ?_<|.cons ru .nil).ext (bS.laid hp))]
  rw[Nat.zero_add]
  show .int _
 ·rw[M,pX,o.length]
  show Qmq _
structure BI(P:X9)(w:Xc)(K:X1)(mg:X3)(x:Str)(tbl:List (Str×Str)):Prop where
 at_:∃a,mg x=some (.ref a)/\∀h:Heap,K.In h->∃vs,h.DictOf (bO P w) a vs/\∀k nm,tbl.lookup k=some nm->∃f,valueAt vs (Sum.inr k:Key)=some (.ref f)/\mg nm=some (.ref f)
noncomputable def OG(d:List (Str×Str))(g:bj):bj:=λi S=>(g i S).bind λ(y,f)=>match y with
 |.str x=>(d.lookup x).bind λnm=>some (.fn nm,f)
 |_=>none
def I_{X:Cx}(P:BI X.prog X.w X.K X.mg x j)(N:Gl X x)(M:PE X b (tD (md X) g))(hs:HW b)(G:autoParam ((x==("__debug__":Str))=false) cV._auto_1):
  PE X (.Subscript (.Name x p) b h) (tD (md X)<|OG j g):=by
 rintro l s σ H Q I ⟨A,Γ,S,d,S',ok,e,q⟩
 let#[a,hm,U]:=P.at_
 let#[#[y,C],e1,e]:=aq e
 cases y with
 | str z=>
   let#[nm,Y,e]:=aq e
   let#[rfl,rfl]:=bZ e
   show CP PySem.F.slot_dict_getitem.lookup hs<|xT I N hm ?_ G
   show cE (M l s σ H (λv m=>∃i,bS A H i m/\fT (md X) i C m/\Rel (md X) i m (.str z) v) I #[A,Γ,S,_,C,ok,e1,λi v m x st r=>#[i,x,st,r]]) λiv R qr=>?_
   let#[v,H2,u,Z,i,x2,t,r2]:=qr
   let#[vs,B,hv]:=U _ u.kIn
   let#[f,hf,n]:=hv z nm Y
   cases r2
   have ty:R.TypeIs (.ref a) "dict":=by
     let#[o,es,ep,W,J,h3,_]:=B
     show#[o,W,J.1]
   show#[ty,wpAny_getItem_of (z9 (k:=Sum.inr z) Z) B.mapOf hf ?_]
   show#[.ref f,H2,u.tok _,L,q _ _ _ x2 t<|.fn n]
 |_=>cases e
def tw(i:Nat)(T:List (Str×dE))(g:gw):bj:=λd S=>match d[i]? with
 |some (some<|.fn x)=>(T.lookup x).bind λF=>az F g d S
 |_=>none
def Hf{X:Cx}{T:List (Str×dE)}(Z:∀x F,T.lookup x=some F->fG X.prog X.w X.K X.mg X.base k x ps F)(hr:dU k X.A)(hN:X.N[i]?=some y)(hv:G0 X.env.scope y)
  (ha:PA X (e::es) (x_ (md X) g)) (hn:nA ps.length g) (B:autoParam ((y==("__debug__":Str))=false) cV._auto_1) (z:autoParam ((y==("__classdict__":Str))=false) cV._auto_1) (he:autoParam (starEach (e::es) X.env=(false,eval e X.env)::starEach es X.env) db._auto_1) (hpl:autoParam ((backTo h<|starEach es X.env).any (·.1)=false) db._auto_1):
  PE X (.Call (.Name y p) (e::es) [] h) (tD (md X)<|tw i T g):=by
 rintro j s n H Q I ⟨ρ,Γ,S,d,S',ok,e,q⟩
 unfold tw at e
 split at e
 ·rename_i x hx
  let#[F,o,e]:=aq e
  let#[f,fd,G,U,P,m]:=(Z x F o).ex
  let#[v,t,rv]:=ok.en.get i _ hx
  cases rv with
  | fn hm=>
    have M:(md X).mg x=some (.ref f):=m
    rw[hm] at M
    cases M
    show wpAny_Call_Name_kw (cE (Fx hN hv B z j s n H (λC l=>C=.ref f/\l=H) I #[_,t,L,L]) λu s1 qr=>?_)
    let#[C,l,Y,R,o,e2]:=qr
    subst o e2
    cases (show u=Value.ref f from R)
    show PySem.W.callWith_K (h₀:=X.base) I.ok.mod.kin P (cE (ha h j s1 n l _ Y<|CI hn n l Q #[ρ,Γ,S,d,S',ok,e,q]) λus s2 ⟨vs,H1,J,r,q2⟩=>#[J.kIn,?_]) he hpl
    show GX G hr U .nil FW J r q2
 ·cases e
def Am(w:Xc)(x:Str):PyData.keyHash w.params x=hashStr w x:=by
 unfold PyData.keyHash hashStr
 first|rfl|simp
inductive Al(w:Xc)(mg:X3):List DictEntry->List (Str×Str)->Prop
 |nil:Al w mg [] []
 |cons {x nm:Str} {t:Tok} {f:X8} {es:List DictEntry} {tbl:List (Str×Str)}:mg nm=some (.ref f)->Al w mg es tbl->Al w mg (#[PyData.keyHash w.params x,.str x t,.ref f]::es) ((x,nm)::tbl)
def Al.keys(b:Al w c es a):∀e∈es,∃k,(bO P w).is k e.key=true/\e.hash=(bO P w).hash k:=by
 induction b with
 |nil=>intro e h;cases h
 | @cons x nm t f es a hm b ih=>
   intro e h
   rcases Qsq.mp h with rfl|h
   · show#[Sum.inr x,qi x t,Am w x]
   · show ih e h
def Al.pairs(d:Al w e es a):∃vs:List (Key×Value),Pairs (bO P w) es vs/\vs.map (·.1)=a.map (λp=>Sum.inr p.1)∧
  ∀k nm,a.lookup k=some nm->∃f,valueAt vs (Sum.inr k:Key)=some (.ref f)/\e nm=some (.ref f):=by
 induction d with
 |nil=>show#[[],.nil,L,λk nm h=>by cases h]
 | @cons x nm t f es a hm d ih=>
   let#[vs,m,i,o]:=ih
   show#[(Sum.inr x,.ref f)::vs,.cons (qi x t) L m,by simp[i],λk n h=>?_]
   by_cases c:k=x
   · subst c
     rw[List.lookup_cons_self] at h
     cases h
     show#[f,?_,hm]
     unfold valueAt
     rw[List.find?_cons_of_pos (by simp)]
     rfl
   · have j:(k==x)=false:=by simpa using c
     rw[List.lookup_cons,j] at h
     let#[g,b,l]:=o k n h
     show#[g,?_,l]
     unfold valueAt at b|-
     rw[List.find?_cons_of_neg]
     · show b
     · intro z
       have:(Sum.inr x:Key)=Sum.inr k:=by simpa using z
       show c (Sum.inr.inj this).symm
def FD{K:X1}{d:X3}{es:List DictEntry}(q:d x=some (.ref a))(l:K.lookup a=some #[.type "dict",none,.dict es.toArray ep,(List.toArray [])])(f:Al w d es c)(i:(c.map (·.1)).Nodup):BI P w K d x c:=by
 let#[k,m,g,o]:=f.pairs (P:=P)
 show#[a,q,λh j=>#[k,#[_,_,_,j _ _ l,#[L,L,L],L,λe r=>f.keys e (by simpa using r),by simpa using m,?_],o]]
 rw[g]
 have:c.map (λp=>(Sum.inr p.1:Key))=(c.map (·.1)).map Sum.inr:=by rw[QPq];rfl
 rw[this]
 show List.Pairwise.map _ (λa b n e=>n<|Sum.inr.inj e) i
theorem EH{K:X1}:∀{T:List (Str×dE)},(∀p∈T,fG P w K b a k p.1 ps p.2)->∀x F,T.lookup x=some F->fG P w K b a k x ps F
 | [],_,x,F,h=>by cases h
 | p::T,g,x,F,h=>by
   by_cases c:x=p.1
   · subst c
     rw[List.lookup_cons_self] at h
     cases h
     show g p<|QBq ..
   · have e:(x==p.1)=false:=by simpa using c
     rw[List.lookup_cons,e] at h
     show EH (λq d=>g q<|Qpq _ d) x F h
def zf:Sp:=λc H Q _=>∃(a:X8) (b:List Int) (o:Obj),c= [.ref a]/\H a=some (.frz o (.lst (b.map V.int)))/\b.length<=63/\∀d,Q (.bl true) d
theorem u5:∀ns:List Int,bh M ρ H (ns.map D.int) (ns.map V.int)
 | []=>.nil
 |s::ss=>.cons (.int s) (u5 ss)
def HF{K:X1}(G:bB P w K i c dX k f j ps (eU #[K,i] 1 F))
  (h:∀ns:List Int,ns.length<=63->∃g,F [.ref 0] [.frz (ns.map D.int)]=some (.d (.bl true),g)):bB P w K i c dX k f j ps zf:=
 G.imp λu H Q E p=>by
  let#[a,ns,o,e,s,hl,q]:=p
  subst e
  let#[g,e]:=h ns hl
  show#[[a],[.frz (ns.map D.int)],[.ref 0],_,g,L,.cons (.ref L) .nil,#[L,by simp,λk b y l m=>?_],e,λn v t x z r=>?_]
  ·cases k with
   |zero=>cases l;cases m;show#[_,o,s,u5 ns]
   |succ k=>simp at l
  ·cases r
   show q t
noncomputable def Ag(K:X1):Bool:=K.all λp=>match p.2.data with|.seq _ _=>(match p.2.cls with|.type s=>s !="list" |_=>true)|_=>true
def C9{K:X1}(h:Ag K=true)(e:K.lookup a=some o)(i:o.data=.seq f n):o.cls≠.type "list":=by
 intro l
 have d:∀(K:X2),K.all (λp=>match p.2.data with|.seq _ _=>(match p.2.cls with|.type s=>s !="list" |_=>true)|_=>true)=true->K.lookup a=some o->False:=by
  intro K
  induction K with
  |nil=>intro _ e;cases e
  | cons p K k=>
    intro h e
    rw[List.all_cons,QCq] at h
    let#[b,q]:=p
    rw[List.lookup_cons] at e
    by_cases c:a=b
    · subst c
      erw[BEq.rfl] at e
      cases e
      let g:=h.1
      erw[i,l] at g
      simp at g
    · have j:(a==b)=false:=by simpa using c
      rw[j] at e
      show k h.2 e
 show d K h e
def Oh{K:X1}{ns:List Int}(nl:Ag K=true)(hl:ns.length<=63)(c:II H)(b:i8 K H a (ns.map V.int)):zf [.ref a] H (λv _=>v=.bl true) λ_ _ _=>False:=by
 rcases b with(h|⟨o,h⟩)|⟨o,its,n,h,hc,_,hd,_⟩
 ·rcases c a with z|⟨o,d,z⟩
  ·rw[h] at z;cases z
  ·rw[h] at z;cases z
 ·show#[a,ns,o,L,h,hl,λ_=>rfl]
 ·show absurd hc<|C9 nl h hd
def q5{l:PySem.W.OpenLaw}{m:World->Heap->Prop}{d:DefRec}{K:Params->PySem.W.Frag}(v:l.most=some 63)(g:d.params.defaults= [])(t:dU k PySem.callerA)
  (r:∀(w:Xc) (h:Xe),m w h->(K w.params).In h) (nl:∀w:World,Ag (K w.params)=true)
  (F:∀(w:Xc) (e:X3) (j:X8) (h:Xe),(K w.params).In h->h.Ns mainGlobals e->e d.name=some (.ref j)->
   ∃i:FuncData,(∀(s:X4) (u:Xd),BindsTo s i #[[u],[]] [("_law_script",u)])/\∀b:Heap,(K w.params).In b->b.Ns mainGlobals e->bB l.prog w (K w.params) e b dX k j i ["_law_script"] zf):
  PySem.W.WalkO q c o m l.row.toRowW d [] (λf vs=>PySem.call f vs):=
 L2.IU (n:=63) (k:=k) (x:="_law_script") (CX:=λ_=>dX) (sp:=λ_=>zf) v (!1) g t r F (λw H a A hl p y=>Oh (nl w) hl p y) λ_ _ _ _ _ z=>z
end DL
namespace DL
open L2 PyProof.Rows
def D6{X:Cx}{a:Pos}(i:Nat)(g:X.N.Nodup)(he:PE X e (tD (md X) f))(hi:autoParam (X.N[i]?=some x) db._auto_1)(h:autoParam (Loc X.env.scope x) cU._auto_1)(d:autoParam (swapsWith e (some<|.Name x b) a.line X.env=pure false) db._auto_1)
  (c:autoParam (X.fn x=true\/X.env.scope.names.lookup x=some .local) cU._auto_1):PS X (.Assign [.Name x b] e a) (tS (md X)<|aV i f):=NU (LJ g hi h he d c)
def Rh{X:Cx}(i:Nat)(d:X.N.Nodup)(hi:autoParam (X.N[i]?=some x) db._auto_1)(g:autoParam (Loc X.env.scope x) cU._auto_1)(c:autoParam (X.fn x=true\/X.env.scope.names.lookup x=some .local) cU._auto_1):PG X (.Name x a) (oD i):=xZ d hi g c
def Kd{X:Cx}(i:Nat)(d:X.N.Nodup)(hi:autoParam (X.N[i]?=some x) db._auto_1)(g:autoParam (Loc X.env.scope x) cU._auto_1)(c:autoParam (X.fn x=true\/X.env.scope.names.lookup x=some .local) cU._auto_1):PG X (.Name x a) (tG (md X)<|bD i):=GN (xZ d hi g c)
def Q_{N:X6}(i:Nat)(j:autoParam (N.Nodup) ef._auto_1)(hi:autoParam ((aK X N c d C s H fp).N[i]?=some x) db._auto_1)(h:autoParam (Loc (aK X N c d C s H fp).env.scope x) cU._auto_1)
  (g:autoParam ((aK X N c d C s H fp).fn x=true\/(aK X N c d C s H fp).env.scope.names.lookup x=some .local) cU._auto_1):PG (aK X N c d C s H fp) (.Name x a) (tG (md<|aK X N c d C s H fp)<|bD i):=GN (xZ j hi h g)
def v_{X:Cx}(i:Nat)(h:autoParam (X.N[i]?=some x) db._auto_1)(g:autoParam (G0 X.env.scope x) cU._auto_1)(d:autoParam ((x==("__debug__":Str))=false) cV._auto_1)(c:autoParam ((x==("__classdict__":Str))=false) cV._auto_1):PE X (.Name x a) (tD (md X)<|au i):=Mf (pv i h g d c)
def L9{X:Cx}(C:fG X.prog X.w X.K X.mg X.base k x ps F)(h:dU b X.A)(f:PA X (e::es) (x_ (md X) g))(d:autoParam (k<=b) ei._auto_1)(i:autoParam (Gl X x) db._auto_1)
  (j:autoParam (nA ps.length g) ej._auto_1)
  (c:autoParam ((x==("__debug__":Str))=false) cV._auto_1) (he:autoParam (starEach (e::es) X.env=(false,eval e X.env)::starEach es X.env) db._auto_1) (hpl:autoParam ((backTo a<|starEach es X.env).any (·.1)=false) db._auto_1):
  PE X (.Call (.Name x p) (e::es) [] a) (tD (md X)<|az F g):=NX C (h.mono d) i f j c he hpl
def MW{X:Cx}(C:fG X.prog X.w X.K X.mg X.base k x ps F)(h:dU b X.A)(f:PA X (e::es) (x_ (md X) g))(d:autoParam (k<=b) ei._auto_1)(i:autoParam (Gl X x) db._auto_1)
  (j:autoParam (nA ps.length g) ej._auto_1)
  (c:autoParam ((x==("__debug__":Str))=false) cV._auto_1) (he:autoParam (starEach (e::es) X.env=(false,eval e X.env)::starEach es X.env) db._auto_1) (hpl:autoParam ((backTo a<|starEach es X.env).any (·.1)=false) db._auto_1):
  PE X (.Call (.Name x p) (e::es) [] a) (tL (md X)<|eQ F g):=Nh C (h.mono d) i f j c he hpl
def fL{N P:X6}{h:Scope}(a:autoParam (h.kind=.function) db._auto_1)(b:autoParam (h.isCoroutine=false) db._auto_1)(c:autoParam (h.isGenerator=false) db._auto_1)(d:autoParam (N.Nodup) ef._auto_1)(e:autoParam (N.take P.length=P) db._auto_1)
  (f:autoParam (∀x∈P,h.names.lookup x=some .local\/h.names.lookup x=some .cell) ef._auto_1) (g:autoParam (∀y∈h.names,y.2≠.free) ef._auto_1):aI N P h:=#[a,b,c,d,e,f,g]
structure bu(K:X1)(x:Str)(st:Stmt)(f:X8):Prop where
 ex:∃(oc:Xd) (od:Option Addr) (kV dc pm:Xd) (an:Option Addr) (cd ct:Xd) (sl:Array (Option Value)),PySem.W.nsIn K mainGlobals x=some (some<|.ref f)∧
  K.lookup f=some #[oc,od,.func (PySem.W.fnOf x x (g_ st) (fc st) (aC st) .none kV dc pm an cd ct),sl]/\PySem.W.codeIn K cd x=true/\PySem.W.keepIn K (.ref f)=true
def bu.of{K:X1}{x:Str}{st:Stmt}{f:X8}{i:Xd}{g:Option Addr}{kV h e:Xd}{d:Option Addr}{b j:Xd}{sl:Array (Option Value)}(a:PySem.W.nsIn K mainGlobals x=some (some<|.ref f))
  (l:K.lookup f=some #[i,g,.func (PySem.W.fnOf x x (g_ st) (fc st) (aC st) .none kV h e d b j),sl]) (c:PySem.W.codeIn K b x=true) (k:PySem.W.keepIn K (.ref f)=true):bu K x st f:=#[i,g,kV,h,e,d,b,j,sl,a,l,c,k]
structure Pm(K:X1)(mg:X3)(x:Str)(st:Stmt)(ps:X6)(f:X8):Prop where
 ex:∃fd,eW K x x st f fd/\Binds K fd ps []/\PySem.W.keepIn K (.ref f)=true
 m:mg x=some (.ref f)
noncomputable abbrev zlz(ps:List PySem.Str):(List PySem.Value->Prop)->Prop:=List.rec (motive:=fun _=>(List PySem.Value->Prop)->Prop) (fun P=>P []) (fun _ _ r P=>∀a,r fun u=>P (a::u)) ps
theorem zlf:∀{ps:List PySem.Str}{P:List PySem.Value->Prop},zlz ps P->∀us:List PySem.Value,us.length=ps.length->P us:=by
 intro ps
 induction ps with
 |nil=>intro P h us e;exact List.eq_nil_of_length_eq_zero e▸h
 |cons p ps ih=>
  intro P h us e
  cases us with
  |nil=>cases e
  |cons a us=>exact ih (P:=fun u=>P (a::u)) (h a) us (Nat.succ.inj e)
def bu.ok1{K:X1}{k:X3}{x:Str}{st:Stmt}{ps:X6}{f:X8}{h:Xe}(D:bu K x st f)(X:K.In h)(G:h.Ns mainGlobals k)
  (m:autoParam (∀(kV d e:Xd) (j:Option Addr) (c l:Xd),zlz ps fun a:X5=>bindArgs (PySem.W.fnOf x x (g_ st) (fc st) (aC st) .none kV d e j c l) #[a,[]]=pure (ps.zip a)) el._auto_1):Pm K k x st ps f:=by
 let#[p,r,kV,o,e,j,q,l,sl,n,g,i,b]:=D.ex
 show#[#[_,Bj g i b,(Bj g i b).binds (λkV d e j c l=>zlf (m kV d e j c l)),b],PySem.W.mg_of X G n]
structure Pk(P:X9)(w:Xc)(base:Xe):Prop where
def Pm.cal{P:X9}{w:Xc}{a:Xe}{K:X1}{c:X3}{x:Str}{st:Stmt}{ps:X6}{f:X8}{k:Nat}{F:dE}(O:Pm K c x st ps f)(Z:Pk P w a)
  (h:∀b,eW K x x st f b->Binds K b ps []->PySem.W.keepIn K (.ref f)=true->c x=some (.ref f)->bB P w K c a dX k f b ps (eU #[K,c] ps.length F)):fG P w K c a k x ps F:=by
 let#[b,g,d,e]:=O.ex
 show#[f,b,h b g d e O.m,d,e,O.m]
end DL
namespace DL
open L2
def E(f:cv->aE->Option (α×aE))(c:cv)(S:aE)(Q:α->aE->Prop):Prop:=∃a b,f c S=some (a,b)/\Q a b
def T(f:cO)(a:cv)(S:aE)(Q:Out->Prop):Prop:=∃o,f a S=some o/\Q o
def Fn(F:dE)(ds:List D)(S:aE)(Q:Res->aE->Prop):Prop:=∃r a,F ds S=some (r,a)/\Q r a
def Tg(g:me)(d:D)(c:cv)(S:aE)(Q:cv->aE->Prop):Prop:=∃a b,g d c S=some (a,b)/\Q a b
def Ot(g:rQ)(d:List D)(c:cv)(S:aE)(Q:cv->aE->Prop):Prop:=∃a b,g d c S=some (a,b)/\Q a b
def Op(o:Option α)(Q:α->Prop):Prop:=∃d,o=some d/\Q d
def E.mono{Q R:α->aE->Prop}(h:E f s S Q)(i:∀a S,Q a S->R a S):E f s S R:=by
 let#[a,b,e,q]:=h
 show#[a,b,e,i _ _ q]
def T.mono{Q R:Out->Prop}(h:T f s S Q)(i:∀o,Q o->R o):T f s S R:=by
 let#[a,e,q]:=h
 show#[a,e,i _ q]
def aw{Q:D->aE->Prop}(h:s[i]?=some (some d))(q:Q d S):E (au i) s S Q:=#[d,S,by unfold au;rw[h],q]
def eG{Q:D->aE->Prop}(q:Q d S):E (cF d) s S Q:=#[d,S,L,q]
def aN{Q:List D->aE->Prop}(q:Q [] S):E av s S Q:=#[[],S,L,q]
def ax{Q:List D->aE->Prop}(h:E f s S λd a=>E g s a λds S2=>Q (d::ds) S2):E (ar f g) s S Q:=by
 let#[d,a,b,ds,S2,c,q]:=h
 show#[_,_,by unfold ar;rw[b];erw[Qbq];rw[c];rfl,q]
def cy{o:uF}{Q:D->aE->Prop}(h:E f s S λx a=>E g s a λy S2=>Op (o S2 x y) λd=>Q d S2):E (bp o f g) s S Q:=by
 let#[x,a,b,y,S2,e,d,c,q]:=h
 show#[d,S2,by unfold bp;rw[b];erw[Qbq];rw[e];erw[Qbq];rw[c];rfl,q]
def dH{Q:D->aE->Prop}(h:E f s S λds a=>ds.length<=sizeLine/\Q (.tup ds) a):E (aY f) s S Q:=by
 let#[ds,a,b,l,q]:=h
 show#[_,_,by unfold aY;rw[b];erw[Qbq];rw[Qhq l],q]
def c_{Q:List D->aE->Prop}(h:E f s S λds a=>ds.length<=sizeLine/\Q ds a):E (bA f) s S Q:=by
 let#[ds,a,b,l,q]:=h
 show#[_,_,by unfold bA;rw[b];erw[Qbq];rw[Qhq l],q]
def dG{Q:D->aE->Prop}(h:E f s S λds a=>Q (.ref a.length) (a++ [.lst ds])):E (bE f) s S Q:=by
 let#[ds,a,b,q]:=h
 show#[_,_,by unfold bE;rw[b];rfl,q]
def KC{o:JP}{Q:D->aE->Prop}(h:E f s S λds a=>Op (o ds) λd=>Q d a):E (Cp o f) s S Q:=by
 let#[ds,a,b,d,c,q]:=h
 show#[d,a,by unfold Cp;rw[b];erw[Qbq];rw[c];rfl,q]
def cn{Q:(List D×Tag)->aE->Prop}(h:E f s S λd a=>Op (tW a d) λp=>Q p a):E (aS f) s S Q:=by
 let#[e,a,b,d,c,q]:=h
 show#[d,a,by unfold aS;rw[b];erw[Qbq];rw[c];rfl,q]
def iI{Q:(List D×Tag)->aE->Prop}(h:E f s S λds a=>Q (ds,.fr) a):E (fM f) s S Q:=by
 let#[ds,a,b,q]:=h
 show#[_,a,by unfold fM;rw[b];rfl,q]
def lg{Q:D->aE->Prop}(h:E f s S λp a=>Q (.int p.1.length) a):E (ee f) s S Q:=by
 let#[p,a,b,q]:=h
 show#[_,a,by unfold ee;rw[b];rfl,q]
def fe{Q:D->aE->Prop}(h:E f s S λp a=>Q (.tup p.1) a):E (tupQ f) s S Q:=by
 let#[p,a,b,q]:=h
 show#[_,a,by unfold tupQ;rw[b];rfl,q]
def eV{Q:(List D×Tag)->aE->Prop}(h:E f s S λp a=>p.2.isL=true/\Q p a):E (dC f) s S Q:=by
 let#[p,a,b,l,q]:=h
 show#[_,a,by unfold dC;rw[b];erw[Qbq];rw[Qhq l],q]
def Cc{Q:D->aE->Prop}(h:E f s S λp a=>(p.2.isL=true/\p.2.stays a p.1)/\Q (.bl (!p.1.isEmpty)) a):E (fX f) s S Q:=by
 let#[p,a,b,l,q]:=h
 show#[_,a,by unfold fX;rw[b];erw[Qbq];rw[Qhq l],q]
def bI(Q:D->aE->Prop)(r:Res)(S2:aE):Prop:=match r with|.d x=>Q x S2|.l _=>False
def bo(Q:List D->aE->Prop)(r:Res)(S2:aE):Prop:=match r with|.d _=>False|.l x=>Q x S2
def bF(Q:Bool->aE->Prop)(d:D)(a:aE):Prop:=match d with|.bl k=>Q k a|_=>False
def cI(g:cO)(Q:Out->Prop)(o:Out):Prop:=match o with|.nx a b=>T g a b Q|o=>Q o
def cP(I:Nat->cv->aE->Prop)(n:Nat)(Q:Out->Prop)(o:Out):Prop:=match o with|.nx a b=>I (n+1) a b|.ct a b=>I (n+1) a b|.bk a b=>Q (.nx a b)|o=>Q o
def g8(S:aE)(Q:Res->aE->Prop)(o:Out):Prop:=match o with
 |.nx _ a=>Op (settle S .non a) λp=>Q p.1 p.2|.rt d a=>Op (settle S d a) λp=>Q p.1 p.2|.rl l a=>Op (fQ S l a) λp=>Q p.1 p.2|_=>False
def QY{Q:D->aE->Prop}(h:Q x S):bI Q (.d x) S:=h
def Ra{Q:List D->aE->Prop}(h:Q x S):bo Q (.l x) S:=h
def jc{Q:Bool->aE->Prop}(h:Q k S):bF Q (.bl k) S:=h
def Q6(h:let a:=s;T g a S Q):cI g Q (.nx s S):=h
def bX(h:E g s S λds a=>Fn F ds a<|bI Q):E (az F g) s S Q:=by
 let#[ds,a,c,r,b,e,q]:=h
 cases r with
 |d x=>show#[x,b,by unfold az;rw[c];erw[Qbq];rw[e];rfl,q]
 |l x=>show q.elim
def xp(h:E g s S λds a=>Fn F ds a<|bo Q):E (eQ F g) s S Q:=by
 let#[ds,a,c,r,b,e,q]:=h
 cases r with
 |d x=>show q.elim
 |l x=>show#[x,b,by unfold eQ;rw[c];erw[Qbq];rw[e];rfl,q]
def bJ(h:E f s S (bF Q)):E (aJ f) s S Q:=by
 let#[d,b,a,q]:=h
 cases d with
 |bl k=>show#[k,b,by unfold aJ;rw[a];rfl,q]
 |_=>show q.elim
def CQ{Q:Bool->aE->Prop}(h:E f s S λd a=>Op (A_ a d) λk=>Q k a):E (mJ f) s S Q:=by
 let#[d,a,b,k,c,q]:=h
 show#[k,a,by unfold mJ;rw[b];erw[Qbq];rw[c];rfl,q]
def FA{Q:Bool->aE->Prop}(h:E f s S λk a=>Q (!k) a):E (A4 f) s S Q:=by
 let#[k,a,b,q]:=h
 show#[_,a,by unfold A4;rw[b];rfl,q]
def qv(h:E f s S λk a=>if k=true then E g s a Q else Q false a):E (j3 f g) s S Q:=by
 let#[k,a,b,q]:=h
 cases k with
 |true=>let#[j,c,d,q]:=(q:E g s a Q);show#[j,c,by unfold j3;rw[b];show d,q]
 |false=>show#[false,a,by unfold j3;rw[b];rfl,q]
def sQ(h:E f s S λk a=>if k=true then Q true a else E g s a Q):E (EJ f g) s S Q:=by
 let#[k,a,b,q]:=h
 cases k with
 |true=>show#[true,a,by unfold EJ;rw[b];rfl,q]
 |false=>let#[j,c,d,q]:=(q:E g s a Q);show#[j,c,by unfold EJ;rw[b];show d,q]
def N_(h:E c s S λk a=>if k=true then E f s a Q else E g s a Q):E (sW c f g) s S Q:=by
 let#[k,a,e,q]:=h
 cases k with
 |true=>let#[j,b,d,q]:=(q:E f s a Q);show#[j,b,by unfold sW;rw[e];show d,q]
 |false=>let#[j,b,d,q]:=(q:E g s a Q);show#[j,b,by unfold sW;rw[e];show d,q]
def cf(h:E f s S λd a=>Q<|.nx (s.set i<|some d) a):T (aV i f) s S Q:=by
 let#[d,a,b,q]:=h
 show#[_,by unfold aV;rw[b];rfl,q]
def dk(h:E f s S λd a=>Q<|.rt d a):T (cB f) s S Q:=by
 let#[d,a,b,q]:=h
 show#[_,by unfold cB;rw[b];rfl,q]
def P8(h:E f s S λd a=>Q<|.rl d a):T (JE f) s S Q:=by
 let#[d,a,b,q]:=h
 show#[_,by unfold JE;rw[b];rfl,q]
def mK(h:E f s S λd a=>Q<|.nx s a):T (tH f) s S Q:=by
 let#[d,a,b,q]:=h
 show#[_,by unfold tH;rw[b];rfl,q]
def cx{Q:Out->Prop}(q:Q (.nx s S)):T fE s S Q:=#[_,L,q]
def xh(h:E f s S λd b=>Tg g d s b λa S2=>Q<|.nx a S2):T (lK f g) s S Q:=by
 let#[d,b,c,a,S2,e,q]:=h
 show#[_,by unfold lK;rw[c];erw[Qbq];rw[e];rfl,q]
def aG(h:T f s S (cI g Q)):T (aD f g) s S Q:=by
 let#[o,b,q]:=h
 cases o with
 |nx a c=>let#[o,d,q]:=(q:T g a c Q);show#[o,by unfold aD;rw[b];show d,q]
 |_=>show#[_,by unfold aD;rw[b];rfl,q]
def dB(h:E c s S λk a=>if k=true then T f s a Q else T g s a Q):T (eY c f g) s S Q:=by
 let#[k,a,d,q]:=h
 cases k with
 |true=>let#[j,b,q]:=(q:T f s a Q);show#[j,by unfold eY;rw[d];show b,q]
 |false=>let#[j,b,q]:=(q:T g s a Q);show#[j,by unfold eY;rw[d];show b,q]
def aQ{s:cv}{Q:cv->aE->Prop}(q:Q (s.set i<|some d) S):Tg (bD i) d s S Q:=#[_,_,L,q]
def Q3{Q:cv->aE->Prop}(h:E f s S λx a=>E g s a λy S2=>∃k i ds j,x=.ref k/\y=.int i/\S2[k]?=some (.lst ds)/\G2 ds.length i=some j/\Q s (S2.set k<|.lst (ds.set j d))):Tg (Lx f g) d s S Q:=by
 let#[x,a,b,y,S2,c,k,i,ds,j,rfl,rfl,h1,h2,q]:=h
 show#[_,_,by unfold Lx;rw[b];erw[Qbq];rw[c];erw[Qbq,h1,h2],q]
def gU (h:E i s S λp w=>∃I:Nat->cv->aE->Prop,I 0 s w/\(∀n a c,I n a c->p.2 c)∧
   (∀(n:Nat) (d:D) (a:cv) (c:aE),p.1[n]?=some d->I n a c->Tg g d a c λu S2=>cI b (cP I n Q)<|.nx u S2)∧
   ∀a c,I p.1.length a c->Q (.nx a c)):T (jy i g b) s S Q:=by
 let#[#[r,W],w,B,I,A,x,f,m]:=h
 have F:∀(k n:Nat) (a:cv) (c:aE),n+k=r.length->I n a c->∃o,forL g b W (r.drop n) a c=some o/\Q o:=by
  intro k
  induction k with
  | zero=>
    intro n a c y t
    rw[List.drop_of_length_le (!0)]
    show#[.nx a c,by erw[forL];rw[Qhq (x _ _ _ t)],m _ _ (by rw[<-y];show t)]
  | succ k z=>
    intro n a c y t
    have l:n<r.length:=by omega
    rw[QWq l]
    let#[u,S2,v,o,C,q]:=f n r[n] a c (gQe l) t
    erw[forL]
    rw[Qhq (x _ _ _ t),v]
    erw[Qbq]
    rw[C]
    erw[Qbq]
    cases o with
    |nx e j=>show z (n+1) e j (!0) q
    |ct e j=>show z (n+1) e j (!0) q
    |bk e j=>show#[_,L,q]
    |rt d j=>show#[_,L,q]
    |rl d j=>show#[_,L,q]
 let#[o,v,q]:=F r.length 0 s w (!0) A
 show#[o,by unfold jy;rw[B];show v,q]
def gL{Q:List D->aE->Prop} (h:E i s S λp B=>∃I:Nat->cv->aE->List D->Prop,I 0 (nZ js s) B []/\(∀n b e a,I n b e a->p.2 e)∧
   (∀(n:Nat) (d:D) (b:cv) (e:aE) (a:List D),p.1[n]?=some d->I n b e a->Tg g d b e λj S2=>E t j S2 λk x=>if k=true then E f j x λy A=>a.length<sizeLine/\I (n+1) j A (a++ [y]) else I (n+1) j x a)∧
   ∀b e a,I p.1.length b e a->Q a e):E (bK js i g t f) s S Q:=by
 let#[#[v,W],B,J,I,H,C,m,u]:=h
 have M:∀(k n:Nat) (b:cv) (e:aE) (a:List D),n+k=v.length->I n b e a->∃r l,mY g t f W (v.drop n) b e a=some (r,l)/\Q r l:=by
  intro k
  induction k with
  | zero=>
    intro n b e a F w
    rw[List.drop_of_length_le (!0)]
    show#[a,e,by erw[mY];rw[Qhq (C _ _ _ _ w)],u _ _ _ (by rw[<-F];show w)]
  | succ k G=>
    intro n b e a F w
    have o:n<v.length:=by omega
    rw[QWq o]
    let#[j,S2,z,c,x,K,q]:=m n v[n] b e a (gQe o) w
    erw[mY]
    rw[Qhq (C _ _ _ _ w),z]
    erw[Qbq]
    rw[K]
    erw[Qbq]
    cases c with
    | true=>
      rw[Qhq L] at q|-
      let#[y,A,N,hl,q]:=q
      rw[N]
      erw[Qbq]
      rw[Qhq hl]
      show G (n+1) j A _ (!0) q
    | false=>
      rw[Quq (!1)] at q|-
      show G (n+1) j x _ (!0) q
 let#[r,l,z,q]:=M v.length 0 _ B [] (!0) H
 show#[r,l,by unfold bK;rw[J];show z,q]
def kM{Q:(List D×(aE->Prop))->aE->Prop}(h:E f s S λd a=>∃j,d=.int j/\(-(2^62)<=j/\j<2^62)/\Q (jt 0 j,λ_=>True) a):E (j9 f) s S Q:=by
 let#[d,a,b,j,rfl,hj,q]:=h
 show#[_,a,by unfold j9;rw[b];erw[Qbq];rw[Qhq hj],q]
def nI{Q:(List D×(aE->Prop))->aE->Prop}(h:E f s S λp a=>Q (p.1,λb=>p.2.stays b p.1) a):E (ki f) s S Q:=by
 let#[p,a,c,q]:=h
 show#[_,a,by unfold ki;rw[c];rfl,q]
def y6{m:List D->List D->Option (List D×D)}{Q:D->aE->Prop}(h:E f s S λx b=>∃k a,x=.ref k/\b[k]?=some (.lst a)/\E g s b λys S2=>∃ds,S2[k]?=some (.lst ds)/\Op (m ds ys) λp=>Q p.2<|S2.set k<|.lst p.1):E (Bu m f g) s S Q:=by
 let#[x,b,c,k,a,rfl,h1,ys,S2,e2,ds,h2,p,e3,q]:=h
 show#[_,_,by unfold Bu;rw[c];erw[Qbq,e2,h1,h2,e3],q]
def bR{ds:List D}(h:cI b (g8 S Q) (.nx (ds.map some++List.replicate (n-ds.length) none) S)):Fn (fq n b) ds S Q:=by
 let#[o,e,q]:=h
 cases o with
 |nx g f=>let#[#[r,a],c,q]:=q;show#[r,a,by unfold fq;rw[e];show c,q]
 |rt d f=>let#[#[r,a],c,q]:=q;show#[r,a,by unfold fq;rw[e];show c,q]
 |rl d f=>let#[#[r,a],c,q]:=q;show#[r,a,by unfold fq;rw[e];show c,q]
 |bk=>show q.elim
 |ct=>show q.elim
def hU{Q:Res×aE->Prop}(e:oN S a)(c:a.take S.length=S2)(b:∀k,d≠.ref k)(hl:cj S.length d=true)(q:Q (.d d,S2)):Op (settle S d a) Q:=by
 show#[_,?_,q]
 unfold settle
 rw[Qhq e,c]
 cases d with
 |ref k=>show absurd L (b k)
 |_=>erw[hl,if_true]
def n_{Q:Res×aE->Prop}(c:oN S a)(b:a.take S.length=S2)(hl:bC S.length ds=true)(q:Q (.l ds,S2)):Op (fQ S ds a) Q:=by
 show#[_,?_,q]
 unfold fQ
 rw[Qhq #[c,hl],b]
def uv:oN S S:=#[Qmq _,λk o _ h=>.inl h]
def vj{S:aE}(h:Ej S.length o=true):oN S (S.set k o):=by
 show#[by simp,λj u _ e=>?_]
 rw[List.getElem?_set] at e
 split at e
 ·split at e
  ·cases e;show .inr h
  ·cases e
 ·show .inl e
end DL
namespace L2
open PyProof.Rows
end L2
namespace DL
open L2
end DL
namespace L2
open PyProof.Rows
end L2
namespace DL
open PyProof.Rows L2
end DL
namespace L2
open PyProof.Rows
end L2
namespace DL
open PyProof.Rows L2
end DL
namespace DL
open L2
mutual
noncomputable def jm:D->Option PyData
 |.non=>some .none
 |.bl b=>some (.bool b)
 |.int i=>some (.int i)
 |.str x=>if PyData.strOk x=true then some (.str x) else none
 |.tup a=>(kB a).map .tuple
 |.ref _=>none
 |.fn _=>none
noncomputable def kB:List D->Option (List PyData)
 | []=>some []
 |d::ds=>(jm d).bind λp=>(kB ds).map (p::·)
end
mutual
theorem pG:∀{d:D} {p:PyData},jm d=some p->p.canLay0=true
 |.non,_,e=>by cases e;rfl
 |.bl _,_,e=>by cases e;rfl
 |.int _,_,e=>by cases e;rfl
 | .str x,_,e=>by
   erw[jm] at e
   split at e
   · rename_i c;cases e;show c
   · cases e
 | .tup ds,_,e=>by
   erw[jm] at e
   let#[b,a,rfl]:=oQm.mp e
   show pO a
 |.ref _,_,e=>by cases e
 |.fn _,_,e=>by cases e
theorem pO:∀{ds:List D} {ps:List PyData},kB ds=some ps->PyData.canLayAll0 ps=true
 | [],_,e=>by cases e;rfl
 | d::ds,_,e=>by
   erw[kB] at e
   let#[p,a,e]:=aq e
   let#[ps,b,rfl]:=oQm.mp e
   erw[PyData.canLayAll0,QCq]
   show#[pG a,pO b]
end
mutual
theorem i_:∀{d:D} {p:PyData} {v:V},Rel M ρ H d v->jm d=some p->ju (λ_=>False) H p v
 |.non,_,_,.non,e=>by cases e;show .non
 |.bl _,_,_,.bl _,e=>by cases e;show .bl _
 |.int _,_,_,.int _,e=>by cases e;show .int _
 | .str _,_,_,.str _,e=>by
   erw[jm] at e
   split at e
   · cases e;show .str _
   · cases e
 | .tup ds,_,_,.tup h hs,e=>by
   erw[jm] at e
   let#[b,a,rfl]:=oQm.mp e
   show .tup h (v8 hs a)
 |.ref _,_,_,_,e=>by cases e
 |.fn _,_,_,_,e=>by cases e
theorem v8:∀{ds:List D} {ps:List PyData} {vs:List V},bh M ρ H ds vs->kB ds=some ps->rj (λ_=>False) H ps vs
 | [],_,_,.nil,e=>by cases e;show .nil
 | d::ds,_,_,.cons h hs,e=>by
   erw[kB] at e
   let#[p,a,e]:=aq e
   let#[ps,b,rfl]:=oQm.mp e
   show .cons (i_ h a) (v8 hs b)
end
end DL
namespace L2
def J9(a:Bool):R2:=λx y H Q=>∃p q,ju (λ_=>False) H p x/\ju (λ_=>False) H q y/\p.canLay0=true/\q.canLay0=true/\p.depth<=60/\Q (.bl (if a then !PyData.eqv p q else PyData.eqv p q)) H
def J6{X:Cx}(o:X.A.units+64<cLine):jV X (compareOp .Eq) (J9 false):=by
 rintro b s r H x y v u Q I i j ⟨p,q,e,k,f,d,l,h⟩
 let#[m,c,_]:=eO I (λa z=>z.elim) e i
 let#[n,g,_]:=eO I (λa z=>z.elim) k j
 show SeqAt.eqOverData _ _ _ _ _ _ _ _ _ _ _ _ c g f d (!0) #[.bl _,H,I,L,h]
def J0{X:Cx}(o:X.A.units+64<cLine):jV X (compareOp .NotEq) (J9 true):=by
 rintro b s r H x y v u Q I i j ⟨p,q,e,k,f,d,l,h⟩
 let#[m,c,_]:=eO I (λa z=>z.elim) e i
 let#[n,g,_]:=eO I (λa z=>z.elim) k j
 show SeqAt.neOverData _ _ _ _ _ _ _ _ _ _ _ _ c g f d (!0) #[.bl _,H,I,L,h]
def Mk(K:X1)(d:Bool):R2:=λx y H Q=>∃p a c b,y=.ref a/\(i8 K H a c\/iJ K H a c)/\ju (λ_=>False) H p x/\rj (λ_=>False) H b c/\p.canLay0=true/\PyData.canLayAll0 b=true/\p.depth<=60/\Q (.bl (if d then !b.any (PyData.eqv · p) else b.any (PyData.eqv · p))) H
def LW(s:X4)(p:PyData)(u:Xd):Bool:= @decide (∃d a,d.canLay0=true/\Reads s.heap u d a/\PyData.eqv d p=true) (Classical.propDecidable _)
def GS{s:X4}{p d:PyData}(l:d.canLay0=true)(r:Reads s.heap u d as):LW s p u=PyData.eqv d p:=by
 unfold LW
 cases h:PyData.eqv d p with
 |true=>show @Qeq _ (Classical.propDecidable _) #[d,as,l,r,h]
 | false=>
   show @Qdq _ (Classical.propDecidable _) ?_
   rintro⟨e,a,f,c,b⟩
   rw[SeqAt.Reads.unique d e u as a l r c] at h
   rw[h] at b
   cases b
theorem qh{s:X4}:∀{b:X5} {ps:List PyData} {as:X7},ReadsAll s.heap b ps as->PyData.canLayAll0 ps=true->b.any (LW s p)=ps.any (PyData.eqv · p)/\∀u∈b,∃d as,d.canLay0=true/\Reads s.heap u d as
 |_,_,_,.nil,_=>#[L,λu a=>by cases a]
 | _,d::ps,_,.cons r rs,l=>by
   have c:d.canLay0=true/\PyData.canLayAll0 ps=true:=by simpa [PyData.canLayAll0] using l
   let#[f,e]:=qh (p:=p) rs c.2
   show#[by rw[List.any_cons,List.any_cons,f,GS c.1 r],λu a=>?_]
   rcases Qsq.mp a with rfl|a
   · show#[_,_,c.1,r]
   · show e u a
def EV{A:X_}{s:X4}(f:A.units+63<cLine)(b:Reads s.heap v p bs)(c:p.canLay0=true)(e:p.depth<=60)(h:∃d as,d.canLay0=true/\Reads s.heap u d as):SeqAt.EqAt A s u v (LW s p u):=by
 let#[d,as,l,r]:=h
 rw[GS l r]
 intro a w E Q q
 show SeqAt.eqBoolOverData a w A E s _ _ _ _ _ _ Q r b l c (!0) q
def JS{X:Cx}(R:X.A.units+64<cLine):jV X (compareOp .In) (Mk X.K false):=by
 rintro q s S H x y v u Q I F G ⟨p,a,P,N,J,d,B,e,n,b,m,h⟩
 subst J
 cases G
 let#[M,o,_]:=eO I (λa z=>z.elim) B F
 have c:X.A.in1.units+63<cLine:=by show X.A.units+1+63<cLine;omega
 rcases d with d|d
 ·let#[i,r,l,C]:=I.list d
  let#[t,g,_]:=jl I (λa z=>z.elim) e r
  let#[j,f]:=qh (p:=p) g b
  show SeqAt.in_listAt (LW s p) l.isList (λw k=>EV c o n m<|f w (by simpa using k)) #[.bl _,H,I,L,?_]
  rw[List.any_toArray,j]
  show h
 ·let#[i,r,l,C]:=I.tuple d
  let#[t,g,_]:=jl I (λa z=>z.elim) e r
  let#[j,f]:=qh (p:=p) g b
  show SeqAt.in_tupleAt (LW s p) l (λw k=>EV c o n m<|f w (by simpa using k)) #[.bl _,H,I,L,?_]
  rw[List.any_toArray,j]
  show h
end L2
namespace DL
open L2
noncomputable def Ik(c:Bool):uF:=λ_ x y=>(jm x).bind λp=>(jm y).bind λq=>if p.depth<=60 then some (.bl (if c then !PyData.eqv p q else PyData.eqv p q)) else none
def F2:kQ M (J9 f) (Ik f):=by
 intro n S H x y d u v Q l k m e q
 unfold Ik at e
 let#[p,i,e]:=aq e
 let#[j,g,e]:=aq e
 split at e
 ·rename_i c
  cases e
  show#[p,j,i_ k i,i_ m g,pG i,pG g,c,q _ _ bS.refl l<|.bl _]
 ·cases e
def NH{X:Cx}(d:dU k X.A)(c:PE X a (tD (md X) f))(i:PE X b (tD (md X) g)):PT X (.Compare a [.Eq] [b] h) (tB (md X)<|aJ<|bp (Ik false) f g):=zQ (J6 d.units) F2 c i (og _)
def Nu{X:Cx}(d:dU k X.A)(c:PE X a (tD (md X) f))(i:PE X b (tD (md X) g)):PT X (.Compare a [.NotEq] [b] h) (tB (md X)<|aJ<|bp (Ik true) f g):=zQ (J0 d.units) F2 c i (og _)
noncomputable def MB(c:Bool)(f:bj)(g:et):bj:=λi S=>(f i S).bind λ(x,k)=>(g i k).bind λ(p,j)=>(jm x).bind λv=>(kB p.1).bind λd=>if v.depth<=60 then some (.bl (if c then !d.any (PyData.eqv · v) else d.any (PyData.eqv · v)),j) else none
def Og:∀m H Q,tD (md X) (MB i f g) m H Q->G1 (Mk X.K i) (tD (md X) f) (tQ (md X) g) m H Q:=λm H Q I=>by
 let#[J,n,S,d,R,ok,e,q]:=I
 let#[#[x,r],P,e]:=aq e
 let#[#[#[C,t],G],F,e]:=aq e
 let#[v,p,e]:=aq e
 let#[B,s,e]:=aq e
 split at e
 ·rename_i c
  let#[rfl,rfl]:=bZ e
  show#[J,n,S,x,r,ok,P,λl u H1 w j z=>#[l,n,r,C,t,G,ok.to w j,F,λA a N H2 o k y M=>?_]]
  show#[v,a,N,B,L,y.sq,i_ (z.ext o) p,v8 M s,pG p,pO s,c,q _ _ _ (w.trans o) k<|.bl _]
 ·cases e
def Oc{X:Cx}(i:dU k X.A)(d:PE X a (tD (md X) f))(j:PE X b (tQ (md X) g))(c:autoParam (behindInMarks .In b=false) db._auto_1):PT X (.Compare a [.In] [b] h) (tB (md X)<|aJ<|MB false f g):=kT Og (mq (JS i.units) d j c)
end DL
namespace L2
open PyProof.Rows
end L2
namespace DL
open L2
end DL
namespace DL
open PyProof.Rows L2
end DL
namespace L2
open PyProof.Rows
end L2
namespace DL
open L2
end DL
namespace L2
end L2
namespace DL
open L2
end DL
namespace L2
open PyProof.Rows
end L2
namespace DL
open L2
end DL
namespace Z3
open PySem Zq
end Z3
namespace L2
open PyProof.Rows Zq
end L2
namespace DL
open PyProof.Rows L2
end DL
namespace L2
open PyProof.Rows
theorem Cq:∀{b:List String} {a:X5},bL (b.map V.ty) a->a=b.map Value.type
 | [],_,r=>by cases r;rfl
 | T::b,_,r=>by
   cases r with
   | cons h t=>
     rw[Cq t,QDq]
     cases (show _=Value.type T from h)
     rfl
inductive FM(H:Hp):V->Value->Prop where
 |non:FM H .non (.type "NoneType")
 |bl (x:Bool):FM H (.bl x) (.type "bool")
 |int (i:Int):FM H (.int i) (.type "int")
 |str (x:Str):FM H (.str x) (.type "str")
 |lst {a:X8} {xs:List V} (e:H a=some (.lst xs)):FM H (.ref a) (.type "list")
 |frz {a:X8} {o:Obj} {xs:List V} (e:H a=some (.frz o (.lst xs))):FM H (.ref a) (.type "list")
 |tup {a:X8} {xs:List V} (e:H a=some (.tup xs)):FM H (.ref a) (.type "tuple")
 |dK {a:X8} {kvs:List (Key×V)} (e:H a=some (.dK kvs)):FM H (.ref a) (.type "dict")
def Dz:ic X (.builtin "isinstance") (λxs H Q=>∃(x:V) (a:X8) (j:List String) (t:Xd) (b:Bool),xs= [x,.ref a]/\H a=some (.tup (j.map V.ty))/\FM H x t/\PySem.W.kitAny X.K t (j.map Value.type)=some b/\Q (.bl b) H):=by
 intro m s P H xs U Q I r h
 let#[x,a,j,t,b,rfl,ha,ty,e,q]:=h
 let#[u,G,rfl,rx,rt]:=vals2 r
 cases (show G=Value.ref a from rt)
 let#[_,C,F,#[c,R,B,sl],f,J,A,n,v]:=(show cb X.prog X.w H s.heap a (.tup (j.map V.ty)) from I.hok a _ ha)
 cases J
 cases v
 rw[Cq F] at f
 cases ty with
 |non=>cases (show u=Value.none from rx);show PySem.W.kia_tup PySem.W.kitx_none I.kIn True.intro f e (λz=>nomatch z) λd=>#[.bl b,H,I.tok d,L,q]
 |bl y=>cases (show u=Value.bool y from rx);show PySem.W.kia_tup PySem.W.kitx_bool I.kIn True.intro f e (λz=>nomatch z) λd=>#[.bl b,H,I.tok d,L,q]
 |int i=>let#[t,l]:=(show∃t,u=Value.int i t from rx);cases l;show PySem.W.kia_tup PySem.W.kitx_int I.kIn True.intro f e (λz=>nomatch z) λd=>#[.bl b,H,I.tok d,L,q]
 |str y=>let#[t,l]:=(show∃t,u=Value.str y t from rx);cases l;show PySem.W.kia_tup PySem.W.kitx_str I.kIn True.intro f e (λz=>nomatch z) λd=>#[.bl b,H,I.tok d,L,q]
 | @lst a xs ea=>
   cases (show u=Value.ref a from rx)
   let#[_,_,n,_,g]:=(show cb X.prog X.w H s.heap a (.lst xs) from I.hok a _ ea)
   show PySem.W.kia_tup PySem.W.kitx_list I.kIn #[_,g,L] f e (λz=>nomatch z) λd=>#[.bl b,H,I.tok d,L,q]
 | @frz a ob xs ea=>
   cases (show u=Value.ref a from rx)
   let#[_,_,_,n,_,g]:=(show cb X.prog X.w H s.heap a (.frz ob (.lst xs)) from I.hok a _ ea)
   show PySem.W.kia_tup PySem.W.kitx_list I.kIn #[_,g,L] f e (λz=>nomatch z) λd=>#[.bl b,H,I.tok d,L,q]
 | @tup a xs ea=>
   cases (show u=Value.ref a from rx)
   let#[_,_,_,p]:=(show cb X.prog X.w H s.heap a (.tup xs) from I.hok a _ ea)
   let#[o,g,k,_]:=p
   show PySem.W.kia_tup PySem.W.kitx_tuple I.kIn #[o,g,k] f e (λz=>nomatch z) λd=>#[.bl b,H,I.tok d,L,q]
 | @dK a kvs ea=>
   cases (show u=Value.ref a from rx)
   let#[_,_,M,_,p]:=(show cb X.prog X.w H s.heap a (.dK kvs) from I.hok a _ ea)
   let#[o,N,S,g,k,_]:=p
   show PySem.W.kia_tup PySem.W.kitx_dict I.kIn #[o,g,k.1] f e (λz=>nomatch z) λd=>#[.bl b,H,I.tok d,L,q]
end L2
namespace DL
open PyProof.Rows L2
noncomputable def zL(T U:String)(f:bj):bj:=λe S=>(f e S).bind λ(d,b)=>(uc b T d).bind λk=>(uc b U d).bind λl=>some (.bl (k||l),b)
def HP{K:X1}{t:Xd}{T U:String}{k l:Bool}(d:PySem.W.kitOne K t (.type T)=some k)(b:PySem.W.kitOne K t (.type U)=some l):PySem.W.kitAny K t ([T,U].map Value.type)=some (k||l):=by
 erw[QDq,List.map_nil,PySem.W.kitAny]
 rw[d]
 cases k with
 |true=>rfl
 |false=>simp only;rw[b];cases l <;>rfl
def P0{X:Cx}{T U:String}(hk:EL X.K T)(I:EL X.K U)(hg:Gl X "isinstance")(hm:X.mg "isinstance"=none)(ha:PE X a (tD (md X) f))(ht:PE X u (tC<|.ty T))(hu:PE X m (tC<|.ty U))
  (P:autoParam (starEach [a,.Tuple [u,m] F C] X.env= [(false,eval a X.env),(false,eval (.Tuple [u,m] F C) X.env)]) db._auto_1) (n:autoParam (starEach [.Tuple [u,m] F C] X.env= [(false,eval (.Tuple [u,m] F C) X.env)]) db._auto_1)
  (N:autoParam (starEach [u,m] X.env= [(false,eval u X.env),(false,eval m X.env)]) db._auto_1) (A:autoParam (starEach [m] X.env= [(false,eval m X.env)]) db._auto_1):
  PE X (.Call (.Name "isinstance" p) [a,.Tuple [u,m] F C] [] c) (tD (md X)<|zL T U f):=
 j2 (jM Dz hg hm boot_isinstance (cK ha (cK (ET<|cK ht (cK hu fu A) (by rw[N,A])) fu n) (by rw[P,n])) (he:=by rw[P,n]) (hpl:=by rw[n];rfl)) λσ H Q qq=>by
  let#[ρ,Γ,S,d,S',ok,e,q]:=qq
  let#[#[d',S1],e1,e]:=aq e
  let#[k,i,e]:=aq e
  let#[l,j,e]:=aq e
  let#[rfl,rfl]:=bZ e
  let#[k1,k2,k3,k4,k5,Z,k7]:=hk
  let#[l1,l2,l3,l4,l5,l6,l7]:=I
  show#[ρ,Γ,S,d',S1,ok,e1,λB v w x G r=>#[by show 2<=_;decide,λp M=>?_]]
  have x2:bS B w B (upd w p<|.tup ([T,U].map V.ty)):=bS.laid M
  let J:=q _ (.bl (k||l)) _ (x.trans x2) (G.lay M) (.bl _)
  have g:∀{b:X8} {o:HO},w b=some o->(upd w p<|.tup ([T,U].map V.ty)) b=some o:=λ{b o} hb=>by
   rw[aU]
   ·show hb
   ·intro z;subst z;rw[M] at hb;cases hb
  have mk:∀{t:Xd},FM (upd w p<|.tup ([T,U].map V.ty)) v t->PySem.W.kitOne X.K t (.type T)=some k->PySem.W.kitOne X.K t (.type U)=some l->_:=λ{t} ty y h2=>(#[v,p,[T,U],t,k||l,L,bx,ty,HP y h2,J]:∃(x:V) (a:X8) (Y:List String) (t:Xd) (b:Bool),[v,V.ref p]= [x,.ref a]/\(upd w p<|.tup ([T,U].map V.ty)) a=some (.tup (Y.map V.ty))/\FM (upd w p<|.tup ([T,U].map V.ty)) x t/\PySem.W.kitAny X.K t (Y.map Value.type)=some b/\Q (.bl b) (upd w p<|.tup ([T,U].map V.ty)))
  cases r with
  |non=>cases i;cases j;show mk .non k1 l1
  |bl=>cases i;cases j;show mk (.bl _) k2 l2
  |int=>cases i;cases j;show mk (.int _) k3 l3
  |str=>cases i;cases j;show mk (.str _) k4 l4
  |tup h P=>cases i;cases j;show mk (.tup (g h)) k5 l5
  |fn=>cases i
  | ref h=>
    erw[uc] at i j
    split at i
    · rename_i s;rw[s] at j;cases i;cases j;let#[R,y,_]:=G.obj _ _ _ h s;show mk (.lst (g y)) Z l6
    · rename_i s;rw[s] at j;cases i;cases j;let#[R,o,y,_]:=G.obj _ _ _ h s;show mk (.frz (g y)) Z l6
    · rename_i s;rw[s] at j;cases i;cases j;let#[R,y,_]:=G.obj _ _ _ h s;show mk (.dK (g y)) k7 l7
    · cases i
end DL
namespace L2
open PyProof.Rows
end L2
namespace DL
open L2
end DL
namespace L2
open PyProof.Rows
def Inv.sett(I:Inv X d g H s)(h:H a=some (.ext (ST.da a els))):ST.da a els s.heap:=(show cb X.prog X.w H s.heap a (.ext _) from I.hok a _ h).1
def GT(x:ST.da a els h):cb P w H h a (.ext (ST.da a els)):=by
 show#[x,?_,λc f p k=>p.keep k]
 let#[o,i,e,t,c,_]:=x
 show#[o,c]
def Mx(H:Hp)(els:List (PyData×Addr)):Prop:=∀e∈els,ST.nu 8 e.1=true/\ju (λ_=>False) H e.1 (.ref e.2)
def Mx.to(I:Inv X d g H s)(h:Mx H els):ST.LO s.heap els:=λe c=>by
 let#[k,f]:=h e c
 let#[i,j,_]:=eO I (λa z=>z.elim) f (u:=.ref e.2) L
 show#[k,i,j]
def Dr:ic X (.type "set") (λxs H Q=>xs= []/\∀q,H q=none->Q (.ref q) (upd H q<|.ext (ST.da q []))):=by
 intro d s g H xs f Q I r h
 let#[rfl,q]:=h
 cases r
 show ST.IR λi c e=>?_
 show#[.ref _,_,I.laid (o:=.ext (ST.da s.heap.objs.size [])) (t':=s.toks) c (Qmq _)<|GT e,L,q _ I.fresh]
def Oi(f c:TE):TE:=λg H Q=>f g H λy H1=>c g H1 λx H2=>∃a b els p,x=.ref a/\y=.ref b/\H2 a=some (.ext (ST.da a els))/\Mx H2 els/\els.length<=5000/\ju (λ_=>False) H2 p (.ref b)/\ST.nu 8 p=true/\Q (.bl (!els.any λe=>PyData.eqv e.1 p)) H2
def JV{X:Cx}(R:X.A.units+64<cLine)(hi:PE X i f)(q:PE X o e):PC X .NotIn i o (Oi f e):=by
 intro d s g H Q I h
 show cE (hi d s g H _ I h) λJ r ⟨y,H1,m,v,n⟩=>cE (q d r g H1 _ m n) λu P w=>?_
 let#[x,H2,c,t,a,b,els,p,k,G,F,C,hl,j,B,K]:=w
 subst k G
 obtain rfl:u=Value.ref a:=t
 obtain rfl:J=Value.ref b:=v
 let#[M,l,_]:=eO c (λa z=>z.elim) j (u:=.ref b) L
 show ST.E5 (!0) (c.sett F) (C.to c) hl l B λN=>#[.bl _,H2,c.tok _,L,K]
def IS{X:Cx}(C:X.A.units+64<cLine):Oj X "set.add" (λx vs H Q=>∃a b els p,x=.ref a/\vs= [.ref b]/\H a=some (.ext (ST.da a els))/\Mx H els/\els.length<=5000/\ju (λ_=>False) H p (.ref b)/\ST.nu 8 p=true/\Q .non (upd H a<|.ext (ST.da a (if (els.any λe=>PyData.eqv e.1 p)=true then els else els++ [(p,b)])))):=by
 intro d s g H x vs v G Q I m l h
 let#[a,b,els,p,rfl,rfl,hS,he,hl,hd,hn,q]:=h
 cases m
 let#[u,rfl,ru]:=l.one
 obtain rfl:u=Value.ref b:=ru
 let#[w,i,_]:=eO I (λa z=>z.elim) hd (u:=.ref b) L
 show ST.Hn (!0) (I.sett hS) (he.to I) hl i hn λj y r f=>?_
 show#[.non,_,I.write (x:=a) (e:=a) (t':=j) (by rw[hS];trivial) (.inl L) (λc o n e=>(r.2 c n).trans e) ?_<|GT f,L,q]
 let#[o,B,F,t,k,_]:=f
 show#[o,k]
def Rg(r:V->List V->Hp->VK->Prop)(l:TE)(t:TA):TE:=λg H Q=>l g H λx H1=>(∃p els,x=.ref p/\H1 p=some (.ext (ST.da p els)))/\t g H1 λc H2=>r x c H2 Q
def Ka{j:Pos}(N:Oj X "set.add" r)(C:PE X o l)(S:PA X [e] t)
  (c:autoParam (attributeBase o "add" X.env (eval o X.env)=eval o X.env) db._auto_1)
  (k:autoParam (((backTo f (starEach [e] X.env)).all (λx=> !x.1)&&(backToKw f (keywordEach [] X.env)).all (λx=>x.1.isSome)
   &&decide ([e].length+([]:List Keyword).length+(if ([]:List Keyword).isEmpty then 0 else 1)<30))=true) db._auto_1)
  (i:autoParam ((j.endLine==f.line)=true) db._auto_1) (J:autoParam (starEach [e] X.env= [(false,eval e X.env)]) db._auto_1):
  PE X (.Call (.Attribute o "add" j) [e] [] f) (Rg r l t):=by
 intro d s g H Q I h
 show wpAny_Call_method_late c k i L (cE (C d s g H _ I h) λv G K=>?_)
 let#[x,H1,m,u,#[p,els,R,B],z]:=K
 subst R
 cases u
 let q:=m.sett B
 show#["set","set.add",F.plainAttrs_set,F.slot_set_add,F.type_set_add,q.typeIs,q.noDict,?_]
 let n:=S f d G g H1 _ m z
 rw[J] at n|-
 show Calls.callWith_builtin (by rfl)<|Calls.evalArgs_plain ?_
 show cE n λP y ⟨w,H2,A,M,U⟩=>N d y g H2 (.ref p) w (.ref p) P Q A L M U
end L2
namespace DL
open PyProof.Rows L2
mutual
theorem lV:∀{d:D} {p:PyData},eX d=some p->jm d=some p
 |.int _,_,e=>e
 | .tup ds,_,e=>by
   erw[eX] at e
   let#[b,a,rfl]:=oQm.mp e
   erw[jm]
   rw[CG a]
   rfl
 |.non,_,e=>by cases e
 |.bl _,_,e=>by cases e
 |.str _,_,e=>by cases e
 |.ref _,_,e=>by cases e
 |.fn _,_,e=>by cases e
theorem CG:∀{ds:List D} {ps:List PyData},df ds=some ps->kB ds=some ps
 | [],_,e=>e
 | d::ds,_,e=>by
   erw[df] at e
   let#[p,a,e]:=aq e
   let#[ps,b,rfl]:=oQm.mp e
   erw[kB]
   rw[lV a,CG b]
   rfl
end
noncomputable def oV(ds:List D)(p:PyData):Bool:=ds.any λd=>match eX d with|some q=>PyData.eqv q p|none=>false
theorem vW:∀{ds:List D} {ps:List PyData} {bs:X7} {p:PyData},df ds=some ps->ps.length=bs.length->((List.zip ps bs).any λe=>PyData.eqv e.1 p)=oV ds p
 | [],_,bs,p,e,l=>by cases e;rfl
 | d::ds,_,bs,p,e,l=>by
   erw[df] at e
   let#[q,a,e]:=aq e
   let#[ps,f,rfl]:=oQm.mp e
   cases bs with
   |nil=>simp at l
   | cons b bs=>
     let c:=vW (p:=p) f (bs:=bs) (by simpa using l)
     rw[List.zip_cons_cons,List.any_cons,c]
     unfold oV
     rw[List.any_cons,a]
theorem jF:∀{ds:List D} {ps:List PyData},df ds=some ps->ps.length=ds.length
 | [],_,e=>by cases e;rfl
 | d::ds,_,e=>by
   erw[df] at e
   let#[q,b,e]:=aq e
   let#[ps,a,rfl]:=oQm.mp e
   simp[jF a]
theorem wo:∀{n:Nat} {ps:List PyData} {p:PyData},ST.jW n ps=true->ST.nu n p=true->ST.jW n (ps++ [p])=true
 |n,[],p,_,h=>by erw[List.nil_append,ST.jW,h];rfl
 | n,q::ps,p,h,hp=>by
   erw[ST.jW,QCq] at h
   erw[List.cons_append,ST.jW,QCq]
   show#[h.1,wo h.2 hp]
theorem sJ:∀{ds:List D} {ps:List PyData} {d:D} {p:PyData},df ds=some ps->eX d=some p->df (ds++ [d])=some (ps++ [p])
 | [],_,d,p,e,e2=>by cases e;erw[List.nil_append,df];rw[e2];rfl
 | c::ds,_,d,p,e,e2=>by
   erw[df] at e
   let#[q,a,e]:=aq e
   let#[ps,b,rfl]:=oQm.mp e
   erw[List.cons_append,df]
   rw[a,sJ b e2]
   rfl
theorem BG:∀{ps:List PyData} {bs:X7} {p:PyData} {b:X8},ps.length=bs.length->List.zip (ps++ [p]) (bs++ [b])=List.zip ps bs++ [(p,b)]
 | [],[],_,_,_=>rfl
 |q::ps,c::bs,p,b,h=>by erw[List.cons_append,List.zip_cons_cons];rw[BG (by simpa using h)]
 | [],_::_,_,_,h=>by simp at h
 |_::_,[],_,_,h=>by simp at h
theorem AD:∀{ds:List D} {ps:List PyData} {bs:X7},bh M ρ H ds (bs.map V.ref)->df ds=some ps->ST.jW 8 ps=true->Mx H (List.zip ps bs)
 | [],_,_,_,e,_=>by cases e;intro e a;simp at a
 | d::ds,_,bs,h,e,hn=>by
   erw[df] at e
   let#[q,c,e]:=aq e
   let#[ps,g,rfl]:=oQm.mp e
   erw[ST.jW,QCq] at hn
   cases bs with
   |nil=>cases h
   | cons b bs=>
     cases h with
     | cons h f=>
       intro e a
       rw[List.zip_cons_cons] at a
       rcases Qsq.mp a with rfl|a
       · show#[hn.1,i_ h<|lV c]
       · show AD f g hn.2 e a
noncomputable def Pi:bj:=λ_ S=>some (.ref S.length,S++ [.sett []])
def Kc(r:Gl X "set")(l:X.mg "set"=none):PE X (.Call (.Name "set" p) [] [] i) (tD (md X) Pi):=j2 (Bi Dr r l (by rfl)) λv H Q m=>by
 let#[h,t,S,d,s,ok,e,q]:=m
 cases e
 show#[L,λp g=>?_]
 have k:bS h H h (upd H p<|.ext (ST.da p [])):=bS.laid g
 have n:p∉h:=cR bS.refl ok.st g
 let j:=(ok.st.lay (u:=.ext (ST.da p [])) g).box (o:=.sett []) n #[[],[],bx,.nil,L,L]
 show q (h++ [p]) (.ref p) _ #[List.prefix_append _ _,λc f=>?_,k.keep,k.grow] j<|.ref ?_
 ·rcases mQa.mp f with f|f
  ·show .inl f
  ·rw[Qfq] at f;subst f;show .inr g
 ·rw[<-ok.st.len,QQq (Qmq _)]
  simp
noncomputable def Fz(f g:bj):bj:=λd S=>(f d S).bind λ(y,h)=>(g d h).bind λ(x,c)=>match x,y with
 | .ref k,.tup ys=>match c[k]? with
   |some (.sett ds)=>(eX<|.tup ys).bind λp=>if ST.nu 8 p=true/\ds.length<=5000 then some (.bl (!oV ds p),c) else none
   |_=>none
 |_,_=>none
def M3:∀(o:List (Option V)) (H:Hp) (Q:V->Hp->Prop),tD (md X) (Fz f g) o H Q->Oi (tD (md X) f) (tD (md X) g) o H Q:=λo H Q J=>by
 let#[K,s,S,d,S',ok,e,q]:=J
 let#[#[y,u],P,e]:=aq e
 let#[#[x,I],F,e]:=aq e
 cases x with
 | ref k=>
   cases y with
   | tup ys=>
     dsimp only at e
     split at e
     · rename_i ds M
       let#[p,R,e]:=aq e
       split at e
       · rename_i c
         let#[rfl,rfl]:=bZ e
         show#[K,s,S,_,u,ok,P,λm v1 H1 v l j=>#[m,s,u,_,I,ok.to v l,F,λz v2 H2 t h N=>?_]]
         let j:=j.ext t
         cases N with
         | ref U=>
           let#[Y,Z,C,r,n,B]:=h.obj k _ _ U M
           let hl:=r.length
           rw[lQm] at hl
           let A:=jF n
           let G:=i_ j (lV R)
           cases j with
           | tup W w=>
             show#[_,_,_,p,L,L,C,AD r n B,?_,G,c.1,?_]
             · rw[List.length_zip];omega
             · rw[vW n (!0)]
               show q _ _ _ (v.trans t) h<|.bl _
       · cases e
     · cases e
   |_=>cases e
 |_=>cases e
def Ny{X:Cx}(h:dU k X.A)(d:PE X a (tD (md X) f))(j:PE X b (tD (md X) g))(c:autoParam (behindInMarks .NotIn b=false) db._auto_1):PT X (.Compare a [.NotIn] [b] i) (tB (md X)<|aJ<|Fz f g):=kT M3 (Bo (JV h.units d j) c)
noncomputable def Gr(f g:bj):bj:=λh S=>(f h S).bind λ(x,d)=>match x with
 | .ref k=>match d[k]? with
   | some (.sett _)=>(g h d).bind λ(y,c)=>match y,c[k]? with
     |.tup ys,some (.sett ds)=>(eX<|.tup ys).bind λp=>if ST.nu 8 p=true/\ds.length<=5000 then some (.non,c.set k<|.sett (if oV ds p=true then ds else ds++ [.tup ys])) else none
     |_,_=>none
   |_=>none
 |_=>none
def ES{X:Cx}{s j:Pos}(hr:dU k X.A)(ho:PE X o (tD (md X) f))(ha:PE X e (tD (md X) g))(w:autoParam (attributeBase o "add" X.env (eval o X.env)=eval o X.env) db._auto_1)
  (N:autoParam (((backTo j (starEach [e] X.env)).all (λx=> !x.1)&&(backToKw j (keywordEach [] X.env)).all (λx=>x.1.isSome)
   &&decide ([e].length+([]:List Keyword).length+(if ([]:List Keyword).isEmpty then 0 else 1)<30))=true) db._auto_1)
  (B:autoParam ((s.endLine==j.line)=true) db._auto_1) (hs:autoParam (starEach [e] X.env= [(false,eval e X.env)]) db._auto_1):PE X (.Call (.Attribute o "add" s) [e] [] j) (tD (md X)<|Gr f g):=
 j2 (Ka (IS hr.units) ho (cK ha fu hs) w N B hs) λσ H Q qq=>by
  let#[ρ,Γ,S,d,S',ok,e,q]:=qq
  let#[#[x,S1],e1,e]:=aq e
  cases x with
  | ref k=>
    dsimp only at e
    split at e
    · rename_i a4 a1
      let#[#[y,S2],e2,e]:=aq e
      dsimp only at e
      split at e
      · rename_i ys ds t
        let#[p,e3,e]:=aq e
        split at e
        · rename_i c
          let#[rfl,rfl]:=bZ e
          show#[ρ,Γ,S,_,S1,ok,e1,λW v1 H1 x1 M r1=>?_]
          cases r1 with
          | ref hk=>
            rename_i l
            let#[a8,a7,g1,_]:=M.obj k l _ hk a1
            show#[#[_,_,L,g1],W,Γ,S1,_,S2,ok.to x1 M,e2,λr v2 H2 Y C r2=>?_]
            have m:r[k]?=some l:=cD Y.pre hk
            let#[K,G,h1,R,I,h4]:=C.obj k l _ m t
            let hl:=R.length
            rw[lQm] at hl
            let a6:=jF I
            let dt:=i_ r2 (lV e3)
            let a2:=r2
            cases r2 with
            | tup F a3=>
              rename_i U a5
              show#[l,U,List.zip G K,p,L,L,h1,AD R I h4,by rw[List.length_zip];omega,dt,c.1,?_]
              rw[vW I (!0)]
              have ne:∀x,H2 l=some x->¬Ox x:=λx J=>by rw[h1] at J;cases J;show λz=>z
              have x3:∀u:HO,bS r H2 r (upd H2 l u):=λu=>by
                have ma:l∈r:=mQg m
                show#[List.prefix_refl _,λ_ h=>.inl h,λb x J c=>?_,λb F=>?_]
                · rw[aU]
                  · show J
                  · intro z
                    subst z
                    show c.elim (λn=>n ma) λim=>ne _ J im
                · by_cases z:b=l
                  · subst z;rw[bx] at F;cases F
                  · rw[aU z] at F;show F
              by_cases P:oV ds p=true
              · rw[Qhq P]
                rw[Qhq P] at q
                let#[v,Z]:=C.put (o':=.sett ds) (u:=.ext (ST.da l<|List.zip G K)) m t #[K,G,bx,R.ext<|x3 _,I,h4] ne
                show q _ _ _ ((x1.trans Y).trans Z) v .non
              · rw[Quq P]
                rw[Quq P] at q
                rw[<-BG (!0)]
                let#[v,Z]:=C.put (o':=.sett (ds++ [.tup ys])) (u:=.ext (ST.da l (List.zip (G++ [p]) (K++ [U])))) m t ⟨K++ [U],G++ [p],bx,by
                  rw[Qzq]
                  show(R.ext (x3 _)).append (.cons (a2.ext (x3 _)) .nil),sJ I e3,wo h4 c.1⟩ ne
                show q _ _ _ ((x1.trans Y).trans Z) v .non
        · cases e
      · cases e
    · cases e
  |_=>cases e
def Pp{S:aE}{Q:D->aE->Prop}(q:Q (.ref S.length) (S++ [.sett []])):E Pi a S Q:=#[_,_,L,q]
def MC{Q:D->aE->Prop}(h:E f a S λy b=>E g a b λx S2=>∃k ys ds p,x=.ref k/\y=.tup ys/\S2[k]?=some (.sett ds)/\eX (.tup ys)=some p/\(ST.nu 8 p=true/\ds.length<=5000)/\Q (.bl (!oV ds p)) S2):E (Fz f g) a S Q:=by
 let#[y,b,c,x,S2,d,k,ys,ds,p,rfl,rfl,h1,h2,h3,q]:=h
 show#[_,_,by unfold Fz;rw[c];erw[Qbq];rw[d];erw[Qbq,h1,h2];rw[Qhq h3],q]
def JC{Q:D->aE->Prop}(h:E f a S λx c=>∃k b,x=.ref k/\c[k]?=some (.sett b)/\E g a c λy S2=>∃ys ds p,y=.tup ys/\S2[k]?=some (.sett ds)/\eX (.tup ys)=some p/\(ST.nu 8 p=true/\ds.length<=5000)/\Q .non (S2.set k<|.sett (if oV ds p=true then ds else ds++ [.tup ys]))):E (Gr f g) a S Q:=by
 let#[x,c,d,k,b,rfl,h0,y,S2,e2,ys,ds,p,rfl,h1,h2,h3,q]:=h
 show#[_,_,by unfold Gr;rw[d];erw[Qbq,h0];rw[e2];erw[Qbq,h1,h2];rw[Qhq h3],q]
noncomputable def M9(i:Nat)(f:bj):cO:=λc S=>match c[i]? with
 | some (some<|.int m)=>(f c S).bind λ(d,g)=>match d with
   |.int n=>some (.nx (c.set i<|some<|.int (m+n)) g)
   |_=>none
 |_=>none
def OU{X:Cx}(i:Nat)(A:X.N.Nodup)(he:PE X e (tD (md X) f))(hi:autoParam (X.N[i]?=some x) db._auto_1)(u:autoParam (Loc X.env.scope x) cU._auto_1)
  (p:autoParam (X.fn x=true\/X.env.scope.names.lookup x=some .local) cU._auto_1):PS X (.AugAssign (.Name x a) .Add e b) (tS (md X)<|M9 i f):=
 Aj (LV A hi u he LI p) λD C H r=>by
  let#[s,t,S,o,ok,e,q]:=r
  unfold M9 at e
  split at e
  ·rename_i m w
   let#[#[d,z],y,e]:=aq e
   cases d with
   | int n=>
     cases e
     let#[v,l,j]:=ok.en.get i _ w
     cases j
     show#[_,l,s,t,S,_,z,ok,y,λg B H1 h c k=>?_]
     cases k
     show#[_,_,L,L,?_]
     show q g _ _ h #[(ok.en.ext h).set (.int _),c]
   |_=>cases e
  ·cases e
def Po{Q:Out->Prop}(j:c[i]?=some (some<|.int m))(h:E f c S λd g=>∃n,d=.int n/\Q (.nx (c.set i<|some<|.int (m+n)) g)):T (M9 i f) c S Q:=by
 let#[d,g,k,n,rfl,q]:=h
 show#[_,by unfold M9;rw[j];simp only;rw[k];rfl,q]
noncomputable def valN:List D->List D->PyData->Option D
 | k::ks,v::vs,p=>match eX k with
   |some q=>if PyData.eqv q p=true then some v else valN ks vs p
   |none=>none
 |_,_,_=>none
theorem wJ{M:Md}{ρ:X7}{H:Hp}{p:PyData}:∀{a vs:List D} {els:List yV},bh M ρ H vs (els.map (·.2.2))->df a=some (els.map (·.1))->
  (valN a vs p=none/\mR els p=none)\/∃d v,valN a vs p=some d/\mR els p=some v/\Rel M ρ H d v
 | [],vs,els,h,e=>by
   cases els with
   |nil=>show .inl #[L,L]
   |cons e els=>cases e
 | k::a,vs,els,h,e=>by
   erw[df] at e
   let#[q,g,e]:=aq e
   let#[i,c,e]:=oQm.mp e
   cases els with
   |nil=>cases e
   | cons l els=>
     cases vs with
     |nil=>cases h
     | cons d vs=>
       cases h with
       | cons h f=>
         rw[QDq] at e
         let#[rfl,rfl]:=List.cons.inj e
         let b:=wJ (p:=p) f c
         unfold mR at b|-
         rw[List.find?_cons]
         erw[valN,g]
         by_cases z:PyData.eqv l.1 p=true
         · rw[Qhq z,z]
           show .inr #[_,_,L,L,h]
         · rw[Quq z]
           rw[Bool.not_eq_true] at z
           rw[z]
           show b
theorem BC{M:Md}{ρ:X7}{H:Hp}:∀{b:List D} {els:List yV},bh M ρ H b (els.map λe=>V.ref e.2.1)->df b=some (els.map (·.1))->ST.jW 8 (els.map (·.1))=true->OH H els
 | [],els,h,e,hn=>by
   cases els with
   |nil=>intro e a;cases a
   |cons e els=>cases e
 | k::b,els,h,e,hn=>by
   erw[df] at e
   let#[q,c,e]:=aq e
   let#[g,f,e]:=oQm.mp e
   cases els with
   |nil=>cases e
   | cons l els=>
     cases h with
     | cons h d=>
       rw[QDq] at e
       let#[rfl,rfl]:=List.cons.inj e
       erw[QDq,ST.jW,QCq] at hn
       intro e a
       rcases Qsq.mp a with rfl|a
       · show#[hn.1,i_ h (lV c)]
       · show BC d f hn.2 e a
section
variable{X:Cx}{a b k v:Expr}{i:Pos}
noncomputable def Dg(f g:bj):bj:=λd S=>(f d S).bind λ(y,e)=>(g d e).bind λ(x,c)=>match x,y with
 | .ref k,.tup ys=>match c[k]? with
   |some (.dctN ks vs)=>(eX (.tup ys)).bind λp=>if ST.nu 8 p=true then some (.bl (!(valN ks vs p).isSome),c) else none
   |_=>none
 |_,_=>none
def IY{M:Md}{ρ:X7}{H:Hp}{p:PyData}{f vs:List D}{els:List yV}(h:bh M ρ H vs (els.map (·.2.2)))(e:df f=some (els.map (·.1))):(mR els p).isSome=(valN f vs p).isSome:=by
 rcases wJ (p:=p) h e with⟨c,d⟩|⟨_,_,c,d,_⟩
 ·rw[c,d];rfl
 ·rw[c,d];rfl
def Nw{f g:bj}:∀(n:List (Option V)) (H:Hp) (Q:V->Hp->Prop),tD (md X) (Dg f g) n H Q->Ni (tD (md X) f) (tD (md X) g) n H Q:=λn H Q K=>by
 let#[M,s,S,d,S',ok,e,q]:=K
 let#[#[y,u],U,e]:=aq e
 let#[#[x,J],G,e]:=aq e
 cases x with
 | ref k=>
   cases y with
   | tup ys=>
     dsimp only at e
     split at e
     · rename_i Z vs P
       let#[p,W,e]:=aq e
       split at e
       · rename_i c
         let#[rfl,rfl]:=bZ e
         show#[M,s,S,_,u,ok,U,λm v1 H1 w l j=>#[m,s,u,_,J,ok.to w l,G,λB v2 H2 t h R=>?_]]
         let j:=j.ext t
         cases R with
         | ref Y=>
           let#[o,C,A,N,r,F]:=h.obj k _ _ Y P
           let I:=i_ j (lV W)
           cases j with
           | tup hb z=>
             show#[_,_,o,p,L,L,C,BC A r F,I,c,?_]
             rw[IY N r]
             show q _ _ _ (w.trans t) h (.bl _)
       · cases e
     · cases e
   |_=>cases e
 |_=>cases e
def Ml{f g:bj}{k:Nat}(e:dU k X.A)(d:PE X a (tD (md X) f))(h:PE X b (tD (md X) g))(c:autoParam (behindInMarks .NotIn b=false) db._auto_1):PT X (.Compare a [.NotIn] [b] i) (tB (md X) (aJ (Dg f g))):=kT Nw (Bo (Ln e.units d h) c)
noncomputable def Om(f g h:bj):cO:=λc S=>(h c S).bind λ(d,l)=>(f c l).bind λ(x,j)=>(g c j).bind λ(y,e)=>match x,y with
 | .ref k,.tup ys=>match e[k]? with
   |some (.dctN ks vs)=>(eX (.tup ys)).bind λp=>if ST.nu 8 p=true/\ks.length<=5000/\(valN ks vs p).isSome=false then some (.nx c (e.set k (.dctN (ks++ [.tup ys]) (vs++ [d])))) else none
   |_=>none
 |_,_=>none
def Jl{ρ:X7}{H:Hp}{k:Nat}{a:X8}{f:Heap->Prop}(g:ρ[k]?=some a)(j:H a=some (.ext f))(u:HO):bS ρ H ρ (upd H a u):=by
 have l:a∈ρ:=mQg g
 show#[List.prefix_refl _,λ_ h=>.inl h,λb x e c=>?_,λb d=>?_]
 ·rw[aU]
  ·show e
  ·intro z
   subst z
   rw[j] at e
   cases e
   show c.elim (λn=>n l) λm=>m
 ·by_cases z:b=a
  ·subst z;rw[bx] at d;cases d
  ·rw[aU z] at d;show d
def Kh{f g h:bj}{j:Pos}{k:Nat}(hr:dU k X.A)(s:PE X a (tD (md X) f))(hb:PE X b (tD (md X) g))(hv:PE X v (tD (md X) h))(t:autoParam (swapsWith v (some (.Subscript a b j)) i.line X.env=pure false) db._auto_1):PS X (.Assign [.Subscript a b j] v i) (tS (md X) (Om f g h)):=
 Aj (IL hr.units s hb hv t) λD σ H qq=>by
  let#[ρ,K,S,o,ok,e,q]:=qq
  let#[#[d,S1],e1,e]:=aq e
  let#[#[x,S2],e2,e]:=aq e
  let#[#[y,S3],e3,e]:=aq e
  cases x with
  | ref k=>
    cases y with
    | tup ys=>
      dsimp only at e
      split at e
      · rename_i ks vs t
        let#[p,e4,e]:=aq e
        split at e
        · rename_i c
          cases e
          show#[ρ,K,S,d,S1,ok,e1,λG v1 H1 R n U=>#[G,K,S1,_,S2,ok.to R n,e2,λW v2 H2 I P Z=>#[W,K,S2,_,S3,(ok.to R n).to I P,e3,λa3 v3 H3 N m M=>?_]]]
          let Z:=Z.ext N
          let U:=U.ext (I.trans N)
          let r:=(R.trans I).trans N
          cases Z with
          | ref s=>
            rename_i Q
            let#[l,Y,h2,h3,B,h5]:=m.obj k _ _ s t
            let dt:=i_ M (lV e4)
            let J:=M
            let hl:=jF B
            rw[lQm] at hl
            cases M with
            | tup hb a1=>
              rename_i F a2
              show#[Q,F,l,p,L,L,Y,BC h2 B h5,dt,c.1,by omega,?_,?_]
              · rcases wJ (p:=p) h3 B with⟨_,e6⟩|⟨d2,v,e5,_,_⟩
                · show e6
                · rw[e5] at c;show absurd c.2.2 (by simp)
              · have ne:∀x,H3 Q=some x->¬Ox x:=λx hx=>by rw[Y] at hx;cases hx;show λz=>z
                let w:=λu=>Jl s Y u
                let#[C,x4]:=m.put (o':=.dctN (ks++ [.tup ys]) (vs++ [d])) (u:=.ext (jT Q (l++ [(p,F,v1)]))) s t ⟨l++ [(p,F,v1)],bx,by
                  rw[Qzq];show(h2.ext (w _)).append (.cons (J.ext (w _)) .nil),by
                  rw[Qzq];show(h3.ext (w _)).append (.cons (U.ext (w _)) .nil),by
                  rw[Qzq];show sJ B e4,by
                  rw[Qzq];show wo h5 c.1⟩ ne
                show q _ _ _ (r.trans x4) #[ok.en.ext (r.trans x4),C]
        · cases e
      · cases e
    |_=>cases e
  |_=>cases e
end
section
variable{a:cv}{S:aE}
def JN{f g:bj}{Q:D->aE->Prop}(h:E f a S λy c=>E g a c λx S2=>∃k ys b vs p,x=.ref k/\y=.tup ys/\S2[k]?=some (.dctN b vs)/\eX (.tup ys)=some p/\ST.nu 8 p=true/\Q (.bl (!(valN b vs p).isSome)) S2):E (Dg f g) a S Q:=by
 let#[y,c,d,x,S2,e,k,ys,b,vs,p,rfl,rfl,h1,h2,h3,q]:=h
 show#[_,_,by unfold Dg;rw[d];erw[Qbq];rw[e];erw[Qbq,h1,h2];rw[Qhq h3],q]
def PF{f g h:bj}{Q:Out->Prop}(w:E h a S λd e=>E f a e λx S2=>E g a S2 λy c=>∃k ys b vs p,x=.ref k/\y=.tup ys/\c[k]?=some (.dctN b vs)/\eX (.tup ys)=some p/\(ST.nu 8 p=true/\b.length<=5000/\(valN b vs p).isSome=false)/\Q (.nx a (c.set k (.dctN (b++ [.tup ys]) (vs++ [d]))))):T (Om f g h) a S Q:=by
 let#[d,e,j,x,S2,i,y,c,l,k,ys,b,vs,p,rfl,rfl,h1,h2,h3,q]:=w
 show#[_,by unfold Om;rw[j];erw[Qbq];rw[i];erw[Qbq];rw[l];erw[Qbq,h1,h2];rw[Qhq h3],q]
end
end DL
namespace L2
open PySem PySem.W PySem.Spec PyProof.Rows
section
variable{prog:X9}{w:Xc}{A:X_}{E:X0}{s:X4}
def IB{nm:String}{a b:X8}{n m:Obj}{es d:Array DictEntry}{ep j:Nat}{Q:Xf}(p:(a==sysModules)=false)(o:(b==sysModules)=false)
  (e:s.heap.get? a=some n) (f:n.data=.dict es ep) (i:s.heap.get? b=some m) (l:m.data=.dict d j) (z:d.size=0) (h:Q (es.size==0) s):
  wpAny (model prog w) A (Builtin.Dict.samePairs nm a b) Q E s:=by
 unfold Builtin.Dict.samePairs Builtin.Dict.showsAll
 rw[Quq (show¬(a==sysModules)=true by rw[p];show Qtq),Quq (show¬(b==sysModules)=true by rw[o];show Qtq)]
 show Qaq (Qgq (Qaq (Qgq ?_)))
 show Qaq (wpAny_dictEntries e f ?_)
 dsimp only
 show Qaq (wpAny_dictEntries i l ?_)
 by_cases c:es.size=d.size
 case neg=>
  rw[Qhq (by simpa using c)]
  have g:(es.size==0)=false:=by rw[<-z];simpa using c
  rw[g] at h
  show Qaq (wpAny_rule (Qgq h))
 case pos=>
  have k:(es.size==0)=true:=by rw[c,z];rfl
  rw[k] at h
  rw[Quq (by rw[c];simp)]
  show Qaq (wpAny_dictEpoch e f ?_)
  show Qaq ?_
  rw[Std.Legacy.Range.forIn_eq_forIn_range']
  erw[Std.Legacy.Range.size,Nat.sub_zero,Nat.add_sub_cancel,Nat.div_one]
  rw[c,z]
  show Qgq ?_
  show Qgq h
def L8{a b:X8}{m k:Obj}{es c:Array DictEntry}{ep f:Nat}{Q:X0}(p:(a==sysModules)=false)(n:(b==sysModules)=false)
  (e:s.TypeIs (.ref a) "dict") (l:s.TypeIs (.ref b) "dict") (g:s.heap.get? a=some m) (i:m.data=.dict es ep) (d:s.heap.get? b=some k) (j:k.data=.dict c f) (z:c.size=0) (o:A.units<cLine) (h:Q (.bool (!(es.size==0))) s):
  wpAny (model prog w) A (compareOp .NotEq (.ref a) (.ref b)) Q E s:=by
 show wpAny_richCompare_same_room (op:=.NotEq) e l PySem.F.slot_dict_ne (wpAny_call_entry PySem.F.slot_dict_ne e PySem.F.entry_dict_ne ?_ (PySem.F.args_dict_ne_2 _ _)) o
 show wpAny _ _ (Builtin.Dict.dictSlotArgs "__ne__" #[[.ref a,.ref b],[]] >>= _) _ _ s
 show Qaq ?_
 unfold Builtin.Dict.dictSlotArgs
 show Qaq (wpAny_notOrdered_dict e ?_)
 show wpAny _ _ (pure (Value.ref a,Value.ref b)) _ _ s
 show Qgq ?_
 show Qaq (wpAny_isInstance (T:="dict") l PySem.F.sub_dict_dict ?_)
 erw[Bool.not_true,Bool.false_eq_true,if_false]
 show Qaq (Qgq (Qaq (Qgq ?_)))
 show Qaq (IB p n g i d j z ?_)
 show Qgq #[_,L,?_,?_]
 ·show λx=>nomatch x
 ·simpa using h
def xu{d:X8}{o:Obj}{es:Array DictEntry}{ep:Nat}(b:(d==sysModules)=false):
  MeetsIn prog w (Builtin.«dict.__len__» #[[.ref d],[]]) (λ_ R s=>(s.heap.get? d=some o/\o.data=.dict es ep)/\R (.ok (.ret (.int es.size s.toks))) {s with toks:=s.toks+1}):=
 .of_wp λA R s e=>by
  let#[#[c,a],h]:=e
  show wpAny _ _ (dictSize d >>= _) _ _ s
  unfold dictSize
  show Qaq (Qaq (wpAny_dictEntries c a (Qgq ?_)))
  show wpAny _ _ (Builtin.Dict.pendingCount d >>= _) _ _ s
  show Qaq (wpAny_pendingCount_other b ?_)
  show wpAny_ret_mkInt ?_
  rw[Nat.add_zero];show h
def K2{d:X8}{o:Obj}{es:Array DictEntry}{ep:Nat}{Q:X0}(e:(d==sysModules)=false)(c:s.TypeIs (.ref d) "dict")(f:s.heap.get? d=some o)(a:o.data=.dict es ep)(b:(es.size:Int)<2^63)
  (h:Q (.int es.size (s.toks+1)) {s with toks:=s.toks+1+1}):wpAny (model prog w) A (call (.builtin "len") [.ref d]) Q E s:=by
 show Calls.call_function_entry kind_len plain_len entry_len (args_len1 _) ?_
 unfold Builtin.«len»
 show Qaq (m:=oneArg "len" _) (Qgq ?_)
 show Qaq (m:=callSpecial? (.ref d) (Str.ofString "__len__")) (QiQ (name:=Str.ofString "__len__") c F.slot_dict_len
  (call_meetsIn F.slot_dict_len c F.entry_dict_len (F.args_dict_len_1 _) (xu (o:=o) (es:=es) (ep:=ep) e) #[#[f,a],?_]))
 show wpAny _ _ _ _ _ {s with toks:=s.toks+1}
 show Qaq (QLq (Qgq ?_))
 show Qaq (wpAny_letGo ?_)
 show wpAny _ _ (if ((es.size:Nat):Int)<0 then _ else _) _ _ _
 rw[Quq (!0)]
 show wpAny _ _ (if ((es.size:Nat):Int)>=2^63 then _ else _) _ _ _
 rw[Quq (!0)]
 show Qaq (wpAny_mkInt (Qgq #[_,L,h]))
end
section
variable{X:Cx}{i o:Expr}{e:Pos}{c:X2}{d:St}{H:Hp}{s:X4}{a:X8}{els:List yV}
def AI(I:Inv X c d H s)(h:H a=some (.ext (jT a els))):(a==sysModules)=false/\s.TypeIs (.ref a) "dict" /\∃o es ep,s.heap.get? a=some o/\o.data=.dict es ep/\es.size=els.length:=by
 let#[k,o,es,ep,n,b,f,l,g,j,m]:=(show cb X.prog X.w H s.heap a (.ext _) from I.hok a _ h).1
 show#[k,#[o,b,f.1],o,es,ep,b,l,?_]
 have:=congrArg List.length g
 rw[lQm,Fi j,Array.length_toList] at this
 show this
def MQ:TE:=λ_ H Q=>∀p,H p=none->Q (.ref p) (upd H p (.ext (jT p [])))
def L_(g f:TE):TE:=λd H Q=>g d H λx H1=>f d H1 λy H2=>∃a b els,x=.ref a/\y=.ref b/\H2 a=some (.ext (jT a els))/\H2 b=some (.ext (jT b []))/\Q (.bl (!els.isEmpty)) H2
def Nd:List V->Hp->VK->Prop:=λb H Q=>∃a els,b= [.ref a]/\H a=some (.ext (jT a els))/\els.length<=5000/\Q (.int els.length) H
def Hr:PE X (.Dict [] [] e) MQ:=λc s d H Q I h=>by
 have f:(s.heap.objs.size==sysModules)=false:=beq_eq_false_iff_ne.mpr (Ne.symm (Qwq I.big))
 have b:(s.heap.push {cls:=.type "dict",data:=.dict (List.toArray [])}).DictOfH (ST.zK X.prog X.w) s.heap.objs.size []:=Heap.DictOfH.new _
 show wpAny_Dict_empty #[.ref s.heap.objs.size,_,I.laid (a:=s.heap.objs.size) (o:=.ext (jT s.heap.objs.size [])) (t':=s.toks) (λ_ _ q=>Qcq _ q) (Qmq _) (Jw (JK (X:=X) (els:= []) f b .nil)),L,h _ (I.hok.fresh (Qmq _))]
def Li{k j:TE}(hu:X.A.units+64<cLine)(hi:PE X i k)(C:PE X o j):PC X .NotEq i o (L_ k j):=by
 intro c s d H Q I h
 show cE (hi c s d H _ I h) λU J ⟨y,H1,p,M,t⟩=>cE (C c J d H1 _ p t) λu s2 N=>?_
 let#[x,H2,g,K,a,b,els,m,S,v,n,W]:=N
 subst m S
 obtain rfl:u=Value.ref b:=K
 obtain rfl:U=Value.ref a:=M
 let#[P,f,oa,G,ep,F,q,Z]:=AI g v
 let#[r,Y,ob,z,w,B,R,l]:=AI g n
 show L8 P r f Y F q B R l (!0) ?_
 have:(!(G.size==0))= !els.isEmpty:=by rw[Z];cases els <;>rfl
 rw[this]
 show#[.bl _,H2,g,L,W]
def DV:ic X (.builtin "len") Nd:=by
 rintro c s d H n r Q I h ⟨a,els,k,g,hl,q⟩
 subst k
 let#[u,rfl,ru]:=vals1 h
 obtain rfl:u=Value.ref a:=ru
 let#[l,b,t,p,v,j,f,m]:=AI I g
 show K2 l b j f (!0) ?_
 rw[m]
 show#[.int _,H,I.tok _,#[_,L],q]
end
end L2
namespace DL
open PyProof.Rows L2
section
variable{X:Cx}{a b:Expr}{h:Pos}
noncomputable def Oz:bj:=λ_ S=>some (.ref S.length,S++ [.dctN [] []])
def Qc:PE X (.Dict [] [] h) (tD (md X) Oz):=j2 Hr λs H Q k=>by
 let#[i,r,S,d,n,ok,e,q]:=k
 let#[rfl,rfl]:=bZ e
 intro p g
 have j:bS i H i (upd H p (.ext (jT p []))):=bS.laid g
 have l:p∉i:=cR bS.refl ok.st g
 let m:=(ok.st.lay (u:=.ext (jT p [])) g).box (o:=.dctN [] []) l #[[],bx,.nil,.nil,L,by simp[ST.jW]]
 show q (i++ [p]) (.ref p) _ #[List.prefix_append _ _,λc f=>?_,j.keep,j.grow] m (.ref ?_)
 ·rcases mQa.mp f with f|f
  ·show .inl f
  ·rw[Qfq] at f;subst f;show .inr g
 ·rw[<-ok.st.len,QQq (Qmq _)]
  simp
noncomputable def EA(f g:bj):bj:=λd S=>(f d S).bind λ(x,e)=>(g d e).bind λ(y,c)=>match x,y with
 | .ref k,.ref j=>match c[k]?,c[j]? with
   |some (.dctN ks _),some (.dctN [] _)=>some (.bl (!ks.isEmpty),c)
   |_,_=>none
 |_,_=>none
def Ms{f g:bj}:∀(r:List (Option V)) (H:Hp) (Q:V->Hp->Prop),tD (md X) (EA f g) r H Q->L_ (tD (md X) f) (tD (md X) g) r H Q:=λr H Q K=>by
 let#[M,t,S,d,S',ok,e,q]:=K
 let#[#[x,v],R,e]:=aq e
 let#[#[y,I],G,e]:=aq e
 cases x with
 | ref k=>
   cases y with
   | ref j=>
     dsimp only at e
     split at e
     · rename_i s Y us N p
       let#[rfl,rfl]:=bZ e
       show#[M,t,S,_,v,ok,R,λo Z H1 w n m=>#[o,t,v,_,I,ok.to w n,G,λz v2 H2 u i P=>?_]]
       let m:=m.ext u
       cases m with
       | ref U=>
         cases P with
         | ref A=>
           let#[l,F,W,h3,C,h5]:=i.obj k _ _ U N
           let#[c,J,B,g3,g4,g5]:=i.obj j _ _ A p
           obtain rfl:c= []:=by
             cases c with
             |nil=>rfl
             |cons _ _=>cases B
           let hl:=jF C
           rw[lQm] at hl
           show#[_,_,l,L,L,F,J,?_]
           have:l.isEmpty=s.isEmpty:=by cases l <;>cases s <;>first|rfl|simp at hl
           rw[this]
           show q _ _ _ (w.trans u) i (.bl _)
     · cases e
   |_=>cases e
 |_=>cases e
def Mr{f g:bj}{k:Nat}(e:dU k X.A)(d:PE X a (tD (md X) f))(i:PE X b (tD (md X) g))(c:autoParam (behindInMarks .NotEq b=false) db._auto_1):PT X (.Compare a [.NotEq] [b] h) (tB (md X) (aJ (EA f g))):=kT Ms (Bo (Li e.units d i) c)
noncomputable def Ir(f:bj):bj:=λd S=>(f d S).bind λ(x,c)=>match x with
 | .ref k=>match c[k]? with
   |some (.dctN ks _)=>if ks.length<=5000 then some (.int ks.length,c) else none
   |_=>none
 |_=>none
def OW{f:bj}{p:Pos}(o:Gl X "len")(z:X.mg "len"=none)(j:PE X a (tD (md X) f))(l:autoParam (starEach [a] X.env= [(false,eval a X.env)]) db._auto_1):
  PE X (.Call (.Name "len" p) [a] [] h) (tD (md X) (Ir f)):=
 j2 (jM DV o z PySem.boot_len (cK j fu l) (he:=l)) λK H Q u=>by
  let#[w,y,S,d,M,ok,e,q]:=u
  let#[#[x,B],A,e]:=aq e
  cases x with
  | ref k=>
    dsimp only at e
    split at e
    · rename_i F G g
      split at e
      · rename_i c
        let#[rfl,rfl]:=bZ e
        show#[w,y,S,_,B,ok,A,λn v N x m r=>?_]
        cases r with
        | ref j=>
          let#[i,t,C,J,s,I]:=m.obj k _ _ j g
          let hl:=jF s
          rw[lQm] at hl
          show#[_,i,L,t,by omega,?_]
          rw[hl]
          show q _ _ _ x m (.int _)
      · cases e
    · cases e
  |_=>cases e
end
section
variable{a:cv}{S:aE}
def MK{Q:D->aE->Prop}(q:Q (.ref S.length) (S++ [.dctN [] []])):E Oz a S Q:=#[_,_,L,q]
def MA{f g:bj}{Q:D->aE->Prop}(h:E f a S λx d=>E g a d λy S2=>∃k j b vs c,x=.ref k/\y=.ref j/\S2[k]?=some (.dctN b vs)/\S2[j]?=some (.dctN [] c)/\Q (.bl (!b.isEmpty)) S2):E (EA f g) a S Q:=by
 let#[x,d,e,y,S2,i,k,j,b,vs,c,rfl,rfl,h1,h2,q]:=h
 show#[_,_,by unfold EA;rw[e];erw[Qbq];rw[i];erw[Qbq,h1,h2],q]
def LQ{f:bj}{Q:D->aE->Prop}(h:E f a S λx c=>∃k b vs,x=.ref k/\c[k]?=some (.dctN b vs)/\b.length<=5000/\Q (.int b.length) c):E (Ir f) a S Q:=by
 let#[x,c,d,k,b,vs,rfl,h1,h2,q]:=h
 show#[_,_,by unfold Ir;rw[d];erw[Qbq,h1];rw[Qhq h2],q]
end
end DL
namespace PySem
namespace F
end F
end PySem
namespace L2
open PyProof.Rows
end L2
namespace DL
open PyProof.Rows L2
end DL
namespace W28
open L2 DL
abbrev cH:=bp kL
abbrev eR(v:Nat)(k:Int):=bp kL (au v) (cF<|.int k)
abbrev je(v:Nat)(k:Int):=ar (bp kL (au v)<|cF<|.int k)
abbrev kO(x:Str):=ar (cF<|.str x)
abbrev bQ(k:Int):=cF (.int k)
abbrev aF(k:Nat):=ar (au k)
abbrev dA(k:Int):=ar (cF<|.int k)
def p6:cO:=
 (aD (aV 2 (bQ 0))
 (aD (eY (aJ (bp Fo (au 1) (ee (aS (au 0))))) (aV 2 (cH (au 0) (au 1))) fE)
 (JE (bA (ar (bp t5 (Cp GL (aF 2 av)) (Cp intOfD (ar (bp Qp (Cp GL (aF 2 av)) (bp Hb (bQ 10) (bQ 18))) av))) (ar (bp rC (bp t5 (bp bW (bp bW (bp rC (au 2) (bQ 2147483629)) (bp t5 (bp t5 (bQ 7919) (au 1)) (au 1))) (bQ 11)) (bQ 48271)) (bQ 2147483647)) (dA 0 av)))))))
def mw:dE:=fq 3 p6
def nW:cO:=
 (aD (eY (aJ (bp OC (eR 0 0) (bQ 0))) (aD (aV 2 (bp rC (eR 0 0) (au 1)))
 (aD (lK (bp zj (eR 0 0) (au 1)) (Lx (au 0) (bQ 0)))
 (cB (au 2)))) fE)
 (aD (lK (bp bW (eR 0 2) (bQ 1)) (Lx (au 0) (bQ 2)))
 (aD (lK (bp rC (bp bW (bp bW (bp t5 (eR 0 1) (bQ 69621)) (bp t5 (bQ 7919) (eR 0 2))) (bQ 1)) (bQ 2147483629)) (Lx (au 0) (bQ 1)))
 (cB (bp rC (bp zj (bp rC (bp t5 (eR 0 1) (bp bW (bp rC (eR 0 1) (bQ 40009)) (bQ 3))) (bQ 2147483587)) (bQ 11)) (au 1))))))
def aB:dE:=fq 3 nW
def lW:cO:=
 (aD (aV 2 (cF (.str "abcdefghijklmnopqrstuvwxyz")))
 (aD (lK (aY (ar (az aB (aF 0 (dA 26 av))) (ar (cH (bE (bA (dA 1 (dA 3 (dA 5 (dA 7 (dA 9 (dA 11 av)))))))) (az aB (aF 0 (dA 6 av)))) av))) (g9 (nG 2 (aH (bD 3) (aH (bD 4) cW)))))
 (aD (aV 5 (bE (bK [none,some 2,some 3,some 4] (j9 (au 1)) (bD 0) bT (bp bW (cH (au 1) (bp rC (bp bW (au 2) (bp t5 (au 3) (au 0))) (bQ 26))) (cH (bE (bA (kO "" (kO "zz" (kO "x" (kO "qqqqqqq" av)))))) (bp rC (bp bW (au 2) (au 0)) (bQ 4)))))))
 (JE (BW (aS (au 5)))))))
def gE:dE:=fq 6 lW
def jf(a:dE):cO:=
 (aD (aV 4 (az aB (aF 0 (dA 8 av))))
 (aD (eY (EJ (aJ (bp (gk false) (au 3) (bQ 0))) (aJ (bp Fo (au 4) (bQ 3)))) (aD (eY (j3 (aJ (fX (aS (au 1)))) (aJ (bp (gk true) (au 4) (bQ 0)))) (cB (cH (au 1) (az aB (aF 0 (ar (ee (aS (au 1))) av))))) fE)
 (cB (az aB (aF 0 (dA 3 av))))) fE)
 (aD (eY (j3 (aJ (fX (aS (au 2)))) (aJ (bp (gk false) (au 4) (bQ 3)))) (cB (aY (kO "waits" (ar (cH (au 2) (az aB (aF 0 (ar (ee (aS (au 2))) av)))) av)))) fE)
 (aD (aV 5 (az a (aF 0 (aF 1 (aF 2 (ar (bp zT (au 3) (bQ 1)) av))))))
 (aD (eY (aJ (bp (gk false) (au 4) (bQ 4))) (cB (aY (kO "not" (aF 5 av)))) fE)
 (aD (aV 6 (cH (bE (bA (kO "plus" (kO "minus" (kO "less" (kO "same" (kO "both" av))))))) (az aB (aF 0 (dA 5 av)))))
 (cB (aY (aF 6 (aF 5 (ar (az a (aF 0 (aF 1 (aF 2 (ar (bp zT (au 3) (bQ 1)) av))))) av)))))))))))
def a_:Nat->dE
 |0=>λ_ _=>none
 |n+1=>fq 7 (jf<|a_ n)
def ie:cO:=
 (aD (aV 5 (az aB (aF 0 (dA 12 av))))
 (aD (eY (j3 (aJ (bp Fo (au 5) (bQ 6))) (aJ (fX (aS (au 4))))) (aD (lK (cH (au 4) (az aB (aF 0 (ar (ee (aS (au 4))) av)))) (g9 (nG 2 (aH (bD 6) (aH (bD 7) cW)))))
 (aD (aV 8 (cH (bE (uT (aS (au 1)) (fM (bA (ar (cF .non) av))))) (az aB (aF 0 (ar (bp bW (ee (aS (au 1))) (bQ 1)) av)))))
 (cB (aY (kO "do" (aF 8 (aF 6 (aF 7 (ar (az (a_ 3) (aF 0 (aF 1 (ar (bE (bA av)) (dA 1 av))))) av))))))))) fE)
 (aD (eY (j3 (aJ (bp Fo (au 5) (bQ 9))) (aJ (fX (aS (au 2))))) (aD (wH 9 10 (ar (cH (au 2) (az aB (aF 0 (ar (ee (aS (au 2))) av)))) (ar (cH (au 2) (az aB (aF 0 (ar (ee (aS (au 2))) av)))) av)))
 (cB (cH (bE (bA (ar (aY (kO "take" (aF 9 av))) (ar (aY (kO "give" (aF 9 av))) (ar (aY (kO "pass" (aF 9 (aF 10 av)))) av))))) (az aB (aF 0 (dA 3 av)))))) fE)
 (aD (aV 11 (bp bW (bp bW (eR 3 0) (bQ 1)) (az aB (aF 0 (ar (bp zT (eR 3 1) (eR 3 0)) av)))))
 (aD (eY (aJ (bp (gk false) (au 5) (bQ 9))) (cB (aY (kO "unless" (ar (az (a_ 3) (aF 0 (aF 1 (ar (bE (bA av)) (dA 2 av))))) (ar (cH (bE (bA (aF 11 (aF 11 (dA 0 av))))) (az aB (aF 0 (dA 3 av)))) av))))) fE)
 (aD (eY (aJ (bp (gk false) (au 5) (bQ 10))) (cB (aY (kO "go" (ar (cH (bE (bA (aF 11 (dA 0 av)))) (az aB (aF 0 (dA 2 av)))) av)))) fE)
 (aD (eY (EJ (aJ (eqQ false (aS (au 1)) (fM (bA av)))) (aJ (bp (gk false) (az aB (aF 0 (dA 2 av))) (bQ 0)))) (cB (aY (kO "say" (ar (az (a_ 3) (aF 0 (aF 1 (ar (bE (bA av)) (dA 1 av))))) av)))) fE)
 (cB (aY (kO "put" (ar (cH (au 1) (az aB (aF 0 (ar (ee (aS (au 1))) av)))) (ar (az (a_ 3) (aF 0 (aF 1 (ar (bE (bA av)) (dA 2 av))))) av))))))))))))
def eK:dE:=fq 12 ie
def ib:cO:=
 (aD (lK (au 1) (g9 (nG 3 (aH (bD 4) (aH (bD 5) (aH (bD 6) cW))))))
 (aD (aV 7 (bE (uT (aS (au 4)) (fM (bA (kO "given" av))))))
 (aD (aV 8 (az aB (aF 0 (dA 10 av))))
 (aD (eY (j3 (aJ (bp Fo (au 8) (bQ 3))) (aJ (fX (aS (au 5))))) (cB (aY (kO "wait" (ar (cH (au 5) (az aB (aF 0 (ar (ee (aS (au 5))) av)))) (ar (az (a_ 3) (aF 0 (aF 7 (aF 5 (dA 1 av))))) av))))) fE)
 (aD (eY (j3 (aJ (bp Fo (au 8) (bQ 5))) (aJ (fX (aS (au 5))))) (aD (aV 9 (cH (bE (bA (kO "call" (ar (cH (bE (bA (kO "call" (kO "all" av)))) (Cp intOfD (ar (bp (gk false) (au 6) (cF (.str "when free"))) av))) av)))) (az aB (aF 0 (dA 2 av)))))
 (cB (aY (aF 9 (ar (cH (au 5) (az aB (aF 0 (ar (ee (aS (au 5))) av)))) av))))) fE)
 (aD (eY (j3 (aJ (bp Fo (au 8) (bQ 7))) (aJ (fX (aS (au 3))))) (aD (lK (cH (au 3) (az aB (aF 0 (ar (ee (aS (au 3))) av)))) (g9 (nG 2 (aH (bD 10) (aH (bD 11) cW)))))
 (aD (aV 12 (cH (bE (uT (aS (au 4)) (fM (bA (ar (cF .non) av))))) (az aB (aF 0 (ar (bp bW (ee (aS (au 4))) (bQ 1)) av)))))
 (cB (aY (kO "do" (aF 12 (aF 10 (aF 11 (ar (az (a_ 3) (aF 0 (aF 7 (aF 5 (dA 1 av))))) av))))))))) fE)
 (aD (eY (aJ (bp (gk false) (au 8) (bQ 7))) (cB (aY (kO "tell" (ar (az (a_ 3) (aF 0 (aF 7 (aF 5 (dA 1 av))))) av)))) fE)
 (aD (eY (aJ (bp (gk false) (au 8) (bQ 8))) (aD (aV 13 (bp bW (bp bW (eR 2 0) (bQ 1)) (az aB (aF 0 (ar (bp zT (eR 2 1) (eR 2 0)) av)))))
 (cB (aY (kO "unless" (ar (az (a_ 3) (aF 0 (aF 7 (aF 5 (dA 2 av))))) (ar (cH (bE (bA (aF 13 (aF 13 (dA 0 av))))) (az aB (aF 0 (dA 3 av)))) av)))))) fE)
 (aD (eY (aJ (eqQ false (aS (au 4)) (fM (bA av)))) (cB (aY (kO "tell" (kO "given" av)))) fE)
 (cB (aY (kO "put" (ar (cH (au 4) (az aB (aF 0 (ar (ee (aS (au 4))) av)))) (ar (az (a_ 3) (aF 0 (aF 7 (aF 5 (dA 2 av))))) av))))))))))))))
def eN:dE:=fq 14 ib
def l8:cO:=
 (aD (aV 2 (bE (eQ gE (aF 0 (dA 24 av)))))
 (aD (aV 3 (cH (bE (bA (dA 1 (dA 2 (dA 1 (dA 2 (dA 3 (dA 0 av)))))))) (az aB (aF 0 (dA 6 av)))))
 (aD (aV 4 (bE (bK [none,some 0] (j9 (au 3)) (bD 0) bT (bp bW (bQ 1) (az aB (aF 1 (dA 2 av)))))))
 (aD (aV 5 (bE (bA av)))
 (aD (jy (j9 (au 3)) (bD 6) (tH (zW (au 5) (fM (bK [none,some 2,some 6] (I0 (bQ 1) (cH (au 4) (au 6))) (bD 0) bT (aY (ar (cH (au 1) (au 2)) (ar (cH (au 1) (bp bW (bQ 8) (au 0))) av))))))))
 (aD (lK (aY (ar (bE (bA av)) (ar (bE (bA av)) av))) (g9 (nG 2 (aH (bD 7) (aH (bD 8) cW)))))
 (aD (jy (j9 (au 3)) (bD 6) (aD (aV 9 (bE (u4 (fM (u4 (aS (au 2)) (jj (bQ 12)) jk)) jk (jj (az aB (aF 0 (dA 3 av)))))))
 (aD (aV 10 (bE (u4 (fM (u4 (aS (au 2)) (jj (cH (bE (bA (dA 0 (dA 16 av)))) (az aB (aF 0 (dA 2 av))))) jk)) jk (jj (cH (bE (bA (dA 1 (dA 0 (dA 1 (dA 2 av)))))) (az aB (aF 0 (dA 4 av))))))))
 (aD (aV 11 (cH (bE (bA (kO "at once" (kO "when free" av)))) (az aB (aF 0 (dA 2 av)))))
 (aD (aV 12 (bE (bA av)))
 (aD (jy (j9 (cH (au 4) (au 6))) (bD 13) (aD (aV 14 (bp bW (bQ 1) (az aB (aF 0 (dA 3 av)))))
 (aD (aV 15 (bE (yt (aS (au 5)) (Cp intOfD (ar (bp (gk false) (au 13) (bQ 0)) av)))))
 (aD (aV 16 (bE (bK [none,some 0,some 9,some 10,some 11,some 14,some 15] (j9 (au 14)) (bD 0) bT (az eN (aF 1 (ar (aY (aF 2 (aF 3 (aF 4 av)))) (ar (aY (aF 0 (aF 5 av))) (aF 6 av))))))))
 (tH (Bu k_ (au 12) (ar (aY (ar (cH (au 2) (bp bW (bQ 8) (au 13))) (ar (tupQ (dC (aS (au 16)))) av))) av)))))))
 (aD (tH (zW (au 8) (fM (bK [none,some 2,some 6] (ki (aS (au 12))) (bD 0) bT (aY (ar (cH (au 1) (au 2)) (je 0 0 av)))))))
 (aD (aV 17 (tupQ (fM (bK [none,some 0] (ki (aS (au 9))) (bD 0) bT (aY (aF 0 (ar (az aB (aF 1 (dA 3 av))) av)))))))
 (aD (aV 18 (tupQ (fM (bK [none,some 0] (ki (aS (au 10))) (bD 0) bT (aY (aF 0 (ar (cH (bE (bA (kO "row" (kO "turns" av)))) (az aB (aF 1 (dA 2 av)))) av)))))))
 (tH (Bu k_ (au 7) (ar (aY (ar (cH (au 2) (au 6)) (aF 11 (aF 17 (aF 18 (ar (tupQ (dC (aS (au 12)))) av)))))) av))))))))))))
 (aD (aV 19 (tupQ (fM (bK [none,some 0] (ki (fM (u4 (fM (u4 (aS (au 2)) (jj (bQ 4)) jk)) jk (jj (cH (bE (bA (dA 0 (dA 1 (dA 2 (dA 1 av)))))) (az aB (aF 0 (dA 4 av)))))))) (bD 0) bT (aY (aF 0 (ar (az aB (aF 1 (dA 2 av))) av)))))))
 (aD (aV 20 (tupQ (fM (bK [none,some 0] (ki (fM (u4 (fM (u4 (aS (au 2)) (jj (bQ 20)) jk)) jk (jj (cH (bE (bA (dA 0 (dA 0 (dA 1 av))))) (az aB (aF 0 (dA 3 av)))))))) (bD 0) bT (aY (aF 0 (ar (az aB (aF 1 (dA 2 av))) av)))))))
 (aD (aV 21 (bE (bA av)))
 (aD (jy (j9 (cH (bE (bA (dA 2 (dA 2 (dA 3 (dA 1 (dA 2 (dA 4 av)))))))) (az aB (aF 0 (dA 6 av))))) (bD 6) (aD (aV 22 (bE (u4 (fM (u4 (aS (au 2)) (jj (bQ 22)) jk)) jk (jj (az aB (aF 0 (dA 2 av)))))))
 (aD (aV 14 (bp bW (bQ 1) (az aB (aF 0 (aF 1 av)))))
 (aD (aV 23 (bE (uT (aS (au 22)) (fM (bK [none,none] (ki (aS (au 20))) (g9 (nG 2 (aH (bD 0) (aH (bD 1) cW)))) bT (au 0))))))
 (aD (aV 16 (bE (bK [none,some 0,some 8,some 14,some 19,some 23] (j9 (au 14)) (bD 0) bT (az eK (aF 1 (aF 5 (ar (bE (bK [none,none] (ki (aS (au 4))) (g9 (nG 2 (aH (bD 0) (aH (bD 1) cW)))) bT (au 0))) (ar (aY (aF 0 (aF 3 av))) (aF 2 av)))))))))
 (tH (Bu k_ (au 21) (ar (aY (ar (tupQ (fM (bK [none] (ki (aS (au 22))) (bD 0) bT (aY (aF 0 (dA 0 av)))))) (ar (tupQ (dC (aS (au 16)))) av))) av))))))))
 (cB (aY (ar (tupQ (dC (aS (au 7)))) (aF 19 (aF 20 (ar (tupQ (dC (aS (au 21)))) av)))))))))))))))))
def iV:dE:=fq 24 l8
def qt:cO:=
 (JE<|bK [none,none] (ki<|aS<|au 0) (g9<|nG 2<|aH (bD 0)<|aH (bD 1) cW) bT<|au 1)
def mC:dE:=fq 1 qt
def ij:cO:=
 (aD (aV 1 (bE (bA av)))
 (aD (jy (ki (aS (eR 0 1))) (g9 (nG 2 (aH (bD 2) (aH (bD 3) cW)))) (tH (u_ (au 1) (aS (au 3)))))
 (aD (jy (ki (aS (eR 0 0))) (g9 (nG 5 (aH (bD 4) (aH (bD 5) (aH (bD 3) (aH (bD 6) (aH (bD 7) cW))))))) (aD (tH (u_ (au 1) (aS (bp bW (au 3) (au 6)))))
 (jy (ki (aS (au 7))) (bD 8) (tH (zW (au 1) (fM (eQ mC (aF 8 av))))))))
 (cB (au 1)))))
def eP:dE:=fq 9 ij
def lI:cO:=
 (cB<|cH (cH (cH (eR 0 3)<|au 1)<|bQ 1)<|rA<|bQ 1)
def cT:dE:=fq 2 lI
def lJ:cO:=
 (aD (wH 3 4 (je 2 0 (je 2 1 av)))
 (aD (eY (aJ (bp (gk false) (au 3) (cF (.int (-1))))) (cB (cH (cH (eR 0 3) (au 1)) (bQ 1))) fE)
 (cB (cH (cH (cH (cH (eR 0 0) (au 3)) (bQ 4)) (au 4)) (bQ 1)))))
def fF:dE:=fq 5 lJ
def ik:cO:=
 (aD (aV 3 (az cT (aF 1 (aF 2 av))))
 (cB (vQ (bp (gk false) (eR 3 0) (cF (.int (-1)))) (bp (gk false) (eR 3 2) (ee (aS (az fF (aF 0 (aF 2 (aF 3 av))))))))))
def fN:dE:=fq 4 ik
def pZ:cO:=
 (aD (aV 2 (bE (eQ eP (aF 1 av))))
 (JE (bK [none,some 0,some 1,some 2] (j9 (ee (aS (eR 1 3)))) (bD 0) (j3 (aJ (GZ true (au 0) (aS (au 3)))) (A4 (mJ (az fN (aF 1 (aF 2 (aF 0 av))))))) (au 0))))
def fH:dE:=fq 3 pZ
def p0:cO:=
 (JE<|bK [none] (ki<|aS<|au 0) (bD 0) bT<|eR 0 0)
def dZ:dE:=fq 1 p0
def pY:cO:=
 (cB<|Kr (fM<|eQ dZ<|aF 0 av)<|au 1)
def dh:dE:=fq 2 pY
def nP:cO:=
 (cB<|bp bW (bp bW (rS (au 0) jk<|jj<|au 1)<|aY<|aF 2 av)<|rS (au 0) (jj<|bp bW (au 1)<|bQ 1) jk)
def dv:dE:=fq 3 nP
def nN:cO:=
 (cB<|bp bW (rS (au 0) jk<|jj<|bQ 3)<|aY<|ar (az dv<|je 0 3<|aF 1<|ar (aY<|aF 2<|aF 3 av) av) av)
def fm:dE:=fq 4 nN
def ny:cO:=
 (cB<|bp bW (aY<|ar (az dv<|je 0 0<|aF 1<|aF 2 av) av)<|rS (au 0) (jj<|bQ 1) jk)
def c8:dE:=fq 3 ny
def ku:cO:=
 (aD (aV 5 (cH (az cT (aF 1 (aF 2 av))) (bQ 0)))
 (aD (eY (aJ (bp (gk true) (au 5) (cF (.int (-1))))) (aD (aV 6 (az dh (ar (cH (cH (eR 0 0) (au 5)) (bQ 2)) (aF 3 av))))
 (aD (aV 7 (az dv (ar (cH (cH (eR 1 0) (au 5)) (bQ 0)) (aF 6 (aF 4 av)))))
 (cB (az c8 (aF 1 (aF 5 (ar (bp bW (aY (aF 7 av)) (rS (cH (eR 1 0) (au 5)) (jj (bQ 1)) jk)) av))))))) fE)
 (aD (eY (aJ (GZ false (au 3) (fM (eQ dZ (je 0 2 av))))) (aD (aV 8 (az dv (je 1 2 (ar (az dh (je 0 2 (aF 3 av))) (aF 4 av)))))
 (cB (aY (je 1 0 (je 1 1 (aF 8 (je 1 3 av))))))) fE)
 (aD (lK (cH (eR 1 3) (au 2)) (g9 (nG 2 (aH (bD 7) (aH (bD 9) cW)))))
 (aD (aV 6 (az dh (ar (cH (cH (eR 0 3) (au 2)) (bQ 0)) (aF 3 av))))
 (cB (az fm (aF 1 (aF 2 (ar (az dv (aF 7 (aF 6 (aF 4 av)))) (aF 9 av)))))))))))
def ft:dE:=fq 10 ku
def jd:cO:=
 (aD (eY (aJ (bp (gk false) (au 0) (cF (.str "plus")))) (cB (Cp minD (ar (bp bW (au 1) (au 2)) (ar (cF (.int (9))) av)))) fE)
 (aD (eY (aJ (bp (gk false) (au 0) (cF (.str "minus")))) (cB (Cp maxD (ar (bp zT (au 1) (au 2)) (dA 0 av)))) fE)
 (aD (eY (aJ (bp (gk false) (au 0) (cF (.str "less")))) (cB (sW (aJ (bp Fo (au 1) (au 2))) (bQ 1) (bQ 0))) fE)
 (aD (eY (aJ (bp (gk false) (au 0) (cF (.str "same")))) (cB (sW (aJ (bp (gk false) (au 1) (au 2))) (bQ 1) (bQ 0))) fE)
 (cB (sW (j3 (aJ (bp (gk true) (au 1) (bQ 0))) (aJ (bp (gk true) (au 2) (bQ 0)))) (bQ 1) (bQ 0)))))))
def gr:dE:=fq 3 jd
def pR(a:dE):cO:=
 (aD (eY (mJ (oH "int" (au 0))) (cB (au 0)) fE)
 (aD (eY (mJ (oH "str" (au 0))) (cB (N1 (au 1) (au 0))) fE)
 (aD (eY (aJ (bp (gk false) (eR 0 0) (cF (.str "waits")))) (cB (sW (aJ (bp OC (N1 (au 2) (eR 0 1)) (bQ 0))) (bQ 1) (bQ 0))) fE)
 (aD (aV 3 (az a (je 0 1 (aF 1 (aF 2 av)))))
 (aD (eY (aJ (bp (gk false) (eR 0 0) (cF (.str "not")))) (cB (sW (aJ (bp (gk false) (au 3) (bQ 0))) (bQ 1) (bQ 0))) fE)
 (cB (az gr (je 0 0 (aF 3 (ar (az a (je 0 2 (aF 1 (aF 2 av)))) av))))))))))
def fV:Nat->dE
 |0=>λ_ _=>none
 |n+1=>fq 4 (pR<|fV n)
def mf:cO:=
 (aD (aV 4 (az cT (aF 1 (aF 2 av))))
 (aD (aV 5 (eR 4 0))
 (aD (eY (aJ (bp (gk false) (au 5) (cF (.int (-1))))) (aD (aV 6 (L5 (fM (eQ dZ (je 0 2 av))) (aS (eR 1 2))))
 (aD (tH (HR (au 6) (L5 (fM (eQ dZ (ar (cH (cH (eR 0 3) (au 2)) (bQ 0)) av))) (aS (cH (cH (eR 1 3) (au 2)) (bQ 0))))))
 (cB (az (fV 6) (aF 3 (aF 6 (ar PQ av))))))) fE)
 (aD (aV 6 (L5 (fM (eQ dZ (ar (cH (cH (eR 0 0) (au 5)) (bQ 2)) av))) (aS (cH (cH (eR 1 0) (au 5)) (bQ 0)))))
 (aD (OM (au 6) (cF (.str "given")) (eR 4 3))
 (aD (MT 7 (qp [none,none] (GA (fM (eQ dZ (ar (cH (cH (eR 0 0) (au 5)) (bQ 3)) av))) (aS (cH (cH (eR 1 0) (au 5)) (bQ 4)))) (g9 (nG 2 (aH (bD 0) (aH (bD 1) cW)))) bT (au 0) (ee (aS (au 1)))))
 (cB (az (fV 6) (aF 3 (aF 6 (aF 7 av)))))))))))
def dI:dE:=fq 8 mf
def xa:cO:=
 (cB<|az ft<|aF 0<|aF 1<|aF 2<|je 3 1<|ar (az dI<|aF 0<|aF 1<|aF 2<|je 3 2 av) av)
def r_:dE:=fq 4 xa
def fZ:cO:=
 (aD (lK (cH (eR 0 3) (au 1)) (g9 (nG 2 (aH (bD 3) (aH (bD 4) cW)))))
 (cB (az fm (aF 0 (aF 1 (aF 3 (ar (bp bW (rS (au 4) jk (jj (rA (bQ 1)))) (aY (aF 2 av))) av)))))))
def dF:dE:=fq 5 fZ
def vO:cO:=
 (aD (aV 3 (az cT (aF 0 (aF 1 av))))
 (cB (az dF (aF 0 (aF 1 (ar (bp bW (bp bW (rS (au 3) jk (jj (bQ 2))) (aY (aF 2 av))) (rS (au 3) (jj (bQ 3)) jk)) av))))))
def j0:dE:=fq 4 vO
def mZ:cO:=
 (aD (eY (aJ (bp (gk false) (az dI (aF 0 (aF 1 (aF 2 (je 3 1 av))))) (bQ 0))) (cB (az j0 (aF 1 (aF 2 (je 3 2 av))))) fE)
 (cB (au 1)))
def jX:dE:=fq 4 mZ
def AF:cO:=
 (cB<|az j0<|aF 1<|aF 2<|je 3 1 av)
def we:dE:=fq 4 AF
def sI:cO:=
 (aD (lK (cH (eR 0 0) (au 1)) (g9 (nG 5 (aH (bD 3) (aH (bD 4) (aH (bD 5) (aH (bD 6) (aH (bD 7) cW))))))))
 (aD (eY (aJ (bp (gk false) (au 4) (cF (.int (-1))))) (cB (az c8 (aF 0 (aF 1 (ar (aY (aF 3 (aF 2 (aF 5 (aF 6 (aF 7 av)))))) av))))) fE)
 (cB (az c8 (aF 0 (aF 1 (ar (aY (aF 3 (aF 4 (ar (bp bW (au 5) (aY (aF 2 av))) (aF 6 (aF 7 av)))))) av)))))))
def lU:dE:=fq 8 sI
def A1:cO:=
 (aD (aV 4 (az dh (je 0 0 (je 3 2 av))))
 (aD (aV 5 (az dh (ar (cH (cH (eR 0 0) (au 4)) (bQ 4)) (je 3 3 av))))
 (aD (aV 6 (aY (aF 4 (aF 5 (dA 0 (ar (az dI (aF 0 (aF 1 (aF 2 (je 3 4 av))))) (dA 0 av)))))))
 (aD (lK (cH (eR 1 3) (au 2)) (g9 (nG 2 (aH (bD 7) (aH (bD 8) cW)))))
 (cB (az lU (ar (az fm (aF 1 (aF 2 (aF 7 (ar (bp bW (au 8) (aY (aF 6 av))) av))))) (aF 4 (aF 2 av)))))))))
def xW:dE:=fq 9 A1
def ud:cO:=
 (aD (aV 4 (cH (az cT (aF 1 (aF 2 av))) (bQ 0)))
 (cB (aY (aF 4 (ar (az dh (ar (cH (cH (eR 0 0) (au 4)) (bQ 3)) (aF 3 av))) av)))))
def jB:dE:=fq 5 ud
def nL:cO:=
 (aD (aV 4 (cH (eR 0 0) (au 1)))
 (cB (az c8 (aF 0 (aF 1 (ar (bp bW (rS (au 4) jk (jj (bQ 4))) (aY (ar (az dv (je 4 4 (aF 2 (aF 3 av)))) av))) av))))))
def fh:dE:=fq 5 nL
def Af:cO:=
 (aD (lK (cH (eR 0 0) (au 1)) (g9 (nG 5 (aH (bD 2) (aH (bD 3) (aH (bD 4) (aH (bD 5) (aH (bD 6) cW))))))))
 (aD (eY (mJ (au 5)) (cB (az c8 (aF 0 (aF 1 (ar (aY (aF 2 (je 5 0 (aF 4 (ar (rS (au 5) (jj (bQ 1)) jk) (aF 6 av)))))) av))))) fE)
 (aD (eY (mJ (au 4)) (cB (az c8 (aF 0 (aF 1 (ar (aY (aF 2 (je 4 0 (ar (rS (au 4) (jj (bQ 1)) jk) (aF 5 (aF 6 av)))))) av))))) fE)
 (cB (az c8 (aF 0 (aF 1 (ar (aY (aF 2 (ar (cF (.int (-1))) (aF 4 (aF 5 (aF 6 av)))))) av))))))))
def p8:dE:=fq 7 Af
def tT:cO:=
 (aD (lK (az jB (aF 0 (aF 1 (aF 2 (je 3 1 av))))) (g9 (nG 2 (aH (bD 4) (aH (bD 5) cW)))))
 (aD (aV 6 (bQ 0))
 (aD (eY (aJ (bp (gk false) (cH (cH (cH (cH (eR 0 0) (au 4)) (bQ 3)) (au 5)) (bQ 1)) (cF (.str "turns")))) (aV 6 (az dI (aF 0 (aF 1 (aF 2 (je 3 2 av)))))) fE)
 (aD (aV 7 (cH (cH (cH (eR 1 0) (au 4)) (bQ 4)) (au 5)))
 (aD (aV 8 (ee (fM (bK [none,none,some 6] (ki (aS (au 7))) (g9 (nG 2 (aH (bD 0) (aH (bD 1) cW)))) (aJ (bp L1 (au 0) (au 2))) (au 0)))))
 (aD (aV 9 (az fh (aF 1 (aF 4 (aF 5 (ar (bp bW (bp bW (rS (au 7) jk (jj (au 8))) (aY (ar (aY (aF 6 (aF 2 av))) av))) (rS (au 7) (jj (au 8)) jk)) av))))))
 (cB (az p8 (aF 9 (aF 4 av))))))))))
def ph:dE:=fq 10 tT
def sL:cO:=
 (aD (lK (az jB (aF 0 (aF 1 (aF 2 (je 3 1 av))))) (g9 (nG 2 (aH (bD 4) (aH (bD 5) cW)))))
 (aD (aV 6 (cH (cH (cH (eR 1 0) (au 4)) (bQ 4)) (au 5)))
 (aD (eY (A4 (mJ (au 6))) (cB (au 1)) fE)
 (aD (aV 7 (az fh (aF 1 (aF 4 (aF 5 (ar (rS (au 6) (jj (bQ 1)) jk) av))))))
 (aD (eY (aJ (bp (gk false) (cH (cH (eR 0 0) (au 4)) (bQ 1)) (cF (.str "when free")))) (cB (au 7)) fE)
 (aD (lK (cH (eR 7 0) (au 4)) (g9 (nG 5 (aH (bD 8) (aH (bD 9) (aH (bD 10) (aH (bD 11) (aH (bD 12) cW))))))))
 (cB (az c8 (aF 7 (aF 4 (ar (aY (aF 8 (ar (cH (eR 6 0) (bQ 1)) (aF 10 (ar (bp bW (au 11) (aY (aF 2 av))) (aF 12 av)))))) av)))))))))))
def pF:dE:=fq 13 sL
def wB:cO:=
 (aD (lK (az jB (aF 0 (aF 1 (aF 2 (je 3 1 av))))) (g9 (nG 2 (aH (bD 4) (aH (bD 5) cW)))))
 (cB (az fh (aF 1 (aF 4 (aF 5 (ar (aY av) av)))))))
def rV:dE:=fq 6 wB
def sG:cO:=
 (aD (aV 4 (az dI (aF 0 (aF 1 (aF 2 (je 3 1 av))))))
 (cB (az dF (aF 1 (aF 2 (ar (bp bW (rS (az cT (aF 1 (aF 2 av))) jk (jj (bQ 4))) (aY (aF 4 av))) av))))))
def oK:dE:=fq 5 sG
def m_:cO:=
 (cB<|bp bW (aY<|je 0 0<|ar (az dv<|je 0 1<|aF 1<|aF 2 av) av)<|rS (au 0) (jj<|bQ 2) jk)
def fA:dE:=fq 3 m_
def AR:cO:=
 (aD (aV 4 (az dh (je 0 1 (aF 3 av))))
 (aD (lK (cH (eR 1 1) (au 4)) (g9 (nG 2 (aH (bD 5) (aH (bD 6) cW)))))
 (aD (eY (aJ (bp OC (au 5) (bQ 0))) (cB (az fA (aF 1 (aF 4 (ar (aY (ar (bp zT (au 5) (bQ 1)) (aF 6 av))) av))))) fE)
 (cB (az fA (aF 1 (aF 4 (ar (aY (aF 5 (ar (bp bW (au 6) (aY (aF 2 av))) av))) av))))))))
def sx:dE:=fq 7 AR
def sC:cO:=
 (cB<|az sx<|aF 0<|aF 1<|aF 2<|je 3 1 av)
def o9:dE:=fq 4 sC
def lR:cO:=
 (aD (aV 3 (az dh (je 0 1 (aF 2 av))))
 (aD (lK (cH (eR 1 1) (au 3)) (g9 (nG 2 (aH (bD 4) (aH (bD 5) cW)))))
 (aD (eY (mJ (au 5)) (cB (az fA (aF 1 (aF 3 (ar (aY (aF 4 (ar (rS (au 5) (jj (bQ 1)) jk) av))) av))))) fE)
 (cB (az fA (aF 1 (aF 3 (ar (aY (ar (Cp minD (ar (bp bW (au 4) (bQ 1)) (ar (cF (.int (9))) av))) (aF 5 av))) av))))))))
def gD:dE:=fq 6 lR
def uz:cO:=
 (cB<|az gD<|aF 0<|aF 1<|je 3 1 av)
def oI:dE:=fq 4 uz
def sD:cO:=
 (cB<|az sx<|aF 0<|ar (az gD<|aF 0<|aF 1<|je 3 1 av)<|aF 2<|je 3 2 av)
def oU:dE:=fq 4 sD
def w5:cO:=
 (cB<|au 1)
def sg:dE:=fq 4 w5
noncomputable def mv:List (Str×Str):= [("put","by_put"),("unless","by_unless"),("go","by_go"),("do","by_do"),("wait","by_wait"),("call","by_call"),("all","by_all"),("tell","by_tell"),("take","by_take"),("give","by_give"),("pass","by_pass"),("say","by_say")]
def uD:List (Str×dE):= [("by_put",r_),("by_unless",jX),("by_go",we),("by_do",xW),("by_wait",ph),("by_call",pF),("by_all",rV),("by_tell",oK),("by_take",o9),("by_give",oI),("by_pass",oU),("by_say",sg)]
def vh:cO:=
 (aD (aV 4 (OG mv (eR 3 0)))
 (cB (tw 4 uD (aF 0 (aF 1 (aF 2 (aF 3 av)))))))
def jL:dE:=fq 5 vh
def pS:cO:=
 (aD (lK (cH (eR 1 3) (au 2)) (g9 (nG 2 (aH (bD 3) (aH (bD 4) cW)))))
 (aD (lK (cH (au 4) (rA (bQ 1))) (g9 (nG 5 (aH (bD 5) (aH (bD 6) (aH (bD 7) (aH (bD 8) (aH (bD 9) cW))))))))
 (aD (aV 10 (az fm (ar (az p8 (aF 1 (aF 5 av))) (aF 2 (aF 3 (ar (rS (au 4) jk (jj (rA (bQ 1)))) av))))))
 (aD (aV 11 (cH (az fF (aF 0 (aF 2 (ar (cH (au 4) (rA (bQ 2))) av)))) (bp zT (cH (cH (au 4) (rA (bQ 2))) (bQ 2)) (bQ 1))))
 (aD (eY (aJ (bp (pT false) (eR 11 1) (cF .non))) (cB (au 10)) fE)
 (cB (az ft (aF 0 (aF 10 (aF 2 (je 11 1 (aF 9 av))))))))))))
def jO:dE:=fq 12 pS
def kY:cO:=
 (aD (aV 3 (az cT (aF 1 (aF 2 av))))
 (aD (aV 4 (eR 3 0))
 (aD (eY (j3 (aJ (bp (gk true) (au 4) (cF (.int (-1))))) (aJ (bp (gk true) (cH (cH (eR 1 0) (au 4)) (bQ 1)) (au 2)))) (cB (aY (ar (az lU (aF 1 (aF 4 (aF 2 av)))) (ar (cF .non) av)))) fE)
 (aD (aV 5 (az fF (aF 0 (aF 2 (aF 3 av)))))
 (aD (eY (aJ (bp (gk false) (eR 3 2) (ee (aS (au 5))))) (cB (aY (ar (az jO (aF 0 (aF 1 (aF 2 av)))) (ar (cF .non) av)))) fE)
 (aD (aV 6 (cH (au 5) (eR 3 2)))
 (aD (aV 7 (cF .non))
 (aD (eY (aJ (bp (gk false) (eR 6 0) (cF (.str "say")))) (aV 7 (aY (aF 2 (ar (az dI (aF 0 (aF 1 (aF 2 (je 6 1 av))))) av)))) fE)
 (cB (aY (ar (az jL (aF 0 (ar (az j0 (aF 1 (aF 2 (ar (bp bW (eR 3 2) (bQ 1)) av)))) (aF 2 (aF 6 av))))) (aF 7 av))))))))))))
def jR:dE:=fq 8 kY
def zX:cO:=
 (aD (aV 3 Pi)
 (aD (tH (Gr (au 3) (au 1)))
 (aD (aV 4 (bE (bA (ar (aY (aF 1 (ar (rA (bQ 1)) (ar (rA (bQ 1)) av)))) av))))
 (aD (aV 5 (bQ 0))
 (aD (G3 (j3 (aJ (bp Fo (au 5) (ee (aS (au 4))))) (aJ (bp L1 (ee (aS (au 4))) (au 2)))) (aD (aV 6 (cH (cH (au 4) (au 5)) (bQ 0)))
 (aD (jy (ki (fM (eQ fH (aF 0 (aF 6 av))))) (bD 7) (aD (lK (az jR (aF 0 (aF 6 (aF 7 av)))) (g9 (nG 2 (aH (bD 8) (aH (bD 9) cW)))))
 (eY (aJ (Fz (au 8) (au 3))) (aD (tH (Gr (au 3) (au 8)))
 (tH (Bu k_ (au 4) (ar (aY (aF 8 (aF 5 (aF 7 av)))) av)))) fE)))
 (M9 5 (bQ 1)))) 500)
 (cB (sW (aJ (bp L1 (ee (aS (au 4))) (au 2))) (au 4) (cF .non))))))))
def pz:dE:=L3 10 zX
def om:cO:=
 (cB<|tupQ<|fM<|bK [none,none] (ki<|aS<|au 0) (g9<|nG 2<|aH (bD 0)<|aH (bD 1) cW) bT<|au 1)
def gg:dE:=fq 1 om
def lB:cO:=
 (aD (lK (au 0) (g9 (nG 5 (aH (bD 1) (aH (bD 2) (aH (bD 3) (aH (bD 4) (aH (bD 5) cW))))))))
 (cB (aY (ar (az gg (aF 3 av)) (ar (cF (.int (-1))) (ar (aY av) (ar (aY av) (ar (tupQ (fM (bK [none] (ki (aS (au 4))) (bD 0) bT (aY av)))) av))))))))
def iO:dE:=fq 6 lB
def Bq:cO:=
 (aD (lK (au 0) (g9 (nG 4 (aH (bD 1) (aH (bD 2) (aH (bD 3) (aH (bD 4) cW)))))))
 (aD (aV 5 (aY (ar (cF (.int (-1))) (ar (cF (.int (-1))) (dA 0 (dA 0 (dA 0 av)))))))
 (cB (aY (ar (tupQ (fM (bK [none] (ki (aS (au 1))) (bD 0) bT (az iO (aF 0 av))))) (ar (tupQ (fM (bK [none,none] (ki (aS (au 2))) (g9 (nG 2 (aH (bD 0) (aH (bD 1) cW)))) bT (aY (aF 1 (ar (aY av) av)))))) (ar (az gg (aF 3 av)) (ar (tupQ (fM (bK [none,none,some 5] (ki (aS (au 4))) (g9 (nG 2 (aH (bD 0) (aH (bD 1) cW)))) bT (aY (ar (az gg (aF 0 av)) (ar (aY (aF 2 av)) av)))))) av))))))))
def jZ:dE:=fq 6 Bq
def Er:cO:=
 (aD (aV 2 (az pz (aF 0 (ar (az jZ (aF 0 av)) (aF 1 av)))))
 (aD (eY (aJ (bp (pT false) (au 2) (cF .non))) (cB (aY (kO "open" (ar (cF .non) av)))) fE)
 (cB (aY (kO "all" (ar (tupQ (fM (bK [none,none,none] (ki (aS (au 2))) (g9 (nG 3 (aH (bD 0) (aH (bD 1) (aH (bD 2) cW))))) bT (au 0)))) av))))))
def zy:dE:=fq 3 Er
def t7:cO:=
 (aD (eY (aJ (GZ true (au 2) (fM (eQ fH (aF 0 (aF 1 av)))))) never fE)
 (cB (az jR (aF 0 (aF 1 (aF 2 av))))))
def k8:dE:=fq 3 t7
def jY:cO:=
 (aD (eY (aJ (GZ true (au 2) (fM (eQ fH (aF 0 (aF 1 av)))))) (cB (cF .non)) fE)
 (cB (az k8 (aF 0 (aF 1 (aF 2 av))))))
def f_:dE:=fq 3 jY
def lL:cO:=
 (aD (aV 0 (bp bW (rS (au 0) jk (jj (bQ 3))) (aY (ar (rS (eR 0 3) jk (jj (bQ 1))) av))))
 (aD (aV 1 (bE (bA (ar (az jZ (aF 0 av)) av))))
 (aD (jy (j9 (bQ 400)) (bD 2) (aD (aV 3 (az f_ (aF 0 (ar (cH (au 1) (rA (bQ 1))) (dA 0 av)))))
 (aD (eY (EJ (aJ (bp (pT false) (au 3) (cF .non))) (aJ (MB false (eR 3 0) (aS (au 1))))) (cB (aY (aF 0 (ar (tupQ (dC (aS (au 1)))) av)))) fE)
 (tH (Bu k_ (au 1) (je 3 0 av))))))
 (cB (aY (aF 0 (ar (cF .non) av)))))))
def iU:dE:=fq 4 lL
def kP:cO:=
 (aD (aV 2 (bE (bA av)))
 (aD (jy (ki (fM (eQ fH (aF 0 (aF 1 av))))) (bD 3) (aD (lK (az k8 (aF 0 (aF 1 (aF 3 av)))) (g9 (nG 2 (aH (bD 4) (aH (bD 5) cW)))))
 (tH (Bu k_ (au 2) (ar (aY (aF 3 (aF 4 (aF 5 av)))) av)))))
 (cB (au 2))))
def i4:dE:=fq 6 kP
def nz:cO:=
 (aD (wH 3 4 (ar (az jZ (aF 1 av)) (ar (bE (bA av)) av)))
 (aD (jy (j9 (au 2)) (bD 5) (aD (aV 6 (bE (eQ i4 (aF 1 (aF 3 av)))))
 (eY (aJ (fX (aS (au 6)))) (aD (lK (cH (au 6) (az aB (aF 0 (ar (ee (aS (au 6))) av)))) (g9 (nG 3 (aH (bD 7) (aH (bD 3) (aH (bD 8) cW))))))
 (tH (Bu k_ (au 4) (aF 7 av)))) fE)))
 (cB (aY (ar (tupQ (dC (aS (au 4)))) (aF 3 av))))))
def kA:dE:=fq 9 nz
def gc(a:dE):cO:=
 (aD (eY (mJ (zL "list" "tuple" (au 1))) (aD (eY (EJ (aJ (bp (gk true) (oH "list" (au 0)) (oH "list" (au 1)))) (aJ (bp (gk true) (oH "tuple" (au 0)) (oH "tuple" (au 1))))) (cB (cF (.bl false))) fE)
 (cB (vQ (bp (gk false) (ee (aS (au 0))) (ee (aS (au 1)))) (Hu (fM (bK [none,none] (GA (aS (au 0)) (aS (au 1))) (g9 (nG 2 (aH (bD 0) (aH (bD 1) cW)))) bT (az a (aF 0 (aF 1 av))))))))) fE)
 (aD (eY (aJ (bp (pT false) (au 1) (cF .non))) (cB (bp (pT false) (au 0) (cF .non))) fE)
 (aD (eY (mJ (oH "str" (au 1))) (cB (vQ (oH "str" (au 0)) (bp (gk false) (au 0) (au 1)))) fE)
 (cB (vQ (oH "int" (au 0)) (vQ (Je (oH "bool" (au 0))) (bp (gk false) (au 0) (au 1))))))))
def fg:Nat->dE
 |0=>λ_ _=>none
 |n+1=>fq 2 (gc<|fg n)
def wY:cO:=
 (aD (aV 2 (az jZ (aF 0 av)))
 (aD (aV 3 (bE (bA av)))
 (aD (jy (yn (aS (au 1))) (g9 (nG 2 (aH (bD 4) (aH (bD 5) cW)))) (aD (eY (aJ (GZ true (au 5) (fM (eQ fH (aF 0 (aF 2 av)))))) never fE)
 (aD (lK (az jR (aF 0 (aF 2 (aF 5 av)))) (g9 (nG 2 (aH (bD 2) (aH (bD 6) cW)))))
 (eY (aJ (bp (pT true) (au 6) (cF .non))) (tH (Bu k_ (au 3) (aF 6 av))) fE))))
 (cB (aY (aF 2 (ar (tupQ (dC (aS (au 3)))) av)))))))
def sf:dE:=fq 7 wY
def JZ:cO:=
 (aD (jy (j9 (bp bW (bQ 1) (Cp minD (dA 3 (ar (ee (aS (au 0))) av))))) (bD 1) (aD (aV 2 (bE (eQ mw (aF 0 (aF 1 av)))))
 (aD (aV 3 (az iV (aF 2 (ar (bp bW (bQ 1) (az aB (aF 2 (dA 4 av)))) av))))
 (aD (aV 4 (az zy (aF 3 (dA 200 av))))
 (aD (aV 5 Oz)
 (aD (eY (aJ (bp (Ik false) (eR 4 0) (cF (.str "all")))) (aD (jy (yn (aS (eR 4 1))) (g9 (nG 2 (aH (bD 6) (aH (bD 7) cW)))) (Om (au 5) (au 7) (au 6)))
 (eY (EJ (aJ (bp (Ik true) (Ir (au 5)) (ee (aS (eR 4 1))))) (aJ (bp (Ik true) (cH (eR 4 1) (bQ 0)) (az jZ (aF 3 av))))) (cB (cF (.bl false))) fE)) fE)
 (aD (jy (j9 (bQ 8)) (bD 8) (aD (lK (az kA (aF 2 (aF 3 (dA 40 av)))) (g9 (nG 2 (aH (bD 9) (aH (bD 7) cW)))))
 (aD (wH 10 11 (ar (az jZ (aF 3 av)) (ar (bE (bA av)) av)))
 (aD (jy (ki (aS (au 9))) (bD 12) (aD (lK (az f_ (aF 3 (aF 10 (aF 12 av)))) (g9 (nG 2 (aH (bD 13) (aH (bD 14) cW)))))
 (aD (eY (j3 (aJ (EA (au 5) Oz)) (EJ (aJ (Dg (au 13) (au 5))) (aJ (Dg (au 10) (au 5))))) (cB (cF (.bl false))) fE)
 (aD (aV 10 (au 13))
 (aV 11 (bE (uT (aS (au 11)) (fM (yt (fM (bA (aF 14 av))) (Cp intOfD (ar (bp (pT true) (au 14) (cF .non)) av)))))))))))
 (eY (A4 (mJ (az (fg 10) (ar (az sf (aF 3 (aF 9 av))) (ar (aY (aF 7 (ar (tupQ (dC (aS (au 11)))) av))) av))))) (cB (cF (.bl false))) fE)))))
 (aD (lK (az iU (aF 3 av)) (g9 (nG 2 (aH (bD 15) (aH (bD 16) cW)))))
 (eY (j3 (aJ (bp (pT true) (au 16) (cF .non))) (A4 (mJ (az (fg 10) (ar (az zy (aF 15 (ar (ee (aS (au 16))) av))) (ar (aY (kO "all" (aF 16 av))) av)))))) (cB (cF (.bl false))) fE)))))))))
 (cB (cF (.bl true))))
def Hv:dE:=fq 17 JZ
noncomputable def top(i:Nat):Stmt:=PySem.Challenge.pw_calledroom_k37_whole_weavings_lead_into.main.body.getD i (.Pass #[0,0,0,0])
noncomputable abbrev nj:Stmt:=top 60
noncomputable abbrev lC:Stmt:=top 61
noncomputable abbrev ke:Stmt:=top 62
noncomputable abbrev iu:Stmt:=top 63
noncomputable abbrev gQ:Stmt:=top 65
noncomputable abbrev gP:Stmt:=top 64
noncomputable abbrev kr:Stmt:=top 66
noncomputable abbrev ni:Stmt:=top 18
noncomputable abbrev gN:Stmt:=top 51
noncomputable abbrev j7:Stmt:=top 10
noncomputable abbrev kf:Stmt:=top 11
noncomputable abbrev gR:Stmt:=top 52
noncomputable abbrev m3:Stmt:=top 50
noncomputable abbrev m8:Stmt:=top 23
noncomputable abbrev nU:Stmt:=top 25
noncomputable abbrev lO:Stmt:=top 12
noncomputable abbrev lX:Stmt:=top 15
noncomputable abbrev k9:Stmt:=top 13
noncomputable abbrev lQ:Stmt:=top 27
noncomputable abbrev il:Stmt:=top 3
noncomputable abbrev nJ:Stmt:=top 2
noncomputable abbrev nV:Stmt:=top 26
noncomputable abbrev sU:Stmt:=top 31
noncomputable abbrev fJ:Stmt:=top 16
noncomputable abbrev tm:Stmt:=top 17
noncomputable abbrev lG:Stmt:=top 32
noncomputable abbrev wL:Stmt:=top 33
noncomputable abbrev qo:Stmt:=top 28
noncomputable abbrev xi:Stmt:=top 34
noncomputable abbrev qm:Stmt:=top 35
noncomputable abbrev lA:Stmt:=top 36
noncomputable abbrev xw:Stmt:=top 29
noncomputable abbrev pV:Stmt:=top 37
noncomputable abbrev qD:Stmt:=top 38
noncomputable abbrev su:Stmt:=top 39
noncomputable abbrev pK:Stmt:=top 40
noncomputable abbrev k0:Stmt:=top 14
noncomputable abbrev xB:Stmt:=top 42
noncomputable abbrev p9:Stmt:=top 41
noncomputable abbrev j8:Stmt:=top 44
noncomputable abbrev qw:Stmt:=top 43
noncomputable abbrev qx:Stmt:=top 45
noncomputable abbrev tJ:Stmt:=top 46
noncomputable abbrev m5:Stmt:=top 48
noncomputable abbrev nK:Stmt:=top 30
noncomputable abbrev qy:Stmt:=top 55
noncomputable abbrev qz:Stmt:=top 58
noncomputable abbrev lN:Stmt:=top 7
noncomputable abbrev ka:Stmt:=top 9
noncomputable abbrev wV:Stmt:=top 8
noncomputable abbrev Bg:Stmt:=top 57
noncomputable abbrev qu:Stmt:=top 53
noncomputable abbrev kR:Stmt:=top 69
noncomputable abbrev km:Stmt:=top 71
noncomputable abbrev ko:Stmt:=top 68
noncomputable abbrev lZ:Stmt:=top 70
noncomputable abbrev lj:Stmt:=top 67
noncomputable abbrev tj:Stmt:=top 54
noncomputable abbrev oy:Stmt:=top 72
end W28
namespace W28
open L2 DL PyProof.Rows
noncomputable abbrev Bz:List Str:= ["_law_found","_law_due"]
noncomputable abbrev z3:List Str:= ["_law_left","_law_many"]
noncomputable abbrev CM:List Str:= ["_law_left","_law_most"]
noncomputable abbrev vw:List Str:= ["_law_left","_law_names","_law_bells","_law_deep"]
noncomputable abbrev Cz:List Str:= ["_law_left","_law_own","_law_passes","_law_span","_law_deeds"]
noncomputable abbrev Cf:List Str:= ["_law_left","_law_room","_law_span","_law_inner"]
noncomputable abbrev B1:List Str:= ["_law_left","_law_world_here","_law_most"]
noncomputable abbrev CB:List Str:= ["_law_script","_law_k"]
noncomputable abbrev FN:List Str:= ["_law_script"]
noncomputable abbrev zh:List Str:= ["_law_world_here","_law_scene","_law_hand"]
noncomputable abbrev Ct:List Str:= ["_law_world_here","_law_scene"]
noncomputable abbrev BM:List Str:= ["_law_world_here"]
noncomputable abbrev Jx:List Str:= ["_law_x","_law_left"]
noncomputable abbrev y7:List Str:= ["form","first","second"]
noncomputable abbrev zk:List Str:= ["line"]
noncomputable abbrev Ab:List Str:= ["parts","at","part"]
noncomputable abbrev yI:List Str:= ["roll","name"]
noncomputable abbrev y0:List Str:= ["roll"]
noncomputable abbrev yi:List Str:= ["room"]
noncomputable abbrev zY:List Str:= ["scene","at","room"]
noncomputable abbrev zU:List Str:= ["scene","at","turnstile"]
noncomputable abbrev BO:List Str:= ["scene","hand","frame"]
noncomputable abbrev CU:List Str:= ["scene","hand","row"]
noncomputable abbrev yU:List Str:= ["scene","hand","values","frames"]
noncomputable abbrev zN:List Str:= ["scene","hand"]
noncomputable abbrev CH:List Str:= ["scene","room","bell","line"]
noncomputable abbrev Cy:List Str:= ["scene","room","hand"]
noncomputable abbrev BV:List Str:= ["scene","room"]
noncomputable abbrev B5:List Str:= ["scene"]
noncomputable abbrev yD:List Str:= ["things"]
noncomputable abbrev vB:List Str:= ["tree","things","waiting"]
noncomputable abbrev Cs:List Str:= ["world","hand","frame"]
noncomputable abbrev B7:List Str:= ["world","most"]
noncomputable abbrev BN:List Str:= ["world","scene","hand","name"]
noncomputable abbrev bG:List Str:= ["world","scene","hand","row"]
noncomputable abbrev Ck:List Str:= ["world","scene","hand","tree"]
noncomputable abbrev BX:List Str:= ["world","scene","hand","word","value"]
noncomputable abbrev BK:List Str:= ["world","scene","hand","word"]
noncomputable abbrev gB:List Str:= ["world","scene","hand"]
noncomputable abbrev CD:List Str:= ["world","scene","name"]
noncomputable abbrev BL:List Str:= ["world","scene"]
noncomputable abbrev xD:List Str:= ["world","start","most"]
noncomputable abbrev xA:List Str:= ["world","weaving"]
noncomputable abbrev xb:List Str:= ["world"]
section
variable(P:X9)(w:Xc)(K:X1)(b:X3)(a:Xe)
abbrev AY:Prop:=fG P w K b a 1 "_law_pot" CB mw
abbrev eL:Prop:=fG P w K b a 1 "_law_pick" z3 aB
abbrev xg:Prop:=fG P w K b a 2 "_law_words" z3 gE
abbrev kU:Prop:=fG P w K b a 5 "_law_any_sum" vw (a_ 3)
abbrev rG:Prop:=fG P w K b a 6 "_law_hand_row" Cz eK
abbrev rB:Prop:=fG P w K b a 6 "_law_deed_row" Cf eN
abbrev xH:Prop:=fG P w K b a 7 "_law_world" CM iV
abbrev AS:Prop:=fG P w K b a 1 "hands_at" zk mC
abbrev rH:Prop:=fG P w K b a 2 "hands_in_rows" B5 eP
abbrev dN:Prop:=fG P w K b a 1 "last_frame" zN cT
abbrev j6:Prop:=fG P w K b a 1 "program_of" Cs fF
abbrev rL:Prop:=fG P w K b a 2 "is_behind_all" gB fN
abbrev iq:Prop:=fG P w K b a 3 "may_step" BL fH
abbrev nB:Prop:=fG P w K b a 1 "names_of" y0 dZ
abbrev ir:Prop:=fG P w K b a 2 "place_of" yI dh
abbrev gF:Prop:=fG P w K b a 1 "with_part" Ab dv
abbrev iZ:Prop:=fG P w K b a 2 "with_hand" yU fm
abbrev gC:Prop:=fG P w K b a 2 "with_room" zY c8
abbrev qV:Prop:=fG P w K b a 3 "put_thing" BX ft
abbrev tY:Prop:=fG P w K b a 1 "value_of_two" y7 gr
abbrev A9:Prop:=fG P w K b a 8 "value_of" vB (fV 6)
abbrev gq:Prop:=fG P w K b a 9 "reckoned" Ck dI
abbrev iK:Prop:=fG P w K b a 3 "with_last_frame" BO dF
abbrev sZ:Prop:=fG P w K b a 4 "at_row" CU j0
abbrev vH:Prop:=fG P w K b a 3 "come_in" Cy lU
abbrev p5:Prop:=fG P w K b a 3 "bell_of" BK jB
abbrev lu:Prop:=fG P w K b a 3 "with_line" CH fh
abbrev Ci:Prop:=fG P w K b a 3 "leave" BV p8
abbrev rf:Prop:=fG P w K b a 2 "with_pass" zU fA
abbrev BH:Prop:=fG P w K b a 3 "taken" BN sx
abbrev oT:Prop:=fG P w K b a 3 "given_back" CD gD
abbrev Bv:Prop:=fG P w K b a 11 "row_done" bG jL
abbrev Bx:Prop:=fG P w K b a 4 "end_deed" gB jO
abbrev qd:Prop:=fG P w K b a 12 "step_of" gB jR
abbrev Dt:Prop:=fG P w K b a 13 "come_to" xD pz
abbrev qK:Prop:=fG P w K b a 1 "values_of" yD gg
abbrev xo:Prop:=fG P w K b a 2 "begun_room" yi iO
abbrev pA:Prop:=fG P w K b a 3 "begun" xb jZ
abbrev K9:Prop:=fG P w K b a 14 "book" B7 zy
abbrev vC:Prop:=fG P w K b a 13 "stepped" gB k8
abbrev rg:Prop:=fG P w K b a 14 "_law_step" zh f_
abbrev wX:Prop:=fG P w K b a 15 "_law_alone" BM iU
abbrev x9:Prop:=fG P w K b a 14 "_law_steps" Ct i4
abbrev yQ:Prop:=fG P w K b a 15 "_law_walk" B1 kA
abbrev zZ:Prop:=fG P w K b a 11 "_law_same" Bz (fg 10)
abbrev Fh:Prop:=fG P w K b a 13 "walked" xA sf
end
def Pb(g:Gl X "len")(c:X.mg "len"=none)(d:PE X a (tQ (md X) f))(e:starEach [a] X.env= [(false,eval a X.env)]):PE X (.Call (.Name "len" p) [a] [] b) (tD (md X)<|ee f):=CJ g c d e
def cJ(S:aP X N js a c)(n:X.calm=true)(hi:PI X h b (tI (md X) i))(l:∀C s H fp,PG (aK X N a c C s H fp) h<|tG (md<|aK X N a c C s H fp) g)(k:∀C s H fp,m6 (aK X N a c C s H fp) e<|tB (md<|aK X N a c C s H fp) t)(he:∀C s H fp,PE (aK X N a c C s H fp) d<|tD (md<|aK X N a c C s H fp) f)(m:autoParam (∀x,foldedSetIterable b X.env x=pure x) dl._auto_1):PE X (.ListComp d [⟨h,b,e,0⟩] a j) (tL (md X)<|bK js i g t f):=Ld S n hi l k he m
def sh{d:Pos}(S:aP X N js a h)(v:X.calm=true)(hi:PI X l b (tI (md X) i))(q:∀C s H fp,PG (aK X N a h C s H fp) l<|tG (md<|aK X N a h C s H fp) g)(p:∀C s H fp,m6 (aK X N a h C s H fp) j<|tB (md<|aK X N a h C s H fp) t)(he:∀C s H fp,PE (aK X N a h C s H fp) e<|tD (md<|aK X N a h C s H fp) f)(m:PG X c (oD n))(u:autoParam (∀x,foldedSetIterable b X.env x=pure x) dl._auto_1)(o:autoParam (swapsWithSole [c] (.ListComp e [⟨l,b,j,0⟩] a k) d.line X.env=pure true) db._auto_1)(r:autoParam ((assignEach [c] X.env).map (·.2)= [assign c X.env]) db._auto_1):PS X (.Assign [c] (.ListComp e [#[l,b,j,0]] a k) d) (tS (md X)<|aV n<|bE<|bK js i g t f):=Lz S v hi q p he m u o r
def GY{e:Pos}(S:aP X N js a d)(A:X.calm=true)(hi:PI X j b (tI (md X) i))(u:∀C s H fp,PG (aK X N a d C s H fp) j<|tG (md<|aK X N a d C s H fp) g)(r:∀C s H fp,m6 (aK X N a d C s H fp) f<|tB (md<|aK X N a d C s H fp) t)(v:∀C s H fp,PE (aK X N a d C s H fp) k<|tD (md<|aK X N a d C s H fp) p)(z:∀C s H fp,PE (aK X N a d C s H fp) l<|tD (md<|aK X N a d C s H fp) q)(m:PG X c (oD n))(y:autoParam (∀x,foldedSetIterable b X.env x=pure x) dl._auto_1)(o:autoParam (swapsWithSole [c] (.DictComp k l [⟨j,b,f,0⟩] a h) e.line X.env=pure true) db._auto_1)(w:autoParam ((assignEach [c] X.env).map (·.2)= [assign c X.env]) db._auto_1):PS X (.Assign [c] (.DictComp k l [#[j,b,f,0]] a h) e) (tS (md X)<|MT n<|qp js i g t p q):=Ig S A hi u r v z m y o w
local macro_rules(kind:=Lean.Parser.Tactic.specialize)|s=>Z5 s 13
abbrev ad:=Z2 "¼EªtDV"
abbrev am:=Z2 "½{' $L9£«Ç¤ÇÍ«9 A1,num¤9 A1,numÍA3¹S"
abbrev ap:=Z2 "¼Aªx_V"
abbrev aT:=Z2 "'fail A0!³fail S"
abbrev ba:=Z2 "¼GªtGV"
abbrev bd:=Z2 "X© $EMªN5V"
abbrev bi:=Z2 "¼SªtSV"
abbrev bm:=Z2 "½{ $D6ÉYÉ'? $hsz^Y A7Ë`( 'case $hsz*}°Ã3&G ¿Kh+ÊZ² ´YÉA4Ë G A2¹S"
abbrev bn:=Z2 "X© $qYªtSV"
abbrev bt:=Z2 "'¦¿iEÉA2Ë G ¿vK Y ¾{ G A2¹S"
abbrev bw:=Z2 "¼I H HÁ3U'<| $tIV"
abbrev bH:=Z2 "¼EªtQV"
abbrev bM:=Z2 "¼EªtLV"
abbrev bY:=Z2 "½{' $MW£A1¹S"
abbrev ca:=Z2 "¼TªtBV"
abbrev cs:=Z2 "'¦¿Ml¥¿Oc¥¿Mr¥A3¹S"
abbrev cL:=Z2 "½© H '=Ì=_ ·}°³}±© H '\\/Ì∨_ ·¦µlÄµr¡A4¹±© $GlÐ}°³}±© $L2.LocÐ¦µlÄµrÄA2¹±© $G0Ð¦µl¡A3¹±©+H ': $Nat A1!') E5,typeAscription '<=Ì≤_ ·Â±¸HÁ2!³intro`¯A3&G XZÏe G A8¹S"
abbrev cN:=Z2 "'¦'}°³}G µlÄ'( X¦¿PW.pt+$w_andÑ¿PW.pt+$w_orÑA2¹Ï@G ¿Nu¥¿NH¥'ZG µr¡'ÎG 'ÂG '( '¸HÁ2º( '¸H A1º( '¸H HÁ3º}'#[ÈÈÈ °A13!'] A3,term#[_,] ³}G '}'λ HÁ2Å'. $int E2,dotIdentÁ1U® ³}G A16¹S"
local macro_rules(kind:=Lean.Parser.Tactic.specialize)|s=>match s[1].isNatLit? with|none=>Z4|some k=>do
 let y:=Y3
 let F(l:List String):="'first"++String.join (l.map (·++" G"))++" A"++toString l.length++",null T2,first"
 let g(l:String):=(l.splitOn "|").map λz=>
  let u:=z.splitOn " "
  let m:=u.getLast!.toNat!
  let j:=u.length-2+m
  " 'refine"++String.join (u.dropLast.map (" $"++·))++String.join (List.replicate m " Y")++(if j=0 then "" else " A"++toString j++",null E2,app")++" T2,refine"
 let C (_:Unit):=("MU D8 L6 Bl.int 0|PK jM LX Bl.min 1|Pf jM MS Bl.abs 0|PY jM L4 Bl.max 1|str 2|int 2|list 2|tuple 2|bool 2".splitOn "|").map λz=>
  let w:=z.splitOn " "
  let b(n:Nat):=" $"++w[n]!++y++" A1,null E2,app"
  let s:=w.head!
  if w.length=2 then " 'refine $HN '( $v ':= '. $ty E2,dotIdent '\""++s++"\" A1,str A1,null E2,app ') E5,namedArgument $rfl"++" $Bl."++s++y++" A1,null E2,app $PyProof.Rows.boot_"++s++" $rfl A5,null E2,app T2,refine" else
  Y4++s++Y5++w[1]!++" $"++w[2]!++(if w[4]! =="1" then " $rfl A1,null E2,app" else "")++" $rfl"++b 3++Y6
 let z:=([(0,0),(0,39),(39,2),(41,4),(45,2),(47,8),(55,3),(58,5),(63,3),(66,5),(71,13),(0,91)]:List (Nat×Nat)).getD k (0,0)
 let a:=F (((g "v_ 5|vF 0|Kv 3|Jm 1|Qn 0|ND 1|Qs 2|Pb 4|Oq 3|Nk 0|Oy 5|Qx 2|Qe 2|QH 2|Qr Qv Qy 3|FY 6|JJ 1|Q9 0|Qk 2|Mh 3|NP 6|Qh 7|LZ 10|PL 2|L7 6|Ph 4|Qc 0|Qr QC Qq 3|QV 2|Ov 6|Nf 6|Pa 0|P0 11|QP 5|Qr OP PZ 3|QR 1|OW 4|Qr Ou OL 3|Qu 1|dg 3|kK 0|Q_ 5|Kd 5|MX 4|QN 3|CK 3|KH 0|Jt 1|OO 3|Me 5|NO 6|Bs 2|Px 1|On 0|OZ 5|iE 2|Nn 0|vK 1|N7 1|OT 4|Qg 6|P1 4|Qa 6|ON 1|Ri 1|QB 1|Ju 1|OE 3|Qj 2|QO 2|MO 4|zQ Qv Qy 3|zQ N2 ME 3|OB 2|zQ QS QX 3|OA 3|Qf 1|zQ OP PZ 3|zQ Qz QI 3|QU 3|zQ Ou OL 3|Rb 3|zQ Jn Jo 3|Qo 2|PV 1|Pw 0|Qi 0|Rh 5|Qt 1|KD 1|QA 1").drop z.1).take z.2)
 let t(x:String):="'( "++x++" ') T3,paren"
 pure<|v4<|if k=0 then t cL else
 if k<11 then t<|t [ad,ap,ba,bd,bi,bn,bw,bH,bM,ca][k-1]!++" '; 'first "++t ("'with_reducible "++a++" S T2,withReducible S")++" G "++t [am,aT,aT,aT,bm,bt,aT,aT,bY,cs][k-1]!++" G "++t (F (if k=1 then C () else [" 'fail A0,null T2,fail"])++" S")++" G A3,null T2,first A3,null T1,tacticSeq1Indented T1,tacticSeq" else
 if k=11 then "'with_reducible "++a++" S T2,withReducible" else
 if k=12 then t cN else F (C ()++g "og 1|PassesOwn.never 0|JI 0|Oo 0|Bl.abs 1|Bl.all 1|Bl.bool 1|Bl.dict 1|Bl.enum 1|Bl.int 1|Bl.isi 1|Bl.len 1|Bl.list 1|Bl.max 1|Bl.min 1|Bl.range 1|Bl.sorted 1|Bl.str 1|Bl.tuple 1|Bl.zip 1|iE 2|vK 1")
local macro_rules|`(tactic|ac_rfl)=>`(tactic|repeat specialize 0)
local macro_rules(kind:=Lean.Parser.Tactic.«tacticExists_,,»)|s=>do
 let f:=Y7
 if s[1].getNumArgs=3 then pure<|v4 (Y8++f++f++f++Y9) [s[1][0],s[1][2]] else Z4
local macro_rules(kind:=Lean.Parser.Tactic.injections)|s=>if s[1].getNumArgs=2 then pure<|v4 W0 [s[1][0],s[1][1]] else Z4
section
variable{P:X9}{w:Xc}{K:X1}{c:X3}{a:Xe}{f:X8}{d:FuncData}
def qQ:aI ["_law_script","_law_k","_law_cell"] CB (aC nj):=fL
def zR(F:eW K "_law_pot" "_law_pot" nj f d)(B:Bl c):bB P w K c a dX 1 f d CB (eU #[K,c] 2 mw):=by
 injections qQ p6
def oS:aI ["_law_left","_law_many","_law_digit"] z3 (aC lC):=fL
def vS(F:eW K "_law_pick" "_law_pick" lC f d)(B:Bl c):bB P w K c a dX 1 f d z3 (eU #[K,c] 2 aB):=by
 injections oS nW
def mM:aI ["_law_left","_law_many","_law_letters","_law_first","_law_turn","_law_some"] z3 (aC ke):=fL
def uJ(F:eW K "_law_words" "_law_words" ke f d)(B:Bl c)(i:eL P w K c a):bB P w K c a dX 2 f d z3 (eU #[K,c] 2 gE):=by
 injections mM lW
 show sh (n:=5) (N:= ["_law_k","_law_letters","_law_first","_law_turn"]) (js:= [none,some 2,some 3,some 4]) (aP.gen L L L L L L) L ?_ (λ_ _ _ _=>?_) (λ_ _ _ _=>?_) (λ_ _ _ _=>?_) ?_
 ac_rfl
def kD:aI ["_law_left","_law_names","_law_bells","_law_deep","_law_way","_law_one","_law_word"] vw (aC iu):=fL
theorem kC(F:eW K "_law_any_sum" "_law_any_sum" iu f d)(B:Bl c)(j:eL P w K c a)(b:Binds K d vw [])(g:PySem.W.keepIn K (.ref f)=true)(m:c "_law_any_sum"=some (.ref f)):∀n,bB P w K c a dX (2+n) f d vw (eU #[K,c] 4<|a_ n)
 |0=>wz
 | n+1=>by
   have o:fG P w K c a (2+n) "_law_any_sum" vw (a_ n):=#[f,d,kC F B j b g m n,b,g,m]
   let l:=kD.nd
   show bz (k:=2+n) F kD λh A e s H E i=>?_
   let p:=i.units0
   delta jf
   ac_rfl
def jE:aI ["_law_left","_law_own","_law_passes","_law_span","_law_deeds","_law_way","_law_room","_law_deed","_law_x","_law_p","_law_q","_law_later"] Cz (aC gQ):=fL
def pQ(F:eW K "_law_hand_row" "_law_hand_row" gQ f d)(B:Bl c)(m:eL P w K c a)(k:kU P w K c a):bB P w K c a dX 6 f d Cz (eU #[K,c] 5 eK):=by
 let h:=jE.nd
 show bz F jE λe A b s H E g=>?_
 let l:=g.units0
 delta ie
 ac_rfl
 show CL<|wM (i:=9) (j:=10) L (by assumption) L L (!1) L L ?_ L
 ac_rfl
def jo:aI ["_law_left","_law_room","_law_span","_law_inner","_law_things","_law_bells","_law_manner","_law_names","_law_way","_law_word","_law_other","_law_deed","_law_x","_law_later"] Cf (aC gP):=fL
def qe(F:eW K "_law_deed_row" "_law_deed_row" gP f d)(B:Bl c)(k:eL P w K c a)(i:kU P w K c a):bB P w K c a dX 6 f d Cf (eU #[K,c] 4 eN):=by
 let h:=jo.nd
 show bz F jo λe A b s H E g=>?_
 let j:=g.units0
 delta ib
 ac_rfl
def mX:aI ["_law_left","_law_most","_law_words_here","_law_many","_law_sizes","_law_inner","_law_k","_law_rooms","_law_every","_law_things","_law_bells","_law_manner","_law_deeds","_law_at","_law_size","_law_here","_law_rows","_law_first","_law_sorts","_law_passes","_law_opened","_law_hands","_law_own","_law_names"] CM (aC kr):=fL
def uV(F:eW K "_law_world" "_law_world" kr f d)(B:Bl c)(j:xg P w K c a)(l:eL P w K c a)(h:rB P w K c a)(i:rG P w K c a):bB P w K c a dX 7 f d CM (eU #[K,c] 2 iV):=by
 injections mX l8
 show sh (n:=4) (N:= ["_law_k","_law_left"]) (js:= [none,some 0]) (aP.gen L L L L L L) L ?_ (λ_ _ _ _=>?_) (λ_ _ _ _=>?_) (λ_ _ _ _=>?_) ?_
 ac_rfl
 exists ["_law_at","_law_words_here","_law_k"],[none,some 2,some 6]
 show sh (n:=16) (N:= ["_law_row","_law_left","_law_things","_law_bells","_law_manner","_law_size","_law_here"]) (js:= [none,some 0,some 9,some 10,some 11,some 14,some 15]) (aP.gen L L L L L L) L ?_ (λ_ _ _ _=>?_) (λ_ _ _ _=>?_) (λ_ _ _ _=>?_) ?_
 ac_rfl
 exists ["_law_deed","_law_words_here","_law_k"],[none,some 2,some 6]
 exists Jx,[none,some 0]
 exists ["_law_bell","_law_left"],[none,some 0]
 exists ["_law_p","_law_left"],[none,some 0]
 exists Jx,[none,some 0]
 exists ["_law_x","_law_value"],[none,none]
 show sh (n:=16) (N:= ["_law_row","_law_left","_law_every","_law_size","_law_passes","_law_names"]) (js:= [none,some 0,some 8,some 14,some 19,some 23]) (aP.gen L L L L L L) L ?_ (λ_ _ _ _=>?_) (λ_ _ _ _=>?_) (λ_ _ _ _=>?_) ?_
 ac_rfl
 exists ["_law_p","_law_value"],[none,none]
 exists ["_law_x"],[none]
end
section
variable{P:X9}{w:Xc}{K:X1}{c:X3}{a:Xe}{f:X8}{d:FuncData}
def zr:aI zk zk (aC ni):=fL
def Aa(F:eW K "hands_at" "hands_at" ni f d)(B:Bl c):bB P w K c a dX 1 f d zk (eU #[K,c] 1 mC):=by
 injections zr qt
 exists ["turn","hand"],[none,none]
def jv:aI ["scene","hands","value","row","values","within","late","bells","line"] B5 (aC gN):=fL
def pM(F:eW K "hands_in_rows" "hands_in_rows" gN f d)(B:Bl c)(h:AS P w K c a):bB P w K c a dX 2 f d B5 (eU #[K,c] 1 eP):=by
 injections jv ij
def uL:aI zN zN (aC j7):=fL
def uM(F:eW K "last_frame" "last_frame" j7 f d)(B:Bl c):bB P w K c a dX 1 f d zN (eU #[K,c] 2 cT):=by
 injections uL lI
def mV:aI ["world","hand","frame","room","deed"] Cs (aC kf):=fL
def uZ(F:eW K "program_of" "program_of" kf f d)(B:Bl c){g:Tok}(h:c "OWN"=some (.int (-1) g)):bB P w K c a dX 1 f d Cs (eU #[K,c] 3 fF):=by
 injections mV lJ
 show CL<|wM (i:=3) (j:=4) L (by assumption) L L (!1) L L ?_ L
 ac_rfl
def jw:aI ["world","scene","hand","frame"] gB (aC gR):=fL
def pW(F:eW K "is_behind_all" "is_behind_all" gR f d)(B:Bl c)(i:dN P w K c a)(l:j6 P w K c a){g:Tok}(h:c "OWN"=some (.int (-1) g)):bB P w K c a dX 2 f d gB (eU #[K,c] 3 fN):=by
 injections jw ik
def qW:aI ["world","scene","held_up"] BL (aC m3):=fL
def zE(F:eW K "may_step" "may_step" m3 f d)(B:Bl c)(j:rH P w K c a)(i:rL P w K c a):bB P w K c a dX 3 f d BL (eU #[K,c] 2 fH):=by
 injections qW pZ
 exists ["hand","world","scene","held_up"],[none,some 0,some 1,some 2]
def yk:aI y0 y0 (aC m8):=fL
def yg(F:eW K "names_of" "names_of" m8 f d)(B:Bl c):bB P w K c a dX 1 f d y0 (eU #[K,c] 1 dZ):=by
 injections yk p0
 exists ["row"],[none]
def zm:aI yI yI (aC nU):=fL
def zS(F:eW K "place_of" "place_of" nU f d)(B:Bl c)(g:nB P w K c a):bB P w K c a dX 2 f d yI (eU #[K,c] 2 dh):=by
 injections zm pY
def wC:aI Ab Ab (aC lO):=fL
def wD(F:eW K "with_part" "with_part" lO f d)(B:Bl c):bB P w K c a dX 1 f d Ab (eU #[K,c] 3 dv):=by
 injections wC nP
def xI:aI yU yU (aC lX):=fL
def xt(F:eW K "with_hand" "with_hand" lX f d)(B:Bl c)(g:gF P w K c a):bB P w K c a dX 2 f d yU (eU #[K,c] 4 fm):=by
 injections xI nN
def xf:aI zY zY (aC k9):=fL
def xO(F:eW K "with_room" "with_room" k9 f d)(B:Bl c)(g:gF P w K c a):bB P w K c a dX 2 f d zY (eU #[K,c] 3 c8):=by
 injections xf ny
def oQ:aI ["world","scene","hand","word","value","room","place","values","shared","frames"] BX (aC lQ):=fL
def xJ(F:eW K "put_thing" "put_thing" lQ f d)(B:Bl c)(i:dN P w K c a)(j:ir P w K c a)(l:gF P w K c a)(o:gC P w K c a)(m:nB P w K c a)(p:iZ P w K c a)(h:c "OWN"=some (.int (-1) g)):bB P w K c a dX 3 f d BX (eU #[K,c] 5 ft):=by
 injections oQ ku
def rE:aI y7 y7 (aC il):=fL
def rN(F:eW K "value_of_two" "value_of_two" il f d)(B:Bl c)(i:c "HIGHEST"=some (.int (9) g)):bB P w K c a dX 1 f d y7 (eU #[K,c] 3 gr):=by
 injections rE jd
def qI:aI ["tree","things","waiting","first"] vB (aC nJ):=fL
theorem qU(F:eW K "value_of" "value_of" nJ f d)(B:Bl c)(i:tY P w K c a)(b:Binds K d vB [])(g:PySem.W.keepIn K (.ref f)=true)(m:c "value_of"=some (.ref f)):∀n,bB P w K c a dX (2+n) f d vB (eU #[K,c] 3<|fV n)
 |0=>wz
 | n+1=>by
   have p:fG P w K c a (2+n) "value_of" vB (fV n):=#[f,d,qU F B i b g m n,b,g,m]
   let o:=qI.nd
   show bz (k:=2+n) F qI λh A e s H E j=>?_
   let l:=Jy j
   delta pR
   ac_rfl
def qL:aI ["world","scene","hand","tree","frame","room","things","waiting"] Ck (aC nV):=fL
def yL(F:eW K "reckoned" "reckoned" nV f d)(B:Bl c)(k:dN P w K c a)(m:nB P w K c a)(o:A9 P w K c a)(j:c "OWN"=some (.int (-1) i)):bB P w K c a dX 9 f d Ck (eU #[K,c] 4 dI):=by
 let l:=qL.nd
 show bz F qL λe A b s H E g=>?_
 let h:=Jy g
 delta mf
 ac_rfl
 show GY (n:=7) (N:= ["bell","line"]) (js:= [none,none]) (aP.gen L L L L L L) L ?_ (λ_ _ _ _=>?_) (λ_ _ _ _=>?_) (λ_ _ _ _=>?_) (λ_ _ _ _=>?_) ?_
 ac_rfl
end
section
variable{P:X9}{w:Xc}{K:X1}{b:X3}{a:Xe}{f:X8}{c:FuncData}
def C_:aI bG bG (aC sU):=fL
def DC(F:eW K "by_put" "by_put" sU f c)(B:Bl b)(g:qV P w K b a)(i:gq P w K b a):bB P w K b a dX 10 f c bG (eU #[K,b] 4 r_):=by
 injections C_ xa
def ig:aI ["scene","hand","frame","values","frames"] BO (aC fJ):=fL
def nR(F:eW K "with_last_frame" "with_last_frame" fJ f c)(B:Bl b)(i:iZ P w K b a):bB P w K b a dX 3 f c BO (eU #[K,b] 3 dF):=by
 injections ig fZ
def u6:aI ["scene","hand","row","frame"] CU (aC tm):=fL
def DP(F:eW K "at_row" "at_row" tm f c)(B:Bl b)(g:dN P w K b a)(i:iK P w K b a):bB P w K b a dX 4 f c CU (eU #[K,b] 3 j0):=by
 injections u6 vO
def wu:aI bG bG (aC lG):=fL
def xY(F:eW K "by_unless" "by_unless" lG f c)(B:Bl b)(h:gq P w K b a)(i:sZ P w K b a):bB P w K b a dX 10 f c bG (eU #[K,b] 4 jX):=by
 injections wu mZ
def GG:aI bG bG (aC wL):=fL
def Gn(F:eW K "by_go" "by_go" wL f c)(B:Bl b)(h:sZ P w K b a):bB P w K b a dX 5 f c bG (eU #[K,b] 4 we):=by
 injections GG AF
def tE:aI ["scene","room","hand","values","within","row","late","bells"] Cy (aC qo):=fL
def Ai(F:eW K "come_in" "come_in" qo f c)(B:Bl b)(k:gC P w K b a)(j:b "NOBODY"=some (.int (-1) g)):bB P w K b a dX 3 f c Cy (eU #[K,b] 3 lU):=by
 injections tE sI
def zF:aI ["world","scene","hand","row","room","deed","frame","values","frames"] bG (aC xi):=fL
def EU(F:eW K "by_do" "by_do" xi f c)(B:Bl b)(g:ir P w K b a)(j:gq P w K b a)(k:vH P w K b a)(l:iZ P w K b a):bB P w K b a dX 10 f c bG (eU #[K,b] 4 xW):=by
 injections zF A1
def sN:aI ["world","scene","hand","word","room"] BK (aC qm):=fL
def Ar(F:eW K "bell_of" "bell_of" qm f c)(B:Bl b)(g:dN P w K b a)(i:ir P w K b a):bB P w K b a dX 3 f c BK (eU #[K,b] 4 jB):=by
 injections sN ud
def pj:aI ["scene","room","bell","line","state"] CH (aC lA):=fL
def wW(F:eW K "with_line" "with_line" lA f c)(B:Bl b)(j:gC P w K b a)(h:gF P w K b a):bB P w K b a dX 3 f c CH (eU #[K,b] 4 fh):=by
 injections pj nL
def yh:aI ["scene","room","values","within","row","late","bells"] BV (aC xw):=fL
def FR(F:eW K "leave" "leave" xw f c)(B:Bl b)(k:gC P w K b a)(j:b "NOBODY"=some (.int (-1) g)):bB P w K b a dX 3 f c BV (eU #[K,b] 2 p8):=by
 injections yh Af
def sA:aI ["world","scene","hand","row","room","bell","turn","line","ahead","waiting"] bG (aC pV):=fL
def Bp(F:eW K "by_wait" "by_wait" pV f c)(B:Bl b)(i:p5 P w K b a)(l:gq P w K b a)(j:lu P w K b a)(k:Ci P w K b a):bB P w K b a dX 10 f c bG (eU #[K,b] 4 ph):=by
 injections sA tT
 exists ["other","waiter","turn"],[none,none,some 6]
def uk:aI ["world","scene","hand","row","room","bell","line","called","values","within","queue","late","bells"] bG (aC qD):=fL
def AX(F:eW K "by_call" "by_call" qD f c)(B:Bl b)(i:p5 P w K b a)(j:lu P w K b a)(k:gC P w K b a):bB P w K b a dX 4 f c bG (eU #[K,b] 4 pF):=by
 injections uk sL
def vi:aI ["world","scene","hand","row","room","bell"] bG (aC su):=fL
def C4(F:eW K "by_all" "by_all" su f c)(B:Bl b)(i:p5 P w K b a)(j:lu P w K b a):bB P w K b a dX 4 f c bG (eU #[K,b] 4 rV):=by
 injections vi wB
def ui:aI ["world","scene","hand","row","told"] bG (aC pK):=fL
def AB(F:eW K "by_tell" "by_tell" pK f c)(B:Bl b)(k:gq P w K b a)(i:iK P w K b a)(g:dN P w K b a):bB P w K b a dX 10 f c bG (eU #[K,b] 4 oK):=by
 injections ui sG
end
section
variable{P:X9}{w:Xc}{K:X1}{b:X3}{a:Xe}{f:X8}{c:FuncData}
def vP:aI zU zU (aC k0):=fL
def wq(F:eW K "with_pass" "with_pass" k0 f c)(B:Bl b)(g:gF P w K b a):bB P w K b a dX 2 f c zU (eU #[K,b] 3 fA):=by
 injections vP m_
def yl:aI ["world","scene","hand","name","place","value","row"] BN (aC xB):=fL
def Fk(F:eW K "taken" "taken" xB f c)(B:Bl b)(h:ir P w K b a)(j:rf P w K b a):bB P w K b a dX 3 f c BN (eU #[K,b] 4 sx):=by
 injections yl AR
def AN:aI bG bG (aC p9):=fL
def Bd(F:eW K "by_take" "by_take" p9 f c)(B:Bl b)(h:BH P w K b a):bB P w K b a dX 4 f c bG (eU #[K,b] 4 o9):=by
 injections AN sC
def mP:aI ["world","scene","name","place","value","row"] CD (aC j8):=fL
def u3(F:eW K "given_back" "given_back" j8 f c)(B:Bl b)(h:ir P w K b a)(k:rf P w K b a)(l:b "HIGHEST"=some (.int (9) g)):bB P w K b a dX 3 f c CD (eU #[K,b] 3 gD):=by
 injections mP lR
def AK:aI bG bG (aC qw):=fL
def Ah(F:eW K "by_give" "by_give" qw f c)(B:Bl b)(g:oT P w K b a):bB P w K b a dX 4 f c bG (eU #[K,b] 4 oI):=by
 injections AK uz
def AH:aI bG bG (aC qx):=fL
def AE(F:eW K "by_pass" "by_pass" qx f c)(B:Bl b)(i:BH P w K b a)(g:oT P w K b a):bB P w K b a dX 4 f c bG (eU #[K,b] 4 oU):=by
 injections AH sD
def DX:aI bG bG (aC tJ):=fL
def DE(F:eW K "by_say" "by_say" tJ f c)(B:Bl b):bB P w K b a dX 1 f c bG (eU #[K,b] 4 sg):=by
 injections DX w5
def qP:aI ["world","scene","hand","row","deed"] bG (aC m5):=fL
def z4(F:eW K "row_done" "row_done" m5 f c)(B:Bl b)(h:∀x F,uD.lookup x=some F->fG P w K b a 10 x bG F)(j:BI P w K b "DONE_BY" mv):bB P w K b a dX 11 f c bG (eU #[K,b] 4 jL):=by
 let g:=qP.nd
 show bz F qP λe A d s H E i=>?_
 show(iE (D6 4 g (I_ j L (Kv (v_ 3) vF) (λ_ _=>rfl)))
  (vK (Jt (Hf h (i.mono (!1)) L (by first|show Or.inl L|show Or.inr (Or.inl L)) (dg (v_ 0) (dg (v_ 1) (dg (v_ 2) (dg (v_ 3) kK)))) (iQ (iQ (iQ (iQ uu))))))))
def qF:aI ["world","scene","hand","values","frames","room","deed","row","given","told","outside","came_by"] gB (aC nK):=fL
def yu(F:eW K "end_deed" "end_deed" nK f c)(B:Bl b)(l:iZ P w K b a)(j:Ci P w K b a)(k:j6 P w K b a)(h:qV P w K b a):bB P w K b a dX 4 f c gB (eU #[K,b] 3 jO):=by
 injections qF pS
def uj:aI ["world","scene","hand","frame","room","program","row","event"] gB (aC qy):=fL
def AL(F:eW K "step_of" "step_of" qy f c)(B:Bl b)(h:dN P w K b a)(k:vH P w K b a)(i:j6 P w K b a)(o:Bx P w K b a)(j:gq P w K b a)(p:Bv P w K b a)(l:sZ P w K b a)(m:b "OWN"=some (.int (-1) g)):bB P w K b a dX 12 f c gB (eU #[K,b] 3 jR):=by
 injections uj kY
def tF:aI ["world","start","most","seen","found","at","scene","hand","reached","event"] xD (aC qz):=fL
def Bt(F:eW K "come_to" "come_to" qz f c)(B:Bl b)(j:iq P w K b a)(i:qd P w K b a):bB P w K b a dX 13 f c xD (eU #[K,b] 3 pz):=by
 let d:=tF.nd
 show KN F tF λh A g s H E e=>?_
 show(iE (D6 3 d (Kc L B.set))
  (iE (Bs (ES e (v_ 3) (v_ 1)))
  (iE (D6 4 d (ND (Ju (dg (Jm (dg (v_ 1) (dg (JJ vF) (dg (JJ vF) kK)))) kK))))
  (iE (D6 5 d vF)
  (iE (HH 500 PassesOwn.never (PW.pt (w_and (zQ N2 ME (v_ 5) (CJ L B.len (ON (v_ 4))) (og _)) (KD (zQ Jn Jo (CJ L B.len (ON (v_ 4))) (v_ 2) (og _))))) (iE (D6 6 d (Kv (Kv (v_ 4) (v_ 5)) vF))
  (iE (NO PassesOwn.never L (N7 (Ri (MW j e (dg (v_ 0) (dg (v_ 6) kK))))) (Kd 7 d) (iE (Me (L9 i e (dg (v_ 0) (dg (v_ 6) (dg (v_ 7) kK)))) (MX L (CK (Kd 8 d) (CK (Kd 9 d) KH))))
  (vK (OO (Ny e (v_ 8) (v_ 3)) (iE (Bs (ES e (v_ 3) (v_ 8)))
  (vK (Bs (FY (v_ 4) (Jm (dg (v_ 8) (dg (v_ 5) (dg (v_ 7) kK)))))))) Nn))))
  (vK (OU 5 d vF)))))
  (vK (Jt (Mh (zQ Jn Jo (CJ L B.len (ON (v_ 4))) (v_ 2) (og _)) (v_ 4) Nk))))))))
def vT:aI yD yD (aC lN):=fL
def wQ(F:eW K "values_of" "values_of" lN f c)(B:Bl b):bB P w K b a dX 1 f c yD (eU #[K,b] 1 gg):=by
 injections vT om
 exists ["word","value"],[none,none]
def mQ:aI ["room","name","manner","things","bells","deeds"] yi (aC ka):=fL
def uW(F:eW K "begun_room" "begun_room" ka f c)(B:Bl b)(k:qK P w K b a)(j:b "NOBODY"=some (.int (-1) g)):bB P w K b a dX 2 f c yi (eU #[K,b] 1 iO):=by
 injections mQ lB
 exists ["bell"],[none]
def ym:aI ["world","rooms","passes","shared","hands","own"] xb (aC wV):=fL
def FE(F:eW K "begun" "begun" wV f c)(B:Bl b)(l:qK P w K b a)(j:xo P w K b a)(h:b "OWN"=some (.int (-1) g)):bB P w K b a dX 3 f c xb (eU #[K,b] 1 jZ):=by
 injections ym Bq
 exists yi,[none]
 exists ["name","value"],[none,none]
 exists ["things","program","own"],[none,none,some 5]
end
section
variable{P:X9}{w:Xc}{K:X1}{c:X3}{a:Xe}{f:X8}{d:FuncData}
def Cg:aI ["world","most","found"] B7 (aC Bg):=fL
def IK(F:eW K "book" "book" Bg f d)(B:Bl c)(j:Dt P w K c a)(i:pA P w K c a):bB P w K c a dX 14 f d B7 (eU #[K,c] 2 zy):=by
 injections Cg Er
 exists ["scene","origin","hand"],[none,none,none]
def Bn:aI gB gB (aC qu):=fL
def A3(F:eW K "stepped" "stepped" qu f d)(B:Bl c)(i:iq P w K c a)(g:qd P w K c a):bB P w K c a dX 13 f d gB (eU #[K,c] 3 k8):=by
 injections Bn t7
def xM:aI zh zh (aC kR):=fL
def wI(F:eW K "_law_step" "_law_step" kR f d)(B:Bl c)(i:iq P w K c a)(g:vC P w K c a):bB P w K c a dX 14 f d zh (eU #[K,c] 3 f_):=by
 injections xM jY
def mW:aI ["_law_world_here","_law_row","_law_turn","_law_step_here"] BM (aC km):=fL
def uO(F:eW K "_law_alone" "_law_alone" km f d)(B:Bl c)(i:pA P w K c a)(j:rg P w K c a):bB P w K c a dX 15 f d BM (eU #[K,c] 1 iU):=by
 injections mW lL
def mN:aI ["_law_world_here","_law_scene","_law_some","_law_hand","_law_later","_law_event"] Ct (aC ko):=fL
def uR(F:eW K "_law_steps" "_law_steps" ko f d)(B:Bl c)(j:iq P w K c a)(h:vC P w K c a):bB P w K c a dX 14 f d Ct (eU #[K,c] 2 i4):=by
 injections mN kP
def oP:aI ["_law_left","_law_world_here","_law_most","_law_scene","_law_weaving","_law_turn","_law_some","_law_hand","_law_event"] B1 (aC lZ):=fL
def v7(F:eW K "_law_walk" "_law_walk" lZ f d)(B:Bl c)(m:pA P w K c a)(k:x9 P w K c a)(n:eL P w K c a):bB P w K c a dX 15 f d B1 (eU #[K,c] 3 kA):=by
 let h:=oP.nd
 show bz F oP λe A b s H E g=>?_
 let l:=g.units0
 delta nz
 ac_rfl
 show CL<|wM (i:=3) (j:=4) L (by assumption) L L (!1) L L ?_ L
 ac_rfl
def x8:aI Bz Bz (aC lj):=fL
theorem oJ(F:eW K "_law_same" "_law_same" lj f d)(B:Bl c)(b:Binds K d Bz [])(g:PySem.W.keepIn K (.ref f)=true)(m:c "_law_same"=some (.ref f)):∀n,bB P w K c a dX (1+n) f d Bz (eU #[K,c] 2<|fg n)
 |0=>wz
 | n+1=>by
   have i:fG P w K c a (1+n) "_law_same" Bz (fg n):=#[f,d,oJ F B b g m n,b,g,m]
   show bz (k:=1+n) F x8 λh A e s H E j=>?_
   delta gc
   ac_rfl
   exists ["_law_one","_law_other"],[none,none]
def vd:aI ["world","weaving","scene","events","place","hand","event"] xA (aC tj):=fL
def Dv(F:eW K "walked" "walked" tj f d)(B:Bl c)(k:pA P w K c a)(j:iq P w K c a)(h:qd P w K c a):bB P w K c a dX 13 f d xA (eU #[K,c] 2 sf):=by
 injections vd wY
def FV:aI ["_law_script","_law_k","_law_left","_law_world_here","_law_told","_law_places","_law_at","_law_scene","_law_turn","_law_weaving","_law_here","_law_events","_law_hand","_law_later","_law_event","_law_one","_law_row"] FN (aC oy):=fL
def Kl(F:eW K "law" "law" oy f d)(B:Bl c)(m:AY P w K c a)(t:xH P w K c a)(o:eL P w K c a)(p:K9 P w K c a)(r:pA P w K c a)(n:yQ P w K c a)(u:rg P w K c a)(l:zZ P w K c a)(h:Fh P w K c a)(g:wX P w K c a):bB P w K c a dX 16 f d FN (eU #[K,c] 1 Hv):=by
 injections FV JZ
 show CL<|wM (i:=10) (j:=11) L (by assumption) L L (!1) L L ?_ L
 ac_rfl
end
def all_mk{l:PySem.W.OpenLaw}{w:Xc}{K:X1}(X:K.In h)(G:h.Ns mainGlobals g)(g1:g "law"=some (.ref fa))
  (d1:bu K "_law_pot" nj f1)
  (d2:bu K "_law_pick" lC f2)
  (d3:bu K "_law_words" ke f3)
  (d4:bu K "_law_any_sum" iu f4)
  (d5:bu K "_law_hand_row" gQ f5)
  (d6:bu K "_law_deed_row" gP f6)
  (d7:bu K "_law_world" kr f7)
  (d8:bu K "hands_at" ni f8)
  (d9:bu K "hands_in_rows" gN f9)
  (u8:bu K "last_frame" j7 o1)
  (b4:bu K "program_of" kf r1)
  (k4:bu K "is_behind_all" gR g5)
  (a9:bu K "may_step" m3 g0)
  (r7:bu K "names_of" m8 s3)
  (v0:bu K "place_of" nU b8)
  (q9:bu K "with_part" lO q2)
  (f0:bu K "with_hand" lX q6)
  (b0:bu K "with_room" k9 i5)
  (g3:bu K "put_thing" lQ e5)
  (n8:bu K "value_of_two" il u2)
  (m0:bu K "value_of" nJ a8)
  (h8:bu K "reckoned" nV i0)
  (c0:bu K "by_put" sU a2)
  (e3:bu K "with_last_frame" fJ h1)
  (u1:bu K "at_row" tm s2)
  (m4:bu K "by_unless" lG N)
  (b9:bu K "by_go" wL a1)
  (o2:bu K "come_in" qo i2)
  (l0:bu K "by_do" xi q)
  (h3:bu K "bell_of" qm r5)
  (c7:bu K "with_line" lA t1)
  (l6:bu K "leave" xw e6)
  (s8:bu K "by_wait" pV a0)
  (i1:bu K "by_call" qD a5)
  (g6:bu K "by_all" su S)
  (b1:bu K "by_tell" pK J)
  (r6:bu K "with_pass" k0 b3)
  (s0:bu K "taken" xB n2)
  (q3:bu K "by_take" p9 o)
  (n0:bu K "given_back" j8 e7)
  (c5:bu K "by_give" qw a6)
  (r2:bu K "by_pass" qx t)
  (t3:bu K "by_say" tJ a7)
  (n9:bu K "row_done" m5 n5)
  (d0:bu K "end_deed" nK k6)
  (h2:bu K "step_of" qy e2)
  (m1:bu K "come_to" qz c2)
  (o5:bu K "values_of" lN t0)
  (r0:bu K "begun_room" ka l3)
  (n7:bu K "begun" wV o4)
  (e0:bu K "book" Bg l4)
  (c4:bu K "stepped" qu l7)
  (g2:bu K "_law_step" kR k2)
  (c6:bu K "_law_alone" km t2)
  (p2:bu K "_law_steps" ko g4)
  (o0:bu K "_law_walk" lZ n3)
  (h5:bu K "_law_same" lj h0)
  (c3:bu K "walked" tj s1)
  {oc kV dc pm cd ct:Xd}  {sl:Array (Option Value)} (j1:PySem.W.nsIn K mainGlobals "law"=some (some<|.ref f)) (k1:K.lookup f=some #[oc,od,.func (PySem.W.fnOf "law" "law" (g_ oy) (fc oy) (aC oy) .none kV dc pm an cd ct),sl]) (j5:PySem.W.codeIn K cd "law"=true) (h7:PySem.W.keepIn K (.ref f)=true)
   (Nm:PySem.W.nsIn K mainGlobals "OWN"=some (some<|.int (-1) jU))
   (D7:PySem.W.nsIn K mainGlobals "HIGHEST"=some (some<|.int (9) jG))
   (Ew:PySem.W.nsIn K mainGlobals "NOBODY"=some (some<|.int (-1) iw))
    (C7:PySem.W.nsIn K mainGlobals "DONE_BY"=some (some<|.ref vm)) (Bf:K.lookup vm=some #[.type "dict",none,.dict (List.toArray [#[PyData.keyHash w.params "put",.str "put" xF,.ref a2],#[PyData.keyHash w.params "unless",.str "unless" xj,.ref N],#[PyData.keyHash w.params "go",.str "go" wK,.ref a1],#[PyData.keyHash w.params "do",.str "do" wO,.ref q],#[PyData.keyHash w.params "wait",.str "wait" vX,.ref a0],#[PyData.keyHash w.params "call",.str "call" xR,.ref a5],#[PyData.keyHash w.params "all",.str "all" v5,.ref S],#[PyData.keyHash w.params "tell",.str "tell" wa,.ref J],#[PyData.keyHash w.params "take",.str "take" wm,.ref o],#[PyData.keyHash w.params "give",.str "give" vR,.ref a6],#[PyData.keyHash w.params "pass",.str "pass" uQ,.ref t],#[PyData.keyHash w.params "say",.str "say" uN,.ref a7]]) A0,(List.toArray [])])
  (Mv:PySem.W.nsIn K mainGlobals "len"=some none) (Ib:PySem.W.nsIn K mainGlobals "tuple"=some none) (Lr:PySem.W.nsIn K mainGlobals "list"=some none) (Km:PySem.W.nsIn K mainGlobals "dict"=some none) (M8:PySem.W.nsIn K mainGlobals "set"=some none) (NI:PySem.W.nsIn K mainGlobals "int"=some none) (Ob:PySem.W.nsIn K mainGlobals "str"=some none) (K4:PySem.W.nsIn K mainGlobals "bool"=some none) (NM:PySem.W.nsIn K mainGlobals "all"=some none) (Mt:PySem.W.nsIn K mainGlobals "any"=some none) (IH:PySem.W.nsIn K mainGlobals "range"=some none) (MV:PySem.W.nsIn K mainGlobals "zip"=some none) (ER:PySem.W.nsIn K mainGlobals "sorted"=some none) (xU:PySem.W.nsIn K mainGlobals "isinstance"=some none) (Nt:PySem.W.nsIn K mainGlobals "min"=some none) (NZ:PySem.W.nsIn K mainGlobals "max"=some none) (MY:PySem.W.nsIn K mainGlobals "abs"=some none) (zI:PySem.W.nsIn K mainGlobals "enumerate"=some none) (BB:PySem.W.nsIn K mainGlobals "reversed"=some none)
  (T:∀ns:List Int,ns.length<=63->∃S',Hv [.ref 0] [.frz (ns.map D.int)]=some (.d (.bl true),S')):
  ∃fd:FuncData,(∀(s:X4) (v:Xd),BindsTo s fd #[[v],[]] [("_law_script",v)])/\∀a:Heap,K.In a->a.Ns mainGlobals g->bB l.prog w K g a dX 16 fa fd FN zf:=by
 let e:=g1.symm.trans (PySem.W.mg_of X G j1)
 cases e
 let k7:=Bj (st:=oy) k1 j5 h7
 let O1:=d1.ok1 (ps:=CB) X G
 let O2:=d2.ok1 (ps:=z3) X G
 let O3:=d3.ok1 (ps:=z3) X G
 let O4:=d4.ok1 (ps:=vw) X G
 let O5:=d5.ok1 (ps:=Cz) X G
 let O6:=d6.ok1 (ps:=Cf) X G
 let O7:=d7.ok1 (ps:=CM) X G
 let O8:=d8.ok1 (ps:=zk) X G
 let O9:=d9.ok1 (ps:=B5) X G
 let q8:=u8.ok1 (ps:=zN) X G
 let b7:=b4.ok1 (ps:=Cs) X G
 let l1:=k4.ok1 (ps:=gB) X G
 let s5:=a9.ok1 (ps:=BL) X G
 let e8:=r7.ok1 (ps:=y0) X G
 let e9:=v0.ok1 (ps:=yI) X G
 let p3:=q9.ok1 (ps:=Ab) X G
 let e1:=f0.ok1 (ps:=yU) X G
 let q4:=b0.ok1 (ps:=zY) X G
 let q1:=g3.ok1 (ps:=BX) X G
 let n4:=n8.ok1 (ps:=y7) X G
 let l2:=m0.ok1 (ps:=vB) X G
 let p4:=h8.ok1 (ps:=Ck) X G
 let H:=c0.ok1 (ps:=bG) X G
 let r4:=e3.ok1 (ps:=BO) X G
 let h6:=u1.ok1 (ps:=CU) X G
 let Q:=m4.ok1 (ps:=bG) X G
 let P:=b9.ok1 (ps:=bG) X G
 let c1:=o2.ok1 (ps:=Cy) X G
 let A:=l0.ok1 (ps:=bG) X G
 let r3:=h3.ok1 (ps:=BK) X G
 let j4:=c7.ok1 (ps:=CH) X G
 let b2:=l6.ok1 (ps:=BV) X G
 let I:=s8.ok1 (ps:=bG) X G
 let U:=i1.ok1 (ps:=bG) X G
 let M:=g6.ok1 (ps:=bG) X G
 let Y:=b1.ok1 (ps:=bG) X G
 let k5:=r6.ok1 (ps:=zU) X G
 let b5:=s0.ok1 (ps:=BN) X G
 let a3:=q3.ok1 (ps:=bG) X G
 let n6:=n0.ok1 (ps:=CD) X G
 let u:=c5.ok1 (ps:=bG) X G
 let z:=r2.ok1 (ps:=bG) X G
 let a4:=t3.ok1 (ps:=bG) X G
 let k3:=n9.ok1 (ps:=bG) X G
 let q7:=d0.ok1 (ps:=gB) X G
 let o3:=h2.ok1 (ps:=gB) X G
 let m2:=m1.ok1 (ps:=xD) X G
 let h4:=o5.ok1 (ps:=yD) X G
 let h9:=r0.ok1 (ps:=yi) X G
 let s4:=n7.ok1 (ps:=xb) X G
 let p1:=e0.ok1 (ps:=B7) X G
 let e4:=c4.ok1 (ps:=gB) X G
 let l5:=g2.ok1 (ps:=zh) X G
 let s6:=c6.ok1 (ps:=BM) X G
 let b6:=p2.ok1 (ps:=Ct) X G
 let s7:=o0.ok1 (ps:=B1) X G
 let s9:=h5.ok1 (ps:=Bz) X G
 let n1:=c3.ok1 (ps:=xA) X G
 let n:=PySem.W.mg_of X G Nm
 let mr:=PySem.W.mg_of X G D7
 let jS:=PySem.W.mg_of X G Ew
 have pL:BI l.prog w K g "DONE_BY" mv:=FD (PySem.W.mg_of X G C7) Bf (.cons H.m (.cons Q.m (.cons P.m (.cons A.m (.cons I.m (.cons U.m (.cons M.m (.cons Y.m (.cons a3.m (.cons u.m (.cons z.m (.cons a4.m .nil)))))))))))) (by decide +kernel)
 have B:Bl g:=#[QFq X G Mv,QFq X G Ib,QFq X G Lr,QFq X G Km,QFq X G M8,QFq X G NI,QFq X G Ob,QFq X G K4,QFq X G NM,QFq X G Mt,QFq X G IH,QFq X G MV,QFq X G ER,QFq X G xU,QFq X G Nt,QFq X G NZ,QFq X G MY,QFq X G zI,QFq X G BB]
 show#[PySem.W.fnOf "law" "law" (g_ oy) (fc oy) (aC oy) .none kV dc pm an cd ct,λs v=>.of_eq L,λa _ _=>?_]
 have Z:Pk l.prog w a:=#[]
 let t9:=O1.cal Z λ_ F _ _ _=>zR F B
 let i:=O2.cal Z λ_ F _ _ _=>vS F B
 let oM:=O3.cal Z λ_ F _ _ _=>uJ F B i
 let eJ:=O4.cal Z λ_ F b k m=>kC F B i b k m 3
 let kE:=O5.cal Z λ_ F _ _ _=>pQ F B i eJ
 let kI:=O6.cal Z λ_ F _ _ _=>qe F B i eJ
 let oz:=O7.cal Z λ_ F _ _ _=>uV F B oM i kI kE
 let sk:=O8.cal Z λ_ F _ _ _=>Aa F B
 let kH:=O9.cal Z λ_ F _ _ _=>pM F B sk
 let c:=q8.cal Z λ_ F _ _ _=>uM F B
 let eT:=b7.cal Z λ_ F _ _ _=>uZ F B n
 let kJ:=l1.cal Z λ_ F _ _ _=>pW F B c eT n
 let y:=s5.cal Z λ_ F _ _ _=>zE F B kH kJ
 let fW:=e8.cal Z λ_ F _ _ _=>yg F B
 let dy:=e9.cal Z λ_ F _ _ _=>zS F B fW
 let r:=p3.cal Z λ_ F _ _ _=>wD F B
 let dM:=e1.cal Z λ_ F _ _ _=>xt F B r
 let R:=q4.cal Z λ_ F _ _ _=>xO F B r
 let iL:=q1.cal Z λ_ F _ _ _=>xJ F B c dy r R fW dM n
 let iC:=n4.cal Z λ_ F _ _ _=>rN F B mr
 let oq:=l2.cal Z λ_ F b k m=>qU F B iC b k m 6
 let j:=p4.cal Z λ_ F _ _ _=>yL F B c fW oq n
 let FQ:=H.cal Z λ_ F _ _ _=>DC F B iL j
 let eF:=r4.cal Z λ_ F _ _ _=>nR F B dM
 let jQ:=h6.cal Z λ_ F _ _ _=>DP F B c eF
 let zD:=Q.cal Z λ_ F _ _ _=>xY F B j jQ
 let Ha:=P.cal Z λ_ F _ _ _=>Gn F B jQ
 let mE:=c1.cal Z λ_ F _ _ _=>Ai F B R jS
 let Hx:=A.cal Z λ_ F _ _ _=>EU F B dy j mE dM
 let h_:=r3.cal Z λ_ F _ _ _=>Ar F B c dy
 let fD:=j4.cal Z λ_ F _ _ _=>wW F B R r
 let rT:=b2.cal Z λ_ F _ _ _=>FR F B R jS
 let Dx:=I.cal Z λ_ F _ _ _=>Bp F B h_ j fD rT
 let DB:=U.cal Z λ_ F _ _ _=>AX F B h_ fD R
 let Fv:=M.cal Z λ_ F _ _ _=>C4 F B h_ fD
 let DA:=Y.cal Z λ_ F _ _ _=>AB F B j eF c
 let iX:=k5.cal Z λ_ F _ _ _=>wq F B r
 let r8:=b5.cal Z λ_ F _ _ _=>Fk F B dy iX
 let Ef:=a3.cal Z λ_ F _ _ _=>Bd F B r8
 let gZ:=n6.cal Z λ_ F _ _ _=>u3 F B dy iX mr
 let D9:=u.cal Z λ_ F _ _ _=>Ah F B gZ
 let Dj:=z.cal Z λ_ F _ _ _=>AE F B r8 gZ
 let Gs:=a4.cal Z λ_ F _ _ _=>DE F B
 have uB:∀x F,uD.lookup x=some F->fG l.prog w K g a 10 x bG F:=by
  show EH λp hp=>?_
  erw[uD,Qsq,QXq,or_false] at hp
  rcases hp with rfl|rfl|rfl|rfl|rfl|rfl|rfl|rfl|rfl|rfl|rfl|rfl
  ·show FQ.mono (!1)
  ·show zD.mono (!1)
  ·show Ha.mono (!1)
  ·show Hx.mono (!1)
  ·show Dx.mono (!1)
  ·show DB.mono (!1)
  ·show Fv.mono (!1)
  ·show DA.mono (!1)
  ·show Ef.mono (!1)
  ·show D9.mono (!1)
  ·show Dj.mono (!1)
  ·show Gs.mono (!1)
 let uq:=k3.cal Z λ_ F _ _ _=>z4 F B uB pL
 let tU:=q7.cal Z λ_ F _ _ _=>yu F B dM rT eT iL
 let fU:=o3.cal Z λ_ F _ _ _=>AL F B c mE eT tU j uq jQ n
 let vD:=m2.cal Z λ_ F _ _ _=>Bt F B y fU
 let iR:=h4.cal Z λ_ F _ _ _=>wQ F B
 let ox:=h9.cal Z λ_ F _ _ _=>uW F B iR jS
 let C:=s4.cal Z λ_ F _ _ _=>FE F B iR ox n
 let Fe:=p1.cal Z λ_ F _ _ _=>IK F B vD C
 let mz:=e4.cal Z λ_ F _ _ _=>A3 F B y fU
 let iM:=l5.cal Z λ_ F _ _ _=>wI F B y mz
 let o6:=s6.cal Z λ_ F _ _ _=>uO F B C iM
 let oW:=b6.cal Z λ_ F _ _ _=>uR F B y mz
 let qN:=s7.cal Z λ_ F _ _ _=>v7 F B C oW i
 let lE:=s9.cal Z λ_ F b k m=>oJ F B b k m 10
 let zt:=n1.cal Z λ_ F _ _ _=>Dv F B C y fU
 show HF (Kl k7 B t9 oz i Fe C qN iM lE zt o6) T
end W28
namespace DL
open L2
def gM{a:cv}{S:aE}{Q:Bool->aE->Prop}(q:Q true S):E bT a S Q:=#[_,_,L,q]
section
variable{S:aE}
def pq{i j:Int}{Q:D->Prop}(q:Q (.int (i+j))):Op (bW S (.int i) (.int j)) Q:=#[_,L,q]
def J4{i j:Str}{Q:D->Prop}(h:i.length+j.length<=sizeLine)(q:Q (.str (i++j))):Op (bW S (.str i) (.str j)) Q:=#[_,by erw[bW];rw[Qhq h],q]
def dQ{i j:List D}{Q:D->Prop}(h:i.length+j.length<=sizeLine)(q:Q (.tup (i++j))):Op (bW S (.tup i) (.tup j)) Q:=#[_,by erw[bW];rw[Qhq h],q]
def xC{k:Int->Int->D}{i j:Int}{Q:D->Prop}(q:Q (k i j)):Op (intD (λ_ _=>True) k S (.int i) (.int j)) Q:=#[_,by erw[intD,if_true],q]
def oY{i j:Int}{Q:D->Prop}(h:0<j)(q:Q (.int (i%j))):Op (rC S (.int i) (.int j)) Q:=#[_,by erw[rC,intD];rw[Qhq h],q]
def F9{i j:Int}{Q:D->Prop}(h:E3 i j)(q:Q (.int (i/j))):Op (zj S (.int i) (.int j)) Q:=#[_,by erw[zj,intD];rw[Qhq h],q]
def qO{i j:Int}{Q:D->Prop}(h:Ih i j)(q:Q (.int (i*j))):Op (t5 S (.int i) (.int j)) Q:=#[_,by erw[t5,intD];rw[Qhq h.ok],q]
def aA{ds:List D}{i:Int}{d:D}{Q:D->Prop}(h:mO ds i=some d)(q:Q d):Op (kL S (.tup ds) (.int i)) Q:=#[_,h,q]
def dW{k:Nat}{ds:List D}{i:Int}{d:D}{Q:D->Prop}(a:S[k]?=some (.lst ds))(h:mO ds i=some d)(q:Q d):Op (kL S (.ref k) (.int i)) Q:=#[_,by erw[kL,a];exact h,q]
def d_{ds:List D}{Q:List D×Tag->Prop}(q:Q (ds,.tu)):Op (tW S (.tup ds)) Q:=#[_,L,q]
def bN{k:Nat}{ds:List D}{Q:List D×Tag->Prop}(a:S[k]?=some (.lst ds))(q:Q (ds,.st k)):Op (tW S (.ref k)) Q:=#[_,by erw[tW,a],q]
end
def bc{b:Bool}{p q:Prop}(c:b=true->p)(a:b=false->q):if b=true then p else q:=by
 cases b with
 |true=>exact c L
 |false=>exact a L
end DL
local macro_rules(kind:=Lean.Parser.Tactic.injection)|s=>Z5 s 6
local macro_rules(kind:=Lean.Parser.Tactic.injection)|s=>match s[1].isNatLit? with|none=>Z4|some k=>do
 let l:=(("aG|QY|jc|Ra|dB|dk|P8|cf|xh|mK|cx|t_auS|cy|eG|ax|aN|dH|c_|dG|KC|cn|iI|lg|fe|eV|Cc|bX|xp|bJ|CQ|FA|qv|sQ|N_|gM|aQ|Q3|kM|nI|pq|xC|d_".splitOn "|").drop (7*k)).take 7
 pure<|v4<|if k=6 then W1 else
  "'with_reducible 'first"++String.join (l.map λx=>" 'refine $DL."++x++" Y A1,null E2,app T2,refine G")++" A"++toString l.length++",null T2,first S T2,withReducible"
local macro_rules|`(tactic|symm)=>`(tactic|repeat injection 0)
local macro_rules|`(tactic|apply $e)=>`(tactic|(refine $e;symm))
namespace W28
open L2 DL
noncomputable def oA(a b c:Int):O:=.lst [.int a,.int b,.int c]
def C5{S:aE}{k:Nat}{a b l m:Int}{Q:Res->aE->Prop}(e:S[k]?=some (oA a b l))(g:0<m)(w:m<1000000)
  (h:∀(d t r q:Int),0<=d->d<m->Q (.d (.int d)) (S.set k (oA t r q))):Fn aB [.ref k,.int m] S Q:=by
 have s:k<S.length:=(gQs.mp e).1
 have n:∀(o:O),(S.set k o).take S.length=S.set k o:=λo=>by rw[List.take_of_length_le];simp
 refine bR ?_
 unfold nW
 symm
 refine dW e L ?_
 symm
 refine bc (λc=>?_) (λc=>?_)
 ·symm
  refine dW e L ?_
  symm
  refine oY g ?_
  symm
  refine dW e L ?_
  symm
  refine F9 #[g,by omega] ?_
  symm
  refine#[_,_,_,_,L,L,e,L,?_]
  symm
  refine hU (vj (by rfl)) (n _) (λ_ z=>by cases z) L ?_
  exact h _ _ _ _ (Int.emod_nonneg _ (!0)) (Int.emod_lt_of_pos _ g)
 ·refine cx ?_
  symm
  refine dW e (d:=.int l) L ?_
  symm
  refine#[_,_,_,_,L,L,e,L,?_]
  have i:∀o:O,(S.set k o)[k]?=some o:=λo=>by rw[Qyq s]
  symm
  refine dW (i _) (d:=.int b) L ?_
  symm
  refine qO (.inr #[by decide,by decide]) ?_
  symm
  refine dW (i _) (d:=.int (l+1)) L ?_
  refine qO (.inl #[by decide,by decide]) ?_
  symm
  refine oY (!1) ?_
  generalize f:(b*69621+7919*_+1)%2147483629=mx
  have v:0<=mx:=by rw[<-f];exact Int.emod_nonneg _ (!1)
  have u:mx<2147483629:=by rw[<-f];exact Int.emod_lt_of_pos _ (!1)
  symm
  refine#[_,_,_,_,L,L,i _,L,?_]
  have p:∀o j:O,((S.set k o).set k j)[k]?=some j:=λo j=>by rw[List.set_set];exact i _
  symm
  refine dW (p _ _) (d:=.int mx) L ?_
  symm
  refine dW (p _ _) (d:=.int mx) L ?_
  symm
  refine oY (!1) ?_
  symm
  refine qO (.inl #[by omega,by omega]) ?_
  symm
  refine oY (!1) ?_
  symm
  refine F9 #[by decide,by decide] ?_
  symm
  refine oY g ?_
  symm
  rw[List.set_set]
  refine hU (vj (by rfl)) (n _) (λ_ z=>by cases z) L ?_
  exact h _ _ _ _ (Int.emod_nonneg _ (!0)) (Int.emod_lt_of_pos _ g)
structure Ex(k:Nat)(S S':aE):Prop where
 len:S.length<=S'.length
 keep:∀(j:Nat) (o:O),j≠k->S[j]?=some o->S'[j]?=some o
 pot:∃a b c,S'[k]?=some (oA a b c)
def Ex.refl{k:Nat}{S:aE}{a b c:Int}(h:S[k]?=some (oA a b c)):Ex k S S:=#[Qmq _,λ_ _ _ h=>h,_,_,_,h]
def Ex.trans{k:Nat}{S a S2:aE}(x:Ex k S a)(y:Ex k a S2):Ex k S S2:=#[QAq x.len y.len,λj o n h=>y.keep j o n (x.keep j o n h),y.pot]
def Ex.set{k:Nat}{S d:aE}{a b c:Int}(x:Ex k S d):Ex k S (d.set k (oA a b c)):=by
 let#[_,_,_,h]:=x.pot
 show#[by simpa using x.len,λj o n h=>?_,a,b,c,Qyq (gQs.mp h).1]
 rw[QKq (Ne.symm n)]
 show x.keep j o n h
def Ex.app{k:Nat}{S d G:aE}(x:Ex k S d):Ex k S (d++G):=by
 let#[a,b,c,h]:=x.pot
 show#[by rw[lQa];have:=x.len;omega,λj o n h=>?_,a,b,c,?_]
 ·have:=x.keep j o n h
  rw[QHq (gQs.mp this).1]
  show this
 ·rw[QHq (gQs.mp h).1]
  show h
def Ex.put{k r:Nat}{S d:aE}{o:O}(x:Ex k S d)(i:S.length<=r)(f:k<S.length):Ex k S (d.set r o):=by
 let#[a,b,c,h]:=x.pot
 show#[by simpa using x.len,λj e n h=>?_,a,b,c,?_]
 ·let g:=(gQs.mp h).1
  rw[QKq (!0)]
  show x.keep j e n h
 ·rw[QKq (!0)]
  show h
def Ex.lt{k:Nat}{S d:aE}(x:Ex k S d):k<d.length:=by
 let#[a,b,c,h]:=x.pot
 show(gQs.mp h).1
def bq{S G:aE}{j:Nat}{o:O}(h:S[j]?=some o):(S++G)[j]?=some o:=by
 rw[QHq (gQs.mp h).1]
 show h
def aW{S:aE}{o:O}:(S++ [o])[S.length]?=some o:=by simp
def i9{S:aE}{k j:Nat}{o o':O}(n:j≠k)(h:S[j]?=some o):(S.set k o')[j]?=some o:=by
 rw[QKq (Ne.symm n)]
 show h
def fY{S:aE}{j:Nat}{o o':O}(h:S[j]?=some o):(S.set j o')[j]?=some o':=Qyq (gQs.mp h).1
def Ex.clean{k:Nat}{S f:aE}(x:Ex k S f)(l:k<S.length):oN S f/\∃a b c,f.take S.length=S.set k (oA a b c):=by
 let#[a,b,c,h]:=x.pot
 have g:∀j,j<S.length->f[j]?=(S.set k (oA a b c))[j]? :=λj d=>by
  by_cases e:j=k
  ·subst e
   rw[h,Qyq d]
  ·rw[QKq (Ne.symm e),x.keep j _ e (gQe d),gQe d]
 show#[#[x.len,λj o d e=>?_],a,b,c,?_]
 ·by_cases i:j=k
  ·subst i
   rw[h] at e
   cases e
   show .inr L
  ·rw[x.keep j _ i (gQe d)] at e
   rw[gQe d]
   show .inl e
 ·apply List.ext_getElem?
  intro j
  by_cases d:j<S.length
  ·rw[List.getElem?_take_of_lt d]
   show g j d
  ·rw[List.getElem?_eq_none (by rw[Qxq];omega),List.getElem?_eq_none (by simp;omega)]
def zx{k:Nat}{S e:aE}{d:D}{Q:Res->aE->Prop}(x:Ex k S e)(g:k<S.length)(f:∀k,d≠.ref k)(hl:cj S.length d=true)(q:∀a b c,Q (.d d) (S.set k (oA a b c))):Op (settle S d e) λp=>Q p.1 p.2:=by
 let#[i,a,b,c,h]:=x.clean g
 show hU i h f hl (q a b c)
def NS{k:Nat}{S d:aE}{ds:List D}{Q:Res->aE->Prop}(x:Ex k S d)(e:k<S.length)(hl:bC S.length ds=true)(q:∀a b c,Q (.l ds) (S.set k (oA a b c))):Op (fQ S ds d) λp=>Q p.1 p.2:=by
 let#[g,a,b,c,f]:=x.clean e
 show n_ g f hl (q a b c)
def cG{S S0:aE}{k:Nat}{m:Int}{Q:Res->aE->Prop}(x:Ex k S0 S)(i:0<m)(j:m<1000000)
  (h:∀(d:Nat) (e:aE),(d:Int)<m->Ex k S0 e->Ex k S e->e.length=S.length->Q (.d (.int d)) e):Fn aB [.ref k,.int m] S Q:=by
 let#[a,b,c,f]:=x.pot
 show C5 f i j λd q o l p g=>?_
 obtain⟨n,rfl⟩:∃n:Nat,d=n:=#[d.toNat,by omega]
 show h n _ g x.set (Ex.refl f).set (by simp)
def aR{α:Type}{xs:List α}{j:Nat}{x:α}(h:xs[j]?=some x):mO xs (j:Int)=some x:=by
 let a:=(gQs.mp h).1
 unfold mO G2
 rw[Qhq (!0),Qhq (!0)]
 simpa using h
def jb{e:cv}{S S0:aE}{k i v:Nat}{xs:List D}{Q:D->aE->Prop}(m:e[0]?=some (some (.ref k)))(g:e[v]?=some (some (.ref i)))(x:Ex k S0 S)(hi:i≠k)(j:S[i]?=some (.lst xs))(o:0<xs.length)(p:xs.length<1000)
  (h:∀(d:D) (a:aE),d∈xs->Ex k S0 a->Ex k S a->a.length=S.length->Q d a):E (bp kL (au v) (az aB (ar (au 0) (ar (ee (aS (au v))) av)))) e S Q:=by
 show cy (aw g (bX (ax (aw m (ax (lg (cn (aw g (bN j (aN ?_))))))))))
 show cG x (by show(0:Int)<xs.length;omega) (by show(xs.length:Int)<1000000;omega) λd a l n f c=>?_
 have b:d<xs.length:=by have:(d:Int)<(xs.length:Int):=l;omega
 show dW (f.keep _ _ hi j) (aR (gQe b)) ?_
 show h _ _ (List.getElem_mem b) n f c
def eS{m:cv}{S S0:aE}{k n:Nat}{xs:List D}{f:gw}{Q:D->aE->Prop}(p:m[0]?=some (some (.ref k)))(x:Ex k S0 S)(u:0<n)(w:n<1000)(hl:xs.length=n)
  (q:E f m S λds j=>ds=xs/\j=S)
  (h:∀(d:D) (e:aE),d∈xs->Ex k S0 e->Ex k S e->e.length=S.length+1->Q d e):E (bp kL (bE (bA f)) (az aB (ar (au 0) (ar (cF (.int n)) av)))) m S Q:=by
 show cy (dG (c_ (q.mono λds j s=>?_)))
 let#[o,i]:=s
 subst o i
 show#[nQl (aM (!0)),?_]
 show bX (ax (aw p (ax (eG (aN ?_)))))
 let v:=x.lt
 show cG (x.app (G:= [O.lst ds])) (!0) (!0) λd e t o i l=>?_
 have g:d<ds.length:=by omega
 show dW (i.keep _ _ (!0) aW) (aR (gQe g)) ?_
 have y:Ex k j j:=by let#[a,b,c,r]:=x.pot;show Ex.refl r
 show h _ _ (List.getElem_mem g) o (y.app.trans i) (by rw[l];simp)
end W28
namespace DL
open L2
mutual
theorem gA{m:Nat}:∀{d:D},cj 0 d=true->cj m d=true
 |.non,_=>rfl
 |.bl _,_=>rfl
 |.int _,_=>rfl
 |.str _,_=>rfl
 |.tup ds,h=>by erw[cj] at h|-;show jK h
 |.ref k,h=>by simp[cj] at h
 |.fn _,_=>rfl
theorem jK{m:Nat}:∀{ds:List D},bC 0 ds=true->bC m ds=true
 | [],_=>rfl
 | d::ds,h=>by
   erw[bC,QCq] at h|-
   show#[gA h.1,jK h.2]
end
theorem xX{m:Nat}:∀{ds:List D},(∀d∈ds,cj m d=true)->bC m ds=true
 | [],_=>rfl
 | d::ds,h=>by
   erw[bC,QCq]
   show#[h d (QBq ..),xX λe a=>h e (Qpq _ a)]
def aZ{α:Type}{m:Nat}{f:α->D}{l:List α}(h:∀a∈l,cj m (f a)=true):bC m (l.map f)=true:=xX λd b=>by
 let#[a,c,rfl]:=Qkq.mp b
 show h a c
theorem u9:∀a:List Str,vk (a.map D.str)=some a
 | []=>rfl
 |s::a=>by erw[QDq,vk];rw[u9 a];rfl
def Ku{c:cv}{S:aE}{f:et}{Q:List D->aE->Prop}(h:E f c S λp b=>p.2.isL=true/\∃a:List Str,p.1=a.map D.str/\a.length<64/\Q ((qf a).map D.str) b):E (BW f) c S Q:=by
 let#[p,b,d,l,a,g,e,q]:=h
 show#[_,b,by unfold BW;rw[d];erw[Qbq];rw[Qhq l,g,u9];erw[Qbq];rw[Qhq e],q]
def m7{ds:List D}{y:D}{Q:List D×D->Prop}(h:ds.length<sizeLine)(q:Q (ds++ [y],.non)):Op (k_ ds [y]) Q:=#[_,by erw[k_];rw[Qhq h],q]
def dJ{b:cv}{S:aE}{n:Nat}{g:rQ}{ds:List D}{Q:cv->aE->Prop}(d:ds.length=n)(h:Ot g ds b S Q):Tg (g9 (nG n g)) (.tup ds) b S Q:=by
 let#[a,c,e,q]:=h
 show#[a,c,by show nG n g ds b S=_;unfold nG;rw[Qhq d];show e,q]
def bg{a:cv}{S:aE}{Q:cv->aE->Prop}(q:Q a S):Ot cW [] a S Q:=#[_,_,L,q]
def ay{b:cv}{S:aE}{f:me}{g:rQ}{d:D}{ds:List D}{Q:cv->aE->Prop}(h:Tg f d b S λa e=>Ot g ds a e Q):Ot (aH f g) (d::ds) b S Q:=by
 let#[a,e,j,c,i,k,q]:=h
 show#[c,i,by show(f d b S).bind _=_;rw[j];show k,q]
end DL
namespace W28
open L2 DL
def Gm{c:cv}{S:aE}{i j:Nat}{f:gw}{Q:Out->Prop}(h:E f c S λds d=>∃a b,ds= [a,b]/\Q (.nx ((c.set i (some a)).set j (some b)) d)):T (wH i j f) c S Q:=by
 let#[ds,d,e,a,b,rfl,q]:=h
 show#[_,by unfold wH;rw[e];rfl,q]
def FK{c:cv}{S:aE}{i j:Nat}{f:gw}{Q:Out->Prop}(h:E f c S λds d=>∃a b,ds= [a,b]/\Q (.nx ((c.set i (some a)).set j (some b)) d)):T (lK (aY f) (g9 (nG 2 (aH (bD i) (aH (bD j) cW))))) c S Q:=by
 show xh (dH (h.mono λds d g=>?_))
 let#[a,b,e,q]:=g
 subst e
 show#[by show 2<=_;decide,dJ L (ay (aQ (ay (aQ (bg q)))))]
noncomputable def lets:Str:="abcdefghijklmnopqrstuvwxyz"
def let1(i:Nat):Str:=#[(List.toArray [lets.cps.toList.getD i 0])]
noncomputable def Lk:List Str:= ["","zz","x","qqqqqqq"]
def OK(j:Nat):Str:=Lk.getD j ""
def nm(i j:Nat):Str:=let1 i++OK j
def M4(x:Str):Prop:=∃i j,i<26/\j<4/\x=nm i j
def GV(f s a:Nat):List Str:=(List.range a).map λk=>nm ((f+s*k)%26) ((f+k)%4)
def F_:∀i,i<26->∀j,j<4->PyData.strOk (nm i j)=true/\(nm i j).length<=8/\(let1 i).length=1:=by decide +kernel
def Hy:∀i,i<26->∀a,a<26->∀j,j<4->∀b,b<4->nm i j=nm a b->i=a:=by decide +kernel
def Gz:∀f,f<26->∀s∈([1,3,5,7,9,11]:List Nat),((List.range 24).map λk=>(f+s*k)%26).Nodup:=by decide +kernel
def Gv{f s m:Nat}(e:f<26)(g:s∈([1,3,5,7,9,11]:List Nat))(d:m<=24):(GV f s m).Nodup:=by
 let h:=Gz f e s g
 rw[List.nodup_iff_pairwise_ne,List.pairwise_map] at h
 unfold GV
 rw[List.nodup_iff_pairwise_ne,List.pairwise_map]
 have c:(List.range m).Sublist (List.range 24):=List.range_sublist.mpr d
 show(h.sublist c).imp λ{a b} hne z=>hne ?_
 show Hy _ (Nat.mod_lt _ (!1)) _ (Nat.mod_lt _ (!1)) _ (Nat.mod_lt _ (!1)) _ (Nat.mod_lt _ (!1)) z
def J7{f s m:Nat}:∀x∈GV f s m,M4 x:=λx a=>by
 let#[k,_,rfl]:=Qkq.mp a
 show#[_,_,Nat.mod_lt _ (!1),Nat.mod_lt _ (!1),L]
def Lh:∀i:Nat,i<26->mO lets.cps.toList (i:Int)=some (lets.cps.toList.getD i 0):=by decide +kernel
def LR:∀j:Nat,j<4->mO (([.str "",.str "zz",.str "x",.str "qqqqqqq"]:List D)) (j:Int)=some (.str (OK j)):=by
 intro j a
 rcases j with _|_|_|_|j
 ·rfl
 ·rfl
 ·rfl
 ·rfl
 ·omega
def G6:∀j,(OK j).length<=7:=by
 intro j
 rcases j with _|_|_|_|j
 ·decide
 ·decide
 ·decide
 ·decide
 ·show(Str.length (Lk.getD (j+4) ""))<=7
  simp[Lk]
  decide
def N6{S:aE}{z:Str}{i:Int}{c:Nat}{Q:D->Prop}(hl:z.length<=sizeLine)(h:mO z.cps.toList i=some c)(q:Q (.str #[(List.toArray [c])])):Op (kL S (.str z) (.int i)) Q:=#[_,by erw[kL];rw[Qhq hl,h];rfl,q]
def Lf{d:D}(h:d∈([.int 1,.int 3,.int 5,.int 7,.int 9,.int 11]:List D)):∃s:Nat,s∈([1,3,5,7,9,11]:List Nat)/\d=.int s:=by
 erw[Qsq,QXq,or_false] at h
 rcases h with rfl|rfl|rfl|rfl|rfl|rfl
 ·show#[1,by decide,L]
 ·show#[3,by decide,L]
 ·show#[5,by decide,L]
 ·show#[7,by decide,L]
 ·show#[9,by decide,L]
 ·show#[11,by decide,L]
def Fb{S S0:aE}{k e:Nat}{Q:Res->aE->Prop}(x:Ex k S0 S)(K:e<=24)
  (h:∀(ws:X6) (g:aE),ws.Nodup->ws.Pairwise rq->ws.length=e->(∀z∈ws,M4 z)->Ex k S0 g->Ex k S g->g.length=S.length->Q (.l (ws.map D.str)) g):Fn gE [.ref k,.int e] S Q:=by
 have y:Ex k S S:=by let#[a,b,c,I]:=x.pot;show Ex.refl I
 let P:=x.lt
 show bR ?_
 unfold lW
 show aG (cf (eG ?_))
 apply aG (FK ?_)
 show cG y (!1) (!1) λf Y W M R X=>?_
 dsimp only[bI,bo,bF,cI,cP,g8]
 show ax (eS (n:=6) (xs:= [.int 1,.int 3,.int 5,.int 7,.int 9,.int 11]) L M (!1) (!1) L (by symm;show#[L,L]) λd U q F w Z=>?_)
 let#[s,v,rfl]:=Lf q
 have u:s<12:=by
  erw[Qsq,QXq,or_false] at v
  omega
 apply aN #[_,_,L,?_]
 apply gL (kM ?_)
 show#[(e:Int),L,by omega,?_]
 show#[λi p g m=>(∃o:Option D,p= [o,some (.str "abcdefghijklmnopqrstuvwxyz"),some (.int f),some (.int s)])/\Ex k S g/\m=(GV f s i).map D.str,#[#[none,L],F,L],λ_ _ _ _ _=>trivial,?_,?_]
 ·rintro i d p g m q ⟨⟨o,rfl⟩,e4,rfl⟩
  let J:=(gQs.mp q).1
  erw[jt,lQm,QVq] at J
  obtain rfl:d=.int i:=by
   erw[jt,gQm] at q
   let#[j,N,rfl]:=oQm.mp q
   have:=(gQs.mp N).2
   simp at this
   subst this
   simp
  apply aQ ?_
  rw[Qhq L]
  symm
  apply qO (.inl #[by omega,by omega]) ?_
  show oY (!1) ?_
  have C:((f:Int)+(s:Int)*(i:Int))%26=(((f+s*i)%26:Nat):Int):=by push_cast;rfl
  rw[C]
  have r:(f+s*i)%26<26:=Nat.mod_lt _ (!1)
  apply N6 (!1) (Lh _ r) ?_
  apply#[by decide,?_]
  show oY (!1) ?_
  have H:((f:Int)+(i:Int))%4=(((f+i)%4:Nat):Int):=by push_cast;rfl
  rw[H]
  have B:(f+i)%4<4:=Nat.mod_lt _ (!1)
  show dW aW (LR _ B) ?_
  show J4 (QAq (show(let1 ((f+s*i)%26)).length+(OK ((f+i)%4)).length<=8 by have:=(F_ _ r 0 (!1)).2.2;have:=G6 ((f+i)%4);omega) (!1)) ?_
  show#[Qqq (show _<64 by erw[GV,lQm,QVq];omega) (!1),#[_,L],e4.app,?_]
  erw[GV,List.range_succ,Qzq,QDq,List.map_nil]
  rfl
 ·rintro p g m ⟨-,e4,rfl⟩
  have A:(jt 0 (e:Int)).length=e:=by erw[jt,lQm,QVq];omega
  show T _ _ (g++ [O.lst ((GV f s (jt 0 (e:Int)).length).map D.str)]) _
  rw[A]
  symm
  apply Ku ?_
  show bN aW ?_
  show#[L,GV f s e,L,by erw[GV,lQm,QVq];omega,?_]
  let t:=lF (GV f s e)
  show NS e4.app P (aZ λ_ _=>rfl) λa b c=>?_
  show h _ _ (t.symm.nodup (Gv (!0) v K)) (ja _) (by rw[t.length_eq];simp[GV]) (λz G=>J7 z (t.mem_iff.mp G)) x.set y.set (by simp)
end W28
namespace DL
open L2
def yK{a:cv}{S:aE}{f g:et}{Q:List D->aE->Prop}(h:E f a S λp b=>E g a b λr S2=>(p.2.isM=true/\r.2.isM=true/\p.2.stays S2 p.1/\p.1.length+r.1.length<=sizeLine)/\Q (p.1++r.1) S2):E (uT f g) a S Q:=by
 let#[p,b,c,r,S2,d,l,q]:=h
 show#[_,S2,by unfold uT;rw[c];erw[Qbq];rw[d];erw[Qbq];rw[Qhq l],q]
def gV{S:aE}{i j:Int}{Q:D->Prop}(q:Q (.bl (decide (i=j)))):Op (gk false S (.int i) (.int j)) Q:=#[_,by refine((if_pos (c:=Ba (.int i) (.int j)=true) (e:=none) rfl).trans ?_);simp,q]
def iy{S:aE}{i j:Str}{Q:D->Prop}(q:Q (.bl (decide (i=j)))):Op (gk false S (.str i) (.str j)) Q:=#[_,by refine((if_pos (c:=Ba (.str i) (.str j)=true) (e:=none) rfl).trans ?_);simp,q]
section
variable{a:cv}{S:aE}
def Aw{v i:Nat}{ds:List D}(d:a[v]?=some (some (.ref i)))(c:S[i]?=some (.lst ds)):E (aJ (fX (aS (au v)))) a S λb e=>e=S/\b= !ds.isEmpty:=
 bJ (Cc (cn (aw d (bN c #[#[L,c],L,L]))))
def DW{v:Nat}{w m:Int}(c:a[v]?=some (some (.int w))):E (aJ (bp Fo (au v) (cF (.int m)))) a S λb d=>d=S/\b=decide (w<m):=
 bJ (cy (aw c (eG (xC #[L,L]))))
def A8{v:Nat}{w m:Int}(c:a[v]?=some (some (.int w))):E (aJ (bp (gk false) (au v) (cF (.int m)))) a S λb d=>d=S/\b=decide (w=m):=
 bJ (cy (aw c (eG (gV #[L,L]))))
def mT{i j:Int}{Q:D->Prop}(q:Q (.bl (!decide (i=j)))):Op (gk true S (.int i) (.int j)) Q:=#[_,by refine((if_pos (c:=Ba (.int i) (.int j)=true) (e:=none) rfl).trans ?_);simp,q]
def MI{v:Nat}{w m:Int}(c:a[v]?=some (some (.int w))):E (aJ (bp (gk true) (au v) (cF (.int m)))) a S λb d=>d=S/\b= !decide (w=m):=
 bJ (cy (aw c (eG (mT #[L,L]))))
def ug{f g:iH}{p q:Bool}(d:E f a S λb c=>c=S/\b=p)(i:E g a S λb c=>c=S/\b=q):E (j3 f g) a S λb c=>c=S/\b=(p&&q):=
 qv (d.mono λb c h=>by
  let#[e,j]:=h
  subst e j
  cases b with
  |true=>rw[Qhq L];show i
  |false=>rw[Quq (!1)];show#[L,L])
def Pt{f g:iH}{p q:Bool}(d:E f a S λb c=>c=S/\b=p)(i:E g a S λb c=>c=S/\b=q):E (EJ f g) a S λb c=>c=S/\b=(p||q):=
 sQ (d.mono λb c h=>by
  let#[e,j]:=h
  subst e j
  cases b with
  |true=>rw[Qhq L];show#[L,L]
  |false=>rw[Quq (!1)];show i)
def iT{c:iH}{f:cO}{Q:Out->Prop}{b:Bool}(j:E c a S λx e=>e=S/\x=b)(i:b=true->T f a S Q)(d:b=false->Q (.nx a S)):T (eY c f fE) a S Q:=
 dB (j.mono λx e h=>by
  let#[g,k]:=h
  subst g k
  show bc (λz=>i z) (λz=>cx (d z)))
end
def nE{α:Type}{f:α->D}{l:List α}(h:(!(l.map f).isEmpty)=true):0<l.length:=by
 cases l with
 |nil=>cases h
 |cons a r=>simp
end DL
namespace W28
open L2 DL
noncomputable def ops:List Str:= ["plus","minus","less","same","both"]
inductive Tr where
 |num (n:Nat)|word (x:Str)|waits (b:Str)|no (t:Tr)|two (o:Str) (a b:Tr)
noncomputable def Tr.d:Tr->D
 |.num n=>.int n
 |.word x=>.str x
 |.waits b=>.tup [.str "waits",.str b]
 |.no t=>.tup [.str "not",t.d]
 |.two o a b=>.tup [.str o,a.d,b.d]
def Tr.Ok(ws bs:X6):Tr->Prop
 |.num n=>n<=9
 |.word x=>x∈ws
 |.waits b=>b∈bs
 |.no t=>t.Ok ws bs
 |.two o a b=>o∈ops/\a.Ok ws bs/\b.Ok ws bs
noncomputable def Tr.dep:Tr->Nat
 |.num _=>1
 |.word _=>1
 |.waits _=>1
 |.no t=>t.dep+1
 |.two _ a b=>max a.dep b.dep+1
theorem Tr.low:∀t:Tr,cj 0 t.d=true
 |.num _=>rfl
 |.word _=>rfl
 |.waits _=>rfl
 |.no t=>by erw[Tr.d,cj,bC];rw[t.low];rfl
 |.two _ a b=>by erw[Tr.d,cj,bC];rw[a.low,b.low];rfl
def Tr.noref(t:Tr):∀k,t.d≠.ref k:=by
 intro k
 cases t <;>simp[Tr.d]
theorem BD:∀(n:Nat) {S S0:aE} {k i j:Nat} {ws bs:X6} {deep:Nat} {Q:Res->aE->Prop} (x:Ex k S0 S) (hi:i≠k) (C:j≠k) (W:S[i]?=some (.lst (ws.map D.str))) (K:S[j]?=some (.lst (bs.map D.str))) (N:ws.length<1000) (X:bs.length<1000) (Y:deep<n)
  (h:∀(t:Tr) (f:aE),t.Ok ws bs->t.dep<=deep+1->Ex k S0 f->Ex k S f->f.length=S.length->Q (.d t.d) f),Fn (a_ n) [.ref k,.ref i,.ref j,.int deep] S Q
 |0,_,_,_,_,_,_,_,_,_,_,_,_,_,_,_,_,Y,_=>absurd Y (Nat.not_lt_zero _)
 | n+1,S,S0,k,i,j,ws,bs,deep,Q,x,hi,C,W,K,N,X,Y,h=>by
   have y:Ex k S S:=by let#[a,b,c,hh]:=x.pot;show Ex.refl hh
   have g:∀(t:Tr) (f:aE),t.Ok ws bs->t.dep<=deep+1->Ex k S f->Op (settle S t.d f) λp=>Q p.1 p.2:=λt f P h2 e=>zx e x.lt t.noref (gA t.low) λa b c=>h _ _ P h2 x.set y.set (by simp)
   have go:∀{R:Res->aE->Prop} {I:aE},Ex k S I->1<=deep->(∀(t:Tr) (f:aE),t.Ok ws bs->t.dep<=deep->Ex k S f->R (.d t.d) f)->Fn (a_ n) [.ref k,.ref i,.ref j,.int ((deep:Int)-1)] I R:=by
     intro R I q hd hR
     have e:((deep:Int)-1)=((deep-1:Nat):Int):=by omega
     rw[e]
     show BD n q hi C (q.keep _ _ hi W) (q.keep _ _ C K) N X (!0) λt f P h2 h3 _ _=>hR t f P (!0) h3
   show bR ?_
   unfold jf
   symm
   show cG y (!1) (!1) λl S1 a0 r _ l1=>?_
   let B:=r.keep _ _ hi W
   let F:=r.keep _ _ C K
   show aG (iT (Pt (A8 (w:=(deep:Int)) L) (DW (w:=(l:Int)) L)) (λ_=>?_) λs=>?_)
   · show aG (iT (ug (Aw L B) (MI (w:=(l:Int)) L)) (λhc=>?_) λ_=>?_)
     · have m:=nE (QCq _ _▸hc).1
       show dk (jb L L r hi B (by rw[lQm];show m) (by rw[lQm];show N) λv S4 H G _ l4=>?_)
       let#[z,U,rfl]:=Qkq.mp H
       show g (.word z) _ U (by show 1<=deep+1;omega) G
     · symm
       show cG r (!1) (!1) λv S3 H Z _ l3=>?_
       show g (.num v) _ (by show v<=9;omega) (by show 1<=deep+1;omega) Z
   have u:1<=deep:=by
     rw[Bool.or_eq_false_iff] at s
     have:=QaQ s.1
     omega
   show aG (iT (ug (Aw L F) (A8 (w:=(l:Int)) L)) (λhc=>?_) λ_=>?_)
   · have m:=nE (QCq _ _▸hc).1
     show dk (dH (ax (eG (ax (jb L L r C F (by rw[lQm];show m) (by rw[lQm];show X) λv S4 H G _ l4=>aN #[by show 2<=_;decide,?_])))))
     let#[z,U,rfl]:=Qkq.mp H
     show g (.waits z) _ U (by show 1<=deep+1;omega) G
   symm
   show go r u λJ I A a1 q=>?_
   show aG (iT (A8 (w:=(l:Int)) L) (λ_=>?_) λ_=>?_)
   · symm
     show#[by show 2<=_;decide,?_]
     show g (.no J) _ A (by show J.dep+1<=deep+1;omega) q
   show aG (cf (eS (n:=5) (xs:=ops.map D.str) L q (!1) (!1) L (by symm;show#[L,L]) λd S3 hd Z _ l3=>?_))
   let#[o,ho,rfl]:=Qkq.mp hd
   symm
   apply go Z u λt2 S4 M a2 G=>?_
   show#[by show 3<=_;decide,?_]
   show g (.two o J t2) _ #[ho,A,M] (by show max J.dep t2.dep+1<=deep+1;omega) G
inductive Rw where
 |put (x:Str) (t:Tr)|unl (t:Tr) (n:Nat)|go (n:Nat)|do_ (g:Option Str) (r d:Str) (t:Tr)|wait (b:Str) (t:Tr)|call (b:Str)|all (b:Str)|tell (t:Tr)
 |take (p:Str)|give (p:Str)|pass (p q:Str)|say (t:Tr)
noncomputable def F4:Option Str->D
 |none=>.non
 |some x=>.str x
def Rw.d:Rw->D
 |.put x t=>.tup [.str "put",.str x,t.d]
 |.unl t n=>.tup [.str "unless",t.d,.int n]
 |.go n=>.tup [.str "go",.int n]
 |.do_ g r d t=>.tup [.str "do",F4 g,.str r,.str d,t.d]
 |.wait b t=>.tup [.str "wait",.str b,t.d]
 |.call b=>.tup [.str "call",.str b]
 |.all b=>.tup [.str "all",.str b]
 |.tell t=>.tup [.str "tell",t.d]
 |.take p=>.tup [.str "take",.str p]
 |.give p=>.tup [.str "give",.str p]
 |.pass p q=>.tup [.str "pass",.str p,.str q]
 |.say t=>.tup [.str "say",t.d]
structure Sc where
 own:Bool
 ws:List Str
 ps:List Str
 bs:List Str
 gs:List (Str×Str)
 ts:List Str
def HV(a:Sc)(t:Tr):Prop:=t.Ok a.ws a.bs/\t.dep<=4
def Rw.Ok(a:Sc)(n:Nat):Rw->Prop
 |.put x t=>x∈a.ps/\HV a t
 |.unl t m=>HV a t/\m<=n
 |.go m=>m<=n
 |.do_ g r d t=>(∀x,g=some x->x∈a.ps)/\(r,d)∈a.gs/\HV a t
 |.wait b t=>a.own=false/\b∈a.bs/\HV a t
 |.call b=>a.own=false/\b∈a.bs
 |.all b=>a.own=false/\b∈a.bs
 |.tell t=>a.own=false/\HV a t
 |.take p=>a.own=true/\p∈a.ts
 |.give p=>a.own=true/\p∈a.ts
 |.pass p q=>a.own=true/\p∈a.ts/\q∈a.ts
 |.say t=>a.own=true/\HV a t
theorem Rw.low(r:Rw):cj 0 r.d=true:=by
 cases r with
 |do_ g r d t=>cases g <;>erw[Rw.d,cj,bC,F4,t.low,Bool.and_true,Bool.true_and]
 |_=>erw[Rw.d,cj,bC,Tr.low,Bool.and_true,Bool.true_and]
def yC(a:Sc)(rs:List Rw):Prop:=∀r∈rs,r.Ok a rs.length
noncomputable def cp(g:Str×Str):D:=.tup [.str g.1,.str g.2]
theorem GC:∀a:List Str,iG (a.map D.str)=some (a.map V.str)
 | []=>rfl
 |s::a=>by erw[QDq,iG];rw[GC a];rfl
def M5{d:cv}{S:aE}{a:Bool}{f g:et}{Q:D->aE->Prop}(h:E f d S λp e=>E g d e λr S2=>(p.2.isL=true/\r.2.isL=true/\p.2.stays S2 p.1)/\∃b vs,iG p.1=some b/\iG r.1=some vs/\Q (.bl (if a then !Eo b vs else Eo b vs)) S2):E (eqQ a f g) d S Q:=by
 let#[p,e,j,r,S2,i,c,b,vs,k,l,q]:=h
 show#[_,S2,by unfold eqQ;rw[j];erw[Qbq];rw[i];erw[Qbq];rw[Qhq c,k];erw[Qbq];rw[l];rfl,q]
def Jq{d:cv}{S:aE}{v i:Nat}{a:X6}(e:d[v]?=some (some (.ref i)))(c:S[i]?=some (.lst (a.map D.str))):E (aJ (eqQ false (aS (au v)) (fM (bA av)))) d S λb f=>f=S/\b=a.isEmpty:=
 bJ (M5 (cn (aw e (bN c (iI (c_ (aN #[by show 0<=_;decide,#[L,L,c],_,_,GC a,L,L,by cases a <;>rfl])))))))
noncomputable def cX:List Str:= ["given"]
def Gx{n:cv}{S S0:aE}{k v i:Nat}{e:X6}{Q:D->aE->Prop}(t:n[0]?=some (some (.ref k)))(q:n[v]?=some (some (.ref i)))(x:Ex k S0 S)(hi:i≠k)(o:S[i]?=some (.lst (e.map D.str)))(C:e.length<900)
  (h:∀(g:Option Str) (f:aE),(∀z,g=some z->z∈e)->Ex k S0 f->Ex k S f->f.length=S.length+1->Q (F4 g) f):
  E (bp kL (bE (uT (aS (au v)) (fM (bA (ar (cF .non) av))))) (az aB (ar (au 0) (ar (bp bW (ee (aS (au v))) (cF (.int 1))) av)))) n S Q:=by
 show cy (dG (yK (cn (aw q (bN o (iI (c_ (ax (eG (aN #[by show 1<=_;decide,#[L,L,o,nQl (aM (by rw[lQm];show e.length+1<=1000;omega))],?_]))))))))))
 show bX (ax (aw t (ax (cy (lg (cn (aw q (bN (bq o) (eG (pq (aN ?_)))))))))))
 let F:=x.lt
 show cG (x.app (G:= [O.lst (e.map D.str++ [.non])])) (by rw[lQm];omega) (by rw[lQm];omega) λd f s A p l=>?_
 rw[lQm] at s
 have y:Ex k S S:=by let#[a,b,c,w]:=x.pot;show Ex.refl w
 have j:∀g:Option Str,(∀z,g=some z->z∈e)->(e.map D.str++ [D.non])[d]?=some (F4 g)->Op (kL f (.ref S.length) (.int d)) λr=>Q r f:=λg u B=>
  dW (p.keep _ _ (!0) aW) (aR B) (h g f u A (y.app.trans p) (by rw[l];simp))
 by_cases c:d<e.length
 ·show j (some e[d]) (λz m=>by cases m;show List.getElem_mem c) (by rw[QHq (by simpa using c),gQm,gQe c];rfl)
 ·have:d=e.length:=by omega
  show j none (λz m=>(nomatch m)) (by rw[QQq (by simp;omega),this];simp;rfl)
def zC{S S0:aE}{k th bl N i f:Nat}{ths lD:X6}{gs:List (Str×Str)}{mn:Str}{Q:Res->aE->Prop}(x:Ex k S0 S)(h1:th≠k)(h2:bl≠k)(h3:N≠k)
  (ht:S[th]?=some (.lst (ths.map D.str))) (hb:S[bl]?=some (.lst (lD.map D.str))) (hg:S[N]?=some (.lst (gs.map cp))) (l1:ths.length<900) (l2:lD.length<900) (l3:gs.length<900) (hr:i<f) (hs:f<1000)
  (h:∀(r:Rw) (A:aE),r.Ok #[false,ths++cX,ths,lD,gs,[]] f->Ex k S0 A->Ex k S A->A.length=S.length->Q (.d r.d) A):
  Fn eN [.ref k,.tup [.ref th,.ref bl,.str mn],.tup [.int i,.int f],.ref N] S Q:=by
 have y:Ex k S S:=by let#[a,b,c,hh]:=x.pot;show Ex.refl hh
 let kl:=x.lt
 have B:∀(r:Rw) (A:aE),r.Ok ⟨false,ths++cX,ths,lD,gs,[]⟩ f->Ex k S A->Op (settle S r.d A) λp=>Q p.1 p.2:=λr A h1 e=>zx e kl (λk z=>by cases r <;>cases z) (gA r.low) λa b c=>h _ _ h1 x.set y.set (by simp)
 show bR ?_
 unfold ib
 symm
 show dJ L (ay (aQ (ay (aQ (ay (aQ (bg ?_)))))))
 show aG (cf (dG (yK (cn (aw L (bN ht (iI (c_ (ax (eG (aN #[by show 1<=_;decide,#[L,L,ht,nQl (aM (by rw[lQm];show ths.length+1<=1000;omega))],?_])))))))))))
 have en:ths.map D.str++ [D.str "given"]=(ths++cX).map D.str:=by rw[Qzq];rfl
 rw[en]
 have X:(S++ [O.lst ((ths++cX).map D.str)])[S.length]?=some (.lst ((ths++cX).map D.str)):=aW
 have a1:(S++ [O.lst ((ths++cX).map D.str)])[th]?=some (.lst (ths.map D.str)):=bq ht
 have a3:(S++ [O.lst ((ths++cX).map D.str)])[bl]?=some (.lst (lD.map D.str)):=bq hb
 have a0:(S++ [O.lst ((ths++cX).map D.str)])[N]?=some (.lst (gs.map cp)):=bq hg
 have e1:Ex k S (S++ [O.lst ((ths++cX).map D.str)]):=y.app
 have nk:S.length≠k:=by omega
 generalize (S++ [O.lst ((ths++cX).map D.str)])=S1 at X a1 a3 a0 e1|-
 generalize S.length=nl at X nk|-
 have ln:(ths++cX).length<1000:=by rw[lQa];show ths.length+1<1000;omega
 symm
 show cG e1 (!1) (!1) λH S2 b0 P K b2=>?_
 let a9:=K.keep _ _ nk X
 let Y:=K.keep _ _ h1 a1
 let F:=K.keep _ _ h2 a3
 let a2:=K.keep _ _ h3 a0
 have I:∀{deep:Nat} {R:Res->aE->Prop} {W:aE},deep<=2->Ex k S W->Ex k S2 W->(∀(t:Tr) (A:aE),HV #[false,ths++cX,ths,lD,gs,[]] t->Ex k S A->Ex k W A->R (.d t.d) A)->Fn (a_ 3) [.ref k,.ref nl,.ref bl,.int deep] W R:=λ{deep R W} hd e3 q hR=>
  BD 3 e3 nk h2 (q.keep _ _ nk a9) (q.keep _ _ h2 F) ln (!0) (!0) λt A ok dp C o _=>hR t A #[ok,by omega] C o
 have y2:Ex k S2 S2:=by let#[a,b,c,hh]:=P.pot;show Ex.refl hh
 have Z:∀{Γ:cv} {R:D->aE->Prop},Γ[0]?=some (some (.ref k))->Γ[5]?=some (some (.ref bl))->0<lD.length->(∀(z:Str) (A:aE),z∈lD->Ex k S A->Ex k S2 A->R (.str z) A)->E (bp kL (au 5) (az aB (ar (au 0) (ar (ee (aS (au 5))) av)))) Γ S2 R:=λg0 g5 j hR=>
  jb g0 g5 P h2 F (by rw[lQm];show j) (by rw[lQm];omega) λv S4 U C o _=>by
   let#[z,M,rfl]:=Qkq.mp U
   show hR z S4 M C o
 show aG (iT (ug (DW (w:=(H:Int)) L) (Aw L F)) (λJ=>?_) λ_=>?_)
 ·let j:=nE (QCq _ _▸J).2
  apply dk (dH (ax (eG (ax (Z L L j λz W M e3 q=>ax (bX ?_))))))
  apply I (deep:=1) (!1) e3 q λt S4 s C _=>?_
  show⟨by show 3<=_;decide,?_⟩
  show B (.wait z t) _ ⟨rfl,M,s⟩ C
 show aG (iT (ug (DW (w:=(H:Int)) L) (Aw L F)) (λJ=>?_) λ_=>?_)
 ·let j:=nE (QCq _ _▸J).2
  symm
  show⟨by show 2<=_;decide,?_⟩
  symm
  apply iy ?_
  obtain⟨z,M,c,a7,a6⟩:∃z:Str,(z="call" \/z="all")/\∃c:Int,intOfD [.bl (decide (mn="when free"))]=some (.int c)/\mO ([.str "call",.str "all"]:List D) c=some (.str z):=by
   by_cases c:mn="when free"
   ·show⟨"all",.inr L,1,by rw[Qeq c];rfl,L⟩
   ·show⟨"call",.inl L,0,by rw[Qdq c];rfl,L⟩
  show⟨_,a7,?_⟩
  apply dW aW a6 ?_
  show⟨by show 2<=_;decide,?_⟩
  symm
  let b1:=P.lt
  show cG ((P.app (G:= [O.lst [.str "call",.str "all"]])).app (G:= [O.lst [.str "call",.str z]])) (!1) (!1) λv W U e3 q l3=>?_
  dsimp only[bI,bo,bF,cI,cP,g8]
  obtain⟨u,hu,ha⟩:∃u:Str,(u="call" \/u="all")/\mO ([.str "call",.str z]:List D) (v:Int)=some (.str u):=by
   rcases(by omega:v=0\/v=1) with rfl|rfl
   ·show#["call",.inl L,L]
   ·show#[z,M,L]
  show dW (q.keep _ _ (by simp;omega) aW) ha ?_
  let a4:=q.keep _ _ h2 (bq (bq F))
  show dk (dH (ax (aw L (ax (jb L L e3 h2 a4 (by rw[lQm];show j) (by rw[lQm];omega) λv S4 U C o _=>aN #[by show 2<=_;decide,?_])))))
  let#[b,hb,rfl]:=Qkq.mp U
  rcases hu with rfl|rfl
  ·show B (.call b) _ #[L,hb] C
  ·show B (.all b) _ #[L,hb] C
 show aG (iT (ug (DW (w:=(H:Int)) L) (Aw L a2)) (λJ=>?_) λ_=>?_)
 ·let j:=nE (QCq _ _▸J).2
  show aG (xh (jb L L P h3 a2 (by rw[lQm];show j) (by rw[lQm];omega) λv S4 U C o _=>?_))
  let#[z,M,rfl]:=Qkq.mp U
  show dJ L (ay (aQ (ay (aQ (bg ?_)))))
  apply aG (cf (Gx L L C h1 (o.keep _ _ h1 Y) l1 λg S5 a8 e5 a5 _=>?_))
  apply I (deep:=1) (!1) e5 (o.trans a5) λt S6 s e6 _=>?_
  show⟨by show 5<=_;decide,?_⟩
  show B (.do_ g z.1 z.2 t) _ ⟨a8,M,s⟩ e6
 show aG (iT (A8 (w:=(H:Int)) L) (λJ=>?_) λ_=>?_)
 ·symm
  apply I (deep:=1) (!1) P y2 λt S6 s e6 _=>?_
  show⟨by show 2<=_;decide,?_⟩
  show B (.tell t) _ ⟨rfl,s⟩ e6
 show aG (iT (A8 (w:=(H:Int)) L) (λJ=>?_) λ_=>?_)
 ·symm
  apply aA L ?_
  apply aA L ?_
  apply aA L ?_
  rw[show(f:Int)-(i:Int)=((f-i:Nat):Int) by omega]
  apply cG P (!0) (!0) λv W U e3 q _=>?_
  rw[show(i:Int)+1+(v:Int)=((i+1+v:Nat):Int) by omega]
  show I (deep:=2) (!1) e3 q λt S4 s C _=>?_
  show ax (eS (n:=3) (xs:= [.int (i+1+v:Nat),.int (i+1+v:Nat),.int 0]) L C (!1) (!1) L (by symm;show⟨rfl,L⟩) λd S5 hd e5 _ _=>?_)
  obtain⟨m,hm,rfl⟩:∃m:Nat,m<=f/\d=.int m:=by
   erw[Qsq,QXq,or_false] at hd
   rcases hd with rfl|rfl|rfl
   ·show#[i+1+v,by omega,L]
   ·show#[i+1+v,by omega,L]
   ·show#[0,by omega,L]
  symm
  show#[by show 3<=_;decide,?_]
  show B (.unl t m) _ #[s,hm] e5
 show aG (iT (Jq L Y) (λJ=>?_) λJ=>?_)
 ·symm
  show#[by show 2<=_;decide,?_]
  show B (.tell (.word "given")) _ #[L,by show _∈ths++cX;simp[cX],by show 1<=4;decide] P
 have j:0<ths.length:=by
  cases ths with
  |nil=>cases J
  |cons a l=>simp
 show dk (dH (ax (eG (ax (jb L L P h1 Y (by rw[lQm];show j) (by rw[lQm];omega) λv S4 U C o _=>ax (bX ?_))))))
 let#[z,M,rfl]:=Qkq.mp U
 symm
 apply I (deep:=2) (!1) C o λt S5 s e5 _=>?_
 show#[by show 3<=_;decide,?_]
 show B (.put z t) _ #[M,s] e5
def zA{S S0:aE}{k ow pa de i f:Nat}{s K:X6}{gs:List (Str×Str)}{Q:Res->aE->Prop}(x:Ex k S0 S)(M:ow≠k)(h2:pa≠k)(h3:de≠k)
  (ho:S[ow]?=some (.lst (s.map D.str))) (hp:S[pa]?=some (.lst (K.map D.str))) (hg:S[de]?=some (.lst (gs.map cp))) (l1:s.length<900) (l2:K.length<900) (l3:gs.length<900) (hr:i<f) (hs:f<1000)
  (h:∀(r:Rw) (u:aE),r.Ok #[true,s,s,[],gs,K] f->Ex k S0 u->Ex k S u->u.length=S.length->Q (.d r.d) u):
  Fn eK [.ref k,.ref ow,.ref pa,.tup [.int i,.int f],.ref de] S Q:=by
 have y:Ex k S S:=by let#[a,b,c,hh]:=x.pot;show Ex.refl hh
 let kl:=x.lt
 have B:∀(r:Rw) (u:aE),r.Ok ⟨true,s,s,[],gs,K⟩ f->Ex k S u->Op (settle S r.d u) λp=>Q p.1 p.2:=λr u M e=>zx e kl (λk z=>by cases r <;>cases z) (gA r.low) λa b c=>h _ _ M x.set y.set (by simp)
 show bR ?_
 unfold ie
 symm
 show cG y (!1) (!1) λW S2 b0 e2 a0 b3=>?_
 let U:=a0.keep _ _ M ho
 let a1:=a0.keep _ _ h2 hp
 let a2:=a0.keep _ _ h3 hg
 have y2:Ex k S2 S2:=by let#[a,b,c,hh]:=e2.pot;show Ex.refl hh
 have Y:∀{deep:Nat} {R:Res->aE->Prop} {P:aE},deep<=2->Ex k S P->Ex k S2 P->(∀(t:Tr) (u:aE),HV #[true,s,s,[],gs,K] t->Ex k S u->Ex k P u->R (.d t.d) u)->Fn (a_ 3) [.ref k,.ref ow,.ref P.length,.int deep] (P++ [O.lst []]) R:=λ{deep R P} X e3 C hR=>by
  have y3:Ex k P P:=by let#[a,b,c,hh]:=e3.pot;show Ex.refl hh
  let l3:=e3.lt
  show BD (bs:= []) 3 e3.app M (!0) (bq (C.keep _ _ M U)) aW (!0) (!1) (!0) λt u ok dp I j _=>hR t u #[ok,by omega] I (y3.app.trans j)
 show aG (iT (ug (DW (w:=(W:Int)) L) (Aw L a2)) (λZ=>?_) λ_=>?_)
 ·let A:=nE (QCq _ _▸Z).2
  show aG (xh (jb L L e2 h3 a2 (by rw[lQm];show A) (by rw[lQm];omega) λv J hv I j _=>?_))
  let#[z,hz,rfl]:=Qkq.mp hv
  show dJ L (ay (aQ (ay (aQ (bg ?_)))))
  apply aG (cf (Gx L L I M (j.keep _ _ M U) l1 λg S5 a7 H F _=>?_))
  show#[by show 0<=_;decide,?_]
  symm
  apply Y (deep:=1) (!1) H (j.trans F) λt S6 G e6 _=>?_
  show#[by show 5<=_;decide,?_]
  show B (.do_ g z.1 z.2 t) _ #[a7,hz,G] e6
 show aG (iT (ug (DW (w:=(W:Int)) L) (Aw L a1)) (λZ=>?_) λ_=>?_)
 ·let A:=nE (QCq _ _▸Z).2
  show aG (Gm (ax (jb L L e2 h2 a1 (by rw[lQm];show A) (by rw[lQm];omega) λv J hv I j _=>ax (jb L L I h2 (j.keep _ _ h2 a1) (by rw[lQm];show A) (by rw[lQm];omega) λv' S5 a6 H F _=>aN #[_,_,L,?_]))))
  let#[z,hz,rfl]:=Qkq.mp hv
  let#[z',a4,rfl]:=Qkq.mp a6
  show dk (eS (n:=3) (xs:= [(Rw.take z).d,(Rw.give z).d,(Rw.pass z z').d]) L H (!1) (!1) L ?_ λd S6 X e6 _ _=>?_)
  ·symm
   show⟨by show 2<=_;decide,?_⟩
   symm
   show⟨by show 2<=_;decide,?_⟩
   symm
   show⟨by show 3<=_;decide,?_⟩
   symm
   show⟨rfl,L⟩
  ·erw[Qsq,QXq,or_false] at X
   rcases X with rfl|rfl|rfl
   ·show B (.take z) _ ⟨rfl,hz⟩ e6
   ·show B (.give z) _ ⟨rfl,hz⟩ e6
   ·show B (.pass z z') _ ⟨rfl,hz,a4⟩ e6
 symm
 apply aA L ?_
 apply aA L ?_
 apply aA L ?_
 rw[show(f:Int)-(i:Int)=((f-i:Nat):Int) by omega]
 show cG e2 (!0) (!0) λv P hv e3 C b1=>?_
 show pq ?_
 rw[show(i:Int)+1+(v:Int)=((i+1+v:Nat):Int) by omega]
 have a9:i+1+v<=f:=by omega
 let a5:=C.keep _ _ M U
 show aG (iT (A8 (w:=(W:Int)) L) (λZ=>?_) λ_=>?_)
 ·symm
  show⟨by show 0<=_;decide,?_⟩
  symm
  show Y (deep:=2) (!1) e3 C λt J G I _=>?_
  show ax (eS (n:=3) (xs:= [.int (i+1+v:Nat),.int (i+1+v:Nat),.int 0]) L I (!1) (!1) L (by symm;show⟨rfl,L⟩) λd S5 X H _ _=>?_)
  obtain⟨m,hm,rfl⟩:∃m:Nat,m<=f/\d=.int m:=by
   erw[Qsq,QXq,or_false] at X
   rcases X with rfl|rfl|rfl
   ·show⟨i+1+v,by omega,L⟩
   ·show⟨i+1+v,by omega,L⟩
   ·show⟨0,by omega,L⟩
  symm
  show⟨by show 3<=_;decide,?_⟩
  show B (.unl t m) _ ⟨G,hm⟩ H
 show aG (iT (A8 (w:=(W:Int)) L) (λZ=>?_) λ_=>?_)
 ·show dk (dH (ax (eG (ax (eS (n:=2) (xs:= [.int (i+1+v:Nat),.int 0]) L e3 (!1) (!1) L (by symm;show⟨rfl,L⟩) λd S5 X H _ _=>aN ⟨by show 2<=_;decide,?_⟩)))))
  obtain⟨m,hm,rfl⟩:∃m:Nat,m<=f/\d=.int m:=by
   erw[Qsq,QXq,or_false] at X
   rcases X with rfl|rfl
   ·show#[i+1+v,by omega,L]
   ·show#[0,by omega,L]
  show B (.go m) _ hm H
 have a3:∀{J:aE} {N:cv},Ex k S J->Ex k S2 J->N[0]?=some (some (.ref k))->N[1]?=some (some (.ref ow))->T (cB (aY (ar (cF (.str "say")) (ar (az (a_ 3) (ar (au 0) (ar (au 1) (ar (bE (bA av)) (ar (cF (.int 1)) av))))) av)))) N J λo=>∃d u,o=.rt d u/\Op (settle S d u) λp=>Q p.1 p.2:=λ{J N} I j g0 g1=>by
  show dk (dH (ax (eG (ax (bX (ax (aw g0 (ax (aw g1 (ax (dG (c_ (aN #[by show 0<=_;decide,ax (eG (aN ?_))])))))))))))))
  show Y (deep:=1) (!1) I j λt S5 G H _=>?_
  show aN #[by show 2<=_;decide,_,_,L,?_]
  show B (.say t) _ #[L,G] H
 have a8:∀{J:aE} {N:cv},0<s.length->Ex k S J->Ex k S2 J->N[0]?=some (some (.ref k))->N[1]?=some (some (.ref ow))->T (cB (aY (ar (cF (.str "put")) (ar (bp kL (au 1) (az aB (ar (au 0) (ar (ee (aS (au 1))) av)))) (ar (az (a_ 3) (ar (au 0) (ar (au 1) (ar (bE (bA av)) (ar (cF (.int 2)) av))))) av))))) N J λo=>∃d u,o=.rt d u/\Op (settle S d u) λp=>Q p.1 p.2:=λ{J N} A I j g0 g1=>by
  show dk (dH (ax (eG (ax (jb g0 g1 I M (j.keep _ _ M U) (by rw[lQm];show A) (by rw[lQm];omega) λv S5 hv H F _=>ax (bX (ax (aw g0 (ax (aw g1 (ax (dG (c_ (aN #[by show 0<=_;decide,ax (eG (aN ?_))]))))))))))))))
  let#[z,hz,rfl]:=Qkq.mp hv
  show Y (deep:=2) (!1) H (j.trans F) λt S6 G e6 _=>?_
  show aN #[by show 3<=_;decide,_,_,L,?_]
  show B (.put z t) _ #[hz,G] e6
 show aG (dB (sQ ((Jq L a5).mono λb J qr=>?_)))
 let#[I,eb]:=qr
 subst I eb
 show bc (λZ=>?_) (λZ=>?_)
 ·rw[Qhq L]
  show(a3 e3 C L L).mono λo ⟨d,u,e,q⟩=>by subst e;show q
 ·have A:0<s.length:=by
   cases s with
   |nil=>cases Z
   |cons a l=>simp
  symm
  apply cG e3 (!1) (!1) λw S5 hw H F b2=>?_
  show gV ?_
  show bc (λ_=>?_) (λ_=>cx ?_)
  ·show(a3 H (C.trans F) L L).mono λo ⟨d,u,e,q⟩=>by subst e;show q
  ·show(a8 A H (C.trans F) L L).mono λo ⟨d,u,e,q⟩=>by subst e;show q
end W28
namespace DL
open L2
def OY{a b:cv}{d:D}(h:a.set 0 none=b.set 0 none):a.set 0 (some d)=b.set 0 (some d):=by
 have:=congrArg (λc:cv=>c.set 0 (some d)) h
 simpa using this
def JW{g:cv}{S:aE}{js:List (Option Nat)}{f:et}{e:bj}{Q:List D->aE->Prop}(F:D->D)(h:E f g S λp c=>p.2.stays c p.1/\p.1.length<=1000/\(∀d∈p.1,E e ((nZ js g).set 0 (some d)) c λy S2=>y=F d/\S2=c)/\Q (p.1.map F) c):
  E (bK js (ki f) (bD 0) bT e) g S Q:=by
 show gL (nI (h.mono λp c l=>?_))
 let#[m,hl,s,q]:=l
 show#[λn b i a=>i=c/\a=(p.1.take n).map F/\b.set 0 none=(nZ js g).set 0 none,#[L,L,L],λn b i a h=>by rw[h.1];show m,λn d b i a j h=>?_,λb i a h=>?_]
 ·let#[rfl,rfl,h3]:=h
  show aQ (gM ?_)
  rw[Qhq L,OY h3]
  show(s d (mQg j)).mono λy S2 o=>?_
  let#[r,k]:=o
  subst r k
  let t:=(gQs.mp j).1
  show#[?_,L,?_,by simp]
  ·rw[lQm,Qxq]
   show aM (!0)
  ·rw[QYq,j]
   simp
 ·let#[rfl,rfl,_]:=h
  rw[QEq]
  show q
def Nc{a:cv}{S:aE}{f:et}{g:bj}{Q:List D->aE->Prop}(h:E f a S λp b=>E g a b λr S2=>∃n:Nat,r=.int n/\(p.2.isM=true/\p.2.stays S2 p.1/\p.1.length*n<=1000/\n<=1)/\Q ((List.replicate n p.1).flatten) S2):E (yt f g) a S Q:=by
 let#[p,b,c,r,S2,d,n,rfl,#[h1,h2,h3,h4],q]:=h
 show#[_,S2,?_,q]
 unfold yt
 rw[c]
 erw[Qbq]
 rw[d]
 erw[Qbq]
 rw[Qhq #[h1,h2,by omega,by omega,by simpa using QAq h3 (!1)]]
 simp
theorem M1{c:iH}{b:cO}{Q:Out->Prop}(I:Nat->cv->aE->Prop)(i:∀m a S,I m a S->E c a S λk f=>if k=true then∃e,m=e+1/\T b a f λo=>match o with|.nx d S2=>I e d S2|_=>False else Q (.nx a f)):
  ∀(n m:Nat) (a:cv) (S:aE),m<n->I m a S->T (G3 c b n) a S Q
 |0,_,_,_,h,_=>absurd h (Nat.not_lt_zero _)
 | n+1,m,a,S,h,hi=>by
   let#[k,f,g,q]:=i m a S hi
   cases k with
   |false=>show#[_,by erw[G3];rw[g];rfl,q]
   | true=>
     let#[e,rfl,o,e2,q]:=(q:∃e,m=e+1/\T b a f _)
     cases o with
     | nx d S2=>
       let#[o,j,q]:=M1 I i n e d S2 (!0) q
       show#[o,by erw[G3];rw[g];erw[Qbq,if_true];rw[e2];show j,q]
     |_=>show q.elim
def cA{a:cv}{S:aE}{Q:Option Int->aE->Prop}(q:Q none S):E jk a S Q:=#[_,_,L,q]
def cz{b:cv}{S:aE}{f:bj}{Q:Option Int->aE->Prop}(h:E f b S λd a=>∃i,d=.int i/\Q (some i) a):E (jj f) b S Q:=by
 let#[d,a,c,i,rfl,q]:=h
 show#[_,a,by unfold jj;rw[c];rfl,q]
def JA{b:cv}{S:aE}{f:et}{lo hi:IM}{Q:List D->aE->Prop}(h:E f b S λp c=>E lo b c λl S2=>E hi b S2 λu a=>(p.2.isL=true/\p.2.stays a p.1)/\Q (fP p.1 l u) a):E (u4 f lo hi) b S Q:=by
 let#[p,c,d,l,S2,i,u,a,e,g,q]:=h
 show#[_,a,by unfold u4;rw[d];erw[Qbq];rw[i];erw[Qbq];rw[e];erw[Qbq];rw[Qhq g],q]
def K8{α:Type}{xs:List α}{i:Nat}(h:i<=xs.length):fP xs (some (i:Int)) none=xs.drop i:=by
 unfold fP
 have a:HT.dP xs.length 0 (some (i:Int))=i:=by rw[HT.rX];omega
 have b:HT.dP xs.length xs.length none=xs.length:=rfl
 rw[a,b,List.take_of_length_le (by rw[List.length_drop];omega)]
def Lj{α:Type}{xs:List α}{i:Nat}:fP xs none (some (i:Int))=xs.take i:=by
 unfold fP
 have a:HT.dP xs.length 0 none=0:=rfl
 have b:HT.dP xs.length xs.length (some (i:Int))=min i xs.length:=HT.rX ..
 rw[a,b,List.drop_zero,Nat.sub_zero]
 by_cases c:i<=xs.length
 ·rw[Nat.min_eq_left c]
 ·rw[Nat.min_eq_right (!0),QEq,List.take_of_length_le (!0)]
def zc{b:cv}{S:aE}{v i:Nat}{ws:X6}{f g:bj}{Q:List D->aE->Prop}(o:b[v]?=some (some (.ref i)))(r:S[i]?=some (.lst (ws.map D.str)))
  (h:E f b S λd e=>∃a:Nat,d=.int a/\a<=ws.length/\e[i]?=some (.lst (ws.map D.str))/\E g b e λj S2=>∃n:Nat,j=.int n/\Q (((ws.drop a).take n).map D.str) S2):
  E (u4 (fM (u4 (aS (au v)) (jj f) jk)) jk (jj g)) b S Q:=by
 show JA (iI (JA (cn (aw o (bN r (cz (h.mono λd e ⟨a,m,p,c,k⟩=>#[a,m,cA #[#[L,c],?_]])))))))
 show cA (cz (k.mono λj S2 ⟨n,l,q⟩=>#[n,l,#[L,trivial],?_]))
 show Q (fP (fP (ws.map D.str) (some (a:Int)) none) none (some (n:Int))) S2
 rw[K8 (by simpa using p),Lj,<-List.map_drop,<-List.map_take]
 show q
end DL
namespace W28
open L2 DL
noncomputable def kF(p:Str×Nat):D:=.tup [.str p.1,.int p.2]
noncomputable def IZ(p:Str×Str):D:=.tup [.str p.1,.str p.2]
def iW(p:Str×List Rw):D:=.tup [.str p.1,.tup (p.2.map Rw.d)]
def EY{q:cv}{S S0:aE}{k m:Nat}{it:sE}{Q:List D->aE->Prop}(P:List Str->Prop)(A:q.getD 0 none=some (.ref k))(J:0<m)(K:m<1000)
  (hi:E it q S λp l=>∃ws:List Str,P ws/\ws.length<=900/\p.1=ws.map D.str/\Ex k S0 l/\Ex k S l/\∀f,Ex k l f->p.2 f)
  (h:∀(ps:List (Str×Nat)) (f:aE),P (ps.map (·.1))->(∀p∈ps,p.2<m)->Ex k S0 f->Ex k S f->Q (ps.map kF) f):
  E (bK [none,some 0] it (bD 0) bT (aY (ar (au 0) (ar (az aB (ar (au 1) (ar (cF (.int m)) av))) av)))) q S Q:=by
 show gL (hi.mono λp l F=>?_)
 let#[ws,H,hl,j,x,G,s]:=F
 have y:Ex k l l:=by let#[a,b,c,C]:=x.pot;show Ex.refl C
 show#[λn i f g=>∃(o:Option D) (ps:List (Str×Nat)),i= [o,some (.ref k)]/\Ex k S0 f/\Ex k l f/\ps.map (·.1)=ws.take n/\(∀p∈ps,p.2<m)/\g=ps.map kF,#[none,[],by show [none,q.getD 0 none]=_;rw[A],x,y,L,λ_ h=>(nomatch h),L],λn i f g ⟨_,_,_,_,e,_⟩=>s f e,?_,?_]
 ·rintro n d i f g t ⟨o,ps,rfl,e0,e1,h1,h2,rfl⟩
  rw[j,gQm] at t
  let#[z,w,rfl]:=oQm.mp t
  let M:=(gQs.mp w).1
  show aQ (gM ?_)
  rw[Qhq L]
  symm
  apply cG e0 (!0) (!0) λv I N B r _=>?_
  show#[by show 2<=_;decide,?_]
  have u:ps.length=n:=by
   have:=congrArg List.length h1
   rw[lQm,Qxq] at this
   omega
  show#[by rw[lQm];show aM (!0),_,ps++ [(z,v)],L,B,e1.trans r,?_,λp j=>?_,by simp[kF]]
  ·rw[Qzq,h1,QYq,w]
   rfl
  ·rcases mQa.mp j with j|j
   ·show h2 p j
   ·rw[Qfq.mp j];show v<m;omega
 ·rintro i f g ⟨o,ps,rfl,e0,e1,h1,h2,rfl⟩
  rw[j,lQm,QEq] at h1
  show h ps f (by rw[h1];show H) h2 e0 (G.trans e1)
def MR{r:cv}{S S0:aE}{k j l:Nat}{ws:X6}{Q:List D->aE->Prop}(x:Ex k S0 S)(A:r.getD 0 none=some (.ref k))(I:r[j]?=some (some (.ref l)))(hl:S[l]?=some (.lst (ws.map D.str)))(nl:l≠k)(u:ws.length<=900)
  (h:∀(ps:List (Str×Str)) (f:aE),ps.map (·.1)=ws->(∀p∈ps,p.2="row" \/p.2="turns")->Ex k S0 f->Ex k S f->Q (ps.map IZ) f):
  E (bK [none,some 0] (ki (aS (au j))) (bD 0) bT (aY (ar (au 0) (ar (bp kL (bE (bA (ar (cF (.str "row")) (ar (cF (.str "turns")) av)))) (az aB (ar (au 1) (ar (cF (.int 2)) av)))) av)))) r S Q:=by
 have y:Ex k S S:=by let#[a,b,c,F]:=x.pot;show Ex.refl F
 show gL (nI (cn (aw I (bN hl ?_))))
 show#[λn i f g=>∃(o:Option D) (ps:List (Str×Str)),i= [o,some (.ref k)]/\Ex k S0 f/\Ex k S f/\ps.map (·.1)=ws.take n/\(∀p∈ps,p.2="row" \/p.2="turns")/\g=ps.map IZ,#[none,[],by show [none,r.getD 0 none]=_;rw[A],x,y,L,λ_ h=>(nomatch h),L],λn i f g ⟨_,_,_,_,e,_⟩=>e.keep _ _ nl hl,?_,?_]
 ·rintro n d i f g t ⟨o,ps,rfl,e0,e1,h1,h2,rfl⟩
  rw[gQm] at t
  let#[z,w,rfl]:=oQm.mp t
  let M:=(gQs.mp w).1
  show aQ (gM ?_)
  rw[Qhq L]
  symm
  show⟨by show 2<=_;decide,?_⟩
  symm
  let P:=e0.lt
  show cG (e0.app (G:= [O.lst [.str "row",.str "turns"]])) (!1) (!1) λv K N B m _=>?_
  dsimp only[bI,bo,bF,cI,cP,g8]
  obtain⟨s,H,J⟩:∃s:Str,(s="row" \/s="turns")/\mO ([.str "row",.str "turns"]:List D) (v:Int)=some (.str s):=by
   rcases(by omega:v=0\/v=1) with rfl|rfl
   ·show#["row",.inl L,L]
   ·show#["turns",.inr L,L]
  apply dW (m.keep _ _ (!0) aW) J ?_
  show#[by show 2<=_;decide,?_]
  have C:ps.length=n:=by
   have:=congrArg List.length h1
   rw[lQm,Qxq] at this
   omega
  show#[by rw[lQm];show aM (!0),_,ps++ [(z,s)],L,B,e1.app.trans m,?_,λp q=>?_,by simp[IZ]]
  ·rw[Qzq,h1,QYq,w]
   rfl
  ·rcases mQa.mp q with q|q
   ·show h2 p q
   ·rw[Qfq.mp q];show H
 ·rintro i f g ⟨o,ps,rfl,e0,e1,h1,h2,rfl⟩
  show h ps f (by rw[h1];simp) h2 e0 e1
def Rw.Ok.sub{a:Bool}{ws ps bs ts:X6}{gs b:List (Str×Str)}{n:Nat}{r:Rw}(h:r.Ok #[a,ws,ps,bs,gs,ts] n)(c:∀g∈gs,g∈b):r.Ok #[a,ws,ps,bs,b,ts] n:=by
 cases r with
 |do_ g r d t=>show#[h.1,c _ h.2.1,h.2.2]
 |_=>show h
def yC.sub{a:Bool}{ws ps bs ts:X6}{gs b:List (Str×Str)}{rs:List Rw}(h:yC #[a,ws,ps,bs,gs,ts] rs)(d:∀g∈gs,g∈b):yC #[a,ws,ps,bs,b,ts] rs:=λr c=>(h r c).sub d
structure Rm where
 name:Str
 ah:Str
 ao:List (Str×Nat)
 aa:List (Str×Str)
 ae:List (Str×List Rw)
def Rm.d(r:Rm):D:=.tup [.str r.name,.str r.ah,.tup (r.ao.map kF),.tup (r.aa.map IZ),.tup (r.ae.map iW)]
structure Ap(gs:List (Str×Str))(r:Rm):Prop where
 mn:r.ah="at once" \/r.ah="when free"
 tv:∀p∈r.ao,p.2<=9
 l1:r.ao.length<=6
 l2:r.aa.length<=6
 l3:r.ae.length<=6
 bv:∀p∈r.aa,p.2="row" \/p.2="turns"
 pr:∀p∈r.ae,yC #[false,r.ao.map (·.1)++cX,r.ao.map (·.1),r.aa.map (·.1),gs,[]] p.2/\p.2.length<=12
def Es(p:Str×List Rw):cj 0 (iW p)=true:=by
 erw[iW,cj,bC,Bool.and_true,Bool.true_and]
 show aZ λr _=>r.low
def Rm.low(r:Rm):cj 0 r.d=true:=by
 erw[Rm.d,cj,bC,Bool.and_true,Bool.true_and,QCq]
 show#[aZ λ_ _=>rfl,aZ λ_ _=>rfl,aZ λp _=>Es p]
noncomputable def bP(rs:List Rm):List (Str×Str):=rs.flatMap λr=>r.ae.map λp=>(r.name,p.1)
def Ap.sub{gs a:List (Str×Str)}{r:Rm}(h:Ap gs r)(c:∀g∈gs,g∈a):Ap a r:={h with pr:=λp b=>#[(h.pr p b).1.sub c,(h.pr p b).2]}
end W28
namespace DL
open L2
def Ez{c:cv}{S:aE}{f:bj}{g:et}{Q:D->aE->Prop}(h:E f c S λx b=>∃k a,x=.ref k/\b[k]?=some (.lst a)/\E g c b λp S2=>∃ds,S2[k]?=some (.lst ds)/\(p.2.isM=true/\ds.length+p.1.length<=sizeLine)/\Q .non (S2.set k (.lst (ds++p.1)))):E (zW f g) c S Q:=by
 let#[x,b,d,k,a,rfl,h1,p,S2,e2,ds,h2,h3,q]:=h
 show#[_,_,by unfold zW;rw[d];erw[Qbq,e2,h1,h2];rw[Qhq h3],q]
def pd{b:Bool}{Q:D->Prop}(q:Q (.int (if b then 1 else 0))):Op (intOfD [.bl b]) Q:=#[_,L,q]
def eM{j:Nat}{n:Nat}{d:D}(h:(jt 0 (j:Int))[n]?=some d):d=.int n/\n<j:=by
 erw[jt,gQm] at h
 let#[i,c,rfl]:=oQm.mp h
 let#[b,a]:=gQs.mp c
 simp at b a
 subst a
 show#[by simp,by omega]
def gH{j:Nat}:(jt 0 (j:Int)).length=j:=by erw[jt,lQm,QVq];omega
end DL
namespace W28
open L2 DL
def fS(p:List (Str×Nat)×List Rw):D:=.tup [.tup (p.1.map kF),.tup (p.2.map Rw.d)]
structure cu where
 aj:List Rm
 ai:List (Str×Nat)
 ak:List (Str×Nat)
 af:List (List (Str×Nat)×List Rw)
def cu.d(w:cu):D:=.tup [.tup (w.aj.map Rm.d),.tup (w.ai.map kF),.tup (w.ak.map kF),.tup (w.af.map fS)]
structure AU(gs:List (Str×Str))(ak ai:X6)(h:List (Str×Nat)×List Rw):Prop where
 tv:∀p∈h.1,p.2<=9
 l1:h.1.length<=6
 l2:h.2.length<=9
 l0:0<h.2.length
 pr:yC #[true,h.1.map (·.1)++ak,h.1.map (·.1)++ak,[],gs,ai] h.2
structure dz(w:cu):Prop where
 nd:(w.aj.map (·.name)).Nodup
 l1:w.aj.length<=4
 l2:w.ai.length<=6
 l3:w.ak.length<=6
 l4:w.af.length<=4
 l0:0<w.af.length
 pv:∀p∈w.ai,p.2<=9
 sv:∀p∈w.ak,p.2<=9
 rm:∀r∈w.aj,Ap (bP w.aj) r
 hd:∀h∈w.af,AU (bP w.aj) (w.ak.map (·.1)) (w.ai.map (·.1)) h
def EI(p:List (Str×Nat)×List Rw):cj 0 (fS p)=true:=by
 erw[fS,cj,bC,Bool.and_true,Bool.true_and,QCq]
 show#[aZ λ_ _=>rfl,aZ λr _=>r.low]
def cu.low(w:cu):cj 0 w.d=true:=by
 erw[cu.d,cj,bC,Bool.and_true,Bool.true_and,QCq]
 show#[aZ λr _=>r.low,aZ λ_ _=>rfl,aZ λ_ _=>rfl,aZ λp _=>EI p]
def vA{rs:List Rm}(b:∀r∈rs,r.ae.length<=6):(bP rs).length<=6*rs.length:=by
 induction rs with
 |nil=>simp[bP]
 | cons a l c=>
   have:=c λr d=>b r (Qpq _ d)
   have:=b a (QBq ..)
   erw[bP,QSq,lQa,lQm,Qnq] at *
   omega
structure Fr(L:List Nat)(S S':aE):Prop where
 len:S.length<=S'.length
 keep:∀j o,j∉L->S[j]?=some o->S'[j]?=some o
def Fr.trans{L:List Nat}{S c S2:aE}(a:Fr L S c)(b:Fr L c S2):Fr L S S2:=#[QAq a.len b.len,λj o h e=>b.keep j o h (a.keep j o h e)]
def Fr.mono{L M:List Nat}{S b:aE}(a:Fr L S b)(h:∀j∈L,j∈M):Fr M S b:=#[a.len,λj o c e=>a.keep j o (λz=>c (h j z)) e]
def Fr.ex{k:Nat}{L:List Nat}{S b:aE}(a:Ex k S b)(c:k∈L):Fr L S b:=#[a.len,λj o d e=>a.keep j o (λz=>d (z▸c)) e]
def Fr.set{L:List Nat}{S:aE}{r:Nat}{o:O}(h:r∈L):Fr L S (S.set r o):=#[by simp,λj b a e=>i9 (λz=>a (z▸h)) e]
def Fr.app{L:List Nat}{S G:aE}:Fr L S (S++G):=#[by simp,λ_ _ _ e=>bq e]
def F3:cO:=(aD (aV 14 (bp bW (cF (.int 1)) (az aB (ar (au 0) (ar (cF (.int 3)) av))))) (aD (aV 15 (bE (yt (aS (au 5)) (Cp intOfD (ar (bp (gk false) (au 13) (cF (.int 0))) av))))) (aD (aV 16 (bE (bK [none,some 0,some 9,some 10,some 11,some 14,some 15] (j9 (au 14)) (bD 0) bT (az eN (ar (au 1) (ar (aY (ar (au 2) (ar (au 3) (ar (au 4) av)))) (ar (aY (ar (au 0) (ar (au 5) av))) (ar (au 6) av)))))))) (tH (Bu k_ (au 12) (ar (aY (ar (bp kL (au 2) (bp bW (cF (.int 8)) (au 13))) (ar (tupQ (dC (aS (au 16)))) av))) av))))))
def JO:cO:=(aD (aV 9 (bE (u4 (fM (u4 (aS (au 2)) (jj (cF (.int 12))) jk)) jk (jj (az aB (ar (au 0) (ar (cF (.int 3)) av))))))) (aD (aV 10 (bE (u4 (fM (u4 (aS (au 2)) (jj (bp kL (bE (bA (ar (cF (.int 0)) (ar (cF (.int 16)) av)))) (az aB (ar (au 0) (ar (cF (.int 2)) av))))) jk)) jk (jj (bp kL (bE (bA (ar (cF (.int 1)) (ar (cF (.int 0)) (ar (cF (.int 1)) (ar (cF (.int 2)) av)))))) (az aB (ar (au 0) (ar (cF (.int 4)) av)))))))) (aD (aV 11 (bp kL (bE (bA (ar (cF (.str "at once")) (ar (cF (.str "when free")) av)))) (az aB (ar (au 0) (ar (cF (.int 2)) av))))) (aD (aV 12 (bE (bA av))) (aD (jy (j9 (bp kL (au 4) (au 6))) (bD 13) F3) (aD (tH (zW (au 8) (fM (bK [none,some 2,some 6] (ki (aS (au 12))) (bD 0) bT (aY (ar (bp kL (au 1) (au 2)) (ar (bp kL (au 0) (cF (.int 0))) av))))))) (aD (aV 17 (tupQ (fM (bK [none,some 0] (ki (aS (au 9))) (bD 0) bT (aY (ar (au 0) (ar (az aB (ar (au 1) (ar (cF (.int 3)) av))) av))))))) (aD (aV 18 (tupQ (fM (bK [none,some 0] (ki (aS (au 10))) (bD 0) bT (aY (ar (au 0) (ar (bp kL (bE (bA (ar (cF (.str "row")) (ar (cF (.str "turns")) av)))) (az aB (ar (au 1) (ar (cF (.int 2)) av)))) av))))))) (tH (Bu k_ (au 7) (ar (aY (ar (bp kL (au 2) (au 6)) (ar (au 11) (ar (au 17) (ar (au 18) (ar (tupQ (dC (aS (au 12)))) av)))))) av)))))))))))
def Jp:cO:=(aD (aV 22 (bE (u4 (fM (u4 (aS (au 2)) (jj (cF (.int 22))) jk)) jk (jj (az aB (ar (au 0) (ar (cF (.int 2)) av))))))) (aD (aV 14 (bp bW (cF (.int 1)) (az aB (ar (au 0) (ar (au 1) av))))) (aD (aV 23 (bE (uT (aS (au 22)) (fM (bK [none,none] (ki (aS (au 20))) (g9 (nG 2 (aH (bD 0) (aH (bD 1) cW)))) bT (au 0)))))) (aD (aV 16 (bE (bK [none,some 0,some 8,some 14,some 19,some 23] (j9 (au 14)) (bD 0) bT (az eK (ar (au 1) (ar (au 5) (ar (bE (bK [none,none] (ki (aS (au 4))) (g9 (nG 2 (aH (bD 0) (aH (bD 1) cW)))) bT (au 0))) (ar (aY (ar (au 0) (ar (au 3) av))) (ar (au 2) av))))))))) (tH (Bu k_ (au 21) (ar (aY (ar (tupQ (fM (bK [none] (ki (aS (au 22))) (bD 0) bT (aY (ar (au 0) (ar (cF (.int 0)) av)))))) (ar (tupQ (dC (aS (au 16)))) av))) av)))))))
section
variable{S S0:aE}{k most j i K F M N le C t f e:Nat}{ws ths lD:X6}{gs:List (Str×Str)}{H:Str}{ds:List (Str×List Rw)}{I G J q l w B s A u:Option D}
def G7{Q:Out->Prop}(x:Ex k S0 S)(hl:S0.length<=f)(hk:k<S0.length)(n1:j≠k)(n2:F≠k)(n3:C≠k)(n4:t≠k)(n5:j≠f)(hW:S[j]?=some (.lst (ws.map D.str)))(hI:S[F]?=some (.lst (gs.map cp)))(hT:S[C]?=some (.lst (ths.map D.str)))(hB:S[t]?=some (.lst (lD.map D.str)))(hD:S[f]?=some (.lst (ds.map iW)))
  (b7:ws.length=24) (l1:ths.length<900) (l2:lD.length<900) (l3:gs.length<900) (l4:ds.length<900) (ha:e<8)
  (h:∀(p:Str×List Rw) (W:aE) (b3 b1 b2:Option D),ws[8+e]?=some p.1->yC #[false,ths++cX,ths,lD,gs,[]] p.2->p.2.length<=12->W[f]?=some (.lst ((ds++ [p]).map iW))->Ex k S0 W->Fr [k,f] S W->
   Q (.nx [some (.ref k),some (.int most),some (.ref j),some (.int i),some (.ref K),some (.ref F),some (.int M),some (.ref N),some (.ref le),some (.ref C),some (.ref t),some (.str H),some (.ref f),some (.int e),b3,b1,b2,q,l,w,B,s,A,u] W)):
  T F3 [some (.ref k),some (.int most),some (.ref j),some (.int i),some (.ref K),some (.ref F),some (.int M),some (.ref N),some (.ref le),some (.ref C),some (.ref t),some (.str H),some (.ref f),some (.int e),I,G,J,q,l,w,B,s,A,u] S Q:=by
 have y:Ex k S S:=by let#[a,b,c,hh]:=x.pot;show Ex.refl hh
 unfold F3
 symm
 show cG x (!1) (!1) λv X hv e1 a3 _=>?_
 show pq ?_
 rw[show(1:Int)+(v:Int)=((1+v:Nat):Int) by omega]
 let a4:=a3.keep _ _ n2 hI
 show aG (cf (dG (Nc (cn (aw L (bN a4 (KC (ax (cy (aw L (eG (gV (aN (pd ?_))))))))))))))
 obtain⟨m,hm,b4⟩:∃m:Nat,m<=1/\(D.int (if decide ((e:Int)=0)=true then 1 else 0))=.int m:=by
  by_cases c:(e:Int)=0
  ·show⟨1,Qmq _,by rw[Qeq c];rfl⟩
  ·show⟨0,by decide,by rw[Qdq c];rfl⟩
 show⟨m,b4,⟨rfl,a4,by rw[lQm];have:gs.length*m<=gs.length*1:=Nat.mul_le_mul_left _ hm;omega,hm⟩,?_⟩
 obtain⟨R,a8,a6,a9⟩:∃R:List (Str×Str),(List.replicate m (gs.map cp)).flatten=R.map cp/\(∀g∈R,g∈gs)/\R.length<900:=by
  rcases(by omega:m=0\/m=1) with rfl|rfl
  ·show#[[],L,λ_ h=>(nomatch h),by decide]
  ·show#[gs,by simp,λ_ h=>h,l3]
 rw[a8]
 let b8:=e1.lt
 have e2:Ex k S0 (X++ [O.lst (R.map cp)]):=e1.app
 have U:Ex k S (X++ [O.lst (R.map cp)]):=a3.app
 have a0:(X++ [O.lst (R.map cp)])[X.length]?=some (.lst (R.map cp)):=aW
 have nh:X.length≠k:=by omega
 have lH:S.length<=X.length:=a3.len
 generalize (X++ [O.lst (R.map cp)])=S2 at e2 U a0|-
 generalize X.length=lh at a0 nh lH|-
 show aG (cf (dG (gL (kM (aw L #[((1+v:Nat):Int),L,by omega,?_])))))
 have y2:Ex k S2 S2:=by let#[a,b,c,hh]:=e2.pot;show Ex.refl hh
 show#[λn Z W a1=>(∃o,Z= [o,some (.ref k),some (.ref C),some (.ref t),some (.str H),some (.int (1+v:Nat)),some (.ref lh)])/\∃P:List Rw,P.length=n/\(∀r∈P,r.Ok #[false,ths++cX,ths,lD,R,[]] (1+v))/\a1=P.map Rw.d/\Ex k S0 W/\Ex k S2 W,#[#[none,L],[],L,λ_ h=>(nomatch h),L,e2,y2],λ_ _ _ _ _=>trivial,?_,?_]
 ·rintro n d Z W a1 hd ⟨⟨o,rfl⟩,P,hn,hok,rfl,e3,e3'⟩
  let#[rfl,hnv]:=eM hd
  show aQ (gM ?_)
  rw[Qhq L]
  symm
  show⟨by show 3<=_;decide,?_⟩
  symm
  show⟨by show 2<=_;decide,?_⟩
  symm
  show zC e3 n3 n4 nh (e3'.keep _ _ n3 (U.keep _ _ n3 hT)) (e3'.keep _ _ n4 (U.keep _ _ n4 hB)) (e3'.keep _ _ nh a0) l1 l2 a9 hnv (!0) λr S4 b6 e4 a7 _=>?_
  show⟨by rw[lQm];show aM (!0),⟨_,L⟩,P++ [r],by simp[hn],λz hz=>?_,by simp,e4,e3'.trans a7⟩
  rcases mQa.mp hz with hz|hz
  ·show hok z hz
  ·rw[Qfq.mp hz];show b6
 rintro Z S3 a1 ⟨-,P,hn,hok,rfl,e3,e3'⟩
 rw[gH] at hn
 have Y:Ex k S S3:=U.trans e3'
 have a2:S3[f]?=some (.lst (ds.map iW)):=Y.keep _ _ (!0) hD
 have b5:S3[j]?=some (.lst (ws.map D.str)):=Y.keep _ _ n1 hW
 show mK (y6 (aw L ⟨_,_,L,bq a2,?_⟩))
 show ax (dH (ax (cy (aw L (cy (eG (aw L (pq ?_))))))))
 obtain⟨nm,a5⟩:∃nm,ws[8+e]?=some nm:=#[_,gQe (!0)]
 rw[show(8:Int)+(e:Int)=((8+e:Nat):Int) by omega]
 show dW (bq b5) (aR (by rw[gQm,a5];rfl)) ?_
 show ax (fe (eV (cn (aw L (bN aW #[L,aN #[by show 2<=_;decide,aN #[_,bq a2,m7 (aM (by rw[lQm];omega)) ?_]]])))))
 have b0:Fr [k,f] S ((S3++ [O.lst (P.map Rw.d)]).set f (.lst (ds.map iW++ [iW (nm,P)]))):=(Fr.ex Y (by simp)).trans (Fr.app.trans (Fr.set (by simp)))
 show h (nm,P) _ _ _ _ a5 (λr hr=>?_) (by show P.length<=12;omega) (by rw[fY (bq a2),Qzq];rfl) (e3.app.put hl hk) b0
 have:=hok r hr
 rw[show 1+v=P.length from hn.symm] at this
 show Rw.Ok.sub this a6
end
end W28
namespace DL
open L2
def w9{α:Type}{o:cv}{S:aE}{js:List (Option Nat)}{f:et}{g:me}{k:bj}{Q:List D->aE->Prop}(P:cv->Prop)(enc G:α->D)(t:P (nZ js o)) (h:E f o S λp i=>∃xs:List α,p.1=xs.map enc/\p.2.stays i p.1/\xs.length<=1000∧
   (∀x∈xs,∀a,P a->Tg g (enc x) a i λc S2=>S2=i/\P c/\E k c i λy s=>y=G x/\s=i)/\Q (xs.map G) i):E (bK js (ki f) g bT k) o S Q:=by
 show gL (nI (h.mono λp i v=>?_))
 let#[xs,r,w,hl,C,q]:=v
 show#[λn a m b=>m=i/\b=(xs.take n).map G/\P a,#[L,L,t],λn a m b h=>by rw[h.1];show w,λn d a m b l h=>?_,λa m b h=>?_]
 ·let#[rfl,rfl,h3]:=h
  have l:p.1[n]?=some d:=l
  rw[r,gQm] at l
  let#[x,j,rfl]:=oQm.mp l
  let#[c,S2,A,rfl,h4,h5]:=C x (mQg j) a h3
  show#[c,S2,A,gM ?_]
  rw[Qhq L]
  show h5.mono λy s z=>?_
  let#[u,B]:=z
  subst u B
  let F:=(gQs.mp j).1
  show#[?_,L,?_,h4]
  ·rw[lQm,Qxq]
   show aM (!0)
  ·rw[QYq,j]
   simp
 ·let#[rfl,rfl,_]:=h
  have e:p.1.length=xs.length:=by rw[r,lQm]
  show Q ((xs.take p.1.length).map G) _
  rw[e,QEq]
  show q
end DL
namespace W28
open L2 DL
def Fr.fresh{k r:Nat}{S d S2:aE}(a:Fr [k] S d)(b:Fr [k,r] d S2)(h:S.length<=r):Fr [k] S S2:=⟨QAq a.len b.len,λj o c e=>by
 let hl:=(gQs.mp e).1
 have f:j≠k:=by simpa using c
 show b.keep j o (by simp;omega) (a.keep j o c e)⟩
noncomputable def nq(s:Nat):D:=.int s
section
variable{S S0:aE}{k most l i F B o g le:Nat}{ws:X6}{G:List Nat}{gs f:List (Str×Str)}{rs:List Rm}{R P H M N J I K C A u w s v t:Option D}
def Ja{Q:Out->Prop}{sz:Nat}(x:Ex k S0 S)(hk:k<S0.length)(h2:S0.length<=g)(f1:S0.length<=le)(f6:g≠le)(n1:l≠k)(n2:F≠k)(n3:B≠k)(k7:l≠g)(k5:l≠le)(hW:S[l]?=some (.lst (ws.map D.str)))(hZ:S[F]?=some (.lst (G.map nq)))(hI:S[B]?=some (.lst (gs.map cp)))
  (hR:S[g]?=some (.lst (rs.map Rm.d))) (hE:S[le]?=some (.lst (f.map cp))) (f2:ws.length=24) (hsz:G[o]?=some sz) (i2:sz<=2) (l3:gs.length<900) (l4:rs.length<900) (l5:f.length<900) (i0:o<4)
  (h:∀(r:Rm) (S':aE) (b9 g4 f7 h8 a2 Z W Y g0 g1:Option D),ws[o]?=some r.name->r.ae.map (·.1)=(ws.drop 8).take sz->Ap gs r->S'[g]?=some (.lst ((rs++ [r]).map Rm.d))->S'[le]?=some (.lst ((f++r.ae.map λp=>(r.name,p.1)).map cp))->Ex k S0 S'->Fr [k,g,le] S S'->
   Q (.nx [some (.ref k),some (.int most),some (.ref l),some (.int i),some (.ref F),some (.ref B),some (.int o),some (.ref g),some (.ref le),b9,g4,f7,h8,a2,Z,W,Y,g0,g1,u,w,s,v,t] S')):
  T JO [some (.ref k),some (.int most),some (.ref l),some (.int i),some (.ref F),some (.ref B),some (.int o),some (.ref g),some (.ref le),R,P,H,M,N,J,I,K,C,A,u,w,s,v,t] S Q:=by
 have y:Ex k S S:=by let#[a,b,c,hh]:=x.pot;show Ex.refl hh
 let kS:=x.lt
 let k1:=(gQs.mp hR).1
 let rq:=(gQs.mp hE).1
 let i1:=(gQs.mp hW).1
 let l0:=(gQs.mp hZ).1
 let k3:=(gQs.mp hI).1
 unfold JO
 show aG (cf (dG (zc L hW (eG ⟨12,L,by omega,hW,bX (ax (aw L (ax (eG (aN ?_)))))⟩))))
 show cG x (!1) (!1) λv1 S1 i5 e1 e0 _=>⟨v1,L,?_⟩
 obtain⟨ths,a6⟩:∃ths:List Str,(ws.drop 12).take v1=ths:=⟨_,L⟩
 have k6:ths.length<=2:=by rw[<-a6,Qxq];omega
 rw[a6]
 have e2:Ex k S0 (S1++ [O.lst (ths.map D.str)]):=e1.app
 have a7:Ex k S (S1++ [O.lst (ths.map D.str)]):=e0.app
 have a4:(S1++ [O.lst (ths.map D.str)])[S1.length]?=some (.lst (ths.map D.str)):=aW
 have f0:S.length<=S1.length:=e0.len
 generalize (S1++ [O.lst (ths.map D.str)])=S2 at e2 a7 a4|-
 generalize S1.length=lt at a4 f0|-
 have nt:lt≠k:=by omega
 let h9:=(gQs.mp a4).1
 let d3:=a7.keep _ _ n1 hW
 show aG (cf (dG (zc L d3 ?_)))
 show eS (n:=2) (xs:= [.int 0,.int 16]) L e2 (!1) (!1) L (by symm;show⟨rfl,L⟩) λd S3 hd e3 b2 _=>?_
 obtain⟨b0,j5,rfl⟩:∃b0:Nat,b0<=16/\d=.int b0:=by
  erw[Qsq,QXq,or_false] at hd
  rcases hd with rfl|rfl
  ·show⟨0,by omega,L⟩
  ·show⟨16,by omega,L⟩
 show⟨b0,L,by omega,b2.keep _ _ n1 d3,?_⟩
 show eS (n:=4) (xs:= [.int 1,.int 0,.int 1,.int 2]) L e3 (!1) (!1) L (by symm;show⟨rfl,L⟩) λd S4 hd e4 c3 _=>?_
 obtain⟨b1,l1,rfl⟩:∃b1:Nat,b1<=2/\d=.int b1:=by
  erw[Qsq,QXq,or_false] at hd
  rcases hd with rfl|rfl|rfl|rfl
  ·show⟨1,by omega,L⟩
  ·show⟨0,by omega,L⟩
  ·show⟨1,by omega,L⟩
  ·show⟨2,by omega,L⟩
 show⟨b1,L,?_⟩
 obtain⟨lD,a5⟩:∃lD:List Str,(ws.drop b0).take b1=lD:=⟨_,L⟩
 have j1:lD.length<=2:=by rw[<-a5,Qxq];omega
 rw[a5]
 have e5:Ex k S0 (S4++ [O.lst (lD.map D.str)]):=e4.app
 have b4:Ex k S2 (S4++ [O.lst (lD.map D.str)]):=(b2.trans c3).app
 have b6:(S4++ [O.lst (lD.map D.str)])[S4.length]?=some (.lst (lD.map D.str)):=aW
 have h0:S2.length<=S4.length:=(b2.trans c3).len
 generalize (S4++ [O.lst (lD.map D.str)])=S5 at e5 b4 b6|-
 generalize S4.length=lb at b6 h0|-
 have nb:lb≠k:=by omega
 let h4:=b4.keep _ _ nt a4
 show aG (cf (eS (n:=2) (xs:= [.str "at once",.str "when free"]) L e5 (!1) (!1) L (by symm;show⟨rfl,L⟩) λd S6 hd e6 b7 _=>?_))
 obtain⟨mn,f8,rfl⟩:∃mn:Str,(mn="at once" \/mn="when free")/\d=.str mn:=by
  erw[Qsq,QXq,or_false] at hd
  rcases hd with rfl|rfl
  ·show#["at once",.inl L,L]
  ·show#["when free",.inr L,L]
 show aG (cf (dG (c_ (aN #[by show 0<=_;decide,?_]))))
 have c4:Ex k S S6:=(a7.trans b4).trans b7
 let d2:=b7.keep _ _ nb b6
 let d0:=b7.keep _ _ nt h4
 let h7:=(gQs.mp d2).1
 let h1:=(gQs.mp d0).1
 let g6:=c4.len
 have b3:Fr [k] S (S6++ [O.lst []]):=(Fr.ex c4 (by simp)).trans Fr.app
 have e7:Ex k S0 (S6++ [O.lst []]):=e6.app
 have d7:(S6++ [O.lst []])[lb]?=some (.lst (lD.map D.str)):=bq d2
 have d1:(S6++ [O.lst []])[lt]?=some (.lst (ths.map D.str)):=bq d0
 have a8:(S6++ [O.lst []])[S6.length]?=some (.lst (([]:List (Str×List Rw)).map iW)):=aW
 let l2:=x.len
 generalize (S6++ [O.lst []])=S7 at b3 e7 d7 d1 a8|-
 generalize S6.length=ld at a8 g6 h7 h1|-
 have kn:∀{j:Nat},j≠k->j∉[k]:=λh z=>h (Qfq.mp z)
 let g2:=b3.keep _ _ (kn n2) hZ
 show aG (gU (kM (cy (aw L (aw L (dW g2 (aR (by rw[gQm,hsz];rfl)) #[(sz:Int),L,by omega,?_]))))))
 show#[λj X S'=>(∃a2 Z W Y,X= [some (.ref k),some (.int most),some (.ref l),some (.int i),some (.ref F),some (.ref B),some (.int o),some (.ref g),some (.ref le),some (.ref lt),some (.ref lb),some (.str mn),some (.ref ld),a2,Z,W,Y,C,A,u,w,s,v,t])/\∃U:List (Str×List Rw),U.map (·.1)=(ws.drop 8).take j/\(∀p∈U,yC #[false,ths++cX,ths,lD,gs,[]] p.2/\p.2.length<=12)/\S'[ld]?=some (.lst (U.map iW))/\S'[lb]?=some (.lst (lD.map D.str))/\S'[lt]?=some (.lst (ths.map D.str))/\Ex k S0 S'/\Fr [k] S S',#[#[_,_,_,_,L],[],L,λ_ h=>(nomatch h),a8,d7,d1,e7,b3],λ_ _ _ _=>trivial,?_,?_]
 ·rintro j d X S' hd ⟨⟨a2,Z,W,Y,rfl⟩,U,hnm,hpr,hD,hB,hT,ex,fr⟩
  let#[rfl,hj]:=eM hd
  have f9:U.length=j:=by
   have:=congrArg List.length hnm
   rw[lQm,Qxq,List.length_drop] at this
   omega
  show aQ ?_
  show G7 (gs:=gs) (ths:=ths) (lD:=lD) ex (!0) hk n1 n3 nt nb (!0) (fr.keep _ _ (kn n1) hW) (fr.keep _ _ (kn n3) hI) hT hB hD f2 (!0) (!0) l3 (!0) (!0) λp k4 Z W Y hp d8 g3 c7 c2 a0=>?_
  show⟨⟨_,_,_,_,L⟩,U++ [p],?_,λq hq=>?_,c7,a0.keep _ _ (by simp;omega) hB,a0.keep _ _ (by simp;omega) hT,c2,fr.fresh a0 (!0)⟩
  ·rw[Qzq,hnm,QYq,List.getElem?_drop,hp]
   rfl
  ·rcases mQa.mp hq with hq|hq
   ·show hpr q hq
   ·rw[Qfq.mp hq];show⟨d8,g3⟩
 rintro X S8 ⟨⟨a2,Z,W,Y,rfl⟩,U,hnm,hpr,hD,hB,hT,e8,fr8⟩
 rw[gH] at hnm
 have f9:U.length<=2:=by
  have:=congrArg List.length hnm
  rw[lQm,Qxq] at this
  omega
 obtain⟨nm,a3⟩:∃nm,ws[o]?=some nm:=#[_,gQe (!0)]
 let h5:=fr8.keep _ _ (kn n1) hW
 let a9:=fr8.keep _ _ (kn (!0)) hE
 show aG (mK (Ez (aw L #[_,_,L,a9,iI ?_])))
 show w9 (α:=Str×List Rw) (λX=>∃a,X= [a,some (.ref l),some (.int o)]) iW (λp=>cp (nm,p.1)) #[_,L] ?_
 show cn (aw L (bN hD ?_))
 show#[U,L,hD,by omega,λp hp X h3=>?_,?_]
 ·let#[a,rfl]:=h3
  show aQ #[L,#[_,L],?_]
  show dH (ax (cy (aw L (aw L (dW h5 (aR (by rw[gQm,a3];rfl)) ?_)))))
  show ax (cy (aw L (eG (aA L (aN #[by show 2<=_;decide,L,L])))))
 have f3:f.map cp++U.map (λp=>cp (nm,p.1))=(f++U.map λp=>(nm,p.1)).map cp:=by rw[Qzq,QPq];rfl
 show#[_,a9,#[L,nQl (aM (by rw[lQm,lQm];omega))],?_]
 show T _ _ (S8.set le (.lst (f.map cp++U.map (λp=>cp (nm,p.1))))) _
 rw[f3]
 have e9:Ex k S0 (S8.set le (.lst ((f++U.map λp=>(nm,p.1)).map cp))):=e8.put f1 hk
 have c0:Fr [k,g,le] S (S8.set le (.lst ((f++U.map λp=>(nm,p.1)).map cp))):=(fr8.mono (by simp)).trans (Fr.set (by simp))
 let d5:=fY (o':=.lst ((f++U.map λp=>(nm,p.1)).map cp)) a9
 let c5:=i9 (k:=le) (o':=.lst ((f++U.map λp=>(nm,p.1)).map cp)) (show ld≠le by omega) hD
 let d9:=i9 (k:=le) (o':=.lst ((f++U.map λp=>(nm,p.1)).map cp)) (show lb≠le by omega) hB
 let b5:=i9 (k:=le) (o':=.lst ((f++U.map λp=>(nm,p.1)).map cp)) (show lt≠le by omega) hT
 let c6:=i9 (k:=le) (o':=.lst ((f++U.map λp=>(nm,p.1)).map cp)) f6 (fr8.keep _ _ (kn (!0)) hR)
 generalize (S8.set le (.lst ((f++U.map λp=>(nm,p.1)).map cp)))=S9 at e9 c0 d5 c5 d9 b5 c6|-
 have y9:Ex k S9 S9:=by let#[a,b,c,hh]:=e9.pot;show Ex.refl hh
 show aG (cf (fe (iI (EY (m:=3) (·=ths) L (!1) (!1) (nI (cn (aw L (bN b5 #[ths,L,by omega,L,e9,y9,λS' e=>e.keep _ _ nt b5])))) λts SA d4 h6 eA d6=>?_))))
 show aG (cf (fe (iI (MR eA L L (d6.keep _ _ nb d9) nb (!0) λbs SB c1 g5 eB f4=>?_))))
 have a1:Ex k S9 SB:=d6.trans f4
 let b8:=a1.keep _ _ (show g≠k by omega) c6
 show mK (y6 (aw L #[_,_,L,b8,?_]))
 have f5:SB[l]?=some (.lst (ws.map D.str)):=a1.keep _ _ n1 (c0.keep _ _ (by simp;omega) hW)
 show ax (dH (ax (cy (aw L (aw L (dW f5 (aR (by rw[gQm,a3];rfl)) ?_))))))
 show ax (aw L (ax (aw L (ax (aw L (ax (fe (eV (cn (aw L (bN (a1.keep _ _ (show ld≠k by omega) c5) #[L,?_])))))))))))
 show aN #[by show 5<=_;decide,aN #[_,b8,m7 (aM (by rw[lQm];omega)) ?_]]
 have j4:ts.length<=2:=by have:=congrArg List.length d4;rw[lQm] at this;omega
 have k2:bs.length<=2:=by have:=congrArg List.length c1;rw[lQm] at this;omega
 show h #[nm,mn,ts,bs,U] _ _ _ _ _ _ _ _ _ _ _ a3 hnm #[f8,λp hp=>by have:=h6 p hp;omega,by show ts.length<=6;omega,by show bs.length<=6;omega,by show U.length<=6;omega,g5,λp hp=>?_] (by rw[fY b8,Qzq];rfl) (i9 (!0) (a1.keep _ _ (show le≠k by omega) d5)) (eB.put h2 hk) ((c0.trans (Fr.ex a1 (by simp))).trans (Fr.set (by simp)))
 have:=hpr p hp
 rw[<-d4,<-c1] at this
 show this
end
def FS{e:cv}{S:aE}{v:Nat}{ps:List (Str×Nat)}{Q:List D->aE->Prop}(f:e[v]?=some (some (.tup (ps.map kF))))(hl:ps.length<=900)(h:Q ((ps.map (·.1)).map D.str) S):
  E (bK [none,none] (ki (aS (au v))) (g9 (nG 2 (aH (bD 0) (aH (bD 1) cW)))) bT (au 0)) e S Q:=by
 show w9 (α:=Str×Nat) (λc=>∃a b,c= [a,b]) kF (λp=>.str p.1) #[_,_,L] ?_
 show cn (aw f (d_ #[ps,L,trivial,by omega,λp g c d=>?_,?_]))
 ·let#[a,b,rfl]:=d
  show dJ L (ay (aQ (ay (aQ (bg #[L,#[_,_,L],aw L #[L,L]])))))
 ·rw[QPq] at h
  show h
section
variable{S S0:aE}{k most s e le:Nat}{ws:X6}{q:List (Str×Str)}{ps f:List (Str×Nat)}{g:List (List (Str×Nat)×List Rw)}{J F K I G H v j t u A l C m i B w:Option D}
def Ht{Q:Out->Prop}(x:Ex k S0 S)(hk:k<S0.length)(b4:S0.length<=e)(n1:s≠k)(n2:le≠k)(d3:s≠e)(hW:S[s]?=some (.lst (ws.map D.str)))(hE:S[le]?=some (.lst (q.map cp)))(hH:S[e]?=some (.lst (g.map fS)))
  (c3:ws.length=24) (l1:ps.length<=4) (l2:f.length<=4) (l3:q.length<900) (l4:g.length<900) (m1:1<=most) (m4:most<=4)
  (h:∀(p:List (Str×Nat)×List Rw) (W:aE) (b6 b5 b2 c1:Option D),AU q (f.map (·.1)) (ps.map (·.1)) p->W[e]?=some (.lst ((g++ [p]).map fS))->Ex k S0 W->Fr [k,e] S W->
   Q (.nx [some (.ref k),some (.int most),some (.ref s),J,F,K,I,G,some (.ref le),H,v,j,t,u,b6,l,b5,m,i,some (.tup (ps.map kF)),some (.tup (f.map kF)),some (.ref e),b2,c1] W)):
  T Jp [some (.ref k),some (.int most),some (.ref s),J,F,K,I,G,some (.ref le),H,v,j,t,u,A,l,C,m,i,some (.tup (ps.map kF)),some (.tup (f.map kF)),some (.ref e),B,w] S Q:=by
 have y:Ex k S S:=by let#[a,b,c,hh]:=x.pot;show Ex.refl hh
 let kS:=x.lt
 let c4:=(gQs.mp hW).1
 let rq:=(gQs.mp hE).1
 let d1:=(gQs.mp hH).1
 unfold Jp
 show aG (cf (dG (zc L hW (eG ⟨22,L,by omega,hW,bX (ax (aw L (ax (eG (aN ?_)))))⟩))))
 show cG x (!1) (!1) λv1 S1 c5 e1 b1 _=>⟨v1,L,?_⟩
 obtain⟨M,Y⟩:∃M:List Str,(ws.drop 22).take v1=M:=⟨_,L⟩
 have d2:M.length<=1:=by rw[<-Y,Qxq];omega
 rw[Y]
 have e2:Ex k S0 (S1++ [O.lst (M.map D.str)]):=e1.app
 have a5:Ex k S (S1++ [O.lst (M.map D.str)]):=b1.app
 have Z:(S1++ [O.lst (M.map D.str)])[S1.length]?=some (.lst (M.map D.str)):=aW
 have b7:S.length<=S1.length:=b1.len
 generalize (S1++ [O.lst (M.map D.str)])=S2 at e2 a5 Z|-
 generalize S1.length=lo at Z b7|-
 have no:lo≠k:=by omega
 show aG (cf (cy (eG (bX (ax (aw L (ax (aw L (aN ?_)))))))))
 show cG e2 (!0) (!0) λv2 X d0 e3 a7 _=>?_
 show pq ?_
 rw[show(1:Int)+(v2:Int)=((1+v2:Nat):Int) by omega]
 let a2:=a7.keep _ _ no Z
 show aG (cf (dG (yK (cn (aw L (bN a2 (iI (FS L (!0) ⟨⟨rfl,L,a2,nQl (aM (by simp;omega))⟩,?_⟩))))))))
 rw[<-Qzq]
 obtain⟨N,U⟩:∃N:List Str,M++f.map (·.1)=N:=#[_,L]
 have c7:N.length<=5:=by rw[<-U,lQa,lQm];omega
 rw[U]
 have a8:Ex k S X:=a5.trans a7
 have e4:Ex k S0 (X++ [O.lst (N.map D.str)]):=e3.app
 have a1:Ex k S (X++ [O.lst (N.map D.str)]):=a8.app
 have a9:(X++ [O.lst (N.map D.str)])[lo]?=some (.lst (M.map D.str)):=bq a2
 have a0:(X++ [O.lst (N.map D.str)])[X.length]?=some (.lst (N.map D.str)):=aW
 have b3:S.length<=X.length:=a8.len
 generalize (X++ [O.lst (N.map D.str)])=S4 at e4 a1 a9 a0|-
 generalize X.length=ln at a0 b3|-
 have nn:ln≠k:=by omega
 have y4:Ex k S4 S4:=by let#[a,b,c,hh]:=e4.pot;show Ex.refl hh
 let c0:=a1.keep _ _ n2 hE
 show aG (cf (dG (gL (kM (aw L #[((1+v2:Nat):Int),L,by omega,?_])))))
 show#[λn R W a3=>(∃o,R= [o,some (.ref k),some (.ref le),some (.int (1+v2:Nat)),some (.tup (ps.map kF)),some (.ref ln)])/\∃P:List Rw,P.length=n/\(∀r∈P,r.Ok #[true,N,N,[],q,ps.map (·.1)] (1+v2))/\a3=P.map Rw.d/\Ex k S0 W/\Ex k S4 W,#[#[none,L],[],L,λ_ h=>(nomatch h),L,e4,y4],λ_ _ _ _ _=>trivial,?_,?_]
 ·rintro n d R W a3 hd ⟨⟨o,rfl⟩,P,hn,hok,rfl,e5,e5'⟩
  let#[rfl,hnv]:=eM hd
  show aQ (gM ?_)
  rw[Qhq L]
  apply bX (ax (aw L (ax (aw L (ax (dG (FS L (!0) ?_)))))))
  show#[by show 2<=_;decide,?_]
  symm
  let c6:=e5.lt
  show zA e5.app nn (!0) n2 (bq (e5'.keep _ _ nn a0)) aW (bq (e5'.keep _ _ n2 c0)) (!0) (by rw[lQm];omega) l3 hnv (!0) λr S6 c2 e6 b8 _=>?_
  have y5:Ex k W W:=by let#[a,b,c,hh]:=e5.pot;show Ex.refl hh
  show#[by rw[lQm];show aM (!0),#[_,L],P++ [r],by simp[hn],λz hz=>?_,by simp,e6,e5'.trans (y5.app.trans b8)]
  rcases mQa.mp hz with hz|hz
  ·show hok z hz
  ·rw[Qfq.mp hz];show c2
 rintro R S5 a3 ⟨-,P,hn,hok,rfl,e5,e5'⟩
 rw[gH] at hn
 have b0:Ex k S S5:=a1.trans e5'
 have a4:S5[e]?=some (.lst (g.map fS)):=b0.keep _ _ (!0) hH
 have a6:S5[lo]?=some (.lst (M.map D.str)):=e5'.keep _ _ no a9
 show mK (y6 (aw L #[_,_,L,bq a4,?_]))
 show ax (dH (ax (fe (iI ?_))))
 show w9 (α:=Str) (λR=>∃a,R= [a]) D.str (λz=>kF (z,0)) #[_,L] ?_
 show cn (aw L (bN (bq a6) #[M,L,bq a6,by omega,λz hz R b9=>?_,?_]))
 ·let#[a,rfl]:=b9
  show aQ #[L,#[_,L],?_]
  show dH (ax (aw L (ax (eG (aN #[by show 2<=_;decide,L,L])))))
 show ax (fe (eV (cn (aw L (bN aW #[L,aN #[by show 2<=_;decide,aN #[_,bq a4,m7 (aM (by rw[lQm];omega)) ?_]]])))))
 have eo:(M.map λz=>((z,0):Str×Nat)).map (·.1)=M:=by rw[QPq];show List.map_id M
 show h (M.map λz=>(z,0),P) _ _ _ _ _ #[λp hp=>?_,by show(M.map _).length<=6;rw[lQm];omega,by show P.length<=9;omega,by show 0<P.length;omega,λr hr=>?_] ?_ (e5.app.put b4 hk) ((Fr.ex b0 (by simp)).trans (Fr.app.trans (Fr.set (by simp))))
 ·let#[z,_,rfl]:=Qkq.mp hp
  show 0<=9
  decide
 ·have:=hok r hr
  rw[show 1+v2=P.length from hn.symm] at this
  show r.Ok #[true,(M.map λz=>((z,0):Str×Nat)).map (·.1)++f.map (·.1),(M.map λz=>((z,0):Str×Nat)).map (·.1)++f.map (·.1),[],q,ps.map (·.1)] P.length
  rw[eo,U]
  show this
 ·rw[fY (bq a4),Qzq]
  show some (O.lst (g.map fS++ [.tup [.tup (M.map λz=>kF (z,0)),.tup (P.map Rw.d)]]))=some (O.lst (g.map fS++ [.tup [.tup ((M.map λz=>(z,0)).map kF),.tup (P.map Rw.d)]]))
  rw[QPq]
  rfl
end
end W28
namespace DL
open L2
def Kq{a:cv}{S:aE}{f g:bj}{Q:(List D×(aE->Prop))->aE->Prop}(h:E f a S λd c=>E g a c λb S2=>∃i j,d=.int i/\b=.int j/\(-(2^62)<=i/\i<2^62/\ -(2^62)<=j/\j<2^62)/\Q (jt i j,λ_=>True) S2):E (I0 f g) a S Q:=by
 let#[d,c,e,b,S2,k,i,j,rfl,rfl,hb,q]:=h
 show#[_,S2,by unfold I0;rw[e];erw[Qbq];rw[k];erw[Qbq];rw[Qhq hb],q]
def C3{j n:Nat}{d:D}(h:(jt 1 (j:Int))[n]?=some d):d=.int (1+n:Nat)/\1+n<j:=by
 erw[jt,gQm] at h
 let#[i,c,rfl]:=oQm.mp h
 let#[b,a]:=gQs.mp c
 simp at b a
 subst a
 show#[by simp,by omega]
def Dm{j:Nat}:(jt 1 (j:Int)).length=j-1:=by erw[jt,lQm,QVq];omega
end DL
namespace W28
open L2 DL
section
variable{S S0:aE}{k:Nat}{Q:Res->aE->Prop}
def Da{rs:List Rm}{i j:Nat}{r:Rm}{x:Str}(c:rs[i]?=some r)(a:(r.ae.map (·.1))[j]?=some x):(r.name,x)∈bP rs:=by
 rw[gQm] at a
 let#[p,b,rfl]:=oQm.mp a
 show QOq.mpr #[r,mQg c,Qkq.mpr #[p,mQg b,L]]
def yR{rs:List Rm}{r:Rm}:bP (rs++ [r])=bP rs++r.ae.map λp=>(r.name,p.1):=by
 unfold bP
 rw[List.flatMap_append]
 simp
def tK{rs:List Rm}{ws:X6}(h:∀(i:Nat) (r:Rm),rs[i]?=some r->ws[i]?=some r.name):rs.map (·.name)=ws.take rs.length:=by
 apply List.ext_getElem?
 intro i
 rw[gQm,List.getElem?_take]
 cases a:rs[i]? with
 | none=>
   have:=List.getElem?_eq_none_iff.mp a
   rw[Quq (!0)]
   rfl
 | some r=>
   have:=(gQs.mp a).1
   rw[Qhq this,h i r a]
   rfl
def Eb{rs:List Rm}{ws:X6}(a:ws.Pairwise rq)(h:∀(i:Nat) (r:Rm),rs[i]?=some r->ws[i]?=some r.name):(rs.map (·.name)).Pairwise rq:=by
 rw[tK h]
 show a.sublist (List.take_sublist ..)
def Q8(w:cu):Prop:=(w.aj.map (·.name)).Pairwise rq
def names_nodup{rs:List Rm}{ws:X6}(a:ws.Nodup)(h:∀(i:Nat) (r:Rm),rs[i]?=some r->ws[i]?=some r.name):(rs.map (·.name)).Nodup:=by
 rw[tK h]
 show a.sublist (List.take_sublist ..)
def E7{most:Nat}(x:Ex k S0 S)(m1:1<=most)(m4:most<=4)(h:∀(w:cu) (t:aE),dz w->Q8 w->Ex k S0 t->Ex k S t->t.length=S.length->Q (.d w.d) t):Fn iV [.ref k,.int most] S Q:=by
 have y:Ex k S S:=by let#[a,b,c,hh]:=x.pot;show Ex.refl hh
 let kl:=x.lt
 show bR ?_
 unfold l8
 symm
 show Fn gE [.ref k,.int ((24:Nat):Int)] S _
 show Fb y (!1) λG S1 f1 h0 b7 i2 e1 j1 l1=>?_
 dsimp only[bI,bo,bF,cI,cP,g8]
 have e2:Ex k S (S1++ [O.lst (G.map D.str)]):=e1.app
 have b2:(S1++ [O.lst (G.map D.str)])[S1.length]?=some (.lst (G.map D.str)):=aW
 have d9:S.length<=S1.length:=by omega
 generalize (S1++ [O.lst (G.map D.str)])=S2 at e2 b2|-
 generalize S1.length=lw at b2 d9|-
 have nw:lw≠k:=by omega
 show aG (cf (eS (n:=6) (xs:= [.int 1,.int 2,.int 1,.int 2,.int 3,.int 0]) L e2 (!1) (!1) L (by symm;show⟨rfl,L⟩) λd S3 C e3 f5 _=>?_))
 obtain⟨A,f3,rfl⟩:∃n:Nat,n<=3/\d=.int n:=by
  erw[Qsq,QXq,or_false] at C
  rcases C with rfl|rfl|rfl|rfl|rfl|rfl
  ·show#[1,by omega,L]
  ·show#[2,by omega,L]
  ·show#[1,by omega,L]
  ·show#[2,by omega,L]
  ·show#[3,by omega,L]
  ·show#[0,by omega,L]
 let h6:=f5.keep _ _ nw b2
 show aG (cf (dG (gL (kM (aw L #[(A:Int),L,by omega,?_])))))
 show#[λn f t Z=>(∃o,f= [o,some (.ref k)])/\∃e:List Nat,e.length=n/\(∀s∈e,s<=2)/\Z=e.map nq/\Ex k S t/\Ex k S3 t,#[#[none,L],[],L,λ_ h=>(nomatch h),L,e3,by let#[a,b,c,hh]:=e3.pot;show Ex.refl hh],λ_ _ _ _ _=>trivial,?_,?_]
 ·rintro n d f t Z C ⟨⟨o,rfl⟩,e,hn,h2,rfl,e4,e4'⟩
  let#[rfl,a2]:=eM C
  show aQ (gM ?_)
  rw[Qhq L]
  symm
  show cG e4 (!1) (!1) λv S5 hv e5 g5 _=>?_
  show pq ?_
  rw[show(1:Int)+(v:Int)=((1+v:Nat):Int) by omega]
  show#[by rw[lQm];show aM (!0),#[_,L],e++ [1+v],by simp[hn],λs M=>?_,by simp[nq],e5,e4'.trans g5]
  rcases mQa.mp M with M|M
  ·show h2 s M
  ·rw[Qfq.mp M];omega
 rintro f S4 Z ⟨-,e,hszl,hsz2,rfl,e4,e4'⟩
 rw[gH] at hszl
 let c7:=e4'.keep _ _ nw h6
 let d1:=(gQs.mp c7).1
 show aG (cf (dG (c_ (aN #[by show 0<=_;decide,?_]))))
 have e5:Ex k S (S4++ [O.lst (e.map nq)]++ [O.lst []]):=e4.app.app
 have d4:(S4++ [O.lst (e.map nq)]++ [O.lst []])[lw]?=some (.lst (G.map D.str)):=bq (bq c7)
 have b4:(S4++ [O.lst (e.map nq)]++ [O.lst []])[S4.length]?=some (.lst (e.map nq)):=bq aW
 have b0:(S4++ [O.lst (e.map nq)]++ [O.lst []])[S4.length+1]?=some (.lst (([]:List (Str×Str)).map cp)):=by have:=aW (S:=S4++ [O.lst (e.map nq)]) (o:=O.lst []);simpa using this
 let g4:=e4.lt
 let h7:=e4.len
 show T _ [some (.ref k),some (.int most),some (.ref lw),some (.int A),some (.ref S4.length),some (.ref (S4++ [O.lst (e.map nq)]).length),none,none,none,none,none,none,none,none,none,none,none,none,none,none,none,none,none,none] _ _
 rw[show(S4++ [O.lst (e.map nq)]).length=S4.length+1 by simp]
 generalize (S4++ [O.lst (e.map nq)]++ [O.lst []])=S5 at e5 d4 b4 b0|-
 generalize S4.length=lz at b4 b0 g4 d1 h7|-
 show aG (gU (kM (aw L #[(A:Int),L,by omega,?_])))
 show#[λj f t=>(∃b6,f= [some (.ref k),some (.int most),some (.ref lw),some (.int A),some (.ref lz),some (.ref (lz+1)),b6,none,none,none,none,none,none,none,none,none,none,none,none,none,none,none,none,none])/\∃gs:List (Str×Str),gs.length<=j/\(∀g∈gs,∃i F a,i<j/\e[i]?=some F/\a<F/\G[i]?=some g.1/\G[8+a]?=some g.2)/\t[lw]?=some (.lst (G.map D.str))/\t[lz]?=some (.lst (e.map nq))/\t[lz+1]?=some (.lst (gs.map cp))/\Ex k S t,#[#[_,L],[],by simp,λ_ h=>(nomatch h),d4,b4,b0,e5],λ_ _ _ _=>trivial,?_,?_]
 ·rintro j d f t C ⟨⟨b6,rfl⟩,gs,hgl,hgs,hW,hZ,hI,ex⟩
  let#[rfl,hj]:=eM C
  obtain⟨F,Y⟩:∃F,e[j]?=some F:=⟨_,gQe (!0)⟩
  let c0:=hsz2 F (mQg Y)
  obtain⟨nm,a2⟩:∃nm,G[j]?=some nm:=#[_,gQe (!0)]
  show aQ ?_
  show mK (Ez (aw L #[_,_,L,hI,iI (gL (Kq (eG (cy (aw L (aw L (dW hZ (aR (by rw[gQm,Y];rfl)) #[1,(F:Int),L,L,by omega,?_])))))))]))
  show#[λn f a3 Z=>(∃o,f= [o,some (.ref lw),some (.int j)])/\a3=t/\∃fs:List (Str×Str),fs.length=n/\(∀g∈fs,g.1=nm/\∃a,a<F/\G[8+a]?=some g.2)/\Z=fs.map cp,#[#[none,L],L,[],L,λ_ h=>(nomatch h),L],λ_ _ _ _ _=>trivial,?_,?_]
  ·rintro n d f a3 Z C ⟨⟨o,rfl⟩,rfl,fs,hfl,hfs,rfl⟩
   let#[rfl,hn]:=C3 C
   obtain⟨n8,d3⟩:∃n8,G[8+(1+n)]?=some n8:=#[_,gQe (!0)]
   show aQ (gM ?_)
   rw[Qhq L]
   show dH (ax (cy (aw L (aw L (dW hW (aR (by rw[gQm,a2];rfl)) ?_)))))
   show ax (cy (aw L (cy (eG (aw L (pq ?_))))))
   rw[show(8:Int)+((1+n:Nat):Int)=((8+(1+n):Nat):Int) by omega]
   show dW hW (aR (by rw[gQm,d3];rfl)) ?_
   show aN #[by show 2<=_;decide,by rw[lQm];show aM (!0),#[_,L],L,fs++ [(nm,n8)],by simp[hfl],λg hg=>?_,by simp[cp]]
   rcases mQa.mp hg with hg|hg
   ·show hfs g hg
   ·rw[Qfq.mp hg];show#[L,1+n,hn,d3]
  rintro f a3 Z ⟨-,rfl,fs,hfl,hfs,rfl⟩
  rw[Dm] at hfl
  show#[_,hI,#[L,nQl (aM (by rw[lQm,lQm];omega))],#[_,L],gs++fs,by rw[lQa];omega,λg hg=>?_,i9 (!0) hW,i9 (!0) hZ,by rw[fY hI,Qzq],ex.put (!0) kl]
  rcases mQa.mp hg with hg|hg
  ·let#[i,F,a,h1,h2,h3,h4]:=hgs g hg
   show#[i,F,a,by omega,h2,h3,h4]
  ·let#[h1,a,h2,h3]:=hfs g hg
   show#[j,F,a,by omega,Y,h2,by rw[h1];show a2,h3]
 rintro f J ⟨⟨b6,rfl⟩,gs,hgl,hgs,hW6,hZ6,hI6,e6⟩
 rw[gH] at hgl hgs
 let f0:=(gQs.mp hI6).1
 show aG (FK (ax (dG (c_ (aN #[by show 0<=_;decide,ax (dG (c_ (aN #[by show 0<=_;decide,aN #[_,_,L,?_]])))])))))
 have e7:Ex k S (J++ [O.lst []]++ [O.lst []]):=e6.app.app
 have d0:(J++ [O.lst []]++ [O.lst []])[lw]?=some (.lst (G.map D.str)):=bq (bq hW6)
 have d2:(J++ [O.lst []]++ [O.lst []])[lz]?=some (.lst (e.map nq)):=bq (bq hZ6)
 have c6:(J++ [O.lst []]++ [O.lst []])[lz+1]?=some (.lst (gs.map cp)):=bq (bq hI6)
 have b5:(J++ [O.lst []]++ [O.lst []])[J.length]?=some (.lst (([]:List Rm).map Rm.d)):=bq aW
 have a8:(J++ [O.lst []]++ [O.lst []])[J.length+1]?=some (.lst ((bP []).map cp)):=by have:=aW (S:=J++ [O.lst []]) (o:=O.lst []);rw[show(J++ [O.lst []]).length=J.length+1 by simp] at this;show this
 show T _ [some (.ref k),some (.int most),some (.ref lw),some (.int A),some (.ref lz),some (.ref (lz+1)),b6,some (.ref J.length),some (.ref (J++ [O.lst []]).length),none,none,none,none,none,none,none,none,none,none,none,none,none,none,none] _ _
 rw[show(J++ [O.lst []]).length=J.length+1 by simp]
 let g6:=e6.len
 generalize (J++ [O.lst []]++ [O.lst []])=S7 at e7 d0 d2 c6 b5 a8|-
 generalize J.length=lr at b5 a8 f0 g6|-
 show aG (gU (kM (aw L #[(A:Int),L,by omega,?_])))
 show#[λj f t=>(∃x0:Nat->Option D,f= [some (.ref k),some (.int most),some (.ref lw),some (.int A),some (.ref lz),some (.ref (lz+1)),x0 0,some (.ref lr),some (.ref (lr+1)),x0 1,x0 2,x0 3,x0 4,x0 5,x0 6,x0 7,x0 8,x0 9,x0 10,none,none,none,none,none])/\∃u:List Rm,u.length=j/\(∀(i:Nat) (r:Rm),u[i]?=some r->G[i]?=some r.name/\Ap gs r/\∃F,e[i]?=some F/\r.ae.map (·.1)=(G.drop 8).take F)/\t[lr]?=some (.lst (u.map Rm.d))/\t[lr+1]?=some (.lst ((bP u).map cp))/\t[lw]?=some (.lst (G.map D.str))/\t[lz]?=some (.lst (e.map nq))/\t[lz+1]?=some (.lst (gs.map cp))/\Ex k S t,#[#[λi=>[_,_,_,_,_,_,_,_,_,_,_].getD i none,L],[],L,λi r hr=>by simp at hr,b5,a8,d0,d2,c6,e7],λ_ _ _ _=>trivial,?_,?_]
 ·rintro j d f t C ⟨⟨x0,rfl⟩,u,hrl,hrs,hR,hE,hW,hZ,hI,ex⟩
  let#[rfl,hj]:=eM C
  obtain⟨F,Y⟩:∃F,e[j]?=some F:=#[_,gQe (!0)]
  let c0:=hsz2 F (mQg Y)
  have f2:(bP u).length<=6*u.length:=vA λr hr=>by
   let#[i,hi]:=List.getElem?_of_mem hr
   show(hrs i r hi).2.1.l3
  show aQ ?_
  show Ja (gs:=gs) ex kl (!0) (!0) (!0) nw (!0) (!0) (!0) (!0) hW hZ hI hR hE b7 Y c0 (!0) (!0) (!0) (!0) λr a3 b9 U K X W I P H N R a2 f4 a9 c2 d6 a1 B=>?_
  show#[#[λi=>[_,_,_,_,_,_,_,_,_,_,_].getD i none,L],u++ [r],by simp[hrl],λi r' a0=>?_,c2,by rw[yR];show d6,B.keep _ _ (by simp;omega) hW,B.keep _ _ (by simp;omega) hZ,B.keep _ _ (by simp;omega) hI,a1]
  by_cases c:i<u.length
  ·rw[QHq c] at a0
   show hrs i r' a0
  ·rw[QQq (!0)] at a0
   have hi:i-u.length=0:=by
    have:=(gQs.mp a0).1
    simp at this
    omega
   rw[hi] at a0
   cases a0
   have:i=u.length:=by omega
   rw[this,hrl]
   show#[a2,a9,F,Y,f4]
 rintro f S8 ⟨⟨x0,rfl⟩,u,hrl,hrs,hR8,hE8,hW8,hZ8,hI8,e8⟩
 rw[gH] at hrl
 have f2:(bP u).length<=6*u.length:=vA λr hr=>by
  let#[i,hi]:=List.getElem?_of_mem hr
  show(hrs i r hi).2.1.l3
 have y8:Ex k S8 S8:=by let#[a,b,c,hh]:=e8.pot;show Ex.refl hh
 show aG (cf (fe (iI (EY (S0:=S) (m:=2) (λl=>l.length<=2) L (!1) (!1) (nI (iI (zc L hW8 (eG ⟨4,L,by omega,hW8,eS (n:=4) (xs:= [.int 0,.int 1,.int 2,.int 1]) L e8 (!1) (!1) L (by symm;show⟨rfl,L⟩) λd S9 C e9 b3 _=>?_⟩)))) λps SA f9 h8 eA d7=>?_))))
 ·obtain⟨n,hn,rfl⟩:∃n:Nat,n<=2/\d=.int n:=by
   erw[Qsq,QXq,or_false] at C
   rcases C with rfl|rfl|rfl|rfl
   ·show⟨0,by omega,L⟩
   ·show⟨1,by omega,L⟩
   ·show⟨2,by omega,L⟩
   ·show⟨1,by omega,L⟩
  show⟨n,L,(G.drop 4).take n,by rw[Qxq];omega,by rw[Qxq];omega,L,e9,b3,λ_ _=>trivial⟩
 rw[lQm] at f9
 let d8:=d7.keep _ _ nw hW8
 show aG (cf (fe (iI (EY (S0:=S) (m:=2) (λl=>l.length<=1) L (!1) (!1) (nI (iI (zc L d8 (eG ⟨20,L,by omega,d8,eS (n:=3) (xs:= [.int 0,.int 0,.int 1]) L eA (!1) (!1) L (by symm;show⟨rfl,L⟩) λd S9 C e9 b3 _=>?_⟩)))) λos SB g0 f7 eB e0=>?_))))
 ·obtain⟨n,hn,rfl⟩:∃n:Nat,n<=1/\d=.int n:=by
   erw[Qsq,QXq,or_false] at C
   rcases C with rfl|rfl|rfl
   ·show⟨0,by omega,L⟩
   ·show⟨0,by omega,L⟩
   ·show⟨1,by omega,L⟩
  show⟨n,L,(G.drop 20).take n,by rw[Qxq];omega,by rw[Qxq];omega,L,e9,b3,λ_ _=>trivial⟩
 rw[lQm] at g0
 have a5:Ex k S8 SB:=d7.trans e0
 show aG (cf (dG (c_ (aN ⟨by show 0<=_;decide,?_⟩))))
 let f6:=a5.len
 let i5:=(gQs.mp hE8).1
 have eC:Ex k S (SB++ [O.lst []]):=eB.app
 have d5:(SB++ [O.lst []])[lw]?=some (.lst (G.map D.str)):=bq (a5.keep _ _ nw hW8)
 have c4:(SB++ [O.lst []])[lr+1]?=some (.lst ((bP u).map cp)):=bq (a5.keep _ _ (!0) hE8)
 have c5:(SB++ [O.lst []])[lr]?=some (.lst (u.map Rm.d)):=bq (a5.keep _ _ (!0) hR8)
 have b1:(SB++ [O.lst []])[SB.length]?=some (.lst (([]:List (List (Str×Nat)×List Rw)).map fS)):=aW
 generalize (SB++ [O.lst []])=SC at eC d5 c4 c5 b1|-
 generalize SB.length=lh at b1 f6|-
 show aG (gU (kM (eS (n:=6) (xs:= [.int 2,.int 2,.int 3,.int 1,.int 2,.int 4]) L eC (!1) (!1) L (by symm;show⟨rfl,L⟩) λd SD C eD a6 _=>?_)))
 obtain⟨nh,h9,i0,rfl⟩:∃n:Nat,1<=n/\n<=4/\d=.int n:=by
  erw[Qsq,QXq,or_false] at C
  rcases C with rfl|rfl|rfl|rfl|rfl|rfl
  ·show#[2,by omega,by omega,L]
  ·show#[2,by omega,by omega,L]
  ·show#[3,by omega,by omega,L]
  ·show#[1,by omega,by omega,L]
  ·show#[2,by omega,by omega,L]
  ·show#[4,by omega,by omega,L]
 show#[(nh:Int),L,by omega,?_]
 show#[λj f t=>(∃x5:Nat->Option D,f= [some (.ref k),some (.int most),some (.ref lw),some (.int A),some (.ref lz),some (.ref (lz+1)),x5 0,some (.ref lr),some (.ref (lr+1)),x5 1,x5 2,x5 3,x5 4,x5 5,x5 6,x5 7,x5 8,x5 9,x5 10,some (.tup (ps.map kF)),some (.tup (os.map kF)),some (.ref lh),x5 11,x5 12])/\∃M:List (List (Str×Nat)×List Rw),M.length=j/\(∀p∈M,AU (bP u) (os.map (·.1)) (ps.map (·.1)) p)/\t[lh]?=some (.lst (M.map fS))/\t[lr]?=some (.lst (u.map Rm.d))/\t[lr+1]?=some (.lst ((bP u).map cp))/\t[lw]?=some (.lst (G.map D.str))/\Ex k S t,#[#[λi=>[_,_,_,_,_,_,_,_,_,_,_,_,_].getD i none,L],[],L,λ_ h=>(nomatch h),a6.keep _ _ (!0) b1,a6.keep _ _ (!0) c5,a6.keep _ _ (!0) c4,a6.keep _ _ nw d5,eD],λ_ _ _ _=>trivial,?_,?_]
 ·rintro j d f t C ⟨⟨x5,rfl⟩,M,hhl,hhs,hH,hR,hE,hW,ex⟩
  let#[rfl,hj]:=eM C
  show aQ ?_
  show Ht ex kl (!0) nw (!0) (!0) hW hE hH b7 (!0) (!0) (!0) (!0) m1 m4 λp a3 I H a4 a7 a9 c1 a1 B=>?_
  show#[#[λi=>[_,_,_,_,_,_,_,_,_,_,_,_,_].getD i none,L],M++ [p],by simp[hhl],λq hq=>?_,c1,B.keep _ _ (by simp;omega) hR,B.keep _ _ (by simp;omega) hE,B.keep _ _ (by simp;omega) hW,a1]
  rcases mQa.mp hq with hq|hq
  ·show hhs q hq
  ·rw[Qfq.mp hq];show a9
 rintro f SE ⟨⟨x5,rfl⟩,M,hhl,hhs,hH,hR,hE,hW,eE⟩
 rw[gH] at hhl
 have f8:∀g∈gs,g∈bP u:=λg hg=>by
  let#[i,F,a,h1,h2,h3,h4,h5]:=hgs g hg
  let c3:=gQe (l:=u) (i:=i) (!0)
  let#[g1,_,i1,g2,g3]:=hrs i _ c3
  rw[h2] at g2
  cases g2
  have:(u[i].name,g.2)∈bP u:=Da (j:=a) c3 (by rw[g3,List.getElem?_take,Qhq h3,List.getElem?_drop];show h5)
  rw[h4] at g1
  rw[<-QdQ g1] at this
  show this
 have b8:dz ⟨u,ps,os,M⟩:=by
  show#[names_nodup f1 λi r hr=>(hrs i r hr).1,by show u.length<=4;omega,by show ps.length<=6;omega,by show os.length<=6;omega,by show M.length<=4;omega,by show 0<M.length;omega,λp hp=>by have:=h8 p hp;omega,λp hp=>by have:=f7 p hp;omega,λr hr=>?_,hhs]
  let#[i,hi]:=List.getElem?_of_mem hr
  show(hrs i r hi).2.1.sub f8
 show dk (dH (ax (fe (eV (cn (aw L (bN hR #[L,?_])))))))
 show ax (aw L (ax (aw L (ax (fe (eV (cn (aw L (bN hH #[L,?_])))))))))
 show aN #[by show 4<=_;decide,?_]
 show zx eE kl (λk z=>(nomatch z)) (gA (cu.low #[u,ps,os,M])) λa b c=>?_
 show h #[u,ps,os,M] _ b8 (Eb h0 λi r hr=>(hrs i r hr).1) x.set y.set (by simp)
end
end W28
namespace DL
open L2
def LS{l:cv}{S:aE}{js:List (Option Nat)}{f:et}{g:me}{i:bj}{Q:List D->aE->Prop}(P:cv->Prop)(F:D->D)(o:P (nZ js l)) (h:E f l S λp e=>p.2.stays e p.1/\p.1.length<=1000∧
   (∀d∈p.1,∀a,P a->Tg g d a e λc S2=>S2=e/\P c/\E i c e λy m=>y=F d/\m=e)/\Q (p.1.map F) e):E (bK js (ki f) g bT i) l S Q:=by
 show gL (nI (h.mono λp e s=>?_))
 let#[t,hl,x,q]:=s
 show#[λn a j b=>j=e/\b=(p.1.take n).map F/\P a,#[L,L,o],λn a j b h=>by rw[h.1];show t,λn d a j b k h=>?_,λa j b h=>?_]
 ·let#[rfl,rfl,h3]:=h
  let#[c,S2,v,rfl,h4,h5]:=x d (mQg k) a h3
  show#[c,S2,v,gM ?_]
  rw[Qhq L]
  show h5.mono λy m u=>?_
  let#[r,w]:=u
  subst r w
  let z:=(gQs.mp k).1
  show#[?_,L,?_,h4]
  ·rw[lQm,Qxq]
   show aM (!0)
  ·rw[QYq,k]
   simp
 ·let#[rfl,rfl,_]:=h
  rw[QEq]
  show q
def s_{α:Type}{o:cv}{S:aE}{js:List (Option Nat)}{f:et}{g:me}{k:bj}{Q:List D->aE->Prop}(P:cv->Prop)(enc G:α->D)(t:P (nZ js o)) (h:E f o S λp i=>∃xs:List α,p.1=xs.map enc/\p.2.stays i p.1/\xs.length<=1000∧
   (∀x∈xs,∀a,P a->Tg g (enc x) a i λc S2=>S2=i/\P c/\E k c i λy s=>y=G x/\s=i)/\Q (xs.map G) i):E (bK js (ki f) g bT k) o S Q:=by
 show gL (nI (h.mono λp i v=>?_))
 let#[xs,r,w,hl,C,q]:=v
 show#[λn a m b=>m=i/\b=(xs.take n).map G/\P a,#[L,L,t],λn a m b h=>by rw[h.1];show w,λn d a m b l h=>?_,λa m b h=>?_]
 ·let#[rfl,rfl,h3]:=h
  have l:p.1[n]?=some d:=l
  rw[r,gQm] at l
  let#[x,j,rfl]:=oQm.mp l
  let#[c,S2,A,rfl,h4,h5]:=C x (mQg j) a h3
  show#[c,S2,A,gM ?_]
  rw[Qhq L]
  show h5.mono λy s z=>?_
  let#[u,B]:=z
  subst u B
  let F:=(gQs.mp j).1
  show#[?_,L,?_,h4]
  ·rw[lQm,Qxq]
   show aM (!0)
  ·rw[QYq,j]
   simp
 ·let#[rfl,rfl,_]:=h
  have e:p.1.length=xs.length:=by rw[r,lQm]
  show Q ((xs.take p.1.length).map G) _
  rw[e,QEq]
  show q
def cC{S:aE}{d:D}{Q:Res->aE->Prop}(a:∀k,d≠.ref k)(hl:cj 0 d=true)(q:Q (.d d) S):Op (settle S d S) λp=>Q p.1 p.2:=hU uv (QEq) a (gA hl) q
def Fu{S:aE}{ds:List D}{Q:Res->aE->Prop}(hl:bC 0 ds=true)(q:Q (.l ds) S):Op (fQ S ds S) λp=>Q p.1 p.2:=n_ uv (QEq) (jK hl) q
end DL
namespace W28
open L2 DL
structure cg where
 room:Int
 deed:Int
 row:Int
 given:Int
 told:Int
structure cM where
 vals:List Int
 within:Int
 row:List Int
 ag:List Int
 aa:List (List (Int×Int))
structure aO where
 aj:List cM
 ai:List (Int×List Int)
 ak:List Int
 af:List (List Int×List cg)
noncomputable def cQ(l:List Int):D:=.tup (l.map D.int)
noncomputable def cg.d(f:cg):D:=.tup [.int f.room,.int f.deed,.int f.row,.int f.given,.int f.told]
noncomputable def pairD(p:Int×Int):D:=.tup [.int p.1,.int p.2]
def eh(l:List (Int×Int)):D:=.tup (l.map pairD)
def cM.d(r:cM):D:=.tup [cQ r.vals,.int r.within,cQ r.row,cQ r.ag,.tup (r.aa.map eh)]
def Ad(p:Int×List Int):D:=.tup [.int p.1,cQ p.2]
def Ao(h:List Int×List cg):D:=.tup [cQ h.1,.tup (h.2.map cg.d)]
def aO.d(s:aO):D:=.tup [.tup (s.aj.map cM.d),.tup (s.ai.map Ad),cQ s.ak,.tup (s.af.map Ao)]
def lM(l:List Int):cj 0 (cQ l)=true:=by erw[cQ,cj];show aZ λ_ _=>rfl
def uA(l:List (Int×Int)):cj 0 (eh l)=true:=by erw[eh,cj];show aZ λ_ _=>rfl
def cM.low(r:cM):cj 0 r.d=true:=by
 erw[cM.d,cj,bC,lM,Bool.and_true,Bool.true_and]
 show aZ λl _=>uA l
def A5(p:Int×List Int):cj 0 (Ad p)=true:=by erw[Ad,cj,bC,lM,Bool.and_true]
def Ay(h:List Int×List cg):cj 0 (Ao h)=true:=by
 erw[Ao,cj,bC,lM,Bool.and_true,Bool.true_and]
 show aZ λ_ _=>rfl
def aO.low(s:aO):cj 0 s.d=true:=by
 erw[aO.d,cj,bC,lM,Bool.and_true,Bool.true_and,QCq]
 show#[aZ λr _=>r.low,aZ λp _=>A5 p,aZ λh _=>Ay h]
noncomputable def fw(ts:List (Str×Nat)):List Int:=ts.map λp=>(p.2:Int)
def c9(r:Rm):cM:=#[fw r.ao,-1,[],[],r.aa.map λ_=> []]
noncomputable def GB:cg:=#[-1,-1,0,0,0]
def bf(w:cu):aO:=#[w.aj.map c9,w.ai.map λp=>((p.2:Int),[]),fw w.ak,w.af.map λh=>(fw h.1,[GB])]
section
variable{S:aE}{Q:Res->aE->Prop}
def kb{ts:List (Str×Nat)}(l:ts.length<=1000)(h:Q (.d (cQ (fw ts))) S):Fn gg [.tup (ts.map kF)] S Q:=by
 show bR ?_
 unfold om
 symm
 apply LS (λc=>∃a b,c= [a,b]) (λd=>match d with|.tup [_,v]=>v|d=>d) #[none,none,L] ?_
 show#[trivial,by simpa using l,λd g c f=>?_,?_]
 ·let#[p,_,rfl]:=Qkq.mp g
  let#[a,b,rfl]:=f
  show dJ L (ay (aQ (ay (aQ (bg ?_)))))
  apply#[L,#[_,_,L],?_]
  show#[L,L]
 ·have e:(ts.map kF).map (λd=>match d with|.tup [_,v]=>v|d=>d)=(fw ts).map D.int:=by
   erw[fw,QPq]
   rfl
  rw[e]
  show cC (d:=cQ (fw ts)) (λk z=>(nomatch z)) (lM _) h
def uS{r:Rm}(b:r.ao.length<=6)(c:r.aa.length<=6)(h:Q (.d (c9 r).d) S):Fn iO [r.d] S Q:=by
 show bR ?_
 unfold lB
 symm
 apply dJ L (ay (aQ (ay (aQ (ay (aQ (ay (aQ (ay (aQ (bg ?_)))))))))))
 apply kb (!0) ?_
 apply#[by decide,?_]
 apply#[by decide,?_]
 apply JW (λ_=>.tup []) ?_
 show#[trivial,by simp;omega,λd a=>?_,?_]
 ·symm
  show#[by decide,L,L]
 ·symm
  show#[by show 5<=_;decide,?_]
  have e:D.tup ((r.aa.map IZ).map λ_=>D.tup [])=D.tup ((c9 r).aa.map eh):=by
   erw[c9,QPq]
   rfl
  rw[e]
  show cC (d:=(c9 r).d) (λk z=>(nomatch z)) (cM.low _) h
def jI{w:cu}(o:dz w)(h:Q (.d (bf w).d) S):Fn jZ [w.d] S Q:=by
 show bR ?_
 unfold Bq
 symm
 apply dJ L (ay (aQ (ay (aQ (ay (aQ (ay (aQ (bg ?_)))))))))
 apply#[by decide,?_]
 let n:=o.l1
 let q:=o.l2
 let l:=o.l3
 let m:=o.l4
 apply s_ (α:=Rm) (λc=>∃a,c= [a]) Rm.d (λr=>(c9 r).d) #[none,L] ?_
 show#[w.aj,L,trivial,by omega,λr f c e=>?_,?_]
 ·let#[a,rfl]:=e
  apply aQ #[L,#[_,L],?_]
  show uS (o.rm r f).l1 (o.rm r f).l2 #[L,L]
 symm
 apply s_ (α:=Str×Nat) (λc=>∃a b,c= [a,b]) kF (λp=>Ad ((p.2:Int),[])) #[none,none,L] ?_
 show#[w.ai,L,trivial,by omega,λr f c e=>?_,?_]
 ·let#[a,b,rfl]:=e
  show dJ L (ay (aQ (ay (aQ (bg ?_)))))
  apply#[L,#[_,_,L],?_]
  apply#[by decide,?_]
  show#[by show 2<=_;decide,L,L]
 symm
 apply kb (!0) ?_
 apply s_ (α:=List (Str×Nat)×List Rw) (λc=>∃a b,c= [a,b,some GB.d]) fS (λh=>Ao (fw h.1,[GB])) #[none,none,L] ?_
 show#[w.af,L,trivial,by omega,λr f c e=>?_,?_]
 ·let#[a,b,rfl]:=e
  show dJ L (ay (aQ (ay (aQ (bg ?_)))))
  apply#[L,#[_,_,L],?_]
  show kb (by have:=(o.hd r f).l1;omega) ?_
  symm
  show#[by show 1<=_;decide,?_]
  symm
  show#[by show 2<=_;decide,L,L]
 symm
 show#[by show 4<=_;decide,?_]
 have i:w.aj.map (λr=>(c9 r).d)=(bf w).aj.map cM.d:=by erw[bf,QPq];rfl
 have g:w.ai.map (λp=>Ad ((p.2:Int),[]))=(bf w).ai.map Ad:=by erw[bf,QPq];rfl
 have j:w.af.map (λh=>Ao (fw h.1,[GB]))=(bf w).af.map Ao:=by erw[bf,QPq];rfl
 rw[i,g,j]
 show cC (d:=(bf w).d) (λk z=>(nomatch z)) (aO.low _) h
end
end W28
namespace DL
open L2
section
variable{c:cv}{S:aE}
def pE{f:bj}{Q:D->aE->Prop}(h:E f c S λd a=>∃i,d=.int i/\Q (.int (-i)) a):E (rA f) c S Q:=by
 let#[d,a,b,i,rfl,q]:=h
 show#[_,a,by unfold rA;rw[b];rfl,q]
def jA{f:bj}{lo hi:IM}{Q:D->aE->Prop}(h:E f c S λd b=>E lo c b λl S2=>E hi c S2 λu a=>∃ds,d=.tup ds/\Q (.tup (fP ds l u)) a):E (rS f lo hi) c S Q:=by
 let#[d,b,e,l,S2,i,u,a,g,ds,rfl,q]:=h
 show#[_,a,by unfold rS;rw[e];erw[Qbq];rw[i];erw[Qbq];rw[g];rfl,q]
def Oa{i j:Nat}{f:gw}{Q:Out->Prop}(h:E f c S λds d=>∃a b,ds= [a,b]/\Q (.nx ((c.set i (some a)).set j (some b)) d)):T (wH i j f) c S Q:=by
 let#[ds,d,e,a,b,rfl,q]:=h
 show⟨_,by unfold wH;rw[e];rfl,q⟩
end
def wG{α:Type}{xs:List α}{i:Nat}(h:i<=xs.length):fP xs none (some (i:Int))=xs.take i:=by
 unfold fP
 rw[HT.sY,HT.rX,Nat.min_eq_left h]
 simp
def jC{α:Type}{xs:List α}{i:Nat}(h:i<=xs.length):fP xs (some (i:Int)) none=xs.drop i:=by
 unfold fP
 rw[HT.sY,HT.rX,Nat.min_eq_left h]
 rw[List.take_of_length_le]
 simp
def zd{α:Type}{xs:List α}(h:0<xs.length):fP xs none (some (-1))=xs.dropLast:=by
 unfold fP
 rw[HT.sY]
 show(xs.drop 0).take (HT.dP xs.length xs.length (some (-1))-0)=_
 rw[show HT.dP xs.length xs.length (some (-1))=xs.length-1 by erw[HT.dP];rw[Qhq (!0)];omega]
 simp[List.dropLast_eq_take]
def sO{α:Type}{xs:List α}{x:α}(h:xs.getLast? =some x):mO xs (-1)=some x:=by
 have c:0<xs.length:=by
  cases xs with
  |nil=>cases h
  |cons a b=>simp
 unfold mO G2
 rw[Quq (!0),Qhq (!0)]
 rw[List.getLast?_eq_getElem?] at h
 erw[Qbq]
 rw[show((-1:Int)+(xs.length:Int)).toNat=xs.length-1 by omega]
 show h
end DL
namespace W28
open L2 DL
section
variable{S:aE}{Q:Res->aE->Prop}
def bV{s:aO}{h:Nat}{vs:List Int}{fs:List cg}{f:cg}(b:s.af[h]?=some (vs,fs))(a:fs.getLast? =some f)(q:Q (.d f.d) S):Fn cT [s.d,.int h] S Q:=by
 show bR ?_
 unfold lI
 symm
 apply aA L ?_
 show aA (d:=Ao (vs,fs)) (aR (by rw[gQm,b];rfl)) ?_
 symm
 show aA L ?_
 apply pE ?_
 show⟨1,L,?_⟩
 show aA (d:=f.d) (sO (by rw[QfQ,a];rfl)) ?_
 show cC (λk z=>(nomatch z)) L q
noncomputable def progOf(w:cu)(h:Nat)(f:cg):Option (List Rw):=
 if f.room= -1 then(w.af[h]?).map (·.2) else if 0<=f.room/\0<=f.deed then(w.aj[f.room.toNat]?).bind λr=>(r.ae[f.deed.toNat]?).map (·.2) else none
def mi{α:Type}{xs:List α}{i:Int}{x:α}(a:0<=i)(h:xs[i.toNat]?=some x):mO xs i=some x:=by
 obtain⟨n,rfl⟩:∃n:Nat,i=n:=#[i.toNat,by omega]
 show aR (by simpa using h)
def zB(rs:List Rw):cj 0 (.tup (rs.map Rw.d))=true:=by erw[cj];show aZ λr _=>r.low
def gx{w:cu}{h:Nat}{f:cg}{pr:List Rw}(a:progOf w h f=some pr)(q:Q (.d (.tup (pr.map Rw.d))) S):Fn fF [w.d,.int h,f.d] S Q:=by
 show bR ?_
 unfold lJ
 apply aG (Oa ?_)
 apply aA L ?_
 apply aA L ?_
 apply#[_,_,L,?_]
 show gV ?_
 dsimp only[bI,bo,bF,cI,cP,g8]
 unfold progOf at a
 by_cases c:f.room= -1
 ·rw[Qhq c] at a
  let#[j,b,rfl]:=oQm.mp a
  rw[Qeq c,Qhq L]
  symm
  apply aA L ?_
  show aA (d:=fS j) (aR (by rw[gQm,b];rfl)) ?_
  symm
  show aA L ?_
  show cC (λk z=>(nomatch z)) (zB _) q
 ·rw[Quq c] at a
  split at a
  ·rename_i e
   let#[r,b,a]:=aq a
   let#[g,i,rfl]:=oQm.mp a
   rw[Qdq c,Quq (!1)]
   symm
   apply aA L ?_
   show aA (d:=r.d) (mi e.1 (by rw[gQm,b];rfl)) ?_
   symm
   apply aA L ?_
   show aA (d:=iW g) (mi e.2 (by rw[gQm,i];rfl)) ?_
   symm
   show aA L ?_
   show cC (λk z=>(nomatch z)) (zB _) q
  ·cases a
def dR{xs:List D}{i:Nat}{d:D}(hi:i<xs.length)(hl:xs.length<=900)(j:bC 0 xs=true)(g:cj 0 d=true)(q:Q (.d (.tup (xs.set i d))) S):Fn dv [.tup xs,.int i,d] S Q:=by
 show bR ?_
 unfold nP
 symm
 apply jA ?_
 apply cA (cz ?_)
 apply#[_,L,_,L,?_]
 show#[by show 1<=_;decide,?_]
 rw[wG (!0)]
 show dQ (by erw[Qxq,Qnq,QGq];show nQl (aM (!0))) ?_
 apply jA ?_
 apply cz ?_
 show#[_,L,cA #[_,L,?_]]
 rw[show((i:Int)+1)=((i+1:Nat):Int) by omega,jC (!0)]
 show dQ (by erw[lQa,Qxq,List.length_drop,Qnq,QGq];show nQl (aM (!0))) ?_
 have e:xs.take i++ [d]++xs.drop (i+1)=xs.set i d:=by
  rw[List.set_eq_take_append_cons_drop,Qhq hi]
  simp
 rw[e]
 show cC (λk z=>(nomatch z)) ?_ q
 erw[cj]
 show xX λz b=>?_
 rcases QTq b with b|rfl
 ·have c:∀l:List D,bC 0 l=true->∀z∈l,cj 0 z=true:=by
   intro l
   induction l with
   |nil=>intro _ z b;cases b
   | cons a l f=>
     intro h z b
     erw[bC,QCq] at h
     rcases Qsq.mp b with rfl|b
     · show h.1
     · show f h.2 z b
  show c xs j z b
 ·show g
end
section
variable{S:aE}{Q:Res->aE->Prop}
def map_set{α b:Type}(f:α->b)(l:List α)(i:Nat)(a:α):(l.set i a).map f=(l.map f).set i (f a):=by
 rw[List.map_set]
def aX(s:aO):∀k,s.d≠.ref k:=λk z=>(nomatch z)
def du{s:aO}{i:Nat}{r:cM}(hi:i<s.aj.length)(hl:s.aj.length<=900)(q:Q (.d ({s with aj:=s.aj.set i r}:aO).d) S):Fn c8 [s.d,.int i,r.d] S Q:=by
 show bR ?_
 unfold ny
 symm
 apply aA L ?_
 apply dR (by simpa using hi) (by simpa using hl) (aZ λr _=>r.low) r.low ?_
 show#[by show 1<=_;decide,?_]
 apply jA ?_
 apply cz ?_
 show#[_,L,cA #[_,L,?_]]
 show dQ (by show 4<=_;decide) ?_
 show cC (d:=({s with aj:=s.aj.set i r}:aO).d) (aX _) (aO.low _) q|>λz=>?_
 rw[<-map_set]
 show z
def g7{s:aO}{i:Nat}{p:Int×List Int}(hi:i<s.ai.length)(hl:s.ai.length<=900)(q:Q (.d ({s with ai:=s.ai.set i p}:aO).d) S):Fn fA [s.d,.int i,Ad p] S Q:=by
 show bR ?_
 unfold m_
 symm
 apply aA L ?_
 apply aA L ?_
 apply dR (by simpa using hi) (by simpa using hl) (aZ λr _=>A5 r) (A5 p) ?_
 show#[by show 2<=_;decide,?_]
 apply jA ?_
 apply cz ?_
 show#[_,L,cA #[_,L,?_]]
 show dQ (by show 4<=_;decide) ?_
 show cC (d:=({s with ai:=s.ai.set i p}:aO).d) (aX _) (aO.low _) q|>λz=>?_
 rw[<-map_set]
 show z
def gY{s:aO}{i:Nat}{vs:List Int}{fs:List cg}(hi:i<s.af.length)(hl:s.af.length<=900)(q:Q (.d ({s with af:=s.af.set i (vs,fs)}:aO).d) S):Fn fm [s.d,.int i,cQ vs,.tup (fs.map cg.d)] S Q:=by
 show bR ?_
 unfold nN
 apply dk (cy (jA ?_))
 apply cA (cz ?_)
 apply#[_,L,_,L,?_]
 apply aA L ?_
 show#[by show 2<=_;decide,?_]
 symm
 apply dR (d:=Ao (vs,fs)) (by simpa using hi) (by simpa using hl) (aZ λr _=>Ay r) (Ay (vs,fs)) ?_
 show#[by show 1<=_;decide,?_]
 show dQ (by show 4<=_;decide) ?_
 show cC (d:=({s with af:=s.af.set i (vs,fs)}:aO).d) (aX _) (aO.low _) q|>λz=>?_
 rw[<-map_set]
 show z
def ip{s:aO}{h:Nat}{vs:List Int}{fs:List cg}{f:cg}(a:s.af[h]?=some (vs,fs))(b:0<fs.length)(c:fs.length<=900)(hl:s.af.length<=900)(q:Q (.d ({s with af:=s.af.set h (vs,fs.dropLast++ [f])}:aO).d) S):Fn dF [s.d,.int h,f.d] S Q:=by
 show bR ?_
 unfold fZ
 symm
 apply aA L ?_
 show aA (d:=Ao (vs,fs)) (aR (by rw[gQm,a];rfl)) ?_
 apply dJ L (ay (aQ (ay (aQ (bg ?_)))))
 apply jA ?_
 apply cA (cz (pE ?_))
 apply#[1,L,_,L,_,L,?_]
 show#[by show 1<=_;decide,?_]
 rw[zd (by simpa using b)]
 show dQ (by erw[List.length_dropLast,lQm,Qnq,QGq];show nQl (aM (!0))) ?_
 symm
 have e:(fs.map cg.d).dropLast++ [f.d]=(fs.dropLast++ [f]).map cg.d:=by rw[Qzq,List.map_dropLast];rfl
 rw[e]
 show gY (gQs.mp a).1 hl ?_
 show cC (aX _) (aO.low _) q
def pU{s:aO}{h:Nat}{vs:List Int}{fs:List cg}{f:cg}{n:Int}(e:s.af[h]?=some (vs,fs))(c:fs.getLast? =some f)(g:fs.length<=900)(hl:s.af.length<=900)(q:Q (.d ({s with af:=s.af.set h (vs,fs.dropLast++ [{f with row:=n}])}:aO).d) S):Fn j0 [s.d,.int h,.int n] S Q:=by
 show bR ?_
 unfold vO
 symm
 apply bV e c ?_
 apply jA ?_
 apply cA (cz ?_)
 apply#[_,L,_,L,?_]
 show#[by show 1<=_;decide,?_]
 show dQ (by show 3<=_;decide) ?_
 apply jA ?_
 apply cz ?_
 show#[_,L,cA #[_,L,?_]]
 show dQ (by show 5<=_;decide) ?_
 symm
 have i:0<fs.length:=by
  cases fs with
  |nil=>cases c
  |cons a b=>simp
 show ip (f:={f with row:=n}) e i g hl ?_
 show cC (aX _) (aO.low _) q
noncomputable def gX(r:cM)(h:Int):cM:=if r.within= -1 then{r with within:=h} else{r with row:=r.row++ [h]}
noncomputable def b_(r:cM):cM:=match r.ag,r.row with
 |a::l,_=>{r with within:=a,ag:=l}
 | [],a::l=>{r with within:=a,row:=l}
 | [],[]=>{r with within:= -1}
def sy{s:aO}{i:Nat}{h:Int}{r:cM}(a:s.aj[i]?=some r)(hl:s.aj.length<=900)(f:r.row.length<=900)(q:Q (.d ({s with aj:=s.aj.set i (gX r h)}:aO).d) S):Fn lU [s.d,.int i,.int h] S Q:=by
 let b:=(gQs.mp a).1
 show bR ?_
 unfold sI
 symm
 apply aA L ?_
 show aA (d:=r.d) (aR (by rw[gQm,a];rfl)) ?_
 apply dJ L (ay (aQ (ay (aQ (ay (aQ (ay (aQ (ay (aQ (bg ?_)))))))))))
 show gV ?_
 dsimp only[bI,bo,bF,cI,cP,g8]
 unfold gX at q
 by_cases c:r.within= -1
 ·rw[Qhq c] at q
  rw[Qeq c,Qhq L]
  symm
  show#[by show 5<=_;decide,?_]
  symm
  show du (r:={r with within:=h}) b hl ?_
  show cC (aX _) (aO.low _) q
 ·rw[Quq c] at q
  rw[Qdq c,Quq (!1)]
  symm
  show#[by show 1<=_;decide,?_]
  show dQ (by erw[lQm,Qnq,QGq];show nQl (aM (!0))) ?_
  symm
  show#[by show 5<=_;decide,?_]
  symm
  have e:D.tup (r.row.map D.int++ [D.int h])=cQ (r.row++ [h]):=by simp[cQ]
  rw[e]
  show du (r:={r with row:=r.row++ [h]}) b hl ?_
  show cC (aX _) (aO.low _) q
end
section
variable{S:aE}{Q:Res->aE->Prop}
def E9{α:Type}{a:α}{l:List α}:mO (a::l) 0=some a:=aR (j:=0) L
def xE{S:aE}{ds:List D}{Q:Bool->Prop}(q:Q (!ds.isEmpty)):Op (A_ S (.tup ds)) Q:=#[_,L,q]
def zP{s:aO}{i:Nat}{r:cM}(k:s.aj[i]?=some r)(hl:s.aj.length<=900)(q:Q (.d ({s with aj:=s.aj.set i (b_ r)}:aO).d) S):Fn p8 [s.d,.int i] S Q:=by
 let h:=(gQs.mp k).1
 show bR ?_
 unfold Af
 symm
 apply aA L ?_
 show aA (d:=r.d) (aR (by rw[gQm,k];rfl)) ?_
 show dJ L (ay (aQ (ay (aQ (ay (aQ (ay (aQ (ay (aQ (bg ?_)))))))))))
 let#[b,g,f,m,j]:=r
 symm
 show xE ?_
 cases m with
 | cons a l=>
   apply bc (λ_=>?_) (λc=>by cases c)
   apply aA (d:=.int a) E9 ?_
   apply jA ?_
   apply cz ?_
   apply#[_,L,cA #[_,L,?_]]
   show#[by show 5<=_;decide,?_]
   symm
   have e:D.tup (fP ((a::l).map D.int) (some 1) none)=cQ l:=by
     rw[show(some (1:Int))=some ((1:Nat):Int) from L,jC (by simp)]
     rfl
   rw[e]
   show du (r:=#[b,a,f,l,j]) h hl ?_
   show cC (aX _) (aO.low _) q
 | nil=>
   show bc (λc=>by cases c) (λ_=>?_)
   apply cx ?_
   show xE ?_
   cases f with
   | cons a l=>
     apply bc (λ_=>?_) (λc=>by cases c)
     apply aA (d:=.int a) E9 ?_
     apply jA ?_
     apply cz ?_
     apply#[_,L,cA #[_,L,?_]]
     show#[by show 5<=_;decide,?_]
     symm
     have e:D.tup (fP ((a::l).map D.int) (some 1) none)=cQ l:=by
       rw[show(some (1:Int))=some ((1:Nat):Int) from L,jC (by simp)]
       rfl
     rw[e]
     show du (r:=#[b,a,l,[],j]) h hl ?_
     show cC (aX _) (aO.low _) q
   | nil=>
     show bc (λc=>by cases c) (λ_=>?_)
     apply cx ?_
     show#[by show 5<=_;decide,?_]
     symm
     show du (r:=#[b,-1,[],[],j]) h hl ?_
     show cC (aX _) (aO.low _) q
def fB{α:Type}{enc:α->D}{nm:α->Str}{xs:List α}(he:∀a,∃r,enc a=.tup (.str (nm a)::r))(hl:xs.length<=1000)(q:Q (.l ((xs.map nm).map D.str)) S):Fn dZ [.tup (xs.map enc)] S Q:=by
 show bR ?_
 unfold p0
 symm
 apply s_ (α:=α) (λb=>∃a,b= [a]) enc (λa=>.str (nm a)) #[none,L] ?_
 show#[xs,L,trivial,hl,λr d b c=>?_,?_]
 ·let#[a,rfl]:=c
  show aQ #[L,#[_,L],?_]
  let#[f,e]:=he r
  rw[e]
  symm
  show aA E9 #[L,L]
 ·have e:xs.map (λa=>D.str (nm a))=(xs.map nm).map D.str:=by rw[QPq];rfl
  rw[e]
  show Fu (aZ λ_ _=>rfl) q
theorem m9:∀a:List Str,iG (a.map D.str)=some (a.map V.str)
 | []=>rfl
 |s::a=>by erw[QDq,iG,xn,Qbq];rw[m9 a];rfl
theorem wA{x:Str}:∀{ns:X6},x∈ns->∃j,oZ (.str x) (ns.map V.str)=some j/\ns[j]?=some x
 | [],h=>by cases h
 | n::ns,h=>by
   by_cases c:n=x
   · subst c
     show#[0,by simp[oZ,rF],L]
   · let#[j,b,a]:=wA (ns:=ns) ((Qsq.mp h).resolve_left (Ne.symm c))
     show#[j+1,by erw[QDq,oZ];rw[b];simp[rF,c],by simpa using a]
end
end W28
namespace DL
open L2
section
variable{a:cv}{S:aE}
def qZ{T:String}{f:bj}{Q:D->aE->Prop}(h:E f a S λd b=>Op (uc b T d) λk=>Q (.bl k) b):E (oH T f) a S Q:=by
 let#[d,b,c,k,e,q]:=h
 show#[_,b,by unfold oH;rw[c];erw[Qbq];rw[e];rfl,q]
def Aq{b:Bool}{Q:Bool->Prop}(q:Q b):Op (A_ S (.bl b)) Q:=#[_,L,q]
def MF{f g:bj}{Q:D->aE->Prop}(h:E f a S λx b=>E g a b λy S2=>∃k kvs z v,x=.ref k/\y=.str z/\S2[k]?=some (.dct kvs)/\uo kvs (.inr z)=some v/\Q v S2):E (N1 f g) a S Q:=by
 let#[x,b,c,y,S2,d,k,kvs,z,v,rfl,rfl,h1,h2,q]:=h
 show#[v,S2,by unfold N1;rw[c];erw[Qbq];rw[d];erw[Qbq,h1,uY,h2],q]
def Gk{i j:Int}{Q:D->Prop}(q:Q (.int (if j<i then j else i))):Op (minD [.int i,.int j]) Q:=#[_,L,q]
def Nb{i j:Int}{Q:D->Prop}(q:Q (.int (if j>i then j else i))):Op (maxD [.int i,.int j]) Q:=#[_,L,q]
end
end DL
namespace W28
open L2 DL
noncomputable def J5(o:Str)(a b:Int):Int:=
 if o="plus" then(if 9<a+b then 9 else a+b) else if o="minus" then(if 0>a-b then 0 else a-b) else if o="less" then(if a<b then 1 else 0)
 else if o="same" then(if a=b then 1 else 0) else(if a≠0/\b≠0 then 1 else 0)
def Ac(th wt:Str->Int):Tr->Int
 |.num n=>n
 |.word x=>th x
 |.waits b=>if 0<wt b then 1 else 0
 |.no t=>if Ac th wt t=0 then 1 else 0
 |.two o a b=>J5 o (Ac th wt a) (Ac th wt b)
def DY{o:Str}{a b:Int}(c:0<=a/\a<=9)(d:0<=b/\b<=9):0<=J5 o a b/\J5 o a b<=9:=by
 unfold J5
 repeat' split
 all_goals omega
theorem mD{th wt:Str->Int}{ws bs:X6}(h:∀x∈ws,0<=th x/\th x<=9):∀{t:Tr},t.Ok ws bs->0<=Ac th wt t/\Ac th wt t<=9
 |.num n,ho=>by have:n<=9:=ho;erw[Ac];omega
 |.word x,ho=>h x ho
 |.waits b,_=>by erw[Ac];split <;>omega
 |.no t,_=>by erw[Ac];split <;>omega
 |.two o a b,ho=>DY (mD h ho.2.1) (mD h ho.2.2)
section
variable{S:aE}{Q:Res->aE->Prop}
def dD{S:aE}{i:Int}{Q:Res->aE->Prop}(q:Q (.d (.int i)) S):Op (settle S (.int i) S) λp=>Q p.1 p.2:=cC (λk z=>(nomatch z)) L q
def rD{o:Str}{a b:Int}(q:Q (.d (.int (J5 o a b))) S):Fn gr [.str o,.int a,.int b] S Q:=by
 show bR ?_
 unfold jd
 unfold J5 at q
 symm
 show iy ?_
 dsimp only[bI,bo,bF,cI,cP,g8]
 by_cases j:o="plus"
 ·rw[Qhq j] at q
  rw[Qeq j,Qhq L]
  symm
  show Gk ?_
  show dD q
 rw[Quq j] at q
 rw[Qdq j,Quq (!1)]
 apply cx ?_
 show iy ?_
 dsimp only[bI,bo,bF,cI,cP,g8]
 by_cases e:o="minus"
 ·rw[Qhq e] at q
  rw[Qeq e,Qhq L]
  symm
  show Nb ?_
  show dD q
 rw[Quq e] at q
 rw[Qdq e,Quq (!1)]
 apply cx ?_
 show iy ?_
 dsimp only[bI,bo,bF,cI,cP,g8]
 by_cases f:o="less"
 ·rw[Qhq f] at q
  rw[Qeq f,Qhq L]
  symm
  by_cases c:a<b
  ·rw[Qhq c] at q
   rw[Qeq c,Qhq L]
   symm
   show dD q
  ·rw[Quq c] at q
   rw[Qdq c,Quq (!1)]
   symm
   show dD q
 rw[Quq f] at q
 rw[Qdq f,Quq (!1)]
 apply cx ?_
 show iy ?_
 dsimp only[bI,bo,bF,cI,cP,g8]
 by_cases i:o="same"
 ·rw[Qhq i] at q
  rw[Qeq i,Qhq L]
  symm
  show gV ?_
  dsimp only[bI,bo,bF,cI,cP,g8]
  by_cases c:a=b
  ·rw[Qhq c] at q
   rw[Qeq c,Qhq L]
   symm
   show dD q
  ·rw[Quq c] at q
   rw[Qdq c,Quq (!1)]
   symm
   show dD q
 rw[Quq i] at q
 rw[Qdq i,Quq (!1)]
 apply cx ?_
 show mT ?_
 dsimp only[bI,bo,bF,cI,cP,g8]
 by_cases g:a=0
 ·rw[Quq (λz=>z.1 g)] at q
  rw[Qeq g]
  show if (false=true) then _ else _
  rw[Quq (!1)]
  show if (false=true) then _ else _
  rw[Quq (!1)]
  symm
  show dD q
 ·rw[Qdq g]
  show if (true=true) then _ else _
  rw[Qhq L]
  symm
  show mT ?_
  dsimp only[bI,bo,bF,cI,cP,g8]
  by_cases h:b=0
  ·rw[Quq (λz=>z.2 h)] at q
   rw[Qeq h]
   show if (false=true) then _ else _
   rw[Quq (!1)]
   symm
   show dD q
  ·rw[Qhq #[g,h]] at q
   rw[Qdq h]
   show if (true=true) then _ else _
   rw[Qhq L]
   symm
   show dD q
end
def fR{c:cv}{S:aE}{T:String}{f:bj}{d:D}{b:Bool}{Q:Bool->aE->Prop}(h:E f c S λx a=>x=d/\a=S)(e:uc S T d=some b)(q:Q b S):E (mJ (oH T f)) c S Q:=by
 show CQ (qZ (h.mono λx a i=>?_))
 let#[g,j]:=i
 subst g j
 show#[b,e,Aq q]
def Il{o:Str}(h:o∈ops):o≠"waits" /\o≠"not":=by
 erw[ops,Qsq,QXq,or_false] at h
 rcases h with rfl|rfl|rfl|rfl|rfl <;>show#[by decide +kernel,by decide +kernel]
theorem gI{th wt:Str->Int}{ws bs:X6}{i j:Nat}{kvs kws:List (Key×D)}{S:aE}(hi:S[i]?=some (.dct kvs))(g:S[j]?=some (.dct kws))(f:∀x∈ws,uo kvs (.inr x)=some (.int (th x)))(e:∀b∈bs,uo kws (.inr b)=some (.int (wt b))):
  ∀(n:Nat) (t:Tr) {Q:Res->aE->Prop},t.Ok ws bs->t.dep<=n->Q (.d (.int (Ac th wt t))) S->Fn (fV n) [t.d,.ref i,.ref j] S Q
 |0,t,Q,_,hd,_=>by cases t <;>simp[Tr.dep] at hd
 | n+1,t,Q,ho,hd,q=>by
   show bR ?_
   unfold pR
   cases t with
   | num v=>
     show aG (dB (fR (d:=.int v) (aw L #[L,L]) L ?_))
     apply bc (λ_=>?_) (λc=>by cases c)
     show dD q
   | word x=>
     show aG (dB (fR (d:=.str x) (aw L #[L,L]) L ?_))
     show bc (λc=>by cases c) (λ_=>cx ?_)
     show aG (dB (fR (d:=.str x) (aw L #[L,L]) L ?_))
     show bc (λ_=>?_) (λc=>by cases c)
     apply dk (MF ?_)
     show#[_,_,_,_,L,L,hi,f x ho,?_]
     show dD q
   | waits b=>
     show aG (dB (fR (d:=.tup [.str "waits",.str b]) (aw L #[L,L]) L ?_))
     show bc (λc=>by cases c) (λ_=>cx ?_)
     show aG (dB (fR (d:=.tup [.str "waits",.str b]) (aw L #[L,L]) L ?_))
     apply bc (λc=>by cases c) (λ_=>cx ?_)
     apply aA L ?_
     show iy ?_
     dsimp only[bI,bo,bF,cI,cP,g8]
     rw[Qeq L,Qhq L]
     symm
     apply MF ?_
     show aA L ?_
     apply#[_,_,_,_,L,L,g,e b ho,?_]
     erw[Ac] at q
     by_cases c:0<wt b
     · rw[Qhq c] at q
       rw[Qeq c,Qhq L]
       symm
       show dD q
     · rw[Quq c] at q
       rw[Qdq c,Quq (!1)]
       symm
       show dD q
   | no t=>
     have k:t.dep<=n:=by erw[Tr.dep] at hd;omega
     show aG (dB (fR (d:=.tup [.str "not",t.d]) (aw L #[L,L]) L ?_))
     show bc (λc=>by cases c) (λ_=>cx ?_)
     show aG (dB (fR (d:=.tup [.str "not",t.d]) (aw L #[L,L]) L ?_))
     apply bc (λc=>by cases c) (λ_=>cx ?_)
     apply aA L ?_
     show iy ?_
     dsimp only[bI,bo,bF,cI,cP,g8]
     rw[Qdq (show¬(("not":Str)="waits") by decide +kernel),Quq (!1)]
     apply cx ?_
     apply aA L ?_
     apply gI hi g f e n t ho k ?_
     apply aA L ?_
     show iy ?_
     dsimp only[bI,bo,bF,cI,cP,g8]
     rw[Qeq L,Qhq L]
     symm
     show gV ?_
     dsimp only[bI,bo,bF,cI,cP,g8]
     erw[Ac] at q
     by_cases c:Ac th wt t=0
     · rw[Qhq c] at q
       rw[Qeq c,Qhq L]
       symm
       show dD q
     · rw[Quq c] at q
       rw[Qdq c,Quq (!1)]
       symm
       show dD q
   | two o a b=>
     have h:a.dep<=n:=by erw[Tr.dep] at hd;omega
     have l:b.dep<=n:=by erw[Tr.dep] at hd;omega
     let#[m,p]:=Il ho.1
     show aG (dB (fR (d:=.tup [.str o,a.d,b.d]) (aw L #[L,L]) L ?_))
     show bc (λc=>by cases c) (λ_=>cx ?_)
     show aG (dB (fR (d:=.tup [.str o,a.d,b.d]) (aw L #[L,L]) L ?_))
     apply bc (λc=>by cases c) (λ_=>cx ?_)
     apply aA L ?_
     show iy ?_
     dsimp only[bI,bo,bF,cI,cP,g8]
     rw[Qdq m,Quq (!1)]
     apply cx ?_
     apply aA L ?_
     apply gI hi g f e n a ho.2.1 h ?_
     apply aA L ?_
     show iy ?_
     dsimp only[bI,bo,bF,cI,cP,g8]
     rw[Qdq p,Quq (!1)]
     apply cx ?_
     apply aA L ?_
     apply aA L ?_
     apply gI hi g f e n b ho.2.2 l ?_
     show rD ?_
     show dD q
end W28
namespace DL
open L2
def vc{l:List (Key×D)}{k:Key}(h:k∈l.map (·.1)):∃d,uo l k=some d/\(k,d)∈l:=by
 unfold uo
 cases e:l.find? λb=>decide (b.1=k) with
 | none=>
   let#[p,a,rfl]:=Qkq.mp h
   have:=List.find?_eq_none.mp e p a
   simp at this
 | some p=>
   let f:=List.find?_some e
   let c:=List.mem_of_find?_eq_some e
   have g:p.1=k:=by simpa using f
   show#[p.2,L,by rw[<-g];show c]
def yW{l:List (Key×D)}{k:Key}{v:D}{p:Key×D}(h:p∈putD l k v):p∈l\/p=(k,v):=by
 unfold putD at h
 split at h
 ·let#[q,a,e]:=Qkq.mp h
  split at e
  ·rename_i c
   rw[<-e,c]
   show .inr L
  ·rw[<-e]
   show .inl a
 ·rcases mQa.mp h with h|h
  ·show .inl h
  ·show .inr (Qfq.mp h)
def mG{l:List (Key×D)}{k x:Key}{v:D}(h:x=k\/x∈l.map (·.1)):x∈(putD l k v).map (·.1):=by
 unfold putD
 split
 ·rename_i c
  have a:∀p∈l,(if p.1=k then(p.1,v) else p).1=p.1:=λp _=>by split <;>rfl
  have e:(l.map λp=>if p.1=k then(p.1,v) else p).map (·.1)=l.map (·.1):=by
   rw[QPq]
   show List.map_congr_left a
  rw[e]
  rcases h with rfl|h
  ·let#[p,b,d]:=List.any_eq_true.mp c
   show Qkq.mpr #[p,b,by simpa using d]
  ·show h
 ·rw[Qzq]
  rcases h with rfl|h
  ·show Qoq _ (by simp)
  ·show List.mem_append_left _ h
theorem nM:∀{more l:List (Key×D)} {p:Key×D},p∈cZ l more->p∈l\/p∈more
 | [],l,p,h=>.inl h
 | q::more,l,p,h=>by
   rcases nM (more:=more) (l:=putD l q.1 q.2) h with h|h
   · rcases yW h with h|rfl
     · show .inl h
     · show .inr (QBq ..)
   · show .inr (Qpq _ h)
theorem gJ:∀{more l:List (Key×D)} {x:Key},x∈l.map (·.1)\/x∈more.map (·.1)->x∈(cZ l more).map (·.1)
 | [],l,x,h=>h.elim id λz=>by cases z
 | q::more,l,x,h=>by
   show gJ (more:=more) (l:=putD l q.1 q.2) ?_
   rcases h with h|h
   · show .inl (mG (.inr h))
   · rcases Qsq.mp h with rfl|h
     · show .inl (mG (.inl L))
     · show .inr h
theorem t4:∀a:List Str,yc (a.map D.str)=some (a.map Sum.inr)
 | []=>rfl
 |s::a=>by erw[QDq,yc,uY,Qbq];rw[t4 a];rfl
section
variable{b:cv}{S:aE}
def Pv{Q:D->aE->Prop}(q:Q (.ref S.length) (S++ [.dct []])):E PQ b S Q:=#[_,_,L,q]
def Kk{f g:et}{Q:D->aE->Prop}(h:E f b S λp c=>E g b c λr S2=>∃a:List Str,p.1=a.map D.str/\(p.2.stays S2 p.1/\p.1.length=r.1.length)/\Q (.ref S2.length) (S2++ [.dct (cZ [] ((a.map Sum.inr).zip r.1))])):E (L5 f g) b S Q:=by
 let#[p,c,d,r,S2,j,a,i,e,q]:=h
 show#[_,_,?_,q]
 unfold L5
 rw[d]
 erw[Qbq]
 rw[j]
 erw[Qbq]
 rw[Qhq e,i,t4]
 rfl
def Mm{f g:bj}{Q:D->aE->Prop}(h:E f b S λx a=>E g b a λy S2=>∃k j c l m,x=.ref k/\y=.ref j/\k≠j/\a[k]?=some (.dct c)/\S2[k]?=some (.dct l)/\S2[j]?=some (.dct m)/\l.length+m.length<=sizeLine/\Q .non (S2.set k (.dct (cZ l m)))):E (HR f g) b S Q:=by
 let#[x,a,d,y,S2,e,k,j,c,l,m,rfl,rfl,hn,h0,h1,h2,h3,q]:=h
 show#[_,_,by unfold HR;rw[d];erw[Qbq];rw[e];erw[Qbq];rw[Qhq hn];erw[h0,h1,h2];rw[Qhq h3],q]
def PR{f g h:bj}{Q:Out->Prop}(w:E h b S λd c=>E f b c λx S2=>E g b S2 λy a=>∃k l z,x=.ref k/\y=.str z/\a[k]?=some (.dct l)/\l.length<sizeLine/\Q (.nx b (a.set k (.dct (putD l (.inr z) d))))):T (OM f g h) b S Q:=by
 let#[d,c,e,x,S2,j,y,a,i,k,l,z,rfl,rfl,h1,h2,q]:=w
 show#[_,by unfold OM;rw[e];erw[Qbq];rw[j];erw[Qbq];rw[i];erw[Qbq,h1,uY];rw[Qhq h2],q]
def Pc{α:Type}{n:Nat}{js:List (Option Nat)}{i:sE}{g:me}{t w:bj}{Q:Out->Prop}(P:cv->Prop)(enc:α->D)(j:α->Str)(f:α->D)(H:P (nZ js b)) (h:E i b S λp e=>∃xs:List α,p.1=xs.map enc/\p.2 e/\xs.length<=1000∧
   (∀x∈xs,∀d,P d->Tg g (enc x) d e λm S2=>S2=e/\P m/\E t m e λy C=>y=.str (j x)/\C=e/\E w m e λz F=>z=f x/\F=e)∧
   Q (.nx (b.set n (some (.ref e.length))) (e++ [.dct (cZ [] (xs.map λx=>(Sum.inr (j x),f x)))]))):T (MT n (qp js i g bT t w)) b S Q:=by
 let#[#[X,W],e,N,xs,rfl,hW,hl,hs,q]:=h
 have I:∀(l:List (Key×D)) (k:Key) (v:D),(putD l k v).length<=l.length+1:=λl k v=>by
  unfold putD
  split <;>simp
 have U:∀(o:List α) (d:cv) (c:List (Key×D)),(∀y∈o,y∈xs)->P d->c.length+o.length<=1000->∃r,ji g bT t w W (o.map enc) d e c=some (r,e)/\r=cZ c (o.map λx=>(Sum.inr (j x),f x)):=by
  intro o
  induction o with
  |nil=>intro d c _ _ _;show#[c,by erw[List.map_nil,ji];rw[Qhq hW],L]
  | cons a o R=>
    intro d c B J s
    let#[m,S2,u,rfl,hp1,y,C,e3,rfl,rfl,z,F,e4,rfl,rfl]:=hs a (B a (QBq ..)) d J
    let A:=I c (Sum.inr (j a)) (f a)
    erw[Qnq] at s
    let#[r,G,M]:=R m (putD c (Sum.inr (j a)) (f a)) (λy K=>B y (Qpq _ K)) hp1 (!0)
    show#[r,?_,M]
    erw[QDq,ji]
    rw[Qhq hW,u]
    erw[Qbq,bT,if_true]
    rw[e3]
    erw[Qbq]
    rw[e4]
    erw[Qbq,uY]
    rw[Qhq (aM (!0))]
    show G
 let#[r,u,rfl]:=U xs _ [] (λ_ h=>h) H (by simpa using hl)
 show#[_,by unfold MT qp;rw[N];erw[Qbq];rw[u];rfl,q]
end
def Ge{a:cv}{S:aE}{f g:et}{Q:(List D×(aE->Prop))->aE->Prop}(h:E f a S λp b=>E g a b λr S2=>(p.2.stays S2 p.1/\p.1.length<=r.1.length)/\Q (yY p.1 r.1,λS=>p.2.stays S p.1/\r.2.stays S r.1) S2):E (GA f g) a S Q:=by
 let#[p,b,c,r,S2,e,d,q]:=h
 show#[_,S2,by unfold GA;rw[c];erw[Qbq];rw[e];erw[Qbq];rw[Qhq d],q]
def kW(l:List (Key×D)):Prop:=∀p∈l,∃v:Int,p.2=.int v/\0<=v/\v<=9
def kW.merge{l m:List (Key×D)}(c:kW l)(b:kW m):kW (cZ l m):=λp a=>(nM a).elim (c p) (b p)
def kW.put{l:List (Key×D)}{k:Key}{v:Int}(h:kW l)(c:0<=v)(b:v<=9):kW (putD l k (.int v)):=λp a=>by
 rcases yW a with a|rfl
 ·show h p a
 ·show#[v,L,c,b]
def numAt(l:List (Key×D))(x:Str):Int:=match uo l (.inr x) with|some (.int v)=>v|_=>0
def oF{l:List (Key×D)}(h:kW l){x:Str}(i:(Sum.inr x:Key)∈l.map (·.1)):uo l (.inr x)=some (.int (numAt l x))/\0<=numAt l x/\numAt l x<=9:=by
 let#[d,b,c]:=vc i
 let#[v,a,f,g]:=h _ c
 have a:d=.int v:=a
 subst a
 have e:numAt l x=v:=by unfold numAt;rw[b]
 rw[e]
 show#[b,f,g]
def Gh{d:X6}{vs:List Int}(h:∀v∈vs,0<=v/\v<=9):kW ((d.map (Sum.inr:Str->Key)).zip (vs.map D.int)):=λp a=>by
 have c:p.2∈vs.map D.int:=(QeQ (show(p.1,p.2)∈_ from a)).2
 let#[v,b,e]:=Qkq.mp c
 show#[v,e.symm,h v b]
def FH{a:X6}{ds:List D}(h:a.length=ds.length):((a.map (Sum.inr:Str->Key)).zip ds).map (·.1)=a.map Sum.inr:=by
 rw[List.map_fst_zip]
 simpa using Nat.le_of_eq h
end DL
namespace W28
open L2 DL
def dS(ts:List (Str×Nat))(vs:List Int):List (Key×D):=cZ [] (((ts.map (·.1)).map Sum.inr).zip (vs.map D.int))
def De(w:cu)(s:aO)(ts:List (Str×Nat))(vs:List Int):List (Key×D):=cZ (dS w.ak s.ak) (dS ts vs)
def vn(r:Rm)(rs:cM)(a:Int):List (Key×D):=putD (dS r.ao rs.vals) (.inr "given") (.int a)
def BZ(r:Rm)(rs:cM):List (Key×D):=cZ [] ((r.aa.zip rs.aa).map λp=>(Sum.inr p.1.1,D.int (p.2.length:Nat)))
def hX{ts:List (Str×Nat)}{vs:List Int}(h:∀v∈vs,0<=v/\v<=9):kW (dS ts vs):=kW.merge (λp a=>by cases a) (Gh h)
def ia{ts:List (Str×Nat)}{vs:List Int}(hl:ts.length=vs.length){x:Str}(h:x∈ts.map (·.1)):(Sum.inr x:Key)∈(dS ts vs).map (·.1):=by
 show gJ (.inr ?_)
 rw[FH (by simpa using hl)]
 show Qkq.mpr #[x,h,L]
structure mI(S S':aE):Prop where
 len:S.length<=S'.length
 eq:∀j,j<S.length->S'[j]?=S[j]?
def mI.refl{S:aE}:mI S S:=#[Qmq _,λ_ _=>rfl]
def mI.app{S a G:aE}(x:mI S a):mI S (a++G):=#[by rw[lQa];have:=x.len;omega,λj b=>by rw[QHq (by have:=x.len;omega)];show x.eq j b]
def mI.put{S a:aE}{r:Nat}{o:O}(x:mI S a)(c:S.length<=r):mI S (a.set r o):=#[by simpa using x.len,λj b=>by rw[QKq (!0)];show x.eq j b]
def qT{S a:aE}{d:D}{Q:Res->aE->Prop}(x:mI S a)(c:∀k,d≠.ref k)(hl:cj 0 d=true)(q:Q (.d d) S):Op (settle S d a) λp=>Q p.1 p.2:=by
 show hU #[x.len,λk o f e=>.inl (by rw[<-x.eq k f];show e)] ?_ c (gA hl) q
 apply List.ext_getElem?
 intro j
 by_cases b:j<S.length
 ·rw[List.getElem?_take_of_lt b]
  show x.eq j b
 ·rw[List.getElem?_eq_none (by rw[Qxq];omega),List.getElem?_eq_none (!0)]
def hG:∀a:Str×Nat,∃r,kF a=.tup (.str a.1::r):=λa=>#[_,L]
def B_:∀a:Str×Str,∃r,IZ a=.tup (.str a.1::r):=λa=>#[_,L]
section
variable{S:aE}{Q:Res->aE->Prop}
theorem sV:∀{m l:List (Key×D)},(cZ l m).length<=l.length+m.length
 | [],l=>Qmq _
 | q::m,l=>by
   have a:(cZ (putD l q.1 q.2) m).length<=(putD l q.1 q.2).length+m.length:=sV
   have b:(putD l q.1 q.2).length<=l.length+1:=by unfold putD;split <;>simp
   show(cZ (putD l q.1 q.2) m).length<=_
   erw[Qnq]
   omega
def sM{ts:List (Str×Nat)}{vs:List Int}:(dS ts vs).length<=ts.length:=by
 show QAq sV ?_
 erw[QGq,List.length_zip,lQm]
 omega
def vZ{w:cu}{s:aO}{h:Nat}{ts:List (Str×Nat)}{pr:List Rw}{vs:List Int}{fs:List cg}{f:cg}{t:Tr}(B:w.af[h]?=some (ts,pr))(n:s.af[h]?=some (vs,fs))(C:fs.getLast? =some f)(H:f.room= -1)
  (p:w.ak.length=s.ak.length) (r:ts.length=vs.length) (K:w.ak.length<=100) (P:ts.length<=100) (A:∀v∈s.ak,0<=v/\v<=9) (I:∀v∈vs,0<=v/\v<=9)
  (F:t.Ok (ts.map (·.1)++w.ak.map (·.1)) []) (u:t.dep<=6) (q:Q (.d (.int (Ac (numAt (De w s ts vs)) (λ_=>0) t))) S):Fn dI [w.d,s.d,.int h,t.d] S Q:=by
 have c:kW (De w s ts vs):=kW.merge (hX A) (hX I)
 show bR ?_
 unfold mf
 symm
 apply bV n C ?_
 apply aA (d:=.int f.room) L ?_
 show gV ?_
 dsimp only[bI,bo,bF,cI,cP,g8]
 rw[Qeq H,Qhq L]
 symm
 apply Kk ?_
 apply aA L ?_
 apply fB (enc:=kF) (nm:=(·.1)) hG (!0) ?_
 show aA L ?_
 show d_ (ds:=s.ak.map D.int) ?_
 show#[_,L,#[trivial,by erw[lQm];show p],?_]
 dsimp only[bI,bo,bF,cI,cP,g8]
 rw[show cZ [] (((w.ak.map (·.1)).map (Sum.inr:Str->Key)).zip (s.ak.map D.int))=dS w.ak s.ak from L]
 apply aG (mK (Mm ?_))
 apply Kk ?_
 apply aA L ?_
 show aA (d:=fS (ts,pr)) (aR (by rw[gQm,B];rfl)) ?_
 symm
 apply aA L ?_
 apply fB (enc:=kF) (nm:=(·.1)) hG (!0) ?_
 apply aA L ?_
 show aA (d:=Ao (vs,fs)) (aR (by rw[gQm,n];rfl)) ?_
 symm
 show aA L ?_
 show d_ (ds:=vs.map D.int) ?_
 show#[_,L,#[trivial,by erw[lQm];show r],?_]
 dsimp only[bI,bo,bF,cI,cP,g8]
 rw[show cZ [] (((ts.map (·.1)).map (Sum.inr:Str->Key)).zip (vs.map D.int))=dS ts vs from L]
 have e:(S++ [O.dct (dS w.ak s.ak)])[S.length]?=some (.dct (dS w.ak s.ak)):=aW
 have i:(S++ [O.dct (dS w.ak s.ak)]).length=S.length+1:=by simp
 have J:mI S (S++ [O.dct (dS w.ak s.ak)]):=mI.refl.app
 show∃k j G l m,D.ref S.length=.ref k/\D.ref (S++ [O.dct (dS w.ak s.ak)]).length=.ref j/\k≠j/\(S++ [O.dct (dS w.ak s.ak)])[k]?=some (.dct G)/\(S++ [O.dct (dS w.ak s.ak)]++ [O.dct (dS ts vs)])[k]?=some (.dct l)/\(S++ [O.dct (dS w.ak s.ak)]++ [O.dct (dS ts vs)])[j]?=some (.dct m)/\_
 show#[_,_,_,_,_,L,L,by omega,e,bq e,aW,?_,?_]
 ·let N:=sM (ts:=w.ak) (vs:=s.ak)
  let M:=sM (ts:=ts) (vs:=vs)
  show nQl (aM (!0))
 have g:((S++ [O.dct (dS w.ak s.ak)]++ [O.dct (dS ts vs)]).set S.length (.dct (cZ (dS w.ak s.ak) (dS ts vs))))[S.length]?=some (.dct (De w s ts vs)):=fY (bq e)
 have o:mI S ((S++ [O.dct (dS w.ak s.ak)]++ [O.dct (dS ts vs)]).set S.length (.dct (cZ (dS w.ak s.ak) (dS ts vs)))):=J.app.put (Qmq _)
 generalize ((S++ [O.dct (dS w.ak s.ak)]++ [O.dct (dS ts vs)]).set S.length (.dct (cZ (dS w.ak s.ak) (dS ts vs))))=S2 at g o|-
 symm
 apply Pv ?_
 show gI (th:=numAt (De w s ts vs)) (wt:=λ_=>0) (ws:=ts.map (·.1)++w.ak.map (·.1)) (bs:= []) (bq g) aW (λx a=>?_) (λb y=>by cases y) 6 t F u ?_
 ·show(oF c ?_).1
  show gJ ?_
  rcases mQa.mp a with a|a
  ·show .inr (ia r a)
  ·show .inl (ia p a)
 ·show qT o.app (λk z=>(nomatch z)) L q
end
section
variable{S:aE}{Q:Res->aE->Prop}
theorem yB:∀(bs:List (Str×Str)) (a:List (List (Int×Int))),yY ((bs.map (·.1)).map D.str) (a.map eh)=(bs.zip a).map λp=>D.tup [.str p.1.1,eh p.2]
 | [],_=>rfl
 |_::_,[]=>rfl
 | b::bs,l::a=>by
   have:=yB bs a
   erw[yY,QDq,List.zipWith_cons_cons,List.zip_cons_cons] at this|-
   rw[this]
def zw(r:Rm)(rs:cM)(x:Str):Int:=numAt (BZ r rs) x
def E8{r:Rm}{rs:cM}(hl:r.aa.length=rs.aa.length){x:Str}(h:x∈r.aa.map (·.1)):uo (BZ r rs) (.inr x)=some (.int (zw r rs x)):=by
 have f:(Sum.inr x:Key)∈(BZ r rs).map (·.1):=by
  show gJ (.inr ?_)
  rw[QPq]
  let#[b,j,rfl]:=Qkq.mp h
  let#[i,c,e]:=QbQ j
  show Qkq.mpr #[(b,rs.aa[i]'(!0)),?_,L]
  rw[<-e]
  have:(r.aa.zip rs.aa)[i]?=some (r.aa[i],rs.aa[i]'(!0)):=by
   rw[List.getElem?_zip_eq_some]
   show#[gQe c,gQe (!0)]
  show mQg this
 let#[d,g,a]:=vc f
 have c:∃v:Int,d=.int v:=by
  rcases nM a with a|a
  ·cases a
  ·let#[p,_,e]:=Qkq.mp a
   show#[_,(congrArg (·.2) e).symm]
 let#[v,rfl]:=c
 unfold zw DL.numAt
 rw[g]
def uI{w:cu}{s:aO}{h i:Nat}{vs:List Int}{fs:List cg}{f:cg}{r:Rm}{rs:cM}{t:Tr}(I:s.af[h]?=some (vs,fs))(F:fs.getLast? =some f)(H:f.room=i)(n:w.aj[i]?=some r)(c:s.aj[i]?=some rs)
  (y:r.ao.length=rs.vals.length) (J:r.aa.length=rs.aa.length) (M:r.ao.length<=100) (P:r.aa.length<=100) (C:∀v∈rs.vals,0<=v/\v<=9) (o:0<=f.given/\f.given<=9)
  (G:t.Ok (r.ao.map (·.1)++cX) (r.aa.map (·.1))) (A:t.dep<=6) (q:Q (.d (.int (Ac (numAt (vn r rs f.given)) (zw r rs) t))) S):Fn dI [w.d,s.d,.int h,t.d] S Q:=by
 have g:kW (vn r rs f.given):=(hX C).put o.1 o.2
 show bR ?_
 unfold mf
 symm
 apply bV I F ?_
 apply aA (d:=.int f.room) L ?_
 show gV ?_
 dsimp only[bI,bo,bF,cI,cP,g8]
 rw[Qdq (show¬f.room= -1 by omega),Quq (!1),H]
 apply cx ?_
 apply Kk ?_
 apply aA L ?_
 show aA (d:=r.d) (aR (by rw[gQm,n];rfl)) ?_
 symm
 apply aA L ?_
 apply fB (enc:=kF) (nm:=(·.1)) hG (!0) ?_
 apply aA L ?_
 show aA (d:=rs.d) (aR (by rw[gQm,c];rfl)) ?_
 symm
 show aA L ?_
 show d_ (ds:=rs.vals.map D.int) ?_
 show#[_,L,#[trivial,by erw[lQm];show y],?_]
 dsimp only[bI,bo,bF,cI,cP,g8]
 rw[show cZ [] (((r.ao.map (·.1)).map (Sum.inr:Str->Key)).zip (rs.vals.map D.int))=dS r.ao rs.vals from L]
 have K:mI S (S++ [O.dct (dS r.ao rs.vals)]):=mI.refl.app
 apply aG (PR ?_)
 apply aA (d:=.int f.given) L ?_
 show#[_,_,_,L,L,aW,aM (by have:=sM (ts:=r.ao) (vs:=rs.vals);omega),?_]
 have m:((S++ [O.dct (dS r.ao rs.vals)]).set S.length (.dct (putD (dS r.ao rs.vals) (.inr "given") (.int f.given))))[S.length]?=some (.dct (vn r rs f.given)):=fY aW
 have u:mI S ((S++ [O.dct (dS r.ao rs.vals)]).set S.length (.dct (putD (dS r.ao rs.vals) (.inr "given") (.int f.given)))):=K.put (Qmq _)
 generalize ((S++ [O.dct (dS r.ao rs.vals)]).set S.length (.dct (putD (dS r.ao rs.vals) (.inr "given") (.int f.given))))=S2 at m u|-
 apply aG (Pc (α:=(Str×Str)×List (Int×Int)) (λj=>∃a b,j= [a,b]) (λp=>D.tup [.str p.1.1,eh p.2]) (λp=>p.1.1) (λp=>.int (p.2.length:Nat)) #[none,none,L] (Ge ?_))
 apply aA L ?_
 show aA (d:=r.d) (aR (by rw[gQm,n];rfl)) ?_
 symm
 apply aA L ?_
 apply fB (enc:=IZ) (nm:=(·.1)) B_ (!0) ?_
 apply aA L ?_
 show aA (d:=rs.d) (aR (by rw[gQm,c];rfl)) ?_
 symm
 show aA L ?_
 show d_ (ds:=rs.aa.map eh) ?_
 show#[#[trivial,by erw[lQm];omega],r.aa.zip rs.aa,yB _ _,#[trivial,trivial],by rw[List.length_zip];omega,λp N j l=>?_,?_]
 ·let#[a,b,rfl]:=l
  show dJ L (ay (aQ (ay (aQ (bg ?_)))))
  apply#[L,#[_,_,L],?_]
  apply#[L,L,?_]
  show d_ (ds:=p.2.map pairD) ?_
  show#[by simp,L]
 symm
 show gI (th:=numAt (vn r rs f.given)) (wt:=zw r rs) (ws:=r.ao.map (·.1)++cX) (bs:=r.aa.map (·.1)) (kws:=BZ r rs) (bq m) aW (λx e=>?_) (λb B=>E8 J B) 6 t G A ?_
 ·show(oF g ?_).1
  show mG ?_
  rcases mQa.mp e with e|e
  ·show .inr (ia y e)
  ·left
   rw[Qfq.mp e]
 ·show qT u.app (λk z=>(nomatch z)) L q
end
end W28
namespace DL
open L2
def Ee{b:cv}{S:aE}{a:Bool}{f:bj}{g:et}{Q:D->aE->Prop}(h:E f b S λx c=>E g b c λp S2=>∃v vs,xn x=some v/\iG p.1=some vs/\Q (.bl (if a then !FI v vs else FI v vs)) S2):E (GZ a f g) b S Q:=by
 let#[x,c,d,p,S2,j,v,vs,i,e,q]:=h
 show#[_,S2,by unfold GZ;rw[d];erw[Qbq];rw[j];erw[Qbq];rw[i,e];rfl,q]
def IE{x:Str}{b:X6}:FI (.str x) (b.map V.str)=decide (x∈b):=by
 induction b with
 |nil=>rfl
 | cons a b d=>
   show(rF (.str a) (.str x)||FI (.str x) (b.map V.str))=_
   rw[d]
   erw[rF,Qsq]
   by_cases c:a=x
   · subst c;simp
   · have e:¬x=a:=λz=>c z.symm
     simp[c,e]
end DL
namespace W28
open L2 DL
section
variable{S:aE}{Q:Res->aE->Prop}
def e_(ns:X6)(vs:List Int)(x:Str)(v:Int):List Int:=vs.set ((oZ (.str x) (ns.map V.str)).getD 0) v
def pk{α:Type}{enc:α->D}{nm:α->Str}{xs:List α}{x:Str}(he:∀a,∃r,enc a=.tup (.str (nm a)::r))(hl:xs.length<=1000)(g:x∈xs.map nm)(q:((oZ (.str x) ((xs.map nm).map V.str)).getD 0)<xs.length->Q (.d (.int ((oZ (.str x) ((xs.map nm).map V.str)).getD 0:Nat))) S):Fn dh [.tup (xs.map enc),.str x] S Q:=by
 show bR ?_
 unfold pY
 let#[j,e,f]:=wA g
 have i:j<xs.length:=by have:=(gQs.mp f).1;simpa using this
 rw[e] at q
 show dk ?_
 have c:E (fM (eQ dZ (ar (au 0) av))) ([D.tup (xs.map enc),D.str x].map some++List.replicate (2- [D.tup (xs.map enc),D.str x].length) none) S λp b=>p=((xs.map nm).map D.str,.fr)/\b=S:=by
  symm
  show fB he hl #[L,L]
 let#[p,b,h,rfl,rfl]:=c
 show#[.int j,b,?_,cC (λk z=>(nomatch z)) L (q i)]
 unfold Kr
 rw[h]
 erw[Qbq]
 rw[Qhq (show Tag.fr.isL=true from L)]
 show((au 1 _ b).bind _)=_
 rw[show au 1 ([D.tup (xs.map enc),D.str x].map some++List.replicate (2- [D.tup (xs.map enc),D.str x].length) none) b=some (.str x,b) from L]
 erw[Qbq]
 rw[Qhq (show Tag.stays b _ .fr from trivial)]
 show(xn (.str x)).bind _=_
 erw[xn,Qbq]
 rw[m9]
 erw[Qbq]
 rw[e]
 rfl
def FO{w:cu}{s:aO}{h i:Nat}{vs:List Int}{fs:List cg}{f:cg}{r:Rm}{rs:cM}{x:Str}{v:Int}(j:s.af[h]?=some (vs,fs))(c:fs.getLast? =some f)(g:f.room=i)(b:w.aj[i]?=some r)(a:s.aj[i]?=some rs)
  (o:r.ao.length=rs.vals.length) (l:r.ao.length<=100) (m:s.aj.length<=100) (k:x∈r.ao.map (·.1))
  (q:Q (.d ({s with aj:=s.aj.set i {rs with vals:=e_ (r.ao.map (·.1)) rs.vals x v}}:aO).d) S):Fn ft [w.d,s.d,.int h,.str x,.int v] S Q:=by
 show bR ?_
 unfold ku
 symm
 apply bV j c ?_
 apply aA (d:=.int f.room) L ?_
 show mT ?_
 dsimp only[bI,bo,bF,cI,cP,g8]
 rw[Qdq (show¬f.room= -1 by omega),g]
 show if (true=true) then _ else _
 rw[Qhq L]
 symm
 apply aA L ?_
 show aA (d:=r.d) (aR (by rw[gQm,b];rfl)) ?_
 symm
 apply aA L ?_
 apply pk (enc:=kF) (nm:=(·.1)) hG (!0) k λn=>?_
 apply aA L ?_
 show aA (d:=rs.d) (aR (by rw[gQm,a];rfl)) ?_
 symm
 apply aA L ?_
 show dR (xs:=rs.vals.map D.int) (by rw[lQm];omega) (by rw[lQm];omega) (aZ λ_ _=>rfl) L ?_
 symm
 show#[by show 1<=_;decide,?_]
 apply jA ?_
 apply aA L ?_
 show aA (d:=rs.d) (aR (by rw[gQm,a];rfl)) ?_
 apply cz ?_
 show#[_,L,cA #[_,L,?_]]
 show dQ (by show 5<=_;decide) ?_
 symm
 have e:({rs with vals:=e_ (r.ao.map (·.1)) rs.vals x v}:cM).d=.tup ([.tup ((rs.vals.map D.int).set ((oZ (.str x) ((r.ao.map (·.1)).map V.str)).getD 0) (.int v))]++fP [cQ rs.vals,.int rs.within,cQ rs.row,cQ rs.ag,.tup (rs.aa.map eh)] (some 1) none):=by
  show D.tup [cQ (e_ _ _ _ _),_,_,_,_]=_
  unfold e_ cQ
  rw[map_set]
  rfl
 rw[<-e]
 show du (gQs.mp a).1 (!0) ?_
 show cC (aX _) (aO.low _) q
end
section
variable{S:aE}{Q:Res->aE->Prop}
def xN(w:cu)(s:aO)(h:Nat)(ts:List (Str×Nat))(vs:List Int)(fs:List cg)(x:Str)(v:Int):aO:=
 if x∈w.ak.map (·.1) then{s with ak:=e_ (w.ak.map (·.1)) s.ak x v} else{s with af:=s.af.set h (e_ (ts.map (·.1)) vs x v,fs)}
def Hj{w:cu}{s:aO}{h:Nat}{ts:List (Str×Nat)}{pr:List Rw}{vs:List Int}{fs:List cg}{f:cg}{x:Str}{v:Int}(g:w.af[h]?=some (ts,pr))(b:s.af[h]?=some (vs,fs))(i:fs.getLast? =some f)(k:f.room= -1)
  (u:w.ak.length=s.ak.length) (y:ts.length=vs.length) (o:w.ak.length<=100) (t:ts.length<=100) (r:s.af.length<=100) (l:x∈ts.map (·.1)++w.ak.map (·.1))
  (q:Q (.d (xN w s h ts vs fs x v).d) S):Fn ft [w.d,s.d,.int h,.str x,.int v] S Q:=by
 show bR ?_
 unfold ku
 symm
 apply bV b i ?_
 apply aA (d:=.int f.room) L ?_
 show mT ?_
 dsimp only[bI,bo,bF,cI,cP,g8]
 rw[Qeq k]
 show bc (λc=>by cases c) (λ_=>cx ?_)
 apply aG (dB (bJ (Ee ?_)))
 apply aA L ?_
 apply fB (enc:=kF) (nm:=(·.1)) hG (!0) ?_
 show#[_,_,L,m9 _,?_]
 unfold xN at q
 show if FI (.str x) ((w.ak.map (·.1)).map V.str)=true then _ else _
 rw[IE]
 by_cases c:x∈w.ak.map (·.1)
 ·rw[Qhq c] at q
  rw[Qeq c,Qhq L]
  symm
  apply aA L ?_
  apply aA L ?_
  apply pk (enc:=kF) (nm:=(·.1)) hG (!0) c λm=>?_
  show dR (xs:=s.ak.map D.int) (by rw[lQm];omega) (by rw[lQm];omega) (aZ λ_ _=>rfl) L ?_
  symm
  apply aA L ?_
  apply aA L ?_
  apply aA L ?_
  show#[by show 4<=_;decide,?_]
  rw[<-map_set]
  show cC (d:=({s with ak:=e_ (w.ak.map (·.1)) s.ak x v}:aO).d) (aX _) (aO.low _) q
 ·rw[Quq c] at q
  rw[Qdq c,Quq (!1)]
  show cx ?_
  have a:x∈ts.map (·.1):=(mQa.mp l).resolve_right c
  symm
  apply aA L ?_
  show aA (d:=Ao (vs,fs)) (aR (by rw[gQm,b];rfl)) ?_
  apply dJ L (ay (aQ (ay (aQ (bg ?_)))))
  apply aA L ?_
  show aA (d:=fS (ts,pr)) (aR (by rw[gQm,g];rfl)) ?_
  symm
  apply aA L ?_
  apply pk (enc:=kF) (nm:=(·.1)) hG (!0) a λm=>?_
  show dR (xs:=vs.map D.int) (by rw[lQm];omega) (by rw[lQm];omega) (aZ λ_ _=>rfl) L ?_
  symm
  rw[<-map_set]
  rw[show D.tup ((vs.set ((oZ (.str x) ((ts.map (·.1)).map V.str)).getD 0) v).map D.int)=cQ (e_ (ts.map (·.1)) vs x v) from L]
  generalize e_ (ts.map (·.1)) vs x v=nv at q|-
  have j:h<s.af.length:=(gQs.mp b).1
  have e:s.af.length<=900:=by omega
  have n:Op (settle S ({s with af:=s.af.set h (nv,fs)}:aO).d S) λp=>Q p.1 p.2:=cC (aX _) (aO.low _) q
  show gY j e n
end
section
variable{S:aE}{Q:Res->aE->Prop}
def gh(ns:X6)(x:Str):Nat:=(oZ (.str x) (ns.map V.str)).getD 0
def kq{ns:X6}{x:Str}(h:x∈ns):gh ns x<ns.length/\ns[gh ns x]?=some x:=by
 let#[j,b,a]:=wA h
 unfold gh
 rw[b]
 show#[(gQs.mp a).1,a]
def jP{α:Type}{enc:α->D}{nm:α->Str}{xs:List α}{x:Str}(he:∀a,∃r,enc a=.tup (.str (nm a)::r))(hl:xs.length<=1000)(b:x∈xs.map nm)(q:Q (.d (.int (gh (xs.map nm) x:Nat))) S):Fn dh [.tup (xs.map enc),.str x] S Q:=pk he hl b λ_=>q
def oo{w:cu}{s:aO}{h i:Nat}{vs:List Int}{fs:List cg}{f:cg}{r:Rm}{x:Str}(e:s.af[h]?=some (vs,fs))(b:fs.getLast? =some f)(c:f.room=i)(a:w.aj[i]?=some r)(j:r.aa.length<=100)(g:x∈r.aa.map (·.1))
  (q:Q (.d (.tup [.int i,.int (gh (r.aa.map (·.1)) x:Nat)])) S):Fn jB [w.d,s.d,.int h,.str x] S Q:=by
 show bR ?_
 unfold ud
 symm
 apply bV e b ?_
 show aA (d:=.int f.room) L ?_
 rw[c]
 symm
 apply aA L ?_
 show aA (d:=r.d) (aR (by rw[gQm,a];rfl)) ?_
 symm
 apply aA L ?_
 apply jP (enc:=IZ) (nm:=(·.1)) B_ (!0) g ?_
 show#[by show 2<=_;decide,?_]
 show cC (λk z=>(nomatch z)) L q
def kj{s:aO}{i b:Nat}{rs:cM}{l:List (Int×Int)}(a:s.aj[i]?=some rs)(j:b<rs.aa.length)(h:rs.aa.length<=100)(k:s.aj.length<=100)
  (q:Q (.d ({s with aj:=s.aj.set i {rs with aa:=rs.aa.set b l}}:aO).d) S):Fn fh [s.d,.int i,.int b,eh l] S Q:=by
 show bR ?_
 unfold nL
 symm
 apply aA L ?_
 show aA (d:=rs.d) (aR (by rw[gQm,a];rfl)) ?_
 symm
 apply jA ?_
 apply cA (cz ?_)
 apply#[_,L,_,L,?_]
 apply aA L ?_
 show dR (xs:=rs.aa.map eh) (by rw[lQm];omega) (by rw[lQm];omega) (aZ λl _=>uA l) (uA l) ?_
 symm
 show#[by show 1<=_;decide,?_]
 show dQ (by show 5<=_;decide) ?_
 symm
 rw[<-map_set]
 generalize f:rs.aa.set b l=nb at q|-
 have e:({rs with aa:=nb}:cM).d=.tup (fP [cQ rs.vals,.int rs.within,cQ rs.row,cQ rs.ag,.tup (rs.aa.map eh)] none (some 4)++ [.tup (nb.map eh)]):=rfl
 rw[<-e]
 have c:i<s.aj.length:=(gQs.mp a).1
 have hl:s.aj.length<=900:=by omega
 have g:Op (settle S ({s with aj:=s.aj.set i {rs with aa:=nb}}:aO).d S) λp=>Q p.1 p.2:=cC (aX _) (aO.low _) q
 show du c hl g
noncomputable def gS(p:Int×List Int)(h:Int):Int×List Int:=if 0<p.1 then(p.1-1,p.2) else(p.1,p.2++ [h])
noncomputable def fO(p:Int×List Int):Int×List Int:=match p.2 with
 |_::l=>(p.1,l)
 | []=>(if 9<p.1+1 then 9 else p.1+1,[])
def yM{w:cu}{s:aO}{h:Int}{x:Str}{p:Int×List Int}(g:x∈w.ai.map (·.1))(b:s.ai[gh (w.ai.map (·.1)) x]?=some p)(i:w.ai.length<=100)(k:s.ai.length<=100)(l:p.2.length<=900)
  (q:Q (.d ({s with ai:=s.ai.set (gh (w.ai.map (·.1)) x) (gS p h)}:aO).d) S):Fn sx [w.d,s.d,.int h,.str x] S Q:=by
 show bR ?_
 unfold AR
 symm
 apply aA L ?_
 show jP (enc:=kF) (nm:=(·.1)) hG (!0) g ?_
 generalize gh (w.ai.map (·.1)) x=j at b q|-
 have f:j<s.ai.length:=(gQs.mp b).1
 have hl:s.ai.length<=900:=by omega
 symm
 apply aA L ?_
 show aA (d:=Ad p) (aR (by rw[gQm,b];rfl)) ?_
 show dJ L (ay (aQ (ay (aQ (bg ?_)))))
 have a:Op (settle S ({s with ai:=s.ai.set j (gS p h)}:aO).d S) λp=>Q p.1 p.2:=cC (aX _) (aO.low _) q
 unfold gS at a
 symm
 by_cases c:0<p.1
 ·rw[Qhq c] at a
  rw[Qeq c,Qhq L]
  symm
  show#[by show 2<=_;decide,?_]
  symm
  show g7 (p:=(p.1-1,p.2)) f hl a
 ·rw[Quq c] at a
  rw[Qdq c,Quq (!1)]
  apply cx ?_
  show#[by show 1<=_;decide,?_]
  show dQ (by erw[lQm,Qnq,QGq];show nQl (aM (!0))) ?_
  symm
  show#[by show 2<=_;decide,?_]
  symm
  have e:D.tup [.int p.1,.tup (p.2.map D.int++ [.int h])]=Ad (p.1,p.2++ [h]):=by simp[Ad,cQ]
  rw[e]
  show g7 f hl a
end
section
variable{S:aE}{Q:Res->aE->Prop}
def mS{w:cu}{s:aO}{x:Str}{p:Int×List Int}(i:x∈w.ai.map (·.1))(b:s.ai[gh (w.ai.map (·.1)) x]?=some p)(k:w.ai.length<=100)(m:s.ai.length<=100)
  (q:Q (.d ({s with ai:=s.ai.set (gh (w.ai.map (·.1)) x) (fO p)}:aO).d) S):Fn gD [w.d,s.d,.str x] S Q:=by
 show bR ?_
 unfold lR
 symm
 apply aA L ?_
 show jP (enc:=kF) (nm:=(·.1)) hG (!0) i ?_
 generalize gh (w.ai.map (·.1)) x=j at b q|-
 have g:j<s.ai.length:=(gQs.mp b).1
 have hl:s.ai.length<=900:=by omega
 symm
 apply aA L ?_
 show aA (d:=Ad p) (aR (by rw[gQm,b];rfl)) ?_
 show dJ L (ay (aQ (ay (aQ (bg ?_)))))
 have h:Op (settle S ({s with ai:=s.ai.set j (fO p)}:aO).d S) λp=>Q p.1 p.2:=cC (aX _) (aO.low _) q
 let#[v,f]:=p
 symm
 show xE ?_
 cases f with
 | cons a l=>
   apply bc (λ_=>?_) (λc=>by cases c)
   apply jA ?_
   apply cz ?_
   apply⟨_,L,cA ⟨_,L,?_⟩⟩
   show⟨by show 2<=_;decide,?_⟩
   symm
   have e:D.tup (fP ((a::l).map D.int) (some 1) none)=cQ l:=by
     rw[show(some (1:Int))=some ((1:Nat):Int) from L,jC (by simp)]
     rfl
   rw[e]
   show g7 (p:=(v,l)) g hl h
 | nil=>
   apply bc (λc=>by cases c) (λ_=>cx ?_)
   apply Gk ?_
   show⟨by show 2<=_;decide,?_⟩
   symm
   show g7 (p:=(if 9<v+1 then 9 else v+1,[])) g hl h
def Dc{c sd a b:D}{s:aO}(q:Q (.d s.d) S):Fn sg [c,s.d,a,b] S Q:=by
 show bR ?_
 unfold w5
 symm
 show cC (aX _) (aO.low _) q
def Ga{e:D}{s:aO}{h n:Nat}{vs:List Int}{fs:List cg}{f:cg}(b:s.af[h]?=some (vs,fs))(a:fs.getLast? =some f)(c:fs.length<=900)(hl:s.af.length<=900)(q:Q (.d ({s with af:=s.af.set h (vs,fs.dropLast++ [{f with row:=n}])}:aO).d) S):Fn we [e,s.d,.int h,(Rw.go n).d] S Q:=by
 show bR ?_
 unfold AF
 symm
 apply aA (d:=.int n) L ?_
 have g:Op (settle S ({s with af:=s.af.set h (vs,fs.dropLast++ [{f with row:=n}])}:aO).d S) λp=>Q p.1 p.2:=cC (aX _) (aO.low _) q
 show pU b a c hl g
end
section
variable{S:aE}{Q:Res->aE->Prop}
def A6{w:cu}{s:aO}{h:Int}{x:Str}{p:Int×List Int}(g:x∈w.ai.map (·.1))(a:s.ai[gh (w.ai.map (·.1)) x]?=some p)(b:w.ai.length<=100)(c:s.ai.length<=100)(e:p.2.length<=900)
  (q:Q (.d ({s with ai:=s.ai.set (gh (w.ai.map (·.1)) x) (gS p h)}:aO).d) S):Fn o9 [w.d,s.d,.int h,(Rw.take x).d] S Q:=by
 show bR ?_
 unfold sC
 symm
 apply aA (d:=.str x) L ?_
 have f:Op (settle S ({s with ai:=s.ai.set (gh (w.ai.map (·.1)) x) (gS p h)}:aO).d S) λp=>Q p.1 p.2:=cC (aX _) (aO.low _) q
 show yM g a b c e f
def Au{w:cu}{s:aO}{a:D}{x:Str}{p:Int×List Int}(g:x∈w.ai.map (·.1))(b:s.ai[gh (w.ai.map (·.1)) x]?=some p)(c:w.ai.length<=100)(e:s.ai.length<=100)
  (q:Q (.d ({s with ai:=s.ai.set (gh (w.ai.map (·.1)) x) (fO p)}:aO).d) S):Fn oI [w.d,s.d,a,(Rw.give x).d] S Q:=by
 show bR ?_
 unfold uz
 symm
 apply aA (d:=.str x) L ?_
 have f:Op (settle S ({s with ai:=s.ai.set (gh (w.ai.map (·.1)) x) (fO p)}:aO).d S) λp=>Q p.1 p.2:=cC (aX _) (aO.low _) q
 show mS g b c e f
end
section
variable{S:aE}{Q:Res->aE->Prop}
def Av(w:cu)(s:aO)(h:Nat)(t:Tr)(v:Int):Prop:=∀(S:aE) (Q:Res->aE->Prop),Q (.d (.int v)) S->Fn dI [w.d,s.d,.int h,t.d] S Q
def Puts(w:cu)(s:aO)(h:Nat)(x:Str)(v:Int)(s':aO):Prop:=∀(S:aE) (Q:Res->aE->Prop),Q (.d s'.d) S->Fn ft [w.d,s.d,.int h,.str x,.int v] S Q
def Ax{w:cu}{s:aO}{h:Int}{x y:Str}{p a:Int×List Int}(k:x∈w.ai.map (·.1))(g:y∈w.ai.map (·.1))(f:s.ai[gh (w.ai.map (·.1)) x]?=some p)(c:w.ai.length<=100)(e:s.ai.length<=100)(i:a.2.length<=900)
  (b:(s.ai.set (gh (w.ai.map (·.1)) x) (fO p))[gh (w.ai.map (·.1)) y]?=some a)
  (q:Q (.d ({s with ai:=(s.ai.set (gh (w.ai.map (·.1)) x) (fO p)).set (gh (w.ai.map (·.1)) y) (gS a h)}:aO).d) S):Fn oU [w.d,s.d,.int h,(Rw.pass x y).d] S Q:=by
 show bR ?_
 unfold sD
 symm
 apply aA (d:=.str x) L ?_
 apply mS k f c e ?_
 apply aA (d:=.str y) L ?_
 have j:Op (settle S ({s with ai:=(s.ai.set (gh (w.ai.map (·.1)) x) (fO p)).set (gh (w.ai.map (·.1)) y) (gS a h)}:aO).d S) λp=>Q p.1 p.2:=cC (aX _) (aO.low _) q
 show yM (s:={s with ai:=s.ai.set (gh (w.ai.map (·.1)) x) (fO p)}) g b c (by simpa using e) i j
def DU{w:cu}{s s':aO}{h:Nat}{x:Str}{t:Tr}{v:Int}(b:Av w s h t v)(a:Puts w s h x v s')(q:Q (.d s'.d) S):Fn r_ [w.d,s.d,.int h,(Rw.put x t).d] S Q:=by
 show bR ?_
 unfold xa
 symm
 apply aA (d:=.str x) L ?_
 apply aA (d:=t.d) L ?_
 apply b _ _ ?_
 show a _ _ ?_
 show cC (aX _) (aO.low _) q
def xk{w:cu}{s:aO}{h n:Nat}{t:Tr}{v:Int}{vs:List Int}{fs:List cg}{f:cg}(e:Av w s h t v)(b:s.af[h]?=some (vs,fs))(a:fs.getLast? =some f)(g:fs.length<=900)(hl:s.af.length<=900)
  (q:Q (.d (if v=0 then({s with af:=s.af.set h (vs,fs.dropLast++ [{f with row:=n}])}:aO) else s).d) S):Fn jX [w.d,s.d,.int h,(Rw.unl t n).d] S Q:=by
 show bR ?_
 unfold mZ
 symm
 apply aA (d:=t.d) L ?_
 apply e _ _ ?_
 show gV ?_
 dsimp only[bI,bo,bF,cI,cP,g8]
 by_cases c:v=0
 ·rw[Qhq c] at q
  rw[Qeq c,Qhq L]
  symm
  apply aA (d:=.int n) L ?_
  have i:Op (settle S ({s with af:=s.af.set h (vs,fs.dropLast++ [{f with row:=n}])}:aO).d S) λp=>Q p.1 p.2:=cC (aX _) (aO.low _) q
  show pU b a g hl i
 ·rw[Quq c] at q
  rw[Qdq c,Quq (!1)]
  apply cx ?_
  show cC (aX _) (aO.low _) q
end
section
variable{S:aE}{Q:Res->aE->Prop}
def AG{w:cu}{s:aO}{h:Nat}{t:Tr}{v:Int}{vs:List Int}{fs:List cg}{f:cg}(i:Av w s h t v)(e:s.af[h]?=some (vs,fs))(c:fs.getLast? =some f)(j:fs.length<=900)(hl:s.af.length<=900)
  (q:Q (.d ({s with af:=s.af.set h (vs,fs.dropLast++ [{f with told:=v}])}:aO).d) S):Fn oK [w.d,s.d,.int h,(Rw.tell t).d] S Q:=by
 show bR ?_
 unfold sG
 symm
 apply aA (d:=t.d) L ?_
 apply i _ _ ?_
 apply jA ?_
 show bV e c ?_
 apply cA (cz ?_)
 apply⟨_,L,_,L,?_⟩
 show⟨by show 1<=_;decide,?_⟩
 show dQ (by show 5<=_;decide) ?_
 symm
 have g:0<fs.length:=by
  cases fs with
  |nil=>cases c
  |cons a b=>simp
 have k:Op (settle S ({s with af:=s.af.set h (vs,fs.dropLast++ [{f with told:=v}])}:aO).d S) λp=>Q p.1 p.2:=cC (aX _) (aO.low _) q
 show ip (f:={f with told:=v}) e g j hl k
def D1{w:cu}{s:aO}{h i:Nat}{vs:List Int}{fs:List cg}{f:cg}{r:Rm}{rs:cM}{x:Str}(o:s.af[h]?=some (vs,fs))(k:fs.getLast? =some f)(m:f.room=i)(j:w.aj[i]?=some r)(a:s.aj[i]?=some rs)(n:r.aa.length<=100)(u:r.aa.length=rs.aa.length)(g:s.aj.length<=100)(e:x∈r.aa.map (·.1))
  (q:Q (.d ({s with aj:=s.aj.set i {rs with aa:=rs.aa.set (gh (r.aa.map (·.1)) x) []}}:aO).d) S):Fn rV [w.d,s.d,.int h,(Rw.all x).d] S Q:=by
 let c:=(kq e).1
 rw[lQm] at c
 show bR ?_
 unfold wB
 symm
 apply aA (d:=.str x) L ?_
 show oo o k m j n e ?_
 show dJ L (ay (aQ (ay (aQ (bg ?_)))))
 generalize gh (r.aa.map (·.1)) x=b at c q|-
 symm
 apply⟨by decide,?_⟩
 have t:Op (settle S ({s with aj:=s.aj.set i {rs with aa:=rs.aa.set b []}}:aO).d S) λp=>Q p.1 p.2:=cC (aX _) (aO.low _) q
 show kj (l:= []) a (!0) (!0) g t
end
section
variable{S:aE}{Q:Res->aE->Prop}
def K5:∀a:Rm,∃r,a.d=.tup (.str a.name::r):=λa=>⟨_,L⟩
def GJ:∀a:Str×List Rw,∃r,iW a=.tup (.str a.1::r):=λa=>⟨_,L⟩
def GD{w:cu}{s:aO}{h:Nat}{g:Option Str}{rn b:Str}{t:Tr}{v:Int}{vs:List Int}{fs:List cg}{r:Rm}{rs:cM}(n:Av w s h t v)(k:s.af[h]?=some (vs,fs))(c:rn∈w.aj.map (·.name))(j:w.aj[gh (w.aj.map (·.name)) rn]?=some r)(a:s.aj[gh (w.aj.map (·.name)) rn]?=some rs)(f:b∈r.ae.map (·.1))
  (x:w.aj.length<=100) (B:r.ae.length<=100) (A:s.aj.length<=100) (o:rs.row.length<=900) (y:fs.length<=900) (z:s.af.length<=100)
  (q:Q (.d ({s with af:=s.af.set h (vs,fs++ [⟨(gh (w.aj.map (·.name)) rn:Nat),(gh (r.ae.map (·.1)) b:Nat),0,v,0⟩]),aj:=s.aj.set (gh (w.aj.map (·.name)) rn) (gX rs h)}:aO).d) S):Fn xW [w.d,s.d,.int h,(Rw.do_ g rn b t).d] S Q:=by
 show bR ?_
 unfold A1
 symm
 apply aA L ?_
 apply aA (d:=.str rn) L ?_
 show jP (enc:=Rm.d) (nm:=(·.name)) K5 (!0) c ?_
 generalize gh (w.aj.map (·.name)) rn=i at j a q|-
 symm
 apply aA L ?_
 show aA (d:=r.d) (aR (by rw[gQm,j];rfl)) ?_
 symm
 apply aA L ?_
 apply aA (d:=.str b) L ?_
 show jP (enc:=iW) (nm:=(·.1)) GJ (!0) f ?_
 generalize gh (r.ae.map (·.1)) b=dd at q|-
 symm
 apply aA (d:=t.d) L ?_
 apply n _ _ ?_
 show⟨by show 5<=_;decide,?_⟩
 symm
 apply aA L ?_
 show aA (d:=Ao (vs,fs)) (aR (by rw[gQm,k];rfl)) ?_
 apply dJ L (ay (aQ (ay (aQ (bg ?_)))))
 show⟨by show 1<=_;decide,?_⟩
 show dQ (by erw[lQm,Qnq,QGq];show nQl (aM (!0))) ?_
 symm
 have e:fs.map cg.d++ [D.tup [.int i,.int dd,.int 0,.int v,.int 0]]=(fs++ [(⟨i,dd,0,v,0⟩:cg)]).map cg.d:=by rw[Qzq];rfl
 rw[e]
 generalize l:fs++ [(⟨i,dd,0,v,0⟩:cg)]=nf at q|-
 have m:h<s.af.length:=(gQs.mp k).1
 apply gY (vs:=vs) (fs:=nf) m (!0) ?_
 have u:Op (settle S ({s with af:=s.af.set h (vs,nf),aj:=s.aj.set i (gX rs h)}:aO).d S) λp=>Q p.1 p.2:=cC (aX _) (aO.low _) q
 show sy (s:={s with af:=s.af.set h (vs,nf)}) a (by show s.aj.length<=900;omega) o u
end
section
variable{S:aE}{Q:Res->aE->Prop}
noncomputable def tM(a:Bool)(rs:cM)(b:Nat)(h:Int):cM:=match rs.aa[b]? with
 |some (p::l)=>if a then{rs with aa:=rs.aa.set b l} else{rs with aa:=rs.aa.set b l,within:=p.2,ag:=rs.ag++ [h]}
 |_=>rs
def Az{w:cu}{s:aO}{h i:Nat}{vs:List Int}{fs:List cg}{f:cg}{r:Rm}{rs:cM}{x:Str}(H:s.af[h]?=some (vs,fs))(B:fs.getLast? =some f)(F:f.room=i)(u:w.aj[i]?=some r)(k:s.aj[i]?=some rs)(G:r.aa.length<=100)(M:r.aa.length=rs.aa.length)(z:s.aj.length<=100)(K:rs.ag.length<=900)(y:x∈r.aa.map (·.1))
  (q:Q (.d ({s with aj:=s.aj.set i (tM (decide (r.ah="when free")) rs (gh (r.aa.map (·.1)) x) h)}:aO).d) S):Fn pF [w.d,s.d,.int h,(Rw.call x).d] S Q:=by
 let v:=(kq y).1
 rw[lQm] at v
 have o:i<s.aj.length:=(gQs.mp k).1
 show bR ?_
 unfold sL
 symm
 apply aA (d:=.str x) L ?_
 show oo H B F u G y ?_
 show dJ L (ay (aQ (ay (aQ (bg ?_)))))
 generalize gh (r.aa.map (·.1)) x=b at v q|-
 have t:b<rs.aa.length:=by omega
 obtain⟨m,a⟩:∃l,rs.aa[b]?=some l:=#[_,gQe t]
 have g:Op (settle S ({s with aj:=s.aj.set i (tM (decide (r.ah="when free")) rs b h)}:aO).d S) λp=>Q p.1 p.2:=cC (aX _) (aO.low _) q
 unfold tM at g
 rw[a] at g
 symm
 apply aA L ?_
 show aA (d:=rs.d) (aR (by rw[gQm,k];rfl)) ?_
 symm
 apply aA L ?_
 show aA (d:=eh m) (aR (by rw[gQm,a];rfl)) ?_
 symm
 show xE ?_
 cases m with
 | nil=>
   apply bc (λ_=>?_) (λc=>by cases c)
   have e:s.aj.set i rs=s.aj:=by
     apply List.ext_getElem?
     intro j
     rw[List.getElem?_set]
     split
     · rename_i c
       subst c
       rw[k]
       first|done|simp[o]
     · rfl
   have A:({s with aj:=s.aj.set i rs}:aO)=s:=by rw[e]
   have n:Op (settle S ({s with aj:=s.aj.set i rs}:aO).d S) λp=>Q p.1 p.2:=g
   rw[A] at n
   show n
 | cons p l=>
   apply bc (λc=>by cases c) (λ_=>cx ?_)
   apply jA ?_
   apply cz ?_
   apply#[_,L,cA #[_,L,?_]]
   have e:D.tup (fP ((p::l).map pairD) (some 1) none)=eh l:=by
     rw[show(some (1:Int))=some ((1:Nat):Int) from L,jC (by simp)]
     rfl
   rw[e]
   show kj k t (!0) z ?_
   dsimp only at g
   generalize J:rs.aa.set b l=nb at g|-
   symm
   apply aA L ?_
   show aA (d:=r.d) (aR (by rw[gQm,u];rfl)) ?_
   symm
   apply aA (d:=.str r.ah) L ?_
   show iy ?_
   dsimp only[bI,bo,bF,cI,cP,g8]
   by_cases c:r.ah="when free"
   · rw[Qeq c] at g|-
     rw[Qhq L] at g
     rw[Qhq L]
     symm
     show g
   · rw[Qdq c] at g|-
     rw[Quq (!1)] at g
     rw[Quq (!1)]
     apply cx ?_
     show aA L ?_
     have C:((s.aj.set i {rs with aa:=nb}).map cM.d)[i]?=some ({rs with aa:=nb}:cM).d:=by rw[gQm,Qyq o];rfl
     symm
     show aA (d:=({rs with aa:=nb}:cM).d) (aR C) ?_
     apply dJ L (ay (aQ (ay (aQ (ay (aQ (ay (aQ (ay (aQ (bg ?_)))))))))))
     apply aA (d:=pairD p) E9 ?_
     apply aA (d:=.int p.2) L ?_
     show#[by show 1<=_;decide,?_]
     show dQ (by erw[lQm,Qnq,QGq];show nQl (aM (!0))) ?_
     symm
     show#[by show 5<=_;decide,?_]
     symm
     have I:D.tup [cQ rs.vals,.int p.2,cQ rs.row,.tup (rs.ag.map D.int++ [.int h]),.tup (nb.map eh)]=({rs with aa:=nb,within:=p.2,ag:=rs.ag++ [(h:Int)]}:cM).d:=by simp[cM.d,cQ]
     rw[I]
     have n:Op (settle S ({s with aj:=(s.aj.set i {rs with aa:=nb}).set i {rs with aa:=nb,within:=p.2,ag:=rs.ag++ [(h:Int)]}}:aO).d S) λp=>Q p.1 p.2:=by rw[List.set_set];show g
     show du (s:={s with aj:=s.aj.set i {rs with aa:=nb}}) (by simpa using o) (by simp;omega) n
end
end W28
namespace DL
open L2
def se{α:Type}{u:cv}{S:aE}{js:List (Option Nat)}{i:sE}{g:me}{t:iH}{o:bj}{Q:List D->aE->Prop}(P:cv->Prop)(enc G:α->D)(c:α->Bool)(F:P (nZ js u)) (h:E i u S λp f=>∃xs:List α,p.1=xs.map enc/\p.2 f/\xs.length<=1000∧
   (∀x∈xs,∀a,P a->Tg g (enc x) a f λb S2=>S2=f/\P b/\E t b f λk A=>A=f/\k=c x/\(c x=true->E o b f λy B=>y=G x/\B=f))/\Q ((xs.filter c).map G) f):E (bK js i g t o) u S Q:=by
 show gL (h.mono λp f I=>?_)
 let#[xs,z,J,hl,R,q]:=I
 show#[λn a s j=>s=f/\j=((xs.take n).filter c).map G/\P a,#[L,L,F],λn a s j h=>by rw[h.1];show J,λn d a s j r h=>?_,λa s j h=>?_]
 ·let#[rfl,rfl,h3]:=h
  have r:p.1[n]?=some d:=r
  rw[z,gQm] at r
  let#[x,l,rfl]:=oQm.mp r
  let#[b,S2,M,rfl,h4,h5]:=R x (mQg l) a h3
  show#[b,S2,M,?_]
  show h5.mono λk A v=>?_
  let#[H,N,K]:=v
  subst H N
  let W:=(gQs.mp l).1
  have w:((xs.take (n+1)).filter c).map G=((xs.take n).filter c).map G++if c x=true then [G x] else []:=by
   rw[QYq,l]
   cases m:c x <;>simp[m]
  by_cases m:c x=true
  ·rw[Qhq m]
   show(K m).mono λy B v=>?_
   let#[U,C]:=v
   subst U C
   show#[?_,L,?_,h4]
   ·rw[lQm]
    have:=List.length_filter_le c (xs.take n)
    rw[Qxq] at this
    show aM (!0)
   ·rw[w,Qhq m]
  ·rw[Quq m]
   show#[L,?_,h4]
   rw[w,Quq m,List.append_nil]
 ·let#[rfl,rfl,_]:=h
  have e:p.1.length=xs.length:=by rw[z,lQm]
  show Q (((xs.take p.1.length).filter c).map G) _
  rw[e,QEq]
  show q
end DL
namespace W28
open L2 DL
section
variable{S:aE}{Q:Res->aE->Prop}
noncomputable def ix(l:List (Int×Int))(t h:Int):List (Int×Int):=l.take (l.filter λp=>decide (p.1<=t)).length++ [(t,h)]++l.drop (l.filter λp=>decide (p.1<=t)).length
def Bw{w:cu}{s:aO}{h i:Nat}{vs:List Int}{fs:List cg}{f:cg}{r:Rm}{rs:cM}{x u:Str}{t:Tr}{v:Int}{g:List (Int×Int)}(hs:s.af[h]?=some (vs,fs))(X:fs.getLast? =some f)(Y:f.room=i)(J:w.aj[i]?=some r)(m:s.aj[i]?=some rs)(Z:r.aa.length<=100)(l2:r.aa.length=rs.aa.length)(P:s.aj.length<=100)(K:x∈r.aa.map (·.1))
  (B:r.aa[gh (r.aa.map (·.1)) x]?=some (x,u)) (k:rs.aa[gh (r.aa.map (·.1)) x]?=some g) (b4:g.length<=900) (C:Av w s h t v)
  (q:Q (.d ({s with aj:=s.aj.set i (b_ {rs with aa:=rs.aa.set (gh (r.aa.map (·.1)) x) (ix g (if u="turns" then v else 0) h)})}:aO).d) S):Fn ph [w.d,s.d,.int h,(Rw.wait x t).d] S Q:=by
 let G:=(kq K).1
 rw[lQm] at G
 have hi:i<s.aj.length:=(gQs.mp m).1
 show bR ?_
 unfold tT
 symm
 apply aA (d:=.str x) L ?_
 show oo hs X Y J Z K ?_
 show dJ L (ay (aQ (ay (aQ (bg ?_)))))
 generalize gh (r.aa.map (·.1)) x=b at G q B k|-
 have N:b<rs.aa.length:=by omega
 symm
 apply aA L ?_
 show aA (d:=r.d) (aR (by rw[gQm,J];rfl)) ?_
 symm
 apply aA L ?_
 show aA (d:=IZ (x,u)) (aR (by rw[gQm,B];rfl)) ?_
 symm
 apply aA (d:=.str u) L ?_
 show iy ?_
 dsimp only[bI,bo,bF,cI,cP,g8]
 have y:∀j:Int,j=(if u="turns" then v else 0)->T (aD (aV 7 (bp kL (bp kL (bp kL (bp kL (au 1) (cF (.int 0))) (au 4)) (cF (.int 4))) (au 5)))
   (aD (aV 8 (ee (fM (bK [none,none,some 6] (ki (aS (au 7))) (g9 (nG 2 (aH (bD 0) (aH (bD 1) cW)))) (aJ (bp L1 (au 0) (au 2))) (au 0)))))
   (aD (aV 9 (az fh (ar (au 1) (ar (au 4) (ar (au 5) (ar (bp bW (bp bW (rS (au 7) jk (jj (au 8))) (aY (ar (aY (ar (au 6) (ar (au 2) av))) av))) (rS (au 7) (jj (au 8)) jk)) av))))))
   (cB (az p8 (ar (au 9) (ar (au 4) av)))))))
   [some w.d,some s.d,some (.int h),some (Rw.wait x t).d,some (.int i),some (.int b),some (.int j),none,none,none] S (λo=>match o with
   |.nx _ z=>Op (settle S .non z) λp=>Q p.1 p.2|.rt d z=>Op (settle S d z) λp=>Q p.1 p.2|.rl l z=>Op (fQ S l z) λp=>Q p.1 p.2|_=>False):=by
  intro j F
  rw[<-F] at q
  symm
  apply aA L ?_
  show aA (d:=rs.d) (aR (by rw[gQm,m];rfl)) ?_
  symm
  apply aA L ?_
  show aA (d:=eh g) (aR (by rw[gQm,k];rfl)) ?_
  symm
  apply se (α:=Int×Int) (λA=>∃a b,A= [a,b,some (.int j)]) pairD (λp=>.int p.1) (λp=>decide (p.1<=j)) #[none,none,L] ?_
  show d_ (ds:=g.map pairD) ?_
  show#[g,L,trivial,by omega,λp G A H=>?_,?_]
  ·let#[a,b,rfl]:=H
   show dJ L (ay (aQ (ay (aQ (bg ?_)))))
   apply#[L,#[_,_,L],?_]
   apply#[L,L,λ_=>?_]
   show#[L,L]
  have U:((g.filter λp=>decide (p.1<=j)).map λp=>D.int p.1).length=(g.filter λp=>decide (p.1<=j)).length:=lQm ..
  let I:=List.length_filter_le (λp=>decide (p.1<=j)) g
  unfold ix at q
  symm
  rw[U]
  generalize (g.filter λp=>decide (p.1<=j)).length=n at q I|-
  apply jA ?_
  apply cA (cz ?_)
  show#[_,L,g.map pairD,L,?_]
  rw[wG (by rw[lQm];show I)]
  symm
  show#[by show 2<=_;decide,?_]
  symm
  show#[by show 1<=_;decide,?_]
  show dQ (by erw[lQm,Qxq,Qnq,QGq];show nQl (aM (!0))) ?_
  apply jA ?_
  apply cz ?_
  show#[_,L,cA #[g.map pairD,L,?_]]
  rw[jC (by rw[lQm];show I)]
  show dQ (by erw[lQa,lQm,Qxq,List.length_drop,Qnq,QGq];show nQl (aM (!0))) ?_
  symm
  have e:D.tup ((g.map pairD).take n++ [D.tup [.int j,.int h]]++(g.map pairD).drop n)=eh (g.take n++ [(j,(h:Int))]++g.drop n):=by
   erw[eh,Qzq,List.map_take,List.map_drop]
   rfl
  rw[e]
  generalize g.take n++ [(j,(h:Int))]++g.drop n=nl at q|-
  apply kj m N (!0) P ?_
  have M:Op (settle S ({s with aj:=s.aj.set i (b_ {rs with aa:=rs.aa.set b nl})}:aO).d S) λp=>Q p.1 p.2:=cC (aX _) (aO.low _) q
  generalize R:({rs with aa:=rs.aa.set b nl}:cM)=nr at M|-
  have W:Op (settle S ({s with aj:=(s.aj.set i nr).set i (b_ nr)}:aO).d S) λp=>Q p.1 p.2:=by rw[List.set_set];show M
  show zP (s:={s with aj:=s.aj.set i nr}) (Qyq hi) (by simp;omega) W
 by_cases c:u="turns"
 ·rw[Qeq c,Qhq L]
  symm
  apply aA (d:=t.d) L ?_
  show C _ _ ?_
  show y v (by rw[Qhq c])
 ·rw[Qdq c,Quq (!1)]
  show cx ?_
  show y 0 (by rw[Quq c])
end
end W28
namespace DL
open L2
section
variable{a:cv}{S:aE}
def PB{b:List (Str×Str)}{g:bj}{Q:D->aE->Prop}(h:E g a S λy c=>∃x nm,y=.str x/\b.lookup x=some nm/\Q (.fn nm) c):E (OG b g) a S Q:=by
 let#[y,c,d,x,nm,rfl,e2,q]:=h
 show#[_,c,by unfold OG;rw[d];erw[Qbq];rw[e2];rfl,q]
def HM{i:Nat}{T:List (Str×dE)}{g:gw}{x:Str}{F:dE}{Q:D->aE->Prop}(e:a[i]?=some (some (.fn x)))(c:T.lookup x=some F)(h:E (az F g) a S Q):E (tw i T g) a S Q:=by
 let#[y,d,b,q]:=h
 show#[_,d,by unfold tw;rw[e];show(T.lookup x).bind _=_;rw[c];show b,q]
def J2{f:bj}{Q:D->aE->Prop}(h:E f a S λd b=>∃k,d=.bl k/\Q (.bl (!k)) b):E (Je f) a S Q:=by
 let#[d,b,c,k,rfl,q]:=h
 show#[_,b,by unfold Je;rw[c];rfl,q]
def iP{b:Bool}{x:D}{Q:D->Prop}(q:Q (.bl (if b then !isNone x else isNone x))):Op (pT b S x .non) Q:=#[_,L,q]
end
def vt{α:Type}{xs:List α}{a b:α}:mO (xs++ [a,b]) (-2)=some a:=by
 unfold mO G2
 rw[Quq (!0),Qhq (by simp;omega)]
 erw[Qbq]
 rw[show((-2:Int)+((xs++ [a,b]).length:Int)).toNat=xs.length by simp;omega]
 simp
end DL
namespace W28
open L2 DL
section
variable{S:aE}{Q:Res->aE->Prop}
def QM:Rw->dE
 |.put _ _=>r_
 |.unl _ _=>jX
 |.go _=>we
 |.do_ _ _ _ _=>xW
 |.wait _ _=>ph
 |.call _=>pF
 |.all _=>rV
 |.tell _=>oK
 |.take _=>o9
 |.give _=>oI
 |.pass _ _=>oU
 |.say _=>sg
noncomputable def Rw.kind:Rw->Str
 |.put _ _=>"put"
 |.unl _ _=>"unless"
 |.go _=>"go"
 |.do_ _ _ _ _=>"do"
 |.wait _ _=>"wait"
 |.call _=>"call"
 |.all _=>"all"
 |.tell _=>"tell"
 |.take _=>"take"
 |.give _=>"give"
 |.pass _ _=>"pass"
 |.say _=>"say"
def Rw.d_kind(r:Rw):∃l,r.d=.tup (.str r.kind::l):=by cases r <;>show#[_,L]
def Hg(r:Rw):∃nm,mv.lookup r.kind=some nm/\uD.lookup nm=some (QM r):=by
 cases r
 ·show#["by_put",L,L]
 ·show#["by_unless",L,L]
 ·show#["by_go",L,L]
 ·show#["by_do",L,L]
 ·show#["by_wait",L,L]
 ·show#["by_call",L,L]
 ·show#["by_all",L,L]
 ·show#["by_tell",L,L]
 ·show#["by_take",L,L]
 ·show#["by_give",L,L]
 ·show#["by_pass",L,L]
 ·show#["by_say",L,L]
def LD(w:cu)(s:aO)(h:Nat)(r:Rw)(s':aO):Prop:=∀(S:aE) (Q:Res->aE->Prop),Q (.d s'.d) S->Fn (QM r) [w.d,s.d,.int h,r.d] S Q
def yG{w:cu}{s s':aO}{h:Nat}{r:Rw}(a:LD w s h r s')(q:Q (.d s'.d) S):Fn jL [w.d,s.d,.int h,r.d] S Q:=by
 let#[nm,b,c]:=Hg r
 let#[l,hl]:=r.d_kind
 show bR ?_
 unfold vh
 apply aG (cf (PB ?_))
 rw[hl]
 show aA (d:=.str r.kind) E9 ?_
 rw[<-hl]
 show#[_,nm,L,b,?_]
 apply dk (HM (x:=nm) L c ?_)
 show a _ _ ?_
 show cC (aX _) (aO.low _) q
def qX{w:cu}{s s':aO}{h i:Nat}{vs:List Int}{gs:List cg}{b f:cg}{rs:cM}{pr:List Rw}{g:Option Str}{rn n:Str}{t:Tr}(o:s.af[h]?=some (vs,gs++ [b,f]))(v:f.room=i)(k:s.aj[i]?=some rs)(p:s.aj.length<=900)(y:s.af.length<=900)
  (r:progOf w h b=some pr) (z:1<=b.row) (j:pr[(b.row-1).toNat]?=some (.do_ g rn n t))
  (e:∀a:aO,a={s with aj:=s.aj.set i (b_ rs),af:=s.af.set h (vs,gs++ [b])}->match g with|none=>s'=a|some x=>Puts w a h x f.told s')
  (q:Q (.d s'.d) S):Fn jO [w.d,s.d,.int h] S Q:=by
 have u:h<s.af.length:=(gQs.mp o).1
 show bR ?_
 unfold pS
 symm
 apply aA L ?_
 show aA (d:=Ao (vs,gs++ [b,f])) (aR (by rw[gQm,o];rfl)) ?_
 show dJ L (ay (aQ (ay (aQ (bg ?_)))))
 have l:(gs++ [b,f]).map cg.d=gs.map cg.d++ [b.d,f.d]:=by simp
 dsimp only[bI,bo,bF,cI,cP,g8]
 rw[l]
 symm
 apply pE ?_
 show#[1,L,?_]
 show aA (d:=f.d) (sO (by simp)) ?_
 show dJ L (ay (aQ (ay (aQ (ay (aQ (ay (aQ (ay (aQ (bg ?_)))))))))))
 rw[v]
 symm
 apply zP k p ?_
 apply jA ?_
 apply cA (cz (pE ?_))
 show#[1,L,_,L,_,L,?_]
 rw[zd (by simp)]
 have m:D.tup ((gs.map cg.d++ [b.d,f.d]).dropLast)=.tup ((gs++ [b]).map cg.d):=by
  rw[show gs.map cg.d++ [b.d,f.d]=(gs.map cg.d++ [b.d])++ [f.d] by simp,List.dropLast_concat]
  simp
 rw[m]
 symm
 show gY (s:={s with aj:=s.aj.set i (b_ rs)}) u y ?_
 let e:=e _ L
 dsimp only at e|-
 generalize ({s with aj:=s.aj.set i (b_ rs),af:=s.af.set h (vs,gs++ [b])}:aO)=a at e|-
 symm
 apply pE ?_
 show#[2,L,?_]
 apply aA (d:=b.d) vt ?_
 apply gx r ?_
 apply pE ?_
 show#[2,L,?_]
 apply aA (d:=b.d) vt ?_
 apply aA (d:=.int b.row) L ?_
 show aA (d:=(Rw.do_ g rn n t).d) (mi (!0) (by rw[gQm,j];rfl)) ?_
 symm
 apply aA (d:=F4 g) L ?_
 show iP ?_
 cases g with
 | none=>
   dsimp only at e
   subst e
   apply bc (λ_=>?_) (λc=>by cases c)
   show cC (aX _) (aO.low _) q
 | some x=>
   apply bc (λc=>by cases c) (λ_=>cx ?_)
   apply aA (d:=.str x) L ?_
   show e _ _ ?_
   show cC (aX _) (aO.low _) q
end
section
variable{S:aE}{Q:Res->aE->Prop}
noncomputable def He(h:Nat):Option Int->D
 |none=>.non
 |some v=>.tup [.int h,.int v]
def B6(h:Nat)(e:Xb):cj 0 (He h e)=true:=by cases e <;>rfl
def El(s:aO)(h:Nat)(e:Xb):D:=.tup [s.d,He h e]
def mh(s:aO)(h:Nat)(e:Xb):cj 0 (El s h e)=true:=by
 erw[El,cj,bC,B6,aO.low,Bool.and_true]
def eI(w:cu)(s:aO)(h:Nat)(s':aO)(e:Xb):Prop:=∀(S:aE) (Q:Res->aE->Prop),Q (.d (El s' h e)) S->Fn jR [w.d,s.d,.int h] S Q
def Dd{w:cu}{s:aO}{h i:Nat}{vs:List Int}{fs:List cg}{f:cg}{rs:cM}(j:s.af[h]?=some (vs,fs))(c:fs.getLast? =some f)(e:f.room=i)(a:s.aj[i]?=some rs)(l:rs.within≠h)(b:s.aj.length<=900)(g:rs.row.length<=900):
  eI w s h {s with aj:=s.aj.set i (gX rs h)} none:=by
 intro S Q q
 show bR ?_
 unfold kY
 symm
 apply bV j c ?_
 apply aA (d:=.int f.room) L ?_
 show mT ?_
 dsimp only[bI,bo,bF,cI,cP,g8]
 rw[Qdq (show¬f.room= -1 by omega),e]
 show if (true=true) then _ else _
 rw[Qhq L]
 symm
 apply aA L ?_
 show aA (d:=rs.d) (aR (by rw[gQm,a];rfl)) ?_
 symm
 apply aA (d:=.int rs.within) L ?_
 show mT ?_
 dsimp only[bI,bo,bF,cI,cP,g8]
 rw[Qdq l]
 show if (true=true) then _ else _
 rw[Qhq L]
 symm
 apply sy a b g ?_
 show#[by show 2<=_;decide,?_]
 show cC (d:=El _ h none) (λk z=>(nomatch z)) (mh _ _ _) q
def Here(s:aO)(h:Nat)(f:cg):Prop:=f.room= -1\/∃(i:Nat) (a:cM),f.room=i/\s.aj[i]?=some a/\a.within=h
def vq{w:cu}{s:aO}{h:Nat}{f:cg}{a b c d:Option D}{Q:Bool->aE->Prop}(k:Here s h f)(q:Q false S):E (j3 (aJ (bp (gk true) (au 4) (cF (.int (-1))))) (aJ (bp (gk true) (bp kL (bp kL (bp kL (au 1) (cF (.int 0))) (au 4)) (cF (.int 1))) (au 2)))) [some w.d,some s.d,some (.int h),some f.d,some (.int f.room),a,b,c] S Q:=by
 rcases k with g|⟨i,j,g,e,l⟩
 ·symm
  show mT ?_
  dsimp only[bI,bo,bF,cI,cP,g8]
  rw[Qeq g]
  show if (false=true) then _ else _
  rw[Quq (!1)]
  show q
 ·symm
  show mT ?_
  dsimp only[bI,bo,bF,cI,cP,g8]
  rw[Qdq (show¬f.room= -1 by omega),g]
  show if (true=true) then _ else _
  rw[Qhq L]
  symm
  apply aA L ?_
  show aA (d:=j.d) (aR (by rw[gQm,e];rfl)) ?_
  symm
  apply aA (d:=.int j.within) L ?_
  show mT ?_
  dsimp only[bI,bo,bF,cI,cP,g8]
  rw[Qeq l]
  show q
def yJ{w:cu}{s s':aO}{h:Nat}{vs:List Int}{fs:List cg}{f:cg}{pr:List Rw}(i:s.af[h]?=some (vs,fs))(e:fs.getLast? =some f)(g:Here s h f)(b:progOf w h f=some pr)(a:f.row=pr.length)
  (he:∀(S:aE) (Q:Res->aE->Prop),Q (.d s'.d) S->Fn jO [w.d,s.d,.int h] S Q):eI w s h s' none:=by
 intro S Q q
 show bR ?_
 unfold kY
 symm
 apply bV i e ?_
 show aA (d:=.int f.room) L ?_
 show aG (dB (vq (d:=none) g ?_))
 apply bc (λc=>by cases c) (λ_=>cx ?_)
 apply gx b ?_
 apply aA (d:=.int f.row) L ?_
 show gV ?_
 dsimp only[bI,bo,bF,cI,cP,g8]
 rw[lQm,Qeq a,Qhq L]
 symm
 apply he _ _ ?_
 show#[by show 2<=_;decide,?_]
 show cC (d:=El _ h none) (λk z=>(nomatch z)) (mh _ _ _) q
def LN(w:cu)(s:aO)(h:Nat)(r:Rw)(e:Xb):Prop:=match r with
 |.say t=>∃v,e=some v/\Av w s h t v
 |_=>e=none
def GR{w:cu}{s s':aO}{h:Nat}{vs:List Int}{fs:List cg}{f:cg}{pr:List Rw}{r:Rw}{e:Xb}(m:s.af[h]?=some (vs,fs))(j:fs.getLast? =some f)(B:Here s h f)(A:progOf w h f=some pr)(y:0<=f.row)(b:pr[f.row.toNat]?=some r)(x:fs.length<=900)(C:s.af.length<=900)
  (a:LN w s h r e) (n:LD w {s with af:=s.af.set h (vs,fs.dropLast++ [{f with row:=f.row+1}])} h r s'):eI w s h s' e:=by
 intro S Q q
 let u:=(gQs.mp b).1
 show bR ?_
 unfold kY
 symm
 apply bV m j ?_
 show aA (d:=.int f.room) L ?_
 show aG (dB (vq (d:=none) B ?_))
 apply bc (λc=>by cases c) (λ_=>cx ?_)
 apply gx A ?_
 apply aA (d:=.int f.row) L ?_
 show gV ?_
 dsimp only[bI,bo,bF,cI,cP,g8]
 rw[lQm,Qdq (show¬f.row=(pr.length:Int) by omega),Quq (!1)]
 apply cx ?_
 show aA (d:=.int f.row) L ?_
 show aA (d:=r.d) (mi y (by rw[gQm,b];rfl)) ?_
 symm
 let#[l,hl]:=r.d_kind
 have g:T (cB (aY (ar (az jL (ar (au 0) (ar (az j0 (ar (au 1) (ar (au 2) (ar (bp bW (bp kL (au 3) (cF (.int 2))) (cF (.int 1))) av)))) (ar (au 2) (ar (au 6) av))))) (ar (au 7) av))))
   [some w.d,some s.d,some (.int h),some f.d,some (.int f.room),some (.tup (pr.map Rw.d)),some r.d,some (He h e)] S (λo=>match o with
   |.nx _ i=>Op (settle S .non i) λp=>Q p.1 p.2|.rt d i=>Op (settle S d i) λp=>Q p.1 p.2|.rl l i=>Op (fQ S l i) λp=>Q p.1 p.2|_=>False):=by
  symm
  apply aA (d:=.int f.row) L ?_
  apply pU m j x C ?_
  apply yG n ?_
  show#[by show 2<=_;decide,?_]
  show cC (d:=El _ h e) (λk z=>(nomatch z)) (mh _ _ _) q
 cases r with
 | say t=>
   let#[v,rfl,hv]:=a
   apply aA (d:=.str "say") L ?_
   show iy ?_
   dsimp only[bI,bo,bF,cI,cP,g8]
   rw[Qeq L,Qhq L]
   symm
   apply aA (d:=t.d) L ?_
   apply hv _ _ ?_
   show#[by show 2<=_;decide,?_]
   show g
 | _=>
   have a:e=none:=a
   subst a
   apply aA L ?_
   show iy ?_
   dsimp only[bI,bo,bF,cI,cP,g8]
   show bc (λc=>absurd (QZq c) (by decide +kernel)) (λ_=>cx ?_)
   show g
end
end W28
namespace DL
open L2
section
variable{a:cv}{S:aE}
def F0{f:bj}{g:et}{Q:D->aE->Prop}(h:E f a S λx c=>∃k b,x=.ref k/\c[k]?=some (.lst b)/\E g a c λp S2=>∃ds,S2[k]?=some (.lst ds)/\(p.2.isL=false/\ds.length+p.1.length<=sizeLine)/\Q .non (S2.set k (.lst (ds++p.1)))):E (u_ f g) a S Q:=by
 let#[x,c,d,k,b,rfl,h1,p,S2,e2,ds,h2,h3,q]:=h
 show#[_,_,by unfold u_;rw[d];erw[Qbq,e2,h1,h2];rw[Qhq h3],q]
end
def Ak{S a:aE}{k:Nat}{ds:List D}{Q:Res×aE->Prop}(c:oN S a)(d:S.length<=k)(b:a[k]?=some (.lst ds))(hl:bC S.length ds=true)(q:Q (.l ds,a.take S.length)):Op (settle S (.ref k) a) Q:=by
 show#[_,?_,q]
 unfold settle
 rw[Qhq c]
 show(if k<S.length then _ else _)=_
 rw[Quq (!0),b]
 show(if bC S.length ds=true then _ else _)=_
 rw[Qhq hl]
def xq{n:Nat}(h:n<=1000000):n<=sizeLine:=QAq h (!1)
theorem gn:∀a:List Int,iG (a.map D.int)=some (a.map V.int)
 | []=>rfl
 |s::a=>by erw[QDq,iG,xn,Qbq];rw[gn a];rfl
def o7{x:Int}{b:List Int}:FI (.int x) (b.map V.int)=decide (x∈b):=by
 induction b with
 |nil=>rfl
 | cons a b d=>
   show(rF (.int a) (.int x)||FI (.int x) (b.map V.int))=_
   rw[d]
   erw[rF,Qsq]
   by_cases c:a=x
   · subst c;simp
   · have e:¬x=a:=λz=>c z.symm
     simp[c,e]
end DL
namespace W28
open L2 DL
section
variable{S:aE}{Q:Res->aE->Prop}
def yq{S a:aE}(x:mI S a):a.take S.length=S:=by
 apply List.ext_getElem?
 intro j
 by_cases b:j<S.length
 ·rw[List.getElem?_take_of_lt b]
  show x.eq j b
 ·rw[List.getElem?_eq_none (by rw[Qxq];omega),List.getElem?_eq_none (!0)]
def KR{S a:aE}{ds:List D}{Q:Res->aE->Prop}(x:mI S a)(hl:bC 0 ds=true)(q:Q (.l ds) S):Op (fQ S ds a) λp=>Q p.1 p.2:=
 n_ #[x.len,λk o b e=>.inl (by rw[<-x.eq k b];show e)] (yq x) (jK hl) q
def Gc{S a:aE}{k:Nat}{ds:List D}{Q:Res->aE->Prop}(x:mI S a)(b:S.length<=k)(c:a[k]?=some (.lst ds))(hl:bC 0 ds=true)(q:Q (.l ds) S):Op (settle S (.ref k) a) λp=>Q p.1 p.2:=
 Ak #[x.len,λk o b e=>.inl (by rw[<-x.eq k b];show e)] b c (jK hl) (by rw[yq x];show q)
def zg{l:List (Int×Int)}(hl:l.length<=1000)(q:Q (.l ((l.map (·.2)).map D.int)) S):Fn mC [eh l] S Q:=by
 show bR ?_
 unfold qt
 symm
 apply s_ (α:=Int×Int) (λc=>∃a b,c= [a,b]) pairD (λp=>.int p.2) #[none,none,L] ?_
 show d_ (ds:=l.map pairD) ?_
 show#[l,L,trivial,hl,λp f c d=>?_,?_]
 ·let#[a,b,rfl]:=d
  show dJ L (ay (aQ (ay (aQ (bg ?_)))))
  apply#[L,#[_,_,L],?_]
  show#[L,L]
 ·have e:l.map (λp=>D.int p.2)=(l.map (·.2)).map D.int:=by rw[QPq];rfl
  rw[e]
  show Fu (aZ λ_ _=>rfl) q
noncomputable def aL(r:cM):List Int:=r.row++r.ag++r.aa.flatMap λl=>l.map (·.2)
def held(s:aO):List Int:=s.ai.flatMap (·.2)++s.aj.flatMap aL
theorem kZ{α c:Type}{f:α->List c}{n:Nat}:∀{l:List α},(∀a∈l,(f a).length<=n)->(l.flatMap f).length<=n*l.length
 | [],_=>by simp
 | a::l,h=>by
   let g:=h a (QBq ..)
   let e:=kZ (f:=f) (l:=l) λb d=>h b (Qpq _ d)
   rw[QSq,lQa,Qnq,Nat.mul_add]
   omega
def jx{α b:Type}{f:α->List b}{l:List α}{n:Nat}{a:α}(h:l[n]?=some a):(l.take (n+1)).flatMap f=(l.take n).flatMap f++f a:=by
 rw[QYq,h]
 simp
def qj{s:aO}{n:Nat}(U:n<=800)(b1:s.ai.length<=100)(b2:s.aj.length<=20)(P:∀p∈s.ai,p.2.length<=n)(H:∀r∈s.aj,r.row.length<=n/\r.ag.length<=n/\r.aa.length<=10/\∀l∈r.aa,l.length<=n)
  (q:Q (.l ((held s).map D.int)) S):Fn eP [s.d] S Q:=by
 have Z:∀o:List D,mI S (S++ [.lst o]):=λo=>mI.refl.app
 have F:∀r∈s.aj,∀j:Nat,((r.aa.take j).flatMap λl=>l.map (·.2)).length<=8000:=λr F j=>by
  let#[_,_,R,M]:=H r F
  let B:=kZ (f:=λl:List (Int×Int)=>l.map (·.2)) (n:=n) (l:=r.aa.take j) λl hl=>by rw[lQm];show M l (List.mem_of_mem_take hl)
  have G:(r.aa.take j).length<=10:=by rw[Qxq];omega
  have Y:n*(r.aa.take j).length<=800*10:=Nat.mul_le_mul U G
  omega
 have K:∀r∈s.aj,(aL r).length<=9600:=λr h=>by
  let I:=F r h r.aa.length
  let#[X,R,_]:=H r h
  rw[QEq] at I
  erw[aL,lQa]
  omega
 have w:∀j:Nat,((s.ai.take j).flatMap (·.2)).length<=80000:=λj=>by
  let B:=kZ (f:=λp:Int×List Int=>p.2) (n:=n) (l:=s.ai.take j) λl hl=>P l (List.mem_of_mem_take hl)
  have G:(s.ai.take j).length<=100:=by rw[Qxq];omega
  have Y:n*(s.ai.take j).length<=800*100:=Nat.mul_le_mul U G
  omega
 have J:∀j:Nat,((s.aj.take j).flatMap aL).length<=192000:=λj=>by
  let B:=kZ (f:=aL) (n:=9600) (l:=s.aj.take j) λl hl=>K l (List.mem_of_mem_take hl)
  have G:(s.aj.take j).length<=20:=by rw[Qxq];omega
  omega
 show bR ?_
 unfold ij
 symm
 show#[by decide,?_]
 apply aG (gU (nI ?_))
 show aA L ?_
 show d_ (ds:=s.ai.map Ad) ?_
 show#[λj k u=>(∃a b c d e f g,k= [some s.d,some (.ref S.length),a,b,c,d,e,f,g])/\u=S++ [.lst (((s.ai.take j).flatMap (·.2)).map D.int)],#[#[_,_,_,_,_,_,_,L],L],λ_ _ _ _=>trivial,?_,?_]
 ·rintro j d k u t ⟨⟨a,b,c,C,e,f,g,rfl⟩,rfl⟩
  have t:(s.ai.map Ad)[j]?=some d:=t
  rw[gQm] at t
  let#[p,N,rfl]:=oQm.mp t
  show dJ L (ay (aQ (ay (aQ (bg ?_)))))
  apply mK (F0 ?_)
  apply#[_,_,L,aW,?_]
  show d_ (ds:=p.2.map D.int) ?_
  show#[_,aW,#[L,?_],#[_,_,_,_,_,_,_,L],?_]
  ·have:=w j
   have:=P p (mQg N)
   erw[lQm]
   show xq (!0)
  ·rw[jx N,Qzq]
   simp
 rintro k u ⟨⟨a,b,c,C,e,f,g,rfl⟩,rfl⟩
 have hl:(s.ai.map Ad).length=s.ai.length:=lQm ..
 rw[hl,QEq]
 apply aG (gU (nI ?_))
 show aA L ?_
 show d_ (ds:=s.aj.map cM.d) ?_
 show#[λj k u=>(∃a b c d e f g,k= [some s.d,some (.ref S.length),a,b,c,d,e,f,g])/\u=S++ [.lst ((s.ai.flatMap (·.2)++(s.aj.take j).flatMap aL).map D.int)],#[#[_,_,_,_,_,_,_,L],by simp],λ_ _ _ _=>trivial,?_,?_]
 ·rintro j d k u t ⟨⟨a,b,c,C,e,f,g,rfl⟩,rfl⟩
  have t:(s.aj.map cM.d)[j]?=some d:=t
  rw[gQm] at t
  let#[r,x,rfl]:=oQm.mp t
  let v:=mQg x
  let#[X,R,M,B]:=H r v
  have y:(s.ai.flatMap (·.2)++(s.aj.take j).flatMap aL).length<=272000:=by
   have:=w s.ai.length
   rw[QEq] at this
   have:=J j
   rw[lQa]
   omega
  generalize z:s.ai.flatMap (·.2)++(s.aj.take j).flatMap aL=o at y|-
  show dJ L (ay (aQ (ay (aQ (ay (aQ (ay (aQ (ay (aQ (bg ?_)))))))))))
  apply aG (mK (F0 ?_))
  apply#[_,_,L,aW,?_]
  show dQ (i:=r.row.map D.int) (j:=r.ag.map D.int) (by erw[lQm];show xq (!0)) ?_
  show d_ ?_
  show#[_,aW,#[L,?_],?_]
  ·erw[lQa,lQm]
   show xq (!0)
  dsimp only[bI,bo,bF,cI,cP,g8]
  have e1:(S++ [O.lst (o.map D.int)]).set S.length (.lst (o.map D.int++(r.row.map D.int++r.ag.map D.int)))=S++ [.lst ((o++(r.row++r.ag)).map D.int)]:=by simp
  rw[e1]
  apply gU (nI ?_)
  show#[λj k u=>(∃a b c d e f g,k= [some s.d,some (.ref S.length),a,b,c,d,e,f,g])/\u=S++ [.lst ((o++(r.row++r.ag)++(r.aa.take j).flatMap λl=>l.map (·.2)).map D.int)],#[#[_,_,_,_,_,_,_,L],by simp],λ_ _ _ _=>trivial,?_,?_]
  ·rintro m d k u t ⟨⟨a,b,c,C,e,f,g,rfl⟩,rfl⟩
   have t:(r.aa.map eh)[m]?=some d:=t
   rw[gQm] at t
   let#[l,A,rfl]:=oQm.mp t
   let W:=B l (mQg A)
   show aQ ?_
   apply mK (Ez ?_)
   apply#[_,_,L,aW,?_]
   apply zg (!0) ?_
   show#[_,aW,#[L,?_],#[_,_,_,_,_,_,_,L],?_]
   ·have:=F r v m
    erw[lQa,lQm]
    show xq (!0)
   ·rw[jx A,<-Qvq,Qzq]
    simp
  ·rintro k u ⟨I,rfl⟩
   show#[I,?_]
   have hl:(r.aa.map eh).length=r.aa.length:=lQm ..
   rw[hl,QEq,jx x]
   subst z
   erw[aL,Qvq]
 ·rintro k u ⟨⟨a,b,c,C,e,f,g,rfl⟩,rfl⟩
  have hl:(s.aj.map cM.d).length=s.aj.length:=lQm ..
  rw[hl,QEq]
  symm
  show Gc (Z _) (Qmq _) aW (aZ λ_ _=>rfl) q
end
end W28
namespace DL
open L2
def tx{b:cv}{S:aE}{f g:bj}{Q:D->aE->Prop}(h:E f b S λd a=>∃k,d=.bl k/\if k=true then E g b a Q else Q (.bl false) a):E (vQ f g) b S Q:=by
 let#[d,a,c,k,rfl,q]:=h
 cases k with
 |true=>let#[j,e,i,q]:=(q:E g b a Q);show#[j,e,by unfold vQ;rw[c];show i,q]
 |false=>show#[_,a,by unfold vQ;rw[c];rfl,q]
end DL
namespace W28
open L2 DL
section
variable{S:aE}{Q:Res->aE->Prop}
noncomputable def E_(s:aO)(h:Nat):Option cg:=(s.af[h]?).bind λp=>p.2.getLast?
def yb(w:cu)(s:aO)(h:Nat):Bool:=match E_ s h with
 |some f=>decide (f.room= -1)&&decide (f.row=(((progOf w h f).getD []).length:Int))
 |none=>false
def pP{w:cu}{s:aO}{h:Nat}{vs:List Int}{fs:List cg}{f:cg}{pr:List Rw}(e:s.af[h]?=some (vs,fs))(b:fs.getLast? =some f)(a:progOf w h f=some pr)(q:Q (.d (.bl (yb w s h))) S):Fn fN [w.d,s.d,.int h] S Q:=by
 have g:yb w s h=(decide (f.room= -1)&&decide (f.row=(pr.length:Int))):=by
  unfold yb E_
  rw[e]
  show(match fs.getLast? with|some f=>_|none=>_)=_
  rw[b]
  erw[a,Option.getD_some]
 rw[g] at q
 show bR ?_
 unfold ik
 symm
 apply bV e b ?_
 apply tx ?_
 apply aA (d:=.int f.room) L ?_
 show gV ?_
 show#[_,L,?_]
 by_cases c:f.room= -1
 ·rw[Qeq c] at q|-
  rw[Qhq L]
  symm
  apply aA (d:=.int f.row) L ?_
  apply gx a ?_
  show gV ?_
  rw[lQm]
  show cC (λk z=>(nomatch z)) L q
 ·rw[Qdq c] at q|-
  rw[Quq (!1)]
  show cC (λk z=>(nomatch z)) L q
def eg(w:cu)(s:aO):List Nat:=(List.range s.af.length).filter λh=> !decide ((h:Int)∈held s)&& !yb w s h
noncomputable def lY(h:Nat):D:=.int h
def DS(w:cu)(s:aO):Prop:=∀(S:aE) (Q:Res->aE->Prop),Q (.l ((eg w s).map lY)) S->Fn fH [w.d,s.d] S Q
def yA{w:cu}{s:aO}(m:∀(S:aE) (Q:Res->aE->Prop),Q (.l ((held s).map D.int)) S->Fn eP [s.d] S Q)(k:∀h<s.af.length,∃vs fs f pr,s.af[h]?=some (vs,fs)/\fs.getLast? =some f/\progOf w h f=some pr)(p:s.af.length<=100):DS w s:=by
 intro S Q q
 show bR ?_
 unfold pZ
 symm
 apply m _ _ ?_
 apply se (α:=Nat) (λb=>∃a,b= [a,some w.d,some s.d,some (.ref S.length)]) (λ(i:Nat)=>D.int (0+(i:Int))) lY (λh=> !decide ((h:Int)∈held s)&& !yb w s h) #[none,L] ?_
 apply aA L ?_
 show#[_,L,?_,?_]
 ·erw[lQm]
  omega
 show#[List.range s.af.length,?_,trivial,by simp;omega,λh o b e=>?_,?_]
 ·erw[jt,lQm]
  rfl
 ·let#[a,rfl]:=e
  let#[vs,fs,f,pr,j,g,n]:=k h (List.mem_range.mp o)
  show aQ #[L,#[_,L],?_]
  rw[Int.zero_add]
  apply qv (bJ (Ee ?_))
  show bN (ds:=(held s).map D.int) aW ?_
  show#[_,_,L,gn _,?_]
  rw[o7]
  by_cases c:(h:Int)∈held s
  ·rw[Qeq c]
   show bc (λc=>by cases c) (λ_=>?_)
   show#[L,L,λc=>by cases c]
  ·rw[Qdq c]
   apply bc (λ_=>?_) (λc=>by cases c)
   show pP j g n ?_
   dsimp only[bI,bo,bF,cI,cP,g8]
   show Aq ?_
   apply#[L,L,λ_=>?_]
   show#[L,L]
 ·show KR (mI.refl.app) (aZ λ_ _=>rfl) q
def nO{w:cu}{s s':aO}{h:Nat}{e:Xb}(b:DS w s)(g:h∈eg w s)(a:eI w s h s' e)(q:Q (.d (El s' h e)) S):Fn k8 [w.d,s.d,.int h] S Q:=by
 show bR ?_
 unfold t7
 apply aG (dB (bJ (Ee ?_)))
 show b _ _ ?_
 dsimp only[bI,bo,bF,cI,cP,g8]
 have f:(eg w s).map lY=((eg w s).map λh:Nat=>(h:Int)).map D.int:=by rw[QPq];rfl
 show#[_,_,L,by rw[f];show gn _,?_]
 rw[o7,Qeq (Qkq.mpr #[h,g,L])]
 apply bc (λc=>by cases c) (λ_=>cx ?_)
 show a _ _ ?_
 show cC (λk z=>(nomatch z)) (mh _ _ _) q
end
structure j_(n:Nat)(r:Rm)(rs:cM):Prop where
 lv:r.ao.length=rs.vals.length
 lb:r.aa.length=rs.aa.length
 vv:∀v∈rs.vals,0<=v/\v<=9
 br:rs.row.length<=n
 bl:rs.ag.length<=n
 bb:∀l∈rs.aa,l.length<=n
structure FX(w:cu)(h:Nat)(f:cg):Prop where
 pr:∃pr,progOf w h f=some pr/\0<=f.row/\f.row<=pr.length
 gv:0<=f.given/\f.given<=9
 tv:0<=f.told/\f.told<=9
def Pd(w:cu)(h:Nat)(f:cg):Prop:=∃a g rn b t,progOf w h f=some a/\1<=f.row/\a[(f.row-1).toNat]?=some (.do_ g rn b t)
def i3:List cg->Prop
 | []=>False
 |f0::tl=>f0.room= -1/\∀f∈tl,f.room≠-1
structure jN(w:cu)(n h:Nat)(ts:List (Str×Nat))(vs:List Int)(fs:List cg):Prop where
 lv:ts.length=vs.length
 vv:∀v∈vs,0<=v/\v<=9
 lf:fs.length<=n
 fr:∀f∈fs,FX w h f
 hd:i3 fs
 ch:∀f∈fs.dropLast,Pd w h f
structure di(w:cu)(n:Nat)(s:aO):Prop where
 lr:w.aj.length=s.aj.length
 rm:∀(i:Nat) (r:Rm) (rs:cM),w.aj[i]?=some r->s.aj[i]?=some rs->j_ n r rs
 lp:w.ai.length=s.ai.length
 ps:∀p∈s.ai,p.2.length<=n
 ls:w.ak.length=s.ak.length
 sv:∀v∈s.ak,0<=v/\v<=9
 lh:w.af.length=s.af.length
 hd:∀(h:Nat) (ts:List (Str×Nat)) (pr:List Rw) (vs:List Int) (fs:List cg),w.af[h]?=some (ts,pr)->s.af[h]?=some (vs,fs)->jN w n h ts vs fs
def j_.mono{n m:Nat}{r:Rm}{rs:cM}(h:j_ n r rs)(l:n<=m):j_ m r rs:=#[h.lv,h.lb,h.vv,QAq h.br l,QAq h.bl l,λx a=>QAq (h.bb x a) l]
def jN.mono{w:cu}{n m h:Nat}{ts:List (Str×Nat)}{vs:List Int}{fs:List cg}(x:jN w n h ts vs fs)(l:n<=m):jN w m h ts vs fs:=#[x.lv,x.vv,QAq x.lf l,x.fr,x.hd,x.ch]
def di.mono{w:cu}{n m:Nat}{s:aO}(x:di w n s)(l:n<=m):di w m s:=#[x.lr,λi r c b a=>(x.rm i r c b a).mono l,x.lp,λp d=>QAq (x.ps p d) l,x.ls,x.sv,x.lh,λh f j e g b a=>(x.hd h f j e g b a).mono l]
def get_set{α:Type}{l:List α}{i j:Nat}{a b:α}(h:(l.set i a)[j]?=some b):(j=i/\b=a)\/(j≠i/\l[j]?=some b):=by
 rw[List.getElem?_set] at h
 split at h
 ·rename_i c
  split at h
  ·cases h;show .inl #[c.symm,L]
  ·cases h
 ·rename_i c
  show .inr #[λz=>c z.symm,h]
def di.room{w:cu}{n i:Nat}{s:aO}{r:Rm}{nr:cM}(x:di w n s)(e:w.aj[i]?=some r)(f:j_ n r nr):di w n {s with aj:=s.aj.set i nr} where
 lr:=by simpa using x.lr
 rm:=λj d c b a=>by
  rcases get_set a with⟨rfl,rfl⟩|⟨_,a⟩
  ·rw[e] at b;cases b;show f
  ·show x.rm j d c b a
 lp:=x.lp
 ps:=x.ps
 ls:=x.ls
 sv:=x.sv
 lh:=x.lh
 hd:=x.hd
def di.pass{w:cu}{n i:Nat}{s:aO}{p:Int×List Int}(x:di w n s)(b:p.2.length<=n):di w n {s with ai:=s.ai.set i p} where
 lr:=x.lr
 rm:=x.rm
 lp:=by simpa using x.lp
 ps:=λq a=>by
  rcases QTq a with a|rfl
  ·show x.ps q a
  ·show b
 ls:=x.ls
 sv:=x.sv
 lh:=x.lh
 hd:=x.hd
def di.share{w:cu}{n:Nat}{s:aO}{vs:List Int}(x:di w n s)(hl:vs.length=s.ak.length)(a:∀v∈vs,0<=v/\v<=9):di w n {s with ak:=vs}:=#[x.lr,x.rm,x.lp,x.ps,by rw[x.ls,<-hl],a,x.lh,x.hd]
def di.hand{w:cu}{n h:Nat}{s:aO}{ts:List (Str×Nat)}{pr:List Rw}{vs:List Int}{fs:List cg}(x:di w n s)(i:w.af[h]?=some (ts,pr))(k:jN w n h ts vs fs):di w n {s with af:=s.af.set h (vs,fs)} where
 lr:=x.lr
 rm:=x.rm
 lp:=x.lp
 ps:=x.ps
 ls:=x.ls
 sv:=x.sv
 lh:=by simpa using x.lh
 hd:=λj g a c d f b=>by
  rcases get_set b with⟨rfl,e⟩|⟨_,b⟩
  ·rw[i] at f;cases f;cases e;show k
  ·show x.hd j g a c d f b
def iA{α:Type}{l:List α}{a:α}(h:l.getLast? =some a):l=l.dropLast++ [a]:=by
 cases l with
 |nil=>cases h
 | cons x y=>
   have b:x::y≠[]:=by simp
   rw[List.getLast?_eq_some_getLast b] at h
   cases h
   show(List.dropLast_concat_getLast b).symm
def i3.last{fs:List cg}{f f':cg}:∀{b:List cg},i3 (b++ [f])->f'.room=f.room->i3 (b++ [f'])
 | [],h,e=>#[by rw[e];show h.1,λ_ z=>by cases z]
 | a::l,h,e=>⟨h.1,λx c=>by
   rcases mQa.mp c with c|c
   · show h.2 x (mQa.mpr (.inl c))
   · rw[Qfq.mp c,e];show h.2 f (mQa.mpr (.inr (Qfq.mpr L)))⟩
def i3.push{f':cg}:∀{fs:List cg},i3 fs->f'.room≠-1->i3 (fs++ [f'])
 | [],h,_=>h.elim
 | a::l,h,e=>⟨h.1,λx b=>by
   rcases mQa.mp b with b|b
   · show h.2 x b
   · rw[Qfq.mp b];show e⟩
def i3.pop{c f:cg}:∀{gs:List cg},i3 (gs++ [c,f])->i3 (gs++ [c])
 | [],h=>#[h.1,λ_ z=>by cases z]
 | a::l,h=>⟨h.1,λx b=>h.2 x (by
   rcases mQa.mp b with b|b
   · show mQa.mpr (.inl b)
   · show mQa.mpr (.inr (by rw[Qfq.mp b];simp)))⟩
def i3.two{f:cg}:∀{b:List cg},i3 (b++ [f])->f.room≠-1->∃gs c,b=gs++ [c]
 | [],h,e=>absurd h.1 e
 |a::l,h,e=>#[(a::l).dropLast,(a::l).getLast (by simp),(List.dropLast_concat_getLast (by simp)).symm]
section
variable{w:cu}{n h:Nat}{ts:List (Str×Nat)}{vs:List Int}{fs:List cg}{f f' b:cg}
def jN.setLast(x:jN w n h ts vs fs)(j:fs.getLast? =some f)(e:f'.room=f.room)(i:FX w h f'):jN w n h ts vs (fs.dropLast++ [f']):=by
 let d:=iA j
 let c:=x.hd
 rw[d] at c
 show#[x.lv,x.vv,?_,λg a=>?_,i3.last (fs:=fs) c e,λg a=>?_]
 ·have:=congrArg List.length d
  have:=x.lf
  erw[lQa,Qnq,QGq] at *
  omega
 ·rcases mQa.mp a with a|a
  ·show x.fr g (List.dropLast_subset _ a)
  ·rw[Qfq.mp a];show i
 ·rw[List.dropLast_concat] at a
  show x.ch g a
def jN.push(x:jN w n h ts vs fs)(c:fs.getLast? =some f)(d:Pd w h f)(e:f'.room≠-1)(i:FX w h f'):jN w (n+1) h ts vs (fs++ [f']):=by
 show#[x.lv,x.vv,?_,λg a=>?_,x.hd.push e,λg a=>?_]
 ·have:=x.lf
  erw[lQa,Qnq,QGq]
  omega
 ·rcases mQa.mp a with a|a
  ·show x.fr g a
  ·rw[Qfq.mp a];show i
 ·rw[List.dropLast_concat,iA c] at a
  rcases mQa.mp a with a|a
  ·show x.ch g a
  ·rw[Qfq.mp a];show d
def jN.pop{gs:List cg}(x:jN w n h ts vs (gs++ [b,f])):jN w n h ts vs (gs++ [b])/\Pd w h b:=by
 have e:(gs++ [b,f]).dropLast=gs++ [b]:=by rw[show gs++ [b,f]=(gs++ [b])++ [f] by simp,List.dropLast_concat]
 let c:=x.ch
 rw[e] at c
 show#[#[x.lv,x.vv,?_,λg a=>x.fr g ?_,x.hd.pop,λg a=>c g ?_],c b (by simp)]
 ·have:=x.lf
  erw[lQa,Qnq,QGq] at *
  omega
 ·rcases mQa.mp a with a|a
  ·show mQa.mpr (.inl a)
  ·show mQa.mpr (.inr (by rw[Qfq.mp a];simp))
 ·rw[List.dropLast_concat] at a
  show mQa.mpr (.inl a)
def jN.vals{a:List Int}(x:jN w n h ts vs fs)(hl:a.length=vs.length)(c:∀v∈a,0<=v/\v<=9):jN w n h ts a fs:=#[by rw[x.lv,hl],c,x.lf,x.fr,x.hd,x.ch]
def jN.last(x:jN w n h ts vs fs):∃f,fs.getLast? =some f/\FX w h f:=by
 have:=x.hd
 cases fs with
 |nil=>show this.elim
 | cons a l=>
   show#[_,List.getLast?_eq_some_getLast (by simp),x.fr _ (List.getLast_mem (by simp))]
end
def nT{w:cu}{h:Nat}{f:cg}{pr:List Rw}(a:progOf w h f=some pr):(f.room= -1/\∃ts,w.af[h]?=some (ts,pr))\/∃(i j:Nat) (r:Rm) (b:Str),f.room=i/\f.deed=j/\w.aj[i]?=some r/\r.ae[j]?=some (b,pr):=by
 unfold progOf at a
 split at a
 ·rename_i c
  let#[#[ts,g],e,d]:=oQm.mp a
  cases d
  show .inl #[c,ts,e]
 ·split at a
  ·rename_i c
   let#[r,e,d]:=aq a
   let#[#[b,g],l,k]:=oQm.mp d
   cases k
   show .inr #[f.room.toNat,f.deed.toNat,r,b,by omega,by omega,e,l]
  ·cases a
def C1{w:cu}{h i j:Nat}{f:cg}{r:Rm}{a:Str}{pr:List Rw}(d:f.room=i)(b:f.deed=j)(e:w.aj[i]?=some r)(c:r.ae[j]?=some (a,pr)):progOf w h f=some pr:=by
 unfold progOf
 rw[Quq (!0),Qhq #[by omega,by omega],d,b]
 show(w.aj[i]?).bind _=_
 rw[e]
 show(r.ae[j]?).map _=_
 rw[c]
 rfl
def D3(w:cu)(h:Nat)(f:cg):Option Sc:=if f.room= -1 then(w.af[h]?).map λp=>#[true,p.1.map (·.1)++w.ak.map (·.1),p.1.map (·.1)++w.ak.map (·.1),[],bP w.aj,w.ai.map (·.1)]
 else(w.aj[f.room.toNat]?).map λr=>#[false,r.ao.map (·.1)++cX,r.ao.map (·.1),r.aa.map (·.1),bP w.aj,[]]
def F8{w:cu}{h:Nat}{f:cg}{pr:List Rw}(o:dz w)(e:progOf w h f=some pr):∃b,D3 w h f=some b/\yC b pr:=by
 unfold D3
 rcases nT e with⟨c,l,a⟩|⟨i,j,r,k,a,m,d,g⟩
 ·rw[Qhq c,a]
  show#[_,L,(o.hd _ (mQg a)).pr]
 ·rw[Quq (!0),a]
  show#[_,by rw[show((i:Int)).toNat=i by omega,d];rfl,((o.rm _ (mQg d)).pr _ (mQg g)).1]
def Eg{w:cu}(o:dz w):di w 1 (bf w) where
 lr:=by simp[bf]
 rm:=λi r m c d=>by
  erw[bf,gQm,c,Option.map_some,Option.some.injEq] at d
  subst d
  let g:=o.rm r (mQg c)
  show#[by simp[c9,fw],by simp[c9],λv b=>?_,by simp[c9],by simp[c9],λl hl=>?_]
  ·erw[c9,fw,Qkq] at b
   let#[p,a,rfl]:=b
   have:=g.tv p a
   omega
  ·erw[c9,Qkq] at hl
   let#[p,a,rfl]:=hl
   simp
 lp:=by simp[bf]
 ps:=λp a=>by
  erw[bf,Qkq] at a
  let#[p,a,rfl]:=a
  simp
 ls:=by simp[bf,fw]
 sv:=λv b=>by
  erw[bf,fw,Qkq] at b
  let#[p,a,rfl]:=b
  have:=o.sv p a
  omega
 lh:=by simp[bf]
 hd:=λh q j k n c d=>by
  erw[bf,gQm,c,Option.map_some,Option.some.injEq] at d
  cases d
  let g:=o.hd _ (mQg c)
  show#[by simp[fw],λv b=>?_,by simp,λf e=>?_,#[L,λ_ z=>by cases z],λf e=>by cases e]
  ·erw[fw,Qkq] at b
   let#[p,a,rfl]:=b
   have:=g.tv p a
   omega
  ·rw[Qfq.mp e]
   show#[#[j,?_,by decide,?_],by decide,by decide]
   ·unfold progOf
    rw[Qhq (show GB.room= -1 from L),c]
    rfl
   ·show(0:Int)<=_
    omega
section
variable{w:cu}{n h:Nat}{s:aO}{vs:List Int}{fs:List cg}{f:cg}{d:Sc}
def di.whand(x:di w n s)(a:s.af[h]?=some (vs,fs)):∃ts pr,w.af[h]?=some (ts,pr)/\jN w n h ts vs fs:=by
 have hl:h<w.af.length:=by rw[x.lh];show(gQs.mp a).1
 show#[_,_,gQe hl,x.hd h _ _ vs fs (gQe hl) a]
def di.wroom{i:Nat}{r:Rm}(x:di w n s)(a:w.aj[i]?=some r):∃rs,s.aj[i]?=some rs/\j_ n r rs:=by
 have hl:i<s.aj.length:=by rw[<-x.lr];show(gQs.mp a).1
 show#[_,gQe hl,x.rm i r _ a (gQe hl)]
def lT{t:Sc}(a:D3 w h f=some t):(f.room= -1/\∃ts pr,w.af[h]?=some (ts,pr)/\t=#[true,ts.map (·.1)++w.ak.map (·.1),ts.map (·.1)++w.ak.map (·.1),[],bP w.aj,w.ai.map (·.1)])∨
  (f.room≠-1/\∃r,w.aj[f.room.toNat]?=some r/\t=#[false,r.ao.map (·.1)++cX,r.ao.map (·.1),r.aa.map (·.1),bP w.aj,[]]):=by
 unfold D3 at a
 split at a
 ·rename_i c
  let#[#[ts,pr],e,b]:=oQm.mp a
  show .inl #[c,ts,pr,e,b.symm]
 ·rename_i c
  let#[r,e,b]:=oQm.mp a
  show .inr #[c,r,e,b.symm]
def mF(x:FX w h f)(c:f.room≠-1):f.room=(f.room.toNat:Int):=by
 let#[g,a,_]:=x.pr
 rcases nT a with⟨b,_⟩|⟨i,_,_,_,e,_⟩
 ·show absurd b c
 ·omega
def mj{t:Tr}(o:dz w)(x:di w n s)(A:s.af[h]?=some (vs,fs))(u:fs.getLast? =some f)(C:D3 w h f=some d)(e:HV d t):∃v,(0<=v/\v<=9)/\Av w s h t v:=by
 let#[B,P,p,j]:=x.whand A
 let H:=o.hd _ (mQg p)
 let l:=j.fr f (QcQ u)
 let N:=o.l3
 let I:=H.l1
 let F:=x.ls
 rcases lT C with⟨c,G,J,g,rfl⟩|⟨c,r,hr,rfl⟩
 ·rw[p] at g
  cases g
  have b:kW (De w s B vs):=kW.merge (hX x.sv) (hX j.vv)
  show#[Ac (numAt (De w s B vs)) (λ_=>0) t,?_,λS Q q=>vZ p A u c F j.lv (!0) (by dsimp only at I;omega) x.sv j.vv e.1 (by have:=e.2;omega) q]
  show mD (ws:=B.map (·.1)++w.ak.map (·.1)) (bs:= []) (λy a=>?_) e.1
  show(oF b (gJ ?_)).2
  rcases mQa.mp a with a|a
  ·show .inr (ia j.lv a)
  ·show .inl (ia F a)
 ·let#[z,m,k]:=x.wroom hr
  let i:=o.rm r (mQg hr)
  let K:=i.l1
  let M:=i.l2
  have b:kW (vn r z f.given):=(hX k.vv).put l.gv.1 l.gv.2
  show#[Ac (numAt (vn r z f.given)) (zw r z) t,?_,λS Q q=>uI A u (mF l c) hr m k.lv k.lb (!0) (!0) k.vv l.gv e.1 (by have:=e.2;omega) q]
  show mD (ws:=r.ao.map (·.1)++cX) (bs:=r.aa.map (·.1)) (λy a=>?_) e.1
  show(oF b (mG ?_)).2
  rcases mQa.mp a with a|a
  ·show .inr (ia k.lv a)
  ·left
   rw[Qfq.mp a]
def ng{ns:X6}{y:Str}{v:Int}{a:List Int}(e:∀v∈a,0<=v/\v<=9)(c:0<=v/\v<=9):(e_ ns a y v).length=a.length/\∀u∈e_ ns a y v,0<=u/\u<=9:=by
 unfold e_
 show#[by simp,λz b=>?_]
 rcases QTq b with b|rfl
 ·show e z b
 ·show c
def di.goes{m:Int}{pr:List Rw}(x:di w n s)(l:s.af[h]?=some (vs,fs))(a:fs.getLast? =some f)(e:progOf w h f=some pr)(j:0<=m)(i:m<=pr.length):di w n {s with af:=s.af.set h (vs,fs.dropLast++ [{f with row:=m}])}:=by
 let#[o,k,g,c]:=x.whand l
 let b:=c.fr f (QcQ a)
 show x.hand g (c.setLast a L #[#[pr,e,j,i],b.gv,b.tv])
def di.tells{v:Int}(x:di w n s)(j:s.af[h]?=some (vs,fs))(a:fs.getLast? =some f)(g:0<=v/\v<=9):di w n {s with af:=s.af.set h (vs,fs.dropLast++ [{f with told:=v}])}:=by
 let#[k,i,e,b]:=x.whand j
 let c:=b.fr f (QcQ a)
 show x.hand e (b.setLast a L #[c.pr,c.gv,g])
def j_.come{r:Rm}{rs:cM}{k:Int}(x:j_ n r rs):j_ (n+1) r (gX rs k):=by
 unfold gX
 have:=x.br
 split
 ·show#[x.lv,x.lb,x.vv,by show rs.row.length<=_;omega,Nat.le_succ_of_le x.bl,λl hl=>Nat.le_succ_of_le (x.bb l hl)]
 ·show#[x.lv,x.lb,x.vv,by simp;omega,Nat.le_succ_of_le x.bl,λl hl=>Nat.le_succ_of_le (x.bb l hl)]
def j_.leave{r:Rm}{rs:cM}(x:j_ n r rs):j_ n r (b_ rs):=by
 let#[g,b,c,j,k]:=rs
 let i:=x.br
 let e:=x.bl
 unfold b_
 dsimp only at i e|-
 cases j with
 |cons a l=>show#[x.lv,x.lb,x.vv,x.br,by simp at e;show l.length<=n;omega,x.bb]
 | nil=>
   cases c with
   |cons a l=>show#[x.lv,x.lb,x.vv,by simp at i;show l.length<=n;omega,x.bl,x.bb]
   |nil=>show#[x.lv,x.lb,x.vv,x.br,x.bl,x.bb]
def j_.line{r:Rm}{rs:cM}{b:Nat}{l:List (Int×Int)}(x:j_ n r rs)(hl:l.length<=n):j_ n r {rs with aa:=rs.aa.set b l}:=⟨x.lv,by simp;show x.lb,x.vv,x.br,x.bl,λk a=>by
 rcases QTq a with a|rfl
 ·show x.bb k a
 ·show hl⟩
def j_.call{r:Rm}{rs:cM}{b:Nat}{k:Int}{fr:Bool}(x:j_ n r rs):j_ (n+1) r (tM fr rs b k):=by
 unfold tM
 split
 ·rename_i p l e
  let hl:=x.bb _ (mQg e)
  let y:=(x.mono (Nat.le_succ n)).line (b:=b) (l:=l) (by simp at hl;omega)
  let z:=x.bl
  split
  ·show y
  ·show#[y.lv,y.lb,y.vv,y.br,by simp;omega,y.bb]
 ·show x.mono (Nat.le_succ n)
def FL{l:List (Int×Int)}{a b:Int}:(ix l a b).length=l.length+1:=by
 unfold ix
 have:=List.length_filter_le (λp:Int×Int=>decide (p.1<=a)) l
 erw[lQa,Qxq,List.length_drop,Qnq,QGq]
 omega
def IW{rn b:Str}(o:dz w)(g:(rn,b)∈bP w.aj):rn∈w.aj.map (·.name)/\∃r,w.aj[gh (w.aj.map (·.name)) rn]?=some r/\b∈r.ae.map (·.1):=by
 unfold bP at g
 let#[r,c,k]:=QOq.mp g
 let#[p,l,e]:=Qkq.mp k
 cases e
 have a:r.name∈w.aj.map (·.name):=Qkq.mpr #[r,c,L]
 show#[a,r,?_,Qkq.mpr #[p,l,L]]
 let#[t,m]:=kq a
 let#[i,j,e]:=QbQ c
 have q:(w.aj.map (·.name))[i]?=some r.name:=by rw[gQm,gQe j,e];rfl
 rw[iD o.nd m q,gQe j,e]
end
section
variable{w:cu}{n h:Nat}{s:aO}{vs:List Int}{fs:List cg}{f:cg}{a:Sc}
def di.mays(o:dz w)(x:di w n s)(u:n<=800):DS w s:=by
 let y:=o.l1
 let B:=o.l2
 let C:=o.l4
 let H:=x.lr
 let z:=x.lp
 let F:=x.lh
 show yA (λS Q q=>qj u (!0) (!0) x.ps (λl d=>?_) q) (λh t=>?_) (!0)
 ·let#[i,j,e]:=QbQ d
  have b:s.aj[i]?=some l:=by rw[gQe j,e]
  have g:w.aj[i]?=some (w.aj[i]'(!0)):=gQe (!0)
  let c:=x.rm i _ l g b
  have:=(o.rm _ (mQg g)).l2
  have:=c.lb
  show⟨c.br,c.bl,by omega,c.bb⟩
 ·obtain⟨⟨vs,fs⟩,b⟩:∃p,s.af[h]?=some p:=#[_,gQe t]
  let#[G,A,g,j]:=x.whand b
  let#[f,m,v]:=j.last
  let#[k,r,_]:=v.pr
  show#[vs,fs,f,k,b,m,r]
end
theorem jJ{α b:Type}{f:α->List b}:∀{l:List α} {i:Nat} {a:α},l[i]?=some a->(l.flatMap f).Perm (f a++(l.eraseIdx i).flatMap f)
 | [],_,_,h=>by simp at h
 | x::l,0,a,h=>by
   simp at h
   subst h
   show List.Perm.refl _
 | x::l,i+1,a,h=>by
   let c:=jJ (f:=f) (l:=l) (i:=i) (by simpa using h)
   rw[QSq,List.eraseIdx_cons_succ,QSq]
   show(List.Perm.append_left (f x) c).trans (by
     rw[<-Qvq,<-Qvq]
     show QJq _ List.perm_append_comm)
theorem vM{α:Type}{b:α}:∀{l:List α} {i:Nat},(l.set i b).eraseIdx i=l.eraseIdx i
 | [],_=>rfl
 |_::_,0=>rfl
 | x::l,i+1=>by
   erw[List.set_cons_succ,List.eraseIdx_cons_succ]
   rw[vM]
def i7{α c:Type}{f:α->List c}{l:List α}{i:Nat}{a b:α}(h:l[i]?=some a):((l.set i b).flatMap f).Perm (f b++(l.eraseIdx i).flatMap f):=by
 have:=jJ (f:=f) (l:=l.set i b) (i:=i) (Qyq (gQs.mp h).1)
 rw[vM] at this
 show this
noncomputable def Mu(r:cM):List Int:=r.ag++r.aa.flatMap λl=>l.map (·.2)
def iS{r:cM}{y:Int}(h:y∈Mu r):y∈aL r:=by
 unfold aL
 rw[Qvq]
 show mQa.mpr (.inr h)
structure Q2(w:cu)(N:Nat)(ps:List (Int×List Int))(rs:List cM)(fr:Nat->List Int):Prop where
 fo:∀g,g<N->(fr g).head? =some (-1)
 nd:(ps.flatMap (·.2)++rs.flatMap aL).Nodup
 hv:∀x∈ps.flatMap (·.2)++rs.flatMap aL,∃g:Nat,x=g/\g<N
 pv:∀p∈ps,(0<=p.1/\p.1<=9)/\(p.1=0\/p.2= [])
 pl:∀p∈ps,∀g:Nat,(g:Int)∈p.2->fr g= [-1]
 rl:∀(i:Nat) (r:cM),rs[i]?=some r->∀g:Nat,(g:Int)∈aL r->(fr g).getLast? =some (i:Int)
 r1:∀(i:Nat) (r:cM),rs[i]?=some r->r.within= -1->r.row= []/\r.ag= []
 r2:∀(i:Nat) (r:cM),rs[i]?=some r->r.within= -1\/∃g:Nat,r.within=g/\g<N/\(i:Int)∈fr g
 r3:∀(i:Nat) (r:cM) (rm:Rm),rs[i]?=some r->w.aj[i]?=some rm->rm.ah="when free" ->r.ag= []
 r4:∀(i:Nat) (r:cM) (rm:Rm),rs[i]?=some r->w.aj[i]?=some rm->∀(b:Nat) (l:List (Int×Int)) (nm so:Str),r.aa[b]?=some l->rm.aa[b]?=some (nm,so)->(l.map (·.1)).Pairwise (·<=·)/\(so="row" ->∀p∈l,p.1=0)
 r5:∀(i:Nat) (r:cM),rs[i]?=some r->∀y∈Mu r,r.within≠y
def hl(ps:List (Int×List Int))(rs:List cM):List Int:=ps.flatMap (·.2)++rs.flatMap aL
section
variable{w:cu}{N:Nat}{ps:List (Int×List Int)}{rs:List cM}{fr a:Nat->List Int}{h:Nat}
def rY{i:Nat}{r nr:cM}(c:rs[i]?=some r):∃b,(hl ps rs).Perm (aL r++b)/\(hl ps (rs.set i nr)).Perm (aL nr++b):=by
 show#[ps.flatMap (·.2)++(rs.eraseIdx i).flatMap aL,?_,?_]
 ·show(List.Perm.append_left _ (jJ c)).trans (by rw[<-Qvq,<-Qvq];show QJq _ List.perm_append_comm)
 ·show(List.Perm.append_left _ (i7 c)).trans (by rw[<-Qvq,<-Qvq];show QJq _ List.perm_append_comm)
def wZ{i:Nat}{p np:Int×List Int}(c:ps[i]?=some p):∃b,(hl ps rs).Perm (p.2++b)/\(hl (ps.set i np) rs).Perm (np.2++b):=by
 show#[(ps.eraseIdx i).flatMap (·.2)++rs.flatMap aL,?_,?_]
 ·rw[<-Qvq];show QJq _ (jJ (f:=λp:Int×List Int=>p.2) c)
 ·rw[<-Qvq];show QJq _ (i7 (f:=λp:Int×List Int=>p.2) c)
structure R2(w:cu)(N i:Nat)(fr:Nat->List Int)(r:cM):Prop where
 rl:∀g:Nat,(g:Int)∈aL r->(fr g).getLast? =some (i:Int)
 r1:r.within= -1->r.row= []/\r.ag= []
 r2:r.within= -1\/∃g:Nat,r.within=g/\g<N/\(i:Int)∈fr g
 r3:∀rm:Rm,w.aj[i]?=some rm->rm.ah="when free" ->r.ag= []
 r4:∀rm:Rm,w.aj[i]?=some rm->∀(b:Nat) (l:List (Int×Int)) (nm so:Str),r.aa[b]?=some l->rm.aa[b]?=some (nm,so)->(l.map (·.1)).Pairwise (·<=·)/\(so="row" ->∀p∈l,p.1=0)
 r5:∀y∈Mu r,r.within≠y
def Q2.at(x:Q2 w N ps rs fr){i:Nat}{r:cM}(b:rs[i]?=some r):R2 w N i fr r:=#[x.rl i r b,x.r1 i r b,x.r2 i r b,λc=>x.r3 i r c b,λc=>x.r4 i r c b,x.r5 i r b]
def Q2.room(x:Q2 w N ps rs fr){i:Nat}{r nr:cM}(p:rs[i]?=some r)(f:R2 w N i fr nr)(m:∀b:List Int,(aL r++b).Nodup->(h:Int)∉aL r++b->(aL nr++b).Nodup)(k:∀y∈aL nr,y∈aL r\/y=(h:Int))(q:h<N)(o:(h:Int)∉hl ps rs):Q2 w N ps (rs.set i nr) fr:=by
 let#[b,l,n]:=rY (ps:=ps) (nr:=nr) p
 show#[x.fo,n.nodup_iff.mpr (m b (l.nodup_iff.mp x.nd) λz=>o (l.mem_iff.mpr z)),λy e=>?_,x.pv,x.pl,λj d c=>?_,λj d c=>?_,λj d c=>?_,λj d g c=>?_,λj d g c=>?_,λj d c=>?_]
 ·rcases mQa.mp (n.mem_iff.mp e) with e|e
  ·rcases k y e with e|rfl
   ·show x.hv y (l.mem_iff.mpr (mQa.mpr (.inl e)))
   ·show#[h,L,q]
  ·show x.hv y (l.mem_iff.mpr (mQa.mpr (.inr e)))
 all_goals rcases get_set c with⟨rfl,rfl⟩|⟨_,c⟩
 ·show f.rl
 ·show x.rl j d c
 ·show f.r1
 ·show x.r1 j d c
 ·show f.r2
 ·show x.r2 j d c
 ·show f.r3 g
 ·show x.r3 j d g c
 ·show f.r4 g
 ·show x.r4 j d g c
 ·show f.r5
 ·show x.r5 j d c
end
section
variable{w:cu}{N:Nat}{ps:List (Int×List Int)}{rs:List cM}{fr d:Nat->List Int}{h:Nat}
def Q2.room0(x:Q2 w N ps rs fr){i:Nat}{r nr:cM}(o:rs[i]?=some r)(e:R2 w N i fr nr)(m:∀a:List Int,(aL r++a).Nodup->(aL nr++a).Nodup)(f:∀y∈aL nr,y∈aL r):Q2 w N ps (rs.set i nr) fr:=by
 let#[a,l,n]:=rY (ps:=ps) (nr:=nr) o
 show#[x.fo,n.nodup_iff.mpr (m a (l.nodup_iff.mp x.nd)),λy g=>?_,x.pv,x.pl,λj c b=>?_,λj c b=>?_,λj c b=>?_,λj c k b=>?_,λj c k b=>?_,λj c b=>?_]
 ·rcases mQa.mp (n.mem_iff.mp g) with g|g
  ·show x.hv y (l.mem_iff.mpr (mQa.mpr (.inl (f y g))))
  ·show x.hv y (l.mem_iff.mpr (mQa.mpr (.inr g)))
 all_goals rcases get_set b with⟨rfl,rfl⟩|⟨_,b⟩
 ·show e.rl
 ·show x.rl j c b
 ·show e.r1
 ·show x.r1 j c b
 ·show e.r2
 ·show x.r2 j c b
 ·show e.r3 k
 ·show x.r3 j c k b
 ·show e.r4 k
 ·show x.r4 j c k b
 ·show e.r5
 ·show x.r5 j c b
def tP{a b c:List Int}{k:Int}(p:b.Perm (k::a))(n:(a++c).Nodup)(e:k∉a++c):(b++c).Nodup:=by
 show(QJq c p).nodup_iff.mpr ?_
 rw[List.cons_append]
 show List.nodup_cons.mpr #[e,n]
def sH{a b c:List Int}{k:Int}(p:a.Perm (k::b))(n:(a++c).Nodup):(b++c).Nodup:=by
 have:=(QJq c p).nodup_iff.mp n
 rw[List.cons_append] at this
 show(List.nodup_cons.mp this).2
def hJ(x:Q2 w N ps rs fr){i:Nat}{r:cM}(b:rs[i]?=some r){y:Int}(a:y∈aL r):y∈hl ps rs:=mQa.mpr (.inr (QOq.mpr #[r,mQg b,a]))
def leave_held(r:cM):(∃a,(aL r).Perm (a::aL (b_ r))/\(b_ r).within=a)\/(aL (b_ r)=aL r/\(b_ r).within= -1/\r.row= []/\r.ag= []):=by
 let#[e,c,b,f,g]:=r
 cases f with
 | cons a l=>
   show .inl #[a,?_,L]
   show(b++(a::l)++_).Perm (a::(b++l++_))
   rw[Qvq,Qvq]
   show List.perm_middle
 | nil=>
   cases b with
   |cons a l=>show .inl #[a,List.Perm.refl _,L]
   |nil=>show .inr #[L,L,L,L]
def nH{r:cM}(h:r.ag= []):(b_ r).ag= []:=by
 let#[c,a,b,e,f]:=r
 cases h
 cases b <;>rfl
def lS(r:cM):(b_ r).aa=r.aa:=by
 let#[e,b,c,f,g]:=r
 cases f with
 |cons a l=>rfl
 |nil=>cases c <;>rfl
def kh(x:Q2 w N ps rs fr){i:Nat}{r:cM}(c:rs[i]?=some r):(aL r).Nodup:=by
 let#[a,b,_]:=rY (ps:=ps) (nr:=r) c
 show(List.nodup_append.mp (b.nodup_iff.mp x.nd)).1
def w_{a:Int}{l m:List Int}(b:l.Perm (a::m))(n:l.Nodup){y:Int}(c:y∈m):a≠y:=λz=>by
 subst z
 show(List.nodup_cons.mp (b.nodup_iff.mp n)).1 c
def CO{r:cM}{b:Nat}{l nl:List (Int×Int)}{y:Int}(g:r.aa[b]?=some l)(i:∀z∈nl.map (·.2),z∈l.map (·.2))(a:y∈Mu {r with aa:=r.aa.set b nl}):y∈Mu r:=by
 rcases mQa.mp a with a|a
 ·show mQa.mpr (.inl a)
 ·let#[m,f,c]:=QOq.mp a
  let#[j,e]:=List.getElem?_of_mem f
  rcases get_set e with⟨rfl,rfl⟩|⟨_,e⟩
  ·show mQa.mpr (.inr (QOq.mpr #[l,mQg g,i y c]))
  ·show mQa.mpr (.inr (QOq.mpr #[m,mQg e,c]))
def Q2.leave(x:Q2 w N ps rs fr){i:Nat}{r:cM}(p:rs[i]?=some r):Q2 w N ps (rs.set i (b_ r)) fr:=by
 let m:=x.at p
 rcases leave_held r with⟨a,t,o⟩|⟨u,o,c,q⟩
 ·have I:a∈aL r:=t.mem_iff.mpr (QBq ..)
  have e:∀y∈aL (b_ r),y∈aL r:=λy j=>t.mem_iff.mpr (Qpq _ j)
  let#[g,rfl,H]:=x.hv a (hJ x p I)
  show x.room0 p #[λC f=>m.rl C (e _ f),λz=>by rw[o] at z;omega,.inr #[g,o,H,QcQ (m.rl g I)],λk c q=>nH (m.r3 k c q),λk c b l nm A B F=>m.r4 k c b l nm A (by rw[<-lS];show B) F,λy j=>by rw[o];show w_ t (kh x p) (iS j)] (λs n=>sH t n) e
 ·show x.room0 p #[λC f=>m.rl C (by rw[<-u];show f),λ_=>?_,.inl o,λk c q=>nH (m.r3 k c q),λk c b l nm A B F=>m.r4 k c b l nm A (by rw[<-lS];show B) F,λy j=>by let#[g,H,_]:=x.hv y (hJ x p (by rw[<-u];show iS j));rw[o];omega] (λs n=>by rw[u];show n) (λy j=>by rw[<-u];show j)
  let#[G,v,J,M,K]:=r
  cases c
  cases q
  show#[L,L]
def Q2.come(x:Q2 w N ps rs fr){i:Nat}{r:cM}(k:rs[i]?=some r)(p:h<N)(o:(h:Int)∉hl ps rs)(m:(fr h).getLast? =some (i:Int)):Q2 w N ps (rs.set i (gX r h)) fr:=by
 let a:=x.at k
 unfold gX
 by_cases c:r.within= -1
 ·rw[Qhq c]
  show x.room0 k #[a.rl,λz=>by have z:(h:Int)= -1:=z;omega,.inr #[h,L,p,QcQ m],a.r3,a.r4,λy e z=>o (hJ x k (by have z:(h:Int)=y:=z;rw[z];show iS e))] (λf n=>n) (λy e=>e)
 ·rw[Quq c]
  have l:(aL {r with row:=r.row++ [(h:Int)]}).Perm ((h:Int)::aL r):=by
   show((r.row++ [(h:Int)])++r.ag++_).Perm ((h:Int)::(r.row++r.ag++_))
   rw[Qvq,Qvq,Qvq]
   show List.perm_middle
  have b:∀y∈aL {r with row:=r.row++ [(h:Int)]},y∈aL r\/y=(h:Int):=λy e=>by
   rcases Qsq.mp (l.mem_iff.mp e) with rfl|e
   ·show .inr L
   ·show .inl e
  show x.room k #[λg j=>?_,λz=>absurd z c,a.r2,a.r3,a.r4,a.r5] (λf n q=>tP l n q) b p o
  rcases b _ j with j|j
  ·show a.rl g j
  ·have:g=h:=by omega
   subst this
   show m
def tf{α:Type}{A B C:List α}:(A++(B++C)).Perm (B++(A++C)):=by
 rw[<-Qvq,<-Qvq]
 show QJq _ List.perm_append_comm
def nY{r:cM}{b:Nat}{l nl:List (Int×Int)}(c:r.aa[b]?=some l):∃a,(aL r).Perm (l.map (·.2)++a)/\(aL {r with aa:=r.aa.set b nl}).Perm (nl.map (·.2)++a):=by
 show#[(r.row++r.ag)++(r.aa.eraseIdx b).flatMap λl=>l.map (·.2),?_,?_]
 ·show(List.Perm.append_left (r.row++r.ag) (jJ (f:=λl:List (Int×Int)=>l.map (·.2)) c)).trans tf
 ·show(List.Perm.append_left (r.row++r.ag) (i7 (f:=λl:List (Int×Int)=>l.map (·.2)) (b:=nl) c)).trans tf
def Dp{l:List (Int×Int)}{t k:Int}:((ix l t k).map (·.2)).Perm (k::l.map (·.2)):=by
 unfold ix
 generalize (l.filter λp=>decide (p.1<=t)).length=n
 have e:l.map (·.2)=(l.take n).map (·.2)++(l.drop n).map (·.2):=by rw[<-Qzq,List.take_append_drop]
 rw[e,Qvq,Qzq]
 show List.perm_middle
theorem sX{t:Int}:∀{l:List (Int×Int)},(l.map (·.1)).Pairwise (·<=·)->(∀p∈l.take (l.filter λp=>decide (p.1<=t)).length,p.1<=t)/\∀p∈l.drop (l.filter λp=>decide (p.1<=t)).length,t<p.1
 | [],_=>#[λp b=>by simp at b,λp b=>by simp at b]
 | a::l,hs=>by
   rw[QDq,List.pairwise_cons] at hs
   by_cases c:a.1<=t
   · rw[List.filter_cons_of_pos (by simpa using c),Qnq,List.take_succ_cons,List.drop_succ_cons]
     let#[i,g]:=sX (t:=t) hs.2
     show#[λp b=>?_,g]
     rcases Qsq.mp b with rfl|b
     · show c
     · show i p b
   · have f:∀p∈a::l,t<p.1:=λp b=>by
       rcases Qsq.mp b with rfl|b
       · omega
       · have:=hs.1 p.1 (Qkq.mpr #[p,b,L])
         omega
     have e:((a::l).filter λp=>decide (p.1<=t))= []:=List.filter_eq_nil_iff.mpr λp b=>by
       have:=f p b
       simpa using this
     rw[e]
     show#[λp b=>by simp at b,λp b=>f p (by simpa using b)]
def zV{l:List (Int×Int)}{t k:Int}(g:(l.map (·.1)).Pairwise (·<=·)):((ix l t k).map (·.1)).Pairwise (·<=·):=by
 let#[i,f]:=sX (t:=t) g
 unfold ix
 generalize (l.filter λp=>decide (p.1<=t)).length=n at i f|-
 rw[Qvq,Qzq,Qzq,List.pairwise_append]
 have s:((l.take n).map (·.1)).Pairwise (·<=·):=by rw[List.map_take];show g.sublist (List.take_sublist ..)
 have j:((l.drop n).map (·.1)).Pairwise (·<=·):=by rw[List.map_drop];show g.sublist (List.drop_sublist ..)
 show#[s,?_,λa r b c=>?_]
 ·show(t::(l.drop n).map (·.1)).Pairwise (·<=·)
  rw[List.pairwise_cons]
  show#[λb c=>?_,j]
  let#[p,e,rfl]:=Qkq.mp c
  have:=f p e
  omega
 ·let#[p,e,rfl]:=Qkq.mp r
  let m:=i p e
  rcases Qsq.mp (show b∈t::(l.drop n).map (·.1) from c) with rfl|c
  ·show m
  ·let#[q,o,rfl]:=Qkq.mp c
   have:=f q o
   omega
def GH{l:List (Int×Int)}{t k:Int}{p:Int×Int}(h:p∈ix l t k):p∈l\/p=(t,k):=by
 unfold ix at h
 rcases mQa.mp h with h|h
 ·rcases mQa.mp h with h|h
  ·show .inl (List.mem_of_mem_take h)
  ·show .inr (Qfq.mp h)
 ·show .inl (List.mem_of_mem_drop h)
def Q2.wait(x:Q2 w N ps rs fr){i b:Nat}{r:cM}{rm:Rm}{l:List (Int×Int)}{t:Int}{nm W:Str}(H:rs[i]?=some r)(hm:w.aj[i]?=some rm)(hb:r.aa[b]?=some l)(hs:rm.aa[b]?=some (nm,W))(ht:W="row" ->t=0)(hN:h<N)(hh:(h:Int)∉hl ps rs)(hf:(fr h).getLast? =some (i:Int)):
  Q2 w N ps (rs.set i (b_ {r with aa:=r.aa.set b (ix l t h)})) fr:=by
 let Q:=x.at H
 let#[k,p1,p2]:=nY (nl:=ix l t h) hb
 have s:(aL {r with aa:=r.aa.set b (ix l t h)}).Perm ((h:Int)::aL r):=by
  show p2.trans ((QJq k Dp).trans ?_)
  rw[List.cons_append]
  show List.Perm.cons _ p1.symm
 have f:∀y∈aL {r with aa:=r.aa.set b (ix l t h)},y∈aL r\/y=(h:Int):=λy e=>by
  rcases Qsq.mp (s.mem_iff.mp e) with rfl|e
  ·show .inr L
  ·show .inl e
 have C:∀g:Nat,(g:Int)∈aL {r with aa:=r.aa.set b (ix l t h)}->(fr g).getLast? =some (i:Int):=λg A=>by
  rcases f _ A with A|A
  ·show Q.rl g A
  ·have:g=h:=by omega
   subst this
   show hf
 have K:∀c:Rm,w.aj[i]?=some c->∀(I:Nat) (P:List (Int×Int)) (F q:Str),(b_ {r with aa:=r.aa.set b (ix l t h)}).aa[I]?=some P->c.aa[I]?=some (F,q)->(P.map (·.1)).Pairwise (·<=·)/\(q="row" ->∀p∈P,p.1=0):=λc u I P F q o v=>by
  rw[lS] at o
  rcases get_set o with⟨rfl,rfl⟩|⟨_,o⟩
  ·rw[hm] at u
   cases u
   rw[hs] at v
   cases v
   let#[e1,e2]:=Q.r4 rm hm I l nm W hb hs
   show#[zV e1,λz p s=>?_]
   rcases GH s with s|rfl
   ·show e2 z p s
   ·show ht z
  ·show Q.r4 c u I P F q o v
 have J:∀y∈aL {r with aa:=r.aa.set b (ix l t h)},∃g:Nat,y=g/\g<N:=λy e=>by
  rcases f y e with e|rfl
  ·show x.hv y (hJ x H e)
  ·show#[h,L,hN]
 have n':(aL {r with aa:=r.aa.set b (ix l t h)}).Nodup:=s.nodup_iff.mpr (List.nodup_cons.mpr #[λz=>hh (hJ x H z),kh x H])
 have M:∀c:Rm,w.aj[i]?=some c->c.ah="when free" ->(b_ {r with aa:=r.aa.set b (ix l t h)}).ag= []:=λc Y U=>nH (Q.r3 c Y U)
 rcases leave_held {r with aa:=r.aa.set b (ix l t h)} with⟨a,m,G⟩|⟨R,G,Y,U⟩
 ·have ha:a∈aL {r with aa:=r.aa.set b (ix l t h)}:=m.mem_iff.mpr (QBq ..)
  have j:∀y∈aL (b_ {r with aa:=r.aa.set b (ix l t h)}),y∈aL {r with aa:=r.aa.set b (ix l t h)}:=λy e=>m.mem_iff.mpr (Qpq _ e)
  let#[g,rfl,A]:=J a ha
  show x.room H #[λZ B=>C Z (j _ B),λz=>by rw[G] at z;omega,.inr #[g,G,A,QcQ (C g ha)],M,K,λy e=>by rw[G];show w_ m n' (iS e)] (λk n X=>sH m (tP s n X)) (λy e=>f y (j y e)) hN hh
 ·show x.room H #[λZ B=>C Z (by rw[<-R];show B),λ_=>?_,.inl G,M,K,λy e=>by let#[g,A,_]:=J y (by rw[<-R];show iS e);rw[G];omega] (λk n X=>by rw[R];show tP s n X) (λy e=>f y (by rw[<-R];show e)) hN hh
  let#[a0,S,a1,ag,aa]:=r
  cases Y
  cases U
  show#[L,L]
def Q2.all(x:Q2 w N ps rs fr){i b:Nat}{r:cM}{l:List (Int×Int)}(A:rs[i]?=some r)(u:r.aa[b]?=some l):Q2 w N ps (rs.set i {r with aa:=r.aa.set b []}) fr:=by
 let f:=x.at A
 let#[C,v,t]:=nY (nl:= []) u
 have c:∀y∈aL {r with aa:=r.aa.set b []},y∈aL r:=λy o=>v.mem_iff.mpr (mQa.mpr (.inr (by simpa using t.mem_iff.mp o)))
 show x.room0 A #[λg G=>f.rl g (c _ G),f.r1,f.r2,f.r3,λm j F I q s e k=>?_,λy o=>f.r5 y (CO u (λ_ z=>by simp at z) o)] (λa n=>?_) c
 ·rcases get_set e with⟨rfl,rfl⟩|⟨_,e⟩
  ·show#[.nil,λ_ p H=>by cases H]
  ·show f.r4 m j F I q s e k
 ·let B:=(QJq a v).nodup_iff.mp n
  show(QJq a t).nodup_iff.mpr ?_
  rw[Qvq] at B
  show(List.nodup_append.mp B).2.1
def Q2.call(x:Q2 w N ps rs fr){i b:Nat}{r:cM}{S:Rm}{l:List (Int×Int)}(u:rs[i]?=some r)(hm:w.aj[i]?=some S)(Q:r.aa[b]?=some l)(hN:h<N)(U:(h:Int)∉hl ps rs)(hf:(fr h).getLast? =some (i:Int)):
  Q2 w N ps (rs.set i (tM (decide (S.ah="when free")) r b h)) fr:=by
 let v:=x.at u
 unfold tM
 rw[Q]
 cases l with
 | nil=>
   have e:rs.set i r=rs:=by
     apply List.ext_getElem?
     intro j
     rw[List.getElem?_set]
     split
     · rename_i c
       subst c
       rw[u]
       have:=(gQs.mp u).1
       simp[this]
     · rfl
   rw[e]
   show x
 | cons p l=>
   let#[B,p1,Y]:=nY (nl:=l) Q
   have G:(aL r).Perm (p.2::aL {r with aa:=r.aa.set b l}):=by
     show p1.trans ?_
     rw[QDq,List.cons_append]
     show List.Perm.cons _ Y.symm
   have K:p.2∈aL r:=G.mem_iff.mpr (QBq ..)
   have f:∀y∈aL {r with aa:=r.aa.set b l},y∈aL r:=λy a=>G.mem_iff.mpr (Qpq _ a)
   have W:∀m:Rm,w.aj[i]?=some m->∀(J:Nat) (P:List (Int×Int)) (A t:Str),(r.aa.set b l)[J]?=some P->m.aa[J]?=some (A,t)->(P.map (·.1)).Pairwise (·<=·)/\(t="row" ->∀p∈P,p.1=0):=λm o J P A t C I=>by
     rcases get_set C with⟨rfl,rfl⟩|⟨_,C⟩
     · let#[X,e2]:=v.r4 m o J _ A t Q I
       rw[QDq,List.pairwise_cons] at X
       show#[X.2,λz q Z=>e2 z q (Qpq _ Z)]
     · show v.r4 m o J P A t C I
   dsimp only[bI,bo,bF,cI,cP,g8]
   by_cases c:S.ah="when free"
   · rw[Qeq c,Qhq L]
     show x.room0 u #[λg K=>v.rl g (f _ K),v.r1,v.r2,v.r3,W,λy a=>v.r5 y (CO Q (λ_ z=>Qpq _ z) a)] (λB n=>sH G n) f
   · rw[Qdq c,Quq (!1)]
     have M:(aL {r with aa:=r.aa.set b l,within:=p.2,ag:=r.ag++ [(h:Int)]}).Perm ((h:Int)::aL {r with aa:=r.aa.set b l}):=by
       show(r.row++(r.ag++ [(h:Int)])++_).Perm ((h:Int)::(r.row++r.ag++_))
       rw[<-Qvq,Qvq]
       show List.perm_middle
     have s:∀y∈aL {r with aa:=r.aa.set b l,within:=p.2,ag:=r.ag++ [(h:Int)]},y∈aL r\/y=(h:Int):=λy a=>by
       rcases Qsq.mp (M.mem_iff.mp a) with rfl|a
       · show .inr L
       · show .inl (f y a)
     let#[g,H,R]:=x.hv p.2 (hJ x u K)
     show x.room u #[λk F=>?_,λz=>?_,.inr #[g,H,R,QcQ (v.rl g (by rw[<-H];show K))],λm o z=>?_,W,λy a=>?_] (λB n F=>?_) s hN U
     · rcases s _ F with F|F
       · show v.rl k F
       · have:k=h:=by omega
         subst this
         show hf
     · have z:p.2= -1:=z
       omega
     · rw[hm] at o
       cases o
       show absurd z c
     · show p.2≠y
       rcases mQa.mp a with a|a
       · rcases mQa.mp a with a|a
         · show w_ G (kh x u) (iS (mQa.mpr (.inl a)))
         · rw[Qfq.mp a]
           show λz=>U (hJ x u (z▸K))
       · show w_ G (kh x u) (iS (mQa.mpr (.inr a)))
     · show tP M (sH G n) λz=>F ?_
       rcases mQa.mp z with z|z
       · show mQa.mpr (.inl (f _ z))
       · show mQa.mpr (.inr z)
end
section
variable{w:cu}{N:Nat}{ps:List (Int×List Int)}{rs:List cM}{fr b:Nat->List Int}{h:Nat}
def Q2.take(x:Q2 w N ps rs fr){j:Nat}{p:Int×List Int}(s:ps[j]?=some p)(C:h<N)(B:(h:Int)∉hl ps rs)(A:fr h= [-1]):Q2 w N (ps.set j (gS p h)) rs fr:=by
 let#[#[F,v],o]:=x.pv p (mQg s)
 let#[u,r,t]:=wZ (rs:=rs) (np:=gS p h) s
 have m:(gS p h).2=p.2\/(gS p h).2=p.2++ [(h:Int)]:=by
  unfold gS
  split
  ·show .inl L
  ·show .inr L
 have f:∀y∈(gS p h).2,y∈p.2\/y=(h:Int):=λy d=>by
  rcases m with e|e
  ·rw[e] at d;show .inl d
  ·rw[e] at d
   rcases mQa.mp d with d|d
   ·show .inl d
   ·show .inr (Qfq.mp d)
 show#[x.fo,t.nodup_iff.mpr ?_,λy d=>?_,λq i=>?_,λq i g l=>?_,x.rl,x.r1,x.r2,x.r3,x.r4,x.r5]
 ·let n:=r.nodup_iff.mp x.nd
  rcases m with e|e
  ·rw[e];show n
  ·rw[e]
   show tP (a:=p.2) (k:=(h:Int)) (by rw[<-List.append_nil p.2];simpa using List.perm_middle (l₁:=p.2) (a:=(h:Int)) (l₂:= [])) n λz=>B (r.mem_iff.mpr z)
 ·rcases mQa.mp (t.mem_iff.mp d) with d|d
  ·rcases f y d with d|rfl
   ·show x.hv y (r.mem_iff.mpr (mQa.mpr (.inl d)))
   ·show#[h,L,C]
  ·show x.hv y (r.mem_iff.mpr (mQa.mpr (.inr d)))
 ·rcases QTq i with i|rfl
  ·show x.pv q i
  ·unfold gS
   split
   ·rename_i c
    show#[#[by show 0<=p.1-1;omega,by show p.1-1<=9;omega],.inr ?_]
    rcases o with o|o
    ·omega
    ·show o
   ·rename_i c
    show#[#[F,v],.inl (by show p.1=0;omega)]
 ·rcases QTq i with i|rfl
  ·show x.pl q i g l
  ·rcases f _ l with l|l
   ·show x.pl p (mQg s) g l
   ·have:g=h:=by omega
    subst this
    show A
def Q2.give(x:Q2 w N ps rs fr){j:Nat}{p:Int×List Int}(m:ps[j]?=some p):Q2 w N (ps.set j (fO p)) rs fr:=by
 let#[#[r,z],f]:=x.pv p (mQg m)
 let#[u,o,s]:=wZ (rs:=rs) (np:=fO p) m
 let i:=x.pl p (mQg m)
 let#[v,l]:=p
 have d:∀y∈(fO (v,l)).2,y∈l:=λy c=>by
  unfold fO at c
  cases l with
  |nil=>cases c
  |cons a l=>show Qpq _ c
 show#[x.fo,s.nodup_iff.mpr ?_,λy c=>?_,λq e=>?_,λq e g t=>?_,x.rl,x.r1,x.r2,x.r3,x.r4,x.r5]
 ·let n:=o.nodup_iff.mp x.nd
  unfold fO
  cases l with
  |nil=>show n
  |cons a l=>show sH (k:=a) (List.Perm.refl _) n
 ·rcases mQa.mp (s.mem_iff.mp c) with c|c
  ·show x.hv y (o.mem_iff.mpr (mQa.mpr (.inl (d y c))))
  ·show x.hv y (o.mem_iff.mpr (mQa.mpr (.inr c)))
 ·rcases QTq e with e|rfl
  ·show x.pv q e
  ·unfold fO
   cases l with
   | nil=>
     show#[?_,.inr L]
     show 0<=(if 9<v+1 then 9 else v+1)/\(if 9<v+1 then 9 else v+1)<=9
     have r:0<=v:=r
     split <;>omega
   | cons a l=>
     show#[#[r,z],.inl ?_]
     rcases f with f|f
     · show f
     · cases f
 ·rcases QTq e with e|rfl
  ·show x.pl q e g t
  ·show i g (d _ t)
def Q2.frames(x:Q2 w N ps rs fr)(d:∀g,g≠h->b g=fr g)(m:(h:Int)∉hl ps rs)(l:∀(i:Nat) (r:cM),rs[i]?=some r->r.within=(h:Int)->(i:Int)∈b h)(n:(b h).head? =some (-1)):Q2 w N ps rs b:=by
 have k:∀g:Nat,(g:Int)∈hl ps rs->b g=fr g:=λg a=>d g λz=>m (by rw[<-z];show a)
 show#[λg a=>?_,x.nd,x.hv,x.pv,λp j g a=>?_,λi r f g a=>?_,x.r1,λi r f=>?_,x.r3,x.r4,x.r5]
 ·by_cases c:g=h
  ·subst c
   show n
  ·rw[d g c]
   show x.fo g a
 ·rw[k g (mQa.mpr (.inl (QOq.mpr #[p,j,a])))]
  show x.pl p j g a
 ·rw[k g (hJ x f a)]
  show x.rl i r f g a
 ·rcases x.r2 i r f with z|⟨g,e,a,o⟩
  ·show .inl z
  ·show .inr #[g,e,a,?_]
   by_cases c:g=h
   ·subst c
    show l i r f e
   ·rw[d g c]
    show o
end
noncomputable def rc(f:cg):Int:=if f.room= -1 then(if f.deed= -1/\f.given=0/\f.told=0 then -1 else -2) else f.room
def l_{f:cg}(h:f.room≠-1):rc f=f.room:=Quq h
def wb(s:aO)(g:Nat):List Int:=((s.af[g]?).map λp=>p.2.map rc).getD []
def rK(w:cu)(s:aO):Prop:=Q2 w s.af.length s.ai s.aj (wb s)
section
variable{w:cu}{n h:Nat}{s:aO}{vs:List Int}{fs:List cg}{f:cg}
def kX(a:s.af[h]?=some (vs,fs)):wb s h=fs.map rc:=by
 unfold wb
 rw[a]
 rfl
def wR{p:List Int×List cg}{g:Nat}(a:g≠h):wb {s with af:=s.af.set h p} g=wb s g:=by
 unfold wb
 rw[QKq (Ne.symm a)]
def xP{p:List Int×List cg}(hl:h<s.af.length):wb {s with af:=s.af.set h p} h=p.2.map rc:=by
 unfold wb
 rw[Qyq hl]
 rfl
def rK.quiet(x:rK w s){b:List Int}{a:List cg}(d:s.af[h]?=some (vs,fs))(e:a.map rc=fs.map rc):rK w {s with af:=s.af.set h (b,a)}:=by
 let hl:=(gQs.mp d).1
 have i:wb {s with af:=s.af.set h (b,a)}=wb s:=by
  funext g
  by_cases c:g=h
  ·subst c
   rw[xP hl,kX d]
   show e
  ·show wR c
 unfold rK
 rw[i]
 show Q2 w (s.af.set h (b,a)).length s.ai s.aj (wb s)
 rw[List.length_set]
 show x
def rK.share(x:rK w s){a:List Int}:rK w {s with ak:=a}:=x
def rK.vals(x:rK w s){i:Nat}{r:cM}{d:List Int}(b:s.aj[i]?=some r):rK w {s with aj:=s.aj.set i {r with vals:=d}}:=by
 let a:=Q2.at x b
 show Q2.room0 x b #[a.rl,a.r1,a.r2,a.r3,a.r4,a.r5] (λc n=>n) (λy e=>e)
def rK.begun(o:dz w):rK w (bf w):=by
 have j:∀(i:Nat) (r:cM),(bf w).aj[i]?=some r->∃c,w.aj[i]?=some c/\r=c9 c:=λi r j=>by
  erw[bf,gQm] at j
  let#[c,G,B]:=oQm.mp j
  show#[c,G,B.symm]
 have u:∀c:Rm,∀l∈(c9 c).aa,l= []:=λc l hl=>by
  erw[c9,Qkq] at hl
  let#[_,_,e]:=hl
  show e.symm
 have t:∀c:Rm,aL (c9 c)= []:=λc=>by
  unfold aL
  have:(c9 c).aa.flatMap (λl=>l.map (·.2))= []:=List.flatMap_eq_nil_iff.mpr λl hl=>by rw[u c l hl];rfl
  rw[this]
  rfl
 have A:hl (bf w).ai (bf w).aj= []:=by
  unfold hl
  rw[List.append_eq_nil_iff,List.flatMap_eq_nil_iff,List.flatMap_eq_nil_iff]
  show#[λp d=>?_,λr a=>?_]
  ·erw[bf,Qkq] at d
   let#[q,_,rfl]:=d
   rfl
  ·erw[bf,Qkq] at a
   let#[q,_,rfl]:=a
   show t q
 have z:(bf w).ai.flatMap (·.2)++(bf w).aj.flatMap aL= []:=A
 show#[λg k=>?_,by rw[z];show .nil,(λx v=>by rw[z] at v;cases v),?_,λp d g k=>?_,λi r a g k=>?_,λi r a _=>?_,λi r a=>?_,λi r c a _ _=>?_,λi r c a _ b l nm I C _=>?_,λi r a y H=>by let#[c,_,rfl]:=j i r a;have:=iS H;rw[t] at this;cases this]
 ·have m:g<w.af.length:=by simpa [bf] using k
  unfold wb
  erw[bf,gQm,gQe m,Option.map_some,Option.getD_some]
  rfl
 ·intro p d
  erw[bf,Qkq] at d
  let#[q,F,rfl]:=d
  have:=o.pv q F
  show#[#[by show(0:Int)<=(q.2:Int);omega,by show(q.2:Int)<=9;omega],.inr L]
 ·erw[bf,Qkq] at d
  let#[q,_,rfl]:=d
  cases k
 ·let#[c,_,rfl]:=j i r a
  rw[t] at k
  cases k
 ·let#[c,_,rfl]:=j i r a
  show#[L,L]
 ·let#[c,_,rfl]:=j i r a
  show .inl L
 ·let#[c,_,rfl]:=j i r a
  rfl
 ·let#[c,_,rfl]:=j i r a
  rw[u c l (mQg C)]
  show⟨.nil,λ_ p d=>by cases d⟩
end
section
variable{w:cu}{n h:Nat}{s:aO}{vs:List Int}{fs:List cg}{f:cg}{d:Sc}
def mB{f':cg}(a:fs.getLast? =some f)(e:rc f'=rc f):(fs.dropLast++ [f']).map rc=fs.map rc:=by
 conv=>rhs;rw[iA a]
 rw[Qzq,Qzq]
 show _++ [rc f']=_++ [rc f]
 rw[e]
def Ec(h:Nat)(r a:cM):Prop:=r.within≠h->0<=r.within->a.within=r.within/\(a.row=r.row\/a.row=r.row++ [(h:Int)])
def Kp(h:Nat)(s s':aO):Prop:=s'.af.length=s.af.length/\s'.aj.length=s.aj.length/\∀(i:Nat) (r a:cM),s.aj[i]?=some r->s'.aj[i]?=some a->Ec h r a
def Hc(s s':aO):Prop:=s'.af.length=s.af.length/\s'.aj.length=s.aj.length/\∀(i:Nat) (r a:cM),s.aj[i]?=some r->s'.aj[i]?=some a->a.within=r.within/\a.row=r.row
def Hc.aj{s s':aO}(b:s'.af.length=s.af.length)(e:s'.aj=s.aj):Hc s s':=⟨b,by rw[e],λi r g c a=>by rw[e,c] at a;cases a;show⟨rfl,L⟩⟩
def Hc.kp{h:Nat}{s s':aO}(x:Hc s s'):Kp h s s':=⟨x.1,x.2.1,λi r a c b _ _=>⟨(x.2.2 i r a c b).1,.inl (x.2.2 i r a c b).2⟩⟩
def Kp.aj{h:Nat}{s s':aO}(a:s'.af.length=s.af.length)(e:s'.aj=s.aj):Kp h s s':=(Hc.aj a e).kp
def Kp.room{h i:Nat}{s s':aO}{r l:cM}(m:s'.af.length=s.af.length)(o:s.aj[i]?=some r)(e:s'.aj=s.aj.set i l)(k:Ec h r l):Kp h s s':=⟨m,by rw[e,List.length_set],λj a b g c=>by
 rw[e] at c
 rcases get_set c with⟨rfl,rfl⟩|⟨_,c⟩
 ·rw[o] at g;cases g;show k
 ·rw[g] at c;cases c;show λ_ _=>⟨rfl,.inl L⟩⟩
def Kp.v{h:Nat}{s b s':aO}(x:Kp h s b)(y:Hc b s'):Kp h s s':=⟨y.1.trans x.1,y.2.1.trans x.2.1,λi r j c k p q=>by
 let hl:=(gQs.mp c).1
 obtain⟨a,e⟩:∃a,b.aj[i]?=some a:=#[_,gQe (by rw[x.2.1];show hl)]
 let#[m,o]:=x.2.2 i r a c e p q
 let#[g,l]:=y.2.2 i a j e k
 rw[g,l]
 show#[m,o]⟩
def Ec.come{h:Nat}{r:cM}:Ec h r (gX r h):=λb a=>by
 unfold gX
 split
 ·omega
 ·show#[L,.inr L]
def Ec.own{h:Nat}{r a:cM}(e:r.within=h):Ec h r a:=λb _=>absurd e b
def BR{y:Str}{v:Int}(o:dz w)(x:di w n s)(q:rK w s)(t:s.af[h]?=some (vs,fs))(B:fs.getLast? =some f)(F:D3 w h f=some d)(G:y∈d.ps)(C:0<=v/\v<=9):∃s',Puts w s h y v s'/\di w n s'/\rK w s'/\Hc s s':=by
 let#[H,W,p,u]:=x.whand t
 let J:=o.hd _ (mQg p)
 let N:=u.fr f (QcQ B)
 let P:=o.l1
 let U:=o.l3
 let K:=J.l1
 let X:=o.l4
 let lr:=x.lr
 let Z:=x.lh
 rcases lT F with⟨c,I,M,k,rfl⟩|⟨c,r,hr,rfl⟩
 ·rw[p] at k
  cases k
  show#[xN w s h H vs fs y v,λS Q q=>Hj p t B c x.ls u.lv (!0) (by dsimp only at K;omega) (!0) G q,?_]
  unfold xN
  split
  ·let#[i,l]:=ng (ns:=w.ak.map (·.1)) (y:=y) x.sv C
   show#[x.share i l,q.share,Hc.aj L L]
  ·let#[i,l]:=ng (ns:=H.map (·.1)) (y:=y) u.vv C
   show#[x.hand p (u.vals i l),q.quiet t L,Hc.aj (by simp) L]
 ·let#[Y,e,g]:=x.wroom hr
  let z:=o.rm r (mQg hr)
  let R:=z.l1
  show#[_,λS Q q=>FO t B (mF N c) hr e g.lv (!0) (!0) G q,?_]
  let#[i,l]:=ng (ns:=r.ao.map (·.1)) (y:=y) g.vv C
  show⟨x.room hr ⟨by rw[g.lv,<-i],g.lb,l,g.br,g.bl,g.bb⟩,q.vals e,L,by simp,λj a b A m=>by
   rcases get_set m with⟨rfl,rfl⟩|⟨_,m⟩
   ·rw[e] at A;cases A;show#[L,L]
   ·rw[A] at m;cases m;show#[L,L]⟩
def Di(hi:i3 fs)(g:fs.getLast? =some f)(c:f.room= -1)(b:(fs.map rc).head? =some (-1)):fs.map rc= [-1]:=by
 let i:=iA g
 rw[i] at hi b|-
 cases e:fs.dropLast with
 | nil=>
   rw[e] at b
   rw[List.nil_append]
   have b:some (rc f)=some (-1):=b
   show [rc f]= [-1]
   rw[QdQ b]
 | cons a l=>
   rw[e] at hi
   show absurd c (hi.2 f (mQa.mpr (.inr (Qfq.mpr L))))
def G8{r:Rw}{pr:List Rw}(o:dz w)(x:di w n s)(P:rK w s)(J:(h:Int)∉held s)(hn:n<=800)(a9:Here s h f)(C:s.af[h]?=some (vs,fs))(I:fs.getLast? =some f)(hp:progOf w h f=some pr)(h1:1<=f.row)(a4:pr[(f.row-1).toNat]?=some r):∃s',LD w s h r s'/\di w (n+1) s'/\rK w s'/\Kp h s s':=by
 let#[d,K,c6]:=F8 o hp
 let b:=c6 r (mQg a4)
 let#[ts,a5,hw,hi]:=x.whand C
 let fi:=hi.fr f (QcQ I)
 have hl:h<s.af.length:=(gQs.mp C).1
 let b1:=o.l1
 let b2:=o.l2
 let b3:=o.l3
 let b4:=o.l4
 let lr:=x.lr
 let lp:=x.lp
 let lh:=x.lh
 let lf:=hi.lf
 let x1:=x.mono (Nat.le_succ n)
 have Z:f.room≠-1->(wb s h).getLast? =some f.room:=λc=>by rw[kX C,QfQ,I];show congrArg some (l_ c)
 let f0:=P.fo h hl
 have G:d.own=false->∃(i:Nat) (r:Rm) (rs:cM),f.room=i/\w.aj[i]?=some r/\s.aj[i]?=some rs/\j_ n r rs/\Ap (bP w.aj) r/\d.bs=r.aa.map (·.1)/\rs.within=h:=λho=>by
  rcases lT K with⟨c,a7,a5,b0,rfl⟩|⟨c,r,U,rfl⟩
  ·cases ho
  ·let#[rs,k,N]:=x.wroom U
   show#[_,r,rs,mF fi c,U,k,N,o.rm r (mQg U),L,?_]
   rcases a9 with c'|⟨i,d5,d7,c0,d2⟩
   ·show absurd c' c
   ·let e:=mF fi c
    have:i=f.room.toNat:=by omega
    subst this
    rw[k] at c0
    cases c0
    show d2
 have H:d.own=true->d.ts=w.ai.map (·.1)/\wb s h= [-1]:=λho=>by
  rcases lT K with⟨c,a7,a5,b0,rfl⟩|⟨c,r,U,rfl⟩
  ·show#[L,by rw[kX C] at f0|-;show Di hi.hd I c f0]
  ·cases ho
 have F:∀y,y∈w.ai.map (·.1)->∀ps:List (Int×List Int),w.ai.length=ps.length->∃p,ps[gh (w.ai.map (·.1)) y]?=some p:=λy B ps hl=>by
  have:=(kq B).1
  rw[lQm] at this
  show#[_,gQe (!0)]
 have a2:∀p:Int×List Int,p.2.length<=n->(gS p h).2.length<=n+1:=λp hp=>by
  unfold gS
  split
  ·show p.2.length<=_;omega
  ·simp;omega
 have Y:∀p:Int×List Int,p.2.length<=n->(fO p).2.length<=n:=λp hp=>by
  let#[v,l]:=p
  unfold fO
  cases l with
  |nil=>simp
  |cons a l=>simp at hp;show l.length<=n;omega
 cases r with
 | put y t=>
   let#[v,hv,U]:=mj o x C I K b.2
   let#[s',A,c5,d3,c4]:=BR o x P C I K b.1 hv
   show#[s',λS Q q=>DU U A q,c5.mono (Nat.le_succ n),d3,c4.kp]
 | unl t m=>
   let#[v,hv,U]:=mj o x C I K b.1
   show#[_,λS Q q=>xk U C I (!0) (!0) q,?_]
   split
   · show#[x1.goes C I hp (!0) (by have:=b.2;omega),P.quiet C (mB I L),Kp.aj (by simp) L]
   · show#[x1,P,Kp.aj L L]
 |go m=>show#[_,λS Q q=>Ga C I (!0) (!0) q,x1.goes C I hp (!0) (by have:m<=pr.length:=b;omega),P.quiet C (mB I L),Kp.aj (by simp) L]
 | do_ g rn dn t=>
   let#[v,hv,U]:=mj o x C I K b.2.2
   have d0:d.gs=bP w.aj:=by
     rcases lT K with⟨c,a7,a5,b0,rfl⟩|⟨c,r,U,rfl⟩ <;>rfl
   let c2:=b.2.1
   rw[d0] at c2
   let#[a3,r,u,a8]:=IW o c2
   let#[rs,k,N]:=x.wroom u
   let R:=o.rm r (mQg u)
   let b5:=R.l3
   let b6:=N.br
   show⟨_,λS Q q=>GD U C a3 u k a8 (!0) (!0) (!0) (!0) (!0) (!0) q,?_⟩
   let c7:=kq a8
   let b8:=c7.1
   rw[lQm] at b8
   obtain⟨⟨d6,c1⟩,d1⟩:∃p,r.ae[gh (r.ae.map (·.1)) dn]?=some p:=#[_,gQe b8]
   have pf:progOf w h ⟨(gh (w.aj.map (·.name)) rn:Nat),(gh (r.ae.map (·.1)) dn:Nat),0,v,0⟩=some c1:=C1 L L u d1
   let hh:=hi.push (f':=#[(gh (w.aj.map (·.name)) rn:Nat),(gh (r.ae.map (·.1)) dn:Nat),0,v,0]) I #[pr,g,rn,dn,t,hp,h1,a4] (by show((gh (w.aj.map (·.name)) rn:Nat):Int)≠-1;omega) #[#[c1,pf,by show(0:Int)<=0;omega,by show(0:Int)<=_;omega],hv,by show(0:Int)<=0/\(0:Int)<=9;omega]
   show#[(x1.hand hw hh).room u N.come,?_,Kp.room (by simp) k L Ec.come]
   generalize gh (r.ae.map (·.1)) dn=dd
   generalize gh (w.aj.map (·.name)) rn=i at k
   have eo:wb {s with af:=s.af.set h (vs,fs++ [(#[i,dd,0,v,0]:cg)]),aj:=s.aj.set i (gX rs h)} h=fs.map rc++ [(i:Int)]:=by
     have:=xP (s:={s with aj:=s.aj.set i (gX rs h)}) (h:=h) (p:=(vs,fs++ [(#[i,dd,0,v,0]:cg)])) hl
     rw[Qzq] at this
     rw[show [(i:Int)]= [(#[i,dd,0,v,0]:cg)].map rc by show _= [rc _];rw[l_ (by show(i:Int)≠-1;omega)]]
     show this
   have q3:Q2 w s.af.length s.ai s.aj (wb {s with af:=s.af.set h (vs,fs++ [(#[i,dd,0,v,0]:cg)]),aj:=s.aj.set i (gX rs h)}):=by
     show Q2.frames P (h:=h) (λg hg=>?_) J (λj r' hj e=>?_) ?_
     · show wR (s:={s with aj:=s.aj.set i (gX rs h)}) hg
     · rw[eo]
       rcases P.r2 j r' hj with z|⟨g,e',_,hm⟩
       · omega
       · have:g=h:=by omega
         subst this
         rw[kX C] at hm
         show mQa.mpr (.inl hm)
     · rw[eo]
       rw[kX C] at f0
       cases b9:fs.map rc with
       |nil=>rw[b9] at f0;cases f0
       |cons a l=>rw[b9] at f0;show f0
   let q4:=q3.come (h:=h) k hl J (by rw[eo];simp)
   unfold rK
   show Q2 w (s.af.set h _).length s.ai (s.aj.set i (gX rs h)) _
   rw[List.length_set]
   show q4
 | wait y t=>
   let#[i,r,rs,M,u,k,N,R,X,a1]:=G b.1
   let#[v,hv,U]:=mj o x C I K b.2.2
   let B:=b.2.1
   rw[X] at B
   let b6:=R.l2
   let lb:=N.lb
   let#[k1,k2]:=kq B
   rw[lQm] at k1
   rw[gQm] at k2
   let#[#[y',so],k3,k4]:=oQm.mp k2
   have k4:y'=y:=k4
   subst k4
   obtain⟨a0,W⟩:∃l,rs.aa[gh (r.aa.map (·.1)) y']?=some l:=#[_,gQe (!0)]
   let ll:=N.bb a0 (mQg W)
   show#[_,λS Q q=>Bw C I M u k (!0) lb (!0) B k3 W (!0) U q,?_]
   show#[x1.room u (((N.mono (Nat.le_succ n)).line (by rw[FL];omega)).leave),?_,Kp.room L k L (Ec.own a1)]
   show Q2.wait P (h:=h) k u W k3 (λz=>by rw[z,Quq (by decide +kernel)]) hl J (by rw[Z (!0),M])
 | call y=>
   let#[i,r,rs,M,u,k,N,R,X,a1]:=G b.1
   let B:=b.2
   rw[X] at B
   let b6:=R.l2
   let b7:=N.bl
   let lb:=N.lb
   let k1:=(kq B).1
   rw[lQm] at k1
   obtain⟨a0,W⟩:∃l,rs.aa[gh (r.aa.map (·.1)) y]?=some l:=#[_,gQe (!0)]
   show#[_,λS Q q=>Az C I M u k (!0) N.lb (!0) (!0) B q,?_]
   show#[x1.room u N.call,Q2.call P (h:=h) k u W hl J (by rw[Z (!0),M]),Kp.room L k L (Ec.own a1)]
 | all y=>
   let#[i,r,rs,M,u,k,N,R,X,a1]:=G b.1
   let B:=b.2
   rw[X] at B
   let b6:=R.l2
   let lb:=N.lb
   let k1:=(kq B).1
   rw[lQm] at k1
   obtain⟨a0,W⟩:∃l,rs.aa[gh (r.aa.map (·.1)) y]?=some l:=#[_,gQe (!0)]
   show#[_,λS Q q=>D1 C I M u k (!0) N.lb (!0) B q,?_]
   show#[x1.room u ((N.mono (Nat.le_succ n)).line (by simp)),Q2.all P k W,Kp.room L k L (Ec.own a1)]
 | tell t=>
   let#[v,hv,U]:=mj o x C I K b.2
   show⟨_,λS Q q=>AG U C I (!0) (!0) q,x1.tells C I hv,P.quiet C (mB I (by
     have a3:f.room≠-1:=by let#[i,r,rs,M,_]:=G b.1;omega
     rw[l_ a3];show l_ (f:={f with told:=v}) a3)),Kp.aj (by simp) L⟩
 | take y=>
   let B:=b.2
   rw[(H b.1).1] at B
   let#[p,A]:=F y B s.ai lp
   let pl:=x.ps p (mQg A)
   show#[_,λS Q q=>A6 B A (!0) (!0) (!0) q,x1.pass (a2 p pl),Q2.take P A hl J (H b.1).2,Kp.aj L L]
 | give y=>
   let B:=b.2
   rw[(H b.1).1] at B
   let#[p,A]:=F y B s.ai lp
   let pl:=x.ps p (mQg A)
   show#[_,λS Q q=>Au B A (!0) (!0) q,x1.pass (Nat.le_succ_of_le (Y p pl)),Q2.give P A,Kp.aj L L]
 | pass y z=>
   let B:=b.2.1
   let hz:=b.2.2
   rw[(H b.1).1] at B hz
   let#[p,A]:=F y B s.ai lp
   let pl:=x.ps p (mQg A)
   have x2:di w n _:=x.pass (i:=gh (w.ai.map (·.1)) y) (Y p pl)
   let#[p2,a6]:=F z hz (s.ai.set (gh (w.ai.map (·.1)) y) (fO p)) (by simpa using lp)
   let c3:=x2.ps p2 (mQg a6)
   let q3:=Q2.give P A
   show#[_,λS Q q=>Ax B hz A (!0) (!0) (!0) a6 q,(x2.mono (Nat.le_succ n)).pass (a2 p2 c3),Q2.take q3 a6 hl ?_ (H b.1).2,Kp.aj L L]
   intro zz
   let#[d4,e1,e2]:=wZ (rs:=s.aj) (np:=fO p) A
   show J (e1.mem_iff.mpr ?_)
   rcases mQa.mp (e2.mem_iff.mp zz) with zz|zz
   · show mQa.mpr (.inl ?_)
     let#[v,l]:=p
     unfold fO at zz
     cases l with
     |nil=>cases zz
     |cons a l=>show Qpq _ zz
   · show mQa.mpr (.inr zz)
 |say t=>show#[s,λS Q q=>Dc (sd:=.non) q,x1,P,Kp.aj L L]
def Hq(o:dz w)(x:di w n s)(q2:rK w s)(hn:n<=800)(hm:h∈eg w s)(A:s.af[h]?=some (vs,fs))(G:fs.getLast? =some f):∃s' e,eI w s h s' e/\di w (n+1) s'/\rK w s'/\Kp h s s':=by
 let#[ts,b7,hw,hi]:=x.whand A
 let fi:=hi.fr f (QcQ G)
 let#[pr,M,a8,b2]:=fi.pr
 have hl:h<s.af.length:=(gQs.mp A).1
 let b1:=o.l1
 let b4:=o.l4
 let lr:=x.lr
 let lh:=x.lh
 let lf:=hi.lf
 let mm:=(List.mem_filter.mp hm).2
 rw[QCq] at mm
 have B:(h:Int)∉held s:=by
  intro z
  have:=mm.1
  rw[Qeq z] at this
  cases this
 have nb:¬(f.room= -1/\f.row=pr.length):=by
  rintro⟨c1,c2⟩
  have hb:yb w s h=true:=by
   unfold yb E_
   rw[A]
   show(match fs.getLast? with|some f=>_|none=>_)=_
   rw[G]
   erw[M,Option.getD_some,c1,c2,decide_true,Bool.and_true]
  rw[hb] at mm
  show absurd mm.2 (!1)
 have row:∀(r:Rw) (e:Xb),Here s h f->pr[f.row.toNat]?=some r->LN w s h r e->∃s' e,eI w s h s' e/\di w (n+1) s'/\rK w s'/\Kp h s s':=λr e u b X=>by
  let I:=(gQs.mp b).1
  let x2:=x.goes A G M (m:=f.row+1) (!0) (!0)
  have q3:rK w {s with af:=s.af.set h (vs,fs.dropLast++ [{f with row:=f.row+1}])}:=q2.quiet A (mB G L)
  let#[s',hd,N,W,F]:=G8 (f:={f with row:=f.row+1}) (r:=r) (pr:=pr) o x2 q3 B hn u (Qyq hl) (by simp) M (by show 1<=f.row+1;omega) (by show pr[(f.row+1-1).toNat]?=_;rw[show f.row+1-1=f.row by omega];show b)
  show#[s',e,GR A G u M a8 b (!0) (!0) X hd,N,W,#[F.1.trans (by simp),F.2.1,F.2.2]]
 let#[d,a6,a5]:=F8 o M
 have K:∀r,pr[f.row.toNat]?=some r->∃e,LN w s h r e:=λr b=>by
  let Y:=a5 r (mQg b)
  cases r with
  | say t=>
    let#[v,hv,hr]:=mj o x A G a6 Y.2
    show#[some v,v,L,hr]
  |_=>show#[none,L]
 by_cases c:f.room= -1
 ·have I:f.row.toNat<pr.length:=by
   have:f.row≠pr.length:=λz=>nb #[c,z]
   omega
  have b:pr[f.row.toNat]?=some (pr[f.row.toNat]):=gQe I
  let#[e,X]:=K _ b
  show row _ e (.inl c) b X
 ·rcases nT M with⟨c',_⟩|⟨i,j,r,dn,h1,h2,h3,h4⟩
  ·show absurd c' c
  let#[C,p,ri]:=x.wroom h3
  let br:=ri.br
  have U:(wb s h).getLast? =some (i:Int):=by rw[kX A,QfQ,G,<-h1];show congrArg some (l_ c)
  by_cases cw:C.within=h
  ·have u:Here s h f:=.inr #[i,C,h1,p,cw]
   by_cases ce:f.row=pr.length
   ·let a1:=iA G
    let hd:=hi.hd
    rw[a1] at hd
    let#[H,J,hg]:=hd.two c
    have a7:fs=H++ [J,f]:=by rw[a1,hg];simp
    subst a7
    let#[a4,a9]:=hi.pop
    let#[b6,g,rn,b5,t,p1,p2,p3]:=a9
    have x2:di w n {s with aj:=s.aj.set i (b_ C),af:=s.af.set h (vs,H++ [J])}:=(x.hand hw a4).room h3 ri.leave
    let ql:=Q2.leave q2 p
    have R:(h:Int)∉W28.hl s.ai (s.aj.set i (b_ C)):=by
     intro z
     let#[b0,e1,e2]:=rY (ps:=s.ai) (nr:=b_ C) p
     show B (e1.mem_iff.mpr ?_)
     rcases mQa.mp (e2.mem_iff.mp z) with z|z
     ·show mQa.mpr (.inl ?_)
      rcases leave_held C with⟨a,P,_⟩|⟨X,_⟩
      ·show P.mem_iff.mpr (Qpq _ z)
      ·rw[<-X];show z
     ·show mQa.mpr (.inr z)
    have q3:rK w {s with aj:=s.aj.set i (b_ C),af:=s.af.set h (vs,H++ [J])}:=by
     have eo:wb {s with aj:=s.aj.set i (b_ C),af:=s.af.set h (vs,H++ [J])} h=(H++ [J]).map rc:=xP (s:={s with aj:=s.aj.set i (b_ C)}) hl
     unfold rK
     show Q2 w (s.af.set h _).length s.ai (s.aj.set i (b_ C)) _
     rw[List.length_set]
     show Q2.frames ql (h:=h) (λg hg=>wR (s:={s with aj:=s.aj.set i (b_ C)}) hg) R (λj r' hj e=>?_) ?_
     ·rw[eo]
      rcases get_set hj with⟨rfl,rfl⟩|⟨hne,hj⟩
      ·exfalso
       rcases leave_held C with⟨a,P,Z⟩|⟨_,Z,_⟩
       ·rw[Z] at e
        show B (hJ (fr:=wb s) q2 p ?_)
        rw[<-e]
        show P.mem_iff.mpr (QBq ..)
       ·rw[Z] at e
        omega
      ·rcases q2.r2 j r' hj with z|⟨g',e',_,k⟩
       ·omega
       ·have:g'=h:=by omega
        subst this
        rw[kX A,show H++ [J,f]=(H++ [J])++ [f] by simp,Qzq] at k
        rcases mQa.mp k with k|k
        ·show k
        ·let k:=Qfq.mp (show(j:Int)∈[rc f] from k)
         rw[l_ c,h1] at k
         show absurd (by omega:j=i) hne
     ·rw[eo]
      let f0:=q2.fo h hl
      rw[kX A] at f0
      cases H with
      |nil=>show f0
      |cons a l=>show f0
    let#[b3,a2,a0]:=F8 o p1
    let Y:=a0 _ (mQg p3)
    cases g with
    | none=>
      show#[_,none,yJ A G u M ce λS Q q=>qX A h1 p (!0) (!0) p1 p2 p3 (λ_ e=>e.symm) q,x2.mono (Nat.le_succ n),q3,Kp.room (by simp) p L (Ec.own cw)]
    | some y=>
      let#[s',a3,N,W,F]:=BR (y:=y) (v:=f.told) o x2 q3 (Qyq hl) (by simp) a2 (Y.1 y L) fi.tv
      show#[s',none,yJ A G u M ce λS Q q=>qX A h1 p (!0) (!0) p1 p2 p3 (λ_ e=>by rw[e];show a3) q,N.mono (Nat.le_succ n),W,(Kp.room (s':={s with aj:=s.aj.set i (b_ C),af:=s.af.set h (vs,H++ [J])}) (by simp) p L (Ec.own cw)).v F]
   ·have I:f.row.toNat<pr.length:=by omega
    have b:pr[f.row.toNat]?=some (pr[f.row.toNat]):=gQe I
    let#[e,X]:=K _ b
    show row _ e u b X
  ·show#[_,none,Dd A G h1 p cw (!0) (!0),(x.mono (Nat.le_succ n)).room h3 ri.come,Q2.come q2 (h:=h) p hl B U,Kp.room L p L Ec.come]
end
end W28
namespace DL
open L2
section
variable{a:cv}{S:aE}
def Cb{f:et}{Q:(List D×(aE->Prop))->aE->Prop}(h:E f a S λp b=>Q (gy 0 p.1,λc=>p.2.stays c p.1) b):E (yn f) a S Q:=by
 let#[p,b,d,q]:=h
 show#[_,b,by unfold yn;rw[d];rfl,q]
def Of{f:et}{Q:D->aE->Prop}(h:E f a S λp b=>p.2.isL=true/\∃bs,lD p.1=some bs/\Q (.bl (bs.all id)) b):E (Hu f) a S Q:=by
 let#[p,b,c,l,bs,d,q]:=h
 show#[_,b,by unfold Hu;rw[c];erw[Qbq];rw[Qhq l,d];rfl,q]
def NB{i j:Int}{Q:D->Prop}(h:Fq i j)(q:Q (.int (i^j.toNat))):Op (Hb S (.int i) (.int j)) Q:=#[_,by erw[Hb,intD];rw[Qhq h],q]
end
theorem z_:∀n:Nat,lD (List.replicate n (.bl true))=some (List.replicate n true)
 |0=>rfl
 |n+1=>by erw[QNq,lD];rw[z_ n];rfl
end DL
namespace W28
open L2 DL
section
variable{S S0:aE}{Q:Res->aE->Prop}
def D4(l:List Nat):l.map lY=(l.map λh:Nat=>(h:Int)).map D.int:=by rw[QPq];rfl
end
end W28
namespace DL
open L2
def Fy{S:aE}{k:Nat}{ds:List D}{Q:List D×Tag->Prop}(a:S[k]?=some (.frz ds))(q:Q (ds,.fz k)):Op (tW S (.ref k)) Q:=#[_,by erw[tW,a],q]
def NV{S:aE}{k:Nat}{ds:List D}{i:Int}{d:D}{Q:D->Prop}(a:S[k]?=some (.frz ds))(h:mO ds i=some d)(q:Q d):Op (kL S (.ref k) (.int i)) Q:=#[_,by erw[kL,a];show h,q]
def JH{i:Int}{Q:D->Prop}(q:Q (.int (if i<0 then -i else i))):Op (GL [.int i]) Q:=#[_,L,q]
end DL
namespace W28
open L2 DL
section
variable{S:aE}{Q:Res->aE->Prop}
def K7{ns:List Int}{k:Nat}(e:k<100)(f:S[0]?=some (.frz (ns.map D.int)))(q:∀a b:Int,Q (.l [.int a,.int b,.int 0]) S):Fn mw [.ref 0,.int k] S Q:=by
 show bR ?_
 unfold p6
 show aG (cf (eG ?_))
 show aG (T.mono (Q:=λo=>∃d:Int,o=.nx [some (.ref 0),some (.int k),some (.int d)] S) ?_ ?_)
 ·apply dB (bJ (cy (aw L (lg (cn (aw L (Fy f ?_)))))))
  rw[lQm]
  by_cases c:(k:Int)<ns.length
  ·rw[Qeq c,Qhq L]
   have e:k<ns.length:=by omega
   symm
   show NV f (aR (x:=.int ns[k]) (by rw[gQm,gQe e];rfl)) ?_
   show#[_,L]
  ·rw[Qdq c,Quq (!1)]
   show cx #[_,L]
 rintro _ ⟨d,rfl⟩
 dsimp only[bI,bo,bF,cI,cP,g8]
 symm
 apply JH ?_
 apply JH ?_
 show NB #[by decide,by decide,by decide] ?_
 generalize (10:Int)^(18:Int).toNat=c2
 generalize (if d<0 then -d else d)=c1
 symm
 show pd ?_
 have g:Ih c1 (if decide (c2<=c1)=true then 1 else 0):=by
  right
  split <;>decide
 generalize (if decide (c2<=c1)=true then(1:Int) else 0)=c3 at g|-
 apply qO g ?_
 apply oY (!1) ?_
 apply qO (.inl #[by decide,by decide]) ?_
 have h:0<=d%2147483629:=Int.emod_nonneg _ (!1)
 have i:d%2147483629<2147483629:=Int.emod_lt_of_pos _ (!1)
 apply qO (.inl #[by omega,by omega]) ?_
 apply qO (.inr #[by decide,by decide]) ?_
 apply oY (!1) ?_
 show#[by show 3<=_;decide,?_]
 show Fu L (q _ _)
end
end W28
namespace DL
open L2
section
variable{a:cv}{S:aE}
def PJ{n:Nat}{b:cO}{ds:List D}{S:aE}{Q:Res->aE->Prop}(h:T b (ds.map some++List.replicate (n-ds.length) none) S λo=>match o with|.nx _ c=>Q (.d .non) c|.rt d c=>Q (.d d) c|.rl l c=>Q (.l l) c|_=>False):Fn (L3 n b) ds S Q:=by
 let#[o,e,q]:=h
 cases o with
 |nx _ c=>show#[_,_,by unfold L3;rw[e];rfl,q]
 |rt d c=>show#[_,_,by unfold L3;rw[e];rfl,q]
 |rl l c=>show#[_,_,by unfold L3;rw[e];rfl,q]
 |_=>show q.elim
end
theorem gG{α:Type}{f:α->D}{g:α->PyData}:∀{l:List α},(∀a∈l,eX (f a)=some (g a))->df (l.map f)=some (l.map g)
 | [],_=>rfl
 | a::l,h=>by
   erw[QDq,df]
   rw[h a (QBq ..),gG λb c=>h b (Qpq _ c)]
   rfl
theorem iY{α:Type}{g:α->PyData}{n:Nat}:∀{l:List α},(∀a∈l,ST.nu n (g a)=true)->ST.jW n (l.map g)=true
 | [],_=>by simp[ST.jW]
 | a::l,h=>by
   erw[QDq,ST.jW,QCq]
   show#[h a (QBq ..),iY λb c=>h b (Qpq _ c)]
theorem map_inj{α d:Type}{g:α->d}(c:∀a b,g a=g b->a=b):∀{l m:List α},l.map g=m.map g->l=m
 | [],[],_=>rfl
 | a::l,b::m,h=>by
   erw[QDq,List.cons.injEq] at h
   rw[c a b h.1,map_inj c h.2]
 | [],_::_,h=>by simp at h
 |_::_,[],h=>by simp at h
end DL
namespace W28
open L2 DL
noncomputable def jn(l:List Int):PyData:=.tuple (l.map .int)
noncomputable def cg.p(f:cg):PyData:=.tuple [.int f.room,.int f.deed,.int f.row,.int f.given,.int f.told]
noncomputable def q0(p:Int×Int):PyData:=.tuple [.int p.1,.int p.2]
def pB(l:List (Int×Int)):PyData:=.tuple (l.map q0)
def cM.p(r:cM):PyData:=.tuple [jn r.vals,.int r.within,jn r.row,jn r.ag,.tuple (r.aa.map pB)]
def IC(p:Int×List Int):PyData:=.tuple [.int p.1,jn p.2]
def ID(h:List Int×List cg):PyData:=.tuple [jn h.1,.tuple (h.2.map cg.p)]
def aO.p(s:aO):PyData:=.tuple [.tuple (s.aj.map cM.p),.tuple (s.ai.map IC),jn s.ak,.tuple (s.af.map ID)]
def jr(l:List Int):eX (cQ l)=some (jn l):=by
 unfold cQ jn
 erw[eX]
 rw[gG (g:=PyData.int) λ_ _=>rfl]
 rfl
def mH(n:Nat)(l:List Int):ST.nu (n+1) (jn l)=true:=by
 unfold jn
 erw[ST.nu]
 show iY λ_ _=>by simp[ST.nu]
def Im(f:cg):eX f.d=some f.p:=by simp[cg.d,cg.p,eX,df]
def Le(n:Nat)(f:cg):ST.nu (n+1) f.p=true:=by simp[cg.p,ST.nu,ST.jW]
def Fl(p:Int×Int):eX (pairD p)=some (q0 p):=by simp[pairD,q0,eX,df]
def Gq(l:List (Int×Int)):eX (eh l)=some (pB l):=by
 unfold eh pB
 erw[eX]
 rw[gG (g:=q0) λp _=>Fl p]
 rfl
def Jd(n:Nat)(l:List (Int×Int)):ST.nu (n+2) (pB l)=true:=by
 unfold pB
 erw[ST.nu]
 show iY λ_ _=>by simp[q0,ST.nu,ST.jW]
def Hl(r:cM):eX r.d=some r.p:=by
 unfold cM.d cM.p
 erw[eX,df]
 rw[jr,jr,jr,gG (g:=pB) λl _=>Gq l]
 rfl
def JX(n:Nat)(r:cM):ST.nu (n+4) r.p=true:=by
 unfold cM.p
 erw[ST.nu,ST.jW,QCq]
 show#[mH _ _,trivial,mH _ _,mH _ _,iY λl _=>Jd n l,trivial]
def Ll(p:Int×List Int):eX (Ad p)=some (IC p):=by
 unfold Ad IC
 erw[eX,df]
 rw[jr]
 rfl
def Mz(n:Nat)(p:Int×List Int):ST.nu (n+2) (IC p)=true:=by
 unfold IC
 erw[ST.nu,ST.jW,QCq]
 show#[trivial,mH _ _,trivial]
def KY(h:List Int×List cg):eX (Ao h)=some (ID h):=by
 unfold Ao ID
 erw[eX,df]
 rw[jr,gG (g:=cg.p) λf _=>Im f]
 rfl
def NQ(n:Nat)(h:List Int×List cg):ST.nu (n+3) (ID h)=true:=by
 unfold ID
 erw[ST.nu,ST.jW,QCq]
 show#[mH _ _,iY λf _=>Le n f,trivial]
def aO.num(s:aO):eX s.d=some s.p:=by
 unfold aO.d aO.p
 erw[eX,df]
 rw[gG (g:=cM.p) λr _=>Hl r,gG (g:=IC) λp _=>Ll p,jr,gG (g:=ID) λh _=>KY h]
 rfl
def aO.nu(s:aO):ST.nu 8 s.p=true:=by
 unfold aO.p
 erw[ST.nu,ST.jW,QCq]
 show#[iY λr _=>JX 2 r,iY λp _=>Mz 4 p,mH _ _,iY λh _=>NQ 3 h,trivial]
def jD{l m:List Int}(h:jn l=jn m):l=m:=by
 unfold jn at h
 injection h with h
 show map_inj (λa b e=>by injection e) h
def Gb(a b:Int×Int)(h:q0 a=q0 b):a=b:=by
 let#[e,d]:=a
 let#[c,f]:=b
 simp[q0] at h
 rw[h.1,h.2]
def Ep(l m:List (Int×Int))(h:pB l=pB m):l=m:=by
 unfold pB at h
 injection h with h
 show map_inj Gb h
def Jf(a b:cg)(h:a.p=b.p):a=b:=by
 let#[g,f,k,c,m]:=a
 let#[d,i,l,j,e]:=b
 simp[cg.p] at h
 let#[rfl,rfl,rfl,rfl,rfl]:=h
 rfl
def Ie(a b:cM)(h:a.p=b.p):a=b:=by
 let#[m,l,q,i,s]:=a
 let#[j,n,r,o,k]:=b
 unfold cM.p at h
 injection h with h
 erw[List.cons.injEq,and_true] at h
 let#[f,c,g,e,d]:=h
 injection c with c
 injection d with d
 rw[jD f,jD g,jD e,map_inj Ep d,c]
def KS(a b:Int×List Int)(h:IC a=IC b):a=b:=by
 let#[g,f]:=a
 let#[e,i]:=b
 unfold IC at h
 injection h with h
 erw[List.cons.injEq,and_true] at h
 let#[c,d]:=h
 injection c with c
 rw[jD d,c]
def KQ(a b:List Int×List cg)(h:ID a=ID b):a=b:=by
 let#[g,f]:=a
 let#[e,i]:=b
 unfold ID at h
 injection h with h
 erw[List.cons.injEq,and_true] at h
 let#[d,c]:=h
 injection c with c
 rw[jD d,map_inj Jf c]
def aO.inj{a b:aO}(h:a.p=b.p):a=b:=by
 let#[k,j,n,g]:=a
 let#[i,l,o,m]:=b
 unfold aO.p at h
 injection h with h
 erw[List.cons.injEq,and_true] at h
 let#[e,c,f,d]:=h
 injection e with e
 injection c with c
 injection d with d
 rw[map_inj Ie e,map_inj KS c,jD f,map_inj KQ d]
def aO.injD{a b:aO}(h:a.d=b.d):a=b:=by
 have:=a.num
 rw[h,b.num] at this
 show(aO.inj (QdQ this)).symm
def vV{b:List aO}{s:aO}:oV (b.map aO.d) s.p=true↔s∈b:=by
 unfold oV
 rw[List.any_map,List.any_eq_true]
 constructor
 ·rintro⟨a,c,e⟩
  have e:(match eX a.d with|some q=>PyData.eqv q s.p|none=>false)=true:=e
  rw[a.num] at e
  have:=aO.inj (ST.ub a.nu s.nu e)
  subst this
  show c
 ·intro h
  show#[s,h,?_]
  show(match eX s.d with|some q=>PyData.eqv q s.p|none=>false)=true
  rw[s.num]
  show SeqAt.eqv_refl _ (ST.ed s.nu).1
def vo{w:cu}{s c b:aO}{h:Nat}{f e:Xb}(k:eI w s h c f)(j:eI w s h b e):c=b:=by
 let#[m,p,l,i]:=k [] (λr _=>r=.d (El c h f)) L
 let#[o,n,g,a]:=j [] (λr _=>r=.d (El b h e)) L
 rw[l] at g
 cases g
 rw[i] at a
 unfold El at a
 injection a with a
 injection a with a
 erw[List.cons.injEq] at a
 show aO.injD a.1
def Nx(w:cu)(s s':aO):Prop:=∃h e,h∈eg w s/\eI w s h s' e
inductive Rc(w:cu)(s:aO):aO->Prop
 |refl:Rc w s s
 |step {s1 s2:aO}:Rc w s s1->Nx w s1 s2->Rc w s s2
def Gd(w:cu)(n:Nat)(s:aO):Prop:=di w n s/\rK w s
def Gd.mono{w:cu}{n m:Nat}{s:aO}(x:Gd w n s)(l:n<=m):Gd w m s:=⟨x.1.mono l,x.2⟩
def Gd.next{w:cu}{n h:Nat}{s:aO}(o:dz w)(x:Gd w n s)(l:n<=800)(b:h∈eg w s):∃s' e,eI w s h s' e/\Gd w (n+1) s'/\Kp h s s':=by
 have hl:h<s.af.length:=List.mem_range.mp (List.mem_filter.mp b).1
 obtain⟨⟨m,t⟩,a⟩:∃p,s.af[h]?=some p:=#[_,gQe hl]
 let#[u,q,r,k]:=x.1.whand a
 let#[f,i,v]:=k.last
 let#[s',e,g,c,j,d]:=Hq o x.1 x.2 l b a i
 show#[s',e,g,#[c,j],d]
abbrev Fd:=aO×Int×Int×List Nat
noncomputable def Ed(p:Fd):D:=.tup [p.1.d,.int p.2.1,.int p.2.2.1]
inductive Wk(w:cu)(s:aO):List Nat->aO->Prop
 |nil:Wk w s [] s
 |snoc {l:List Nat} {s1 s2:aO} {h:Nat} {e:Xb}:Wk w s l s1->h∈eg w s1->eI w s1 h s2 e->Wk w s (l++ [h]) s2
def CC(w:cu)(s:aO)(h:Nat):aO:=open Classical in if c:∃a e,eI w s h a e then c.choose else s
def BA{w:cu}{s s':aO}{h:Nat}{e:Xb}(a:eI w s h s' e):CC w s h=s':=by
 have c:∃s' e,eI w s h s' e:=#[s',e,a]
 unfold CC
 rw[dif_pos c]
 let#[d,b]:=c.choose_spec
 show vo b a
def uU(w:cu)(k:Nat)(p:Fd)(gs:List Fd)(h:Nat):List Fd:=open Classical in if CC w p.1 h∈gs.map (·.1) then gs else gs++ [(CC w p.1 h,(k:Int),(h:Int),p.2.2.2++ [h])]
def run(w:cu)(a:aO):Nat->List Fd
 |0=> [(a,-1,-1,[])]
 | k+1=>match (run w a k)[k]? with
   |some p=>(eg w p.1).foldl (uU w k p) (run w a k)
   |none=>run w a k
structure Cm(w:cu)(n:Nat)(s0:aO)(k:Nat)(fs:List Fd):Prop where
 hd:fs[0]?=some (s0,-1,-1,[])
 nd:(fs.map (·.1)).Nodup
 rc:∀(i:Nat) (p:Fd),fs[i]?=some p->Rc w s0 p.1/\Gd w (n+i) p.1
 cl:∀(i:Nat) (p:Fd),i<k->fs[i]?=some p->∀s',Nx w p.1 s'->s'∈fs.map (·.1)
 wy:∀(i:Nat) (p:Fd),fs[i]?=some p->Wk w s0 p.2.2.2 p.1/\((p.2.1= -1/\p.2.2.2= [])\/∃(j:Nat) (r:Fd) (h:Nat),p.2.1=(j:Int)/\j<i/\fs[j]?=some r/\p.2.2.1=(h:Int)/\p.2.2.2=r.2.2.2++ [h])
section
variable{w:cu}{n:Nat}{a:aO}{S:aE}{Q:Res->aE->Prop}
def Cm.all{fs:List Fd}(x:Cm w n a fs.length fs){s:aO}(h:Rc w a s):s∈fs.map (·.1):=by
 induction h with
 | refl=>
   show Qkq.mpr #[_,mQg x.hd,L]
 | step _ e d=>
   let#[p,c,rfl]:=Qkq.mp d
   let#[i,b]:=List.getElem?_of_mem c
   show x.cl i p (gQs.mp b).1 b _ e
def CF(o:dz w){s:aO}(x:di w n s):(eg w s).length<=4:=by
 let b:=List.length_filter_le (λh:Nat=> !decide ((h:Int)∈held s)&& !yb w s h) (List.range s.af.length)
 let c:=x.lh
 let d:=o.l4
 rw[QVq] at b
 unfold eg
 omega
def Cm.add{k j h:Nat}{fs:List Fd}{r:Fd}{s':aO}{e:Xb}(x:Cm w n a k fs)(I:s'∉fs.map (·.1))(G:Rc w a s')(v:Gd w (n+fs.length) s')(P:k<=fs.length)(m:fs[j]?=some r)(J:h∈eg w r.1)(g:eI w r.1 h s' e):Cm w n a k (fs++ [(s',(j:Int),(h:Int),r.2.2.2++ [h])]):=by
 show#[?_,?_,λi p b=>?_,λi p H b A u=>?_,λi p b=>?_]
 ·rw[QHq (gQs.mp x.hd).1];show x.hd
 ·rw[Qzq,List.nodup_append]
  show#[x.nd,by simp,λc N d f=>?_]
  have f:d=s':=by simpa using f
  subst f
  show λz=>I (z▸N)
 ·by_cases c:i<fs.length
  ·rw[QHq c] at b
   show x.rc i p b
  ·rw[QQq (!0)] at b
   have z:i-fs.length=0:=by have:=(gQs.mp b).1;simp at this;omega
   rw[z] at b
   cases b
   have:i=fs.length:=by omega
   subst this
   show#[G,v]
 ·rw[QHq (!0)] at b
  rw[Qzq]
  show mQa.mpr (.inl (x.cl i p H b A u))
 ·let l:=(gQs.mp m).1
  by_cases c:i<fs.length
  ·rw[QHq c] at b
   let#[q,o]:=x.wy i p b
   show#[q,?_]
   rcases o with o|⟨s,t,y,K,M,B,F,C⟩
   ·show .inl o
   ·show .inr #[s,t,y,K,M,by rw[QHq (!0)];show B,F,C]
  ·rw[QQq (!0)] at b
   have z:i-fs.length=0:=by have:=(gQs.mp b).1;simp at this;omega
   rw[z] at b
   cases b
   show#[.snoc (x.wy j r m).1 J g,.inr #[j,r,h,L,by omega,by rw[QHq l];show m,L,L]]
def IT(o:dz w)(x:Gd w n a){most:Nat}(hm:most<=400)(hn:n<=300)
  (q:∀(fs:List Fd) (g:aE),mI S g->g[S.length+1]?=some (.lst (fs.map Ed))->(∃k,Cm w n a k fs/\(fs.length<=most->k=fs.length)/\fs=run w a k)->fs.length<=500->Q (.d (if fs.length<=most then .ref (S.length+1) else .non)) g):Fn pz [w.d,a.d,.int most] S Q:=by
 show PJ ?_
 unfold zX
 show aG (cf (Pp ?_))
 show aG (mK (JC (aw L #[_,_,L,aW,aw L #[_,_,a.p,L,aW,a.num,#[a.nu,Nat.zero_le _],?_]])))
 have e0:(S++ [O.sett []]).set S.length (.sett (if oV [] a.p=true then [] else []++ [a.d]))=S++ [O.sett [a.d]]:=by
  rw[List.set_append_right _ _ (Qmq _)]
  simp[oV]
 show T _ _ ((S++ [O.sett []]).set S.length (.sett (if oV [] a.p=true then [] else []++ [a.d]))) _
 rw[e0]
 show aG (cf (dG (c_ (ax (dH (ax (aw L (ax (pE (eG #[_,L,ax (pE (eG #[_,L,aN #[by show 3<=_;decide,aN #[by show 1<=_;decide,?_]]]))]))))))))))
 show aG (cf (eG ?_))
 have X:(S++ [O.sett [a.d]]).length=S.length+1:=by simp
 have a1:((S++ [O.sett [a.d]])++ [O.lst [Ed (a,-1,-1,[])]])[S.length]?=some (.sett [a.d]):=bq aW
 have Z:((S++ [O.sett [a.d]])++ [O.lst [Ed (a,-1,-1,[])]])[S.length+1]?=some (.lst [Ed (a,-1,-1,[])]):=by rw[<-X];show aW
 have a4:mI S ((S++ [O.sett [a.d]])++ [O.lst [Ed (a,-1,-1,[])]]):=mI.refl.app.app
 show T _ [some w.d,some a.d,some (.int most),some (.ref S.length),some (.ref (S++ [O.sett [a.d]]).length),some (.int 0),none,none,none,none] ((S++ [O.sett [a.d]])++ [O.lst [Ed (a,-1,-1,[])]]) _
 rw[X]
 generalize (S++ [O.sett [a.d]])++ [O.lst [Ed (a,-1,-1,[])]]=S1 at a1 Z a4|-
 have b4:Cm w n a 0 [(a,-1,-1,[])]:=by
  show#[L,by simp,λi p v=>?_,λi p hi=>absurd hi (Nat.not_lt_zero _),λi p v=>?_]
  ·cases i with
   |zero=>cases v;show#[.refl,x]
   |succ i=>simp at v
  ·cases i with
   |zero=>cases v;show#[.nil,.inl #[L,L]]
   |succ i=>simp at v
 have a3:∀(fs:List Fd) (g:aE) (k:Nat) (a5 a6 P N a9:Option D),mI S g->g[S.length+1]?=some (.lst (fs.map Ed))->Cm w n a k fs->(fs.length<=most->k=fs.length)->fs=run w a k->fs.length<=500->
   T (cB (sW (aJ (bp L1 (ee (aS (au 4))) (au 2))) (au 4) (cF .non))) [some w.d,some a.d,some (.int most),some (.ref S.length),some (.ref (S.length+1)),a5,a6,P,N,a9] g (λo=>match o with|.nx _ g=>Q (.d .non) g|.rt d g=>Q (.d d) g|.rl l g=>Q (.l l) g|_=>False):=by
  intro fs g k a5 a6 P N a9 be hf M hk t hl
  let qq:=q fs g be hf #[k,M,hk,t] hl
  show dk (N_ (bJ (cy (lg (cn (aw L (bN hf (aw L (xC ?_)))))))))
  rw[lQm]
  show bc (λc=>?_) (λc=>?_)
  ·have c:fs.length<=most:=by have:=QZq c;omega
   rw[Qhq c] at qq
   show aw L qq
  ·have c:¬fs.length<=most:=λz=>by have:=QaQ c;omega
   rw[Quq c] at qq
   show eG qq
 show aG (M1 (λm s g=>∃(fs:List Fd) (k:Nat) (a6 P N a9:Option D),s= [some w.d,some a.d,some (.int most),some (.ref S.length),some (.ref (S.length+1)),some (.int k),a6,P,N,a9]/\mI S g/\g[S.length]?=some (.sett ((fs.map (·.1)).map aO.d))/\g[S.length+1]?=some (.lst (fs.map Ed))/\Cm w n a k fs/\k<=fs.length/\m+k=most/\fs.length<=most+4/\fs=run w a k) (λm s g hI=>?_) 500 most _ _ (!0) #[[(a,-1,-1,[])],0,_,_,_,_,L,a4,a1,Z,b4,Nat.zero_le _,L,by simp,L])
 let#[fs,k,a6,P,N,a9,rfl,be,hS,hF,M,hk,hmk,hfl,t]:=hI
 show qv (bJ (cy (aw L (lg (cn (aw L (bN hF (xC ?_))))))))
 rw[lQm]
 show bc (λc=>?_) (λc=>?_)
 ·have c:k<fs.length:=by have:=QZq c;omega
  show bJ (cy (lg (cn (aw L (bN hF (aw L (xC ?_)))))))
  rw[lQm]
  show bc (λK=>?_) (λK=>?_)
  ·have K:fs.length<=most:=by have:=QZq K;omega
   obtain⟨m',rfl⟩:∃m',m=m'+1:=⟨m-1,by omega⟩
   show⟨m',L,?_⟩
   obtain⟨p,v⟩:∃p,fs[k]?=some p:=#[_,gQe c]
   let#[b1,I]:=M.rc k p v
   show aG (cf (cy (cy (aw L (aw L (dW (d:=Ed p) hF (aR (by rw[gQm,v];rfl)) (eG (aA (d:=p.1.d) L ?_))))))))
   let J:=I.1.mays o (!0)
   let b5:=CF o I.1
   show aG (gU (nI (iI (xp (ax (aw L (ax (aw L (aN ?_)))))))))
   show J _ _ ?_
   show#[λj s y=>∃(b:List Fd) (b7 b8 b9:Option D),s= [some w.d,some a.d,some (.int most),some (.ref S.length),some (.ref (S.length+1)),some (.int k),some p.1.d,b7,b8,b9]/\mI S y/\y[S.length]?=some (.sett ((b.map (·.1)).map aO.d))/\y[S.length+1]?=some (.lst (b.map Ed))/\Cm w n a k b/\fs <+: b/\b.length<=fs.length+j/\(∀i h,i<j->(eg w p.1)[i]?=some h->∀f e,eI w p.1 h f e->f∈b.map (·.1))/\b=((eg w p.1).take j).foldl (uU w k p) fs,#[fs,_,_,_,L,be,hS,hF,M,List.prefix_refl _,Qmq _,λi h hi=>absurd hi (Nat.not_lt_zero _),L],λ_ _ _ _=>trivial,?_,?_]
   ·rintro j d s y hd ⟨b,b7,b8,b9,rfl,be2,hS2,hF2,cm2,pre,gl,done,hfo2⟩
    rw[gQm] at hd
    let#[h,hh,rfl]:=oQm.mp hd
    let hj:=(gQs.mp hh).1
    let u:=mQg hh
    let#[f,e,r,b0,_]:=I.next o (!0) u
    let b3:=pre.length_le
    have R:((eg w p.1).take (j+1)).foldl (uU w k p) fs=uU w k p b h:=by
     rw[QYq,hh,List.foldl_append,<-hfo2]
     rfl
    have Y:∀(B:List Fd),b <+: B->f∈B.map (·.1)->∀i h0,i<j+1->(eg w p.1)[i]?=some h0->∀s1 e1,eI w p.1 h0 s1 e1->s1∈B.map (·.1):=λB A b2 i h0 hi h1 s1 e1 G=>by
     by_cases ci:i=j
     ·subst ci
      rw[hh] at h1
      cases h1
      rw[vo G r]
      show b2
     ·show(List.IsPrefix.map (·.1) A).subset (done i h0 (!0) h1 s1 e1 G)
    show aQ ?_
    show aG (xh (bX (ax (aw L (ax (aw L (ax (aw L (aN ?_)))))))))
    show r _ _ ?_
    show dJ L (ay (aQ (ay (aQ (bg ?_)))))
    show dB (bJ (MC (aw L (aw L #[_,_,_,f.p,L,L,hS2,f.num,#[f.nu,by rw[lQm,lQm];omega],?_]))))
    show bc (λC=>?_) (λC=>?_)
    ·have C:¬oV ((b.map (·.1)).map aO.d) f.p=true:=by simpa using C
     have H:f∉b.map (·.1):=λz=>C (vV.mpr z)
     show aG (mK (JC (aw L #[_,_,L,hS2,aw L #[_,_,f.p,L,hS2,f.num,#[f.nu,by rw[lQm,lQm];omega],?_]])))
     rw[Quq C]
     have F:(y.set S.length (.sett ((b.map (·.1)).map aO.d++ [f.d])))[S.length+1]?=some (.lst (b.map Ed)):=i9 (!0) hF2
     have W:(y.set S.length (.sett ((b.map (·.1)).map aO.d++ [f.d])))[S.length]?=some (.sett ((b.map (·.1)).map aO.d++ [f.d])):=fY hS2
     have a2:mI S (y.set S.length (.sett ((b.map (·.1)).map aO.d++ [f.d]))):=be2.put (Qmq _)
     show T _ _ (y.set S.length (.sett ((b.map (·.1)).map aO.d++ [f.d]))) _
     generalize y.set S.length (.sett ((b.map (·.1)).map aO.d++ [f.d]))=S3 at F W a2|-
     show mK (y6 (aw L #[_,_,L,F,ax (dH (ax (aw L (ax (aw L (ax (aw L (aN #[by show 3<=_;decide,aN ?_]))))))))]))
     show#[_,F,m7 (by rw[lQm];show aM (!0)) ?_]
     show#[b++ [(f,(k:Int),(h:Int),p.2.2.2++ [h])],_,_,_,L,a2.put (!0),i9 (!0) (by rw[Qzq,Qzq];show W),?_,cm2.add H (.step b1 #[h,e,u,r]) (b0.mono (!0)) (!0) (cD pre v) u r,pre.trans (List.prefix_append _ _),by rw[lQa];simp;omega,Y _ (List.prefix_append _ _) (by rw[Qzq];simp),by rw[R];unfold uU;rw[BA r,Quq H]]
     rw[fY F,Qzq]
     rfl
    ·have C:oV ((b.map (·.1)).map aO.d) f.p=true:=by simpa using C
     show cx #[b,_,_,_,L,be2,hS2,hF2,cm2,pre,by omega,Y b (List.prefix_refl _) (vV.mp C),by rw[R];unfold uU;rw[BA r,Qhq (vV.mp C)]]
   ·rintro s y ⟨b,b7,b8,b9,rfl,be2,hS2,hF2,cm2,pre,gl,done,hfo2⟩
    rw[lQm] at gl done hfo2
    rw[QEq] at hfo2
    show Po (m:=(k:Int)) L (eG #[1,L,?_])
    let b3:=pre.length_le
    show#[b,k+1,_,_,_,_,L,be2,hS2,hF2,#[cm2.hd,cm2.nd,cm2.rc,λi p' hi A f a0=>?_,cm2.wy],by omega,by omega,by omega,?_]
    rotate_left
    ·rw[hfo2,run,<-t,v]
    by_cases ci:i=k
    ·subst ci
     have:p'=p:=by
      have:=cD pre v
      rw[A] at this
      show QdQ this
     subst this
     let#[h,e,u,r]:=a0
     let#[i',U]:=List.getElem?_of_mem u
     show done i' h (gQs.mp U).1 U f e r
    ·show cm2.cl i p' (!0) A f a0
  ·have K:¬fs.length<=most:=λz=>by have:=QaQ K;omega
   show a3 fs g k _ _ _ _ _ be hF M (λz=>absurd z K) t (!0)
 ·have c:¬k<fs.length:=λz=>by have:=QaQ c;omega
  show a3 fs g k _ _ _ _ _ be hF M (λ_=>by omega) t (!0)
end
end W28
namespace DL
open L2
def La{b:cv}{S:aE}{T U:String}{f:bj}{Q:D->aE->Prop}(h:E f b S λd a=>Op (uc a T d) λk=>Op (uc a U d) λl=>Q (.bl (k||l)) a):E (zL T U f) b S Q:=by
 let#[d,a,c,k,g,l,e,q]:=h
 show#[_,a,by unfold zL;rw[c];erw[Qbq];rw[g];erw[Qbq];rw[e];rfl,q]
def oO{g:cv}{S:aE}{T U:String}{f:bj}{d:D}{b c:Bool}{Q:Bool->aE->Prop}(h:E f g S λx e=>x=d/\e=S)(i:uc S T d=some b)(a:uc S U d=some c)(q:Q (b||c) S):E (mJ (zL T U f)) g S Q:=by
 show CQ (La (h.mono λx e k=>?_))
 let#[j,l]:=k
 subst j l
 show#[_,i,_,a,Aq q]
def FP{S:aE}{a:Bool}{Q:D->Prop}(q:Q (.bl false)):Op (gk true S (.bl a) (.bl a)) Q:=#[_,by cases a <;>rfl,q]
end DL
namespace W28
open L2 DL
section
variable{S S0:aE}{Q:Res->aE->Prop}
def Pl:Nat->D->Prop
 |0,_=>False
 |_+1,.int _=>True
 |_+1,.str _=>True
 |_+1,.non=>True
 |n+1,.tup ds=>ds.length<=1000/\∀d∈ds,Pl n d
 |_+1,_=>False
theorem yy:∀ds:List D,yY ds ds=ds.map λd=>D.tup [d,d]
 | []=>rfl
 | d::ds=>by
   have:=yy ds
   erw[yY,List.zipWith_cons_cons,QDq] at this|-
   rw[this]
theorem xQ:∀(n:Nat) (d:D) {S:aE} {Q:Res->aE->Prop},Pl n d->Q (.d (.bl true)) S->Fn (fg n) [d,d] S Q
 |0,_,_,_,h,_=>h.elim
 | n+1,.int i,S,Q,_,q=>by
   show bR ?_
   unfold gc
   show aG (dB (oO (d:=.int i) (aw L #[L,L]) L L ?_))
   show bc (λc=>by cases c) (λ_=>cx ?_)
   show aG (dB (bJ (cy (aw L (eG (iP ?_))))))
   show jc ?_
   show bc (λc=>by cases c) (λ_=>cx ?_)
   show aG (dB (fR (d:=.int i) (aw L #[L,L]) L ?_))
   show bc (λc=>by cases c) (λ_=>cx ?_)
   show dk (tx (qZ (aw L #[_,L,true,L,?_])))
   rw[Qhq L]
   show tx (J2 (qZ (aw L #[_,L,false,L,true,L,?_])))
   rw[Qhq L]
   symm
   show gV ?_
   rw[Qeq L]
   show cC (λk z=>(nomatch z)) L q
 | n+1,.non,S,Q,_,q=>by
   show bR ?_
   unfold gc
   show aG (dB (oO (d:=.non) (aw L #[L,L]) L L ?_))
   show bc (λc=>by cases c) (λ_=>cx ?_)
   show aG (dB (bJ (cy (aw L (eG (iP ?_))))))
   show jc ?_
   show bc (λ_=>?_) (λc=>by cases c)
   show dk (cy (aw L (eG (iP ?_))))
   show cC (λk z=>(nomatch z)) L q
 | n+1,.str i,S,Q,_,q=>by
   show bR ?_
   unfold gc
   show aG (dB (oO (d:=.str i) (aw L #[L,L]) L L ?_))
   show bc (λc=>by cases c) (λ_=>cx ?_)
   show aG (dB (bJ (cy (aw L (eG (iP ?_))))))
   show jc ?_
   show bc (λc=>by cases c) (λ_=>cx ?_)
   show aG (dB (fR (d:=.str i) (aw L #[L,L]) L ?_))
   show bc (λ_=>?_) (λc=>by cases c)
   show dk (tx (qZ (aw L #[_,L,true,L,?_])))
   rw[Qhq L]
   symm
   show iy ?_
   rw[Qeq L]
   show cC (λk z=>(nomatch z)) L q
 | n+1,.tup ds,S,Q,h,q=>by
   show bR ?_
   unfold gc
   show aG (dB (oO (d:=.tup ds) (aw L #[L,L]) L L ?_))
   show bc (λ_=>?_) (λc=>by cases c)
   show aG (dB (sQ (bJ (cy (qZ (aw L #[_,L,qZ (aw L #[_,L,FP ?_])]))))))
   show jc ?_
   show bc (λc=>by cases c) (λ_=>?_)
   show bJ (cy (qZ (aw L #[_,L,qZ (aw L #[_,L,FP ?_])])))
   show jc ?_
   show bc (λc=>by cases c) (λ_=>cx ?_)
   show dk (tx (cy (lg (cn (aw L (d_ (lg (cn (aw L (d_ (gV #[_,L,?_])))))))))))
   rw[Qeq L,Qhq L]
   show Of (iI ?_)
   apply se (α:=D) (λe=>∃a b,e= [a,b]) (λd=>D.tup [d,d]) (λ_=>.bl true) (λ_=>true) #[none,none,L] (Ge ?_)
   show#[#[trivial,Qmq _],ds,yy ds,#[trivial,trivial],h.1,λd g e f=>?_,?_]
   · let#[a,b,rfl]:=f
     show dJ L (ay (aQ (ay (aQ (bg ?_)))))
     apply#[L,#[_,_,L],gM #[L,L,λ_=>?_]]
     show xQ n d (h.2 d g) #[L,L]
   · show#[L,List.replicate ds.length true,?_,?_]
     · rw[<-z_]
       congr 1
       rw[List.filter_eq_self.mpr (λ_ _=>rfl),List.map_const']
     · have:(List.replicate ds.length true).all id=true:=by simp
       rw[this]
       show cC (λk z=>(nomatch z)) L q
end
abbrev D0:=List (Nat×aO×Option Int)
def gf(w:cu)(tr:D0):aO:=match tr.getLast? with
 |none=>bf w
 |some x=>x.2.1
noncomputable def q_(x:Nat×aO×Option Int):List (Nat×Int):=match x.2.2 with
 |none=> []
 |some v=> [(x.1,v)]
def B9(tr:D0):List (Nat×Int):=tr.flatMap q_
noncomputable def LY(p:Nat×Int):D:=.tup [.int p.1,.int p.2]
def tO(w:cu)(tr:D0):Prop:=∀(n:Nat) (h:Nat) (a:aO) (e:Xb),tr[n]?=some (h,a,e)->DS w (gf w (tr.take n))/\h∈eg w (gf w (tr.take n))/\eI w (gf w (tr.take n)) h a e
def pN{w:cu}{tr:D0}{n:Nat}{x:Nat×aO×Option Int}(h:tr[n]?=some x):gf w (tr.take (n+1))=x.2.1:=by
 unfold gf
 rw[QYq,h]
 simp
def Ey{w:cu}{tr:D0}{x:Nat×aO×Option Int}:gf w (tr++ [x])=x.2.1:=by
 unfold gf
 simp
def tO.app{w:cu}{tr:D0}{h:Nat}{s':aO}{e:Xb}(x:tO w tr)(i:DS w (gf w tr))(g:h∈eg w (gf w tr))(k:eI w (gf w tr) h s' e):tO w (tr++ [(h,s',e)]):=by
 intro n d f j a
 by_cases c:n<tr.length
 ·rw[QHq c] at a
  rw[List.take_append_of_le_length (!0)]
  show x n d f j a
 ·let hl:=(gQs.mp a).1
  have b:n=tr.length:=by simp at hl;omega
  subst b
  simp at a
  let#[rfl,rfl,rfl]:=a
  rw[List.take_append_of_le_length (!0),QEq]
  show#[i,g,k]
def xK{tr:D0}:(B9 tr).length<=tr.length:=by
 have:=kZ (f:=q_) (n:=1) (l:=tr) λx _=>by unfold q_;split <;>simp
 unfold B9
 omega
def q5(w:cu)(tr:D0):D:=.tup [(gf w tr).d,.tup ((B9 tr).map LY)]
section
variable{S S0:aE}{Q:Res->aE->Prop}
def Dy{w:cu}{tr:D0}(o:dz w)(ok:tO w tr)(hl:tr.length<=900)(q:Q (.d (q5 w tr)) S):Fn sf [w.d,.tup ((tr.map (·.1)).map lY)] S Q:=by
 show bR ?_
 unfold wY
 symm
 apply jI o ?_
 show#[by decide,?_]
 apply aG (gU (Cb ?_))
 show#[λn g p=>(∃a b c,g= [some w.d,some (.tup ((tr.map (·.1)).map lY)),some (gf w (tr.take n)).d,some (.ref S.length),a,b,c])/\p=S++ [.lst ((B9 (tr.take n)).map LY)],#[#[_,_,_,L],L],λ_ _ _ _=>trivial,?_,?_]
 ·rintro n d g p B ⟨⟨a,b,c,rfl⟩,rfl⟩
  let#[x,y,rfl]:=qA B
  rw[gQm,gQm] at y
  let#[F,l,rfl]:=oQm.mp y
  let#[#[h,i,e],f,rfl]:=oQm.mp l
  let#[t,r,u]:=ok n h i e f
  have A:gf w (tr.take (n+1))=i:=pN f
  have m:B9 (tr.take (n+1))=B9 (tr.take n)++q_ (h,i,e):=jx f
  have C:(B9 (tr.take n)).length<=900:=by
   have:=xK (tr:=tr.take n)
   rw[Qxq] at this
   omega
  generalize gf w (tr.take n)=s at t r u|-
  generalize B9 (tr.take n)=es at m C|-
  show dJ L (ay (aQ (ay (aQ (bg ?_)))))
  apply aG (dB (bJ (Ee ?_)))
  show t _ _ ?_
  dsimp only[bI,bo,bF,cI,cP,g8]
  show#[_,_,L,by rw[D4];show gn _,?_]
  rw[o7,Qeq (Qkq.mpr #[h,r,L])]
  apply bc (λc=>by cases c) (λ_=>cx ?_)
  show u _ _ ?_
  apply dJ L (ay (aQ (ay (aQ (bg ?_)))))
  show iP ?_
  cases e with
  | none=>
    show bc (λc=>by cases c) (λ_=>cx ?_)
    show#[#[_,_,_,by rw[A];rfl],?_]
    rw[m]
    simp[q_]
  | some v=>
    show bc (λ_=>?_) (λc=>by cases c)
    apply mK (y6 ?_)
    apply#[_,_,L,aW,?_]
    show#[_,aW,#[_,by unfold k_;show Qhq (by rw[lQm];show aM (!0)),?_]]
    show#[#[_,_,_,by rw[A];rfl],?_]
    rw[m]
    simp[q_,LY,He]
 ·rintro g p ⟨⟨a,b,c,rfl⟩,rfl⟩
  have j:(gy 0 ((tr.map (·.1)).map lY)).length=tr.length:=by rw[pX];simp
  rw[j,QEq]
  symm
  show bN aW ?_
  apply#[L,?_]
  show#[by show 2<=_;decide,?_]
  show qT (d:=q5 w tr) (mI.refl.app) (λk z=>(nomatch z)) ?_ q
  erw[q5,cj,bC,aO.low,Bool.and_true,Bool.true_and]
  show aZ λ_ _=>rfl
end
end W28
namespace DL
open L2
def BJ{S:aE}{a:Bool}{x y:D}{p r:PyData}{Q:D->Prop}(c:jm x=some p)(b:jm y=some r)(d:p.depth<=60)(q:Q (.bl (if a then !PyData.eqv p r else PyData.eqv p r))):Op (Ik a S x y) Q:=#[_,by unfold Ik;rw[c,b];erw[Qbq];rw[Qhq d],q]
end DL
namespace W28
open L2 DL
def sS{w:cu}(o:dz w):Gd w 1 (bf w):=#[Eg o,rK.begun o]
section
variable{w:cu}{n:Nat}{s:aO}{S:aE}{Q:Res->aE->Prop}
def HJ(o:dz w)(x:Gd w n s)(i:n<=800){h:Nat}(m:h∉eg w s->Q (.d .non) S)(p:∀s' e,h∈eg w s->eI w s h s' e->Gd w (n+1) s'->Q (.d (El s' h e)) S):Fn f_ [w.d,s.d,.int h] S Q:=by
 let g:=x.1.mays o i
 show bR ?_
 unfold jY
 apply aG (dB (bJ (Ee ?_)))
 show g _ _ ?_
 dsimp only[bI,bo,bF,cI,cP,g8]
 have j:(eg w s).map lY=((eg w s).map λh:Nat=>(h:Int)).map D.int:=by rw[QPq];rfl
 show#[_,_,L,by rw[j];show gn _,?_]
 rw[o7]
 by_cases c:h∈eg w s
 ·rw[Qeq (Qkq.mpr #[h,c,L])]
  show bc (λc=>by cases c) (λ_=>cx ?_)
  let#[s',e,b,f,_]:=x.next o i c
  show dk (bX (ax (aw L (ax (aw L (ax (aw L (aN ?_))))))))
  show nO g c b ?_
  show cC (λk z=>(nomatch z)) (mh _ _ _) (p s' e c b f)
 ·have:(h:Int)∉(eg w s).map λh:Nat=>(h:Int):=λz=>by
   let#[a,l,e]:=Qkq.mp z
   have:a=h:=by have e:(a:Int)=(h:Int):=e;omega
   show c (this▸l)
  rw[Qdq this]
  show bc (λ_=>?_) (λc=>by cases c)
  show dk (eG ?_)
  show cC (λk z=>(nomatch z)) L (m c)
noncomputable def iB(most:Nat)(fs:List Fd):D:=if fs.length<=most then .tup [.str "all",.tup (fs.map λp=>p.1.d)] else .tup [.str "open",.non]
def Ce(o:dz w){most:Nat}(m:most<=400)(q:∀fs:List Fd,(∃k,Cm w 1 (bf w) k fs/\(fs.length<=most->k=fs.length)/\fs=run w (bf w) k)->fs.length<=500->Q (.d (iB most fs)) S):Fn zy [w.d,.int most] S Q:=by
 show bR ?_
 unfold Er
 show aG (cf (bX (ax (aw L (ax (bX (ax (aw L (aN ?_)))))))))
 show jI o ?_
 show ax (aw L (aN ?_))
 show IT o (sS o) m (!0) λfs t j l g h=>?_
 let e:=q fs g h
 unfold iB at e
 by_cases c:fs.length<=most
 ·rw[Qhq c] at e|-
  show aG (dB (bJ (cy (aw L (eG (iP ?_))))))
  show jc ?_
  show bc (λc=>by cases c) (λ_=>cx ?_)
  show dk (dH (ax (eG (ax (fe (iI (se (α:=Fd) (λf=>∃a b c,f= [a,b,c]) Ed (λp=>p.1.d) (λ_=>true) #[none,none,none,L] (nI (cn (aw L (bN l ?_)))))))))))
  show#[fs,L,l,by omega,λp r f i=>?_,?_]
  ·let#[a,b,c,rfl]:=i
   show dJ L (ay (aQ (ay (aQ (ay (aQ (bg ?_)))))))
   show#[L,#[_,_,_,L],gM #[L,L,λ_=>aw L #[L,L]]]
  ·rw[List.filter_eq_self.mpr (λ_ _=>rfl)]
   show aN #[by show 2<=_;decide,?_]
   show qT j (λk z=>(nomatch z)) ?_ e
   erw[cj,bC,Bool.and_true,Bool.true_and]
   show aZ λp _=>p.1.low
 ·rw[Quq c] at e|-
  show aG (dB (bJ (cy (aw L (eG (iP ?_))))))
  show jc ?_
  show bc (λ_=>?_) (λc=>by cases c)
  show dk (dH (ax (eG (ax (eG (aN #[by show 2<=_;decide,?_]))))))
  show qT j (λk z=>(nomatch z)) L e
def Ij(r:Nat×aO×Option Int):D:=.tup [.int r.1,r.2.1.d,He r.1 r.2.2]
def Gp(o:dz w)(x:Gd w n s)(v:n<=800)(q:∀f:List (Nat×aO×Option Int),f.length<=4->(∀r∈f,r.1∈eg w s/\eI w s r.1 r.2.1 r.2.2/\Gd w (n+1) r.2.1)->Q (.l (f.map Ij)) S):Fn i4 [w.d,s.d] S Q:=by
 let y:=x.1.mays o v
 let B:=CF o x.1
 show bR ?_
 unfold kP
 show aG (cf (dG (c_ (aN #[by show 0<=_;decide,?_]))))
 show aG (gU (nI (iI (xp (ax (aw L (ax (aw L (aN ?_)))))))))
 show y _ _ ?_
 show#[λj g p=>(∃a b c,g= [some w.d,some s.d,some (.ref S.length),a,b,c])/\mI S p/\∃f:List (Nat×aO×Option Int),f.length=j/\(∀r∈f,r.1∈eg w s/\eI w s r.1 r.2.1 r.2.2/\Gd w (n+1) r.2.1)/\p[S.length]?=some (.lst (f.map Ij)),#[#[_,_,_,L],mI.refl.app,[],L,λ_ z=>(nomatch z),aW],λ_ _ _ _=>trivial,?_,?_]
 ·rintro j d g p u ⟨⟨a,b,c,rfl⟩,be,f,hrl,hrs,hS⟩
  rw[gQm] at u
  let#[h,i,rfl]:=oQm.mp u
  let C:=(gQs.mp i).1
  let i:=mQg i
  let#[A,e,k,t,_]:=x.next o v i
  show aQ ?_
  show aG (xh (bX (ax (aw L (ax (aw L (ax (aw L (aN ?_)))))))))
  show nO y i k ?_
  show dJ L (ay (aQ (ay (aQ (bg ?_)))))
  show mK (y6 (aw L #[_,_,L,hS,?_]))
  show ax (dH (ax (aw L (ax (aw L (ax (aw L (aN #[by show 3<=_;decide,aN ?_]))))))))
  show#[_,hS,m7 (by rw[lQm];show aM (!0)) ?_]
  show#[#[_,_,_,L],be.put (Qmq _),f++ [(h,A,e)],by simp[hrl],λr m=>?_,?_]
  ·rcases mQa.mp m with m|m
   ·show hrs r m
   ·rw[Qfq.mp m];show#[i,k,t]
  ·rw[fY hS,Qzq]
   rfl
 ·rintro g p ⟨⟨a,b,c,rfl⟩,be,f,hrl,hrs,hS⟩
  rw[lQm] at hrl
  show dk (aw L ?_)
  show Gc be (Qmq _) hS (aZ λr _=>by erw[Ij,cj,bC,B6,aO.low,Bool.and_true]) (q f (!0) hrs)
end
def Hw{c:cv}{S S0:aE}{k i u v:Nat}{xs:List D}{Q:D->aE->Prop}(l:c[u]?=some (some (.ref k)))(f:c[v]?=some (some (.ref i)))(x:Ex k S0 S)(hi:i≠k)(g:S[i]?=some (.lst xs))(o:0<xs.length)(p:xs.length<1000)
  (h:∀(d:D) (b:aE),d∈xs->Ex k S0 b->Ex k S b->Q d b):E (bp kL (au v) (az aB (ar (au u) (ar (ee (aS (au v))) av)))) c S Q:=by
 show cy (aw f (bX (ax (aw l (ax (lg (cn (aw f (bN g (aN ?_))))))))))
 show cG x (by show(0:Int)<xs.length;omega) (by show(xs.length:Int)<1000000;omega) λd b j n e m=>?_
 have a:d<xs.length:=by have:(d:Int)<(xs.length:Int):=j;omega
 show dW (e.keep _ _ hi g) (aR (gQe a)) ?_
 show h _ _ (List.getElem_mem a) n e
def Jk{w:cu}{S S0:aE}{k m:Nat}{Q:Res->aE->Prop}(o:dz w)(x:Ex k S0 S)(Z:m<=40)(q:∀(tr:D0) (g:aE),tO w tr->tr.length<=m->Gd w (1+m) (gf w tr)->Ex k S0 g->Q (.d (.tup [.tup ((tr.map (·.1)).map lY),(gf w tr).d])) g):Fn kA [.ref k,w.d,.int m] S Q:=by
 have y:Ex k S S:=by let#[a,b,c,M]:=x.pot;show Ex.refl M
 let F:=x.lt
 show bR ?_
 unfold nz
 show aG (Gm (ax (bX (ax (aw L (aN ?_))))))
 show jI o ?_
 show ax (dG (c_ (aN #[by show 0<=_;decide,aN #[_,_,L,?_]])))
 show aG (gU (kM (aw L #[_,L,by omega,?_])))
 show#[λj p g=>∃(tr:D0) (A B u t:Option D),p= [some (.ref k),some w.d,some (.int m),some (gf w tr).d,some (.ref S.length),A,B,u,t]/\Gd w (1+j) (gf w tr)/\Ex k S g/\g[S.length]?=some (.lst ((tr.map (·.1)).map lY))/\tr.length<=j/\tO w tr,#[[],_,_,_,_,L,sS o,y.app,aW,Qmq _,λn h Y e z=>by simp at z],λ_ _ _ _=>trivial,?_,?_]
 ·rintro j d p g s ⟨tr,A,B,u,t,rfl,gd,ex,hS,hl,ok⟩
  let#[rfl,hj]:=eM s
  let U:=ex.len
  show aQ ?_
  show aG (cf (dG (xp (ax (aw L (ax (aw L (aN ?_))))))))
  show Gp o gd (!0) λf P v=>?_
  show dB (bJ (Cc (cn (aw L (bN aW #[#[L,aW],?_])))))
  let G:=(gQs.mp hS).1
  cases f with
  | nil=>
    show jc (bc (λc=>by cases c) (λ_=>cx ?_))
    show#[tr,_,_,_,_,L,gd.mono (!0),ex.app,bq hS,by omega,ok]
  | cons I f=>
    show jc (bc (λ_=>?_) (λc=>by cases c))
    show aG (xh (Hw (k:=k) (i:=g.length) (xs:=(I::f).map Ij) L L ex.app (!0) aW (by rw[lQm];simp) (by rw[lQm];omega) λd X s W K=>?_))
    let#[r,N,rfl]:=Qkq.mp s
    let#[J,H,R]:=v r N
    have l:X[S.length]?=some (.lst ((tr.map (·.1)).map lY)):=K.keep _ _ (!0) (bq hS)
    show dJ L (ay (aQ (ay (aQ (ay (aQ (bg ?_)))))))
    show mK (y6 (aw L #[_,_,L,l,ax (aw L (aN ?_))]))
    show#[_,l,m7 (by rw[lQm,lQm];show aM (!0)) ?_]
    have C:gf w (tr++ [r])=r.2.1:=Ey
    show#[tr++ [r],_,_,_,_,by rw[C];rfl,by rw[C];show R.mono (!0),W.put (Qmq _) F,?_,by rw[lQa];simp;omega,ok.app (gd.1.mays o (!0)) J H]
    rw[fY l,Qzq,Qzq]
    rfl
 ·rintro p g ⟨tr,A,B,u,t,rfl,gd,ex,hS,hl,ok⟩
  rw[gH] at gd hl
  show dk (dH (ax (fe (eV (cn (aw L (bN hS #[L,ax (aw L (aN #[by show 2<=_;decide,?_]))])))))))
  show zx ex F (λk z=>(nomatch z)) (gA ?_) λa b c=>q tr _ ok hl gd x.set
  erw[cj,bC,aO.low,Bool.and_true]
  show aZ λ_ _=>rfl
end W28
namespace DL
open L2
def Mo{b:cv}{S:aE}{a:Bool}{f:bj}{g:et}{Q:D->aE->Prop}(h:E f b S λx c=>E g b c λp S2=>∃v vs,jm x=some v/\kB p.1=some vs/\v.depth<=60/\Q (.bl (if a then !vs.any (PyData.eqv · v) else vs.any (PyData.eqv · v))) S2):E (MB a f g) b S Q:=by
 let#[x,c,k,p,S2,i,v,vs,e,d,j,q]:=h
 show#[_,S2,by unfold MB;rw[k];erw[Qbq];rw[i];erw[Qbq];rw[e,d];erw[Qbq];rw[Qhq j],q]
end DL
namespace W28
open L2 DL
noncomputable def one(w:cu):cu:=#[w.aj,w.ai,w.ak,w.af.take 1]
def F5{w:cu}(o:dz w):dz (one w):=#[o.nd,o.l1,o.l2,o.l3,by show(w.af.take 1).length<=4;rw[Qxq];omega,by show 0<(w.af.take 1).length;have:=o.l0;rw[Qxq];omega,o.pv,o.sv,o.rm,λh a=>o.hd h (List.mem_of_mem_take a)]
def Co{w:cu}(o:dz w):(one w).af.length=1:=by show(w.af.take 1).length=1;have:=o.l0;rw[Qxq];omega
def xV(s:aO):jm s.d=some s.p:=lV s.num
theorem BP:∀l:List aO,kB (l.map aO.d)=some (l.map aO.p)
 | []=>rfl
 | s::l=>by
   rw[QDq,QDq]
   erw[kB]
   rw[xV,BP l]
   rfl
def BF{l:List aO}{s:aO}:(l.map aO.p).any (PyData.eqv · s.p)=true↔s∈l:=by
 rw[List.any_map,List.any_eq_true]
 constructor
 ·rintro⟨a,b,e⟩
  have:=aO.inj (ST.ub a.nu s.nu e)
  show this▸b
 ·intro h
  show#[s,h,SeqAt.eqv_refl _ (ST.ed s.nu).1]
structure Al(w:cu)(row:List aO):Prop where
 hd:row[0]?=some (bf w)
 nd:row.Nodup
 gd:∀i s,row[i]?=some s->Gd w (1+i) s
 st:∀i s s',row[i]?=some s->row[i+1]?=some s'->0∈eg w s/\CC w s 0=s'
def BE{w:cu}{n:Nat}{s:aO}(a:w.af.length=1)(x:di w n s):eg w s= []\/eg w s= [0]:=by
 have:=x.lh
 unfold eg
 rw[show s.af.length=1 by omega]
 show List.filter _ [0]= []\/List.filter _ [0]= [0]
 rw[List.filter_cons]
 split
 ·show .inr L
 ·show .inl L
theorem As{w:cu}{a:List aO}(m:w.af.length=1)(x:Al w a):∀j,j<a.length->(run w (bf w) j).map (·.1)=a.take (j+1)
 | 0,hj=>by
   have:=x.hd
   rw[QYq,this]
   rfl
 | j+1,hj=>by
   let l:=As m x j (!0)
   have f:a[j]?=some a[j]:=gQe (!0)
   have b:a[j+1]?=some a[j+1]:=gQe hj
   let#[n,d]:=x.st j _ _ f b
   have c:((run w (bf w) j).map (·.1))[j]?=some a[j]:=by rw[l,List.getElem?_take_of_lt (!0)];show f
   rw[gQm] at c
   let#[p,c,e]:=oQm.mp c
   have o:eg w p.1= [0]:=by
     rw[e]
     rcases BE m (x.gd j _ f).1 with h|h
     · rw[h] at n;cases n
     · show h
   rw[run,c]
   dsimp only
   rw[o]
   show(uU w j p (run w (bf w) j) 0).map (·.1)=_
   unfold uU
   rw[e,d]
   have q:a[j+1]∉(run w (bf w) j).map (·.1):=by
     rw[l]
     intro z
     let#[i,k]:=List.getElem?_of_mem z
     let g:=(gQs.mp k).1
     rw[Qxq] at g
     rw[List.getElem?_take_of_lt (!0)] at k
     have:=iD x.nd k b
     omega
   rw[Quq q,Qzq,l]
   show _++ [a[j+1]]=_
   rw[QYq (i:=j+1),b]
   rfl
def KM{w:cu}{a:List aO}(g:w.af.length=1)(x:Al w a)(i:∀s,a[a.length-1]?=some s->0∈eg w s->CC w s 0∈a):(run w (bf w) a.length).map (·.1)=a:=by
 have k:0<a.length:=(gQs.mp x.hd).1
 obtain⟨j,d⟩:∃j,a.length=j+1:=#[a.length-1,by omega]
 let b:=As g x j (!0)
 rw[<-d,QEq] at b
 have f:a[j]?=some a[j]:=gQe (!0)
 have c:((run w (bf w) j).map (·.1))[j]?=some a[j]:=by rw[b];show f
 rw[gQm] at c
 let#[p,c,e]:=oQm.mp c
 rw[d,run,c]
 dsimp only
 rcases BE g (x.gd j _ f).1 with h|h
 ·rw[e,h];show b
 ·rw[e,h]
  show(uU w j p (run w (bf w) j) 0).map (·.1)=_
  unfold uU
  rw[e]
  have:=i _ (by rw[d];show f) (by rw[h];show Qfq.mpr L)
  rw[Qhq (by rw[b];show this)]
  show b
def Mg(w:cu):D.tup ([.tup (w.aj.map Rm.d),.tup (w.ai.map kF),.tup (w.ak.map kF)]++ [.tup ((w.af.map fS).take 1)])=(one w).d:=by
 unfold one cu.d
 rw[List.map_take]
 rfl
def GP{w:cu}{S:aE}{Q:Res->aE->Prop}(o:dz w)(F:∀f,Al (one w) f->f.length<=400->(∀s,f[f.length-1]?=some s->0∈eg (one w) s->CC (one w) s 0∈f)->Q (.d (.tup [(one w).d,.tup (f.map aO.d)])) S)(N:Q (.d (.tup [(one w).d,.non])) S):Fn iU [w.d] S Q:=by
 let x:=F5 o
 let l1:=Co o
 let Y:=o.l0
 show bR ?_
 unfold lL
 show aG (cf (cy (jA (aw L (cA (cz (eG #[_,L,_,L,?_])))))))
 have Z:fP [D.tup (w.aj.map Rm.d),.tup (w.ai.map kF),.tup (w.ak.map kF),.tup (w.af.map fS)] none (some (3:Int))= [D.tup (w.aj.map Rm.d),.tup (w.ai.map kF),.tup (w.ak.map kF)]:=(wG (i:=3) (by simp)).trans L
 rw[Z]
 show dH (ax (jA (cy (aw L (eG (aA (d:=.tup (w.af.map fS)) L (cA (cz (eG #[_,L,_,L,?_])))))))))
 have X:fP (w.af.map fS) none (some (1:Int))=(w.af.map fS).take 1:=wG (i:=1) (by rw[lQm];show Y)
 rw[X]
 show aN #[by show 1<=_;decide,dQ (by show 3+1<=sizeLine;decide) ?_]
 rw[Mg]
 generalize one w=v at x l1 F N|-
 show aG (cf (dG (c_ (ax (bX (ax (aw L (aN ?_))))))))
 show jI x ?_
 show aN #[by show 1<=_;decide,?_]
 show aG (gU (kM (eG #[400,L,by decide,?_])))
 show#[λj r y=>∃(f:List aO) (J G:Option D),r= [some v.d,some (.ref S.length),J,G]/\mI S y/\y[S.length]?=some (.lst (f.map aO.d))/\Al v f/\f.length=j+1,#[[bf v],_,_,L,mI.refl.app,aW,#[L,by simp,λi s h=>?_,λi s m h n=>?_],L],λ_ _ _ _=>trivial,?_,?_]
 ·cases i with
  |zero=>cases h;show sS x
  |succ i=>simp at h
 ·simp at n
 ·rintro j d r y P ⟨f,J,G,rfl,be,hS,al,hl⟩
  let#[rfl,M]:=eM P
  have M:j<400:=M
  have g:f[j]?=some (f[j]'(!0)):=gQe (!0)
  generalize f[j]'(!0)=s at g
  let W:=al.gd j s g
  show aQ ?_
  show aG (cf (bX (ax (aw L (ax (cy (aw L (pE (eG #[1,L,?_])))))))))
  show dW (d:=s.d) hS (sO (by rw[QfQ,List.getLast?_eq_getElem?,hl];show Option.map _ f[j]?=_;rw[g];rfl)) ?_
  show ax (eG (aN ?_))
  show HJ x W (!0) (h:=0) (λhn=>?_) λm e hm B A=>?_
  ·show aG (dB (sQ (bJ (cy (aw L (eG (iP ?_)))))))
   show jc (bc (λ_=>?_) (λc=>by cases c))
   show bc (λ_=>?_) (λc=>by cases c)
   show dk (dH (ax (aw L (ax (fe (eV (cn (aw L (bN hS #[L,?_])))))))))
   show aN #[by show 2<=_;decide,?_]
   show qT be (λk z=>(nomatch z)) ?_ (F f al (!0) λC l K=>?_)
   ·erw[cj,bC,Bool.and_true,v.low,Bool.true_and]
    show aZ λp _=>p.low
   ·rw[hl] at l
    have l:f[j]?=some C:=l
    rw[g] at l
    cases l
    show absurd K hn
  ·show aG (dB (sQ (bJ (cy (aw L (eG (iP ?_)))))))
   show jc (bc (λc=>by cases c) (λ_=>?_))
   show bJ (Mo (cy (aw L (eG (aA (d:=m.d) L (cn (aw L (bN hS #[_,_,xV m,BP f,by have:=(ST.ed m.nu).2;omega,?_]))))))))
   have q:CC v s 0=m:=BA B
   show jc ?_
   show bc (λc=>?_) (λc=>?_)
   ·have H:m∈f:=BF.mp c
    show dk (dH (ax (aw L (ax (fe (eV (cn (aw L (bN hS #[L,?_])))))))))
    show aN #[by show 2<=_;decide,?_]
    show qT be (λk z=>(nomatch z)) ?_ (F f al (!0) λC l K=>?_)
    ·erw[cj,bC,Bool.and_true,v.low,Bool.true_and]
     show aZ λp _=>p.low
    ·rw[hl] at l
     have l:f[j]?=some C:=l
     rw[g] at l
     cases l
     rw[q]
     show H
   ·have u:m∉f:=λz=>by rw[BF.mpr z] at c;cases c
    show cx (mK (y6 (aw L #[_,_,L,hS,ax (cy (aw L (eG (aA (d:=m.d) L (aN ?_)))))])))
    show#[_,hS,m7 (by rw[lQm];show aM (!0)) ?_]
    show#[f++ [m],_,_,L,be.put (Qmq _),by rw[fY hS,Qzq];rfl,#[?_,?_,λi t h=>?_,λi t R h n=>?_],by simp[hl]]
    ·rw[QHq (!0)];show al.hd
    ·rw[List.nodup_append]
     show#[al.nd,by simp,λa ha b U z=>u (by rw[Qfq.mp U] at z;show z▸ha)]
    ·by_cases I:i<f.length
     ·rw[QHq I] at h
      show al.gd i t h
     ·rw[QQq (!0)] at h
      have z:i-f.length=0:=by have:=(gQs.mp h).1;simp at this;omega
      rw[z] at h
      cases h
      have:i=j+1:=by omega
      subst this
      show A.mono (!0)
    ·by_cases I:i+1<f.length
     ·rw[QHq (!0)] at h
      rw[QHq I] at n
      show al.st i t R h n
     ·rw[QQq (!0)] at n
      have z:i+1-f.length=0:=by have:=(gQs.mp n).1;simp at this;omega
      rw[z] at n
      cases n
      have:i=j:=by omega
      subst this
      rw[QHq (!0),g] at h
      cases h
      show#[hm,q]
 ·rintro r y ⟨f,J,G,rfl,be,hS,al,hl⟩
  show dk (dH (ax (aw L (ax (eG (aN #[by show 2<=_;decide,?_]))))))
  show qT be (λk z=>(nomatch z)) ?_ N
  erw[cj,bC,Bool.and_true,v.low,Bool.true_and]
section
variable{S:aE}{Q:Res->aE->Prop}
def eZ{n:Nat}{l:List Int}(h:l.length<=1000):Pl (n+2) (cQ l):=⟨by simpa using h,λd b=>by
 let#[a,_,rfl]:=Qkq.mp b
 show trivial⟩
def fK{α:Type}{n:Nat}{f:α->D}{l:List α}(h:l.length<=1000)(e:∀a∈l,Pl n (f a)):Pl (n+1) (.tup (l.map f)):=⟨by simpa using h,λd b=>by
 let#[a,c,rfl]:=Qkq.mp b
 show e a c⟩
def EK{w:cu}{n:Nat}{s:aO}(o:dz w)(x:di w n s)(K:n<=100):Pl 9 s.d:=by
 let y:=o.l1
 let H:=o.l2
 let z:=o.l3
 let I:=o.l4
 let N:=x.lr
 let B:=x.lp
 let A:=x.ls
 let J:=x.lh
 show#[by show 4<=1000;decide,λd a=>?_]
 erw[Qsq,QXq,or_false] at a
 rcases a with rfl|rfl|rfl|rfl
 ·show fK (n:=7) (!0) λr j=>?_
  let#[i,m,e]:=QbQ j
  have k:s.aj[i]?=some r:=by rw[gQe m,e]
  have g:w.aj[i]?=some (w.aj[i]'(!0)):=gQe (!0)
  let c:=x.rm i _ r g k
  let b:=o.rm _ (mQg g)
  let q:=b.l1
  let u:=b.l2
  let v:=c.lv
  let R:=c.lb
  let G:=c.br
  let P:=c.bl
  show#[by show 5<=1000;decide,λd a=>?_]
  erw[Qsq,QXq,or_false] at a
  rcases a with rfl|rfl|rfl|rfl|rfl
  ·show eZ (!0)
  ·show trivial
  ·show eZ (!0)
  ·show eZ (!0)
  ·show fK (n:=5) (!0) λl hl=>?_
   have:=c.bb l hl
   show fK (n:=4) (!0) λp h=>?_
   show#[by show 2<=1000;decide,λd a=>?_]
   erw[Qsq,QXq,or_false] at a
   rcases a with rfl|rfl <;>show trivial
 ·show fK (n:=7) (!0) λp h=>?_
  have:=x.ps p h
  show#[by show 2<=1000;decide,λd a=>?_]
  erw[Qsq,QXq,or_false] at a
  rcases a with rfl|rfl
  ·show trivial
  ·show eZ (!0)
 ·show eZ (!0)
 ·show fK (n:=7) (!0) λp h=>?_
  let#[i,m,e]:=QbQ h
  have k:s.af[i]?=some (p.1,p.2):=by rw[gQe m,e]
  let#[M,C,g,t]:=x.whand k
  let q:=(o.hd _ (mQg g)).l1
  let u:=t.lv
  let v:=t.lf
  show#[by show 2<=1000;decide,λd a=>?_]
  erw[Qsq,QXq,or_false] at a
  rcases a with rfl|rfl
  ·show eZ (by dsimp only at q;omega)
  ·show fK (n:=5) (!0) λf F=>?_
   show#[by show 5<=1000;decide,λd a=>?_]
   erw[Qsq,QXq,or_false] at a
   rcases a with rfl|rfl|rfl|rfl|rfl <;>show trivial
def Iy{w:cu}{n:Nat}{tr:D0}(o:dz w)(x:di w n (gf w tr))(b:n<=100)(hl:tr.length<=900):Pl 10 (q5 w tr):=by
 show#[by show 2<=1000;decide,λd a=>?_]
 erw[Qsq,QXq,or_false] at a
 rcases a with rfl|rfl
 ·show EK o x b
 ·show fK (n:=8) (by have:=xK (tr:=tr);omega) λp c=>?_
  show#[by show 2<=1000;decide,λd a=>?_]
  erw[Qsq,QXq,or_false] at a
  rcases a with rfl|rfl <;>show trivial
end
end W28
namespace DL
open L2
theorem zo:∀{ds:List D} {k i:Nat},(gy k ds)[i]?=(ds[i]?).map λd=>.tup [.int ((k+i:Nat):Int),d]
 | [],_,_=>by simp[gy]
 |d::ds,k,0=>by simp[gy]
 | d::ds,k,i+1=>by
   have:=zo (ds:=ds) (k:=k+1) (i:=i)
   erw[gy,List.getElem?_cons_succ]
   rw[this]
   congr 2
   funext d
   congr 3
   omega
theorem CS{α:Type}(d:α):∀n:Nat,(List.replicate n [d]).flatten=List.replicate n d
 |0=>rfl
 |n+1=>by rw[QNq,QNq,List.flatten_cons,CS d n];rfl
def Fp{a:cv}{S:aE}{f:et}{g:bj}{Q:List D->aE->Prop}(h:E f a S λp b=>E g a b λr S2=>∃(n:Nat) (d:D),r=.int n/\p.1= [d]/\(p.2.isM=true/\p.2.stays S2 p.1/\n<=1000)/\Q (List.replicate n d) S2):E (yt f g) a S Q:=by
 let#[p,b,c,r,S2,e,n,d,rfl,h0,#[h1,h2,h3],q]:=h
 show#[_,S2,?_,q]
 unfold yt
 rw[c]
 erw[Qbq]
 rw[e]
 erw[Qbq]
 rw[Qhq #[h1,h2,by omega,by omega,by rw[h0];erw[Qnq,QGq,Int.toNat_natCast];show nQl (aM (!0))]]
 rw[h0,show((n:Int)).toNat=n by omega,CS]
end DL
namespace W28
open L2 DL
theorem oB{w:cu}{a:aO}{k:Nat}(h:(run w a k).length=k):∀m,run w a (k+m)=run w a k
 |0=>rfl
 | m+1=>by
   rw[<-Nat.add_assoc,run,oB h m,List.getElem?_eq_none (!0)]
def Ip{w:cu}{a:aO}{k m:Nat}(c:(run w a k).length=k)(b:(run w a m).length=m):run w a k=run w a m:=by
 rcases Nat.le_total k m with h|h
 ·let#[d,rfl]:=Nat.le.dest h
  show(oB c d).symm
 ·let#[d,rfl]:=Nat.le.dest h
  show oB b d
theorem vG{s:aO}:∀{b:List aO} {vs:List D},s∉b->valN (b.map aO.d) vs s.p=none
 | [],vs,_=>by cases vs <;>rfl
 |a::b,[],_=>rfl
 | a::b,v::vs,h=>by
   erw[QDq,valN,a.num]
   rw[Quq λe=>h (by rw[aO.inj (ST.ub a.nu s.nu e)];show QBq ..)]
   show vG λz=>h (Qpq _ z)
theorem xv{s:aO}:∀{b:List aO} {vs:List D},s∈b->b.length=vs.length->(valN (b.map aO.d) vs s.p).isSome=true
 | [],vs,h,_=>by cases h
 |a::b,[],_,hl=>by simp at hl
 | a::b,v::vs,h,hl=>by
   erw[QDq,valN,a.num]
   by_cases c:PyData.eqv a.p s.p=true
   · rw[Qhq c]
     rfl
   · rw[Quq c]
     rcases Qsq.mp h with rfl|h
     · show absurd (SeqAt.eqv_refl _ (ST.ed s.nu).1) c
     · show xv h (by simpa using hl)
def DM{w:cu}{n:Nat}{s:aO}(o:dz w)(x:di w n s)(K:n<=500):Pl 8 s.d:=by
 let y:=o.l1
 let H:=o.l2
 let z:=o.l3
 let I:=o.l4
 let N:=x.lr
 let B:=x.lp
 let A:=x.ls
 let J:=x.lh
 show#[by show 4<=1000;decide,λd a=>?_]
 erw[Qsq,QXq,or_false] at a
 rcases a with rfl|rfl|rfl|rfl
 ·show fK (n:=6) (!0) λr j=>?_
  let#[i,m,e]:=QbQ j
  have k:s.aj[i]?=some r:=by rw[gQe m,e]
  have g:w.aj[i]?=some (w.aj[i]'(!0)):=gQe (!0)
  let c:=x.rm i _ r g k
  let b:=o.rm _ (mQg g)
  let q:=b.l1
  let u:=b.l2
  let v:=c.lv
  let Q:=c.lb
  let G:=c.br
  let P:=c.bl
  show#[by show 5<=1000;decide,λd a=>?_]
  erw[Qsq,QXq,or_false] at a
  rcases a with rfl|rfl|rfl|rfl|rfl
  ·show eZ (!0)
  ·show trivial
  ·show eZ (!0)
  ·show eZ (!0)
  ·show fK (n:=4) (!0) λl hl=>?_
   have:=c.bb l hl
   show fK (n:=3) (!0) λp h=>?_
   show#[by show 2<=1000;decide,λd a=>?_]
   erw[Qsq,QXq,or_false] at a
   rcases a with rfl|rfl <;>show trivial
 ·show fK (n:=6) (!0) λp h=>?_
  have:=x.ps p h
  show#[by show 2<=1000;decide,λd a=>?_]
  erw[Qsq,QXq,or_false] at a
  rcases a with rfl|rfl
  ·show trivial
  ·show eZ (!0)
 ·show eZ (!0)
 ·show fK (n:=6) (!0) λp h=>?_
  let#[i,m,e]:=QbQ h
  have k:s.af[i]?=some (p.1,p.2):=by rw[gQe m,e]
  let#[M,C,g,t]:=x.whand k
  let q:=(o.hd _ (mQg g)).l1
  let u:=t.lv
  let v:=t.lf
  show#[by show 2<=1000;decide,λd a=>?_]
  erw[Qsq,QXq,or_false] at a
  rcases a with rfl|rfl
  ·show eZ (by dsimp only at q;omega)
  ·show fK (n:=4) (!0) λf F=>?_
   show#[by show 5<=1000;decide,λd a=>?_]
   erw[Qsq,QXq,or_false] at a
   rcases a with rfl|rfl|rfl|rfl|rfl <;>show trivial
def step_at{w:cu}{s s':aO}{h:Nat}{e:Xb}{S:aE}{Q:Res->aE->Prop}(b:DS w s)(f:h∈eg w s)(a:eI w s h s' e)(q:Q (.d (El s' h e)) S):Fn f_ [w.d,s.d,.int h] S Q:=by
 show bR ?_
 unfold jY
 apply aG (dB (bJ (Ee ?_)))
 show b _ _ ?_
 dsimp only[bI,bo,bF,cI,cP,g8]
 have g:(eg w s).map lY=((eg w s).map λh:Nat=>(h:Int)).map D.int:=by rw[QPq];rfl
 show#[_,_,L,by rw[g];show gn _,?_]
 rw[o7,Qeq (Qkq.mpr #[h,f,L])]
 show bc (λc=>by cases c) (λ_=>cx ?_)
 show dk (bX (ax (aw L (ax (aw L (ax (aw L (aN ?_))))))))
 show nO b f a ?_
 show cC (λk z=>(nomatch z)) (mh _ _ _) q
theorem reach{w:cu}{tr:D0}(ok:tO w tr):∀n,n<=tr.length->Rc w (bf w) (gf w (tr.take n))
 |0,_=>.refl
 | n+1,hn=>by
   have a:tr[n]?=some (tr[n]'(!0)):=gQe (!0)
   generalize tr[n]'(!0)=x at a
   let#[h,b,e]:=x
   let#[f,c,d]:=ok n h b e a
   rw[pN a]
   show .step (reach ok n (!0)) #[h,e,c,d]
def Iq{w:cu}{a:List aO}{gs:List Fd}{k:Nat}(i:w.af.length=1)(x:Al w a)(j:∀s,a[a.length-1]?=some s->0∈eg w s->CC w s 0∈a)(b:gs=run w (bf w) k)(e:gs.length<=a.length->k=gs.length):gs.map (·.1)=a:=by
 let h:=KM i x j
 have f:(run w (bf w) a.length).length=a.length:=by
  have:=congrArg List.length h
  rw[lQm] at this
  show this
 by_cases c:gs.length<=a.length
 ·let e:=e c
  have hl:(run w (bf w) k).length=k:=by rw[<-b,e]
  rw[b,Ip hl f]
  show h
 ·exfalso
  by_cases g:k<a.length
  ·have:=congrArg List.length (As i x k g)
   rw[lQm,Qxq,<-b] at this
   omega
  ·let#[d,rfl]:=Nat.le.dest (Nat.le_of_not_lt g)
   rw[oB f d] at b
   rw[b,f] at c
   show c (Qmq _)
theorem kd:∀{ds:List D} {k:Nat},(gy k ds).length=ds.length
 | [],_=>rfl
 |d::ds,k=>by erw[gy,Qnq];rw[kd]
def yP{n:Nat}(h:n<=100):n<=sizeLine:=QAq h (!1)
def AJ:jm (.str "all")=some (.str "all"):=by
 erw[jm]
 rw[Qhq (by decide +kernel)]
def Iv:jm (.str "open")=some (.str "open"):=by
 erw[jm]
 rw[Qhq (by decide +kernel)]
def z7{r a0 a1 a2 a3 a4 a5 a6 a7 a8 a9 a10 a11 a12 a13 a14 a15:Option D}:∃kN:Nat->Option D,[r,a0,a1,a2,a3,a4,a5,a6,a7,a8,a9,a10,a11,a12,a13,a14,a15]= [r,kN 0,kN 1,kN 2,kN 3,kN 4,kN 5,kN 6,kN 7,kN 8,kN 9,kN 10,kN 11,kN 12,kN 13,kN 14,kN 15]:=#[λi=>[a0,a1,a2,a3,a4,a5,a6,a7,a8,a9,a10,a11,a12,a13,a14,a15].getD i none,rfl]
def Gi:∀ns:List Int,ns.length<=63->∃f,Hv [.ref 0] [.frz (ns.map D.int)]=some (.d (.bl true),f):=by
 intro ns g1
 suffices h:Fn Hv [.ref 0] [.frz (ns.map D.int)] λr _=>r=.d (.bl true) by
  let#[r,f,e,rfl]:=h
  show⟨f,e⟩
 show bR ?_
 unfold JZ
 show aG (gU ?_)
 apply kM ?_
 apply Fy L ?_
 show Gk ?_
 show pq ?_
 obtain⟨m,hm,f7⟩:∃m:Nat,(1:Int)+(if (((ns.map D.int).length:Nat):Int)<3 then(((ns.map D.int).length:Nat):Int) else 3)=(m:Int)/\m<=5:=by
  show#[((1:Int)+(if (((ns.map D.int).length:Nat):Int)<3 then(((ns.map D.int).length:Nat):Int) else 3)).toNat,?_,?_] <;>(repeat' split) <;>omega
 show#[m,congrArg D.int hm,by omega,?_]
 show#[λn b f=>(∃kN:Nat->Option D,b= [some (.ref 0),kN 0,kN 1,kN 2,kN 3,kN 4,kN 5,kN 6,kN 7,kN 8,kN 9,kN 10,kN 11,kN 12,kN 13,kN 14,kN 15])/\f[0]?=some (.frz (ns.map D.int)),#[z7,L],λ_ _ _ _=>trivial,?_,?_]
 ·rintro n d b S A ⟨⟨kN,rfl⟩,hS⟩
  let#[rfl,hn7]:=eM A
  apply aQ ?_
  apply K7 (!0) hS λpa pb=>?_
  have x:Ex S.length (S++ [oA pa pb 0]) (S++ [oA pa pb 0]):=Ex.refl aW
  have d3:(S++ [oA pa pb 0])[0]?=some (.frz (ns.map D.int)):=bq hS
  have h0:0≠S.length:=by
   have:=(gQs.mp hS).1
   omega
  show Fn aB [.ref S.length,.int 4] (S++ [oA pa pb 0]) _
  generalize S.length=kp at x h0|-
  generalize S++ [oA pa pb 0]=S1 at x d3|-
  show cG x (!1) (!1) λv0 S2 e7 e2 _ _=>?_
  have e7:(v0:Int)<4:=e7
  show pq (aN ?_)
  rw[show(1:Int)+(v0:Int)=((1+v0:Nat):Int) by omega]
  show E7 e2 (!0) (!0) λw S3 ok so e3 _ _=>?_
  show aG (cf (bX (ax (aw L (ax (eG (aN ?_)))))))
  show Ce ok (most:=200) (!0) λg f1 g0=>?_
  show aG (cf (MK ?_))
  have M:(S3++ [O.dctN [] []])[S3.length]?=some (.dctN [] []):=aW
  have e4:Ex kp S1 (S3++ [O.dctN [] []]):=e3.app
  have c4:S3.length≠kp:=by have:=e3.lt;omega
  have c5:S1.length<=S3.length:=e3.len
  generalize S3.length=r at M c4 c5|-
  generalize S3++ [O.dctN [] []]=S4 at M e4|-
  show T _ [some (.ref 0),some (.int n),some (.ref kp),some w.d,some (iB 200 g),some (.ref r),kN 5,kN 6,kN 7,kN 8,kN 9,kN 10,kN 11,kN 12,kN 13,kN 14,kN 15] S4 _
  show aG (T.mono (Q:=λo=>∃(B c7:Option D) (ss:List aO) (y:List D) (J:aE),o=.nx [some (.ref 0),some (.int n),some (.ref kp),some w.d,some (iB 200 g),some (.ref r),B,c7,kN 7,kN 8,kN 9,kN 10,kN 11,kN 12,kN 13,kN 14,kN 15] J/\Ex kp S1 J/\J[r]?=some (.dctN (ss.map aO.d) y)/\ss.length=y.length/\(ss≠[]->∀s,Rc w (bf w) s->s∈ss)) ?_ ?_)
  ·by_cases c:g.length<=200
   ·let#[k,cm,Z,e0]:=f1
    let Z:=Z c
    subst Z
    have eb:iB 200 g=.tup [.str "all",.tup (g.map λp=>p.1.d)]:=by unfold iB;rw[Qhq c]
    rw[eb]
    show dB (bJ (cy (cy (aw L (eG (aA L (eG (BJ AJ AJ (!1) ?_))))))))
    show jc (bc (λ_=>?_) (λc=>by simp[PyData.eqv] at c))
    show aG (gU (Cb (cn (cy (aw L (eG (aA L (d_ ?_))))))))
    show#[λj b f=>(∃B c7,b= [some (.ref 0),some (.int n),some (.ref kp),some w.d,some (.tup [.str "all",.tup (g.map λp=>p.1.d)]),some (.ref r),B,c7,kN 7,kN 8,kN 9,kN 10,kN 11,kN 12,kN 13,kN 14,kN 15])/\∃y,Ex kp S1 f/\f[r]?=some (.dctN (((g.map (·.1)).take j).map aO.d) y)/\y.length=j,#[#[_,_,L],[],e4,M,L],λ_ _ _ _=>trivial,?_,?_]
    ·rintro j d b f A ⟨⟨B,c7,rfl⟩,y,ex,hr,hv⟩
     rw[zo,gQm,Nat.zero_add] at A
     let#[d2,f0,rfl]:=oQm.mp A
     let#[p,hp,rfl]:=oQm.mp f0
     let f6:=(gQs.mp hp).1
     have e1:(g.map (·.1))[j]?=some p.1:=by rw[gQm,hp];rfl
     have d6:p.1∉(g.map (·.1)).take j:=λz=>by
      let#[i,hi]:=List.getElem?_of_mem z
      let c1:=(gQs.mp hi).1
      rw[Qxq] at c1
      rw[List.getElem?_take_of_lt (!0)] at hi
      have:=iD cm.nd hi e1
      omega
     show dJ L (ay (aQ (ay (aQ (bg ?_)))))
     show PF (aw L (aw L (aw L #[_,_,_,_,p.1.p,L,L,hr,p.1.num,#[p.1.nu,by rw[lQm,Qxq];omega,by rw[vG d6];rfl],?_])))
     show#[#[_,_,L],y++ [.int j],ex.put c5 x.lt,?_,by simp[hv]]
     rw[fY hr,QYq,e1,Qzq]
     rfl
    ·rintro b f ⟨⟨B,c7,rfl⟩,y,ex,hr,hv⟩
     have hv:y.length=g.length:=by rw[hv];show(gy 0 _).length=_;rw[kd,lQm]
     have ht:(g.map (·.1)).take (gy 0 (g.map λp=>p.1.d)).length=g.map (·.1):=by rw[kd,lQm];show List.take_of_length_le (by rw[lQm];show Qmq _)
     have hr:f[r]?=some (.dctN ((g.map (·.1)).map aO.d) y):=by rw[<-ht];show hr
     show dB (sQ (bJ (cy (LQ (aw L #[_,_,_,L,hr,by rw[lQm,lQm];omega,lg (cn (cy (aw L (eG (aA L (d_ ?_))))))])))))
     show BJ L L (by simp[PyData.depth]) ?_
     show jc (bc (λc=>by simp[PyData.eqv] at c) (λ_=>?_))
     show bJ (cy (cy (cy (aw L (eG (aA L (eG (aA (d:=(bf w).d) ?_ (bX (ax (aw L (aN ?_))))))))))))
     ·show aR (j:=0) (by rw[gQm,cm.hd];rfl)
     show jI ok ?_
     show BJ (xV _) (xV _) (by have:=(ST.ed (bf w).nu).2;omega) ?_
     rw[SeqAt.eqv_refl _ (ST.ed (bf w).nu).1]
     show jc (bc (λc=>by cases c) (λ_=>cx ?_))
     show#[_,_,g.map (·.1),y,_,L,ex,hr,by rw[lQm,hv],λ_ s hs=>cm.all hs]
   ·have eb:iB 200 g=.tup [.str "open",.non]:=by unfold iB;rw[Quq c]
    rw[eb]
    show dB (bJ (cy (cy (aw L (eG (aA L (eG (BJ Iv AJ (!1) ?_))))))))
    show jc (bc (λc=>by simp[PyData.eqv] at c;show absurd c (by decide +kernel)) (λ_=>cx ?_))
    show#[_,_,[],[],_,L,e4,M,L,λz=>absurd L z]
  ·rintro o ⟨B,c7,ss,y,J,rfl,e5,hr5,hl,hin⟩
   have y5:Ex kp J J:=by let#[_,_,_,hh]:=e5.pot;show Ex.refl hh
   show aG (gU (kM (eG #[8,L,by decide,?_])))
   show#[λj b f=>(∃d7 d8 d9 R H N G K,b= [some (.ref 0),some (.int n),some (.ref kp),some w.d,some (iB 200 g),some (.ref r),B,d7,d8,d9,R,H,N,G,K,kN 14,kN 15])/\Ex kp J f,#[#[_,_,_,_,_,_,_,_,L],y5],λ_ _ _ _=>trivial,?_,?_]
   ·rintro j d b f A ⟨⟨d7,d8,d9,R,H,N,G,K,rfl⟩,ex⟩
    let#[rfl,hj]:=eM A
    show aQ ?_
    show aG (xh (bX (ax (aw L (ax (aw L (ax (eG (aN ?_)))))))))
    show Jk ok ex (m:=40) (!0) λtr S6 P f9 gd e6=>?_
    show dJ L (ay (aQ (ay (aQ (bg ?_)))))
    show aG (Gm (ax (bX (ax (aw L (aN ?_))))))
    show jI ok ?_
    show ax (dG (c_ (aN #[by show 0<=_;decide,aN #[_,_,L,?_]])))
    show aG (gU (nI (cn (aw L (d_ ?_)))))
    show#[λi b f=>∃(rv:Nat) (b7 c2 b8:Option D),b= [some (.ref 0),some (.int n),some (.ref kp),some w.d,some (iB 200 g),some (.ref r),B,some (gf w tr).d,some (.int j),some (.tup ((tr.map (·.1)).map lY)),some (gf w (tr.take i)).d,some (.ref rv),b7,c2,b8,kN 14,kN 15]/\Ex kp J f/\f[rv]?=some (.lst ((B9 (tr.take i)).map LY)),#[_,_,_,_,L,e6.app,aW],λ_ _ _ _=>trivial,?_,?_]
    ·rintro i d b f A ⟨rv,b7,c2,b8,rfl,ex,F⟩
     rw[gQm,gQm] at A
     let#[h0,f2,rfl]:=oQm.mp A
     let#[#[h,C,e],hx,rfl]:=oQm.mp f2
     let c1:=(gQs.mp hx).1
     let#[h1,h2,h3]:=P i h C e hx
     have b9:gf w (tr.take (i+1))=C:=pN hx
     have d4:B9 (tr.take (i+1))=B9 (tr.take i)++q_ (h,C,e):=jx hx
     have J5:(B9 (tr.take i)).length<=40:=by
      have:=xK (tr:=tr.take i)
      rw[Qxq] at this
      omega
     let d5:=reach P i (!0)
     let d0:=reach P (i+1) (!0)
     rw[b9] at d0
     generalize gf w (tr.take i)=s at h1 h2 h3 d5|-
     have a0:f[r]?=some (.dctN (ss.map aO.d) y):=ex.keep _ _ c4 hr5
     show aQ ?_
     show aG (xh (bX (ax (aw L (ax (aw L (ax (aw L (aN ?_)))))))))
     show step_at h1 h2 h3 ?_
     show dJ L (ay (aQ (ay (aQ (bg ?_)))))
     show cI _ _ (.nx [some (.ref 0),some (.int n),some (.ref kp),some w.d,some (iB 200 g),some (.ref r),B,some (gf w tr).d,some (.int j),some (.tup ((tr.map (·.1)).map lY)),some s.d,some (.ref rv),some (.int h),some C.d,some (He h e),kN 14,kN 15] f)
     show aG (T.mono (Q:=λo=>o=.nx [some (.ref 0),some (.int n),some (.ref kp),some w.d,some (iB 200 g),some (.ref r),B,some (gf w tr).d,some (.int j),some (.tup ((tr.map (·.1)).map lY)),some s.d,some (.ref rv),some (.int h),some C.d,some (He h e),kN 14,kN 15] (f++ [.dctN [] []])) ?_ ?_)
     ·show dB (qv (bJ (MA (aw L (MK #[_,_,_,_,_,L,L,bq a0,aW,?_])))))
      show jc (bc (λc=>?_) (λ_=>?_))
      ·have c3:ss≠[]:=λz=>by rw[z] at c;cases c
       let m1:=hin c3 _ d5
       let m2:=hin c3 _ d0
       show sQ (bJ (JN (aw L (aw L #[_,_,_,_,C.p,L,L,bq a0,C.num,C.nu,?_]))))
       rw[xv m2 hl]
       show jc (bc (λc=>by cases c) (λ_=>?_))
       show bJ (JN (aw L (aw L #[_,_,_,_,s.p,L,L,bq a0,s.num,s.nu,?_])))
       rw[xv m1 hl]
       show jc (bc (λc=>by cases c) (λ_=>cx L))
      ·show bc (λc=>by cases c) (λ_=>cx L)
     ·rintro o rfl
      show aG (cf (aw L ?_))
      have q:(f++ [O.dctN [] []])[rv]?=some (.lst ((B9 (tr.take i)).map LY)):=bq F
      have c0:Ex kp J (f++ [O.dctN [] []]):=ex.app
      generalize f++ [O.dctN [] []]=S9 at q c0|-
      cases e with
      | none=>
        show cf (dG (yK (cn (aw L (bN q (iI (Fp (iI (c_ (ax (aw L (aN #[by show 1<=_;decide,?_]))))))))))))
        show KC (ax (cy (aw L (eG (iP (aN (pd ?_)))))))
        show#[0,_,L,L,#[L,trivial,by omega],?_]
        show#[#[L,L,q,yP (by rw[lQm];show _+0<=100;omega)],?_]
        show#[S9.length,some (.int h),some C.d,some (He h none),?_,c0.app,?_]
        · rw[b9];rfl
        · rw[d4,aW]
          show some (O.lst (_++ []))=_
          rw[List.append_nil,show q_ (h,C,none)= [] from L,List.append_nil]
      | some v=>
        show cf (dG (yK (cn (aw L (bN q (iI (Fp (iI (c_ (ax (aw L (aN #[by show 1<=_;decide,?_]))))))))))))
        show KC (ax (cy (aw L (eG (iP (aN (pd ?_)))))))
        show#[1,_,L,L,#[L,trivial,by omega],?_]
        show#[#[L,L,q,yP (by rw[lQm];show _+1<=100;omega)],?_]
        show#[S9.length,some (.int h),some C.d,some (He h (some v)),?_,c0.app,?_]
        · rw[b9];rfl
        · rw[d4,aW,Qzq]
          rfl
    ·rintro b f ⟨rv,b7,c2,b8,rfl,ex,F⟩
     have f3:(((tr.map (·.1)).map lY)).length=tr.length:=by rw[lQm,lQm]
     have F:f[rv]?=some (.lst ((B9 tr).map LY)):=by
      have:tr.take (((tr.map (·.1)).map lY)).length=tr:=by rw[f3];show QEq
      rw[<-this]
      show F
     show dB (FA (CQ (bX (ax (bX (ax (aw L (ax (aw L (aN ?_))))))))))
     show Dy ok P (!0) ?_
     show ax (dH (ax (aw L (ax (fe (eV (cn (aw L (bN F #[L,aN #[by show 2<=_;decide,aN ?_]])))))))))
     show Fn _ [q5 w tr,q5 w tr] _ _
     show xQ 10 _ (Iy ok gd.1 (!0) (!0)) ?_
     show#[true,L,?_]
     show bc (λc=>by cases c) (λ_=>cx ?_)
     show#[#[_,_,_,_,_,_,_,_,L],ex]
   ·rintro b f ⟨⟨d7,d8,d9,R,H,N,G,K,rfl⟩,ex⟩
    have f4:f[0]?=some (.frz (ns.map D.int)):=ex.keep _ _ h0 (e5.keep _ _ h0 d3)
    show aG (xh (bX (ax (aw L (aN ?_)))))
    have d1:∀(t u:Option D),cP (λn b f=>(∃kN:Nat->Option D,b= [some (.ref 0),kN 0,kN 1,kN 2,kN 3,kN 4,kN 5,kN 6,kN 7,kN 8,kN 9,kN 10,kN 11,kN 12,kN 13,kN 14,kN 15])/\f[0]?=some (.frz (ns.map D.int))) n (cI (cB (cF (.bl true))) (g8 [O.frz (List.map D.int ns)] λr _=>r=Res.d (.bl true))) (.nx [some (.ref 0),some (.int n),some (.ref kp),some w.d,some (iB 200 g),some (.ref r),B,d7,d8,d9,R,H,N,G,K,t,u] f):=λ_ _=>#[z7,f4]
    show GP ok (λI al e8 cl=>?_) ?_
    ·show dJ L (ay (aQ (ay (aQ (bg ?_)))))
     show dB (qv (bJ (cy (aw L (eG (iP ?_))))))
     show jc (bc (λ_=>?_) (λc=>by cases c))
     show FA (CQ (bX (ax (bX (ax (aw L (ax (lg (cn (aw L (d_ (aN ?_))))))))))))
     rw[lQm]
     let o1:=F5 ok
     let l1:=Co ok
     show Ce o1 (most:=I.length) e8 λgs e9 f8=>?_
     show ax (dH (ax (eG (ax (aw L (aN #[by show 2<=_;decide,aN ?_]))))))
     let#[k,cm,Z,e0]:=e9
     let hm:=Iq l1 al cl e0 Z
     have f5:gs.length=I.length:=by rw[<-hm,lQm]
     have eb:iB I.length gs=.tup [.str "all",.tup (I.map aO.d)]:=by
      unfold iB
      rw[Qhq (!0),<-hm,QPq]
      rfl
     rw[eb]
     show xQ 10 _ #[by show 2<=1000;decide,λd A=>?_] ?_
     ·erw[Qsq,QXq,or_false] at A
      rcases A with rfl|rfl
      ·trivial
      ·show fK (n:=8) (!0) λs hs=>?_
       let#[i,hi]:=List.getElem?_of_mem hs
       let c1:=(gQs.mp hi).1
       show DM o1 (al.gd i s hi).1 (!0)
     show#[true,L,?_]
     show bc (λc=>by cases c) (λ_=>cx ?_)
     show d1 _ _
    ·show dJ L (ay (aQ (ay (aQ (bg ?_)))))
     show dB (qv (bJ (cy (aw L (eG (iP ?_))))))
     show jc (bc (λc=>by cases c) (λ_=>?_))
     show bc (λc=>by cases c) (λ_=>cx ?_)
     show d1 _ _
 ·rintro b f ⟨⟨kN,rfl⟩,hS⟩
  symm
  let hl:=(gQs.mp hS).1
  show hU (S2:= [.frz (ns.map D.int)]) #[by show 1<=f.length;omega,λk o Z e=>?_] ?_ (λk z=>(nomatch z)) L L
  ·have Z:k<1:=Z
   have:k=0:=by omega
   subst this
   rw[hS] at e
   show .inl e
  ·cases f with
   |nil=>simp at hl
   | cons a l=>
     simp at hS
     subst hS
     rfl
end W28
open PySem PySem.W PyProof.Rows L2 DL
theorem PySem.Challenge.cw_calledroom_k37_whole_weavings_lead_into_holds : PySem.Challenge.rw_calledroom_k37_whole_weavings_lead_into.Holds := by
  w_on; o_law; k_head; (case hw => w_witness2)
  k_fill
  show DL.q5 (l := PySem.Challenge.rw_calledroom_k37_whole_weavings_lead_into) (k := 16) rfl rfl #[rfl, by decide, by decide] (λw h Y => PySem.W.kIn_of Y) (λw => ?nl) ?F
  case nl => rfl
  case F =>
    intro w mg fa h KX G hmg
    refine' W28.all_mk KX G hmg ?_ ?_ ?_ ?_ ?_ ?_ ?_ ?_ ?_ ?_ ?_ ?_ ?_ ?_ ?_ ?_ ?_ ?_ ?_ ?_ ?_ ?_ ?_ ?_ ?_ ?_ ?_ ?_ ?_ ?_ ?_ ?_ ?_ ?_ ?_ ?_ ?_ ?_ ?_ ?_ ?_ ?_ ?_ ?_ ?_ ?_ ?_ ?_ ?_ ?_ ?_ ?_ ?_ ?_ ?_ ?_ ?_ ?_ ?_ ?_ ?_ ?_ ?_ ?_ ?_ ?_ ?_ ?_ ?_ ?_ ?_ ?_ ?_ ?_ ?_ ?_ ?_ ?_ ?_ ?_ ?_ ?_ ?_ ?_ ?_ ?_ W28.Gi
    any_goals first | show DL.bu.of (by k_is) (by k_is) (by k_is) (by k_is) | k_is
