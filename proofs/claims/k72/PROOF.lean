import PyProof.Rows.All
import Wide.All
import OpenK.AllK
import Wide.FinOn
import Lean
import PyProof.EqAt
import PyProof.EqKinds
import PyProof.TupleCall
import PyProof.DictRoadsH
import PyProof.NeKinds
import PyProof.StrBlockI
import PyProof.SliceStr2
import PyProof.StrLaws
import PyProof.ListMulRoad
import PyProof.FactsAll.tuple
import PyProof.SetKind
import PyProof.DictKinds
import PyProof.Rows.SetFrom
import PyProof.Rows.SortStr
import PyProof.FactsAll.set
import KE.KDictOf
import PyProof.AttrMissHeap
import PyProof.WalksMore
import PyProof.ListRange
import PyProof.TupleOfSeq
import PyProof.Rows.TupDisplay
import PyProof.DictItems
import KE.KMinBuiltin
import KE.KTupSum
import PyProof.DictWalks
import KE.KSortTup
import PyProof.StrLawsTight
import PyProof.StrLawsChain
import PyProof.StrLawsJoin
import PyProof.StrLawsFirst
import PyProof.StrBlockH
import PyProof.StrCalls2
import PyProof.MeetsStr2
import PyProof.Rows.StrNews2
import PyProof.Conv_int_bool
import KE.KEqDict
import PySem.Challenge.RW_routeboard_k72_whole_site_texts
set_option Elab.async false
set_option linter.all false
set_option maxRecDepth 100000
set_option maxHeartbeats 0
set_option bootstrap.genMatcherCode false
set_option compiler.extract_closed false
set_option backward.eqns.nonrecursive false
open Option renaming some→So,none→No
open Bool renaming true→To,false→Fo
open PySem.Str renaming ofString→oS
section
open Lean
def sgM(a:Array Syntax):Syntax:=if a.size==1 then a[0]! else mkNode `Lean.Parser.Term.app #[a[0]!,mkNullNode (a.extract 1 a.size)]
def sgA(k:Name)(s:String)(c:List Char):Syntax:=mkNode k #[mkAtom s,mkIdent (((String.ofList c).splitOn ".").foldl .str .anonymous)]
def sgI(c:Char):Bool:=c.isAlphanum||"_.'₀₁₂σκ".toList.contains c
def sgO(a b:Syntax)(k:Name)(s:String):Syntax:=mkNode k #[a,mkAtom s,b]
mutual
def sgP:Nat->Array Syntax->List Char->Syntax×List Char
|n+1,a,r=>match r with
 |' '::r=>sgP n a r
 |'('::r=>let p:=sgP n #[] r
  if p.2.head?==So ',' then let q:=sgP n #[] (p.2.drop 1);sgP n (a.push (mkNode `Lean.Parser.Term.tuple #[mkNode `Lean.Parser.Term.hygienicLParen #[mkAtom "(",mkNode `hygieneInfo #[mkIdent .anonymous]],mkNullNode #[p.1,mkAtom ",",mkNullNode #[q.1]],mkAtom ")"])) (q.2.drop 1)
  else sgP n (a.push p.1) (p.2.drop 1)
 |'['::']'::r=>sgP n (a.push (sgO (mkAtom "[") (mkAtom "]") `«term[_]» ""|>.setArg 1 (mkNullNode #[]))) r
 |'['::r=>let p:=sgL n #[] r;sgP n (a.push (sgO (mkAtom "[") (mkAtom "]") `«term[_]» ""|>.setArg 1 (mkNullNode p.1))) p.2
 |'⟨'::r=>let p:=sgL n #[] r;sgP n (a.push (mkNode `Lean.Parser.Term.anonymousCtor #[mkAtom "⟨",mkNullNode p.1,mkAtom "⟩"])) p.2
 |'?'::'_'::r=>sgP n (a.push (mkNode `Lean.Parser.Term.syntheticHole #[mkAtom "?",mkNode `Lean.Parser.Term.hole #[mkAtom "_"]])) r
 |'"'::r=>let p:=r.span (·!='"');sgP n (a.push (Syntax.mkStrLit (String.ofList p.1))) (p.2.drop 1)
 |'\''::c::r=>sgP n (a.push (Syntax.mkCharLit c)) (r.drop 1)
 |'.'::r=>let p:=r.span sgI;sgP n (a.push (sgA `Lean.Parser.Term.dotIdent "." p.1)) p.2
 |c::r=>if c==')'||c==','||c==']'||c=='⟩' then(sgM a,c::r)else
  if c.isDigit then let p:=(c::r).span Char.isDigit;sgP n (a.push (Syntax.mkNumLit (String.ofList p.1))) p.2 else
  if sgI c then let p:=(c::r).span sgI;let s:=String.ofList p.1
   if s=="fun" then let q:=p.2.span (·!='=');let b:=sgP n #[] (q.2.drop 2);let v:=((String.ofList q.1).splitOn " ").filter (·!="");(sgM (a.push (mkNode `Lean.Parser.Term.fun #[mkAtom "fun",mkNode `Lean.Parser.Term.basicFun #[mkNullNode (v.map fun x=>(sgP n #[] x.toList).1).toArray,mkNullNode #[],mkAtom "=>",b.1]])),b.2)else
   sgP n (a.push (if s=="_" then mkNode `Lean.Parser.Term.hole #[mkAtom s]else if s=="Prop" then mkNode `Lean.Parser.Term.prop #[mkAtom s]else(sgA .anonymous "" p.1).getArg 1)) p.2
  else let o:=(c::r).span (fun c=>!sgI c&&!" ([⟨?\"'".toList.contains c);let p:=sgP n #[] o.2;let s:=String.ofList o.1;(sgO (sgM a) p.1 (if s=="->" then `Lean.Parser.Term.arrow else .mkSimple ("term_"++s++"_")) s,p.2)
 |[]=>(sgM a,[])
|_,a,r=>(sgM a,r)
def sgL:Nat->Array Syntax->List Char->Array Syntax×List Char
|n+1,a,r=>let p:=sgP n #[] r;if p.2.head?==So ',' then sgL n (a++#[p.1,mkAtom ","]) (p.2.drop 1)else(a.push p.1,p.2.drop 1)
|_,a,r=>(a,r)
end
end
def sgT:List String:="бautoParam¦O.ref C¦W.var 2¦7.ref s.heap.objs.size¦.i + 1¦Ö.inl rfl¦Û.dGet Fo¦Ň.str Hx¦ŕrunD defs c¦žbackTo pos (starEach E2 X.env)¦ҁ.tup (.cons (.bi .idx (.var 5) Ap) (.cons (.call 32 (.cons AW (.cons (.bi .add (.bi .add BS E4) (.bi .mul (.con (.int 30)) Ap)) (.cons BK .nil)))) .nil))¦Ɓs.heap.objs.size¦ƂJ.length¦Ɔits.toArray¦ƈks.length¦Ǝits.toArray.size¦òDeed.mount n hs o¦čPySem.strKind prog w¦ĜRs.gB.mp h¦Į⟨rfl,rfl⟩¦ĻPySem.W.hideAll B [Cd]¦Ŕs.heap.push PySem.W.emptyDict¦ŠJa st¦šlook n A¦ŨevD U a O¦ŭevD U e O¦ŰDeed.take n¦źJn CL¦ƛcxE B8 P w K mg base N O fn cm A outer s H E¦ƜmntR hs r¦ƤevD U p O¦ƹsrt A¦ƽzh5 s.heap t1 t2 f q¦ƾ.Call SU [] [] pos¦ǀList.replicate X.N.length No¦ǁList.range m¦ǃyY kvs k¦ǈevD U as O¦ǉls.map mkS¦ǐJW X.env.cells sc.names []¦ǔ['r','o','t','a','r','e','t','i','_','t','e','s']¦ǘ[.str a m,.str b u,.str d v]¦ǢJ.getD j .non¦ǣhidT g.heap H¦Ǩe.grow s¦Ǫput n t A¦ǯrelabel sc X.env¦ǶJk _ _ (f _ _ _) rfl l¦ǹtbl A n¦ǼSameP.of s¦ǽZ.set i Bj¦ǿputK kvs k v¦Ȍs.heap.push (newS w)¦ȗitems.toList.drop (sIx AC 0 lo)¦ȥns.zip xs¦ȳcutV xs lo hi¦ȶbackTo pos (starEach [] X.env)¦ɇofN ns¦ɌDeed.put n t¦ɒpB N vs¦ənM X ls sc Cd s2 H2 fp E'¦ɫzh1 s.heap t1 f¦ɮList.range' 0 n¦ɷmkS (hdL n)¦ɼrows.map fun r=>mkS GM¦ɾmkS []¦ʚrows.map Row.l¦ʢF.args_str_split_2 _ _¦ʬevD U c¦ͲK w.params¦ͳps.map txP¦ͽhE T ks vs (.str h) y¦Λzh4 s.heap t1 t2 f q¦ιassignEach es X.env¦λg b _ this fun z=>z¦όList.range i¦ώ⟨rfl,fun _=>h r b⟩¦ϔfun _=>To¦ϕns.zip fs¦ϙJo [s] ls¦ϚtabT rows¦ϣI.base.tups b xs q¦Ϧrows.map (mntR hs)¦ϩBuiltin.Str.strSliceIndices lo hi 1 x.length¦ϱcxOf B8 P w K mg base N g b f i A e s H E¦ϴmkS l¦ϵksD A¦Ϸkys A¦ЁpickOrder KQ es¦ЎmetS ws¦УevD U src O¦єZR _ _ EM¦ћJe q g¦ѠtgN tg¦Ѣtxt ps¦ѩm b _ q fun z=>z¦Ѿfn _ _ C¦Ҋ[So Nx,So (.dct Fo Fo [] []),So .non,No]¦ҵrelabel scope O¦ҶcellsFrom n b e¦Ӝif_neg (lT f)¦ԁpF (.put n t) \"put\" _ _ 1 rfl¦ԄevD U c O¦ԈNe.symm q¦ԐevD U e¦ԓf _ _ _¦ԢList.replicate j.toNat i.cps¦ԬenvOfC qual scope Aa f cd¦ԳtxP p¦ԺList.range n¦ԻevB U bc a O¦ԼevB U bc e O¦Կs02.trans sm¦Հws.map D.str¦ՁCx.mk1 X E Y¦եhidT h H¦ըr.bind f¦պpF IZ \"put\" _ _ 1 rfl¦ցputF f y fs¦七SameP.of s1¦丅rs.filter p¦三envOfC g scope Aa f I¦丐JX nt Kc Kb O G4¦专Jk _ _ (U _ _ _) rfl N¦丙assignEach [tg] X.env¦丟zh1 (zh1 h t1 f) t2 g¦为List.range bs.length¦主zh3 s.heap t1 t2 f q¦丼s.heap.update a Th¦丿Rx.of O (evD U pc O)¦乩valV kvs k¦乪eU J its d¦买Ne.symm n1¦乲yB rows i¦乴zipD ks vs¦乾oth b (N b o hb f)¦亃ws.zip (ws.drop 1)¦亟Fz.sm (F.trans B)¦亼f b _ q fun z=>z¦亽g b _ q fun z=>z¦亿ws.foldl addS ks¦仄List.range' lo n¦仍Jk _ _ rfl rfl h".splitOn "¦"
def sgU:List String:="Ahaz._auto_1¦Ekaz._auto_2¦ILaz._auto_3¦Xfaz._auto_4¦Co'б' Xb Ah¦Dd'б' '(' Ah¦DH'б' Gi Ek¦IJ'б' Nz Ah¦II'б' F8 Ah¦LW'б' Ua Xf¦Sb'б' DC Ah¦Sa'б' SS Ah¦R9'б' Nw Ah¦Wa'б' Xd IL¦V9'б' R8 Ah¦V8'б' V5 Ah¦AjPySem.W.Frag¦AuValue -> Shared -> Prop¦AgList Str¦Ap.var 0¦A8List (Str × NameKind)¦AVList (Addr × Obj)¦Armodel prog w¦Asmodel X.prog X.w¦AoCtx X G N nm¦BiStr -> Option Value¦AkShared¦AqList Nat¦Azob a A dn un¦AGPE X a (tI X U pa)¦AW.var 1¦E4.con (.int 1)¦AHInv X Y Z H s¦BeProgram¦AeCallD¦AmList D¦AFList Value¦Cw.bl To¦BdAround¦BpPE X b (tI X U pb)¦E3.Name x px¦Ax.ref a¦BhrunD defs U¦AX'O'¦BQOw M O Z¦BwL2.Inv X Y Z H s¦E2e :: es¦AvList V¦A1List Addr¦HD.con (.int 0)¦A0World¦BS'W'¦AlValue¦BgU + 1¦Xa(Fo,eval e X.env)¦BfL2.St¦BRrunD defs k¦B4.con Cw¦Bv.str n¦DGList (Str × Addr)¦CyList Expr¦E5'7'¦Bl.tup xs¦B6.ref it¦B8CXr P w¦GboS \"self\"¦Cn.obj a ns fs¦Ga.Name x p1¦CO.bl Fo¦GmoS \"NoText\"¦E6.cons Ap .nil¦Gk.con (.int 2)¦Bq'.'¦B7Array Value¦DFs.heap.objs.size + 1¦BK.var 3¦NChs.map Part.d¦Eht ++ mkT hs u¦XbstarEach E2 X.env = (Xa :: starEach es X.env)¦Gi(x == Xk) = Fo¦K6.con (.int 3)¦W8oS \"rest\"¦NB(Fo,eval a X.env)¦HB.bi .idx Ap HD¦DE.bi .idx Ap E4¦Eg.str (mkS l)¦HA.Attribute E3 f apos¦BEXW X H¦AZList Row¦HyoS \"any\"¦BkA.handled = No¦K5oS \"number\"¦AK.lst xs¦AE.lst J¦CmoS \"TooMany\"¦A7FuncData¦BDrunD defs (c + 8)¦BPoS \"_law_script\"¦AM.dK kvs¦E1tI X U p¦DDoS \"thing\"¦BOrunB defs bdefs k¦CkoS \"NoSite\"¦F9oS \"name\"¦A6.ref f¦DCstarEach [a] X.env = (NB :: starEach [] X.env)¦BC.ref l¦CjoS \"NoBack\"¦BuList (κ × V)¦F8starEach [b] X.env = ((Fo,eval b X.env) :: starEach [] X.env)¦BB'Ö'¦BJ.var 4¦EfoS \"table\"¦BIEP X Y Z Q¦E0'Û'¦ARList Int¦K4oS \"tables\"¦EZps.map Part.d¦B3So (.int k)¦DB.bi .idx AW E4¦A5List Env¦CNOption Value -> Shared -> Prop¦HxmkS (stx A)¦B2oS \"text\"¦A4k + 1¦BHList Stmt¦Da.con .non¦Hw.con (.int 4)¦BNsepP M p = To¦C9(apos.endLine == pos.line) = To¦B1Ja st¦AQknD B¦K3oS \"Site\"¦CiList (κ × Value)¦F7.isO nsS¦Bchid L H¦BjSo v¦AY.int i¦W7.Attribute Ga m apos¦BoSo AX¦BGSo d¦Cv.var i¦NAkeywordEach [] X.env¦DAoS \"BadValues\"¦CMns.contains m = Fo¦DzoS \"BadLead\"¦Bbc + 1¦CLkys A¦Eedel n B¦BtList Part¦BMhs ++ r.ps¦DyoS \"NoHole\"¦B0.Name x pos¦BZX.calm = To¦Hv.cons AW .nil¦EY.str (mkS [s])¦C8Unit -> Shared -> Prop¦CuO :: outer¦DxoS \"NoRow\"¦DwoS \"Taken\"¦DvList Pu.D -> Nat -> Rs Pu.D¦F6.str W8¦BAOption Int¦Ed.un (.fld K4) Ap¦C7EnvOk K M H0 H Z O¦Hu.str Hy¦C6Str -> Prop¦Duws.map .str¦NzstarEach [e] X.env = (Xa :: starEach [] X.env)¦Dtha Y s Z H _ I h¦HsenvOfC qual B1 s.heap.objs.size f cdv¦BYOut X H Q¦C5mutB body¦K1.str K5¦F2mkS (Jw r)¦BXPE X e E1¦DsList (List Nat)¦C4ls ++ hidN ls N¦C1.ret (.con CO)¦K0mkS (stx B)¦CJlook n A¦CHeval a X.env¦CZO.set i No¦BWList DefD¦F1sIx items.size items.size hi - sIx items.size 0 lo¦Cfmodel P w¦DqSo BC¦Dp(3 * k) + 2¦EcPA X E2 (tA X U p)¦EbchkO N nm M i x = To¦EW.builtin \"object.__class__\"¦Uc.tail _ (.tail _ (.head _))¦Do.builtin id¦FZJW X.env.cells sc.names []¦D9I1.hok.fresh (Zf _)¦D8od.data = .dict es ep¦Hq.cons Hw .nil¦Ho.cons BJ .nil¦EVValue.ref d == Value.none¦FX.dct Fo Fo (ksD Ee) (vsD Ee)¦D7Fun K x qual st f fd¦Hnrows.map Row.d¦Nx'Ň'¦CtHOk P w H h¦D6getMethod ov m pl¦D5backToKw pos NA¦D4runD defs (c + 7)¦FWList (Str × Value)¦FVResult -> Shared -> Prop¦EU.Call W7 E2 [] pos¦EToS \"ValueError\"¦KZ.bi .idx AW K6¦D3Bool -> Hp -> Prop¦D2tT X' U pc¦Ub'ŕ'¦NwattributeBase E3 f X.env (eval E3 X.env) = eval E3 X.env¦Ua(X.fn x = To) ∨ (X.env.scope.names.lookup x = So .local)¦EShe Y s Z H _ I h¦ERchkA N nm M i x = To¦FUEnv0 P w K mg base A outer s H¦EOCx.mk1 X E Y¦EN.raise Gm .nil¦D1Str -> Fm -> Prop¦HmEa ns a B x3 x4 x5 x6 x7 (ob o (srt B) [] []) B¦HlFnOk X.prog X.w X.K X.mg X.base CX k f fd ps sp¦EMNe.symm hb¦CYC.glo _ hg¦EKoS \"_law_at\"¦EJArray (Option Value)¦FSoS \"_law_deed_here\"¦FRO.set i BG¦NvoS \"one\"¦KSoS \"put\"¦FQbehindInMarks op b = Fo¦EISo (f r) :: O¦FP.Compare a [op] [b] pos¦FOSetTable.grown es1.size¦D0Jx d.slots J¦KQw.params.setOrder a ep¦HjoS \"mount\"¦EHList (L2.Key × V)¦FMoS \"undone\"¦W6oS \"word\"¦GNoS \"take\"¦Fk(X.A.units + 64) < cLine¦DJ.ins C dx fs¦DIns.map D.int¦SU.Name K3 p¦Eo.un .len Ap¦GMJw r ++ [10]¦Fjks ++ [kD n]¦FioS \"done\"¦FhexO w U bc body¦KaArray (Int × Value)¦Mh.con (.str (oS \"=\"))¦J8oS \"abcdefghijklmnopqrstuvwxyz0123456789-\"¦SSswapsWith e (So E3) pos.line X.env = pure Fo¦J7.con (.str (oS \"\"))¦GLPI X tg iter (tW X U ps)¦J6.comp nt ps pc pe¦Fg(x == Xj) = Fo¦FfNat -> Heap -> Prop¦SRenvX q scope s.heap.objs.size f (.ref c') clos¦FeX.env :: X.outer¦Mc.bi .idx AW Gk¦Mbvs ++ [.str (mkS acc)]¦Sj.tail _ (.tail _ Uc)¦GESetAt s.heap a o es ep t¦IXoS \"abcdefghijklmnopqrstuvwxyz\"¦IW.builtin \"getset_descriptor.__get__\"¦Si.tolB fi cs f i ns p¦GDrunB defs bdefs U¦GC(X.A.units + 60) < cLine¦IVSo (f1 r) :: So (f2 r) :: O¦GBO.set i (So st)¦Sg.cons (.un F7 (.var 8)) .nil¦L9Bool -> Hp -> Prop¦GAI.hok.fresh (Zf _)¦GzchkV N nm i x = To¦Gy(dn.length + 1) < 1000¦IU.obj a nsS (fsS ks vs J es)¦IT.Compare a [.NotEq] [b] pos¦L8nE 'ō' (C.vis x g5) d1 d2¦Sf.sl Ap (.un .asI E4) Da¦IS.Assign [.Name x px] e pos¦IR.con (.str (oS \"/\"))¦Se.con (.str (oS \"[\"))¦IQValue -> Value -> Sem Value¦L6X.env.qual ++ \"<lambda>\"¦IPtI X U (.bi o pa pb)¦V7.un .asI (.un .neg E4)¦IMrunB defs bdefs (c + 8)¦IKdn ++ [stp w n CJ x]¦L5So (.obj a ns (putN f d' ns fs)) :: env'¦L4.builtin \"BaseException.__getattribute__\"¦V6.cons DB (.cons Mc (.cons KZ .nil))¦L3(b ∈ X.ex) ∨ (X.s₀.heap.objs.size ≤ b)¦L0envOfC qual scope s.heap.objs.size f cd¦LZSo (.dct Fo Fo (ksD C) (vsD C))¦LYevD U src O = .ok (.lst (rs.map f))¦LXOption (Value × Nat) -> Shared -> Prop¦Sd.call 43 (.cons (.un F7 AW) .nil)¦LVPySem.W.instObj C s.heap.objs.size¦LUupd W s2.heap.objs.size (.lst ys)¦LR.dct Fo Fo (ksD A) (vsD A)¦LQzipD (ns.map kD) (ns.map (vD A))¦R8defaultsOf params X.env = ([],[])¦LOV -> List V -> Hp -> VK -> Prop¦V5starEach [.Lambda params body sc lp] X.env = ((Fo,eval (.Lambda params body sc lp) X.env) :: starEach [] X.env)¦R6PySem.W.fnOf x qual (iJ st) (Jl st) B1 .none kV doc pm an cdv ct¦R5.Raise (So (.Call (.Name cx np) [ma] [] cpos)) No pos¦R4cxOf CX P w K mg base N qual scope f cdv A outer s H E¦R3HT.sIx xs.length xs.length hi - HT.sIx xs.length 0 lo¦RXV -> Option Int -> Option Int -> Hp -> VK -> Prop¦RQ.loop Fo ts nt (.dis (.cons p .nil)) .skip¦RO.Call Ga [.Lambda params body sc lp] [] pos¦RN.walk (.call 40 (.cons (.un F7 Ap) .nil))¦RMtypeOf Do = pure (.type \"method_descriptor\")¦RJupd H a (.ins C dx (putF f v (ns.zip xs)))¦VY.comp 0 (.un .range (.call 30 (.cons Ap (.cons AW (.cons (.bi .add BS E4) .nil))))) B4 (.call 31 (.cons AW (.cons (.bi .add (.bi .add BS Gk) (.bi .mul (.con (.int 5)) Ap)) (.cons (.bi .idx BJ Ap) .nil))))¦VX.comp 0 (.un .range (.bi .add E4 (.call 30 (.cons Ap (.cons (.bi .add AW E4) (.cons K6 .nil)))))) B4 (.bi .idx BJ (.call 30 (.cons AW (.cons (.bi .add (.bi .add BS Gk) Ap) Hq))))¦VW.ret (.tup (.cons (.con (.str Hj)) (.cons BK (.cons (.var 7) (.cons (.bi .idx BS (.call 30 (.cons Ap (.cons (.bi .add AW Hw) Hq)))) .nil)))))¦VV.ite (.un .isN BS) EN (.put Fo Fo 1 BS (.bi .add (.bi .add (.con (.str Str.empty)) (.bi E0 AW BS)) (.bi .add BK (.con Xg))))¦VU.un .tuple (.comp 2 (.walk (.un .rows (.bi E0 Ap KZ))) B4 (.tup (.cons Ap (.cons (.bi .add (.bi .idx BK Gk) AW) .nil))))¦VT.set Fo 6 (.bi .idx (.con (.str (oS \"abcdefgh\"))) (.call 30 (.cons Ap (.cons (.bi .add AW K6) (.cons K6 .nil)))))¦VS.tup (.cons AW (.cons BS (.cons (.ite (.bi (.dIn Fo) BS Ed) (.bi E0 Ed BS) Da) (.cons BK .nil))))¦VR.comp 0 (.un .dKeyW Ap) (.bi .ne Ap (.bi .idx BS E4)) (.tup (.cons Ap (.cons (.bi E0 AW Ap) .nil)))¦VQ.or (.un .not (.un .truth (.call 3 (.cons Ap (.cons E4 Hq))))) (.un .not (.un .truth (.call 4 E6)))¦VP.set Fo 5 (.call 33 (.cons Ap (.cons (.bi .add AW (.con (.int 10))) (.cons Gk (.cons K6 .nil)))))¦Xd(((nG N ps B1 && (d.slots == N.length)) && (d.params == ps.length)) && decide (ps.length ≤ N.length)) = To¦VO.call To 0 1 nsS (.cons (.call 28 (.cons BS .nil)) (.cons (.call 25 (.cons BK .nil)) .nil))¦VN.set Fo 7 (.call 32 (.cons Ap (.cons (.bi .add AW (.con (.int 200))) (.cons Gk .nil))))¦VM.call 35 (.cons Ap (.cons (.bi .add (.con (.int b)) (.bi .mul (.con (.int 300)) BK)) .nil))¦VLhandleBy Ax X.env [.ExceptHandler (So (.Name rn np)) (So en) [.Return (So ex) p2] hp]¦VJ.ite (.un .truth (.bi .strt Ap BS)) (.ret (.tup (.cons AW (.cons Sf .nil)))) .skip¦VI.ite (.bi .eq BJ K6) (.ret (.tup (.cons (.con (.str GN)) (.cons BK .nil)))) .skip¦VHstarEach (.Name y py :: es) X.env = ((Fo,eval (.Name y py) X.env) :: starEach es X.env)¦Aa'Ɓ'¦Ac'Ƃ'¦ABs1.heap.objs.size¦AOs2.heap.objs.size¦Aixs.length¦AU'Ɔ'¦ADX.env.locals¦Ay'ƈ'¦ACitems.size¦Awps.length¦AAvs.length¦Bzrows.length¦ANns.length¦FL'Ǝ'¦CsX.env.scope¦Bykvs.length¦BLh.objs.size¦Cbh'.objs.size¦BVits.length¦BFls.length¦CFvs.toArray¦CWscope.names¦NrX.s₀.heap.objs.size¦BUys.length¦An⟨P,w,K,mg,base,A⟩¦AL⟨l.prog,w,K,mg,base,A⟩¦AJ⟨_,rfl⟩¦K2[(.tup [Hu,(.str (oS \":\"))]),(.tup [K1,(.str (oS \"#\"))]),(.tup [F6,(.str (oS \"*\"))])]¦CK⟨_,Ze _ rfl,rfl,rfl⟩¦F4.ListComp elt [⟨tg,iter,ifs,0⟩] sc pos¦Ht[D.str (S \"a\"),D.str (S \"b\"),D.str (S \"7\"),D.str (S \"0\")]¦F3.ext fun _=>True¦Ud[.int dn.length,.int un.length]¦Dr'Į'¦Cgfun _ _=>rfl¦HrnotedBy Ar A O fun e f=>R (.error e) f¦FYls.map fun l=>.str (mkS l)¦Ny[.type \"ValueError\",.type \"Exception\",.type \"BaseException\",.type \"object\"]¦KY⟨JD M 0 O,Ow M O Z,e.ows,e.readHid,?_⟩¦FT⟨_,Ze _ rfl,rfl⟩¦Nu[D.str (S \"a\"),D.str (S \"b\"),D.str (S \"home\"),D.str (S \"x\")]¦Hk⟨_,_,b,f,Out.now h rfl⟩¦Nt[So Az,So Bv,So (.tup NC),So (.str o),So (tD t),No]¦BmOption D¦CeclsN nsS¦CGclsN ns¦DZ⟨v,u,e,r,g⟩¦EG⟨_,_,rfl,rfl⟩¦Hi.tup [Hu,K1,F6]¦T9[D.str (S \"t\"),D.str (S \"p\"),D.str (S \"v\"),D.str (S \"q\"),D.str (S \"u\"),D.str (S \"s\")]¦FK⟨O,e.readOk,?_⟩¦W5[.Name x px,.Name h ph]¦T8[(DA,o),(Dx,I),(Dw,F),(Cm,m),(Dz,y),(Gm,q),(Dy,B),(Ck,u),(Cj,x)]¦Nq[.ref T,.ref p,.ref q]¦DmpyNext B6¦EF.walk Ap¦EEScOk N nm ls sc¦Dl⟨O,r,?_⟩¦Dj⟨O,e,?_⟩¦Npupd (upd j g (.tup [.ref l,w])) l ob¦W4⟨_,_,rfl,rfl,⟨_,_,rfl,rfl,rfl⟩⟩¦FJDKo H d t o ks xs¦Nm[.Tuple [.Name x px,.Name y py] kt pt]¦Ca.ref x¦KP[So (.str w),So Bv,So x]¦Dihid BQ H¦Cr[.ref a]¦CVList Nat¦KO[.str n,.tup NC,.str o]¦T7cxE B8 P w K mg base N Hs (fun _=>To) Fo A outer s H E¦T6cxE B8 P w K mg base N SR (fun _=>Fo) To A outer s H E¦Hgfun _ _ _=>False¦Nl.con (.str Nv)¦FH.mount n hs o¦EDSame.refl H¦FG'ƹ'¦W3[.Call (.Name y p1) E2 [] p2,ez]¦FFReps X.K H J xs¦KNZt (Zh e) I.ok.above¦ECCtxN X G N nm¦EAupd H a o¦KM.str K0¦HeBinds X.K fd ps J¦Hd⟨_,g,trivial⟩¦CDPE X a ta¦W2'ǉ'¦T5runD defs A4¦HcrunD defs Bb¦G9.obj a ns' fs'¦G8mkS (l.drop 1)¦DYOption Addr¦DXRep K H d v¦B9Same H W¦KL.Return (So e) pos¦W1.un (.isO ns) Cv¦CUdel n A¦CTstAt 61¦NkPassesOwn As X.A X.env X.xe¦Nj[So p.d,So (.str k),So EY]¦Ni.dct Fo z (ksD A) (vsD A)¦T4⟨lim.keeps x.toInCall.keep,codeAny_func ?_⟩¦CB.str x¦Dh.ref D¦W0⟨ok.mod,ok.kind,ok.glob,ok.blt,ok.above,ok.inj,ok.has,ok.cab,ok.hd,ok.frames,ok.stk,ok.exf,ok.bs,ok.bsz,ok.noex,ok.exfs,ok.funs,ok.frf⟩¦KJstarEach es X.env¦Nh.Compare a [.In] [b] pos¦G7I.freeC x c e¦CSSameP H W¦A3PlO H0¦FEReps K H J xs¦Ng.Constant (.str z) j p2¦Nf'Ǩ'¦KImkT hs u¦T3'Ǫ'¦G6.str F2¦KGho Y s Z H _ I h¦KC.cons AJ (.cons AJ .nil)¦DW.tup NC¦Nd.con (.str W6)¦Nc.bi .idx AW HD¦Nb.con (.str KS)¦G5[Gb,F9,Ef]¦BaString¦Na⟨rfl,Zcq,rfl,rfl,rfl⟩¦WZ.tail _ (.tail _ Sj)¦CASo b.d¦WY'ǹ'¦G4J.drop Bq¦FDuni L H H1¦Xi'ǽ'¦M9compareOp op¦TZ.un .not (.un .truth (.call 12 Ho))¦TY(.Tuple [.Call SU [] [] pos,e] k2 pt2)¦TXob a FG [] []¦KAoS \"_law_known\"¦KzoS \"RouteError\"¦M8.type \"StopIteration\"¦TV.Tuple [.Name x p1,.Name y p2] k pos¦TU.un .not (.un .truth (.call 2 Hv))¦CzDn dn un¦WX⟨fun b o e n U F=>?_,fun b o e n U F=>?_,I.base.free,fun b o e F=>?_,I.base.tups,I.base.frzs,I.base.tbls⟩¦WW[.ExceptHandler (So (.Name rn np)) (So en) [.Return (So (.Call (.Name cn p4) [.Name en p5] [] p6)) p7] hp]¦KyFnScope N ps B1¦M7runB defs bdefs A4¦M6.Call W7 [] [] pos¦M5.walk (.call 23 E6)¦TQSo (.builtin \"object.__setattr__\")¦TN.Call (.Name \"dict\" p1) [a] [] pos¦TK[.Tuple [.Name x px,.Name y B] kt pt]¦KxCXr X.prog X.w¦M4.cons BS .nil¦KwoS \"_law_site\"¦TJZn (Zt (Zh e) (I.ok.cab x c O B))¦G3frs X.stack¦G2.frz o F3¦G1S \"TooMany\"¦DVmutS g¦G0Ze _ rfl¦TH[.Tuple [.Name x G,.Name y J] kt pt]¦M3[.Name x px,.Name y g]¦M0[.str a,.str b,.str d]¦MZ.UnaryOp .Not a pos¦MY.Tuple [a,b] k2 pt2¦WV.Attribute o m apos¦MXtSB X w U bc M H0 a¦WU.cons (.var 8) .nil¦FC.str x tk¦FA.tup EZ¦DUcN tg N¦TFLooks Ar s.heap (typeOf Ca) Dh¦TC⟨G.prog,G.w,G.K,G.mg,G.base,A'⟩¦KvReadOk X.K H Z O¦TBhE T Fj Mb (kD n) (So G6)¦CQSem Bool¦MWCalleeP G U fi CG m¦MV[ob a A dn un,.str n]¦MU.BoolOp op [a] pos¦MT.Subscript a b pos¦MRtTB X U bc M H0 pa¦WT.con (.int 8)¦MQ.call 26 Hv¦Fy([DD],[])¦FxK.In s.heap¦Fv⟨[],[]⟩¦DTKV kvs vs¦CqyO _¦Cp.bl p¦GZtI X' U pe¦GYupd H T o'¦GXS \"NoSite\"¦KuArray DictEntry¦MPsetNext a sl i ep¦MO.builtin \"sorted\"¦MNtB X U bc M H0 pb¦Tz.sl Ap Da V7¦DSZc _ e¦Dg.int j¦Kt'ɇ'¦Tx.Call (.Name x p) E2 [] pos¦Ks.type \"dict\"¦TwZ.set i Dq¦MM.un F7 Ap¦KroS \"pattern\"¦TvObj.mapSeq fun x=>x.push u8¦Tuupd H2 t (.tup [.ref o,v2])¦MLPE X ek (tI X U pk)¦MK[.Tuple W5 kt pt]¦WS'ɒ'¦Fu.bool To¦Tt.bi .add AW E4¦MJrow0 r _ _ 0 rfl¦MIrow1 r _ _ 0 rfl¦EzSo A6¦Ey.type T¦TsOutQ X w M H0 BQ H C5 D¦TrOutQ X w [] H0 [] H C5 D¦WR.con (.str (oS \"no back\"))¦WQ.con (.str (oS \"no site\"))¦WO⟨.ref l,σ',_,I2,rv,fin _ ⟨l,_,rfl,⟨B,⟨o,Jd⟩,rfl,rfl⟩,rr _⟩⟩¦WN[So (.tup (b.map Row.d)),So (.tup (f.map Row.d)),So (.tup (rs.map Row.d))]¦WM.Assign [.Name x px] (.ListComp elt [⟨tg,iter,ifs,0⟩] sc p1) pos¦TqPySem.W.codeRec_of KX hcd¦TptS X U M H0 (.set Fo i p)¦Tn.un .items (.call 27 E6)¦Tj.tolB 34 clT 4 0 nsS V6¦Ti⟨l,o,e1,g,Out.now q rfl⟩¦GWps.zip us¦GVtI X U pa¦GUtJ _ _ _¦KqSo (kD n)¦GT.tup Ud¦MHgS X M H0 ts nt¦ThObj.putSet f t'¦ExX.N.Nodup¦EwPE X e te¦Kpns.map .int¦Kohr.mono Ad¦MGoS \"undone\"¦Km.lift .skip¦Klt.map Row.d¦KktR _ _ rfl¦KjoS \"_law_k\"¦Tgassign (.Name y w) X.env¦TfOutS X M H0 BQ H DV D¦TeCR B8 outer P w H s Q E¦Eu.ref b¦Td'ɾ'¦DQ.ref d¦Et.var 5¦TcPE X e (tB X U bc [] H0 pb)¦WLcxOf B8 P w K mg base [dn,en] qual B1 f cdv A outer s H1 E¦WK.un .any (.comp 0 (.walk Tz) B4 (.bi .eq HB (.con F6)))¦Tafun b o j e=>eb b o j e¦S9f (.int i t) (.int j u)¦S8.call fi (.cons W1 p)¦WJ.Attribute a \"items\" ap¦WI.Expr (.Call (.Attribute HA \"append\" mpos) [e] [] cpos) pos¦WHcxOf B8 P w K mg base [dn,en] qual B1 f cdv A outer s H E¦WG⟨_,Nat.sub_lt_sub_left b (ZaJ i),r,y,c2.trans (un E),b,rfl,I⟩¦WE[.str (mkS r.l.cps.toList),.str (mkS [32]),.str (mkS (txt r.ps))]¦MFObjOk P w H h a o¦MEOption (List Row)¦MD⟨_,Jd,p1,rfl⟩¦DPg i j¦CP.rt d¦GSVals xs its¦GR⟨t,rfl⟩¦GQ⟨?_,?_⟩¦S7⟨q,ZbL _ _ _ (.inl q)⟩¦WD.bi .ne (.call 43 Sg) (.tup (.cons HD (.cons HD .nil)))¦MC.cons rfl .nil¦MB.builtin \"len\"¦MAfun _ _ _ q=>q¦Mz.str Str.empty¦MyJE _ _ rfl rR¦MxJi _ _ rfl rfl¦MwoS \"_law_many\"¦MvoS \"_law_most\"¦KiPrt K H a d L¦WCPySem.W.fnOf n n (iJ s) (Jl s) (Ja s) .none kV j i g e ct¦WB.Expr (.Call (.Attribute HA \"pop\" mpos) [ek] [] cpos) pos¦DNRelV y u¦DMFldC G f¦DL[.exc c]¦WA.Expr (.Call (.Attribute E3 \"append\" apos) [e] [] pos) f¦Wz.bi .ne (.call 26 WU) (.call 38 (.cons (.var 9) .nil))¦Wy⟨O,r.mono s,g.mono (fun d o=>o.mono s) fun c x=>x.mono s⟩¦AICallB¦Ft.dT kvs¦Fs.lst []¦Xh'ʬ'¦KhrD2 X o¦Kgfun _ q=>q¦KfI.ok.hd hc¦KeSo (Jkk a)¦Kdfun _ z=>z¦MuoS \"ahead\"¦MtoS \"other\"¦S6I.base.free b o e n g¦S5.builtin \"isinstance\"¦S4tC X U bc fi i cn m p¦S3.dK (L2.putK kvs k v)¦Ms[So (.tup Du)]¦WxPySem.W.fnOf name qual g j scope dV kV U pm an cdv ct¦Ww[D.str (S \"y\"),D.str (S \"id\"),D.str (S \"z\"),D.str (S \"x\")]¦KcevD U pc¦KbevD U pe¦GPChB.of l¦S2⟨[.type \"set\",a],[]⟩¦MrbinaryOp .Add¦MqJN X.prog X.w¦Mp.type \"tuple\"¦MoM p F t w y i¦MntS X U M H0 a¦Mm.bi .ne pa pb¦Mlfun _=>.inr j¦Wv.Raise (So (.Call (.Name x np) [e] [] cpos)) No pos¦GO.ref t¦EskeyV k¦Er.int k¦EptD Eh¦S1fun b xs q=>sm b _ q¦S0.Call Ga E2 [] pos¦SZseqObj \"list\" CF 0¦SYseqObj \"list\" AU 0¦SXoS \"NAME_ONLY_HOLES\"¦DfJl st¦DeJbu _¦SW⟨_,_,_,rfl,rfl,rfl⟩¦SV[So Eg,So k,So EY,b]¦Wu.seq (.set Fo 6 (.call 38 M4)) (.set Fo 7 Sd)¦FqPE X b tb¦FpPE X o td¦FnList DefB¦FlList Pu.D¦WttS X U M H0 (.seq (.set Fo i pa) (.set Fo j pb))¦WsenvX L6 sc s'.heap.objs.size f' (.ref c') FZ¦Wr[fun v=>bindName X.env y v,fun v=>bindName X.env x v]¦Wq[(oS \"_law_kept\"),(oS \"_law_found\"),(oS \"_law_some\")]¦MjChg m L H L1 H1¦Mi[So Eg,h,j,No]¦GK(.nx,env2)¦GJLoc Cs x¦GIVals dvs J¦GHoZ CX X E¦Mgeval e X.env¦MfexD Ub wrB¦Wp.dis (.cons (.call 36 (.cons Cv Ho)) .nil)¦Wo⟨_,rfl,\"set_iterator\",_,FT,at_next.lookup,?_⟩¦J5tT X U pa¦J4upd H l o¦J3hid BQ r¦J2.dis .nil¦MeoS \"done\"¦J1.tup Hn¦EmRelV v u¦ElSetTable¦ASScope¦Wn(.cons (.call 39 (.cons (.un F7 AW) E6)) .nil)¦Wl⟨I',fp,wr,_,Pz,Sz,_,e1,F,st,tt,fun h' C k=>?_⟩¦SQ.Attribute e f pos¦Wk.Slice lo hi No p2¦SOfun b ob q=>Zc _ q¦SNtTB X U bc M H0 pb¦SM.Tuple W3 k2 pt2¦SLfun _ _ _ _ _=>rfl¦Wj.ListComp elt [⟨b,iter,ifs,0⟩] scope pos¦SKObjM s.heap x dx C mA¦SJ⟨.inl z,.inl rfl⟩¦SI⟨.inr z,.inl rfl⟩¦SH[So Nx,So TX,f,b]¦Wi[.Return (So (.Call (.Name dn p1) [] [] p2)) p3]¦Wh.bi .ne (.told 34 cl9 (.call 42 Sg)) WR¦Wg.bi .ne (.call Fo 5 8 nsS Ho) (.pur Et)¦Wf.un .all (.comp 0 EF B4 (.call 11 E6))¦Md[ob a A dn un]¦SG'ϴ'¦SF'ϵ'¦We[So T,So (ob a B [] []),So (kD n),So (vD A n)]¦Wd.Call (.Attribute a name apos) [b] [] pos¦Wc.un .all (.comp 0 EF B4 (.call 7 E6))¦Wb.ret (.tup (.cons Ap (.cons WQ .nil)))¦SEfun b u e=>Zc _ e¦SDfun b o e=>Zc _ e¦SCForInStep.yield r¦SAfun _ o=>o.mono s¦SytI X U (.un o pa)¦SwSetO X l (metS g)¦SvtB X U bc M H0 pa¦Su.comp 0 src B4 e¦Ss.Tuple elts kk tp¦Sr.bi E0 Ap DB¦Sn.bi .idx Cv HD¦Sm.bi .idx Cv E4¦SloS \"MOST_CHOICES\"¦SkoS \"MOST_LETTERS\"¦GGI.tok _¦J0.ref sl¦GFhid L W¦IZ.take n¦IYRoom Dp A¦Sh[f1 r,f2 r]¦MatOp r ta tb¦L7.bi o pa pb¦LSSame.refl _¦LPfsS i l m g¦LNblm E.b Ab¦R7[Gb,W6,F9,Ef]¦V4.cons (.con (.str (oS \"too many\"))) .nil¦Fd.ref p¦Fc.inl z¦Fb.ref z¦Gx.str o¦Xe'Ѣ'¦V3⟨v,W,J9.os,J9.bare,J9.base,J9.hok,rv,q⟩¦V2.Call (.Attribute Ga m py) E2 [] pos¦V1.un .not (.un .truth (.un .isStr Ap))¦V0.call 30 (.cons Ap (.cons Tt Hq))¦R0HT.sIx Ai 0 lo¦VZ.Name \"range\" p1¦RZfun a ha=>hJ ha¦RY.Tuple [a,b] g f¦RV.bi .eq HB Nl¦RU.bi .idx Ap Gk¦RT.raise Cm .nil¦RSrows.map (tnR x)¦RKe.set 4 (So f.d)¦IH.dK 'ǃ'¦IG.seq a b¦IF.ref CRa¦IEhid [] _¦RIHOk X.prog X.w W h'¦RHApart z TI TO i1 i2¦RGh.Ns mainGlobals mg¦RF⟨fun h0=>?_,?_⟩¦LM⟨_,rfl,r⟩¦LL[Value.ref a]¦RE⟨Cr,[]⟩¦VGIsSI s.heap it (.int sl 0) i a es.size ep¦VFIsItemIter s.heap it d i es.size ep ok ov¦VEtB X U bc [] H0 (.call To fi i ns p)¦VD.walk (.un .rows (.con (.tup K2)))¦GvList DefE¦VC⟨.bl _,H,I.kept k,rfl,Out.now h rfl⟩¦VB⟨pD pS _,wC F.entry_list_iadd ?_⟩¦LKTP X Y Z Q¦LJcutD J l h¦VAhl1.stay fun o e=>B.extBut _ _ m1 e¦LIupd r l ob¦VztB X U bc M H0 (.call Fo fi i ns p)¦VytI X U (.call fi (.cons W1 .nil))¦LH.retB Si¦LGEQ X [] H0¦Vx.walk (.un .rows (.con (.tup sgD)))¦VwEn ns Az AQ B3 g h No No No No¦LFoS \"names\"¦LCE.f 26 rfl¦RDp1 _ _ _ _ G0¦RCO.set i (So d')¦RBspI K mg T5 i¦RAJim (S.pe C) hb¦Rz.lst (rs.map g)¦RyNat.succ.inj hl¦Rw.cons WT .nil¦Rv.bi .eq HB AW¦RuoS \"MOST_PARTS\"¦RtoS \"MOST_SIGNS\"¦RpoS \"WORD_SIGNS\"¦E9[.ref p]¦VvIsSI s.heap it (.ref tp) i a es.size ep¦Vu⟨v,W,m.os,m.bare,m.base,m.hok,rv,q⟩¦RoFnScope N ps scope¦Rn[So Bv,So (tD t)]¦Vth1.stay fun o e=>B.extBut _ _ d3 e¦EjJgw i¦EivsD A¦Vs⟨Ze _ rfl,sa.stay fun o e=>Zc _ e⟩¦VrF.args_dict_itemiterator_next_1 _¦VqtSB X w U bc [] H0 (.putK f pk p)¦Vp.cons (.con (.str (oS \"x\"))) .nil¦Vo.pur (.call 39 (.cons MM Hv))¦Vn.call 13 (.cons y (.cons z .nil))¦Vm.lst (ls.map fun p=>.str (mkS p))¦VlEa ns a0 C B3 x4 x5 x6 x7 Az B¦IDPA X E2 t¦ICSlf N nm x¦IBList MethE¦Vk[So Bv,So DW,So Gx,So (tD t),No]¦VjgetattributeRaised _ _ _ _ _ _ _¦ViF.args_dict_keyiterator_next_1 _¦VhEn ns Az AQ j g h No No No No¦VgEn ns Az AQ j l g No No No No¦RmOw M FR Tw¦Vf.Name \"set\" p2¦RlO.set i (So g)¦RkputN f d ns fs¦Rj.str (mkS acc)¦RioS \"_law_name\"¦RhoS \"_law_rows\"¦RgoS \"MOST_ROWS\"¦RfoS \"_law_told\"¦RboS \"set_table\"¦Ve(.nx,O.set i (So (.dct t Fo [] [])))¦VdIsPair s.heap TI (.ref i1) (.ref i2)¦Vc⟨a,xs,i,w,rfl,C,r,t,Out.now h g⟩¦VbPySem.W.methodObj A6 (.ref y)¦VatSB X w U bc [] H0 (.popK f pk)¦U8.set Fo 3 (.bi .partS Ap Mh)¦U7.un .truth (.bi .strt BK Se)¦U6JL _ _ (iA _ _ (JA _ _ rfl f))¦U5rows.map fun r=>.str (mkS GM)¦U4Ea ns a0 C x3 x4 x5 x6 x7 Az B¦LA(.rt d,env2)¦LzOption Value¦LyDGet H a y o¦Lx⟨rfl,?_⟩¦Gu.own x¦Gs.str y¦Gr.tup J¦IA.ref e¦Gq.inr z¦Gp.int 4¦Gn.int g¦U3F.args_tuple_iterator_next_1 _¦U2tSB X w U bc [] H0 (.set i pb)¦U0tSB X To BR BO [] H0 d.body¦UZtSB X w U bc [] H0 (.appF f p)¦UYfun X'=>tIf D2 (l X') (o X')¦UX.retB (.tolB fi cs f2 i ns p2)¦UW.lst (rs.map fun r=>.tup Sh)¦LwB b o e g¦LvZn (Zh e)¦LuO.set i s¦Lsf Z H Q g¦Lr.or pa pb¦LqbigT H H1¦Ra.walk BS¦LpS \"mount\"¦LoexD U sgB¦UVoS \"most\"¦LnoS \"part\"¦LmoS \"head\"¦Iz.ref fc¦LlS \"put\"¦IytD KI¦IwSo KM¦UUs.heap.IsKeyIter it d i es.size ep¦UT⟨joinFit_length f,fun P k=>?_⟩¦US[So Nx,So (ob a [] [] []),No,No]¦URBuiltin.SmallTypes.nextOf B6¦Q9compareOp .Lt¦Q8tS X U M H0 b¦UQ⟨.bl _,H,I,rfl,Out.now b rfl⟩¦UP⟨.bl _,H,I,rfl,Out.now h rfl⟩¦UO[.str (S \"one\"),.str n,.tup Du]¦Q7(AO,jD its k)¦Q6DK H a t z ks xs¦Q5Told G U x fi cs¦UNupd H l (.lst (f.map V.str))¦UMJiT (Jq L8 (Jq he JP P) L)¦ULtSB X w U bc [] H0 (.newL f)¦UK.ret (.tup (.cons Nd E6))¦UJ.bi .dNe (.call 37 WU) BS¦UIPE X e (tC X U bc fi i CG m p)¦UH⟨.int DP,H,I.tok _,AJ,q⟩¦UG[So Az,So (.str w),So Bv,So x]¦UFmkS (cutD x.cps.toList l h)¦UEtSB X w U bc M H0 (.lift q)¦UDSo (.Subscript HA ek spos)¦UC.bi .gt (.un .len BS) WT¦E8.bl b¦E7tpO H¦Xc'Գ'¦UBtS X U M H0 (.set Fo i p) D Z H¦UA⟨p,g,rfl,h1,u,fun l hl=>?_⟩¦UzPu.cutD x.cps.toList lo hi¦Uy.cons (.con (.int 6)) .nil¦Q4eval o X.env¦Q3ns.map V.int¦Q2fun _ _ z=>z¦Q0upd H a AK¦QZ.un .range p¦QYnsS.zip Nq¦QXexD U rest O¦QWn_tx r.l h.l¦QVmkS (tabT t)¦QUob a j h un1¦QToS \"LETTERS\"¦QSoS \"do_step\"¦QRCXr l.prog w¦QQ.tail _ WZ¦Lk⟨us,[]⟩¦Lj[.tup EZ]¦Li⟨rfl,h⟩¦QPOpR X M9 Kh¦QO⟨v,H,I,r,h⟩¦QN[ofN ns,.int k]¦QM[.str r.l,r.pd]¦IvCls X.K C¦IuArguments¦IrPE X i ty¦IqSame H H1¦IpExKit K D¦Uxfun f vs=>PySem.call f vs¦UwtS X U M H0 (.app Fo i p)¦UvspI K mg (runD defs 0) fi¦UuStrLaws.glued_eq_join z _¦Lh.frz o u¦LgSP X Y D¦LfSo [x,y]¦LeJis C.un¦LdothD m f¦Lc.ret AW¦K9S \"rest\"¦K8S \"take\"¦K7knD FG¦UtjV B Cu e cls a0 fl s.heap¦UsIsSI s.heap it first i a n ep¦Ur⟨i,j,e,g,m,Out.now b rfl⟩¦Uq⟨J,rfl,fun vs W s rs=>?_⟩¦Up⟨g,⟨o,e _ _ q rfl⟩,l⟩¦BrKOk A¦UoletOwnedTupleGo tg B6 u¦UmF.args_list_append_2 _ _¦Ul.Compare a [.Eq] [b] pos¦Uk.Compare a [.Lt] [b] pos¦UjenvOfC qual sc Aa f cd¦UiJjd _ _ _ (zV n B h.nd)¦DcGl X x¦UhObjOk X.prog X.w EA h' a o¦Ug⟨.ref l,m,O,e.readOk,?_⟩¦Ue[So Az,So Bv,So (tD t),No]¦QKfs.lookup f¦QJtI X U Cv¦QItF X U J6¦QH.ite pc a b¦QGL2.pB N vs¦QF.type \"set\"¦QEs2.trans s3¦Iol b o x C q¦ImItk K t d o¦Il.ite pb a b¦IkoS \"tables\"¦IjSo (.adr a)¦Iifun H=>W4¦QDI.base.keep b o e n U F¦QCbinaryOp .Add GO Eu¦QBnM X ls sc Cd s H fp E¦QAupd H l (frzO f o AM)¦Qz.seq (.set Fo i e) rest¦QyM1 X HA \"pop\" mpos ek cpos¦Qxargs_tuple_getitem _ _¦QwZS _ (ZS _ (Jbl hb e))¦Qvb.map fun r=>.tup Sh¦Qufun p=>.str (mkS Xc)¦QtIsZip s.heap z TI TO .none¦Qs⟨z,g,n,r,k _ _ BB e⟩¦Qr[.str (S \"number\"),.str n]¦Qq.Constant .none j pos¦QpZS _ (ZS _ (Jbl y e))¦Qofun b z=>absurd z Af¦Qn.Call WV E2 [] pos¦QmList.take_sublist _ _¦Ql.Subscript e Wk pos¦QkI.base.free b o q n x¦Qj.Name \"isinstance\" p1¦Qi.type \"BaseException\"¦QhF.args_str_join_2 _ _¦QgI.hok.fresh (Zf Aa)¦QftA X U (.cons Cv p)¦QetSB X Fo U bc [] H0 b¦Qd.put Fo Fo 1 BS J7¦Qc.bi .add (.var 7) HB¦QbIsTup s.heap b ws.toArray¦Qa⟨t,y,fun j m e i=>?_⟩¦P9[ofN ns,.int g,.str name]¦Ig(0,Value.none)¦IeSqL X.K H a xs¦IcSqT X.K H a xs¦Ib⟨_,rfl,?_⟩¦P8.Constant AY j pos¦P7.Constant CB j pos¦P6PySem.W.instObj C dx¦P5.Call WV [] [] pos¦P4starEach [e,f] X.env¦P3J.any fun d=>d.eqv a¦P1Jcv (h.cells C I.ok)¦P0fun X' C' _=>l X' C'¦PZJ.any fun d=>d.eqv b¦PY.Call Ga [a] [] pos¦PXfun b o e=>Zc _ DS¦PV.ret (.un .neg Da)¦PU.call (.ref fa) RE¦PR.comp 0 EF B4 HB¦PQ.comp 0 Ra B4 HB¦PP.con (.str (oS \" \"))¦PN.con (.str (oS \"a\"))¦PM.con (.str (oS \"b\"))¦PLCalleeOL G bc fi x Pt q0¦PKPSs X rest (tLaw X H0 R)¦PJ[.Subscript HA ek spos]¦PH[.str (S \"word\"),.str x]¦PF[DD,(oS \"signs\"),UV]¦PD[DD,(oS \"least\"),UV]¦PBstoreName X.env x u¦Pyfun _ j=>NP X Y Q j¦Pwh pos Y s Z H _ I m¦Pvx.above y c (vC h)¦PrG pos Y s Z H _ I h¦Pq.Pass ⟨0,0,0,0⟩¦Ppfun i=>bs.getD i Fo¦PoF.args_zip_next_1 _¦Pnfun f=>absurd f A9¦Pmfun f=>absurd Ab f¦Pl.bi (.dIn t') pa pb¦Pk.dis (.cons p .nil)¦PjtSB X w U bc M H0 b¦Pi.Call VZ [a] [] u¦Phupd H l (.lsm t [])¦Pgfun p q z=>fs _ _ z¦Pf.Call WJ [] [] cp¦Pe.un (.fld Me) Ap¦Pd.un (.fld MG) Ap¦Pcrow1 'Ɯ' _ _ 0 rfl¦PboS \"Site.set_table\"¦Pa(.nx,O.set i (So AE))¦O9tI X U (.un o pa) Z H Q¦O8AllOk P w K mg base C k¦O7⟨b,rfl,fun W s=>?_⟩¦O6⟨Same.refl _,d,B,r⟩¦O5[.Attribute E3 f apos]¦O4[.str (S \"any\"),.str n]¦O3[.str Ll,.str n,tD t]¦IapyIter Ax¦HZNe.symm d9¦HYNe.symm d2¦HWNe.symm d3¦HV.Name y px¦HUupd H l ob¦HSJeU rows i¦HRJsM z.same¦HQupd H1 T h¦HPS \"undone\"¦HNS \"NoText\"¦HMoS \"SIGNS\"¦HLfun _=>rfl¦O0.Assign [tg] e pos¦OZbinaryOp .FloorDiv¦OYstarEach [e] X.env¦OXrawInt f.objs.size¦OWSq.same hid_same q¦OV.bi .isin Mh Ap¦OUJk _ _ rfl rfl rfl¦OTrunB defs bdefs 12¦HKPE X value tv¦HJRep X.K H d v¦HI⟨_,j,rfl⟩¦HH⟨_,e,rfl⟩¦HG⟨_,rfl,h⟩¦HF⟨_,t,rfl⟩¦HE[.str n,tD t]¦OSIsIt t1 s.heap i1 l1 k¦ORIsIt t2 s.heap i2 l2 k¦OQ[So x,So y,So z,No,No]¦OP⟨.bl _,H,I,rfl,?_⟩¦OO[.Call Vf [a] [] p3]¦ON⟨N.length,1,.skip⟩¦OM[ofN ns,.int g,.int M]¦GhRoom k X.A¦GgVals vs us¦Gfr.Good P E¦GeSameP H H1¦Gc[Gb,F9]¦OLintBits_le_64 g l¦OKfun b u q=>Zc _ q¦OJgetItem GO J0¦OIfun _ _ q=>Zc _ q¦OH.lst (zipD xs ys)¦OGgS X M H0 [i,j] 2¦OF.Name \"sorted\" p1¦OEevalEach vs X.env¦OD.Tuple [a,b] k2 e¦OC.dsp Fo .nil .nil¦OBB.code.keeps I.bk¦OAX.A.mark (So Ax)¦OzspI X.K X.mg U fi¦Oy.Tuple W5 kt pt¦Ox.bi .zip Ap Sf¦Ov.bi .eq Nc Nb¦Ou.bi .add Se Ap¦OthE T ks vs d Kq¦OsoS \"Site.do_step\"¦Oqs.heap.IsList l items¦OoIsSq t s.heap a items¦OnEnvOk X.K M H0 H1 Z O¦OmR (.ok (.ret Dh)) s¦OlDef1 K mg x st ps f g¦Oj⟨f3',f1',f4',f5'⟩¦Oi⟨o,y _ _ l,M,m,j⟩¦Ohfun _ _ _ _ n=>n¦Og.IfExp c a b pos¦Of.int DP s.toks¦Oehi Y s Z H _ I h¦Odho Y f Z r _ t q¦Ocfun i q=>h i '8'¦ObnoteFrame IA O¦OacompareOp .NotEq¦N9.Tuple elts k tp¦N8spI K mg T5 fi¦N7.ok (.ret .none)¦N6args_list_sort _¦N5constantsAlone 8¦N4setFlight Ax No¦N3.bi .le Eo BS¦N2.bi .lt BJ K6¦N1.con (.str GN)¦N0.raise Ck .nil¦NZ.con (.str Hj)¦NY.bi .ne MQ Ap¦NXfun r=>D.str r.l¦NW.call r f i ns p¦NVmkS n.cps.toList¦NU.dct Fo Fo ks vs¦NTexO Fo R1 Q1 rdB¦NStS X U [] H0 fS¦NRIsTup s.heap t items¦NQIsIt t s.heap it a i¦NOIsPair s.heap TO a b¦NNIsSq t1 s.heap l1 xs¦NKIsSq t2 s.heap l2 ys¦NJL2.Inv EO [] Z H s¦NIToldS st dn en rn cn¦NHCalleeB G bc fi cn m¦NG⟨z,its,n,r,tr q⟩¦NF⟨rfl,fun _=>rfl⟩¦ND[Gb,F9,Mu,Mt]¦Xk'X'¦Xg'Л'¦Gj'>'¦Ab'b'¦A9'E'¦Af'k'¦Xj'Ą'¦Ad'd'¦QLX.env¦Res.heap¦Xls.toks¦Xmes.size¦XnX.prog¦Xox.length¦XpX.stack¦XqValue.none¦XrN.length¦Xs.cons DE .nil¦Xtpos.line¦Xux.cps.toList¦Xvl.length¦Xwsc.names¦XxE.b_isinstance¦XyI.hok¦Xzr.length¦XAI.bare¦XBA.in1¦XCX.base¦XDI.free¦XFd.body¦XGI.loc¦XHC.calm¦XIs.cps.toList¦XJHh.objs.size¦XMRow.d¦XN.comp 0 (.walk BK) (.un .not (.un .truth (.call 10 Xs))) Ap¦XOhit.typeIs¦XQg.length¦XRNameKind.cell¦XSapos.atName¦XTs1.toks¦XUI.ok.kind¦XXz.cps.toList¦XYI.freeC¦XZs'.heap¦X4e.readOk¦X5Str.empty¦X6Part.d¦X7n.cps.toList¦X8.ret (.tup (.cons Nb (.cons BK (.cons (.un .tuple (.comp 0 (.walk Et) B4 (.tup (.cons Qc Xs)))) .nil))))¦X9e.key¦Yae.val¦Ybe.same¦Ycd.slots¦Ydpl.isList¦YeA.in1.in1¦YfI.kIn¦YgV.str¦YhL2.Key¦YiI.cell¦Yjp.isList¦Yky.length¦Ylf.length¦Ymp.isRest¦YnD.str¦Yos.drawn¦Ypes.toList¦YqI.base¦YrPart.isRest¦YsI.len¦Ytf.toArray.size¦Yu(.nx,O)¦YvTabOk t¦Ywe.same0¦Yxb.typeIs¦Yyd.params¦YzNameKind.free¦YARowG r¦YBg.heap¦YCRow.l¦YDZaJ _¦YEnmA f¦YFI.ok.mod.kin¦YGcpos.line¦YH.str z¦YI.pur p¦YJ.cons HB (.cons (.bi .add AW DE) .nil)¦YK.un .all (.comp 0 Ra B4 (.call 10 Xs))¦YL(B,noS)¦YMs5.heap¦YNList.length¦YOr.ps.length¦YQ.ite Rv (.ret (.bi .add BS DE)) .skip¦YRs.gens¦YSPySem.W.emptyDict¦YTF.entry_str_split¦YUI.ok.mod¦YVe.length¦YWa.heap.objs.size¦YXPyProof.Rows.slot_tuple_getitem.lookup¦YYI.ok.above¦YZF.slot_dict_itemiterator_next.lookup¦Y0F.slot_str_join¦Y1h.len¦Y2.lst ys¦Y3XW X H0¦Y4.dIn Fo¦Y5fM M Z¦Y6.dNi Fo¦Y7.bi .mul (.con (.int 300)) BK¦Y8LamX X¦Z0l.prog¦Z1h.elim¦Z2(.rt d,O)¦Z3PT X a tA¦Z4PA X es t¦Z5[.ref fl]¦Z6[So b,No]¦Z7I.ok.funs¦Z8I.ok.glob¦aApos'.line¦aBCls K C¦aD[f,b,g]¦aEX.outer¦aFs2.heap¦aGX.A.in1¦aHpx.line¦aIF.entry_dict_itemiterator_next¦aJJN P w¦aK.own a¦aL.dK []¦aMList D¦aNrelk O¦aO.ref c¦aQ.ret e¦aRZq _ b¦aS.str h¦aT.int 8¦aUF.slot_dict_itemiterator_iter¦aVF.entry_dict_keyiterator_next¦aWPyProof.Rows.boot_isinstance¦aXCmpOp¦aYupd H x o¦aZKX _ _ lk¦a7tI X U pb¦a8f.trans g¦a9EQ X M H0¦bAJrl z u I¦bBJsN k B b¦bCoS \"line\"¦bDoS \"site\"¦bEoS \"rows\"¦bFF.entry_tuple_iterator_next¦bG.or (.bi .ne XN J2) TZ¦bHSqL K H a xs¦bISqT K H a xs¦bJ[.Name x px]¦bKapos.endLine¦bLl.row.toRowW¦bMI.base.there¦bNOperator¦bOOption V¦bPNameKind¦bQ[.str n]¦bRI.ok.bsz¦bSz.length¦bTo.isSome¦bUa.length¦bV.int i t¦bW.str q t¦bXItr lo n¦bYtruthy v¦bZeval e O¦b0List Str¦b7List Int¦b8JD M 0 O¦b9tT X U p¦cAi b o hb¦cBzO _ hp¦cCtF X U p¦cDtH X U p¦cEJ.drop i¦cGhid BQ W¦cIu.mono B¦cJOw M O g¦cKhid [] W¦cLhid [] H¦cOif_neg l¦cQS \"done\"¦cRmkS [61]¦cSh.vp p b¦cTnm_9 h b¦cUexD U hB¦cVslot_list_getitem.lookup¦cWPySem.F.slot_list_append¦cXPySem.F.type_list_append¦cYOption Expr¦cZOut X H Q d¦c0⟨H,I,q⟩¦c5I.ok.frames¦c6I.base.keep¦c7I.base.slot¦c8f.objs.size¦c9F.objs.size¦dAPySem.F.plainAttrs_list¦dCF.entry_set_update_loop¦dEcellsFrom DF CW []¦dFPyProof.Rows.boot_dict¦dGF.slot_dict_items_iter¦dHPySem.F.slot_dict_pop¦dIPySem.F.slot_dict_get¦dJF.entry_proto_collect¦dMF.slot_str_startswith¦dNF.slot_str_partition¦QaaI.ok.noex b o e¦Qabh Y s Z H Q I g¦Qac.Tuple es k pos¦QadG Y s Z H _ I h¦Qae.Dict [] [] pos¦QaftI X U (.con d)¦Qagmem_of_lookup q¦Qah.If c sa sb pos¦QaigS X M H0 [i] 0¦Qaj.bi .isin pa pb¦Qak.dct t To ks vs¦QalfoldedForSure 8¦Qam.comp 0 src c e¦Qan.int 2147483399¦Qao.int 2147483629¦Qap.str (mkS 'ϙ')¦Qaq.str (mkS 'Ϛ')¦Qar.str (mkS [32])¦QasoS \"_law_class\"¦QatoS \"isinstance\"¦QauoS \"_law_names\"¦QavoS \"Site.mount\"¦QawmkS a¦Qaxval i¦QaySo E3¦Qaz.bl q¦QaAb rfl¦QaBSo Cn¦QaCmkS p¦QaDsrt B¦QaESo GT¦QaFTS prog w lb h a ks¦QaG⟨_,_,rfl,rfl,h⟩¦QaH⟨.inl z,.inr z⟩¦QaIF.entry_list_append¦QaJF.slot_str_endswith¦QaKtrk h H¦QaLItl K a¦QaMItt K a¦QaN.bool g¦QaO.int Ac¦QaP.head _¦QaQrC1 X o¦QaRexD U g¦QaSf b o e¦QaT.tbl ps¦QaU.tup ys¦QaV.str J8¦QaW.str IX¦QaX.ret BS¦QaY.con Xg¦QaZ.int 31¦Qa0.lst Ht¦Qa1.str Td¦Qa2PIE X Y Z tg R¦Qa3binaryOp .Mult¦Qa4compareOp .LtE¦Qa5compareOp .GtE¦Qa6.ins C dx 'ց'¦Qa7y.cps.getD 0 0¦Qa8e.same.trans s¦Qa9args_sorted1 _¦Qba.Name \"len\" p1¦QbbCx.mk2 X A f Y¦Qbc.type \"object\"¦Qbd.Dict [] [] p1¦Qbee2.mono (sm _)¦Qbf.lst (qR 0 xs)¦Qbg.bi .add DE Mh¦Qbh.bi .idx BK HD¦Qbi.bi .idx BK Gk¦Qbj.bi .add Sr BK¦Qbkw_tx w (H w g)¦QblmkS (txt r.ps)¦QbmoS \"_law_made\"¦QbnoS \"read_site\"¦QbooS \"Site.take\"¦QbpOpR X M9 r¦QbqPG X tg MH¦QbrX.N.length¦Qbsits.toList¦Qbtq.unpinned¦Qbuws.toArray¦QbvX.env.qual¦Qbwx.cps.size¦QbxSameP.refl¦QbyE.p_counts¦QbzPT X c (tT X U pc)¦QbAPA X es (tA X U p)¦QbBF.slot_list_append¦QbCI.hok.fresh g¦QbDbinaryOp .Sub¦QbEbinaryOp .Mod¦QbFcompareOp .Gt¦QbGcompareOp .In¦QbH.call A6 args¦QbJl.getD j .non¦QbKp1 _ _ _ _ RD¦QbLstrIterType x¦QbMg C2 H2 hm s2¦QbN.bi .eq pa pb¦QbO.bi .lt pa pb¦QbPdictSet d H J¦QbQif_neg (lT g)¦QbRspI K mg BR i¦QbStS X U M H0 q¦QbT.List [] dpos¦QbUIti X.K t d o¦QbV.obj o nsS LP¦QbW.cons Gk .nil¦QbX.cons Mc .nil¦QbY.cons BK .nil¦QbZ.cons DB .nil¦Qb0ob a T3 dn un¦Qb1ob a CU dn un¦Qb2.str (mkS Xe)¦Qb3mkS (stL A n)¦Qb4oS \"table_of\"¦Qb5oS \"_law_way\"¦Qb6oS \"_law_did\"¦Qb7oS \"Site.put\"¦Qb8oS \"__init__\"¦Qb9LamB mg base c Pt¦Qca⟨H,I.tok _,q⟩¦Qcb⟨[.ref z],[]⟩¦Qcc⟨rfl,rfl,rfl⟩¦Qcd⟨rfl,_,MD,p2⟩¦Qce⟨CK,W.push _⟩¦Qcf[.obj o nsS LP,z]¦QcgF.slot_list_count¦QchF.slot_list_index¦Qcip.name¦Qcj.List es pos¦Qck.ins C dx []¦QclJdw xs lo hi¦QcmObj.mapSeq f¦Qcneval iter QL¦QcoValue.ref Aa¦Qcp.type (lI d)¦QcquX (Pu.Jn g)¦QcrJqu Ad ha hb¦Qcs.obj a ns Rk¦Qct.set Fo 2 Da¦Qcu.set Fo 2 BK¦Qcvob a A dn []¦Qcwob a A IK []¦Qcx.str (mkS x)¦Qcy.str (mkS y)¦QczrunD defs 12¦QcAOws L H¦QcBOwC L H¦QcC[dn,en]¦QcDo.slots¦QcEv.toNat¦QcFO.cells¦QcGs4.heap¦QcHt.place¦QcI(.nx,O.set i BG)¦QcJTbH X.H₀ Pt q0¦QcK⟨pD iS _,?_⟩¦QcL[.Tuple M3 o pt]¦QcM[So f,So b,So g]¦QcN[.str K9,.str n]¦QcO[So Eg,No,No,No]¦QcPX.env.scope.kind¦QcQpl.isList.typeIs¦QcRF.entry_zip_next¦QcSF.slot_dict_iter¦QcTF.entry_str_join¦QcU.inl h¦QcVxS _ _¦QcW.inr h¦QcXnewS w¦QcYtVar 0¦QcZ.int n¦Qc0.var 6¦Qc1.int r¦Qc2.str w¦Qc3optT o¦Qc4Zq _ g¦Qc5Zq _ f¦Qc6oS \":\"¦Qc7oS \"#\"¦Qc8oS \"*\"¦Qc9(0,.none)¦Qda(543,539)¦Qdb(560,556)¦QdcMut (H x)¦QddPS X st t¦QdePE X o ta¦QdfRoom A4 A¦QdgE AX No W¦QdhPT X a J5¦QdiSameN H W¦QdjofM m f o¦Qdk[V.ref l]¦Qdl[.lst Kp]¦Qdm[.str SG]¦Qdn[.str Hx]¦Qdorv.length¦Qdpfs.length¦Qdqus.length¦Qdrbs.length¦Qdse.readHid¦Qdtrs.length¦QduI.cne x c e¦Qdv.Expr e pos¦QdwJqw I q rfl¦QdxcompareOp g¦QdygetItem o i¦Qdzo.getD .non¦QdA.un .not pa¦QdBNe.symm d10¦QdC.ins C b fs¦QdDa3.trans hl¦QdEnD g (Zb h)¦QdFupd H1 l Sw¦QdGnst b o f r¦QdHr _ _ _ Y f¦QdIIti K t d o¦QdJdefs.drop i¦QdKupd y AB G2¦QdLs _ _ h rfl¦QdM.raise cx l¦QdNSo (.ref y)¦QdO.ins C J QY¦QdP.seq a rest¦QdQfsS l i j h¦QdR.un .asI E4¦QdSr.ps.map X6¦QdTin_D Fo n A¦QdUyM _ (Jz _)¦QdVoS \"things\"¦QdWoS \"counts\"¦QdXoS \"pieces\"¦QdYoS \"others\"¦QdZList (Option V)¦Qd0IsIt t h it a i¦Qd1Sq X.K t H a xs¦Qd2OwnIs K r H l d¦Qd3ChB m L H L1 H1¦Qd4PySem.W.OpenLaw¦Qd5⟨its,r,p,z⟩¦Qd6⟨b,e _ f,g⟩¦Qd7⟨z,g,d,l,v⟩¦Qd8⟨_,hit,rfl⟩¦Qd9[So b,No,No,No]¦QeaF.slot_set_iter".splitOn "¦"
def sgS(c:Char):String:=match sgT.find? fun s=>s.front==c with
|some s=>String.ofList (s.toList.drop 1)
|none=>""
set_option hygiene false in
local macro_rules
|`($c:char)=>match c.getChar with
|'b'=>`((by decide +kernel))
|'d'=>`((by lia))
|'k'=>`((by simp))
|'E'=>`((by decide))
|'X'=>`(("__debug__" : Str))
|'8'=>`((by simp [usesP,q]))
|'>'=>`((by simp; lia))
|'['=>`((by k_is))
|'('=>`((backTo pos (starEach es X.env)).any (·.1) = Fo)
|'Ą'=>`(("__classdict__" : Str))
|'ō'=>`((by rw [C.hN]; exact g1))
|'Л'=>`((.str (oS "\n")))
|c=>match sgS c with
 |""=>Lean.Macro.throwUnsupported
 |s=>pure (sgP 999 #[] s.toList).1
set_option hygiene false in
local macro_rules
|`($x:ident)=>match x.getId with
 |.str .anonymous k=>if k.utf8ByteSize==2||(k.utf8ByteSize==3&&k.front=='Q') then match sgU.find? fun s=>s.startsWith k with
  |some s=>pure (sgP 999 #[] (s.toList.drop k.length)).1
  |none=>Lean.Macro.throwUnsupported
  else Lean.Macro.throwUnsupported
 |_=>Lean.Macro.throwUnsupported
theorem azn{G:Prop}:((G->False)->False)->G:=Classical.byContradiction
section
open Lean
def azr(p:Syntax):Bool:=(p.find? fun s=>s.isIdent&&s.getId==`rfl).isSome&&((p.reprint.getD "").splitOn ",").length<5
local macro_rules
|`(tactic|obtain $p:rcasesPatMed:=$e:term)=>if azr p then Macro.throwUnsupported else`(tactic|(refine azn fun N=>?_;obtain $p:rcasesPatMed:_:=$e:term<;>(refine N ?_;clear N)))
local macro_rules
|`(tactic|show $t:term)=>`(tactic|refine (?_:$t))
end
noncomputable section
def az(h:Nat:=by rfl)(i:Nat:=by decide)(j:Nat:=by decide+kernel)(k:Nat:=by first|exact .inl rfl|exact .inr rfl|assumption):=h
section
open PySem PySem.Spec PyProof.Rows
abbrev Za:=@wpAny_bind
abbrev Zb:=@wpAny_pure
abbrev Zc:=@Heap.get?_push_of_some
abbrev Zd:=@Bool.and_eq_true
abbrev Ze:=@Heap.get?_push_size
abbrev Zf:=@Nat.le_refl
abbrev Zg:=@List.mem_cons
abbrev Zh:=@Heap.lt_size
abbrev Zi:=@List.length_cons
abbrev Zj:=@List.length_map
abbrev Zk:=@List.lookup_cons
abbrev Zl:=@List.map_cons
abbrev Zm:=@List.length_append
abbrev Zn:=@Nat.ne_of_lt
abbrev Zo:=@Bool.false_eq_true
abbrev Zp:=@List.size_toArray
abbrev Zq:=@List.mem_cons_of_mem
abbrev Zr:=@List.getElem?_set_ne
abbrev Zs:=@List.getElem?_eq_getElem
abbrev Zt:=@Nat.lt_of_lt_of_le
abbrev Zu:=@List.map_map
abbrev Zv:=@decide_eq_true_eq
abbrev Zw:=@beq_eq_false_iff_ne
abbrev Zx:=@decide_eq_false
abbrev Zy:=@List.mem_map
abbrev Zz:=@List.getElem?_eq_some_iff
abbrev ZA:=@Nat.le_trans
abbrev ZB:=@beq_iff_eq
abbrev ZC:=@List.not_mem_nil
abbrev ZD:=@beq_self_eq_true
abbrev ZE:=@wpAny_newObj_type
abbrev ZF:=@wpAny_call_entry
abbrev ZG:=@PySem.W.mg_of
abbrev ZH:=@decide_eq_true
abbrev ZI:=@List.mem_append
abbrev ZJ:=@sizeLine_eq
abbrev ZK:=@wpAny_callSpecial?_slot
abbrev ZL:=@wpAny_mono
abbrev ZM:=@Bool.false_ne_true
abbrev ZN:=@if_false
abbrev ZO:=@Heap.size_push
abbrev ZP:=@Option.some.injEq
abbrev ZQ:=@List.all_eq_true
abbrev ZR:=@Heap.get?_update_other
abbrev ZS:=@List.mem_append_right
abbrev ZT:=@Array.length_toList
abbrev ZU:=@List.getElem?_set_self
abbrev ZV:=@wpAny_field
abbrev ZW:=@of_decide_eq_true
abbrev ZX:=@List.mem_filterMap
abbrev ZY:=@Heap.get?_update_self
abbrev ZZ:=@Bool.or_eq_false_iff
abbrev wA:=@Function.comp_def
abbrev gA:=@True.intro
abbrev yO:=@Nat.lt_irrefl
abbrev lB:=@Nat.lt_succ_of_lt
abbrev kB:=@Bool.not_eq_true'
abbrev vB:=@wpAny_setField_rec
abbrev lC:=@List.filterMap_cons
abbrev vC:=@PySem.mem_of_lookup
abbrev xE:=@List.getElem?_append_right
abbrev qA:=@wpAny_holding
abbrev jB:=@List.cons_append
abbrev vE:=@List.getElem?_append_left
abbrev uE:=@Array.getElem?_eq_getElem
abbrev kC:=@List.mem_singleton
abbrev iB:=@List.nodup_cons
abbrev fA:=@or_false
abbrev jC:=@List.getElem?_map
abbrev tE:=@List.getElem?_cons_zero
abbrev sD:=@Around.under_plainId
abbrev rD:=@PySem.W.hideAll_get
abbrev qD:=@Heap.SameBut.update
abbrev uB:=@Bool.false_and
abbrev sE:=@List.length_singleton
abbrev rB:=@wpAny_setField
abbrev iC:=@List.length_set
abbrev gC:=@List.map_append
abbrev wC:=@codeAny_builtin
abbrev eE:=@List.pairwise_cons
abbrev gG:=@decide_eq_false_iff_not
abbrev lA:=@congrArg
abbrev wB:=@wpAny_attempt
abbrev yA:=@Nat.le_succ
abbrev qC:=@wpAny_seqItems
abbrev LD:=@Int.toNat_natCast
abbrev eF:=@List.mem_map_of_mem
abbrev ZaJ:=@Nat.lt_succ_self
abbrev zD:=@List.filter_cons
abbrev zE:=@List.zip_cons_cons
abbrev mB:=@Nat.zero_le
abbrev pC:=@List.all_cons
abbrev zO:=@List.mem_append_left
abbrev xA:=@call_meets
abbrev qH:=@List.getElem?_cons_succ
abbrev yE:=@wpAny_truthy_bool
abbrev yD:=@Option.some.inj
abbrev xD:=@List.append_nil
abbrev wD:=@List.length_nil
abbrev uD:=@Bool.or_eq_true
abbrev fG:=@List.map_congr_left
abbrev nC:=@Nat.ne_of_gt
abbrev mC:=@codeAny_mono
abbrev iK:=@Array.getElem?_eq_some_iff
abbrev vJ:=@List.getD_eq_getElem?_getD
abbrev pD:=@plainId_quiet
abbrev eG:=@wpAny_Call_Name_kw
abbrev iH:=@List.length_replicate
abbrev zF:=@Nat.lt_of_le_of_lt
abbrev nO:=@PyProof.Rows.slot_tuple_getitem
abbrev qB:=@wpAny_rule
abbrev mO:=@wpAny_typeNameOfWhole_itemiter
abbrev hH:=@List.forall_mem_cons
abbrev yF:=@List.flatMap_cons
abbrev fB:=@And.intro
abbrev lO:=@F.slot_dict_itemiterator_next
abbrev kO:=@wpAny_typeNameOfWhole_keyiter
abbrev uJ:=@List.getElem?_replicate
abbrev xF:=@wpAny_isInstance
abbrev rE:=@wpAny_fieldsOf
abbrev jO:=@F.slot_dict_keyiterator_next
abbrev tJ:=@typeIs_str
abbrev nD:=@wpAny_typeOf
abbrev gH:=@Obj.data_mapFields
abbrev wF:=@Option.map_some
abbrev vF:=@wpAny_ite_split
abbrev sJ:=@Array.getElem?_toList
abbrev uF:=@PySem.W.kia_one
abbrev qE:=@List.any_cons
abbrev iO:=@F.slot_tuple_iterator_next
abbrev xO:=@PySem.F.excBase_ValueError
abbrev pH:=@wpAny_pyIter_list
abbrev oH:=@wpAny_setState_of
abbrev nH:=@wpAny_dictEntries
abbrev gK:=@List.mem_of_getElem?
abbrev mH:=@wpAny_askSetting
abbrev fK:=@wpAny_setEntries_of
abbrev lT:=@ne_true_of_eq_false
abbrev zJ:=@List.mem_cons_self
abbrev lH:=@List.cons.injEq
abbrev kH:=@wpAny_dictEpoch
abbrev ZbL:=@PySem.W.cellsFrom_some
abbrev wO:=@Calls.callWith_builtin
abbrev yJ:=@wpAny_pyIter_slot
abbrev xJ:=@List.take_add_one
abbrev vO:=@List.getElem?_eq_none
abbrev uO:=@builtinLookup_eq_fast
abbrev kT:=@PyProof.Rows.callWith_type1
abbrev sO:=@Calls.evalArgs_plain
abbrev rO:=@List.contains_eq_mem
abbrev qO:=@List.getElem?_of_mem
abbrev jH:=@Bool.or_false
abbrev jT:=@wpAny_newFunctionEnv_cells
abbrev pO:=@F.plain_extend_loop
abbrev oO:=@Array.toList_append
abbrev wJ:=@wpAny_passesOwn
abbrev oJ:=@List.of_mem_zip
abbrev qN:=@PySem.W.of_hideAll
abbrev xS:=@PySem.F.args_tuple_add_2
abbrev pN:=@Option.isSome_some
abbrev oN:=@wpAny_pyIter_tuple
abbrev nN:=@List.contains_cons
abbrev sF:=@wpAny_call
abbrev nJ:=@isSubtype_stop
abbrev vS:=@PySem.F.entry_tuple_add
abbrev uS:=@PySem.F.plainAttrs_dict
abbrev sS:=@Heap.UpToSlots.of_keeps
abbrev rS:=@F.plain_set_update_loop
abbrev qS:=@List.length_eq_zero_iff
abbrev lN:=@List.Pairwise.nil
abbrev kN:=@Nat.le_of_succ_le
abbrev jN:=@List.length_range
abbrev Zcq:=@PassesOwn.leaving
abbrev pS:=@F.plain_list_iadd
abbrev nS:=@PySem.F.slot_tuple_add
abbrev mS:=@List.range_succ_eq_map
abbrev lS:=@wpAny_isOneOf_itemiter
abbrev mJ:=@Paired.length
abbrev iN:=@List.length_drop
abbrev gN:=@List.drop_length
abbrev fN:=@List.any_eq_true
abbrev eN:=@List.ext_getElem
abbrev eO:=@F.slot_str_split
abbrev iT:=@codeAny_call_function
abbrev gT:=@Obj.isFreed_of_fields
abbrev fT:=@wpAny_notOrdered_dict
abbrev eT:=@Around.frames_deeper
abbrev rJ:=@List.map_nil
abbrev zN:=@List.find?_cons
abbrev qJ:=@Nat.zero_add
abbrev yN:=@pushCells_keeps
abbrev pJ:=@List.all_map
abbrev xN:=@List.foldl_cons
abbrev zS:=@wpAny_updateSeq_pair
abbrev wN:=@F.slot_zip_next
abbrev yS:=@codeAny_call_builtin
abbrev vN:=@typeLookup_type
abbrev uN:=@wpAny_updateSeq
abbrev tN:=@List.nil_append
abbrev sN:=@List.Perm.refl
abbrev rN:=@isSubtype_type
end
set_option genSizeOf false
namespace _r
namespace L2
open PySem PySem.Spec PyProof.Rows
variable{s:Ak}{A:Bd}{pos p:Pos}{Y:AV}{x:Str}{w:A0}{E:Au}{P prog:Be}{K:Aj}{a C b f dx:Addr}{h h' base:Heap}{u:Al}{e tg c:Expr}{k t' i:Nat}{op:aX}{us:AF}{es:Cy}{ps:Ag}{M:Model}{mg mA:Bi}{fd:A7}{κ:Type}{ch fp:A1}{kw:FW}
inductive Key where
 |inl (i:Int)|inr (x:Str)|non
noncomputable instance:DecidableEq Key:=λ_ _=>Classical.propDecidable _
noncomputable def rH:Key->Value->Bool
 |.inl k,v=>Value.isInt k v
 |.inr x,v=>Value.isStrOf x v
 |.non,.none=>To
 |.non,_=>Fo
noncomputable def keyH (w:A0):Key->Int
 |.inl k=>hashInt k
 |.inr x=>hashStr w x
 |.non=>reduceHash 0xFCA86420
def Jr:∀{k:Key}{v:Al},rH k v=To->(∃i t,k=.inl i/\v=Value.int i t)\/(∃x t,k=.inr x/\v=Value.str x t)\/(k=.non/\v=.none)
 |.inl i,v,h=>by
  obtain⟨t,e⟩:=Value.isInt_shape (k:=i) (v:=v) h
  exact .inl ⟨i,t,rfl,e⟩
 |.inr x,v,h=>by
  obtain⟨t,e⟩:=Value.isStrOf_shape (x:=x) (v:=v) h
  exact .inr (.inl ⟨x,t,rfl,e⟩)
 |.non,v,h=>by cases v<;>first|exact .inr (.inr Dr)|cases h
def Jly(i:Int)(t:Tok):rH (.inl i) bV=To:=by simp[rH,Value.isInt]
def Jlh(x:Str)(t:Tok):rH (.inr x) (.str x t)=To:=by simp[rH,Value.isStrOf]
def JpF(a b:Int):decide (Key.inl a=.inl b)=(a==b):=by
 by_cases e:a=b
 ·subst e;simp
 ·rw[Zx λq=>e (by injection q)];exact(Zw.mpr e).symm
def JpC(a b:Str):decide (Key.inr a=.inr b)=decide (a=b):=decide_eq_decide.mpr ⟨λq=>by injection q,λq=>by rw[q]⟩
def Jnu{Q:Int->Shared->Prop}(h:Q (reduceHash 0xFCA86420) {s with toks:=Xl+1}):wpAny Ar A (pyHash .none) Q E s:=
 PySem.W.pyHash_slot (T:="NoneType") rfl F.slot_NoneType_hash F.entry_NoneType_hash (F.args_NoneType_hash_1 _) (beq_builtin_none _) BB (Za (Zb (Za (wpAny_mkInt (Zb ⟨_,_,rfl,h⟩)))))
def JN (prog:Be) (w:A0):PySem.KeyKind prog w Key where
 is:=rH
 hash:=keyH w
 inj:=λv a b o m=>by
  rcases Jr o with⟨i,t,rfl,rfl⟩|⟨x,t,rfl,rfl⟩|⟨rfl,rfl⟩<;>rcases Jr m with⟨j,u,rfl,e⟩|⟨y,u,rfl,e⟩|⟨rfl,e⟩<;>first|rfl|(cases e;done)|(cases e;rfl)
 byValue:=λk v h=>by
  rcases Jr h with⟨i,t,rfl,rfl⟩|⟨x,t,rfl,rfl⟩|⟨rfl,rfl⟩<;>rfl
 pyHash:=λg h=>by
  rcases Jr g with⟨i,t,rfl,rfl⟩|⟨x,t,rfl,rfl⟩|⟨rfl,rfl⟩
  ·exact wpAny_pyHash_int h
  ·exact wpAny_pyHash_str h
  ·exact Jnu h
 eqBool:=λr g h=>by
  rcases Jr r with⟨i,t,rfl,rfl⟩|⟨x,t,rfl,rfl⟩|⟨rfl,rfl⟩
  ·rcases Jr g with⟨j,u,rfl,rfl⟩|⟨y,u,rfl,rfl⟩|⟨rfl,rfl⟩
   ·rw[JpF]at h;exact wpAny_eqBool_int h
   ·exact SeqAt.EqAt.int_str i t y u _ _ _ _ (by rw[Zx (λq=>nomatch q)]at h;exact h)
   ·exact SeqAt.EqAt.int_none i t _ _ _ _ (by rw[Zx (λq=>nomatch q)]at h;exact h)
  ·rcases Jr g with⟨j,u,rfl,rfl⟩|⟨y,u,rfl,rfl⟩|⟨rfl,rfl⟩
   ·exact SeqAt.EqAt.str_int x t j u _ _ _ _ (by rw[Zx (λq=>nomatch q)]at h;exact h)
   ·rw[JpC]at h;exact wpAny_eqBool_str h
   ·exact SeqAt.EqAt.str_none x t _ _ _ _ (by rw[Zx (λq=>nomatch q)]at h;exact h)
  ·rcases Jr g with⟨j,u,rfl,rfl⟩|⟨y,u,rfl,rfl⟩|⟨rfl,rfl⟩
   ·exact SeqAt.EqAt.none_int j u _ _ _ _ (by rw[Zx (λq=>nomatch q)]at h;exact h)
   ·exact SeqAt.EqAt.none_str y u _ _ _ _ (by rw[Zx (λq=>nomatch q)]at h;exact h)
   ·exact SeqAt.EqAt.same _ _ _ _ _ (by rw[ZH rfl]at h;exact h)
 «strs»:=λk x t v h=>by
  rcases Jr h with⟨i,u,rfl,e⟩|⟨y,u,rfl,e⟩|⟨rfl,e⟩
  ·exact nomatch e
  ·injection e with l _
   subst l
   cases v<;>rfl
  ·exact nomatch e
def JhH(prog:Be)(w:A0)(i:Int)(t:Tok):(JN prog w).is (.inl i) bV=To:=Jly i t
def JdE(prog:Be)(w:A0)(x:Str)(t:Tok):(JN prog w).is (.inr x) (.str x t)=To:=Jlh x t
inductive KTr(κ:Type)where
 |a (k:κ)|t (ks:List (KTr κ))
noncomputable instance {κ:Type}:DecidableEq (KTr κ):=λ_ _=>Classical.propDecidable _
section
variable[DecidableEq κ](kd:KeyKind P w κ)
mutual
def kDep:KTr κ->Nat
 |.a _=>0
 |.t ks=>zT ks+1
def zT:List (KTr κ)->Nat
 |[]=>0
 |k::ks=>max (kDep k) (zT ks)
end
variable{kd}
end
inductive V where
 |non|bl (b:Bool)|int (i:Int)|str (x:Str)|byt (b:Array UInt8)|flt (b:UInt64)|ref (a:Addr)|ty (n:String)
noncomputable instance:DecidableEq V:=λ_ _=>Classical.propDecidable _
variable{v:V}{vs:Av}
noncomputable def RelV:V->Value->Prop
 |.non,u=>u=Xq
 |.bl b,u=>u=Value.bool b
 |.int i,u=>∃t,u=Value.int i t
 |.str x,u=>∃t,u=Value.str x t
 |.byt b,u=>∃t,u=Value.bytes b t
 |.flt b,u=>∃t,u=Value.float b t
 |.ref a,u=>u=Value.ref a
 |.ty n,u=>u=Value.type n
noncomputable abbrev Vals:List V->List Value->Prop:=Paired RelV
def Vals.length{xs:Av}{us:AF}(r:Vals xs us):Ai=us.length:=mJ r
def Vals.get:∀{xs:Av}{us:AF}{i:Nat}{x:V},Vals xs us->xs[i]? =So x->∃u,us[i]? =So u/\RelV x u
 |_,_,_,_,.nil,e=>by simp at e
 |_,_,0,_,.cons r _,e=>by simp at e;subst e;exact LM
 |_,_,i+1,x,.cons _ t,e=>by
  obtain⟨u,g,j⟩:=Vals.get (i:=i) (x:=x) t (by simpa using e)
  exact⟨u,by simpa using g,j⟩
def Vals.append:∀{xs ys:Av}{us ws:AF},Vals xs us->Vals ys ws->Vals (xs++ys) (us++ws)
 |_,_,_,_,.nil,s=>s
 |_,_,_,_,.cons r t,s=>.cons r (Vals.append t s)
def Vals.take:∀{xs:Av}{us:AF}(n:Nat),Vals xs us->Vals (xs.take n) (us.take n)
 |_,_,0,_=>.nil
 |_,_,_+1,.nil=>.nil
 |_,_,n+1,.cons r t=>.cons r (Vals.take n t)
def Vals.drop:∀{xs:Av}{us:AF}(n:Nat),Vals xs us->Vals (xs.drop n) (us.drop n)
 |_,_,0,r=>r
 |_,_,_+1,.nil=>.nil
 |_,_,n+1,.cons _ t=>Vals.drop n t
def Vals.none_of:∀{xs:Av}{us:AF}{i:Nat},Vals xs us->xs[i]? =No->us[i]? =No:=fun{xs us i}r e=>by
 have g:=Xz
 have j:Ai<=i:=List.getElem?_eq_none_iff.mp e
 exact List.getElem?_eq_none_iff.mpr Ad
def RelO:Option V->Option Value->Prop
 |some v,So u=>RelV v u
 |none,No=>True
 |_,_=>False
def KV :List (κ×V)->List (κ×Value)->Prop:=Paired fun(p:κ×V)(q:κ×Value)=>p.1=q.1/\RelV p.2 q.2
noncomputable def kV:Key->V
 |.inl i=>.int i
 |.inr x=>.str x
 |.non=>.non
inductive HO where
 | lst (xs:List V)
 | lsm (t:Str) (xs:List V)
 | tup (xs:List V)
 | dK (kvs:List (Key × V)) | dT (kvs:List (List (KTr Key) × V))
 | set (S:Int -> Bool) (n:Nat)
 | ins (C dx:Addr) (fs:List (Str × V))
 | own (x:Addr)
 | xd (fs:List (Str × V))
 | met (f x:Addr)
 | rng (lo hi:Int)
 | frz (o:Obj) (u:HO)
 | tbl (ps:Array Value)
 | ext (φ:Heap -> Prop)
variable{o:HO}
noncomputable abbrev Hp:=Addr->Option HO
variable{H W:Hp}
noncomputable def upd (H:Hp) (a:Addr) (o:HO):Hp:=λb=>if b=a then So o else H b
def Jd:upd H a o a=So o:=by unfold upd;rw[if_pos rfl]
def Jb(h:b≠a):upd H a o b=H b:=by unfold upd;rw[if_neg h]
def upd_upd{u:HO}:upd EA a u=upd H a u:=by funext b;unfold upd;split<;>rfl
def Je(h:H a=So o)(h':H b=No):a≠b:=by intro e;subst e;rw[h]at h';cases h'
mutual
def KH(H:Hp):KTr Key->V->Prop
 |.a k,v=>v=kV k
 |.t ks,v=>∃a xs,v=.ref a/\H a=So Bl/\KHs H ks xs
def KHs(H:Hp):List (KTr Key)->List V->Prop
 |[],xs=>xs=[]
 |k::ks,xs=>∃x r,xs=x::r/\KH H k x/\KHs H ks r
end
mutual
def KH.keep{H W:Hp}(g:∀b xs,H b=So Bl->W b=So Bl):∀(k:KTr Key){v:V},KH H k v->KH W k v
 |.a _,_,x=>x
 |.t ks,_,⟨a,xs,e,h1,h2⟩=>⟨a,xs,e,g _ _ h1,KHs.keep g ks h2⟩
def KHs.keep{H W:Hp}(g:∀b xs,H b=So Bl->W b=So Bl):∀(ks:List (KTr Key)){xs:Av},KHs H ks xs->KHs W ks xs
 |[],_,x=>x
 |k::ks,_,⟨v,r,e,h1,h2⟩=>⟨v,r,e,KH.keep g k h1,KHs.keep g ks h2⟩
end
def KB(H:Hp)(k:List (KTr Key))(b:Addr):Prop:=KH H (.t k) (.ref b)/\zT k<=7
section
variable(P:Be)(w:A0)
def ObjOk (H:Hp) (h:Heap) (a:Addr):HO->Prop
 |.lst xs=>Ai<=sizeLine/\∃(its:AF)(n:Nat),Vals xs its/\h.get? a=So {cls:=.type "list",data:=.seq AU n}
 |.lsm _ xs=>Ai<=sizeLine/\∃(its:AF)(n:Nat),Vals xs its/\h.get? a=So {cls:=.type "list",data:=.seq AU n}
 |.tup xs=>(Ai<=sizeLine/\∀o,h.get? a=So o->o.dict=No)/\∃its:List Value,Vals xs its/\IsTup h a AU
 |.dK kvs=>By<=sizeLine/\(a==sysModules)=Fo/\∃vs,KV kvs vs/\h.DictOf aJ a vs
 |.dT _=>False
 |.set S n=>h.SetOf (intKind P w) a S n
 |.ins C dx fs=>H dx=So (.own a)/\fs.length<=1000/\dx≠a/\h.get? a=So (PySem.W.instObj C dx)/\
   ∃mA,h.Ns1 dx mA/\(∀f,RelO QK (mA f))/\PySem.Within mA (fs.map (·.1))
 |.own _=>∃o,h.get? a=So o
 |.xd fs=>∃mA,h.Ns1 a mA/\∀f,RelO QK (mA f)
 |.rng B F=>∃t u v,h.get? a=So {cls:=.type "range",data:=.fields #[.int B t,.int F u,.int 1 v]}
 |.frz o u=>h.get? a=So o/\ObjOk H h a u
 |.tbl ps=>∃q z j,ps[0]? =So (.str q z)/\h.get? a=So {cls:=.none,data:=.fields j}/\TriplesOk j.toList/\∀pos l,codeAmong pos j.toList=So l->∃(c:Addr)(m:Obj)(vs:B7)(t:Tok),l=.ref c/\H c=So (.frz m F3)/\m.data=.fields vs/\vs[1]? =So bW
 |.met f x=>h.get? a=So (PySem.W.methodObj A6 Ca)
 |.ext g=>g h/\(∃o,h.get? a=So o)/\∀r y:Heap,g r->(∀o,r.get? a=So o->y.get? a=So o)->g y
def dQ{z:B7}{n:Nat}(o:Obj)(q:(h.push {cls:=.type "tuple",data:=.seq z n}).get? BL=So o):o.dict=No:=by rw[Ze _ rfl]at q;cases q;rfl
def HOk(H:Hp)(h:Heap):Prop:=∀a o,H a=So o->ObjOk P w H h a o
end
def ObjOk.lt(x:MF):a<BL:=by
 cases o with
 |lst j=>obtain⟨_,_,_,_,e⟩:=x;exact Zh e
 |lsm _ j=>obtain⟨_,_,_,_,e⟩:=x;exact Zh e
 |tup j=>obtain⟨_,_,_,p⟩:=x;exact p.lt
 |dK g=>obtain⟨_,_,_,_,o,_,_,e,_⟩:=x;exact Zh e
 |dT g=>exact x.elim
 |set S n=>obtain⟨o,_,_,_,e,_⟩:=x;exact Zh e
 |ins C dx fs=>obtain⟨_,_,_,e,_⟩:=x;exact Zh e
 |own y=>obtain⟨_,e⟩:=x;exact Zh e
 |xd fs=>obtain⟨_,⟨_,_,_,e,_⟩,_⟩:=x;exact Zh e
 |rng l q=>obtain⟨_,_,_,e⟩:=x;exact Zh e
 |frz ob u=>obtain⟨e,_⟩:=x;exact Zh e
 |tbl ps=>obtain⟨_,_,_,_,e,_⟩:=x;exact Zh e
 |met f y=>exact Zh (show h.get? a=So _ from x)
 |ext m=>obtain⟨_,⟨_,e⟩,_⟩:=x;exact Zh e
def ObjOk.stay(x:MF)(k:∀b u,(b=a\/H b=So aK)->h.get? b=So u->h'.get? b=So u)
  (ho:∀b,H b=So (.own a)->W b=So aK) (ht:∀b xs,H b=So Bl->W b=So Bl)
  (I:∀b o u,H b=So (.frz o (.ext u))->W b=So (.frz o (.ext u)):=by exactλ_ _ _ q=>q):ObjOk P w W h' a o:=by
 induction o with
 |lst xs=>obtain⟨z,g,n,r,e⟩:=x;exact Qs
 |lsm _ xs=>obtain⟨z,g,n,r,e⟩:=x;exact Qs
 |tup xs=>obtain⟨⟨z,L⟩,g,r,ob,e,c⟩:=x;exact⟨⟨z,λo q=>by rw[k _ _ 'Ö' e]at q;cases q;exact L _ e⟩,g,r,ob,k _ _ BB e,c⟩
 |dK l=>obtain⟨z,y,vs,r,ob,es,j,e,c⟩:=x;exact⟨z,y,vs,r,ob,es,j,k _ _ BB e,c⟩
 |dT l=>exact x.elim
 |set S n=>obtain⟨ob,es,j,t,e,c⟩:=x;exact⟨ob,es,j,t,k _ _ BB e,c⟩
 |ins C dx fs=>obtain⟨d,z,ne,e,mA,⟨B,es,j,m,c⟩,r⟩:=x;exact⟨ho _ d,z,ne,k _ _ BB e,mA,⟨B,es,j,k _ _ (.inr d) m,c⟩,r⟩
 |own y=>obtain⟨ob,e⟩:=x;exact⟨ob,k _ _ BB e⟩
 |xd fs=>obtain⟨mA,⟨B,es,j,e,c⟩,r⟩:=x;exact⟨mA,⟨B,es,j,k _ _ BB e,c⟩,r⟩
 |rng lo hi=>obtain⟨t,u,v,e⟩:=x;exact⟨t,u,v,k _ _ BB e⟩
 |frz ob u U=>obtain⟨e,q⟩:=x;exact⟨k _ _ BB e,U q⟩
 |tbl ps=>obtain⟨q,X,qs,e0,e,t,c⟩:=x;exact⟨q,X,qs,e0,k _ _ BB e,t,λpos G z=>let⟨b,O,vs,N,J,m,Z⟩:=c pos G z;⟨b,O,vs,N,J,I _ _ _ m,Z⟩⟩
 |met f y=>have e:h.get? a=So Vb:=x;show h'.get? a=So Vb;exact k a _ BB e
 |ext φ=>obtain⟨p,⟨o,e⟩,F⟩:=x;exact⟨F _ _ p λo q=>k _ _ BB q,⟨o,k _ _ BB e⟩,F⟩
def HOk.lt(x:Ct)(e:H a=So o):a<BL:=(x a o e).lt
def HOk.fresh(x:Ct)(e:BL<=a):H a=No:=by
 cases q:H a with
 |none=>rfl
 |some u=>exact absurd (Zt (x.lt q) e) Cq
def HOk.kept(x:Ct)(k:∀b u,h.get? b=So u->h'.get? b=So u):HOk P w H h':=λa o e=>
 (x a o e).stay (λb u _ q=>k b u q) Kg λ_ _ q=>q
def HOk.laid(x:Ct)(k:∀b u,h.get? b=So u->h'.get? b=So u)(l:BL<=a)(new:ObjOk P w EA h' a o):HOk P w EA h':=λb u e=>by
 have g:=x.fresh l
 by_cases j:b=a
 ·subst j;rw[Jd]at e;cases e;exact new
 ·rw[Jb j]at e
  exact(x b u e).stay (λc v _ q=>k c v q) (λc q=>by rw[Jb 'ћ'];exact q) (λc m q=>by rw[Jb 'ћ'];exact q) λc t r q=>by rw[Jb 'ћ'];exact q
def Rd(H:Hp)(a:Addr)(u:HO):Prop:=H a=So u\/∃o,H a=So Lh
def Rd.ok{u:HO}(r:Rd H a u)(x:Ct):ObjOk P w H h a u:=by
 rcases r with r|⟨o,r⟩
 ·exact x a u r
 ·obtain⟨_,q⟩:=x a _ r;exact q
noncomputable def Mut:Option HO->Prop
 |some (.lst _)=>True
 |some (.lsm _ _)=>True
 |some (.dK _)=>True
 |some (.dT _)=>True
 |some (.set _ _)=>True
 |some (.ins _ _ _)=>True
 |some (.ext _)=>True
 |_=>False
section
variable{x e:Addr}{o':HO}
def HOk.write(ok:Ct)(l:Qdc)(I:e=x\/H e=So Gu)(k:∀b u,b≠e->h.get? b=So u->h'.get? b=So u)(F:∃u,h'.get? e=So u)
  (new:ObjOk P w (upd H x o') h' x o'):HOk P w (upd H x o') h':=λb u q=>by
 have j:∀c y,H c=So (.own y)->c≠x:=λc y r z=>by subst z;rw[r]at l;exact l
 have m:∀c xs,H c=So Bl->c≠x:=λc xs r z=>by subst z;rw[r]at l;exact l
 by_cases B:b=x
 ·subst B;rw[Jd]at q;cases q;exact new
 ·rw[Jb B]at q
  by_cases g:b=e
  ·have G:H b=So Gu:=by
    rcases I with z|z
    ·exact absurd (g.trans z) B
    ·rw[g];exact z
   rw[q]at G;cases G;obtain⟨v,J⟩:=F;exact⟨v,by rw[g];exact J⟩
  ·refine(ok b u q).stay (λc v t r=>k c v ?_ r) (λc r=>by rw[Jb (j c b r)];exact r) (λc xs r=>by rw[Jb (m c xs r)];exact r) λc o' L r=>by rw[Jb (λz=>by subst z;rw[r]at l;exact l)];exact r
   rcases t with rfl|t
   ·exact g
   ·rintro rfl
    rcases I with z|z
    ·exact j c b t z
    ·rw[t]at z;cases z;exact B rfl
end
structure Un(fs ex:A1)(H W:Hp)(h h':Heap):Prop where
 keep:∀b o,h.get? b=So o->H b=No->b∉fs->b∉ex->h'.get? b=So o
 slot:∀b o,h.get? b=So o->H b=No->b∈fs->b∉ex->∃sl,h'.get? b=So {o with slots:=sl}
 free:∀b o,h.get? b=So o->H b=No->b∉ex->W b=No
 there:∀b o,h.get? b=So o->b∉ex->∃o',h'.get? b=So o'
 tups:∀b xs,H b=So Bl->W b=So Bl
 frzs:∀b o u,H b=So (.frz o u)->W b=So Lh
 tbls:∀b ps,H b=So (.tbl ps)->∃more,W b=So (.tbl (ps++more))
section
variable{fs fs' ex ex':A1}{H H1 H2:Hp}{h h1 h2 h':Heap}{a x e:Addr}{o:HO}
def Un.any(u:Un fs ex H H1 h h1){ob:Obj}(q:h.get? b=So ob)(n:H b=No)(g:b∉ex):∃sl,h1.get? b=So {ob with slots:=sl}:=by
 by_cases j:b∈fs
 ·exact u.slot b ob q n j g
 ·exact⟨ob.slots,u.keep b ob q n j g⟩
def Un.kept(k:∀b u,h.get? b=So u->h'.get? b=So u):Un fs ex H H h h':=
 ⟨λb ob q _ _ _=>k b ob q,λb ob q _ _ _=>⟨ob.slots,k b ob q⟩,λ_ _ _ n _=>n,λb ob q _=>⟨ob,k b ob q⟩,λ_ _ q=>q,λ_ _ _ q=>q,λ_ ps q=>⟨#[],by rw[q];simp⟩⟩
def Un.refl:Un fs ex H H h h:=Un.kept λ_ _ q=>q
def Un.laid(k:∀b u,h.get? b=So u->h'.get? b=So u)(l:BL<=a)(g:H a=No):Un fs ex H EA h h' where
 keep:=λb u q _ _ _=>k b u q
 slot:=λb u q _ _ _=>⟨u.slots,k b u q⟩
 free:=λb u q n _=>by rw[Jb (Zn (Zt (Zh q) l))];exact n
 there:=λb u q _=>⟨u,k b u q⟩
 tups:=λb j q=>by rw[Jb 'ћ'];exact q
 frzs:=λb u j q=>by rw[Jb 'ћ'];exact q
 tbls:=λb ps q=>⟨#[],by rw[Jb 'ћ',q];simp⟩
def Un.write(j:Qdc)(G:e=x\/H e=So Gu)(k:∀b u,b≠e->h.get? b=So u->h'.get? b=So u)(l:∃u,h'.get? e=So u):Un fs ex H aY h h':=by
 have y:∀b,H b=No->b≠x:=λb n z=>by subst z;rw[n]at j;exact j
 have t:∀b,H b=No->b≠e:=λb n z=>by
  subst z;rcases G with r|r
  ·exact y b n r
  ·rw[n]at r;cases r
 have m:∀b u,H b=So u->¬Mut (So u)->b≠x:=λb u q F z=>by subst z;rw[q]at j;exact F j
 refine⟨λb u q n _ _=>k b u (t b n) q,λb u q n _ _=>⟨u.slots,k b u (t b n) q⟩,λb u q n _=>by rw[Jb (y b n)];exact n,λb u q _=>?_,
  λb B q=>by rw[Jb 'ѩ'];exact q,λb u B q=>by rw[Jb 'ѩ'];exact q,λb ps q=>⟨#[],by rw[Jb 'ѩ',q];simp⟩⟩
 by_cases g:b=e
 ·subst g;exact l
 ·exact⟨u,k b u g q⟩
end
noncomputable def trk (h:Heap) (H:Hp):List Addr:=(List.range BL).filter λa=>(H a).isSome
def hidT (h:Heap) (H:Hp):Heap:=PySem.W.hideAll h QaK
def JmQ(h:Heap)(H:Hp):'ե'.objs.size=BL:=PySem.W.hideAll_size _ _
def Jnz{o:Obj}(e:h.get? b=So o)(n:H b=No):'ե'.get? b=So o:=
 rD _ e λg=>by
  have q:(H b).isSome=To:=(List.mem_filter.mp g).2
  rw[n]at q;simp at q
def Jru{o:Obj}(e:'ե'.get? b=So o):h.get? b=So o/\H b=No:=by
 have g:h.get? b=So o:=qN QaK e;refine⟨g,?_⟩;cases q:H b with
 |none=>rfl
 |some x=>have j:b∈trk h H:=List.mem_filter.mpr ⟨List.mem_range.mpr (Zh g),by simp[q]⟩;have z:'ե'.get? b=No:=PySem.W.hideAll_none QaK j;rw[z]at e;cases e
noncomputable def Jsn (g h:Heap) (L:Addr):List (Addr×Obj):=(List.range BL).filterMap λa=>if a=L\/(g.get? a).isSome=To then No else(h.get? a).map λo=>(a,o)
def rest (g h:Heap) (L d:Addr):List (Addr×Obj):=(Jsn g h L).filter λp=>decide (p.1≠d)
structure Mod(K:Aj)(mg:Bi)(base:Heap):Prop where
 kin:K.In base
 glob:base.Ns mainGlobals mg
 blt:∃mb,base.Ns builtinsNs mb/\∀x:Str,x≠"__name__"->mb x=bootBuiltins x
 nolimit:base.NoLimit
structure Cx where
 prog:Program
 w:World
 K:PySem.W.Frag
 mg:Str->Option Value
 base:Heap
 A:Around
 N:List Str
 s₀:Shared
 H₀:Hp
 env:Env
 outer:List Env
 stack:List Env
 ex:List Addr
 fn:Str->Bool
 calm:Bool
 pn:List (Addr×Obj)
 xe:Value->Shared->Prop
variable{X:Cx}
noncomputable def frs (l:A5):List Addr:=l.filterMap (·.frame)
noncomputable abbrev Cx.fs (X:Cx):List Addr:=frs aE
def Vis(g:AS)(x:Str):Prop:=g.names.lookup x=So .local\/g.names.lookup x=So .cell\/g.names.lookup x=So .free
def Loc(g:AS)(x:Str):Prop:=g.names.lookup x=So .local\/g.names.lookup x=So .cell
def Look(O:Env)(h:Heap)(m:Bi)(x:Str)(u:Al):Prop:=
 (O.kindOf x=So .local/\m x=So u)\/((O.kindOf x=So .cell\/O.kindOf x=So .free)/\∃c,O.cells.lookup x=So c/\h.IsCell c (So u))
structure Cx.Ok(X:Cx):Prop where
 mod:Mod X.K X.mg XC
 kind:X.env.scope.kind=.function
 glob:X.env.globals=mainGlobals
 blt:X.env.builtins=builtinsNs
 above:Nr<=AD
 inj:∀x y c,X.env.cells.lookup x=So c->X.env.cells.lookup y=So c->x=y
 has:∀x,(X.env.kindOf x=So .cell\/X.env.kindOf x=So .free)->∃c,X.env.cells.lookup x=So c
 cab:∀x c,X.fn x=To->X.env.cells.lookup x=So c->Nr<=c
 hd:X.calm=To->X.A.handled=No
 frames:X.A.frames=So Xp
 stk:X.stack=aE\/(Xp=QL::X.outer/\X.env.frame=So AD)
 exf:∀b∈X.ex,b≠AD/\∀x c,X.env.cells.lookup x=So c->c≠b
 bs:∀b o,X.base.get? b=So o->X.s₀.heap.get? b=So o/\X.H₀ b=No
 bsz:X.base.objs.size<=Nr
 noex:∀b o,X.base.get? b=So o->b∉X.ex
 exfs:∀b∈X.ex,b∉X.fs
 funs:X.s₀.heap.FunFrames XC aE
 frf:∀b∈X.fs,X.H₀ b=No
structure Inv(X:Cx)(Y:AV)(Z:QdZ)(H:Hp)(s:Ak):Prop where
 ok:X.Ok
 os:s.os=X.s₀.os
 bare:AllBare YR
 base:Un X.fs X.ex X.H₀ H X.s₀.heap Re
 loc:∃m,s.heap.Ns AD m/\∀(i:Nat)(x:Str)(v:V),X.N[i]? =So x->Z[i]? =So Bj->Vis Cs x->∃u,RelV v u/\Look QL Re m x u
 cell:∀x c,X.env.cells.lookup x=So c->∃v,s.heap.IsCell c v
 free:H AD=No
 freeC:∀x c,X.env.cells.lookup x=So c->H c=No
 pin:∀p∈X.pn++Y,s.heap.get? p.1=So p.2/\H p.1=No/\p.1≠AD/\p.1∉X.fs/\∀v,p.2.data≠.cell v
 hok:HOk Xn X.w H Re
 len:Z.length=Qbr
section
variable{Z:QdZ}
def Cx.Ok.nofr(ok:X.Ok){o:Obj}(e:X.base.get? b=So o):b∉X.fs:=λg=>by
 have:=(ok.funs.mem g).1
 rw[e]at this;cases this
def Inv.bs(I:AH):∀b o,X.base.get? b=So o->s.heap.get? b=So o/\H b=No:=λb o e=>
 ⟨I.base.keep b o (I.ok.bs b o e).1 (I.ok.bs b o e).2 (I.ok.nofr e) Qaa,I.base.free b o (I.ok.bs b o e).1 (I.ok.bs b o e).2 Qaa⟩
def Inv.bk(I:AH):∀b o,X.base.get? b=So o->s.heap.get? b=So o:=λb o e=>(I.bs b o e).1
def Inv.mod(I:AH):Mod X.K X.mg XC:=YU
def Inv.kIn(I:AH):X.K.In Re:=I.ok.mod.kin.keeps I.bk
def Inv.lt(I:AH):AD<Aa:=let⟨_,g,_⟩:=XG;g.lt
def Inv.sz(I:AH):Nr<=Aa:=ZA YY (Nat.le_of_lt I.lt)
def Inv.nofs(I:AH)(h:Aa<=a):a∉X.fs:=λg=>by
 obtain⟨_,o,j,_⟩:=I.ok.funs.mem g
 exact absurd (Zt (Zh j) (ZA I.sz h)) Cq
def Inv.cne(I:AH):∀x c,X.env.cells.lookup x=So c->c≠AD:=λx c e z=>by
 obtain⟨v,o,l,q⟩:=I.cell x c e
 obtain⟨m,⟨t,es,r,j,g,_⟩,_⟩:=XG
 rw[z,j]at l;cases l;rw[g]at q;cases q
def Inv.funs(I:AH):s.heap.FunFrames XC aE:=by
 have all:∀(l:A5),(∀b∈frs l,b∈X.fs)->X.s₀.heap.FunFrames XC l->s.heap.FunFrames XC l:=by
  intro l;induction l with
  |nil=>intro _ _;trivial
  |cons O r J=>intro q N;obtain⟨B,⟨L,o,g,G,t,y⟩,F⟩:=N;have m:L∈X.fs:=q L (by unfold frs;rw[lC,g];exact zJ);obtain⟨sl,e⟩:=I.base.slot L o t (I.ok.frf L m) m λz=>I.ok.exfs L z m;exact⟨B,⟨L,_,g,G,e,y⟩,J (λb j=>q b (by unfold frs;rw[lC,g];exact Zq _ j)) F⟩
 exact all aE (λ_ j=>j) Z7
def Inv.stack(I:AH):s.heap.FunFrames XC Xp:=by
 rcases I.ok.stk with e|⟨e,g⟩
 ·rw[e];exact I.funs
 ·rw[e];obtain⟨m,j,_⟩:=XG;refine .cons (by rw[I.ok.kind];decide) g j ?_ I.funs;exact Heap.get?_none_of_le (ZA bR YY)
def Inv.stkSub(I:AH):∀b∈frs Xp,b∈AD::X.fs:=λb g=>by
 rcases I.ok.stk with e|⟨e,j⟩
 ·rw[e]at g;exact Zq _ g
 ·rw[e]at g
  unfold frs at g
  rw[lC,j]at g
  exact g
def Inv.stkFree(I:AH):∀b∈frs Xp,H b=No:=λb g=>by
 rcases Zg.mp (I.stkSub b g)with e|g
 ·rw[e];exact I.free
 ·obtain⟨_,o,j,_⟩:=I.ok.funs.mem g
  exact I.base.free b o j (I.ok.frf b g) λz=>I.ok.exfs b z g
def Inv.step{g':Array GenState}{d':Drawn}(I:AH)
  (t:∀b∈ch,L3/\b≠AD/\(∀x c,X.env.cells.lookup x=So c->c≠b)/\∀p∈X.pn++Y,p.1≠b)
  (keep:∀b o,b≠AD->b∉X.fs->b∉ch->s.heap.get? b=So o->H b=No->h'.get? b=So o)
  (G:∀b o,b≠AD->b∈X.fs->b∉ch->s.heap.get? b=So o->H b=No->∃sl,h'.get? b=So {o with slots:=sl}) (free:∀b o,b∉ch->s.heap.get? b=So o->H b=No->W b=No)
  (there:∀b o,b∉ch->s.heap.get? b=So o->∃N,h'.get? b=So N)
  (tups:∀b xs,H b=So Bl->W b=So Bl) (frzs:∀b o u,H b=So (.frz o u)->W b=So Lh) (tbls:∀b ps,H b=So (.tbl ps)->∃more,W b=So (.tbl (ps++more)))
  (ns:∀m,s.heap.Ns AD m->h'.Ns AD m) (hok:RI) (hg:AllBare g'):
  Inv X Y Z W {s with heap:=h',gens:=g',drawn:=d',toks:=t'}:=by
 have U:∀b o,X.s₀.heap.get? b=So o->b≠AD:=λb o e=>Zn KN;have B:∀b o,X.s₀.heap.get? b=So o->b∉X.ex->b∉ch:=λb o e g J=>by
  rcases(t b J).1 with z|z
  ·exact g z
  ·exact absurd (Zt (Zh e) z) Cq
 have y:∀x c,X.env.cells.lookup x=So c->∀v,s.heap.IsCell c v->h'.IsCell c v:=λx c e v⟨o,L,hd⟩=>by
  have j:c∉ch:=λz=>(t c z).2.2.1 x c e rfl;by_cases hc:c∈X.fs
  ·obtain⟨sl,q⟩:=G c o Qdu hc j L G7;exact⟨_,q,hd⟩
  ·exact⟨o,keep c o Qdu hc j L G7,hd⟩
 refine⟨I.ok,I.os,hg,⟨λb o e n J g=>?_,λb o e n J g=>?_,λb o e n g=>?_,λb o e g=>?_,λb xs e=>tups b xs (I.base.tups b xs e),λb o xs e=>frzs b o xs (I.base.frzs b o xs e),λb ps e=>?_⟩,?_,λx c e=>?_,?_,λx c e=>?_,λp hp=>?_,hok,Ys⟩
 ·exact keep b o (U b o e) J Lw (I.base.keep b o e n J g) S6
 ·obtain⟨sl,F⟩:=I.base.slot b o e n J g;obtain⟨sl',O⟩:=G b _ (U b o e) J Lw F S6;exact⟨sl',O⟩
 ·obtain⟨N,F⟩:=I.base.there b o e g;exact free b N Lw F S6
 ·obtain⟨N,F⟩:=I.base.there b o e g;exact there b N Lw F
 ·obtain⟨m1,F⟩:=I.base.tbls b ps e;obtain⟨m2,O⟩:=tbls b _ F;exact⟨m1++m2,by rw[O,Array.append_assoc]⟩
 ·obtain⟨m,hn,hl⟩:=XG;refine⟨m,ns m hn,λi x v F O e3=>?_⟩;obtain⟨u,r,l⟩:=hl i x v F O e3;refine⟨u,r,?_⟩;rcases l with l|⟨k,c,e,z⟩
  ·exact .inl l
  ·exact .inr ⟨k,c,e,y x c e _ z⟩
 ·obtain⟨v,z⟩:=I.cell x c e;exact⟨v,y x c e v z⟩
 ·obtain⟨m,⟨o,_,_,L,_⟩,_⟩:=XG;exact free _ o (λz=>(t _ z).2.1 rfl) L XD
 ·obtain⟨v,o,L,hd⟩:=I.cell x c e;exact free c o (λz=>(t c z).2.2.1 x c e rfl) L G7
 ·obtain⟨e,n,ne,nf,d⟩:=I.pin p hp;have j:p.1∉ch:=λz=>(t p.1 z).2.2.2 p hp rfl;exact⟨keep p.1 p.2 ne nf j e n,free p.1 p.2 j e n,ne,nf,d⟩
def Inv.un(I:AH)(u:Un X.fs [] H W Re h')(t:RI):Inv X Y Z W {s with heap:=h',toks:=t'}:=by
 obtain⟨m,⟨o,es,N,y,r⟩,_⟩:=id XG;obtain⟨sl,G⟩:=u.any y XD Af;exact I.step (g':=YR) (d':=Yo) (ch:=[]) (λ_ z=>nomatch z) (λb o _ q _ e n=>u.keep b o e n q Af) (λb o _ q _ e n=>u.slot b o e n q Af) (λb o _ e n=>u.free b o e n Af) (λb o _ e=>u.there b o e Af) u.tups u.frzs u.tbls (λL F=>by
  obtain⟨J,l,j,g,B⟩:=F;rw[y]at g;cases g;exact⟨_,l,j,G,B⟩) t XA
def Inv.call{g':Array GenState}{d':Drawn}(I:AH)(u:Un G3 ch H W Re h')(y:RI)(G:AllBare g')
  (l:∀b∈ch,L3/\b≠AD/\(∀x c,X.env.cells.lookup x=So c->c≠b)/\∀p∈X.pn++Y,p.1≠b):
  Inv X Y Z W {s with heap:=h',gens:=g',drawn:=d',toks:=t'}:=by
 obtain⟨m,⟨o,es,ep,F,r⟩,_⟩:=id XG;obtain⟨sl,B⟩:=u.any F XD λz=>(l _ z).2.1 rfl;exact I.step (ch:=ch) l (λb o B L g e n=>u.keep b o e n (λz=>(Zg.mp (I.stkSub b z)).elim B L) g) (λb o _ _ g e n=>u.any e n g) (λb o g e n=>u.free b o e n g) (λb o g e=>u.there b o e g) u.tups u.frzs u.tbls (λU N=>by
  obtain⟨O,t,q,j,J⟩:=N;rw[F]at j;cases j;exact⟨_,t,q,B,J⟩) y G
def Inv.turned{it:Addr}(I:AH)(k:∀b o,b≠it->s.heap.get? b=So o->h'.get? b=So o)(F:H it=No)(l:it≠AD)
  (h1:it∈X.ex\/X.s₀.heap.objs.size<=it) (L:∀x c,X.env.cells.lookup x=So c->c≠it) (y:∀p∈X.pn++Y,p.1≠it):Inv X Y Z H {s with heap:=h',toks:=t'}:=by
 have j:∀b u,H b=So u->b≠it:=λb u e z=>by rw[z,F]at e;cases e
 refine I.step (g':=YR) (d':=Yo) (ch:=[it]) (λb B=>?_) (λb o _ _ g e _=>k b o (λz=>g (by simp[z])) e) (λb o _ _ g e _=>⟨QcD,k b o (λz=>g (by simp[z])) e⟩) Oh
  (λb o g e=>⟨o,k b o (λz=>g (by simp[z])) e⟩) (λ_ _ e=>e) (λ_ _ _ e=>e) (λb ps e=>⟨#[],by rw[e];simp⟩) (λm G=>?_) (λb u e=>?_) XA
 ·have e:b=it:=by simpa using B
  subst e;exact⟨h1,l,L,y⟩
 ·obtain⟨o,es,J,t,r⟩:=G;exact⟨o,es,J,k _ o (Ne.symm l) t,r⟩
 ·refine(I.hok b u e).stay (λc v g q=>k c v ?_ q) Kg λ_ _ q=>q;rcases g with z|z
  ·rw[z];exact j b u e
  ·exact j c _ z
def Inv.tok(I:AH)(t:Nat):Inv X Y Z H {s with toks:=t}:=I.un (h':=Re) (t':=t) Un.refl Xy
def Inv.kept(I:AH)(k:∀b u,s.heap.get? b=So u->h'.get? b=So u):Inv X Y Z H {s with heap:=h',toks:=t'}:=I.un (Un.kept k) (I.hok.kept k)
def Inv.laid(I:AH)(k:∀b u,s.heap.get? b=So u->h'.get? b=So u)(g:Aa<=a)(new:Uh):
  Inv X Y Z EA {s with heap:=h',toks:=t'}:=I.un (Un.laid k g QbC) (I.hok.laid k g new)
def Inv.write{x e:Addr}(I:AH)(j:Qdc)(l:e=x\/H e=So Gu)(k:∀b u,b≠e->s.heap.get? b=So u->h'.get? b=So u)(g:∃u,h'.get? e=So u)
  (new:ObjOk Xn X.w aY h' x o):Inv X Y Z aY {s with heap:=h',toks:=t'}:=I.un (Un.write j l k g) (I.hok.write j l k g new)
def Inv.pins_of{g:AV}(I:AH)(h:∀p∈g,s.heap.get? p.1=So p.2/\H p.1=No/\p.1≠AD/\p.1∉X.fs/\∀v,p.2.data≠.cell v):Inv X g Z H s:=
 ⟨I.ok,I.os,XA,Yq,XG,Yi,XD,XY,λp j=>(ZI.mp j).elim (λz=>I.pin p (zO _ z)) (h p),Xy,Ys⟩
def Jij{N:Ag}(l:N.Nodup){j:Nat}(a:N[i]? =So x)(b:N[j]? =So x):i=j:=by obtain⟨q,m⟩:=Zz.mp a;obtain⟨r,g⟩:=Zz.mp b;exact(List.getElem_inj l).mp (m.trans g.symm)
def JgB{Q:C8}(I:AH)(hN:Ex)(hi:X.N[i]? =So x)(F:GJ)(r:Em)
  (h:∀s',Inv X Y Xi H s'->(∃a,Heap.SameBut a Re XZ/\(a=AD\/X.env.cells.lookup x=So a))->Q () s') (hf:LW):wpAny M A PB Q E s:=by
 obtain⟨m,hn,hl⟩:=id XG;have hcls:(QcP==.class||(QcP==.module&&X.env.locals !=X.env.globals))=Fo:=by rw[I.ok.kind];rfl
 have N:i<Z.length:=by rw[I.len];exact(Zz.mp hi).1
 have cne:=I.cne;have l:∀{a:Addr}{h':Heap},(∃o,s.heap.get? a=So o/\H a=No)->Heap.SameBut a Re h'->HOk Xn X.w H h':=fun{a h'}ha g b ob e=>by
  obtain⟨_,_,G⟩:=ha;refine(I.hok b ob e).stay (λc w' B q=>(g.2 c ?_).trans q) Kg λ_ _ q=>q;rintro rfl;rcases B with rfl|B
  ·rw[G]at e;cases e
  ·rw[G]at B;cases B
 rcases F with L|L
 ·refine wpAny_storeName_local L hn (λh' hn' g=>?_) hcls;obtain⟨oL,_,_,hoL,_⟩:=id hn;refine h _ ⟨I.ok,I.os,XA,WX,⟨_,hn',λj y v' t J e3=>?_⟩,λy c e=>?_,XD,XY,λp hp=>?_,l ⟨oL,hoL,XD⟩ g,by simpa using I.len⟩ ⟨_,g,.inl rfl⟩
  ·exact(g.2 b (Zn KN)).trans QD
  ·obtain⟨sl,t⟩:=I.base.slot b o e n U F;exact⟨sl,(g.2 b (Zn KN)).trans t⟩
  ·obtain⟨o',t⟩:=I.base.there b o e F;exact⟨o',(g.2 b (Zn KN)).trans t⟩
  ·by_cases hj:j=i
   ·subst hj;rw[hi]at t;cases t;rw[ZU N]at J;cases J;exact⟨u,r,.inl ⟨L,by simp⟩⟩
   ·rw[Zr (Ne.symm hj)]at J;obtain⟨u',r',q⟩:=hl j y v' t J e3;refine⟨u',r',?_⟩;rcases q with⟨k,e⟩|⟨k,c,e,z⟩
    ·refine .inl ⟨k,?_⟩;have:y≠x:=λe=>hj (Jij hN t (e▸hi));simp[this,e]
    ·exact .inr ⟨k,c,e,z.sameBut g (cne y c e)⟩
  ·obtain⟨w',z⟩:=I.cell y c e;exact⟨w',z.sameBut g (cne y c e)⟩
  ·obtain⟨e,n,ne,nf,d⟩:=I.pin p hp;exact⟨(g.2 p.1 ne).trans e,n,ne,nf,d⟩
 ·have O:X.fn x=To:=by
   rcases hf with z|z
   ·exact z
   ·rw[z]at L;cases L
  obtain⟨c,B⟩:=I.ok.has x (.inl L);obtain⟨w',z⟩:=I.cell x c B;refine wpAny_storeName_cell XU L B z (λh' hc' g=>?_);obtain⟨oc,hoc,hocd⟩:=id z;refine h {s with heap:=h'} ⟨I.ok,I.os,XA,WX,⟨m,hn.sameBut g (Ne.symm (cne x c B)),λj y v' t J e3=>?_⟩,λy c' e=>?_,XD,XY,λp hp=>?_,l ⟨oc,hoc,I.freeC x c B⟩ g,by simpa using I.len⟩ ⟨c,g,.inr B⟩
  ·exact(g.2 b TJ).trans QD
  ·obtain⟨sl,t⟩:=I.base.slot b o e n U F
   exact⟨sl,(g.2 b TJ).trans t⟩
  ·obtain⟨o',t⟩:=I.base.there b o e F
   exact⟨o',(g.2 b TJ).trans t⟩
  ·by_cases hj:j=i
   ·subst hj;rw[hi]at t;cases t;rw[ZU N]at J;cases J;exact⟨u,r,.inr ⟨.inl L,c,B,hc'⟩⟩
   ·rw[Zr (Ne.symm hj)]at J;obtain⟨u',r',q⟩:=hl j y v' t J e3;refine⟨u',r',?_⟩;rcases q with q|⟨k,c',e,z'⟩
    ·exact .inl q
    ·refine .inr ⟨k,c',e,z'.sameBut g ?_⟩;rintro rfl;exact hj (Jij hN t (I.ok.inj _ _ _ e B▸hi))
  ·by_cases hcc:c'=c
   ·subst hcc;exact⟨_,hc'⟩
   ·obtain⟨w2,z2⟩:=I.cell y c' e;exact⟨w2,z2.sameBut g hcc⟩
  ·obtain⟨e,n,ne,nf,d⟩:=I.pin p hp
   refine⟨(g.2 p.1 ?_).trans e,n,ne,nf,d⟩;intro q;rw[q,hoc]at e;have q':oc=p.2:=yD e;exact d w' (by rw[<-q'];exact hocd)
def yL{Q:C8}(I:AH)(m:Ex)(hi:X.N[i]? =So x)(j:GJ)(r:Em)
  (h:∀g,Inv X Y Xi H g->Q () g) (q:LW):wpAny M A PB Q E s:=
 JgB I m hi j r (λg l _=>h g l) q
def Inv.call'{g:Ak}(I:AH)(ho:g.os=s.os)(u:Un G3 ch H W Re YB)(l:HOk Xn X.w W YB)(m:AllBare g.gens)
  (j:∀b∈ch,L3/\b≠AD/\(∀x c,X.env.cells.lookup x=So c->c≠b)/\∀p∈X.pn++Y,p.1≠b):Inv X Y Z W g:=by obtain⟨h',g',d',t',q⟩:=g;have e:q=s.os:=ho;subst e;exact I.call (g':=g') (t':=t') (d':=d') u l m j
end
noncomputable abbrev XK:=Value->Option Addr->Hp->Prop
noncomputable abbrev St:=List (Option V)
variable{Z:St}
noncomputable abbrev VK:=V->Hp->Prop
noncomputable abbrev TE:=St->Hp->VK->Prop
variable{ta te:TE}
noncomputable abbrev TT:=St->Hp->L9->Prop
noncomputable abbrev TA:=St->Hp->(List V->Hp->Prop)->Prop
structure Ends where
 nx:St->Hp->Prop
 rt:VK
 bk:St->Hp->Prop:=λ_ _=>False
 ct:St->Hp->Prop:=λ_ _=>False
variable{t:TA}
noncomputable abbrev TS:=Ends->St->Hp->Prop
inductive EP(X:Cx)(pins:AV)(σ:St)(Q:VK)(u:Al)(s':Ak):Prop where
 |mk (v:V) (H':Hp) (I:Inv X pins σ H' s') (r:RelV v u) (q:Q v H'):EP X pins σ Q u s'
inductive TP(X:Cx)(pins:AV)(σ:St)(Q:D3)(b:Bool)(s':Ak):Prop where
 |mk (H':Hp) (I:Inv X pins σ H' s') (q:Q b H'):TP X pins σ Q b s'
inductive AP(X:Cx)(pins:AV)(σ:St)(Q:List V->Hp->Prop)(us:AF)(s':Ak):Prop where
 |mk (vs:List V) (H':Hp) (I:Inv X pins σ H' s') (r:Vals vs us) (q:Q vs H'):AP X pins σ Q us s'
inductive NP(X:Cx)(pins:AV)(nx:St->Hp->Prop)(s':Ak):Prop where
 |mk (σ':St) (H':Hp) (I:Inv X pins σ' H' s') (q:nx σ' H'):NP X pins nx s'
inductive RP(X:Cx)(pins:AV)(rt:VK)(u:Al)(s':Ak):Prop where
 |mk (v:V) (σ':St) (H':Hp) (I:Inv X pins σ' H' s') (r:RelV v u) (q:rt v H'):RP X pins rt u s'
def SP(X:Cx)(Y:AV)(D:Ends)(f:Flow)(g:Ak):Prop:=
 match f with
 |.next=>NP X Y D.nx g
 |.brk=>NP X Y D.bk g
 |.cont=>NP X Y D.ct g
 |.ret u=>RP X Y D.rt u g
def PE(X:Cx)(e:Expr)(t:TE):Prop:=
 ∀(Y:AV)(s:Ak)(Z:St)(H:Hp)(Q:VK),Inv X Y Z H s->t Z H Q->wpAny As X.A Mg BI X.xe s
def PT(X:Cx)(e:Expr)(t:TT):Prop:=
 ∀(Y:AV)(s:Ak)(Z:St)(H:Hp)(Q:D3),Inv X Y Z H s->t Z H Q->wpAny As X.A (isTrue e QL Mg) LK X.xe s
def PW(X:Cx)(e:Expr)(t:TT):Prop:=
 ∀(g:Sem Value)(Y:AV)(s:Ak)(Z:St)(H:Hp)(Q:D3),Inv X Y Z H s->t Z H Q->wpAny As X.A (isTrue e QL g) LK X.xe s
def PW.pt{t:TT}(h:PW X e t):PT X e t:=h _
def PA(X:Cx)(es:Cy)(t:TA):Prop:=
 ∀(pos:Pos)(Y:AV)(s:Ak)(Z:St)(H:Hp)(Q:List V->Hp->Prop),Inv X Y Z H s->t Z H Q->wpAny As X.A (spliced (backTo pos KJ)) (AP X Y Z Q) X.xe s
def PS(X:Cx)(st:Stmt)(t:TS):Prop:=
 ∀(Y:AV)(s:Ak)(Z:St)(H:Hp)(D:Ends),Inv X Y Z H s->t D Z H->wpAny As X.A (exec st QL) Lg X.xe s
def PSs(X:Cx)(st:BH)(t:TS):Prop:=
 ∀(Y:AV)(s:Ak)(Z:St)(H:Hp)(D:Ends),Inv X Y Z H s->t D Z H->wpAny As X.A (execs st QL) Lg X.xe s
def thn{g:Type}{t:Sem g}{Q j:g->Shared->Prop}(h:wpAny M A t Q E s)(l:∀a s,Q a s->j a s):wpAny M A t j E s:=ZL h l λ_ _ x=>x
section
def tVar(i:Nat):TE:=λZ H Q=>∃v,Z[i]? =So Bj/\Q v H
def tC(v:V):TE:=λ_ H Q=>Q v H
def nE(B:X.N[i]? =So x)(J:Vis Cs x)(y:DH)(hcd:'б' Fg Ek):PE X B0 (tVar i):=by
 intro Y s Z H Q I h;obtain⟨v,e,h⟩:=h;obtain⟨m,F,L⟩:=XG;obtain⟨u,r,l⟩:=L i x v B e J;have q:EP X Y Z Q u s:=QO;rcases l with⟨j,G⟩|⟨j,c,z,g⟩
 ·exact wpAny_Name (wpAny_loadName_local XU j F G q) y
 ·rcases j with j|j
  ·exact wpAny_Name (wpAny_loadName_cell XU j z g q) y
  ·exact wpAny_Name (wpAny_loadName_free XU j z g q hcd) y
def JvW{i j pos}:PE X P8 (tC AY):=λ_ _ _ H _ I h=>wpAny_Constant_int ⟨.int i,H,I.tok _,AJ,h⟩
def pe_bl{b j pos}:PE X (.Constant (.bool b) j pos) (tC E8):=λ_ _ _ H _ I h=>Constant_bool ⟨.bl b,H,I,rfl,h⟩
def JuY{j pos}:PE X Qq (tC .non):=λ_ _ _ H _ I h=>Constant_none ⟨.non,H,I,rfl,h⟩
def JpJ{x j pos}:PE X P7 (tC CB):=λ_ _ _ H _ I h=>Calls.Constant_str ⟨.str x,H,I.tok _,AJ,h⟩
def Gl(X:Cx)(x:Str):Prop:=X.env.kindOf x=So .globalImplicit
def xG{Q:Au}(I:AH)(g:Dc)(l:X.mg x=So u)(h:Q u s)
  (j:DH):wpAny As X.A (eval B0 QL) Q E s:=
 Calls.Name_function_global XU g (Calls.loadGlobal_global (by rw[I.ok.glob];exact I.mod.glob.keeps I.bk) l h) j
def iL{Q:Au}(I:AH)(g:Dc)(m:X.mg x=No)(j:bootBuiltins x=So u)(h:Q u s)
  (l:'б' (x≠"__name__") Ek) (hd:DH):wpAny As X.A (eval B0 QL) Q E s:=by obtain⟨y,q,r⟩:=I.mod.blt;exact Calls.Name_function_global XU g (Calls.loadGlobal_builtin (by rw[I.ok.glob];exact I.mod.glob.keeps I.bk) m (by rw[I.ok.blt];exact q.keeps I.bk) ((r x l).trans j) h) hd
def JlF(g:Dc)(j:X.mg x=So u)(r:Em)(l:DH):PE X B0 (tC v):=
 λ_ _ _ H _ I h=>xG I g j QO l
def Jlq(g:Dc)(m:X.mg x=No)(j:bootBuiltins x=So u)(r:Em)(l:'б' (x≠"__name__") Ek)(hd:DH):PE X B0 (tC v):=
 λ_ _ _ H _ I h=>iL I g m j QO l hd
noncomputable def t2I (ta tb:TE) (k:Int->Int->Hp->Prop):St->Hp->Prop:=λZ H=>ta Z H λx l=>tb Z l λy g=>∃i j,x=.int i/\y=.int j/\k i j g
variable{a b:Expr}{tb:TE}
def PC(X:Cx)(op:aX)(a b:Expr)(t:TE):Prop:=
 ∀(Y:AV)(s:Ak)(Z:St)(H:Hp)(Q:VK),Inv X Y Z H s->t Z H Q->
  wpAny As X.A CH (λv g=>wpAny As X.A (eval b QL) (λu j=>wpAny As X.A (compareOp op v u) BI X.xe j) X.xe g) X.xe s
def JiQ(b:Expr)(h:op≠.In)(l:op≠.NotIn):behindInMarks op b=Fo:=by
 have j:(op==CmpOp.In)=Fo:=by cases op<;>first|rfl|exact absurd rfl h
 have g:(op==CmpOp.NotIn)=Fo:=by cases op<;>first|rfl|exact absurd rfl l
 cases b<;>first|rfl|(show(_&&(_||_)&&_)=Fo;rw[j,g,jH,Bool.and_false,uB])
def tCmp(p:Int->Int->Bool)(ta tb:TE):TE:=λZ H Q=>t2I ta tb (λi j g=>Q (.bl (p i j)) g) Z H
noncomputable abbrev tLt:TE->TE->TE:=tCmp λi j=>decide (i<j)
noncomputable abbrev tGt:TE->TE->TE:=tCmp λi j=>decide (j<i)
def tIsN(ta:TE):TE:=λZ H Q=>ta Z H λx g=>Q (.bl (decide (x=.non))) g
def RelV.none_iff{x:V}{v:Al}(r:RelV x v):(v==Xq)=decide (x=.non):=by
 cases x with
 |non=>cases r;exact(ZH rfl).symm
 |_=>rw[Zx nofun];first|(cases r;rfl)|(obtain⟨t,rfl⟩:=r;rfl)
def Jum{j pos'}(ha:CD):PC X .Is a (.Constant .none j pos') (tIsN ta):=by intro Y s Z H Q I h;refine thn Dt λv y g=>?_;obtain⟨x,r,m,l,q⟩:=g;exact Constant_none (is_none_gen ⟨.bl _,r,m,by rw[l.none_iff];rfl,q⟩)
def tB(t:TE):TT:=λZ H Q=>t Z H λx g=>∃c,x=.bl c/\Q c g
def JvI{t:TE}(h:PC X op a b t)(h1:FQ:=by first|exact JiQ _ A9 A9|rfl):PE X FP t:=λY s Z H Q I g=>wpAny_Compare1 Qab h1
def tU{t:TE}(h:PC X op a b t)(h1:FQ:=by first|exact JiQ _ A9 A9|rfl):PT X FP (tB t):=by intro Y s Z H Q I j;refine wpAny_isTrue_Compare1 (thn (h Y s Z H _ I j) λv z h1=>thn h1 λu B y=>thn y λc F⟨x,m,r,g,l⟩=>?_) h1;obtain⟨d,rfl,q⟩:=l;cases g;exact yE ⟨m,r,q⟩
variable{tA tB':TT}{rest:Cy}
def tOr(t u:TT):TT:=λZ H Q=>t Z H λc g=>if c=To then Q To g else u Z g Q
def tNot(t:TT):TT:=λZ H Q=>t Z H λc g=>Q (!c) g
def JlO(g:Z3):PW X (.BoolOp .And [a] pos) tA:=by
 intro l Y s Z H Q I h;refine isTrue_and (thn (g Y s Z H Q I h) λc j e=>?_);cases c with
 |true=>exact isTrue_and_nil e
 |false=>exact e
def Jqv(g:Z3):PW X (.BoolOp .Or [a] pos) tA:=by
 intro l Y s Z H Q I h;refine isTrue_or (thn (g Y s Z H Q I h) λc j e=>?_);cases c with
 |false=>exact isTrue_or_nil e
 |true=>exact e
def Jto(ha:Z3)(r:PW X (.BoolOp .Or (b::rest) pos) tB'):PW X (.BoolOp .Or (a::b::rest) pos) (tOr tA tB'):=by
 intro y Y s Z H Q I h;refine isTrue_or (thn Dt λc q g=>?_);obtain⟨m,j,l⟩:=g;cases c with
 |true=>exact⟨m,j,l⟩
 |false=>exact r y Y q Z m Q j l
def Jvc(l:Z3):PT X MZ (tNot tA):=by intro Y s Z H Q I h;exact isTrue_not (thn (l Y s Z H (λc g=>Q (!c) g) I h) λc m⟨g,j,q⟩=>⟨g,j,q⟩)
def tAndV(ta tb:TE):TE:=λZ H Q=>ta Z H λx g=>∃c,x=.bl c/\if c=To then tb Z g Q else Q CO g
def tNotV(ta:TE):TE:=λZ H Q=>ta Z H λx g=>∃c,x=.bl c/\Q (.bl (!c)) g
def Jvp{op}{t:TE}(h:PE X a t):PE X MU t:=λY s Z H Q I g=>BoolOp_one Qab
def Juu(ha:CD)(y:PE X (.BoolOp .And (b::rest) pos) tb):PE X (.BoolOp .And (a::b::rest) pos) (tAndV ta tb):=by
 intro Y s Z H Q I h;refine BoolOp_and (thn Dt λv q j=>?_);obtain⟨x,l,m,r,g⟩:=j;obtain⟨c,rfl,g⟩:=g;cases r;refine yE ?_;cases c with
 |true=>exact y Y q Z l Q m g
 |false=>exact⟨.bl Fo,l,m,rfl,g⟩
def Juv(ha:CD):PE X MZ (tNotV ta):=by intro Y s Z H Q I h;refine UnaryOp_ (thn Dt λv r j=>?_);obtain⟨x,m,q,l,g⟩:=j;obtain⟨c,rfl,g⟩:=g;cases l;exact not_of (yE ⟨.bl (!c),m,q,rfl,g⟩)
def tIf(t:TT)(ta tb:TE):TE:=λZ H Q=>t Z H λc g=>if c=To then ta Z g Q else tb Z g Q
def JiE(r:PT X c tA)(z:CD)(y:Fq):PE X Og (tIf tA ta tb):=by
 intro Y s Z H Q I h;refine wpAny_IfExp (thn (r Y s Z H _ I h) λd j g=>?_);obtain⟨q,m,l⟩:=g;cases d with
 |true=>exact z Y j Z q Q m l
 |false=>exact y Y j Z q Q m l
end
def SqL(K:Aj)(H:Hp)(a:Addr)(xs:Av):Prop:=
 Rd H a AK\/
  ∃(o:Obj)(g:B7)(n:Nat),K.lookup a=So o/\o.cls=.type "list"/\o.dict=No/\o.data=.seq g n/\g.size<=sizeLine/\Vals xs g.toList
def ModT(K:Aj)(y:Str)(a:Addr):Prop:=PySem.W.nsIn K mainGlobals y=So (So Ax)\/
 ∃(b:Addr)(o:Obj)(g:B7)(n:Nat),PySem.W.nsIn K mainGlobals y=So (So Eu)/\K.lookup b=So o/\o.cls=.type "tuple"/\o.data=.seq g n/\Value.ref a∈g.toList
def SqT(K:Aj)(H:Hp)(a:Addr)(xs:Av):Prop:=
 H a=So Bl\/
  ∃(y:Str)(o:Obj)(g:B7)(n:Nat),ModT K y a/\K.lookup a=So o/\o.cls=.type "tuple"/\o.dict=No/\o.data=.seq g n/\g.size<=sizeLine/\Vals xs g.toList
noncomputable def absV:Value->Option V
 |.none=>So .non
 |.bool b=>So E8
 |.int i _=>So AY
 |.str x _=>So CB
 |.bytes b _=>So (.byt b)
 |.float b _=>So (.flt b)
 |.ref a=>So Ax
 |.type n=>So (.ty n)
 |_=>No
def RelV.abs{x:V}(r:RelV x u):absV u=So x:=by
 cases x with
 |non=>cases r;rfl
 |bl _=>cases r;rfl
 |int _=>obtain⟨t,rfl⟩:=r;rfl
 |str _=>obtain⟨t,rfl⟩:=r;rfl
 |byt _=>obtain⟨t,rfl⟩:=r;rfl
 |flt _=>obtain⟨t,rfl⟩:=r;rfl
 |ref _=>cases r;rfl
 |ty _=>cases r;rfl
def RelV.inj{x y:V}{u:Al}(r:RelV x u)(q:DN):x=y:=yD (r.abs.symm.trans q.abs)
def Vals.inj:∀{xs ys:Av}{us:AF},Vals xs us->Vals ys us->xs=ys
 |_,_,_,.nil,.nil=>rfl
 |_,_,_,.cons r t,.cons r' t'=>by rw[r.inj r',Vals.inj t t']
section
variable{xs ys:Av}
def SqL.of(h:H a=So AK):SqL K H a xs:=.inl QcU
def SqT.of(h:H a=So Bl):SqT K H a xs:=.inl h
theorem Inv.list(I:AH)(h:Ie):∃its:List Value,Vals xs its/\PlainL Re a AU/\xs.length<=sizeLine:=by
 rcases h with h|⟨o,its,n,j,g,m,l,q,r⟩
 ·obtain⟨z,its,n,r,e⟩:=h.ok Xy;exact⟨its,r,⟨_,n,e,rfl,rfl,rfl⟩,z⟩
 ·refine⟨Qbs,r,⟨o,n,I.kIn a o j,g,m,by simpa using l⟩,?_⟩;have e:=Xz;simp only[ZT]at e;lia
theorem Inv.tuple(I:AH)(h:Ic):∃its:List Value,Vals xs its/\IsTup Re a AU/\xs.length<=sizeLine:=by
 rcases h with h|⟨_,o,its,n,_,j,g,_,l,m,r⟩
 ·obtain⟨⟨z,_⟩,its,r,p⟩:=I.hok a _ h;exact Qd5
 ·refine⟨Qbs,r,⟨o,I.kIn a o j,g,n,by simpa using l⟩,?_⟩;have e:=Xz;simp only[ZT]at e;lia
theorem Inv.tupleD(I:AH)(h:Ic):∃(its:AF)(o:Obj)(n:Nat),Vals xs its/\s.heap.get? a=So o/\o.cls=.type "tuple"/\o.dict=No/\o.data=.seq AU n/\xs.length<=sizeLine:=by
 rcases h with h|⟨_,o,its,n,_,q,g,l,j,y,r⟩
 ·obtain⟨⟨z,m⟩,its,r,o,e,c,n,d⟩:=I.hok a _ h;exact⟨its,o,n,r,e,c,m _ e,d,z⟩
 ·refine⟨Qbs,o,n,r,I.kIn a o q,g,l,by simpa using j,?_⟩;have e:=Xz;simp only[ZT]at e;lia
def Inv.list_inj(I:AH)(h:Ie)(h':SqL X.K H a ys):xs=ys:=by
 obtain⟨j,r,⟨o,n,e,_,_,d⟩,_⟩:=I.list h;obtain⟨g,q,⟨B,z,m,_,_,l⟩,_⟩:=I.list h';rw[e]at m;cases m;rw[d]at l;injection l with y _;have:j=g:=by simpa using lA Array.toList y
 subst this;exact r.inj q
def Inv.tuple_inj(I:AH)(h:Ic)(h':SqT X.K H a ys):xs=ys:=by
 obtain⟨j,r,⟨o,e,_,n,d⟩,_⟩:=I.tuple h;obtain⟨g,q,⟨B,m,_,z,l⟩,_⟩:=I.tuple h';rw[e]at m;cases m;rw[d]at l;injection l with y _;have:j=g:=by simpa using lA Array.toList y
 subst this;exact r.inj q
end
section
variable{st:Stmt}{rest:BH}{t u:TS}
def tNext:TS:=λD Z H=>D.nx Z H
def tSeq(t u:TS):TS:=λD Z H=>t {D with nx:=u D} Z H
def Jtd:PSs X [] tNext:=λ_ _ Z H _ I h=>wpAny_execs_nil ⟨Z,H,I,h⟩
def JK(h1:Qdd)(m:PSs X rest u):PSs X (st::rest) (tSeq t u):=by
 intro Y s Z H D I h;refine wpAny_execs_cons (thn (h1 Y s Z H {D with nx:=u D} I h) λf j q=>?_);cases f with
 |next=>obtain⟨g,W,l,q⟩:=q;exact m Y j g W D l q
 |ret v=>exact q
 |brk=>exact q
 |cont=>exact q
def qI(h1:Qdd):PSs X [st] t:=by
 intro Y s Z H D I h;refine wpAny_execs_cons (thn (h1 Y s Z H D I h) λf g q=>?_);cases f with
 |next=>exact wpAny_execs_nil q
 |ret v=>exact q
 |brk=>exact q
 |cont=>exact q
def Inv.quiet(I:AH):interactive QL=Fo:=by simp[interactive,I.ok.kind]
def tDrop(te:TE):TS:=λD Z H=>te Z H λ_ g=>D.nx Z g
def sQ(he:Ew)(j:'б' (swapsWith e No Xt QL=pure Fo) Ah):PS X Qdv (tDrop te):=by intro Y s Z H D I h;exact wpAny_Expr_any (thn ES λv q⟨x,m,g,r,l⟩=>⟨Z,m,g,l⟩) I.quiet j
def tRet(te:TE):TS:=λD Z H=>te Z H D.rt
def lE(he:Ew):PS X KL (tRet te):=by intro Y s Z H D I h;exact wpAny_Return_some (thn ES λv q⟨x,m,j,g,l⟩=>⟨x,Z,m,j,g,l⟩)
def tIfS(c:TT)(t u:TS):TS:=λD Z H=>c Z H λb g=>if b=To then t D Z g else u D Z g
def Jvd{a b:BH}{r:TT}(y:PT X c r)(B:PSs X a t)(z:PSs X b u):PS X (.If c a b pos) (tIfS r t u):=by
 intro Y s Z H D I h;refine wpAny_If (thn (y Y s Z H _ I h) λd j g=>?_);obtain⟨m,q,l⟩:=g;cases d with
 |true=>exact B Y j Z m D q l
 |false=>exact z Y j Z m D q l
end
noncomputable abbrev TG:=V->St->Hp->(St->Hp->Prop)->Prop
noncomputable abbrev TGs:=List V->St->Hp->(St->Hp->Prop)->Prop
def PG(X:Cx)(g:Expr)(t:TG):Prop:=
 ∀(Y:AV)(s:Ak)(Z:St)(H:Hp)(v:V)(u:Al)(Q:St->Hp->Prop),Inv X Y Z H s->RelV v u->t v Z H Q->
  wpAny As X.A (assign g QL u) Py X.xe s
def PGs(X:Cx)(j:Cy)(t:TGs):Prop:=
 ∀(Y:AV)(s:Ak)(Z:St)(H:Hp)(vs:Av)(us:AF)(Q:St->Hp->Prop),Inv X Y Z H s->Vals vs us->t vs Z H Q->
  wpAny As X.A (assignInOrder ((assignEach j QL).map (·.2)) us) (λ_ g=>NP X Y Q g) X.xe s
def Jgw(i:Nat):TG:=λv Z H Q=>Q Xi H
def zI(g:Ex)(hi:X.N[i]? =So x)(m:GJ)(j:LW):PG X B0 Ej:=by intro Y s Z H v u Q I r h;exact wpAny_assign_Name (yL I g hi m r (λq l=>⟨_,H,l,h⟩) j)
def gNil:TGs:=λvs Z H Q=>vs=[]/\Q Z H
def gCons(t:TG)(u:TGs):TGs:=λvs Z H Q=>∃v r,vs=v::r/\t v Z H λg W=>u r g W Q
def Jme:PGs X [] gNil:=by intro Y s Z H vs us Q I r h;obtain⟨e,h⟩:=h;subst e;cases r;exact assignInOrder_nil ⟨Z,H,I,h⟩
def mR{t:TG}{u:TGs}(h1:PG X e t)(G:PGs X es u)
  (m:'б' ((assignEach E2 QL).map (·.2)=assign e QL::'ι'.map (·.2)) Ah):PGs X E2 (gCons t u):=by
 intro Y s Z H vs us Q I r h;obtain⟨v,J,F,h⟩:=h;subst F;cases r with
 |cons r B=>rw[m];refine assignInOrder_cons (thn (h1 Y s Z H _ _ _ I r h) λ_ l g=>?_);obtain⟨j,y,z,q⟩:=g;exact G Y l j y _ _ Q z B q
def gTup(K:Aj)(n:Nat)(t:TGs):TG:=λv Z H Q=>∃a g,v=.ref a/\SqT K H a g/\g.length=n/\t g Z H Q
def JqF{t:TGs}{n:Nat}(l:BZ)(h:PGs X es t)
  (F:'б' ('ι'.length=n) Ah) (hst:'б' ('ι'.findIdx? (·.1)=No) Ah):PG X Qac (gTup X.K n t):=by intro Y s Z H v u Q I r g;obtain⟨a,y,L,J,G,g⟩:=g;subst L;cases r;obtain⟨q,j,m,N⟩:=I.tuple J;refine assign_Tuple_tuple (I.ok.hd l) m (by simp[F,<-G,j.length]) hst λh' B=>?_;have z:Inv X Y Z H {s with heap:=h'}:=I.kept (t':=Xl) λb o e=>B b o Lv e;exact h Y _ Z H y _ Q z (by simpa using j) g
def tAsg(te:TE)(g:TG):TS:=λD Z H=>te Z H λx j=>g x Z j D.nx
def Jqy{g:TG}(he:Ew)(z:PG X tg g)(m:'б' (swapsWithSole [tg] e Xt QL=pure Fo) Ah)(hw:'б' (swappedStores [tg] e QL=pure No) Ah)
  (h1:'б' ('丙'.map (·.2)=[assign tg QL]) Ah):PS X O0 (tAsg te g):=by intro Y s Z H D I h;refine wpAny_Assign_stores (thn ES λv j⟨x,y,B,l,r⟩=>?_) m hw;rw[h1];exact thn (z Y j Z y x v _ B l r) λ_ F q=>q
def pG{g:Pos}(l:Ex)(hi:X.N[i]? =So x)(F:GJ)(he:Ew)(m:'б' (swapsWith e (So (.Name x g)) Xt QL=pure Fo) Ah)(hf:LW):
  PS X (.Assign [.Name x g] e pos) (tAsg te Ej):=by intro Y s Z H D I h;refine wpAny_Assign_Name (thn ES λv G⟨y,r,z,j,q⟩=>?_) m;exact yL z l hi F j (λJ B=>⟨_,r,B,q⟩) hf
def tPar(i j:Nat)(ta:TA):TS:=λD Z H=>ta Z H λvs g=>∃v w,vs=[v,w]/\D.nx ('ǽ'.set j (So w)) g
def Jqo{j:Nat}{y:Str}{a b:Expr}{ta:TA}{G J pt:Pos}{kt k2 pt2}(hc:BZ)(L:Ex)(hi:X.N[i]? =So x)(hj:X.N[j]? =So y)(F:i≠j)
  (O:X.env.scope.names.lookup x=So .local) (U:X.env.scope.names.lookup y=So .local) (ha:PA X [a,b] ta)
  (hw:swappedStores TH MY QL=pure Lf)
  (hs:'б' (swapsWithSole TH MY Xt QL=pure Fo) Ah):
  PS X (.Assign TH MY pos) (tPar i j ta):=by
 intro Y s Z H D I h;rw[exec_Assign_arm];refine Za (wpAny_standAt ?_);rw[hs];refine Za (Zb ?_);rw[if_neg 'E'];refine Za (Tuple_ (thn (ha _ Y s Z H _ I h) λus s1 B=>?_));obtain⟨vs,N,I1,r1,z⟩:=B;obtain⟨v,w,e1,z⟩:=z;subst e1;obtain⟨l,g,rfl,rv,r⟩:∃l g,us=[l,g]/\RelV v l/\RelV w g:=by
  cases r1 with
  |cons p q=>
   cases q with
   |cons p' q'=>cases q';exact⟨_,_,rfl,p,p'⟩
 refine ZE ?_ (by show 2<=sizeLine;decide);have I2:Inv X Y Z N {s1 with heap:=s1.heap.push {cls:=.type "tuple",data:=.seq [l,g].toArray}}:=I1.kept (t':=XT) λb o e=>Zc _ e;rw[hw];refine Za (Zb ?_);show wpAny As X.A (do rule "assign.swapped-stores";let items<-unpackItems (.ref AB) 2 No;assignInOrder Wr items.reverse;pure Flow.next) _ _ _;refine Za (qB (Za (unpackItems_tuple (items:=#[l,g]) Kf (IsTup.new s1.heap _) λh' m=>?_)));have I3:=I2.kept (h':=h') (t':=XT) λb o e=>m b o Lv e;show wpAny _ _ (assignInOrder Wr [g,l]>>=λ_=>pure Flow.next) _ _ _;refine Za (assignInOrder_cons (wpAny_bindName (yL I3 L hj (.inl U) r (λs2 I4=>?_) (.inr U))));refine assignInOrder_cons (wpAny_bindName (yL I4 L hi (.inl O) rv (λs3 I5=>assignInOrder_nil (Zb ?_)) (.inr O)));rw[List.set_comm _ _ (Ne.symm F)]at I5;exact⟨_,N,I5,z⟩
structure It where
 go:Nat->Hp->Prop
 yld:Nat->Hp->V->Hp->Prop
 stop:Nat->Hp->Prop
def FpOk(X:Cx)(Y:AV)(H:Hp)(b:Addr):Prop:=
 H b=No/\b≠AD/\b∉X.fs/\L3/\(∀x c,X.env.cells.lookup x=So c->c≠b)/\∀p∈X.pn++Y,p.1≠b
def Inv.fpOk(I:AH)(g:Aa<=b)(j:W b=No):FpOk X Y W b:=by
 refine⟨j,nC (Zt I.lt g),I.nofs g,.inr (ZA I.sz g),λx c e z=>?_,λp l z=>?_⟩
 ·obtain⟨v,q⟩:=I.cell x c e;exact absurd (Zt q.lt (by rw[z];exact g)) Cq
 ·exact absurd (Zt (Zh (I.pin p l).1) (by rw[z];exact g)) Cq
structure Turn(P:Be)(w:A0)(K:Aj)(tg:Expr)(J9:It)(fp:A1)(it:Addr)(tn:Ff):Prop where
 mem:it∈fp
 obj:∀i h,tn i h->∀b∈fp,∃o,h.get? b=So o/\∀v,o.data≠.cell v
 keep:∀i h h',tn i h->(∀b∈fp,∀o,h.get? b=So o->h'.get? b=So o)->tn i h'
 item:∀(X:Cx),Xn=P->X.w=w->X.K=K->X.calm=To->∀(i:Nat)(Y:AV)(s:Ak)(Z:St)(H:Hp)(E:Au),Inv X Y Z H s->(∀b∈fp,FpOk X Y H b)->tn i s.heap->J9.go i H->
  wpAny Cf X.A Dm (λr s1=>∃u,r=So u/\
   wpAny Cf X.A Uo (λ_ s2=>∃x W,Inv X Y Z W s2/\RelV x u/\J9.yld i H x W/\tn Bq aF/\∀b∈fp,W b=No) E s1) E s
 done:∀(X:Cx),Xn=P->X.w=w->X.K=K->X.calm=To->∀(i:Nat)(Y:AV)(s:Ak)(Z:St)(H:Hp)(E:Au),Inv X Y Z H s->(∀b∈fp,FpOk X Y H b)->tn i s.heap->J9.stop i H->
  wpAny Cf X.A Dm (λr s1=>r=No/\Inv X Y Z H s1) E s
 self:∀(A:Bd)(i:Nat)(s:Ak)(Q:Au)(E:Au),tn i s.heap->Q B6 s->wpAny Cf A (pyIter B6) Q E s
noncomputable abbrev TI:=St->Hp->(It->Hp->Prop)->Prop
def PIE(X:Cx)(Y:AV)(Z:St)(tg:Expr)(R:It->Hp->Prop)(g:Al)(j:Ak):Prop:=
 ∃(l:Addr)(fp:A1)(m:Ff)(q:It)(W:Hp),g=.ref l/\Inv X Y Z W j/\Turn Xn X.w X.K tg q fp l m/\m 0 j.heap/\(∀b∈fp,FpOk X Y W b)/\R q W
def PI(X:Cx)(tg g:Expr)(l:TI):Prop:=
 ∀(Y:AV)(s:Ak)(Z:St)(H:Hp)(R:It->Hp->Prop),Inv X Y Z H s->l Z H R->
  wpAny As X.A (eval g QL) (λv j=>wpAny As X.A (pyIter v) Qa2 X.xe j) X.xe s
def dP{it:Addr}{o:Obj}{n:Ba}{vs:B7}{Q:C8}(ho:s.heap.get? it=So o)(j:o.cls=.type n)(m:o.data=.fields vs)
  (l:["enumerate","zip","dict_itemiterator","dict_reverseitemiterator","odict_iterator","itertools.zip_longest","itertools.pairwise"].contains n=Fo) (g:Q () s):wpAny M A Uo Q E s:=by
 unfold letOwnedTupleGo;cases tg<;>first
  |exact Zb g
  |(cases u<;>first
    |exact Zb g
    |(refine Za (wpAny_load ho ?_);rw[j,m];show wpAny M A (if(["enumerate","zip","dict_itemiterator","dict_reverseitemiterator","odict_iterator","itertools.zip_longest","itertools.pairwise"].contains n&&vs[0]? ==So (rawInt _))=To then _ else _) Q E s;rw[if_neg (by intro h;rw[l,uB]at h;cases h)];exact Zb g))
noncomputable def Itl (K:Aj) (a:Addr):It:=
 ⟨λi H=>∃g x,SqL K H a g/\g[i]? =So x,λi H x W=>W=H/\∀g,SqL K H a g->g[i]? =So x,λi H=>∃g,SqL K H a g/\g.length<=i⟩
noncomputable def Itt (K:Aj) (a:Addr):It:=
 ⟨λi H=>∃g x,SqT K H a g/\g[i]? =So x,λi H x W=>W=H/\∀g,SqT K H a g->g[i]? =So x,λi H=>∃g,SqT K H a g/\g.length<=i⟩
noncomputable def Itr (lo:Int) (n:Nat):It:=⟨λi _=>i<n,λi H x W=>W=H/\x=.int (lo+i),λi _=>n<=i⟩
def JgM(a it:Addr):Turn P w K tg QaL [it] it (λi h=>h.IsListIter it a i)where
 mem:=by simp
 obj:=λi h g b j=>by
  have e:b=it:=by simpa using j
  subst e
  obtain⟨o,e,c,d⟩:=g
  exact⟨o,e,λv z=>by rw[d]at z;cases z⟩
 keep:=λi h h' g k=>g.at λo e=>k it Af o e
 item:=by
  intro X O N y hc i Y s Z H E I m g U;subst O N y;obtain⟨xs,x,q,G⟩:=U;obtain⟨B,rv,p,hz⟩:=I.list q;obtain⟨u,hu,ru⟩:=rv.get G;obtain⟨L,r,f2,f3,J,F⟩:=m it Af;refine wpAny_pyNext_list_item g Yj (x:=u) (by simpa using hu) λh' l sb=>?_;have I1:Inv X Y Z H {s with heap:=h'}:=I.turned (t':=Xl) (λb o j e=>(sb.2 b j).trans e) L r f3 J F;obtain⟨o,e,c,d⟩:=id l;exact⟨u,rfl,dP (s:={s with heap:=h'}) e c d A9 ⟨x,H,I1,ru,⟨rfl,λys hy=>by rw[I.list_inj hy q];exact G⟩,l,λb j=>(m b j).1⟩⟩
 done:=by
  intro X O N y hc i Y s Z H E I m g U;subst O N y;obtain⟨xs,q,G⟩:=U;obtain⟨B,rv,p,hz⟩:=I.list q;obtain⟨L,r,f2,f3,J,F⟩:=m it Af;have hl:=Qdo;exact wpAny_pyNext_list_end Kf g Yj Gj λh' eb=>⟨rfl,I.turned (t':=Xl) Ta L r f3 J F⟩
 self:=λ_ _ _ _ _ g h=>wpAny_pyIter_listiter g h
def Jen(a it:Addr):Turn P w K tg QaM [it] it (λi h=>h.IsTupleIter it a i)where
 mem:=by simp
 obj:=λi h g b j=>by
  have e:b=it:=by simpa using j
  subst e
  obtain⟨o,e,c,d⟩:=g
  exact⟨o,e,λv z=>by rw[d]at z;cases z⟩
 keep:=λi h h' g k=>g.at λo e=>k it Af o e
 item:=by
  intro X N L y hc i Y s Z H E I m g O;subst N L y;obtain⟨xs,x,q,F⟩:=O;obtain⟨its,U,p,hz⟩:=I.tuple q;obtain⟨u,hu,ru⟩:=U.get F;obtain⟨J,r,f2,f3,G,B⟩:=m it Af;refine wpAny_pyNext_tuple_item g (show s.heap.IsTuple a AU from p) (x:=u) (by simpa using hu) λh' l sb=>?_;have I1:Inv X Y Z H {s with heap:=h'}:=I.turned (t':=Xl) (λb o j e=>(sb.2 b j).trans e) J r f3 G B;obtain⟨o,e,c,d⟩:=id l;exact⟨u,rfl,dP (s:={s with heap:=h'}) e c d A9 ⟨x,H,I1,ru,⟨rfl,λys hy=>by rw[I.tuple_inj hy q];exact F⟩,l,λb j=>(m b j).1⟩⟩
 done:=by
  intro X N L y hc i Y s Z H E I m g O;subst N L y;obtain⟨xs,q,F⟩:=O;obtain⟨its,U,p,hz⟩:=I.tuple q;obtain⟨J,r,f2,f3,G,B⟩:=m it Af;have hl:=U.length;exact wpAny_pyNext_tuple_end Kf g (show s.heap.IsTuple a its.toArray from p) Gj λh' eb=>⟨rfl,I.turned (t':=Xl) Ta J r f3 G B⟩
 self:=λ_ _ _ _ _ g h=>wpAny_pyIter_tupleiter g h
theorem JjG(it:Addr)(lo:Int)(n:Nat):Turn P w K tg bX [it] it (λi h=>IsRangeIter h it (lo+(i:Nat)*1) ((n:Int)-(i:Nat)) 1)where
 mem:=by simp
 obj:=λi h g b j=>by
  have e:b=it:=by simpa using j
  subst e
  exact⟨_,g,λv z=>by
   have z':Data.fields _=Data.cell v:=z
   cases z'⟩
 keep:=λi h h' g k=>k it Af _ g
 item:=by
  intro X L J y r i Y s Z H E I m g N;subst L J y;obtain⟨G,q,f2,O,F,B⟩:=m it Af;have W9:=Walks.range (prog:=Xn) (w:=X.w) (I.ok.hd r) it lo 1 n;refine W9.item i s _ _ N g λv h' U hv l kk=>?_;obtain⟨t,rfl⟩:=hv;have I1:Inv X Y Z H {s with heap:=h',toks:=U}:=I.turned (λb o j e=>kk b o (by simpa using j) e) G q O F B;refine⟨_,rfl,dP (s:={s with heap:=h',toks:=U}) (n:="range_iterator") l rfl rfl A9 ⟨.int (lo+i),H,I1,⟨t,?_⟩,Dr,l,λb j=>(m b j).1⟩⟩;rw[Int.mul_one]
 done:=by
  intro X L J y r i Y s Z H E I m g N;subst L J y;obtain⟨G,q,f2,O,F,B⟩:=m it Af;exact wpAny_pyNext_range_end (I.ok.hd r) g (by have:n<=i:=N;lia) λh' eb=>⟨rfl,I.turned (t':=Xl) Ta G q O F B⟩
 self:=λ_ _ _ _ _ g h=>wpAny_pyIter_rangeiter g h
theorem JoY{R:It->Hp->Prop}{lo hi:Int}{t u v:Tok}{tk:Nat}(I:AH)(h1:-(2^62)<=lo)(y:lo<2^62)(l:-(2^62)<=hi)(j:hi<2^62)
  (q:R (Itr lo (hi-lo).toNat) H):wpAny As X.A (pyIter E5) Qa2 E {s with heap:=s.heap.push {cls:=.type "range",data:=.fields #[.int lo t,.int hi u,.int 1 v]},toks:=tk}:=by
 refine wpAny_pyIter_range (IsRange.new ..) (small_one h1 y l j) ?_;have I1:Inv X Y Z H {s with heap:=s.heap.push {cls:=.type "range",data:=.fields #[.int lo t,.int hi u,.int 1 v]},toks:=tk}:=I.kept λb o e=>Zc _ e;refine⟨(s.heap.push {cls:=.type "range",data:=.fields #[.int lo t,.int hi u,.int 1 v]}).objs.size,[(s.heap.push {cls:=.type "range",data:=.fields #[.int lo t,.int hi u,.int 1 v]}).objs.size],_,_,H,rfl,
  I1.kept (t':=tk) λb o e=>Zc _ e,JjG _ lo (hi-lo).toNat,?_,λb m=>?_,q⟩
 ·have r:lo+((0:Nat):Int)*1=lo:=by simp
  have g:(((hi-lo).toNat:Nat):Int)-((0:Nat):Int)=Builtin.Range.rangeSize lo hi 1:=by rw[rangeSize_one];split<;>lia
  show IsRangeIter _ _ (lo+((0:Nat):Int)*1) ((((hi-lo).toNat:Nat):Int)-((0:Nat):Int)) 1;rw[r,g];exact Ze _ rfl
 ·have e:b=(s.heap.push {cls:=.type "range",data:=.fields #[.int lo t,.int hi u,.int 1 v]}).objs.size:=by simpa using m
  subst e;exact I1.fpOk (Zf _) D9
def iRng1 (ta:TA):TI:=λZ H R=>ta Z H λvs g=>∃j:Int,vs=[.int j]/\ -(2^62)<=j/\j<2^62/\R (Itr 0 j.toNat) g
def JfU{a:Expr}{ta:TA}(z:Gl X "range")(G:X.mg "range"=No)(F:PA X [a] ta)(m:'б' (starEach [a] QL=[NB]) Ah):PI X tg (.Call (.Name "range" p) [a] [] pos) (iRng1 ta):=by
 intro Y s Z H R I h;refine Call_ (iL I z G boot_range (kT (thn (F pos Y s Z H _ I h) λus L⟨vs,N,B,l,g⟩=>?_) m rfl));obtain⟨j,e,g,y,q⟩:=g;subst e;cases l with
 |cons r J=>cases J;obtain⟨t,rfl⟩:=r;exact call_range_1 (JoY B Ad Ad g y (by simpa using q))
def tFor(z:TI)(g:TG)(B:TS):TS:=λD Z H=>z Z H λq G=>∃l:Nat->Nat->St->Hp->Prop,(∃m,l 0 m Z G)/\∀i m Z H,l i m Z H->
 (q.stop i H/\D.nx Z H)\/(q.go i H/\∃N:St->Hp->Prop,(∀j W,N j W->∃y,y<m/\l Bq y j W)/\∀x W,q.yld i H x W->g x Z W λr F=>B {D with nx:=N,ct:=N,bk:=D.nx} r F)
noncomputable def kE (fp:A1) (h:Heap):List (Addr×Obj):=fp.filterMap λb=>(h.get? b).map λo=>(b,o)
def Jbl{o:Obj}(g:b∈fp)(e:h.get? b=So o):(b,o)∈kE fp h:=ZX.mpr ⟨b,g,by rw[e];rfl⟩
def JgY{p:Addr×Obj}(g:p∈kE fp h):p.1∈fp/\h.get? p.1=So p.2:=by
 obtain⟨b,j,e⟩:=ZX.mp g;cases q:h.get? b with
 |none=>rw[q]at e;cases e
 |some o=>rw[q]at e;have l:(b,o)=p:=yD e;subst l;exact⟨j,q⟩
def Inv.pinned(I:AH)(y:∀b∈fp,FpOk X Y H b)(ho:∀b∈fp,∃o,s.heap.get? b=So o/\∀v,o.data≠.cell v):Inv X (Y++kE fp Re) Z H s:=
 I.pins_of λp r=>(ZI.mp r).elim (λz=>I.pin p (ZS _ z)) λz=>by
  obtain⟨g,e⟩:=JgY z
  obtain⟨m,l,q,_⟩:=y p.1 g
  obtain⟨o,j,d⟩:=ho p.1 g
  rw[e]at j;cases j
  exact⟨e,m,l,q,d⟩
def Inv.unpinned{pl:AV}(I:Inv X (Y++pl) Z H s):Inv X Y Z H s:=I.pins_of λp g=>I.pin p (ZS _ (zO _ g))
def yV{F:Expr}{L:BH}{wi:TI}{g:TG}{tb:TS}(hp:Nk)(hc:BZ)(hi:PI X tg F wi)(hg:PG X tg g)(y:PSs X L tb)
  (hs:∀x,foldedSetIterable F QL x=pure x:=by intro _;rfl):PS X (.For tg F L [] pos) (tFor wi g tb):=by
 intro Y s Z H D I h;refine wpAny_For (thn (hi Y s Z H _ I h) λv s1 h1=>thn h1 λitv s2 h2=>?_) hs;obtain⟨it,fp,tn,J9,H2,e,I2,T,st2,f2,W9,⟨m0,w0⟩,turn⟩:=h2;subst e;have J:∀{W:Hp},(∀b∈fp,W b=No)->∀b∈fp,FpOk X Y W b:=λhn b y=>⟨hn b y,(f2 b y).2⟩;refine codeAny_forLoop_any (λn s'=>∃i B W,Inv X Y B W s'/\tn i XZ/\(∀b∈fp,W b=No)/\W9 i n B W) ?_ m0 ⟨0,Z,H2,I2,st2,λb y=>(f2 b y).1,w0⟩;rintro n s3⟨i,z,H3,I3,st3,fr3,w3⟩;rcases turn i n z H3 w3 with⟨stop,qn⟩|⟨go,N,hN,step⟩
 ·refine wJ hp (thn (T.done X rfl rfl rfl hc i Y s3 z H3 X.xe I3 (J fr3) st3 stop) λr s4 l=>?_);obtain⟨hr,I4⟩:=l;subst hr;exact wpAny_execs_nil ⟨z,H3,I4,qn⟩
 ·refine wJ hp (thn (T.item X rfl rfl rfl hc i Y s3 z H3 X.xe I3 (J fr3) st3 go) λr s4 l=>?_);obtain⟨u,hr,h4⟩:=l;subst hr;refine wJ hp (thn h4 λ_ s5 l=>?_);obtain⟨x,H5,I5,r5,y5,U,fr5⟩:=l;have I5':=I5.pinned (J fr5) (T.obj _ _ U);refine wJ hp (thn (hg _ s5 z H5 x u _ I5' r5 (step x H5 y5)) λ_ s6 l=>?_);obtain⟨σ6,H6,I6,q6⟩:=l;refine wJ hp (thn (y _ s6 σ6 H6 _ I6 q6) λf s7 O=>?_);have again:∀{j:St}{G:Hp},Inv X (Y++kE fp YM) j G s7->N j G->∃m,m<n/\∃i B W,Inv X Y B W s7/\tn i s7.heap/\(∀b∈fp,W b=No)/\W9 i m B W:=fun{j G}q n7=>by obtain⟨m',hm,w7⟩:=hN j G n7;refine⟨m',hm,i+1,j,G,Qbt,T.keep _ _ _ U λb y o e=>(q.pin (b,o) Qp).1,λb y=>?_,w7⟩;obtain⟨o,e,d⟩:=T.obj _ _ U b y;exact(q.pin (b,o) Qp).2.1
  cases f with
  |next=>obtain⟨j,G,q,n7⟩:=O;exact again q n7
  |cont=>obtain⟨j,G,q,n7⟩:=O;exact again q n7
  |brk=>obtain⟨j,G,q,O⟩:=O;exact⟨j,G,Qbt,O⟩
  |ret v=>obtain⟨x7,j,G,q,r7,O⟩:=O;exact⟨x7,j,G,Qbt,r7,O⟩
noncomputable abbrev R2:=V->V->Hp->VK->Prop
variable{r:R2}
def OpR(X:Cx)(f:IQ)(r:R2):Prop:=
 ∀(Y:AV)(s:Ak)(Z:St)(H:Hp)(x y:V)(v u:Al)(Q:VK),Inv X Y Z H s->RelV x v->RelV y u->r x y H Q->
  wpAny As X.A (f v u) BI X.xe s
def UnR(X:Cx)(f:Value->Sem Value)(r:V->Hp->VK->Prop):Prop:=
 ∀(Y:AV)(s:Ak)(Z:St)(H:Hp)(x:V)(v:Al)(Q:VK),Inv X Y Z H s->RelV x v->r x H Q->
  wpAny As X.A (f v) BI X.xe s
def nA(X:Cx)(f:Al)(r:List V->Hp->VK->Prop):Prop:=
 ∀(Y:AV)(s:Ak)(Z:St)(H:Hp)(g:Av)(us:AF)(Q:VK),Inv X Y Z H s->Vals g us->r g H Q->
  wpAny As X.A (call f us) BI X.xe s
def TruR(X:Cx)(r:V->Hp->L9->Prop):Prop:=
 ∀(Y:AV)(s:Ak)(Z:St)(H:Hp)(x:V)(v:Al)(Q:D3),Inv X Y Z H s->RelV x v->r x H Q->
  wpAny As X.A bY LK X.xe s
def tOp(r:R2)(ta g:TE):TE:=λZ H Q=>ta Z H λx l=>g Z l λy j=>r x y j Q
def tUn(r:V->Hp->VK->Prop)(ta:TE):TE:=λZ H Q=>ta Z H λx g=>r x g Q
def rI(C:Int->Int->Prop)(g:Int->Int->V):R2:=λx y H Q=>∃i j,x=.int i/\y=.int j/\C i j/\Q DP H
def rI0(g:Int->Int->V):R2:=λx y H Q=>∃i j,x=.int i/\y=.int j/\Q DP H
noncomputable def rU (g:Int->V):V->Hp->VK->Prop:=λx H Q=>∃i,x=.int i/\Q (g i) H
section
variable{a b:Expr}{tb tc:TE}
def binT(ha:CD)(O:Fq){R:V->V->Hp->Prop}(I:AH)
  (h:ta Z H λx z=>tb Z z λy j=>R x y j) {Q:Au} {f:IQ}
  (L:∀v u q x y j,Inv X Y Z j q->RelV x v->RelV y u->R x y j->wpAny As X.A (f v u) Q X.xe q):
  wpAny As X.A CH (λv l=>wpAny As X.A (eval b QL) (λu m=>wpAny As X.A (f v u) Q X.xe m) X.xe l) X.xe s:=by refine thn Dt λv B g=>?_;obtain⟨x,z,U,F,N⟩:=g;refine thn (O Y B Z z _ U N) λu q g=>?_;obtain⟨y,j,I2,G,J⟩:=g;exact L v u q x y j I2 F G J
def pe_op{op:bN}(ho:OpR X (binaryOp op) r)(B:CD)(l:Fq):PE X (.BinOp a op b pos) Ma:=by intro Y s Z H Q I h;exact wpAny_BinOp (binT B l I h λv u j x y F m z g q=>ho Y j Z F x y v u Q m z g q)
def pe_un{op:UnaryOp}{r:V->Hp->VK->Prop}(ho:UnR X (unaryOp op) r)(ha:CD):PE X (.UnaryOp op a pos) (tUn r ta):=by intro Y s Z H Q I h;exact UnaryOp_ (thn Dt λv g⟨x,q,l,j,m⟩=>ho Y g Z q x v Q l j m)
def opI{f:IQ}{C:Int->Int->Prop}{g:Int->Int->Int}
  (l:∀(i j:Int)(t u:Tok)(s:Ak)(Q:Au)(E:Au),C i j->Q Of {s with toks:=Xl+1}->wpAny As X.A S9 Q E s):
  OpR X f (rI C λi j=>.int DP):=by intro Y s Z H x y v u Q I B m h;obtain⟨i,j,rfl,rfl,z,q⟩:=h;obtain⟨t,rfl⟩:=B;obtain⟨t',rfl⟩:=m;exact l i j t t' s _ _ z UH
def opI0{f:IQ}{g:Int->Int->Int}
  (l:∀(i j:Int)(t u:Tok)(s:Ak)(Q:Au)(E:Au),Q Of {s with toks:=Xl+1}->wpAny As X.A S9 Q E s):
  OpR X f (rI0 λi j=>.int DP):=by intro Y s Z H x y v u Q I z m h;obtain⟨i,j,rfl,rfl,q⟩:=h;obtain⟨t,rfl⟩:=z;obtain⟨t',rfl⟩:=m;exact l i j t t' s _ _ UH
def opB0{f:IQ}{g:Int->Int->Bool}
  (l:∀(i j:Int)(t u:Tok)(s:Ak)(Q:Au)(E:Au),Q (.bool DP) s->wpAny As X.A S9 Q E s):
  OpR X f (rI0 λi j=>.bl DP):=by intro Y s Z H x y v u Q I z m h;obtain⟨i,j,rfl,rfl,q⟩:=h;obtain⟨t,rfl⟩:=z;obtain⟨t',rfl⟩:=m;exact l i j t t' s _ _ ⟨.bl DP,H,I,rfl,q⟩
def CDiv(i j:Int):Prop:=0<j/\j<1073741824
def CMul(i j:Int):Prop:=(-(2^64)<i/\i<2^64)\/(-(2^64)<j/\j<2^64)
def CMul.ok{i j:Int}(h:CMul i j):IntMulOk i j:=by
 rcases h with⟨g,l⟩|⟨g,l⟩
 ·exact .of_left OL
 ·exact .of_right OL
def JvE:OpR X Mr (rI0 λi j=>.int (i+j)):=opI0 λ_ _ _ _ _ _ _ q=>add_int q
def Jvf:OpR X QbD (rI0 λi j=>.int (i-j)):=opI0 λ_ _ _ _ _ _ _ q=>sub_int q
def JtM:OpR X Qa3 (rI CMul λi j=>.int (i*j)):=opI λ_ _ _ _ _ _ _ g q=>mul_int q g.ok
def JsZ:OpR X OZ (rI CDiv λi j=>.int (i / j)):=opI λi j _ _ _ _ _ g q=>by
 have l:(0:Int)<j:=g.1
 have m:j<1073741824:=g.2
 exact floordiv_int Ad (by rw[Int.fdiv_eq_ediv_of_nonneg i 'd'];exact q) (.inl (PyProof.noPylong_small Ad))
def Jtn:OpR X QbE (rI (λ_ j=>0<j) λi j=>.int (i % j)):=opI λi j _ _ _ _ _ g q=>by
 have l:(0:Int)<j:=g
 exact mod_int' Ad (by rw[Int.fmod_eq_emod_of_nonneg i 'd'];exact q)
def unI{f:Value->Sem Value}{g:Int->Int}
  (j:∀(i:Int)(t:Tok)(s:Ak)(Q:Au)(E:Au),Q (.int (g i) Xl) {s with toks:=Xl+1}->wpAny As X.A (f bV) Q E s):
  UnR X f (rU λi=>.int (g i)):=by intro Y s Z H x v Q I l h;obtain⟨i,rfl,q⟩:=h;obtain⟨t,rfl⟩:=l;exact j i t s _ _ ⟨.int (g i),H,I.tok _,AJ,q⟩
def Jty:UnR X (unaryOp .USub) (rU λi=>.int (-i)):=unI λ_ _ _ _ _ q=>neg_int q
end
section
variable{a b:Expr}{tb tc:TE}
def Jqw{Q:VK}{k g:Bool}(I:AH)(q:Q (.bl k) H)(e:k=g):EP X Y Z Q QaN s:=by subst e;exact⟨.bl k,H,I,rfl,q⟩
def op_lt:OpR X Q9 (rI0 λi j=>.bl (decide (i<j))):=opB0 λ_ _ _ _ _ _ _ q=>lt_int q
def op_le:OpR X Qa4 (rI0 λi j=>.bl (decide (i<=j))):=opB0 λ_ _ _ _ _ _ _ q=>le_int q
def op_gt:OpR X QbF (rI0 λi j=>.bl (decide (j<i))):=opB0 λ_ _ _ _ _ _ _ q=>gt_int q
def op_ge:OpR X Qa5 (rI0 λi j=>.bl (decide (j<=i))):=opB0 λ_ _ _ _ _ _ _ q=>ge_int q
def Jnc:OpR X Q9 (λx y H Q=>∃i j,x=.str i/\y=.str j/\Q (.bl (decide (i.cps.toList<j.cps.toList))) H):=by intro Y s Z H x y v u Q I l g h;obtain⟨i,j,rfl,rfl,q⟩:=h;obtain⟨t,rfl⟩:=l;obtain⟨t',rfl⟩:=g;exact lt_str Qdw
def Jkm:OpR X QbG (λx y H Q=>∃i j,x=.str i/\y=.str j/\Q (.bl (!(Builtin.Str.occurrences j i 0 j.length 1).isEmpty)) H):=by intro Y s Z H x y v u Q I l g h;obtain⟨i,j,rfl,rfl,q⟩:=h;obtain⟨t,rfl⟩:=l;obtain⟨t',rfl⟩:=g;exact in_str Qdw
def Jbu(b:Expr)(h:'б' (op≠.In) Ek)(h2:'б' (op≠.NotIn) Ek):behindInMarks op b=Fo:=by
 have g:(op==CmpOp.In)=Fo:=by cases op<;>first|rfl|exact absurd rfl h
 have j:(op==CmpOp.NotIn)=Fo:=by cases op<;>first|rfl|exact absurd rfl h2
 cases b<;>first|rfl|(show(_&&(_||_)&&_)=Fo;rw[g,j,jH,Bool.and_false,uB])
def Jrb(ho:Qbp)(B:CD)(l:Fq)(F:FQ):PE X FP Ma:=by intro Y s Z H Q I h;exact wpAny_Compare1 (binT B l I h λv u j x y G m z g q=>ho Y j Z G x y v u Q m z g q) F
def tTest(t:TE):TT:=λZ H Q=>t Z H λx W=>∃k,x=.bl k/\Q k W
def JlV(ho:Qbp)(ha:CD)(O:Fq)(hm:FQ):PT X FP (tTest Ma):=by
 intro Y s Z H Q I h;refine wpAny_isTrue_Compare1 (thn Dt λv g⟨x,J,N,j,G⟩=>thn (O Y g Z J _ N G) λu m⟨y,H2,U,r2,F⟩=>
  thn (ho Y m Z H2 x y v u _ U j r2 F) λc s3⟨z,B,l,q,k,e,L⟩=>?_) hm
 subst e;cases q;exact yE ⟨B,l,L⟩
def Jqa(r j:R2)(ta tb tc:TE):TE:=λZ H Q=>ta Z H λx B=>tb Z B λy m=>r x y m λz g=>∃k,z=.bl k/\
 (if k=To then tc Z g λl q=>j y l q Q else Q CO g)
def JoK{g:aX}{F:R2}(ho:Qbp)(j:OpR X Qdx F)(ha:CD)(hb:Fq)(J:PE X c tc)
  (hm:lastMarks [op,g] [b,c]=Fo:=by with_unfolding_all rfl):PE X (.Compare a [op,g] [b,c] pos) (Jqa r F ta tb tc):=by
 intro Y s Z H Q I h;refine Compare_chain (thn Dt λv s1⟨x,U,I1,G,O⟩=>chain_link (thn (hb Y s1 Z U _ I1 O) λu s2⟨y,H2,I2,m,q2⟩=>
  thn (ho Y s2 Z H2 x y v u _ I2 G m q2) λd s3⟨z,q,l,r3,k,e,B⟩=>?_)) hm
 subst e;cases r3;refine yE ?_;cases k with
 |false=>exact ite_ff ⟨.bl Fo,q,l,rfl,B⟩
 |true=>exact ite_tt (chain_last (thn (J Y s3 Z q _ l B) λN L⟨z',H4,I4,r4,q4⟩=>j Y L Z H4 y z' u N Q I4 m r4 q4))
def TruV(K:Aj)(x:V)(H:Hp)(k:Bool):Prop:=
 match x with
 |.non=>k=Fo
 |.bl b=>k=b
 |.int i=>k=(i !=0)
 |.str y=>Yk<=sizeLine/\k=((Yk:Int)!=0)
 |.byt y=>y.size<=sizeLine/\k=((y.size:Int)!=0)
 |.ref p=>(∃g,SqL K H p g/\k=!g.isEmpty)\/(∃g,SqT K H p g/\k=!g.isEmpty)\/∃kvs,H p=So AM/\k=!kvs.isEmpty
 |_=>False
def JjZ{kvs:Bu}{vs:Ci}(r:DT):(!vs.isEmpty)=!kvs.isEmpty:=by cases r<;>rfl
def JeB{xs:Av}{g:AF}(r:Vals xs g):(!g.toArray.isEmpty)=!xs.isEmpty:=by cases r<;>simp
def oI:(sizeLine:Nat)<2^63:=by rw[ZJ];decide
theorem JuP:TruR X (λx H Q=>∃k,TruV X.K x H k/\Q k H):=by
 intro Y s Z H x v Q I z h;obtain⟨k,e,q⟩:=h;have O:=oI;have N:sizeLine=16777216:=ZJ;cases x with
 |non=>cases z;have g:k=Fo:=e;subst g;exact truthy_none c0
 |bl b=>cases z;have g:k=b:=e;subst g;exact yE c0
 |int i=>obtain⟨t,rfl⟩:=z;have g:k=(i !=0):=e;subst g;exact PySem.P.truthy_int c0
 |str y=>obtain⟨t,rfl⟩:=z;obtain⟨L,g⟩:y.length<=sizeLine/\k=((Yk:Int)!=0):=e;subst g;exact PySem.P.truthy_str Ad Qca
 |byt y=>obtain⟨t,rfl⟩:=z;obtain⟨L,g⟩:y.size<=sizeLine/\k=((y.size:Int)!=0):=e;subst g;exact PySem.W.truthy_bytes Ad Qca
 |ref p=>
  cases z;have g:(∃l,SqL X.K H p l/\k=!l.isEmpty)\/(∃l,SqT X.K H p l/\k=!l.isEmpty)\/∃kvs,H p=So AM/\k=!kvs.isEmpty:=e;rcases g with⟨l,B,g⟩|⟨l,B,g⟩|⟨kvs,B,g⟩
  ·subst g;obtain⟨F,r,pl,G⟩:=I.list B;have j:=Xz;exact wpAny_truthy_list Yd (by simp only[Zp];lia) ⟨H,I.tok _,by rw[JeB r];exact q⟩
  ·subst g;obtain⟨F,r,pl,G⟩:=I.tuple B;have j:=Xz;exact truthy_tuple pl (by simp only[Zp];lia) ⟨H,I.tok _,by rw[JeB r];exact q⟩
  ·subst g;obtain⟨G,J,vs,r,m⟩:By<=sizeLine/\(p==sysModules)=Fo/\∃vs,KV kvs vs/\s.heap.DictOf Mq p vs:=I.hok p _ B;have j:By=AA:=mJ r;exact wpAny_truthy_dict J m Ad ⟨H,I.tok _,by rw[JjZ r];exact q⟩
 |_=>exact(show False from e).elim
def JnP(ha:CD)(y:∀g,isTrue a QL g=(do let v<-g;standAt a.pos;holding [v] bY)):
  PT X a (λZ H Q=>ta Z H λx W=>∃k,TruV X.K x W k/\Q k W):=by intro Y s Z H Q I h;exact isTrue_plain (thn Dt λv j⟨x,q,z,l,m⟩=>JuP Y j Z q x v Q z l m) (y _)
def JjL:OpR X Mr (λx y H Q=>∃i j,x=.str i/\y=.str j/\i.length+j.length<=sizeLine/\Q (.str (i++j)) H):=by intro Y s Z H x y v u Q I l g h;obtain⟨i,j,rfl,rfl,m,q⟩:=h;obtain⟨t,rfl⟩:=l;obtain⟨t',rfl⟩:=g;exact add_str (λt' z=>⟨.str (i++j),H,I.tok _,AJ,q⟩) m
def Jht:OpR X (inplaceOp .Add) (λx y H Q=>∃i j,x=.str i/\y=.str j/\i.length+j.length<=sizeLine/\Q (.str (i++j)) H):=by intro Y s Z H x y v u Q I l g h;obtain⟨i,j,rfl,rfl,m,q⟩:=h;obtain⟨t,rfl⟩:=l;obtain⟨t',rfl⟩:=g;exact iadd_str (λt' z=>⟨.str (i++j),H,I.tok _,AJ,q⟩) m
def uA{x:V}(r:Vals [x] us):∃u,us=[u]/\RelV x u:=by
 cases r with
 |cons g j=>cases j;exact⟨_,rfl,g⟩
def dU{x y:V}(r:Vals [x,y] us):∃u g,us=[u,g]/\RelV x u/\RelV y g:=by
 cases r with
 |cons j q=>
  cases q with
  |cons m l=>cases l;exact⟨_,_,rfl,j,m⟩
end
structure ObjM(h:Heap)(x dx C:Addr)(mA:Bi):Prop where
 obj:h.get? x=So P6
 ns:h.Ns1 dx mA
 ne:dx≠x
def JlS(n:h.Ns1 dx mA):∃j,h.get? dx=So j/\∀name,PySem.W.lookIn name j=So (mA name):=by
 obtain⟨o,es,J,l,G,B,_,F⟩:=n;refine⟨o,l,λname=>?_⟩;have e:=F name;unfold nsFind findBy at e;rw[<-Array.find?_toList]at e;unfold PySem.W.lookIn;rw[G];dsimp only;split
 ·rename_i y q;rw[q]at e;exact lA So e
 ·rename_i q;rw[q]at e;have a:es.toList.any (·.refKey)=Fo:=by rw[List.any_eq_false];intro y I;obtain⟨z,t,g⟩:=B y (Array.mem_toList_iff.mp I);simp[DictEntry.refKey,g]
  have m:¬es.toList.any (·.refKey)=To:=by rw[a];exact ZM
  rw[if_neg m];exact lA So e
def ObjM.look{x:Addr}(I:ObjM h x dx C mA):∃g,PySem.W.InstAt h x P6 C (So g)/\∀name,PySem.W.lookIn name g=So (mA name):=
 let⟨g,l,j⟩:=JlS I.ns
 ⟨g,⟨I.obj,rfl,rfl,l⟩,j⟩
section
variable{x:Addr}{name:Str}{v:Al}
def JrQ{g:Bool}{Q:Au}(X:Fx)(I:SK)(l:PySem.W.plainGet K C name=To)(B:PySem.W.hasDictIn K C=To)
  (q:PySem.W.findIn K AX name=So No) (m:mA name=So v) (j:PySem.W.handedIn v=To) (h:Q v {s with toks:=Xl+1}):
  wpAny Ar A (getAttr Ca name g) Q E s:=by obtain⟨F,y,z⟩:=I.look;exact PySem.W.get_value X y (PySem.W.plainGet_of l).1 (PySem.W.findObj_own B q rfl (by rw[z,m])) j h
def Jpy{pl:CQ}{Q:Value×List Value->Shared->Prop}(X:Fx)(I:SK)(g:PySem.W.plainGet K C name=To)
  (z:PySem.W.findIn K AX name=So Ez) (m:PySem.W.isFn K A6=To) (j:mA name=No) (h:Q (.ref f,[.ref x]) s):
  wpAny Ar A (getMethod Ca name pl) Q E s:=by obtain⟨l,q,y⟩:=I.look;exact PySem.W.method_fn X q (PySem.W.plainGet_of g).1 (PySem.W.plainGet_of g).2 z (ZB.mp m) (by show(PySem.W.lookIn name l).map (·.isSome)=So Fo;rw[y,j];rfl) h
theorem Jtf{ns:Ag}{Q:C8}(X:Fx)(I:SK)
  (N:PySem.W.findIn K AX "__setattr__"=So TQ) (hp:PySem.W.plainOver K C=To) (J:PySem.W.takerIn K C name=So No) (O:PySem.W.hasDictIn K C=To)
  (L:PySem.Within mA ns) (hsz:AN<=sizeLine)
  (h:∀h',ObjM h' x dx C (λy=>if y=name then So v else mA y)->Heap.SameBut dx Re h'->Q () {s with heap:=h',toks:=Xl+2}):
  wpAny Ar A (setAttr Ca name v) Q E s:=by obtain⟨od,B,hl⟩:=I.look;refine PySem.W.set_plain X B N (PySem.W.osa_open (s:={s with toks:=Xl+1}) (r:=No) X B hp J λb=>?_);obtain⟨cd,F,l⟩:=PySem.W.any_some O;have U:s.heap.get? x=So ⟨.ref C,So dx,.plain,#[]⟩:=I.obj;refine Za (Zb (Za (Za (wpAny_loadPart U (Za (PySem.W.Looks.here (s:={s with toks:=Xl+1}) (PySem.W.looks_clsIn X F) ?_))))));rw[l];refine Zb (a:=So dx) (Za (Zb (Za ?_)));refine wpAny_nsSet1 (s:={s with toks:=Xl+1}) I.ns λh' g j=>?_;obtain⟨oD,esD,G,z,m,q⟩:=g.count (PySem.Within.cons name v L);refine Za (wpAny_lookBehind z (by rw[m];exact pastItsLine_dict (ZA q (by rw[Zi];lia))) ?_);exact Zb (h _ ⟨(j.2 _ (Ne.symm I.ne)).trans I.obj,g,I.ne⟩ j)
def Jpi{R:FV}{vs:AF}(X:Fx)(l:PySem.W.makesIn K C=To)
  (hi:PySem.W.findIn K AX "__init__"=So Ez) (m:PySem.W.typeIn K A6=So (.type "function"))
  (h:codeAny Ar (A.under (.builtin "type.__call__" ⟨.ref C::vs,kw⟩)) (.call A6 ⟨.ref DF::vs,kw⟩) (PySem.W.InitBack DF R)
   {s with heap:='Ŕ'.push LV}):
  codeAny Ar A (.call AX ⟨vs,kw⟩) R s:=by obtain⟨y,g,d,t,q⟩:=s;exact PySem.W.make_core (PySem.W.makes_of X l) (PySem.W.looks_findIn X hi) (λj=>PySem.W.bind_fn X j m) BB h
end
noncomputable def putF (f:Str) (v:V):List (Str×V)->List (Str×V)
 |[]=>[(f,v)]
 |(g,x)::r=>if g=f then(g,v)::r else(g,x)::putF f v r
def Jec(f g:Str)(v:V):∀fs:List (Str×V),(putF f v fs).lookup g=if g=f then So v else fs.lookup g
 |[]=>by
  show List.lookup g [(f,v)]=_
  by_cases h:g=f
  ·have j:(g==f)=To:=ZB.mpr h
   simp only[List.lookup,j,if_pos h]
  ·have j:(g==f)=Fo:=Zw.mpr h
   simp only[List.lookup,j,if_neg h]
 |(k,x)::r=>by
  have m:=Jec f g v r
  rw[show putF f v ((k,x)::r)=(if k=f then(k,v)::r else(k,x)::putF f v r)from rfl]
  by_cases l:k=f
  ·rw[if_pos l]
   by_cases h:g=k
   ·have j:(g==k)=To:=ZB.mpr h
    simp only[List.lookup,j,if_pos (h.trans l)]
   ·have j:(g==k)=Fo:=Zw.mpr h
    simp only[List.lookup,j,if_neg (λe:g=f=>h (e.trans l.symm))]
  ·rw[if_neg l]
   by_cases h:g=k
   ·have j:(g==k)=To:=ZB.mpr h
    simp only[List.lookup,j,if_neg (λe:g=f=>l (h.symm.trans e))]
   ·have j:(g==k)=Fo:=Zw.mpr h
    simp only[List.lookup,j]
    exact m
def iY(f:Str)(v:V):∀fs:List (Str×V),f∈(putF f v fs).map (·.1)/\∀g,g∈fs.map (·.1)->g∈(putF f v fs).map (·.1)
 |[]=>⟨by simp[putF],λg h=>by simp at h⟩
 |(k,x)::r=>by
  obtain⟨l,m⟩:=iY f v r
  rw[show putF f v ((k,x)::r)=(if k=f then(k,v)::r else(k,x)::putF f v r)from rfl]
  by_cases j:k=f
  ·rw[if_pos j]
   subst j
   exact⟨by simp,λg h=>by simpa using h⟩
  ·rw[if_neg j]
   refine⟨?_,λg h=>?_⟩
   ·rw[Zl]
    exact Zq _ l
   ·rw[Zl]at h⊢
    rcases Zg.mp h with e|e
    ·exact Zg.mpr (.inl e)
    ·exact Zq _ (m g e)
theorem JbK(f:Str)(v:V):∀fs:List (Str×V),(putF f v fs).length<=Qdp+1
 |[]=>by simp[putF]
 |(k,x)::r=>by
  have j:=JbK f v r
  rw[show putF f v ((k,x)::r)=(if k=f then(k,v)::r else(k,x)::putF f v r)from rfl]
  by_cases g:k=f
  ·rw[if_pos g,Zi,Zi];lia
  ·rw[if_neg g,Zi,Zi];lia
def RelO.some_of{o:Lz}(r:RelO Bj o):∃u,o=So u/\RelV v u:=by
 cases o with
 |none=>exact(show False from r).elim
 |some u=>exact⟨u,rfl,r⟩
def RelO.none_of{o:Lz}(r:RelO No o):o=No:=by
 cases o with
 |none=>rfl
 |some u=>exact(show False from r).elim
def Jku(r:Em):PySem.W.handedIn u=To:=by
 cases v with
 |non=>cases(show u=Xq from r);rfl
 |bl b=>cases(show u=Value.bool b from r);rfl
 |int i=>obtain⟨t,e⟩:=(show∃t,u=Value.int i t from r);cases e;rfl
 |str x=>obtain⟨t,e⟩:=(show∃t,u=Value.str x t from r);cases e;rfl
 |byt b=>obtain⟨t,e⟩:=(show∃t,u=Value.bytes b t from r);cases e;rfl
 |flt b=>obtain⟨t,e⟩:=(show∃t,u=Value.float b t from r);cases e;rfl
 |ref a=>cases(show u=Value.ref a from r);rfl
 |ty n=>cases(show u=Value.type n from r);rfl
section
variable{fs fs':List (Str×V)}
def nX(g:Ct)(e:H a=So DJ):∃mA,ObjM h a dx C mA/\(∀f,RelO QK (mA f))/\PySem.Within mA (fs.map (·.1))/\fs.length<=1000/\H dx=So aK:=by obtain⟨d,z,ne,ob,mA,n,r,q⟩:=(show ObjOk P w H h a DJ from g a _ e);exact⟨mA,⟨ob,n,ne⟩,r,q,z,d⟩
end
structure Cls(K:Aj)(C:Addr):Prop where
 pg:PySem.W.plainGet K C X5=To
 hd:PySem.W.hasDictIn K C=To
 po:PySem.W.plainOver K C=To
 sa:PySem.W.findIn K AX "__setattr__"=So TQ
def Cls.get{K:Aj}{C:Addr}(c:aB)(f:Str):PySem.W.plainGet K C f=To:=c.pg
def NoAttr(K:Aj)(C:Addr)(f:Str):Prop:=PySem.W.findIn K AX f=So No
def NoAttr.taker{f:Str}(n:NoAttr K C f):PySem.W.takerIn K C f=So No:=by unfold PySem.W.takerIn;rw[show PySem.W.findIn K 'O' f=So No from n];rfl
structure Meth(K:Aj)(C:Addr)(m:Str)(f:Addr):Prop where
 at_:PySem.W.findIn K AX m=So Ez
 fn:PySem.W.isFn K A6=To
 kp:PySem.W.keepIn K A6=To
section
variable{fs:List (Str×V)}{f:Str}
def JjY{b:Bool}{Q:Au}(I:AH)(e:H a=So DJ)(c:Iv)(n:NoAttr X.K C f)(l:fs.lookup f=So v)
  (h:∀u g,Inv X Y Z H g->RelV v u->Q u g):wpAny As A (getAttr Ax f b) Q E s:=by obtain⟨mA,m,r,_,_,_⟩:=nX Xy e;obtain⟨u,q,j⟩:=RelO.some_of (v:=v) (o:=mA f) (by rw[<-l];exact r f);exact JrQ Yf m (c.get f) c.hd n q (Jku j) (h u _ GG j)
def JeA{m:Str}{g:Addr}{pl:CQ}{Q:Value×List Value->Shared->Prop}(I:AH)(e:H a=So DJ)(c:Iv)(k:Meth X.K C m g)(l:fs.lookup m=No)
  (h:Q (.ref g,Cr) s):wpAny As A (getMethod Ax m pl) Q E s:=by obtain⟨mA,j,r,_,_,_⟩:=nX Xy e;have q:mA m=No:=RelO.none_of (by rw[<-l];exact r m);exact Jpy Yf j (c.get m) k.at_ k.fn q h
theorem JjI{y:V}{Q:C8}(I:AH)(e:H a=So DJ)(c:Iv)(n:NoAttr X.K C f)(hl:fs.length<1000)(G:DN)
  (h:∀m,Inv X Y Z (upd H a Qa6) m->Q () m):wpAny As A (setAttr Ax f u) Q E s:=by
 obtain⟨mA,l,r,F,_,B⟩:=nX Xy e;have U:(fs.map (·.1)).length<=sizeLine:=by rw[Zj,ZJ];lia
 refine Jtf Yf l c.sa c.po n.taker c.hd F U λh' j sb=>h _ ?_;have J:∃o,h'.get? dx=So o:=let⟨o,_,_,L,_⟩:=j.ns;⟨o,L⟩;refine I.write (x:=a) (e:=dx) (by rw[e];exact gA) (.inr B) (λb q O z=>(sb.2 b O).trans z) J ?_;refine⟨by rw[Jb l.ne];exact B,?_,l.ne,j.obj,_,j.ns,λg=>?_,λg N=>?_⟩
 ·have:=JbK f y fs;lia
 ·show RelO ('ց'.lookup g) (if g=f then So u else mA g);rw[Jec];by_cases q:g=f
  ·rw[if_pos q,if_pos q];exact G
  ·rw[if_neg q,if_neg q];exact r g
 ·by_cases q:g=f
  ·rw[q];exact(iY f y fs).1
  ·refine(iY f y fs).2 g (F g λz=>N ?_);show(if g=f then So u else mA g)=No;rw[if_neg q];exact z
def Inv.made(I:AH):Inv X Y Z (upd (upd H Aa (.own DF)) DF (.ins C Aa []))
  {s with heap:='Ŕ'.push LV}:=by
 have g:'Ŕ'.get? Aa=So YS:=Ze Re rfl;have j:('Ŕ'.push LV).get? DF=So LV:=by have:=Ze 'Ŕ' (o:=PySem.W.instObj C Aa) rfl;rwa[ZO]at this
 have m:'Ŕ'.Ns Aa (λ_=>No):=⟨YS,#[],_,g,rfl,(λe z=>absurd z Af),λ_=>rfl⟩;have l:=I.laid (a:=Aa) (o:=.own DF) (h':=s.heap.push YS) (t':=Xl) OK (Zf _) ⟨_,g⟩;refine l.laid (a:=Aa+1) (o:=.ins C Aa []) (t':=Xl) OK (Nat.le_of_eq (ZO _ _)) ?_;have ne:Aa≠Aa+1:=Zn YD;refine⟨by rw[Jb ne,Jd],mB _,ne,j,λ_=>No,(Heap.Ns1.of_empty m).at λo q=>Zc _ q,λ_=>gA,λy B=>absurd rfl B⟩
def JqQ{O:Env}{f:Str}{Q:Au}(j:attributeBase e f O bZ=eval e O)
  (h:wpAny Ar A bZ (λo g=>wpAny Ar A (getAttr o f To) Q E g) E s):wpAny Ar A (eval SQ O) Q E s:=
 Attribute_any_ h (by rw[arm_eval_Attribute,j])
end
def tFld(K:Aj)(ta:TE)(f:Str):TE:=λZ H Q=>ta Z H λx g=>∃a C dx fs v,x=.ref a/\g a=So DJ/\Cls K C/\NoAttr K C f/\fs.lookup f=So v/\Q v g
def sFld(K:Aj)(ta j:TE)(f:Str):TS:=λD Z H=>j Z H λy l=>ta Z l λx g=>∃a C dx fs,x=.ref a/\g a=So DJ/\Cls K C/\NoAttr K C f/\fs.length<1000/\
 D.nx Z (upd g a Qa6)
def InOp(X:Cx)(op:bN)(g:V->V->Hp->VK->Prop):Prop:=
 ∀(Y:AV)(s:Ak)(Z:St)(H:Hp)(x y:V)(u v:Al)(Q:VK),Inv X Y Z H s->RelV x u->RelV y v->g x y H Q->wpAny As X.A (inplaceOp op u v) BI X.xe s
section
variable{o value:Expr}{f:Str}{pos' tpos:Pos}{tv:TE}
def Jim(he:PE X e ta)(z:attributeBase e f QL Mg=eval e QL):PE X SQ (tFld X.K ta f):=by intro Y s Z H Q I h;refine JqQ z (thn ES λu J g=>?_);obtain⟨x,m,F,y,a,C,dx,fs,v,ex,G,c,n,l,q⟩:=g;subst ex;obtain rfl:u=Value.ref a:=y;exact JjY F G c n l λN L B j=>⟨v,m,B,j,q⟩
def zP(U:Qde)(G:HK)(z:swapsWith value (So (.Attribute o f pos')) Xt QL=pure Fo):PS X (.Assign [.Attribute o f pos'] value pos) (sFld X.K ta tv f):=by intro Y s Z H D I h;refine plainObj_wpAny_Assign_Attribute (thn Qad λu g⟨y,F,J,j,q⟩=>thn (U Y g Z F _ J q) λL s2⟨x,H2,N,O,a,C,dx,fs,ex,ea,c,n,l,B⟩=>?_) z;subst ex;obtain rfl:L=Value.ref a:=O;exact JjI N ea c n l j λs3 m=>⟨Z,_,m,B⟩
end
structure Room(k:Nat)(A:Bd):Prop where
 hd:A.handled=No
 dp:A.depth+3*k+5<recursionLimit
 un:A.units+16*k+200<cLine
theorem Room.mono{j:Nat}(r:Room k A)(h:j<=k):Room j A:=⟨r.hd,by have:=r.dp;lia,by have:=r.un;lia⟩
theorem Room.deeper(r:Qdf)(O:Env):Room k (A.deeper O):=
 ⟨r.hd,by have:=r.dp;show A.depth+1+3*k+5<_;lia,by have:=r.un;show A.units+3+16*k+200<_;lia⟩
theorem Room.in1(r:Qdf):Room k XB:=
 ⟨r.hd,by have:=r.dp;show A.depth+3*k+5<_;lia,by have:=r.un;show A.units+1+16*k+200<_;lia⟩
def JjB:(A.under (.builtin "type.__call__" ⟨.ref C::us,kw⟩)).depth=A.depth+1:=by first|rfl|simp[Around.under,Code.weight,Code.isCreation,Code.isGuard,Code.isCaller,Code.frames,Code.isFrame,guardIds]
def JjS:(A.under (.builtin "type.__call__" ⟨.ref C::us,kw⟩)).units=A.units+1:=by first|rfl|simp[Around.under,Code.cUnits,Code.frames,Code.isFrame]
theorem Room.make(r:Qdf)(C:Addr)(us:AF)(kw:FW):Room k (A.under (.builtin "type.__call__" ⟨.ref C::us,kw⟩)):=
 ⟨r.hd,by have:=r.dp;rw[JjB];lia,by have:=r.un;rw[JjS];lia⟩
theorem Room.depth(r:Room k A):A.depth<recursionLimit:=by have:=r.dp;lia
theorem Room.units(r:Room k A):A.units+64<cLine:=by have:=r.un;lia
def tNil:TA:=λ_ H Q=>Q [] H
def Jux(ta:TE)(tr:TA):TA:=λZ H Q=>ta Z H λx l=>tr Z l λg j=>Q (x::g) j
def JP:PA X [] tNil:=λ_ _ _ _ H Q I h=>Calls.spliced_nil ⟨[],H,I,.nil,h⟩
def Jq(ha:Ew)(J:Z4)(m:Co):PA X E2 (Jux te t):=by intro pos Y s Z H Q I h;rw[m];show wpAny _ _ (spliced (Xa::backTo pos KJ)) _ _ s;refine Calls.spliced_cons (thn Dt λu j g=>?_);obtain⟨x,B,F,l,y⟩:=g;exact thn (J pos Y j Z B _ F y) λus O⟨z,L,G,N,q⟩=>⟨x::z,L,G,.cons l N,q⟩
def tTup(t:TA):TE:=λZ H Q=>t Z H λxs g=>Ai<=sizeLine/\∀p,g p=No->Q Fd (upd g p Bl)
def tLst(t:TA):TE:=λZ H Q=>t Z H λxs g=>Ai<=sizeLine/\∀p,g p=No->Q Fd (upd g p AK)
def JiT{x1}(h:Z4):PE X (.Tuple es x1 pos) (tTup t):=by intro Y s Z H Q I m;refine wpAny_Tuple_spliced (thn Pw λus s1⟨xs,g,j,r,z,q⟩=>⟨by rw[<-r.length];exact z,?_⟩);have l:g AB=No:=j.hok.fresh (Zf _);refine⟨.ref AB,upd g AB Bl,j.laid (t':=XT) SE (Zf _) ?_,rfl,q _ l⟩;exact⟨⟨z,dQ⟩,us,r,⟨_,Ze _ rfl,rfl,_,rfl⟩⟩
def JqI(h:Z4):PE X Qcj (tLst t):=by intro Y s Z H Q I m;refine wpAny_List_spliced (thn Pw λus s1⟨xs,g,j,r,z,q⟩=>⟨by rw[<-r.length];exact z,?_⟩);have l:g AB=No:=j.hok.fresh (Zf _);refine⟨.ref AB,upd g AB AK,j.laid (t':=XT) SE (Zf _) ?_,rfl,q _ l⟩;exact⟨z,us,0,r,Ze _ rfl⟩
noncomputable abbrev Sp:=List V->Hp->VK->XK->Prop
noncomputable abbrev CXT:=List Env->Hp->Shared->XK->Value->Shared->Prop
structure Env0(P:Be)(w:A0)(K:Aj)(mg:Bi)(base:Heap)(A:Bd)(outer:A5)(s:Ak)(H:Hp):Prop where
 frames:A.frames=So outer
 mod:Mod K mg base
 bs:∀b o,base.get? b=So o->s.heap.get? b=So o/\H b=No
 bsz:base.objs.size<=Aa
 funs:s.heap.FunFrames base outer
 frf:∀b∈frs outer,H b=No
 hok:HOk P w H Re
 bare:AllBare YR
inductive CE(outer:A5)(P:Be)(w:A0)(H:Hp)(s:Ak)(Q:VK)(u:Al)(s':Ak):Prop where
 |mk (v:V) (H':Hp):s'.os=s.os->AllBare s'.gens->Un (frs outer) [] H H' s.heap s'.heap->HOk P w H' s'.heap->RelV v u->Q v H'->CE outer P w H s Q u s'
variable{CX:CXT}
def CR(CX:CXT)(g:A5)(P:Be)(w:A0)(H:Hp)(s:Ak)(Q:VK)(E:XK)(r:Result)(j:Ak):Prop:=
 match r with
 |.ok (.ret u)=>CE g P w H s Q u j
 |.ok _=>False
 |.error e=>CX g H s E e j
structure FnOk(P:Be)(w:A0)(K:Aj)(mg:Bi)(base:Heap)(CX:CXT)(k:Nat)(f:Addr)(fd:A7)(ps:Ag)(sp:Sp):Prop where
 len:∀vs H Q E,sp vs H Q E->AA=Aw
 run:∀(A:Bd)(outer:A5)(s:Ak)(H:Hp)(args:Args)(us:AF)(vs:Av)(Q:VK)(E:XK),Room k A->Env0 P w K mg base A outer s H->BindsTo s fd args (ps.zip us)->Vals vs us->sp vs H Q E->
  codeAny Cf A QbH (CR CX outer P w H s Q E) s
def FnOk.imp{sp j:Sp}(F:FnOk P w K mg base CX k f fd ps sp)
  (h:∀vs H Q E,j vs H Q E->sp vs H Q E):FnOk P w K mg base CX k f fd ps j:=
 ⟨λvs H Q E q=>F.len vs H Q E (h _ _ _ _ q),λA g s H l us vs Q E G y B z m=>F.run A g s H l us vs Q E G y B z (h _ _ _ _ m)⟩
def Env0.make{outer:A5}(e:FU)(C:Addr)(us:AF)(kw:FW):
  Env0 P w K mg base (A.under (.builtin "type.__call__" ⟨.ref C::us,kw⟩)) outer s H:=⟨by first|exact e.frames|(simpa[Around.under,Code.envs,Code.isFrame,pushEnvs]using e.frames),e.mod,e.bs,e.bsz,e.funs,e.frf,e.hok,e.bare⟩
section
variable{s':Ak}
def Inv.env0(I:AH):Env0 Xn X.w X.K X.mg XC X.A Xp s H:=
 ⟨c5,YU,I.bs,ZA bR I.sz,I.stack,I.stkFree,Xy,XA⟩
def Inv.after{Q:VK}(I:AH)(h:CE Xp Xn X.w H s Q u s'):EP X Y Z Q u s':=by obtain⟨v,W,y,j,un,m,r,q⟩:=h;obtain⟨B,g,d,t,l⟩:=s';obtain rfl:l=s.os:=y;exact⟨v,W,I.call (h':=B) (g':=g) (d':=d) (t':=t) (ch:=[]) un m j Qo,r,q⟩
end
def tCall(sp:Sp)(g:Av)(E:XK)(t:TA):TE:=λZ H Q=>t Z H λvs j=>sp (vs++g) j Q E
def nP(C:Addr)(m:Str)(sp:Sp)(g:Av)(E:XK)(ta:TE)(t:TA):TE:=λZ H Q=>ta Z H λx j=>∃a dx fs,x=.ref a/\j a=So DJ/\fs.lookup m=No/\
 t Z j λvs l=>sp (x::(vs++g)) l Q E
def tMake(C:Addr)(sp:Sp)(g:Av)(E:XK)(t:TA):TE:=λZ H Q=>t Z H λvs j=>∀x dx,j x=No->j dx=No->dx≠x->
 sp (.ref x::(vs++g)) (upd (upd j dx Gu) x Qck) (λv l=>v=.non/\Q Ca l) E
def Binds(K:Aj)(fd:A7)(ps:Ag)(J:AF):Prop:=
 ∀(s:Ak)(us:AF),K.In s.heap->(us++J).length=Aw->BindsTo s fd Lk (ps.zip (us++J))
def Binds.all(h:∀us:List Value,Qdq=Aw->bindArgs fd Lk=pure GW):Binds K fd ps []:=λs us _ g=>by
 rw[xD]at g⊢
 exact .of_eq (h us g)
def oZ(CX:CXT)(X:Cx)(E:XK):Prop:=∀(Y:AV)(Z:St)(H:Hp)(s:Ak)(e:Al)(g:Ak),Inv X Y Z H s->CX Xp H s E e g->X.xe e g
section
variable{sp:Sp}{dvs:Av}{J:AF}{E:XK}{m:Str}{apos:Pos}{o:Expr}
def wV{Q:VK}(F:Hl)(B:Gh)(y:He)(L:GI)(z:GH)
  (I:AH) (r:Gg) (h:sp (vs++dvs) H Q E):wpAny As X.A (call A6 us) BI X.xe s:=by
 have j:Vals (vs++dvs) (us++J):=r.append L;have G:(us++J).length=Aw:=by rw[<-j.length];exact F.len _ _ _ _ h
 refine sF (mC (F.run X.A Xp s H Lk (us++J) (vs++dvs) Q E B I.env0 (y s us Yf G) j h) λr q g=>?_);cases r with
 |error e=>exact z Y Z H s e q I g
 |ok l=>
  cases l with
  |ret u=>exact I.after g
  |next=>exact False.elim g
  |brk=>exact False.elim g
  |cont=>exact False.elim g
def lX(F:Hl)(L:Gh)(y:Dc)(O:X.mg x=So A6)(B:PySem.W.keepIn X.K A6=To)(z:He)(l:GI)(G:GH)
  (N:ID) (g:DH) (he:Co) (hpl:Dd):
  PE X Tx (tCall sp dvs E t):=by intro Y s Z H Q I h;refine eG (xG I y O ?_ g);refine PySem.W.callWith_K (h₀:=XC) YF B (thn (N pos Y s Z H _ I h) λus U⟨vs,H1,j,r,q⟩=>⟨j.kIn,?_⟩) he hpl;exact wV F L z l G j r q
def Jmy{pl:CQ}(he:Qde)(c:Iv)(j:Meth X.K C m f)(F:Hl)(N:Gh)(G:He)(hd:GI)(L:GH)(O:ID)
  (g:Co) (hpl:Dd)
  (ht:'б' (eval Qn QL=(do
   let ov<-eval o QL
   standAt XS
   let(f,first)<-holding [ov] D6
   callWith pos f first 'ž' D5)) Ah):
  PE X Qn (nP C m sp dvs E ta t):=by intro Y s Z H Q I h;refine PySem.W.methodCall_KW (pl:=pl) (thn ES λu U⟨x,B,y,rx,a,dx,fs,ex,ea,l,q⟩=>?_) ht;subst ex;obtain rfl:u=Value.ref a:=rx;refine JeA y ea c j l ?_;refine PySem.W.callWith_K (first:=Cr) (h₀:=XC) YF j.kp (thn (O pos Y U Z B _ y q) λus s2⟨vs,H2,z,r,q2⟩=>⟨z.kIn,?_⟩) g hpl;exact wV (us:=.ref a::us) (vs:=.ref a::vs) F N G hd L z (.cons rfl r) q2
def JnF {pl:CQ} (he:Qde) (c:Iv) (j:Meth X.K C m f) (F:Hl) (N:Gh) (B:He) (z:GI) (L:GH)
  (y:'б' (eval P5 QL = (do
   let ov <- eval o QL
   standAt XS
   let (f,first) <- holding [ov] D6
   callWith pos f first 'ȶ' D5)) Ah) :
  PE X P5 (nP C m sp dvs E ta tNil):=by intro Y s Z H Q I h;refine PySem.W.methodCall_KW (pl:=pl) (thn ES λu U ⟨x,H1,g,G,a,dx,fs,ex,O,l,q⟩=>?_) y;subst ex;obtain rfl:u = Value.ref a:=G;refine JeA g O c j l ?_;exact PySem.W.callWith_K0 (first:=Cr) g.kIn j.kp (wV (us:=Cr) (vs:=Cr) F N B z L g MC q)
structure Mk(K:Aj)(C f:Addr):Prop where
 makes:PySem.W.makesIn K C=To
 init:PySem.W.findIn K AX "__init__"=So Ez
 fn:PySem.W.isFn K A6=To
 kp:PySem.W.keepIn K AX=To
def Jnn{Q:VK}(M:Mk X.K C f)(F:Hl)(hr:Room A4 X.A)(U:He)(L:GI)
  (hx:GH) (I:AH) (r:Gg)
  (h:∀x dx,H x=No->H dx=No->dx≠x->sp (.ref x::(vs++dvs)) (upd (upd H dx Gu) x Qck) (λv H2=>v=.non/\Q Ca H2) E):
  wpAny As X.A (call AX us) BI X.xe s:=by
 have q:=h DF Aa (I.hok.fresh (yA _)) GA (Zn YD);have j:=Inv.made (C:=C) I;have l:Vals (V.ref DF::(vs++dvs)) (Value.ref DF::(us++J)):=.cons rfl (r.append L);have hl:(Value.ref DF::us++J).length=Aw:=by have e:=Xv;rw[F.len _ _ _ _ q]at e;exact e.symm
 refine sF (Jpi (f:=f) Yf M.makes M.init (ZB.mp M.fn) (mC (F.run _ Xp _ _ ⟨Value.ref DF::us,[]⟩ (Value.ref DF::(us++J)) _ _ E (hr.make C us [])
  (j.env0.make C us []) (U _ (Value.ref DF::us) j.kIn hl) l q) λr y g=>?_))
 cases r with
 |error e=>exact hx Y Z _ _ e y j g
 |ok G=>
  cases G with
  |ret u=>obtain⟨v,W,B,O,z,N⟩:=j.after g;subst z;exact⟨O,⟨V.ref DF,W,B,rfl,N⟩⟩
  |next=>exact False.elim g
  |brk=>exact False.elim g
  |cont=>exact False.elim g
def Jjl(M:Mk X.K C f)(F:Hl)(y:Room A4 X.A)(j:Dc)(z:X.mg x=So AX)(l:He)(B:GI)(q:GH)
  (g:DH):PE X (.Call (.Name x p) [] [] pos) (tMake C sp dvs E tNil):=by intro Y s Z H Q I h;refine eG (xG I j z ?_ g);exact PySem.W.callWith_K0 Yf M.kp (Jnn (us:=[]) M F y l B q I .nil h)
end
structure FnScope(N P:Ag)(sc:AS):Prop where
 kind:sc.kind=.function
 co:sc.isCoroutine=Fo
 gen:sc.isGenerator=Fo
 nd:N.Nodup
 pre:N.take P.length=P
 par:∀x∈P,sc.names.lookup x=So .local\/sc.names.lookup x=So .cell
 nofree:∀y∈sc.names,y.2≠.free
def JfT{g:Str->Option NameKind}:∀{binds:FW}{m:Bi},(∀v,(x,v)∉binds)->bindL g binds m x=m x
 |[],_,_=>rfl
 |(n,v)::r,m,h=>by
  unfold bindL
  rw[JfT λw j=>h w (Zq _ j)]
  split
  ·have:x≠n:=by rintro rfl;exact h v zJ
   simp[this]
  ·rfl
def JfX{g:Str->Option NameKind}:∀{binds:FW}{m:Bi},(∀v,(x,v)∉binds)->bindC g binds m x=m x
 |[],_,_=>rfl
 |(n,v)::r,m,h=>by
  unfold bindC
  rw[JfX λw j=>h w (Zq _ j)]
  split
  ·rfl
  ·have:x≠n:=by rintro rfl;exact h v zJ
   simp[this]
def Jgx{g:Str->Option NameKind}{x:Str}{v:Al}:∀{P:Ag}{vs:AF}{i:Nat}{m:Bi},P.Nodup->P[i]? =So x->vs[i]? =So v->g x=So .local->
  bindL g (P.zip vs) m x=So v
 |[],_,_,_,_,h,_,_=>by simp at h
 |_::_,[],_,_,_,_,h,_=>by simp at h
 |p::P,w::vs,0,m,nd,h1,h2,hk=>by
  simp at h1 h2;subst h1;subst h2
  show bindL g ((p,w)::P.zip vs) m p=_
  unfold bindL
  rw[JfT λv j=>(iB.mp nd).1 (oJ j).1,if_pos hk]
  simp
 |p::P,w::vs,i+1,m,nd,h1,h2,hk=>by
  show bindL g ((p,w)::P.zip vs) m x=_
  unfold bindL
  exact Jgx (i:=i) (iB.mp nd).2 (by simpa using h1) (by simpa using h2) hk
def Jgd{g:Str->Option NameKind}{x:Str}{v:Al}:∀{P:Ag}{vs:AF}{i:Nat}{m:Bi},P.Nodup->P[i]? =So x->vs[i]? =So v->g x≠So .local->
  bindC g (P.zip vs) m x=So v
 |[],_,_,_,_,h,_,_=>by simp at h
 |_::_,[],_,_,_,_,h,_=>by simp at h
 |p::P,w::vs,0,m,nd,h1,h2,hk=>by
  simp at h1 h2;subst h1;subst h2
  show bindC g ((p,w)::P.zip vs) m p=_
  unfold bindC
  rw[JfX λv j=>(iB.mp nd).1 (oJ j).1,if_neg hk]
  simp
 |p::P,w::vs,i+1,m,nd,h1,h2,hk=>by
  show bindC g ((p,w)::P.zip vs) m x=_
  unfold bindC
  exact Jgd (i:=i) (iB.mp nd).2 (by simpa using h1) (by simpa using h2) hk
noncomputable def pB (N:Ag) (vs:Av):St:=vs.map So++List.replicate (N.length-AA) No
noncomputable def cxOf (CX:CXT) (P:Be) (w:A0) (K:Aj) (mg:Bi) (base:Heap) (N:Ag) (qual:Str) (scope:AS) (f:Addr) (cd:Al) (A:Bd) (outer:A5) (s:Ak) (H:Hp) (E:XK):Cx where
 prog:=P
 w:=w
 K:=K
 mg:=mg
 base:=base
 A:=A.deeper L0
 N:=N
 s₀:=s
 H₀:=H
 env:=envOfC qual scope Aa f cd
 outer:=outer
 stack:=envOfC qual scope Aa f cd::outer
 ex:=[]
 calm:=To
 fn:=λ_=>To
 pn:=[]
 xe:=λe j=>wpAny Cf (A.deeper L0) (leaving L0 e) (λ_ g=>CX outer H s E e g) (λl g=>CX outer H s E l g) j
def Jji{g:AS}{n:Nat}(h:g.names.lookup x=So .cell):∃c,(cellsFrom n g.names []).lookup x=So c:=by have q:=ZbL g.names n [] QcU;exact Option.isSome_iff_exists.mp q
theorem wY{N:Ag}{g:Str}{scope:AS}{I:Al}{outer:A5}{s1:Ak}{E:XK}
  (S:Ro) (hd:Bk) (l:FU) (hl:AA=Aw) (r:Gg)
  (x:InCallC s Aa (bindL '三'.kindOf GW λ_=>No) dE (bindC '三'.kindOf GW λ_=>No) s1):
  Inv (cxOf CX P w K mg base N g scope f I A outer s H E) [] WS H s1:=by
 have hpl:Aw<=N.length:=by have:=lA YN S.pre;rw[List.length_take]at this;lia
 obtain⟨L,tk,rfl,O⟩:=x.done;have m:∀b:Addr,b∉(cxOf CX P w K mg base N g scope f I A outer s H E).ex:=λb z=>absurd (show b∈([]:List Addr)from z) Af;refine⟨⟨l.mod,S.kind,rfl,rfl,Zf _,λy z c L j=>?_,λy B=>?_,λy c _ h=>?_,λ_=>hd,eT l.frames,.inr Dr,λb z=>absurd z (m b),l.bs,l.bsz,λb _ _=>m b,λb z=>absurd z (m b),l.funs,l.frf⟩,
  rfl,l.bare,Un.kept O,⟨_,x.toInCall.ns,λi y v L j h3=>?_⟩,λy c h=>⟨_,x.cell y c h⟩,l.hok.fresh (Zf _),λy c h=>?_,λp F=>absurd (show p∈([]:List (Addr×Obj))from F) Af,l.hok.kept O,?_⟩
 ·exact name_of_addr x.apart (vC L) (vC j)
 ·have B:scope.names.lookup y=So .cell\/scope.names.lookup y=So .free:=B;rcases B with B|B
  ·exact Jji B
  ·exact absurd rfl (S.nofree _ (vC B))
 ·exact Nat.le_of_lt Pv
 ·have J:i<AA:=by
   unfold pB at j;by_cases J:i<AA
   ·exact J
   ·rw[xE (by simpa using J)]at j;rw[uJ]at j;split at j<;>cases j
  have ha:vs[i]? =So v:=by
   unfold pB at j;rw[vE (by simpa using J),jC]at j;cases e:vs[i]? with
   |none=>rw[e]at j;cases j
   |some a=>rw[e]at j;cases j;rfl
  obtain⟨u,U,rv⟩:=r.get ha;have F:ps[i]? =So y:=by
   rw[<-S.pre,List.getElem?_take_of_lt 'd'];exact L
  have G:ps.Nodup:=by rw[<-S.pre];exact S.nd.sublist Qm
  refine⟨u,rv,?_⟩;rcases S.par y (gK F)with k|k
  ·exact .inl ⟨k,Jgx G F U k⟩
  ·obtain⟨c,e⟩:=Jji (n:=Aa+1) k
   refine .inr ⟨.inl k,c,e,?_⟩;have q:=x.cell y c e;rw[Jgd G F U (by show scope.names.lookup y≠_;rw[k];decide)]at q;exact q
 ·exact l.hok.fresh (Nat.le_of_lt Pv)
 ·unfold pB;show _=Xr;rw[Zm,Zj,iH];lia
def pK{name qual:Str}{g:Iu}{j:BH}{scope:AS}{dV kV U pm cdv ct oc:Al}{an od:DY}
  {osl:EJ} {N ps:Ag} {sp:Sp} (lk:K.lookup f=So ⟨oc,od,.func Wx,osl⟩) (hcd:PySem.W.codeIn K cdv qual=To) (S:Ro)
  (len:∀vs H Q E,sp vs H Q E->AA=Aw)
  (z:∀(A:Bd)(outer:A5)(s:Ak)(H:Hp)(vs:Av)(Q:VK)(E:XK),Room k (A.deeper (envOfC qual scope Aa f cdv))->sp vs H Q E->
   ∃t,PSs R4 j t/\t {nx:=λ_ W=>Q .non W,rt:=Q} 'ɒ' H):
  FnOk P w K mg base CX A4 f Wx ps sp:=by
 refine⟨len,λA outer s H args us vs Q E hr L hb r J=>?_⟩;have hl:=len _ _ _ _ J;have KX:K.In Re:=L.mod.kin.keeps λb o e=>(L.bs b o e).1;have lim:s.heap.NoLimit:=L.mod.nolimit.keeps λb o e=>(L.bs b o e).1;have B:∀y∈ps.zip us,scope.names.lookup y.1=So .local\/(scope.names.lookup y.1=So .cell/\((cellsFrom DF CW []).lookup y.1).isSome=To):=λ⟨n,v⟩hy=>by
  rcases S.par n (oJ hy).1 with q|q
  ·exact .inl q
  ·exact .inr S7
 refine iT hr.depth aZ rfl S.co S.gen rfl Tq (hb _ _ _ _ ?_);refine jT S.kind B λO he s1 x=>?_;subst he;refine T4;obtain⟨t,ht,hq⟩:=z A outer s H vs Q E (hr.deeper _) J;have I:Inv R4 [] WS H s1:=wY S hr.hd L hl r x;refine ZL (ht [] s1 WS H _ I hq) (λfl s' F=>?_) λe s' F=>F;have G:∀{l:St}{W:Hp}{v:V}{u:Al},Inv R4 [] l W s'->RelV v u->Q v W->CE outer P w H s Q u s':=
  fun{l W v u}m rv q=>Vu
 cases fl with
 |ret u=>obtain⟨v,l,W,m,rv,q⟩:=F;exact G m rv q
 |next=>obtain⟨l,W,m,q⟩:=F;exact G (v:=V.non) (u:=Xq) m rfl q
 |brk=>obtain⟨_,_,_,q⟩:=F;exact False.elim q
 |cont=>obtain⟨_,_,_,q⟩:=F;exact False.elim q
section
variable{id T:Ba}{r:List V->Hp->VK->Prop}
def tCB(r:List V->Hp->VK->Prop)(t:TA):TE:=λZ H Q=>t Z H λvs g=>r vs g Q
def rM(l:nA X Do r)(z:Dc)(J:X.mg x=No)(y:bootBuiltins x=So Do)(G:ID)(F:'б' (x≠"__name__") Ek)(hdb:DH)
  (he:Co) (hpl:Dd):PE X Tx (tCB r t):=by intro Y s Z H Q I h;refine eG (iL I z J y ?_ F hdb);exact PyProof.Rows.callWith_builtin1 (thn Pr λus g⟨vs,q,B,j,m⟩=>l Y g Z q vs us Q B j m) he hpl
def xY(l:nA X Ey r)(z:Dc)(J:X.mg x=No)(y:bootBuiltins x=So Ey)(G:ID)(F:'б' (x≠"__name__") Ek)(hdb:DH)
  (he:Co) (hpl:Dd):PE X Tx (tCB r t):=by intro Y s Z H Q I h;refine eG (iL I z J y ?_ F hdb);exact kT (thn Pr λus g⟨vs,q,B,j,m⟩=>l Y g Z q vs us Q B j m) he hpl
end
end L2
namespace HT
open PySem PyProof.Rows
section
variable{prog:Be}{w:A0}{A:Bd}{E:Au}{s:Ak}
def Jrw{t b:Addr}{vs ws:AF}{Q:Au}(y:IsTup Re t CF)(z:Qb)(v:vs≠[])
  (h1:ws=[]->Q GO s) (B:ws≠[]->Q E5 {s with heap:=s.heap.push {cls:=.type "tuple",data:=.seq (vs++ws).toArray}})
  (hsz:AA+ws.length<=sizeLine):wpAny Ar A QC Q E s:=by
 obtain⟨⟨cls,u,data,sl⟩,j,o,n,r⟩:=id y;obtain⟨⟨x,h,m,g⟩,a,f,q,i⟩:=id z;simp only at o r f i;subst o r f i;have e:CF++ws.toArray=(vs++ws).toArray:=by simp
 by_cases l:ws=[]
 ·exact concat_meets HI ⟨_,a,rfl⟩ noFill_tuple_add seq_tuple_add nS vS QcV
   (tuple_addW1 t b CF Qbu n q u h sl g (by simpa using v) (by simp[l])) ⟨j,a,h1 l⟩
 ·refine concat_meets HI ⟨_,a,rfl⟩ noFill_tuple_add seq_tuple_add nS vS QcV
   (tuple_addW2 t b CF Qbu n q u h sl g (by simpa using v) (by simpa using l) (by rw[Zp,Zp];exact hsz)) ⟨j,a,?_⟩
  rw[e];exact B l
noncomputable def sIx (n d:Nat):Option Int->Nat
 |none=>d
 |some v=>if v<0 then(v+(n:Int)).toNat else min QcE n
theorem JuV(n d:Nat)(b:d<=n)(o:BA):sIx n d o<=n:=by
 cases o with
 |none=>exact b
 |some v=>
  show(if v<0 then(v+(n:Int)).toNat else min QcE n)<=n;by_cases a:v<0
  ·rw[if_pos a];lia
  ·rw[if_neg a];exact Nat.min_le_right _ _
theorem JkI(v:Int)(n d:Nat):(if v<0 then max (v+(n:Int)) 0 else min v (n:Int))=((sIx n d Bj:Nat):Int):=by
 show(if v<0 then max (v+(n:Int)) 0 else min v (n:Int))=(((if v<0 then(v+(n:Int)).toNat else min QcE n):Nat):Int);by_cases a:v<0
 ·simp only[if_pos a];lia
 ·simp only[if_neg a];lia
theorem Jkc(lo hi:BA)(n:Nat):Builtin.Slice.sliceAdjust lo hi 1 (n:Int)=(((sIx n 0 lo:Nat):Int),((sIx n n hi:Nat):Int)):=by
 have a:¬((1:Int)<0):=by lia
 unfold Builtin.Slice.sliceAdjust;simp only[a,ZN];refine Prod.ext ?_ ?_
 ·cases lo with
  |none=>rfl
  |some v=>exact JkI v n 0
 ·cases hi with
  |none=>rfl
  |some v=>exact JkI v n n
theorem Jjy(i j:Nat):Builtin.Slice.slicePlaces (i:Int) (j:Int) 1=j-i:=by
 unfold Builtin.Slice.slicePlaces;have a:(1:Int)>0:=by lia
 simp only[a,if_true,Int.ediv_one];split<;>lia
def Jer{v:Al}{o:BA}{Q:Option Int->Shared->Prop}(p:IsPart v o)(h:Q o s):wpAny Ar A (Builtin.Slice.slicePartIndex v) Q E s:=by
 cases p with
 |none=>exact slicePart_none h
 |int i t=>exact slicePart_int h
def JaR{sl:Addr}{e f:Al}{lo hi:BA}{n:Nat}{Q:Int×Int×Nat->Shared->Prop}(i:s.heap.IsSliceOf sl e f .none)(pl:IsPart e lo)(g:IsPart f hi)
  (h:Q (((sIx n 0 lo:Nat):Int),1,sIx n n hi-sIx n 0 lo) s):wpAny Ar A (Builtin.Slice.sliceApplied J0 (pure (n:Int))) Q E s:=by obtain⟨l,b,j,a⟩:=id i;unfold Builtin.Slice.sliceApplied Builtin.Slice.sliceFields;refine Za (Za (ZV b a (x:=e) rfl (Za (ZV b a (x:=f) rfl (Za (ZV b a (x:=.none) rfl (Zb ?_)))))));refine Za (slicePart_none ?_);show wpAny _ _ (if((1:Int)==0)=To then _ else _) _ _ s;rw[if_neg 'E'];refine Za (Jer pl (Za (Jer g (Za (Zb ?_)))));show wpAny _ _ (match Builtin.Slice.sliceAdjust lo hi 1 (n:Int)with|(lo,hi)=>pure (lo,(1:Int),Builtin.Slice.slicePlaces lo hi 1)) _ _ s;rw[Jkc lo hi n];show wpAny _ _ (pure (((sIx n 0 lo:Nat):Int),(1:Int),Builtin.Slice.slicePlaces ((sIx n 0 lo:Nat):Int) ((sIx n n hi:Nat):Int) 1)) _ _ s;rw[Jjy];exact Zb h
theorem Jps(xs:B7)(i k:Nat):((List.range k).filterMap fun(m:Nat)=>xs[((i:Int)+(m:Int)*1).toNat]?).toArray=((xs.toList.drop i).take k).toArray:=by
 have e:(fun(m:Nat)=>xs[((i:Int)+(m:Int)*1).toNat]?)=λm=>xs[i+m]?:=by
  funext m;have:((i:Int)+(m:Int)*1).toNat=i+m:=by lia
  rw[this]
 rw[e];have:=pick_run xs i k;rw[List.filterMap_map]at this;have a:((λx=>xs[x]?)∘λx=>i+x)=λm=>xs[i+m]?:=rfl;rw[a]at this;rw[this]
theorem JcG{t sl:Addr}{items:B7}{l o:Al}{lo hi:BA}{Q:Au}(b:NR)(j:s.heap.IsSliceOf sl l o .none)(pl:IsPart l lo)(v:IsPart o hi)
  (u:¬(sIx AC 0 lo=0/\sIx AC AC hi=AC))
  (h:Q E5 {s with heap:=s.heap.push {cls:=.type "tuple",data:=.seq ('ȗ'.take F1).toArray}})
  (hsz:AC<=sizeLine):wpAny Ar A OJ Q E s:=by
 have a:sizeOk (.seq ('ȗ'.take F1).toArray):=by show('ȗ'.take F1).toArray.size<=sizeLine;rw[Zp,List.length_take,iN,ZT];lia
 have B:sIx AC AC hi<=AC:=JuV _ _ (Zf _) hi;obtain⟨r,i,e,x⟩:=id j;have f:s.TypeIs J0 "slice":=⟨r,i,e⟩;unfold getItem;try with_reducible refine qA ?_
 first|refine Za (Zb ?_)|skip
 refine Za (wpAny_sequenceKey Yx A9 ?_);refine Za (ZK (name:=oS "__getitem__") Yx nO
  (ZF nO Yx entry_tuple_getitem ?_ Qx))
 show wpAny _ _ (Builtin.Tuple.tupleItemsOf (.ref t)>>=_) _ _ s;refine Za (tupleItemsOf_ b ?_);refine Za (nD f ?_);rw[if_pos 'E'];refine Za (JaR j pl v ?_);have g:¬((((sIx AC 0 lo:Nat):Int)==0&&(1:Int)==1&& F1==AC)=To):=by intro q;rw[Zd,Zd]at q;have y:((sIx AC 0 lo:Nat):Int)=0:=eq_of_beq q.1.1;have z:sIx AC AC hi-sIx AC 0 lo=AC:=eq_of_beq q.2;exact u ⟨by lia,by lia⟩
 show wpAny _ _ (if(((sIx AC 0 lo:Nat):Int)==0&&(1:Int)==1&& F1==AC)=To then _ else _) _ _ s;rw[if_neg g,Jps];first
  |exact Za (m:=Builtin.Tuple.tupleExact _) (ZE (Zb ⟨_,rfl,Zb h⟩) a)
  |exact Za (m:=Builtin.Tuple.tupleExact _) (ZE (Za (Zb (Zb ⟨_,rfl,Zb h⟩))) a)
  |exact Za (Za (m:=Builtin.Tuple.tupleExact _) (ZE (Zb (Zb ⟨_,rfl,Zb h⟩)) a))
  |exact Za (Za (m:=Builtin.Tuple.tupleExact _) (ZE (Zb ⟨_,rfl,Zb h⟩) a))
end
end HT
namespace L2
open PySem PySem.Spec PyProof.Rows
variable{X:Cx}
noncomputable abbrev TO:=St->Hp->(Option Int->Hp->Prop)->Prop
def PO(X:Cx)(e:cY)(t:TO):Prop:=
 ∀(Y:AV)(s:Ak)(Z:St)(H:Hp)(Q:Option Int->Hp->Prop),Inv X Y Z H s->t Z H Q->
  wpAny As X.A (evalPart e QL) (λu a=>∃o W,Inv X Y Z W a/\IsPart u o/\Q o W) X.xe s
noncomputable def tNoPart:TO:=λ_ H Q=>Q No H
noncomputable def tPart (t:TE):TO:=λZ H Q=>t Z H λx a=>∃i,x=.int i/\Q (So i) a
section
variable{e:Expr}{te:TE}{lo hi:cY}{tl th:TO}{pos p2:Pos}
def JrZ:PO X No tNoPart:=by intro Y s Z H Q I h;rw[evalPart_none];exact Zb ⟨No,H,I,.none,h⟩
def JqO(h:Ew):PO X (So e) (tPart te):=by intro Y s Z H Q I f;rw[evalPart_some];refine thn (h Y s Z H _ I f) λu m a=>?_;obtain⟨x,j,l,b,g⟩:=a;obtain⟨i,rfl,q⟩:=g;obtain⟨t,rfl⟩:=b;exact⟨So i,j,l,.int i t,q⟩
def SlR(X:Cx)(r:RX):Prop:=
 ∀(Y:AV)(s:Ak)(Z:St)(H:Hp)(x:V)(v a b:Al)(lo hi:BA)(sl:Addr)(Q:VK),Inv X Y Z H s->RelV x v->s.heap.IsSliceOf sl a b .none->IsPart a lo->IsPart b hi->r x lo hi H Q->
  ∃T id,typeLookup Ey "__getitem__"=pure (So Do)/\s.TypeIs v T/\wpAny As X.A (getItem v J0) BI X.xe s
def tSl(r:RX)(te:TE)(tl th:TO):TE:=λZ H Q=>te Z H λx f=>tl Z f λl b=>th Z b λu a=>r x l u a Q
def Joz{r:RX}(z:SlR X r)(he:Ew)(P:PO X lo tl)(U:PO X hi th):PE X Ql (tSl r te tl th):=by intro Y s Z H Q I h;refine Subscript_ (thn ES λv C f=>?_);obtain⟨x,y,O,m,w⟩:=f;refine wpAny_Slice (thn (P Y C Z y _ O w) λg E⟨l,A,N,pl,G⟩=>thn (U Y E Z A _ N G) λi a f=>?_);obtain⟨u,j,o,t,L⟩:=f;rw[evalPart_none];refine Zb ?_;have J:Inv X Y Z j {a with heap:=a.heap.push {cls:=.type "slice",data:=.fields #[g,i,.none]}}:=o.kept (t':=a.toks) λb ob q=>Zc _ q;obtain⟨T,id,B,F,M⟩:=z Y {a with heap:=a.heap.push {cls:=.type "slice",data:=.fields #[g,i,.none]}} Z j x v g i l u YW Q J m (Heap.IsSliceOf.new ..) pl t L;show wpAny As X.A (subscriptTail e Wk v (.ref YW)) BI X.xe {a with heap:=a.heap.push {cls:=.type "slice",data:=.fields #[g,i,.none]}};exact tail_any (ops:=[.ref YW,v]) F B M (by with_unfolding_all rfl)
noncomputable def cutV (xs:Av) (lo hi:BA):List V:=(xs.drop R0).take R3
theorem Jdw(xs:Av)(lo hi:BA):'ȳ'.length<=Ai:=by unfold cutV;rw[List.length_take,iN];lia
def rSlT (K:Aj):V->Option Int->Option Int->Hp->VK->Prop:=λx lo hi H Q=>∃a xs,x=.ref a/\SqT K H a xs/\
 ¬(HT.sIx Ai 0 lo=0/\HT.sIx Ai Ai hi=Ai)/\∀p,H p=No->Q Fd (upd H p (.tup 'ȳ'))
def Jug:SlR X (rSlT X.K):=by
 intro Y s Z H x v w y lo hi sl Q I t m pl l h;obtain⟨a,xs,rfl,u,j,q⟩:=h;cases t;obtain⟨its,r,g,i⟩:=I.tuple u;have f:FL=Ai:=by rw[Zp];exact r.length.symm
 refine⟨"tuple",_,YX,g.typeIs,?_⟩;refine HT.JcG g m pl l (by rw[f];exact j) ?_ (by rw[f];exact i);rw[f];refine⟨.ref Aa,_,I.laid (t':=Xl) (o:=.tup 'ȳ') SO (Zf _) ?_,rfl,q _ GA⟩;exact⟨⟨ZA Qcl i,dQ⟩,_,(r.drop R0).take R3,IsTup.new _ _⟩
def rCatT(K:Aj):R2:=λx y H Q=>∃a b f ys,x=.ref a/\y=.ref b/\SqT K H a f/\SqT K H b ys/\f≠[]/\f.length+BU<=sizeLine/\
 (ys=[]->Q Ax H)/\(ys≠[]->∀p,H p=No->Q Fd (upd H p (.tup (f++ys))))
def Vals.nil_iff{xs:Av}{us:AF}(r:Vals xs us):us=[]↔xs=[]:=by
 cases r with
 |nil=>simp
 |cons _ _=>simp
def JrD:OpR X Mr (rCatT X.K):=by intro Y s Z H x y v u Q I E l h;obtain⟨a,b,C,B,rfl,rfl,J,F,G,j,A,t⟩:=h;cases E;cases l;obtain⟨r,g,m,_⟩:=I.tuple J;obtain⟨i,f,p2,_⟩:=I.tuple F;refine HT.Jrw m p2 (λz=>G (g.nil_iff.mp z)) (λz=>⟨.ref a,H,I,rfl,A (f.nil_iff.mp z)⟩) (λz=>?_) (by rw[<-g.length,<-f.length];exact j);refine⟨.ref Aa,_,I.laid (t':=Xl) (o:=.tup (C++B)) SO (Zf _) ?_,rfl,t (λw=>z (f.nil_iff.mpr w)) _ GA⟩;exact⟨⟨by rw[Zm];exact j,dQ⟩,_,g.append f,IsTup.new _ _⟩
end
noncomputable def ixN (n:Nat) (i:Int):Option Nat:=if 0<=i then(if i<n then So i.toNat else No)else if -(n:Int)<=i then So (i+n).toNat else No
def atI {α:Type} (xs:List α) (i:Int):Option α:=(ixN Ai i).bind λj=>xs[j]?
theorem Jri{n:Nat}{i:Int}{j:Nat}(h:ixN n i=So j):seqIndex? i n=So j/\j<n/\ -(n:Int)<=i/\i<n:=by
 unfold ixN at h;by_cases b:0<=i
 ·rw[if_pos b]at h;by_cases a:i<n
  ·rw[if_pos a]at h;have e:i.toNat=j:=yD h;exact⟨by rw[seqIndex_of b a,e],by lia,by lia,a⟩
  ·rw[if_neg a]at h;cases h
 ·rw[if_neg b]at h;by_cases a:-(n:Int)<=i
  ·rw[if_pos a]at h;have e:(i+n).toNat=j:=yD h;exact⟨by rw[seqIndex_neg 'd' a,e],by lia,a,by lia⟩
  ·rw[if_neg a]at h;cases h
def yW{a:Type}{xs:List a}{i:Int}{v:a}(h:atI xs i=So v):∃j,seqIndex? i Ai=So j/\xs[j]? =So v/\j<Ai/\ -(Ai:Int)<=i/\i<Ai:=by
 unfold atI at h;cases e:ixN Ai i with
 |none=>rw[e]at h;cases h
 |some j=>rw[e]at h;obtain⟨b,g,f,l⟩:=Jri e;exact⟨j,b,h,g,f,l⟩
def zQ(b:Expr):Prop:=∀o i,subscripted b Fo o i=operate [o,i] Qdy
def IxR(X:Cx)(r:R2):Prop:=
 ∀(b a:Expr)(Y:AV)(s:Ak)(Z:St)(H:Hp)(x y:V)(v u:Al)(Q:VK),Inv X Y Z H s->RelV x v->RelV y u->r x y H Q->
  subscripted a Fo v u=operate [v,u] (getItem v u)->wpAny As X.A (subscriptTail b a v u) BI X.xe s
def MtR(X:Cx)(id:Ba)(r:LO):Prop:=
 ∀(Y:AV)(s:Ak)(Z:St)(H:Hp)(x:V)(a:Av)(v:Al)(b:AF)(Q:VK),Inv X Y Z H s->RelV x v->Vals a b->r x a H Q->
  wpAny As X.A (call Do (v::b)) BI X.xe s
section
variable{a b:Expr}{ta tb:TE}{pos:Pos}
def pe_ix{r:R2}(m:IxR X r)(o:CD)(i:Fq)(g:zQ b):PE X MT Ma:=by intro Y s Z H Q I h;exact Subscript_ (binT o i I h λv u f x y t j l e q=>m a b Y f Z t x y v u Q j l e q (g _ _))
def rIxL(K:Aj):R2:=λx y H Q=>∃p e i v,x=.ref p/\y=.int i/\SqL K H p e/\atI e i=So v/\Q v H
def rIxT(K:Aj):R2:=λx y H Q=>∃p e i v,x=.ref p/\y=.int i/\SqT K H p e/\atI e i=So v/\Q v H
def rIxS:R2:=λx y H Q=>∃z i c,x=.str z/\y=.int i/\z.length<=sizeLine/\atI XX i=So c/\Q (.str ⟨#[c]⟩) H
theorem Jtc:IxR X (rIxL X.K):=by
 intro g m Y s Z H x y v u Q I O M h A;obtain⟨p,xs,i,z,rfl,rfl,G,F,q⟩:=h;cases O;obtain⟨t,rfl⟩:=M;obtain⟨its,r,pl,hz⟩:=I.list G;obtain⟨j,f,J,U,N,E⟩:=yW F;obtain⟨w,B,l⟩:=r.get J;have P:=Xz;have W:=oI;have e:EP X Y Z Q w s:=⟨z,H,I,l,q⟩;by_cases C:0<=i
 ·have o:i.toNat=j:=by
   rw[seqIndex_of C E]at f;exact yD f
  exact item_listR Yd C Ad (by rw[o];simpa using B) e A
 ·have o:(i+(FL:Int)).toNat=j:=by
   rw[seqIndex_neg 'd' N]at f;rw[Zp,<-P];exact yD f
  exact subscriptTail_builtinR (x:=w) QcQ cV
   (wpAny_getItem_list_neg (Q:=λr L=>r=w/\EP X Y Z Q r L) Yd Ad (by rw[Zp]<;>lia) Ad (by rw[o];simpa using B) ⟨rfl,e⟩) A
def JvR:IxR X (rIxT X.K):=by
 intro e g Y s Z H x y v u Q I J F h o;obtain⟨p,U,i,z,rfl,rfl,B,A,q⟩:=h;cases J;obtain⟨t,rfl⟩:=F;obtain⟨m,r,pl,hz⟩:=I.tuple B;obtain⟨j,L,C,O,W,N⟩:=yW A;obtain⟨w,G,f⟩:=r.get C;have M:=Xz;have P:=oI;have l:EP X Y Z Q w s:=⟨z,H,I,f,q⟩;exact subscriptTail_builtinR (x:=w) pl.typeIs slot_tuple_getitem.lookup
  (getItem_tuple (j:=j) (Q:=λr E=>r=w/\EP X Y Z Q r E) pl Ad Ad (by rw[Zp,<-M];exact L) (by simpa using G) ⟨rfl,l⟩) o
def Jwh:IxR X rIxS:=by
 intro e f Y s Z H x y v u Q I B m h r;obtain⟨z,i,c,rfl,rfl,M,w,q⟩:=h;obtain⟨t,rfl⟩:=B;obtain⟨G,rfl⟩:=m;obtain⟨j,g,F,J,A,o⟩:=yW w;have C:z.cps.toList.length=z.length:=by simp[Str.length]
 rw[C]at g A o;have L:=oI;exact tail_any (tJ s z t) slot_str_getitem.lookup (getItem_str (c:=c) (by
  have E:decide (i< -(2^63:Int))=Fo:=Zx Ad;have l:decide (i≥2^63)=Fo:=Zx Ad;rw[E,l,jH]) (by rw[g];simpa using F) ⟨.str ⟨#[c]⟩,H,I.tok _,AJ,q⟩) r
theorem Jgi(lo hi:BA)(n:Nat):(sliceBounds lo hi No n).1=((HT.sIx n 0 lo:Nat):Int)/\(sliceBounds lo hi No n).2.1=((HT.sIx n n hi:Nat):Int)/\(sliceBounds lo hi No n).2.2=1:=by
 refine⟨?_,?_,rfl⟩
 ·cases lo with
  |none=>simp[sliceBounds,HT.sIx]
  |some i=>
   simp only[sliceBounds,HT.sIx,Option.getD_none,show(1:Int)>0 by decide,if_true];by_cases h:i<0
   ·simp only[h,if_true]<;>lia
   ·simp only[h,ZN]<;>lia
 ·cases hi with
  |none=>simp[sliceBounds,HT.sIx]
  |some i=>
   simp only[sliceBounds,HT.sIx,Option.getD_none,show(1:Int)>0 by decide,if_true];by_cases h:i<0
   ·simp only[h,if_true]<;>lia
   ·simp only[h,ZN]<;>lia
def Jfj(its:AF)(lo hi:BA):slicePick AU lo hi No=((its.drop (HT.sIx BV 0 lo)).take (HT.sIx BV BV hi-HT.sIx BV 0 lo)).toArray:=by obtain⟨e,f,g⟩:=Jgi lo hi FL;unfold slicePick;rw[e,f,g];simp only[sliceRange_one,pick_run,Zp]<;>rfl
def rSlL (K:Aj):V->Option Int->Option Int->Hp->VK->Prop:=λx f g H Q=>∃a e,x=.ref a/\SqL K H a e/\∀p,H p=No->Q Fd (upd H p (.lst (cutV e f g)))
theorem Jsv:SlR X (rSlL X.K):=by intro Y s Z H x v u w lo hi sl Q I l j pl i h;obtain⟨a,xs,rfl,m,q⟩:=h;cases l;obtain⟨g,r,f,t⟩:=I.list m;have e:=Xz;refine⟨"list",_,cV,f.isList.typeIs,?_⟩;refine wpAny_getItem_list_slice f.isList j pl i .none Af ?_ (by rw[Zp]<;>lia);rw[Jfj,<-e];refine⟨.ref Aa,_,I.laid (t':=Xl) (o:=.lst 'ȳ') SO (Zf _) ?_,rfl,q _ GA⟩;exact⟨ZA Qcl t,_,0,(r.drop R0).take R3,Ze _ rfl⟩
theorem Jbe:nA X MB (λj H Q=>∃p ys,j=E9/\(SqL X.K H p ys\/SqT X.K H p ys)/\Q (.int BU) H):=by
 intro Y s Z H j o Q I r h;obtain⟨p,ys,rfl,f,q⟩:=h;obtain⟨u,rfl,l⟩:=uA r;cases l;have t:=oI;rcases f with f|f
 ·obtain⟨g,i,pl,m⟩:=I.list f;have e:=i.length;exact Calls.call_len_list Yd (by simp only[Zp]<;>lia) ⟨.int BU,H,I.tok _,⟨Xl+1,by rw[Zp,e]⟩,q⟩
 ·obtain⟨g,i,pl,m⟩:=I.tuple f;have e:=i.length;exact len_tuple pl (by simp only[Zp]<;>lia) ⟨.int BU,H,I.tok _,⟨Xl+1,by rw[Zp,e]⟩,q⟩
def Jgk:nA X MB (λe H Q=>∃z,e=[.str z]/\z.length<=sizeLine/\Q (.int bS) H):=by intro Y s Z H e f Q I r h;obtain⟨z,rfl,i,q⟩:=h;obtain⟨u,rfl,t,rfl⟩:=uA r;have g:=oI;exact len_str Ad ⟨.int bS,H,I.tok _,AJ,q⟩
theorem Jch:nA X Mp (λj H Q=>∃p f,j=E9/\((SqL X.K H p f/\∀l,H l=No->Q BC (upd H l (.tup f)))\/(SqT X.K H p f/\Q Fd H))):=by
 intro Y s Z H j y Q I r h;obtain⟨p,f,rfl,h⟩:=h;obtain⟨u,rfl,w⟩:=uA r;cases w;rcases h with⟨i,q⟩|⟨i,q⟩
 ·obtain⟨its,g,pl,m⟩:=I.list i;have t:=XQ;refine call_tuple_list Yd (λh' v=>?_) (by simp only[Zp]<;>lia);have I1:Inv X Y Z H {s with heap:=h'}:=I.kept (t':=Xl) v;have x:Inv X Y Z (upd H Cb (.tup f)) {s with heap:=h'.push {cls:=.type "tuple",data:=.seq AU}}:=
   I1.laid (t':=Xl) SD (Zf _) (show ObjOk Xn X.w _ _ _ (.tup f)from⟨⟨m,dQ⟩,its,g,IsTup.new _ _⟩)
  exact⟨.ref Cb,_,x,rfl,q _ D9⟩
 ·obtain⟨its,g,pl,m⟩:=I.tuple i;exact call_tuple_same pl ⟨.ref p,H,I,rfl,q⟩
def tyV(K:Aj)(T:Ba)(x:V)(H:Hp):Prop:=match x with
 |.str _=>T="str"
 |.int _=>T="int"
 |.ref p=>(T="list"/\∃e,SqL K H p e)\/(T="tuple"/\∃o,K.lookup p=So o/\o.cls=.type "tuple"/\o.dict=No)\/
   (T="dict"/\((∃kvs,H p=So AM)\/∃kvs,H p=So Ft))\/(T="set"/\∃S n,H p=So (.set S n))\/(T="list"/\∃t e,H p=So (.lsm t e))
 |_=>False
def JvL{Y:AV}{Z:St}{H:Hp}{s:Ak}{T:Ba}{x:V}{v:Al}(I:AH)(r:RelV x v)(ty:tyV X.K T x H):
  s.TypeIs v T/\∀a,v=.ref a->∃ob,s.heap.get? a=So ob/\ob.dict=No:=by
 cases x with
 |str z=>obtain⟨t,rfl⟩:=r;cases(show T="str" from ty);exact⟨tJ s z t,λ_ e=>nomatch e⟩
 |int i=>obtain⟨t,rfl⟩:=r;cases(show T="int" from ty);exact⟨typeIs_int s i t,λ_ e=>nomatch e⟩
 |ref p=>
  cases r;rcases ty with⟨rfl,q,u⟩|⟨rfl,o,f,m,j⟩|⟨rfl,f⟩|⟨rfl,S,n,f⟩|⟨rfl,t,q,f⟩
  ·obtain⟨h,_,pl,_⟩:=I.list u;refine⟨QcQ,λa e=>?_⟩;cases e;obtain⟨o,n,e,c,j,_⟩:=pl;exact⟨o,e,j⟩
  ·refine⟨⟨o,I.kIn p o f,m⟩,λa e=>?_⟩;cases e;exact⟨o,I.kIn _ o f,j⟩
  ·have z:∃o,s.heap.get? p=So o/\o.ExactDict:=by
    rcases f with⟨l,f⟩|⟨l,f⟩
    ·obtain⟨_,_,_,_,o,_,_,e,ex,_⟩:=I.hok p _ f;exact⟨o,e,ex⟩
    ·exact(show False from I.hok p _ f).elim
   obtain⟨o,e,ex⟩:=z;refine⟨⟨o,e,ex.1⟩,λa g=>?_⟩;cases g;exact⟨o,e,ex.2.1⟩
  ·obtain⟨o,_,_,_,e,ex,_⟩:=I.hok p _ f;refine⟨⟨o,e,ex.1⟩,λa g=>?_⟩;cases g;exact⟨o,e,ex.2.1⟩
  ·obtain⟨_,h,n,_,e⟩:=I.hok p _ f;refine⟨HH,λa g=>?_⟩;cases g;exact HH
 |_=>exact False.elim ty
def tBM(K:Aj)(T:Ba)(r:LO)(f:TE)(t:TA):TE:=λZ H Q=>f Z H λx e=>tyV K T x e/\t Z e λg h=>r x g h Q
variable{o e:Expr}{es:Cy}{to:TE}{t:TA}{name:Str}{apos cpos:Pos}{T id:Ba}{r:LO}
def rP(E:PlainAttrs T)(g:Slot T name id)(j:RM)(J:MtR X id r)(ho:PE X o to)(G:ID)
  (f:'б' (attributeBase o name QL Q4=eval o QL) Ah)
  (hfew:'б' (((backTo cpos (starEach E2 QL)).all (λx=>!x.1)&&(backToKw cpos NA).all (λx=>x.1.isSome)
   &&decide ((e::es).length+([]:List Keyword).length+(if([]:List Keyword).isEmpty then 0 else 1)<30))=To) Ah)
  (hline:'б' ((bK==YG)=To) Ah) (hs:Co) (hplain:'б' ((backTo cpos KJ).any (·.1)=Fo) Ah):
  PE X (.Call (.Attribute o name apos) E2 [] cpos) (tBM X.K T r to t):=by intro Y s Z H Q I h;refine wpAny_Call_method_late f hfew hline rfl (thn KG λv u i=>?_);obtain⟨x,A,m,l,ty,z⟩:=i;obtain⟨L,N⟩:=JvL m l ty;refine⟨T,id,E,g,j,L,N,?_⟩;have q:=G cpos Y u Z A _ m z;rw[hs]at q⊢;refine wO (by show(Fo||(backTo cpos KJ).any (·.1))=Fo;rw[hplain]<;>rfl) (sO ?_);exact thn q λC w⟨B,M,F,O,y⟩=>J Y w Z M x B v C Q F l O y
end
def MtM(X:Cx)(id:Ba)(r:LO):Prop:=
 ∀(Y:AV)(s:Ak)(Z:St)(H:Hp)(x:V)(a:Av)(v:Al)(b:AF)(Q:VK),Inv X Y Z H s->RelV x v->Vals a b->r x a H Q->
  wpAny As X.A (call Do (v::b)) BI X.xe s
def Vals.one:∀{x:V}{us:AF},Vals [x] us->∃u,us=[u]/\RelV x u
 |_,_,.cons r .nil=>LM
section
variable{Y:AV}{Z:St}{H:Hp}{s:Ak}{l b:Addr}{xs ys zs:Av}
def Inv.lset{its its':AF}{n:Nat}{f:Array Value->Array Value}{t':Nat}(I:AH)(a:H l=So AK)
  (e:s.heap.get? l=So {cls:=.type "list",data:=.seq AU n}) (hf:f AU=its'.toArray) (hv:Vals ys its') (hz:BU<=sizeLine):
  Inv X Y Z (upd H l Y2) {s with heap:=s.heap.update l Qcm,toks:=t'}:=by have q:=PySem.IsL.update e f;rw[hf]at q;refine I.write (x:=l) (e:=l) (by rw[a];exact trivial) BB (λh u hb g=>(ZR Re Qcm EM).trans g) ⟨_,q⟩ ?_;exact⟨hz,its',_,hv,q⟩
def Inv.lnew{its:AF}{t':Nat}(I:AH)(a:Vals ys its)(hz:BU<=sizeLine):
  Inv X Y Z (upd H Aa Y2) {s with heap:=s.heap.push {cls:=.type "list",data:=.seq AU},toks:=t'}:=
 I.laid OI (Zf _) ⟨hz,its,0,a,Ze _ rfl⟩
def Inv.fresh(I:AH):H Aa=No:=I.hok.fresh (Zf _)
def Inv.lstM(I:AH)(a:H l=So AK):Ai<=sizeLine/\∃(its:AF)(n:Nat),Vals xs its/\xs.length=BV/\s.heap.get? l=So {cls:=.type "list",data:=.seq AU n}:=by obtain⟨z,its,n,r,e⟩:=I.hok l _ a;exact⟨z,its,n,r,Xz,e⟩
end
def rAppend:V->List V->Hp->VK->Prop:=λx a H Q=>∃l xs y,x=.ref l/\a=[y]/\H l=So AK/\xs.length<sizeLine/\Q .non (upd H l (.lst (xs++[y])))
theorem JgQ:MtM X "list.append" rAppend:=by intro Y s Z H x m v o Q I g i h;obtain⟨l,j,y,rfl,rfl,b,t,q⟩:=h;cases g;obtain⟨u,rfl,f⟩:=i.one;obtain⟨z,a,n,r,w,e⟩:=I.lstM b;refine xA QbB HH QaI Um (PySem.list_append l a.toArray n u (by rw[Zp];lia)) ⟨e,?_⟩;refine⟨.non,_,I.lset (its':=a++[u]) b e Af (r.append (.cons f .nil)) ?_,rfl,q⟩;rw[Zm,sE];lia
end L2
namespace Att
open PySem PySem.W PySem.Calls PyProof.Rows
def JdP{P:Params}{h:Heap}:∀(ns:AR)(vs:AF),WellAll P h vs (ns.map WData.int)->IntsAre vs ns:=by
 intro ns;induction ns with
 |nil=>intro vs w;rw[rJ]at w;cases w;exact .nil
 |cons n ns e=>
  intro vs w;rw[Zl]at w;cases w with
  |cons a b=>cases a;exact .cons _ _ (e _ b)
theorem Jnf{l:OpenLaw}{n:Nat}(x:l.most=So n){P:Params}{h:Heap}{args:List WData}{e:AF}
  (b:l.row.toRowW.claim.pre args=To) (o:WellAll P h e args):
  ∃a vs ns,e=LL/\args=[WData.list (ns.map WData.int)]/\h.get? a=So {cls:=.type "list",data:=.seq CF}/\IntsAre vs ns/\ns.length<=n:=by
 have m:WShape.hasAll [] args [.list .int]=To:=(pre_splitW b).1;have s:l.pre.holds [] {args:=args}=To:=(pre_splitW b).2;obtain⟨d,r,rfl,y,z⟩:=hasAllW_cons m;obtain rfl:=hasAllW_nil z;obtain⟨B,rfl,w⟩:=hasW_list y;obtain⟨ns,rfl⟩:=items_int w;have f:AN<=n:=by
  unfold OpenLaw.pre at s;have j:(WTm.not (.lt (.lit (.int (n:Int))) (.len (.arg 0)))).holds [] {args:=[.list Kp]}=To:=by have j:=(holds_andW s).1;rw[x]at j;exact j
  have i:=condW_of j (w_not (w_lt w_lit (w_len_list (w_arg rfl))));rw[Zj]at i;refine Nat.le_of_not_lt λq=>?_;have u:(n:Int)<((AN:Nat):Int):=by lia
  first
   |(rw[ZH u]at i;exact absurd i (by decide))
   |(simp at i;lia)
 cases o with
 |cons v A=>
  cases A;cases v with
  |list t g=>exact⟨_,_,ns,rfl,rfl,t,JdP ns _ g,f⟩
def Jkn(l:OpenLaw)(args:List WData):l.row.toRowW.claim.post args Fu args=To:=
 postW_of (r:=bL) (X:=(To==To))
  (show WShape.has [] Fu .bool=To by first|rfl|decide|simp[WShape.has,WShape.arms,WShape.armsAll])
  (show(WTm.eq .res (.lit Fu)).value [] {args:=args,res:=So Fu,after:=args}=So (.bool (To==To))from w_eq_bool (w_res rfl) w_lit) rfl
def JhF{l:OpenLaw}{n:Nat}{q:Be}{loose:Ag}{H:(Str->Option Value)->Heap->Prop}{E:World->Heap->Prop}{d:DefRec}
  (O:l.most=So n) (y:d.params.defaults=[])
  (U:∀(w:A0)(e b:Ak)(mg mb:Bi)(i:Addr)(o:Obj)(v t h:Al)(a:Addr)(vs:AF)(ns:AR),
   Ground q loose [] H w e mg mb b.heap->E w b.heap->
   b.heap.get? i=So o->o.data=.func (docDef d.name Yy XF d.scope v t h)->b.heap.CodeRec t d.name->mg d.name=So (.ref i)->
   b.heap.get? a=So {cls:=.type "list",data:=.seq CF}->IntsAre vs ns->AN<=n->b.gens=#[]->
   codeAny (model Z0 w) callerA (.call (.ref i) RE) (λr u=>r=.ok (.ret Fu)/\OldK b.heap u.heap/\u.os=b.os/\AllBare u.gens) b):
  WalkO q loose H E bL d [] Ux:=by intro w e b mg mb G Y9 i o v t h L kV M Z A B x hg I C as m F Y z J;obtain rfl:L=.none:=Dflts.none B y;obtain rfl:kV=.none:=Dflts.noKw B;obtain⟨a,vs,ns,rfl,rfl,s,g,j⟩:=Jnf O m z;refine enter_call (mC (U w e b mg mb i o v t h a vs ns G Y9 M (fd_plain Z) A x s g j hg) λr u W=>?_);obtain⟨rfl,X,N,h4⟩:=W;exact⟨.inl ⟨.bool To,.bool To,[],rfl,λ_=>rfl,.bool To,Jkn l _,λ_=>⟨lN,λ_ P=>(nomatch P)⟩⟩,X,N,h4⟩
end Att
namespace L2
open PySem PySem.Spec PyProof.Rows
variable{H W:Hp}{X:Cx}{a:Addr}{s:Ak}{u:Al}{Y:AV}{Z:St}{w:A0}{y:V}{kvs:List (Key×V)}{A:Bd}{E:Au}{P:Be}{o:bO}{pos:Pos}
def JgA:∀{vs:AF}{ns:AR},IntsAre vs ns->Vals Q3 vs
 |_,_,.nil=>.nil
 |_,_,.cons n t h=>.cons GR (JgA h)
noncomputable def sC (s:Stmt) (j:Nat):Stmt:=match s with
 |.ClassDef _ _ _ b _ _ _ _ _ _ _=>b.getD j Pq
 |_=>.Pass ⟨0,0,0,0⟩
noncomputable def iJ (s:Stmt):Arguments:=match s with
 |.FunctionDef _ a _ _ _ _ _ _ _ _=>a
 |_=>{posonlyargs:=[],args:=[],vararg:=No,kwonlyargs:=[],kw_defaults:=[],kwarg:=No,defaults:=[]}
noncomputable def Jl (s:Stmt):List Stmt:=match s with
 |.FunctionDef _ _ b _ _ _ _ _ _ _=>b
 |_=>[]
noncomputable def Ja (s:Stmt):Scope:=match s with
 |.FunctionDef _ _ _ _ _ _ b _ _ _=>b
 |_=>{kind:=.function,names:=[],isGenerator:=Fo,isCoroutine:=Fo}
inductive Fune(K:Aj)(x qual:Str)(st:Stmt)(f:Addr)(fd:A7):Prop where
 |mk (oc:Value) (od:Option Addr) (kV doc pm:Value) (an:Option Addr) (cdv ct:Value) (osl:Array (Option Value)) (h:fd=PySem.W.fnOf x qual (iJ st) (Jl st) (Ja st) .none kV doc pm an cdv ct/\K.lookup f=So ⟨oc,od,.func fd,osl⟩/\PySem.W.codeIn K cdv qual=To):Fune K x qual st f fd
structure Fun(K:Aj)(x qual:Str)(st:Stmt)(f:Addr)(fd:A7):Prop where
 ex:Fune K x qual st f fd
 kp:PySem.W.keepIn K A6=To
section
variable{K:Aj}{mg:Bi}{base:Heap}
def Fun.binds{x qual:Str}{st:Stmt}{f:Addr}{fd:A7}{ps:Ag}(F:D7)
  (h:∀(kV doc pm:Al)(an:DY)(cdv ct:Al)(us:AF),Qdq=Aw->bindArgs R6 Lk=pure GW):Binds K fd ps []:=by obtain⟨j,i,kV,doc,pm,an,cdv,ct,b,rfl,g,e⟩:=F.ex;exact .all (h kV doc pm an cdv ct)
def JpP{x qual:Str}{st:Stmt}{f:Addr}{g:Al}{e an:DY}{b:EJ}{kV doc pm cdv ct:Al}(l:K.lookup f=So ⟨g,e,.func R6,b⟩)
  (c:PySem.W.codeIn K cdv qual=To) (k:PySem.W.keepIn K A6=To):Fun K x qual st f R6:=⟨⟨g,e,kV,doc,pm,an,cdv,ct,b,rfl,l,c⟩,k⟩
end
def iteF{A B:Prop}(h:B):if Fo=To then A else B:=by rw[if_neg ZM];exact h
def iteT{A B:Prop}(h:A):if To=To then A else B:=by rw[if_pos rfl];exact h
def Same(H W:Hp):Prop:=∀b o,H b=So o->W b=So o
def Same.refl(H:Hp):Same H H:=λ_ _ h=>h
def Same.trans{f e:Hp}(a:Same H f)(b:Same f e):Same H e:=λc o h=>b c o (a c o h)
def Same.free(e:B9){l:Addr}(h:W l=Option.none):H l=Option.none:=by
 cases q:H l with
 |none=>rfl
 |some o=>rw[e l o q]at h;cases h
def Same.seq{K:Aj}{xs:Av}(e:B9)(h:bH):SqL K W a xs:=by
 rcases h with(h|⟨o,h⟩)|h
 ·exact .inl (.inl (e _ _ h))
 ·exact .inl (.inr ⟨o,e _ _ h⟩)
 ·exact .inr h
section
variable{κ:Type}[DecidableEq κ]
noncomputable def valV (kvs:Bu) (k:κ):Option V:=(kvs.find? λb=>decide (b.1=k)).map (·.2)
noncomputable def putK (kvs:Bu) (k:κ) (v:V):List (κ×V):=
 if(kvs.any λb=>decide (b.1=k))=To then kvs.map (λb=>if b.1=k then(b.1,v)else b)else kvs++[(k,v)]
noncomputable def yY (kvs:Bu) (k:κ):List (κ×V):=kvs.filter λb=>decide (b.1≠k)
def nY{p:κ×V}{r:Bu}{k:κ}(e:p.1=k):valV (p::r) k=So p.2:=by simp[valV,zN,e]
def xX{p:κ×V}{r:Bu}{k:κ}(e:¬p.1=k):valV (p::r) k=valV r k:=by simp[valV,zN,e]
def rX(k:κ):∀kvs:List (κ×V),(kvs.any λb=>decide (b.1=k))='乩'.isSome
 |[]=>rfl
 |p::r=>by
  rw[qE]
  by_cases e:p.1=k
  ·simp only[nY e,ZH e,Bool.true_or,pN]
  ·rw[xX e,Zx e,Bool.false_or];exact rX k r
theorem JhQ(kvs:Bu)(k:κ)(v:V):'ǿ'.length<=By+1:=by
 unfold putK;split
 ·rw[Zj];lia
 ·rw[Zm,Zi,wD];lia
def RelO.isSome_eq{u:Lz}(r:RelO o u):o.isSome=u.isSome:=by
 cases o with
 |none=>cases u with
  |none=>rfl
  |some _=>exact(show False from r).elim
 |some _=>cases u with
  |none=>exact(show False from r).elim
  |some _=>rfl
def RelO.getD{u:Lz}{d:V}{d':Al}(r:RelO o u)(b:RelV d d'):RelV (o.getD d) (u.getD d'):=by
 cases o with
 |none=>cases u with
  |none=>exact b
  |some _=>exact(show False from r).elim
 |some _=>cases u with
  |none=>exact(show False from r).elim
  |some _=>exact r
def KV.val{kvs:Bu}{vs:Ci}(r:DT)(k:κ):RelO '乩' (valueAt vs k):=by
 unfold KV at r;induction r with
 |nil=>exact gA
 |@cons p q m g h t j=>
  obtain⟨i,l⟩:=h;by_cases e:p.1=k
  ·have f:q.1=k:=i.symm.trans e;have b:valueAt (q::g) k=So q.2:=by simp[valueAt,zN,f]
   rw[nY e,b];exact l
  ·have f:¬q.1=k:=λz=>e (i.trans z);have b:valueAt (q::g) k=valueAt g k:=by simp[valueAt,zN,f]
   rw[xX e,b];exact j
def KV.any{kvs:Bu}{vs:Ci}(r:DT)(k:κ):(kvs.any λb=>decide (b.1=k))=vs.any λb=>decide (b.1=k):=by
 unfold KV at r;induction r with
 |nil=>rfl
 |cons h t e=>rw[qE,qE,e,h.1]
def KV.repl{kvs:Bu}{vs:Ci}(r:DT)(k:κ)(g:DN):
  KV (kvs.map λb=>if b.1=k then(b.1,y)else b) (vs.map λb=>if b.1=k then(b.1,u)else b):=by
 unfold KV at r⊢;induction r with
 |nil=>exact .nil
 |@cons p q l m h t i=>
  rw[Zl,Zl];refine .cons ?_ i;obtain⟨f,j⟩:=h;by_cases e:p.1=k
  ·rw[if_pos e,if_pos (f.symm.trans e)];exact⟨f,g⟩
  ·rw[if_neg e,if_neg (λz=>e (f.trans z))];exact⟨f,j⟩
def KV.put{kvs:Bu}{vs:Ci}(r:DT)(k:κ)(b:DN):KV (putK kvs k y) (stored vs k u):=by
 unfold putK stored;rw[r.any k];by_cases e:(vs.any λf=>decide (f.1=k))=To
 ·rw[if_pos e,if_pos e];exact r.repl k b
 ·rw[if_neg e,if_neg e];exact Paired.snoc r ⟨rfl,b⟩
def KV.drop{kvs:Bu}{vs:Ci}(r:DT)(k:κ):KV 'ǃ' (without vs k):=by
 unfold KV at r⊢;unfold yY without;induction r with
 |nil=>exact .nil
 |@cons p q l m h t g=>
  obtain⟨f,j⟩:=h;rw[zD,zD];by_cases e:p.1=k
  ·have a:¬decide (p.1≠k)=To:=by simp[e]
   have b:¬decide (q.1≠k)=To:=by simp[f.symm.trans e]
   rw[if_neg a,if_neg b];exact g
  ·have i:¬q.1=k:=λz=>e (f.trans z);have a:decide (p.1≠k)=To:=by simp[e]
   have b:decide (q.1≠k)=To:=by simp[i]
   rw[if_pos a,if_pos b];exact .cons ⟨f,j⟩ g
def KV.keys{kvs:Bu}{vs:Ci}(r:DT):kvs.map (·.1)=vs.map (·.1):=by
 unfold KV at r;induction r with
 |nil=>rfl
 |cons h t b=>rw[Zl,Zl,b,h.1]
def KV.length{kvs:Bu}{vs:Ci}(r:DT):By=AA:=mJ r
def JoZ(kvs:Bu)(k:κ):'ǃ'.length<=By:=List.length_filter_le _ _
end
def vH{k:Key}(r:RelV (kV k) u):(JN P w).is k u=To:=by
 cases k with
 |inl i=>obtain⟨t,e⟩:=(show∃t,u=Value.int i t from r);subst e;exact JhH P w i t
 |inr x=>obtain⟨t,e⟩:=(show∃t,u=Value.str x t from r);subst e;exact JdE P w x t
 |non=>cases(show u=Xq from r);rfl
section
variable{h:Heap}
def rd_of{u:HO}(ok:Ct)(e:Rd H a u):ObjOk P w H h a u:=e.ok ok
def yC(ok:Ct)(e:Rd H a AM):By<=sizeLine/\(a==sysModules)=Fo/\∃b,KV kvs b/\h.DictOf aJ a b:=
 show ObjOk P w H h a AM from rd_of ok e
def rT(ok:Ct)(e:H a=So AM):By<=sizeLine/\(a==sysModules)=Fo/\∃b,KV kvs b/\h.DictOf aJ a b:=yC ok (.inl e)
end
def DGet(H:Hp)(a:Addr)(y:V)(r:bO):Prop:=
 (∃kvs k,Rd H a AM/\y=kV k/\r=valV kvs k)\/False
def DPut(H:Hp)(a:Addr)(y v:V)(W:Hp):Prop:=
 (∃kvs k,H a=So AM/\y=kV k/\kvs.length<sizeLine/\W=upd H a (.dK 'ǿ'))\/False
def DPut.k{k:Key}{v:V}(e:H a=So AM)(b:By<sizeLine):DPut H a (kV k) v (upd H a (.dK 'ǿ')):=.inl ⟨kvs,k,e,rfl,b,rfl⟩
section
variable{v:V}{r:Al}
def Inv.big(I:AH):sysModules<Aa:=by have h:mainGlobals<Aa:=(I.mod.glob.keeps I.bk).lt;exact Nat.lt_trans A9 h
def JfM{Q:Au}(G:A.units+60<cLine)(I:AH)(g:DGet H a y Bj)(m:DN)(h:∀b j,Inv X Y Z H j->RelV v b->Q b j):
  wpAny As A (getItem Ax u) Q E s:=by
 rcases g with⟨kvs,k,e,B,l⟩|x
 ·subst B;obtain⟨z,F,C,i,t⟩:=yC Xy e;obtain⟨b,q,f⟩:=RelO.some_of (v:=v) (o:=valueAt C k) (by rw[l];exact i.val k);exact wpAny_getItem_of (vH m) t.mapOf q (h b _ GG f)
 ·exact x.elim
def d_in{Q:Au}(B:A.units+60<cLine)(I:AH)(g:Ly)(i:DN)(h:∀f,Inv X Y Z H f->Q (.bool bT) f):
  wpAny As A (compareOp .In u Ax) Q E s:=by
 rcases g with⟨kvs,k,e,j,l⟩|m
 ·subst j;obtain⟨z,q,x,b,t⟩:=yC Xy e;refine wpAny_in_of (vH i) q t.mapOf ?_;rw[<-(b.val k).isSome_eq,<-l];exact h _ GG
 ·exact m.elim
def JsP{Q:Au}(B:A.units+60<cLine)(I:AH)(g:Ly)(i:DN)(h:∀f,Inv X Y Z H f->Q (.bool (!o.isSome)) f):
  wpAny As A (compareOp .NotIn u Ax) Q E s:=by
 rcases g with⟨kvs,k,e,j,l⟩|m
 ·subst j;obtain⟨z,q,x,b,t⟩:=yC Xy e;refine wpAny_notIn_of (vH i) q t.mapOf ?_;rw[<-(b.val k).isSome_eq,<-l];exact h _ GG
 ·exact m.elim
def Jkv{h':Heap}{t':Nat}{ob:HO}(I:AH)(g:Mut (H a))(h:Heap.SameBut a Re h')(i:∃q,h'.get? a=So q)(new:ObjOk Xn X.w (upd H a ob) h' a ob):
  Inv X Y Z (upd H a ob) {s with heap:=h',toks:=t'}:=
 I.write (x:=a) (e:=a) g BB (λb q f z=>(h.2 b f).trans z) i new
def JpT{h':Heap}{vs:List (Key×Value)}(z:By<=sizeLine)(e:(a==sysModules)=Fo)(b:DT)(dd:h'.DictOf aJ a vs):
  ObjOk P w W h' a AM:=⟨z,e,vs,b,dd⟩
theorem Jge{Q:C8}(U:A.units+60<cLine)(I:AH)(g:DPut H a y v W)(m:DN)(J:RelV v r)(h:∀i,Inv X Y Z W i->Q () i):
  wpAny As A (setItem Ax u r) Q E s:=by
 rcases g with⟨kvs,k,e,G,l,L⟩|C
 ·subst G L;obtain⟨z,x,vs,f,B⟩:=rT Xy e;have M:AA<=sizeLine:=by rw[<-f.length];exact z
  have O:'ǿ'.length<=sizeLine:=by have:=JhQ kvs k v;lia
  refine wpAny_setItem_pairs (hsz:=M) (vH m) B λj b t=>h _ ?_;have F:∃q,j.get? a=So q:=let⟨q,_,_,N,_⟩:=b;⟨q,N⟩;exact Jkv I (by rw[e];exact gA) t F (JpT O x (f.put k J) b)
 ·exact C.elim
end
section
variable{k:Key}
def d_pop{v:V}{b:AF}{Q:Au}(I:AH)(e:H a=So AM)(m:RelV (kV k) u)(l:valV kvs k=So v)(G:b=[]\/∃x,b=[x])
  (h:∀g B,Inv X Y Z (upd H a IH) B->RelV v g->Q g B):wpAny As A (call (.builtin "dict.pop") (.ref a::u::b)) Q E s:=by
 obtain⟨z,N,F,f,C⟩:=rT Xy e;obtain⟨g,L,r⟩:=RelO.some_of (v:=v) (o:=valueAt F k) (by rw[<-l];exact f.val k);have hp:(keyPart u).isSome=To:=by
  cases k with
  |inl i=>obtain⟨t,q⟩:=(show∃t,u=Value.int i t from m);subst q;rfl
  |inr x=>obtain⟨t,q⟩:=(show∃t,u=Value.str x t from m);subst q;rfl
  |non=>cases(show u=Xq from m);rfl
 have U:argsOk "dict.pop" ⟨.ref a::u::b,[]⟩:=by
  rcases G with q|⟨x,q⟩
  ·subst q;exact PySem.F.args_dict_pop_2 _ _
  ·subst q;exact PySem.F.args_dict_pop_3 _ _ _
 refine call_meetsIn dH C.typeIs PySem.F.entry_dict_pop U (meets_dict_pop_there Mq a (vH m) b G hp)
  ⟨F,g,C,by rw[<-f.length];exact z,L,λJ j M=>h g _ ?_ r⟩
 have O:∃q,J.get? a=So q:=let⟨q,_,_,hq,_⟩:=j;⟨q,hq⟩;exact Jkv I (by rw[e];exact gA) M O (JpT (ZA (JoZ kvs k) z) N (f.drop k) j)
end
def NoSl(i:Expr):Prop:=∀e b,subscripted i Fo e b=operate [e,b] (getItem e b)
def Jsr{prog:Be}{O:Env}{e b:Expr}{T id:Ba}{Q:Au}
  (B:typeLookup Ey "__getitem__"=pure (So Do)) (z:NoSl b)
  (h:wpAny Ar A bZ (λo j=>wpAny Ar A (eval b O) (λi f=>f.TypeIs o T/\wpAny Ar A Qdy Q E f) E j) E s):
  wpAny Ar A (eval (.Subscript e b pos) O) Q E s:=by
 refine Subscript_ (ZL h (λo j t=>ZL t (λi f g=>?_) λ_ _ x=>x) λ_ _ x=>x);obtain⟨v,g⟩:=g;unfold subscriptTail;refine Za ?_;rw[getitemInPython_of_ne v.not_modules];refine Za (wpAny_specialOf v B ?_);have m:wpAny Ar A (subscripted b Fo o i) (λr l=>wpAny Ar A (letTemporaryGo e o r>>=λ_=>pure r) Q E l) E f:=by rw[z o i];exact wpAny_operating (ZL g (λr l q=>Za (wpAny_letTemporaryGo (Zb q))) λ_ _ x=>x)
 first
  |exact Zb (Za m)
  |exact Za (Zb (Za m))
  |exact Za m
def Jhq(I:AH)(g:Ly):s.TypeIs Ax "dict":=by
 rcases g with⟨kvs,k,e,_,_⟩|b
 ·obtain⟨_,_,h,_,f⟩:=yC Xy e;exact f.typeIs
 ·exact b.elim
def tDGet(e ty:TE):TE:=λZ H Q=>e Z H λx f=>ty Z f λy b=>∃a v,x=.ref a/\DGet b a y Bj/\Q v b
def tDIn(ty e:TE):TE:=λZ H Q=>ty Z H λy f=>e Z f λx b=>∃a o,x=.ref a/\DGet b a y o/\Q (.bl bT) b
def Jre(ty e:TE):TE:=λZ H Q=>ty Z H λy f=>e Z f λx b=>∃a o,x=.ref a/\DGet b a y o/\Q (.bl (!o.isSome)) b
def sDPut(e ty g:TE):TS:=λD Z H=>g Z H λv i=>e Z i λx h=>ty Z h λy f=>∃a b,x=.ref a/\DPut f a y v b/\D.nx Z b
def sDAug(f ty h:TE)(l:V->V->Hp->VK->Prop):TS:=λD Z H=>f Z H λx m=>ty Z m λy e=>∃a v,x=.ref a/\DGet e a y Bj/\
 h Z e λi g=>l v i g λz j=>∃b,DPut j a y z b/\D.nx Z b
section
variable{o i e value:Expr}{pos' tpos:Pos}{td ty tv:TE}
def Jst(J:GC)(ho:Fp)(hi:Ir)(r:NoSl i):PE X (.Subscript o i pos) (tDGet td ty):=by intro Y s Z H Q I h;refine Jsr PySem.F.slot_dict_getitem.lookup r (thn KG λu l⟨x,B,C,F,t⟩=>thn (hi Y l Z B _ C t) λO L f=>?_);obtain⟨y,G,j,q,a,v,ex,g,z⟩:=f;subst ex;obtain rfl:u=Value.ref a:=F;exact⟨Jhq j g,JfM J j g q λM N m b=>⟨v,G,m,b,z⟩⟩
def Jqu(F:GC)(hi:Ir)(ho:Fp):PC X .In i o (tDIn ty td):=by intro Y s Z H Q I h;refine thn Oe λL f⟨y,r,t,l,q⟩=>thn Od λu G b=>?_;obtain⟨x,C,z,v,a,B,ex,g,m⟩:=b;subst ex;obtain rfl:u=Value.ref a:=v;exact d_in F z g l λJ j=>⟨.bl B.isSome,C,j,rfl,m⟩
def JkP(F:GC)(hi:Ir)(ho:Fp):PC X .NotIn i o (Jre ty td):=by intro Y s Z H Q I h;refine thn Oe λL f⟨y,r,t,l,q⟩=>thn Od λu G b=>?_;obtain⟨x,C,z,v,a,B,ex,g,m⟩:=b;subst ex;obtain rfl:u=Value.ref a:=v;exact JsP F z g l λJ j=>⟨.bl (!B.isSome),C,j,rfl,m⟩
def JlC(U:GC)(ho:Fp)(hi:Ir)(G:HK)(f:swapsWith value (So (.Subscript o i pos')) Xt QL=pure Fo):
  PS X (.Assign [.Subscript o i pos'] value pos) (sDPut td ty tv):=by intro Y s Z H D I h;refine wpAny_Assign_Subscript (thn Qad λr q⟨v,l,L,J,j⟩=>thn (ho Y q Z l _ L j) λu z⟨x,m,N,M,B⟩=>thn (hi Y z Z m _ N B) λiv s3⟨y,H3,b,t,a,O,ex,g,F⟩=>?_) f;subst ex;obtain rfl:u=Value.ref a:=M;exact Jge U b g t J λs4 C=>⟨Z,O,C,F⟩
def JrX{C:bN}{F:V->V->Hp->VK->Prop}(B:GC)(ho:Fp)(hi:Ir)(hv:HK)(q:InOp X C F)
  (ha:∀j f b,augStore i j f b=(do holding [b,j,f] (setItem j f b);release [b,j,f] [];pure .next)):PS X (.AugAssign (.Subscript o i tpos) C value pos) (sDAug td ty tv F):=by intro Y s Z H D I h;refine wpAny_AugAssign_SubscriptAny (thn KG λu s1⟨x,U,I1,rx,M⟩=>thn (hi Y s1 Z U _ I1 M) λf s2⟨y,H2,I2,t,a,v,ex,g,q2⟩=>?_) ha;subst ex;obtain rfl:u=Value.ref a:=rx;refine JfM B I2 g t λJ s3 G l=>thn (hv Y s3 Z H2 _ G q2) λw2 L⟨y2,H3,I4,m,q3⟩=>thn (q Y L Z H3 v y2 J w2 _ I4 l m q3) λw3 s5 r=>?_;obtain⟨z,H4,I5,N,H5,O,q4⟩:=r;exact Jge B I5 O t N λs6 I6=>⟨Z,H5,I6,q4⟩
end
def Jnm(h:Heap)(b:sysModules<BL):ObjOk P w H (h.push {cls:=.type "dict",data:=.dict #[]}) BL aL:=
 ⟨mB _,Zw.mpr (Ne.symm (Zn b)),[],.nil,Heap.DictOf.new h⟩
def tDNewK:TE:=λ_ H Q=>∀p,H p=No->Q Fd (upd H p aL)
def rY:PE X Qae tDNewK:=λY s Z H Q I h=>
 wpAny_Dict_empty ⟨.ref Aa,_,I.laid (a:=Aa) (o:=.dK []) (t':=Xl) OI (Zf _) (Jnm Re I.big),rfl,h _ GA⟩
structure M1(X:Cx)(o:Expr)(m:Str)(apos:Pos)(e:Expr)(cpos:Pos):Prop where
 base:attributeBase o m QL Q4=eval o QL
 few:((backTo cpos OY).all (λx=>!x.1)&&(backToKw cpos NA).all (λx=>x.1.isSome)
  &&decide (([e]:List Expr).length+([]:List Keyword).length+(if([]:List Keyword).isEmpty then 0 else 1)<30))=To
 line:(bK==YG)=To
 trees:backTo cpos OY=[Xa]
structure M2(X:Cx)(o:Expr)(m:Str)(apos:Pos)(e f:Expr)(cpos:Pos):Prop where
 base:attributeBase o m QL Q4=eval o QL
 few:((backTo cpos P4).all (λx=>!x.1)&&(backToKw cpos NA).all (λx=>x.1.isSome)
  &&decide (([e,f]:List Expr).length+([]:List Keyword).length+(if([]:List Keyword).isEmpty then 0 else 1)<30))=To
 line:(bK==YG)=To
 trees:backTo cpos P4=[Xa,(Fo,eval f QL)]
def IsD(H:Hp)(a:Addr):Prop:=(∃kvs,Rd H a AM)\/∃kvs,Rd H a Ft
def Jqm(I:AH)(d:IsD H a):
  s.TypeIs Ax "dict"/\(∀b,Value.ref a=.ref b->∃ob,s.heap.get? b=So ob/\ob.dict=No)/\(a==sysModules)=Fo:=by
 rcases d with⟨kvs,e⟩|⟨kvs,e⟩
 ·obtain⟨_,h,j,_,f⟩:=yC Xy e;refine⟨f.typeIs,λb q=>?_,h⟩;cases q;obtain⟨ob,_,_,g,i,_⟩:=f;exact⟨ob,g,i.2.1⟩
 ·exact e.elim (λq=>(I.hok a _ q).elim) λ⟨_,q⟩=>(I.hok a _ q).2.elim
section
variable{d:V}{r:Al}
def Jvq{Q:Au}(B:A.units+60<cLine)(I:AH)(g:Ly)(m:DN)(h:∀i f,Inv X Y Z H f->RelV Qdz i->Q i f):
  wpAny As A (call (.builtin "dict.get") [.ref a,u]) Q E s:=by
 rcases g with⟨kvs,k,e,v,l⟩|t
 ·subst v;obtain⟨z,q,x,b,j⟩:=yC Xy e;refine call_meetsIn dI j.typeIs PySem.F.entry_dict_get (PySem.F.args_dict_get_2 _ _) (meets_dict_get Mq a (vH m) q) ⟨_,j.mapOf,h _ _ GG ?_⟩;rw[l];exact(b.val k).getD rfl
 ·exact t.elim
end
def JuD(f ty:TE):TE:=λZ H Q=>f Z H λx e=>∃a,x=.ref a/\IsD e a/\ty Z e λy b=>∃o,DGet b a y o/\Q Qdz b
def JtN(f ty:TE):TE:=λZ H Q=>f Z H λx b=>∃a,x=.ref a/\IsD b a/\ty Z b λy e=>∃kvs k v,e a=So AM/\y=kV k/\valV kvs k=So v/\Q v (upd e a IH)
section
variable{o e f:Expr}{apos cpos:Pos}{td ty tx:TE}
def Jop(M:GC)(ho:Fp)(r:PE X e ty)(m:M1 X o "get" apos e cpos):PE X (.Call (.Attribute o "get" apos) [e] [] cpos) (JuD td ty):=by intro Y s Z H Q I h;refine wpAny_Call_method m.base m.few m.line uS dI PySem.F.type_dict_get (thn KG λu B i=>?_);obtain⟨x,t,j,J,a,ex,d,q⟩:=i;subst ex;obtain rfl:u=Value.ref a:=J;obtain⟨L,z,_⟩:=Jqm j d;refine⟨L,z,?_⟩;rw[m.trees];refine wO rfl (sO (Calls.spliced_cons (thn (r Y B Z t _ j q) λO U⟨y,v,G,C,ov,g,F⟩=>Calls.spliced_nil ?_)));exact Jvq M G g C λN s3 l b=>⟨_,v,l,b,F⟩
def JoI(ho:Fp)(r:PE X e ty)(m:M1 X o "pop" apos e cpos):PE X (.Call (.Attribute o "pop" apos) [e] [] cpos) (JtN td ty):=by intro Y s Z H Q I h;refine wpAny_Call_method m.base m.few m.line uS dH PySem.F.type_dict_pop (thn KG λu C g=>?_);obtain⟨x,t,i,L,a,ex,d,q⟩:=g;subst ex;obtain rfl:u=Value.ref a:=L;obtain⟨N,B,_⟩:=Jqm i d;refine⟨N,B,?_⟩;rw[m.trees];refine wO rfl (sO (Calls.spliced_cons (thn (r Y C Z t _ i q) λU s2⟨y,H2,J,F,kvs,k,v,M,z,l,G⟩=>Calls.spliced_nil ?_)));subst z;exact d_pop J M F l BB λO s3 j b=>⟨v,_,j,b,G⟩
end
end L2
namespace Pu
open PySem
variable{α β:Type}{E:C6}{nt:Nat}
inductive D where
 | non | bl (b:Bool) | int (i:Int) | str (x:Str) | tup (ds:List D) | lst (ds:List D)
 | dct (t z:Bool) (ks vs:List D) | exc (c:Str) | fn (x:Str) (i:Nat)
 | obj (a:Nat) (ns:List Str) (fs:List D)
 | mls (t:Str) (ds:List D) | adr (b:Nat)
 deriving Inhabited
inductive Rs(α:Type)where
 |ok (a:α)|ex (c:Str)|sk
variable{P:D->Prop}
noncomputable def Rs.bind :Rs α->(α->Rs β)->Rs β
 |.ok a,f=>f a
 |.ex c,_=>.ex c
 |.sk,_=>.sk
noncomputable def Rs.calm :Rs α->Rs α
 |.ok a=>.ok a
 |.ex _=>.sk
 |.sk=>.sk
@[simp]def Rs.calm_ok(a:α):(Rs.ok a).calm=.ok a:=rfl
def Rs.Good(r:Rs α)(P:α->Prop)(E:C6):Prop:=
 match r with
 |.ok a=>P a
 |.ex c=>E c
 |.sk=>False
@[simp]def Rs.bo(a:α)(f:α->Rs β):(Rs.ok a).bind f=f a:=rfl
@[simp]def Rs.bind_ex(c:Str)(f:α->Rs β):(Rs.ex c:Rs α).bind f=.ex c:=rfl
@[simp]def Rs.bind_stuck(f:α->Rs β):(Rs.sk:Rs α).bind f=.sk:=rfl
def Rs.bind_assoc{b:Type}(r:Rs α)(f:α->Rs β)(g:β->Rs b):'ը'.bind g=r.bind λa=>(f a).bind g:=by cases r<;>rfl
def Rs.gB{r:Rs α}{f:α->Rs β}{P:β->Prop}:'ը'.Good P E↔r.Good (λa=>(f a).Good P E) E:=by cases r<;>rfl
def Rs.good_calm{r:Rs α}{P:α->Prop}{b:C6}(h:r.calm.Good P E):r.Good P b:=by
 cases r with
 |ok a=>exact h
 |ex c=>exact h.elim
 |sk=>exact h
def Rs.Good.mono{r:Rs α}{P e:α->Prop}{b:C6}(h:Gf)(f:∀a,P a->e a)(g:∀c,E c->b c):r.Good e b:=by
 cases r with
 |ok a=>exact f a h
 |ex c=>exact g c h
 |sk=>exact h
def Rs.Good.imp{r:Rs α}{P b:α->Prop}(h:Gf)(e:∀a,P a->b a):r.Good b E:=h.mono e λ_ x=>x
mutual
def D.eqv:D->D->Bool
 |.non,.non=>To
 |.bl a,.bl b=>a==b
 |.bl a,.int b=>(if a then 1 else 0)==b
 |.int a,.bl b=>a==(if b then 1 else 0)
 |.int a,.int b=>a==b
 |.str a,.str b=>a==b
 |.tup as,.tup bs=>eqvs as bs
 |.lst as,.lst bs=>eqvs as bs
 |_,_=>Fo
def eqvs:List D->List D->Bool
 |[],[]=>To
 |a::as,b::bs=>D.eqv a b&&eqvs as bs
 |_,_=>Fo
end
mutual
def D.imm:D->Bool
 |.non=>To
 |.bl _=>To
 |.int _=>To
 |.str _=>To
 |.exc _=>To
 |.fn _ _=>To
 |.tup J=>imms J
 |.lst _=>Fo
 |.dct _ z _ a=>z&&imms a
 |.obj _ _ _=>Fo
 |.mls _ _=>Fo
 |.adr _=>Fo
def imms:List D->Bool
 |[]=>To
 |d::J=>D.imm d&&imms J
end
mutual
def D.dep:D->Nat
 |.non=>0
 |.bl _=>0
 |.int _=>0
 |.str _=>0
 |.tup J=>deps J+1
 |.lst J=>deps J+1
 |.dct _ _ _ _=>1000
 |.exc _=>1000
 |.fn _ _=>1000
 |.obj _ _ _=>1000
 |.mls _ _=>1000
 |.adr _=>1000
def deps:List D->Nat
 |[]=>0
 |d::J=>max (D.dep d) (deps J)
end
mutual
theorem jL:∀d:D,d.dep<=900->d.eqv d=To
 |.non,_=>rfl
 |.bl b,_=>ZD b
 |.int i,_=>ZD i
 |.str x,_=>ZD x
 |.tup J,h=>eX J (kN h)
 |.lst J,h=>eX J (kN h)
 |.dct _ _ _ _,h=>by simp only[D.dep]at h;lia
 |.exc _,h=>by simp only[D.dep]at h;lia
 |.fn _ _,h=>by simp only[D.dep]at h;lia
 |.obj _ _ _,h=>by simp only[D.dep]at h;lia
 |.mls _ _,h=>by simp only[D.dep]at h;lia
 |.adr _,h=>by simp only[D.dep]at h;lia
theorem eX:∀J:List D,deps J<=900->eqvs J J=To
 |[],_=>rfl
 |d::J,h=>by rw[show eqvs (d::J) (d::J)=(d.eqv d&&eqvs J J)from rfl,jL d (ZA (Nat.le_max_left _ _) h),eX J (ZA (Nat.le_max_right _ _) h)];rfl
end
def kP(x y:Str):(D.str x).eqv Gs=(x==y):=rfl
def JtI(a b:D)(as bs:Am):eqvs (a::as) (b::bs)=(a.eqv b&&eqvs as bs):=rfl
noncomputable def ixn (n:Nat) (i:Int):Option Nat:=if 0<=i then(if i<n then So i.toNat else No)else if -(n:Int)<=i then So (i+n).toNat else No
def atD  (xs:List α) (i:Int):Option α:=(ixn Ai i).bind λj=>xs[j]?
noncomputable def six (n d:Nat):Option Int->Nat
 |none=>d
 |some v=>if v<0 then(v+(n:Int)).toNat else min QcE n
def cutD  (xs:List α) (lo hi:BA):List α:=(xs.drop (six Ai 0 lo)).take (six Ai Ai hi-six Ai 0 lo)
noncomputable def lD:Nat:=16777216
noncomputable def Rs.ofOpt :Option α->Rs α
 |some a=>.ok a
 |none=>.sk
noncomputable def jK (x:Str):List D:=x.cps.toList.map λc=>.str ⟨#[c]⟩
def D.walk:D->Rs aM
 |.tup J=>.ok J
 |.lst J=>.ok J
 |.str x=>.ok (jK x)
 |_=>.sk
def D.truth:D->Rs Bool
 |.non=>.ok Fo
 |.bl b=>.ok b
 |.int i=>.ok (i !=0)
 |.str x=>if x.length<=lD then .ok ((Xo:Int)!=0)else .sk
 |.tup J=>.ok (!J.isEmpty)
 |.lst J=>.ok (!J.isEmpty)
 |_=>.sk
noncomputable def D.bound:D->Rs (Option Int)
 |.non=>.ok No
 |.int i=>.ok (So i)
 |_=>.sk
noncomputable def ltS (a b:Str):Bool:=decide (a.cps.toList<b.cps.toList)
def insS (x:Str):List Str->List Str
 |[]=>[x]
 |y::ys=>if x==y then y::ys else if ltS x y then x::y::ys else y::insS x ys
def Jn:List Str->List Str
 |[]=>[]
 |x::xs=>insS x (Jn xs)
noncomputable def mkS (l:Aq):Str:=⟨l.toArray⟩
noncomputable def Jo (sep:Aq):List (List Nat)->List Nat
 |[]=>[]
 |[x]=>x
 |x::y::r=>x++(sep++Jo sep (y::r))
noncomputable def oP (x:Nat):List (List Nat)->List CV
 |[]=>[[x]]
 |p::r=>(x::p)::r
def Js (c:Nat):List Nat->List CV
 |[]=>[[]]
 |x::l=>if x=c then[]::Js c l else oP x (Js c l)
noncomputable def cutL (c:Nat):List Nat->List Nat×Option CV
 |[]=>([],No)
 |x::l=>if x=c then([],So l)else(x::(cutL c l).1,(cutL c l).2)
def gF (x:Aq) (c:Nat):D:=match cutL c x with
 |(a,So b)=>.tup [.str Qaw,.str (mkS [c]),.str (mkS b)]
 |(_,No)=>.tup [.str (mkS x),.str Td,.str Td]
noncomputable def JF:List D->Option b0
 |[]=>So []
 |.str x::J=>(JF J).map (x::·)
 |_::_=>No
inductive O1 where
 |neg|not|isN|notN|len|all|any|tuple|list|sset|lset|truth|isStr|isTup|range|enum|asI|rows|isC (cs:List Str) (c:Str)|items|dictP|join|dKeyW|fld (f:Str)|sortD|isO (ns:List Str)
inductive O2 where
 |add|sub|mul|fdiv|mod|eq|ne|lt|le|gt|ge|isin|idx|zip|rep|index|count|dIn (t:Bool)|dNi (t:Bool)|dGet (t:Bool)|joinS|splitS|partS|ends|strt|dNe
noncomputable def smallI (i:Int):Bool:=decide (-(2^64)<i)&&decide (i<2^64)
noncomputable def midI (i:Int):Bool:=decide (-(2^62)<=i)&&decide (i<2^62)
noncomputable def Jy (a:D):Bool:=decide (a.dep<=20)
noncomputable def upTo (lo:Int) (n:Nat):List D:='Ժ'.map fun(k:Nat)=>D.int (lo+(k:Int))
noncomputable def qR (k:Nat):List D->List D
 |[]=>[]
 |d::J=>.tup [.int k,d]::qR A4 J
noncomputable def zipD:List D->List D->List D
 |a::as,b::bs=>.tup [a,b]::zipD as bs
 |_,_=>[]
noncomputable def xB:List D->Option (List Bool)
 |[]=>So []
 |.bl b::J=>(xB J).map (b::·)
 |_::_=>No
noncomputable def digs (cs:Aq):Nat:=cs.foldl (λa c=>a*10+(c-48)) 0
noncomputable def iI:D->Option Str
 |.str x=>if x.length<=1000 then So x else No
 |.int i=>if i.natAbs<2^64 then So (toString i:Ba)else No
 |_=>No
def iF:List D->Option Str
 |[]=>So X5
 |d::J=>match iI d,iF J with
  |some x,So y=>if x.length+y.length<=2000 then So (x++y)else No
  |_,_=>No
noncomputable def fF (kp:D->Bool):List D->Option (List D×List D)
 |[]=>So ([],[])
 |d::J=>match d with
  |.tup [k,v]=>if kp k then(fF kp J).map λp=>(k::p.1,v::p.2)else No
  |_=>No
noncomputable def keyN:D->Bool
 |.str _=>To
 |.non=>To
 |_=>Fo
noncomputable abbrev qT:List D->Option (List D×List D):=fF keyN
noncomputable def banD (x:Str):Bool:=x==oS "any"||x==oS "number"||x==oS "one"||x==oS "rest"||x==oS "word"
noncomputable def keyB:D->Bool
 |.int _=>To
 |.str _=>To
 |.non=>To
 |_=>Fo
def keyD (t:Bool):D->Bool
 |.tup _=>Fo
 |d=>!t&&keyB d
noncomputable def jA (k:D):List D->List D->Option D
 |a::ks,v::vs=>if a.eqv k then So v else jA k ks vs
 |_,_=>No
noncomputable def setD (k v:D):List D->List D->List D
 |a::ks,u::vs=>(if a.eqv k then v else u)::setD k v ks vs
 |_,vs=>vs
def putD (k v:D) (ks vs:Am):List D×List D:=if ks.any λa=>a.eqv k then(ks,setD k v ks vs)else(ks++[k],vs++[v])
noncomputable def idxD (x:D):List D->Option Nat
 |[]=>No
 |d::J=>if d.eqv x then So 0 else(idxD x J).map (·+1)
noncomputable def JqM:List D->Option b7
 |[]=>So []
 |.int i::J=>(JqM J).map (i::·)
 |_::_=>No
noncomputable def lexI:List Int->List Int->Bool
 |[],[]=>Fo
 |[],_::_=>To
 |_::_,[]=>Fo
 |i::is,j::js=>if i=j then lexI is js else decide (i<j)
def keysOf:List D->Option (List b7)
 |[]=>So []
 |.tup ks::J=>match JqM ks,keysOf J with
  |some k,So r=>So (k::r)
  |_,_=>No
 |_::_=>No
noncomputable def wK (J:Am):Rs D:=match qT J with
 |some (ks,vs)=>if ks.Pairwise (λa b=>a.eqv b=Fo)/\ks.length<=1000 then .ok (.dct Fo To ks vs)else .sk
 |none=>.sk
def iG (ks' vs':Am):List D->List D->Bool
 |k::ks,v::vs=>match jA k ks' vs' with
  |some y=>v.eqv y&&iG ks' vs' ks vs
  |none=>Fo
 |_,_=>To
def dNeD (a b:D):Rs D:=match a with
 |.dct Fo _ ks g=>match b with
  |.dct Fo _ e f=>if g.all Jy&&f.all Jy then .ok (.bl (!(Ay==YV&&iG e f ks g)))else .sk
  |_=>.sk
 |_=>.sk
def dspD (t:Bool) (ks vs:Am):Rs D:=match t with
 |true=>match ks,vs with
  |[],[]=>.ok (.dct To To [] [])
  |[k],[v]=>if keyD To k then .ok (.dct To To [k] [v])else .sk
  |_,_=>.sk
 |false=>if ks.all keyB&&decide (ks.Pairwise λa b=>a.eqv b=Fo)&&decide (Ay=AA)&&decide (Ay<=15)then .ok (.dct Fo To ks vs)else .sk
noncomputable def isiD (f:D->Bool):D->Rs D
 |.dct _ _ _ _=>.sk
 |.exc _=>.sk
 |.fn _ _=>.sk
 |.obj _ _ _=>.sk
 |.mls _ _=>.sk
 |.adr _=>.sk
 |d=>.ok (.bl (f d))
noncomputable def onII (a b:D) (k:Int->Int->Rs D):Rs D:=match a with
 |.int i=>match b with
  |.int j=>k i j
  |_=>.sk
 |_=>.sk
noncomputable def onSS (a b:D) (k:Str->Str->Rs D):Rs D:=match a with
 |.str i=>match b with
  |.str j=>k i j
  |_=>.sk
 |_=>.sk
def Jgy{a b:D}{k:Str->Str->Rs D}(h:(onSS a b k).Good P E):∃i j,a=.str i/\b=.str j/\(k i j).Good P E:=by
 cases a<;>first|exact(show False from h).elim|skip
 cases b<;>first|exact(show False from h).elim|exact QaG
noncomputable def onQ (a:D) (k:List D->Rs D):Rs D:=match a with
 |.tup J=>k J
 |.lst J=>k J
 |_=>.sk
def Jix{a:D}{k:List D->Rs D}(h:(onQ a k).Good P E):∃J,(a=.tup J\/a=.lst J)/\(k J).Good P E:=by cases a<;>first|exact(show False from h).elim|exact⟨_,.inl rfl,h⟩|exact⟨_,.inr rfl,h⟩
noncomputable def onD (a:D) (k:Bool->List D->List D->Rs D):Rs D:=match a with
 |.dct t _ ks b=>k t ks b
 |_=>.sk
def Jil{a:D}{k:Bool->List D->List D->Rs D}(h:(onD a k).Good P E):∃t z ks b,a=.dct t z ks b/\(k t ks b).Good P E:=by cases a<;>first|exact(show False from h).elim|exact⟨_,_,_,_,rfl,h⟩
def jJ{a b:D}{k:Int->Int->Rs D}(h:(onII a b k).Good P E):∃i j,a=.int i/\b=.int j/\(k i j).Good P E:=by
 cases a<;>first|exact(show False from h).elim|skip
 cases b<;>first|exact(show False from h).elim|exact QaG
def op1 (o:O1) (d:D):Rs D:=
 match o with
 |.neg=>match d with
  |.int i=>.ok (.int (-i))
  |_=>.sk
 |.not=>match d with
  |.bl b=>.ok (.bl !b)
  |_=>.sk
 |.isN=>match d with
  |.non=>.ok Cw
  |_=>.ok CO
 |.notN=>match d with
  |.non=>.ok CO
  |_=>.ok Cw
 |.len=>match d with
  |.tup J=>.ok QaO
  |.lst J=>.ok QaO
  |.mls _ J=>.ok QaO
  |.str x=>if x.length<=lD then .ok (.int Xo)else .sk
  |_=>.sk
 |.all=>match d with
  |.lst J=>match xB J with
   |some bs=>.ok (.bl (bs.all id))
   |none=>.sk
  |_=>.sk
 |.any=>match d with
  |.lst J=>match xB J with
   |some bs=>.ok (.bl (bs.any id))
   |none=>.sk
  |_=>.sk
 |.tuple=>match d with
  |.tup J=>.ok Gr
  |.lst J=>.ok Gr
  |_=>.sk
 |.list=>match d with
  |.tup J=>.ok AE
  |.lst J=>.ok AE
  |_=>.sk
 |.sset=>match d with
  |.lst J=>match JF J with
   |some e=>if e.length<60 then .ok (.lst ((Jn e).map .str))else .sk
   |none=>.sk
  |_=>.sk
 |.lset=>match d with
  |.lst J=>match JF J with
   |some e=>if e.length<60 then .ok (.int (Jn e).length)else .sk
   |none=>.sk
  |_=>.sk
 |.truth=>d.truth.bind λb=>.ok E8
 |.isStr=>isiD (λd=>match d with
   |.str _=>To
   |_=>Fo) d
 |.isTup=>isiD (λd=>match d with
   |.tup _=>To
   |_=>Fo) d
 |.range=>match d with
  |.int i=>if midI i then .ok (.lst (upTo 0 i.toNat))else .sk
  |_=>.sk
 |.enum=>onQ d λJ=>.ok (.lst (qR 0 J))
 |.asI=>match d with
  |.int i=>.ok AY
  |_=>.sk
 |.rows=>match d with
  |.tup J=>.ok Gr
  |.lst J=>.ok AE
  |_=>.sk
 |.dKeyW=>match d with
  |.dct _ To ks _=>.ok (.lst ks)
  |_=>.sk
 |.fld f=>match d with
  |.obj _ h fs=>match(h.zip fs).lookup f with
   |some v=>.ok v
   |none=>.sk
  |_=>.sk
 |.isC m c=>match d with
  |.exc j=>if m.contains j then .ok (.bl (c==oS "ValueError"||j==c))else .sk
  |_=>.sk
 |.items=>match d with
  |.dct _ To ks l=>.ok (.lst (zipD ks l))
  |_=>.sk
 |.dictP=>match d with
  |.tup J=>wK J
  |.lst J=>wK J
  |_=>.sk
 |.join=>match d with
  |.lst J=>match iF J with
   |some x=>.ok CB
   |none=>.sk
  |_=>.sk
 |.isO h=>match d with
  |.obj a g fs=>if g=h then .ok (.obj a g fs)else .sk
  |_=>.sk
 |.sortD=>match d with
  |.dct Fo _ ks _=>match JF ks with
   |some e=>if e.Nodup/\e.length<60 then .ok (.lst ((Jn e).map .str))else .sk
   |none=>.sk
  |_=>.sk
noncomputable def repS (x:Str) (k:Int):Str:=⟨(List.replicate k.toNat x.cps).foldl (·++·) #[]⟩
noncomputable def Jry (x:Str) (c:Nat):Bool:=decide (c∈x.cps.toList)
def op2 (o:O2) (a b:D):Rs D:=
 match o with
 |.add=>match a,b with
  |.int i,.int j=>.ok (.int (i+j))
  |.str x,.str y=>if x.length+y.length<=lD then .ok (.str (x++y))else .sk
  |.tup xs,.tup ys=>if Ai+BU<=lD then .ok (.tup (xs++ys))else .sk
  |.lst xs,.lst ys=>if Ai+BU<=lD then .ok (.lst (xs++ys))else .sk
  |_,_=>.sk
 |.sub=>onII a b λi j=>.ok (.int (i-j))
 |.mul=>match a,b with
  |.int i,.int j=>if smallI i||smallI j then .ok (.int (i*j))else .sk
  |.str x,.int k=>if 2<=k/\k<=1000/\1<=Xo/\x.length<=1000 then .ok (.str (repS x k))else .sk
  |_,_=>.sk
 |.fdiv=>onII a b λi j=>if 0<j/\j<1073741824 then .ok (.int (i / j))else .sk
 |.mod=>onII a b λi j=>if 0<j then .ok (.int (i % j))else .sk
 |.eq=>if Jy a&&Jy b then .ok (.bl (a.eqv b))else .sk
 |.ne=>if Jy a&&Jy b then .ok (.bl (!a.eqv b))else .sk
 |.lt=>match a with
  |.int i=>match b with
   |.int j=>.ok (.bl (decide (i<j)))
   |_=>.sk
  |.str x=>match b with
   |.str y=>.ok (.bl (ltS x y))
   |_=>.sk
  |_=>.sk
 |.le=>onII a b λi j=>.ok (.bl (decide (i<=j)))
 |.gt=>onII a b λi j=>.ok (.bl (decide (j<i)))
 |.ge=>onII a b λi j=>.ok (.bl (decide (j<=i)))
 |.isin=>match a,b with
  |.str x,.str y=>if x.cps=#[x.cps.getD 0 0]then .ok (.bl (Jry y (x.cps.getD 0 0)))else .sk
  |a,.tup J=>if Jy (.tup J)&&Jy a then .ok (.bl P3)else .sk
  |a,.lst J=>if Jy AE&&Jy a then .ok (.bl P3)else .sk
  |_,_=>.sk
 |.idx=>match a,b with
  |.tup J,.int i=>Rs.ofOpt (atD J i)
  |.lst J,.int i=>Rs.ofOpt (atD J i)
  |.str x,.int i=>if x.length<=lD then Rs.ofOpt ((atD Xu i).map λc=>.str ⟨#[c]⟩)else .sk
  |_,_=>.sk
 |.zip=>onQ a λxs=>onQ b λys=>.ok OH
 |.rep=>match a,b with
  |.lst J,.int k=>if midI k&&decide (Ac*k.toNat<=lD)then .ok (.lst (List.replicate k.toNat J).flatten)else .sk
  |_,_=>.sk
 |.dIn e=>onD b λt ks _=>if t=e/\keyD t a=To then .ok (.bl (ks.any λd=>d.eqv a))else .sk
 |.dNi e=>onD b λt ks _=>if t=e/\keyD t a=To then .ok (.bl (!ks.any λd=>d.eqv a))else .sk
 |.dGet e=>onD a λt ks f=>if t=e/\keyD t b=To then Rs.ofOpt (jA b ks f)else .sk
 |.index=>match a,b with
  |.lst J,x=>if Jy AE&&Jy x&&decide (Ac<=1000)then Rs.ofOpt ((idxD x J).map λn=>.int n)else .sk
  |_,_=>.sk
 |.count=>match a,b with
  |.lst J,x=>if Jy AE&&Jy x&&decide (Ac<=1000)then .ok (.int (J.countP λd=>d.eqv x))else .sk
  |_,_=>.sk
 |.joinS=>match a,b with
  |.str s,.lst J=>match JF J with
   |some xs=>if s.length<=1000/\(Jo XI (xs.map (·.cps.toList))).length<=20000 then .ok (.str (mkS (Jo XI (xs.map (·.cps.toList)))))else .sk
   |none=>.sk
  |.str s,.tup J=>match JF J with
   |some xs=>if s.length<=1000/\(Jo XI (xs.map (·.cps.toList))).length<=20000 then .ok (.str (mkS (Jo XI (xs.map (·.cps.toList)))))else .sk
   |none=>.sk
  |_,_=>.sk
 |.splitS=>onSS a b λx y=>if x.length<=20000/\y.cps=#[y.cps.getD 0 0]then .ok (.lst ((Js Qa7 Xu).map λl=>.str SG))else .sk
 |.partS=>onSS a b λx y=>if x.length<=20000/\y.cps=#[y.cps.getD 0 0]then .ok (gF Xu Qa7)else .sk
 |.ends=>onSS a b λx y=>.ok (.bl (decide (0+y.length<=Xo)&&(x.cps.extract (x.length-y.length) (x.length-y.length+y.length)==y.cps)))
 |.strt=>onSS a b λx y=>.ok (.bl (decide (0+y.length<=Xo)&&(x.cps.extract 0 (0+y.length)==y.cps)))
 |.dNe=>dNeD a b
inductive Px where
 |var (i:Nat)|con (d:D)|un (o:O1) (a:Px)|bi (o:O2) (a b:Px)|and (a b:Px)|or (a b:Px)|ite (c a b:Px)|nil|cons (a as:Px)|tup (as:Px)|dis (as:Px)|call (f:Nat) (as:Px)|sl (a lo hi:Px)|walk (a:Px)|comp (nt:Nat) (src c e:Px)|dsp (t:Bool) (ks vs:Px)|told (f:Nat) (cs:List Str) (a:Px)
 deriving Inhabited
noncomputable def usesP:Px->Nat->Bool
 |.var j,i=>j==i
 |.con _,_=>Fo
 |.un _ a,i=>usesP a i
 |.bi _ a b,i=>usesP a i||usesP b i
 |.and a b,i=>usesP a i||usesP b i
 |.or a b,i=>usesP a i||usesP b i
 |.ite c a b,i=>usesP c i||usesP a i||usesP b i
 |.nil,_=>Fo
 |.cons a b,i=>usesP a i||usesP b i
 |.tup a,i=>usesP a i
 |.dis a,i=>usesP a i
 |.call _ a,i=>usesP a i
 |.sl a b c,i=>usesP a i||usesP b i||usesP c i
 |.walk a,i=>usesP a i
 |.comp nt s c e,i=>usesP s i||usesP c (i+(if nt=0 then 1 else nt))||usesP e (i+(if nt=0 then 1 else nt))
 |.dsp _ a b,i=>usesP a i||usesP b i
 |.told _ _ a,i=>usesP a i
def sepP (M:Aq) (p:Px):Bool:=M.all λi=>!usesP p i
mutual
def D.noL:D->Bool
 |.lst _=>Fo
 |.tup J=>noLs J
 |.dct _ _ _ a=>noLs a
 |.obj _ _ fs=>noLs fs
 |.mls _ J=>noLs J
 |_=>To
def noLs:List D->Bool
 |[]=>To
 |d::J=>D.noL d&&noLs J
end
noncomputable def noLI:Option (Option D)->Bool
 |some (So d)=>d.noL
 |_=>To
noncomputable abbrev Fm:=List (Option D)
variable{O:Fm}
noncomputable def nT:List D->Rs Fm
 |[x,.tup [y,z]]=>.ok OQ
 |_=>.sk
def JT (nt:Nat) (d:D):Rs Fm:=
 if nt=0 then .ok [So d]else match d with
  |.tup J=>if nt=5 then nT J else if Ac=nt then .ok (J.map So)else .sk
  |_=>.sk
def JiR{J:Am}{r:Rs Fm}(h:nT J=r):r=.sk\/∃x y z,J=[x,.tup [y,z]]/\r=.ok OQ:=by
 unfold nT at h;split at h
 ·exact .inr ⟨_,_,_,rfl,h.symm⟩
 ·exact .inl h.symm
def gM{d:D}{c:Str}(h:JT nt d=.ex c):False:=by
 unfold JT at h;split at h
 ·cases h
 ·split at h
  ·split at h
   ·rcases JiR h with z|⟨_,_,_,_,z⟩<;>cases z
   ·split at h<;>cases h
  ·cases h
def JX (nt:Nat) (c e:Fm->Rs D) (O:Fm):List D->Rs aM
 |[]=>.ok []
 |d::J=>(JT nt d).bind λa=>(c (a++O)).calm.bind λb=>match b with
  |.bl To=>(e (a++O)).bind λy=>(JX nt c e O J).bind λf=>.ok (y::f)
  |.bl Fo=>JX nt c e O J
  |_=>.sk
noncomputable abbrev CallD:=Nat->List D->Rs D
noncomputable def D.asL:D->Rs aM
 |.lst J=>.ok J
 |_=>.sk
def evD (U:Ae):Px->Fm->Rs D
 |.var i,O=>match O[i]? with
  |some (So d)=>.ok d
  |_=>.sk
 |.con d,_=>.ok d
 |.un o a,O=>'Ũ'.bind (op1 o)
 |.bi o a b,O=>'Ũ'.bind λx=>(evD U b O).bind λy=>op2 o x y
 |.and a b,O=>'Ũ'.bind λx=>match x with
  |.bl To=>evD U b O
  |.bl Fo=>.ok CO
  |_=>.sk
 |.or a b,O=>'Ũ'.bind λx=>match x with
  |.bl To=>.ok Cw
  |.bl Fo=>evD U b O
  |_=>.sk
 |.ite c a b,O=>'Ԅ'.bind λx=>match x with
  |.bl To=>evD U a O
  |.bl Fo=>evD U b O
  |_=>.sk
 |.nil,_=>.ok Fs
 |.cons a as,O=>'Ũ'.bind λx=>'ǈ'.bind λy=>y.asL.bind λJ=>.ok (.lst (x::J))
 |.tup as,O=>'ǈ'.bind λy=>y.asL.bind λJ=>if Ac<=lD then .ok (.tup J)else .sk
 |.dis as,O=>'ǈ'.bind λy=>y.asL.bind λJ=>if Ac<=lD then .ok AE else .sk
 |.call f as,O=>'ǈ'.bind λy=>y.asL.bind λJ=>U f J
 |.sl a lo hi,O=>'Ũ'.bind λx=>(evD U lo O).bind λl=>l.bound.bind λl=>(evD U hi O).bind λh=>h.bound.bind λh=>match x with
  |.tup J=>.ok (.tup LJ)
  |.lst J=>.ok (.lst LJ)
  |.str x=>if x.length<=20000 then .ok (.str UF)else .sk
  |_=>.sk
 |.walk a,O=>'Ũ'.bind λx=>x.walk.bind λJ=>.ok AE
 |.comp nt src c e,O=>'У'.bind λs=>s.asL.bind λJ=>if Ac<=lD then(JX nt Xh 'Ԑ' O J).bind λg=>.ok (.lst g)else .sk
 |.dsp t k v,O=>(evD U k O).bind λx=>(evD U v O).bind λy=>x.asL.bind λks=>y.asL.bind λj=>dspD t ks j
 |.told f cs a,O=>match evD U a O with
  |.ok d=>.ok d
  |.ex c=>if cs.contains c then(match U f DL with
   |.ok d=>.ok d
   |_=>.sk)else .sk
  |.sk=>.sk
inductive Sx where
 |skip|seq (a b:Sx)|set (m:Bool) (i:Nat) (e:Px)|own (i:Nat) (e:Px)|app (m:Bool) (i:Nat) (e:Px)|ext (m:Bool) (i:Nat) (e:Px)|eff (e:Px)|ret (e:Px)|ite (c:Px) (a b:Sx)|loop (m:Bool) (ts:List Nat) (nt:Nat) (src:Px) (body:Sx)|brk|raise (c:Str) (p:Px)|whl (n:Nat) (c:Px) (body:Sx)|put (m t:Bool) (i:Nat) (k v:Px)|ownD (t:Bool) (i:Nat)|retF (i:Nat)|ownP (i:Nat) (e:Px)|retP (i:Nat) (e:Px)
 deriving Inhabited
inductive Fw where
 |nx|rt (d:D)|bk|ct
noncomputable def pA:List Nat->List (Option D)->Fm->Fm
 |i::is,s::ss,O=>pA is ss Lu
 |_,_,O=>O
def forL (ts:Aq) (nt:Nat) (a:Fm->Rs (Fw×Fm)):List D->Fm->Rs (Fw×Fm)
 |[],O=>.ok Yu
 |d::J,O=>(JT nt d).bind λb=>(a (pA ts b O)).bind λr=>match r with
  |(.nx,env2)=>forL ts nt a J env2
  |(.ct,env2)=>forL ts nt a J env2
  |(.bk,env2)=>.ok GK
  |(.rt d,env2)=>.ok LA
noncomputable def whlL (c:Fm->Rs D) (a:Fm->Rs (Fw×Fm)):Nat->Fm->Rs (Fw×Fm)
 |0,_=>.sk
 |n+1,O=>(c O).bind λb=>match b with
  |.bl To=>(a O).bind λr=>match r with
   |(.nx,env2)=>whlL c a n env2
   |(.ct,env2)=>whlL c a n env2
   |(.bk,env2)=>.ok GK
   |(.rt d,env2)=>.ok LA
  |.bl Fo=>.ok Yu
  |_=>.sk
noncomputable def txtOk:D->Bool
 |.str x=>decide (Xo<=1000)&&x.cps.toList.all λc=>decide (c<256)
 |_=>Fo
def xH:D->Bool
 |.lst J=>J.all txtOk
 |_=>Fo
noncomputable def mutS:Sx->Bool
 |.seq a b=>mutS a||mutS b
 |.app _ _ _=>To
 |.ext _ _ _=>To
 |.ite _ a b=>mutS a||mutS b
 |.loop _ _ _ _ b=>mutS b
 |.whl _ _ b=>mutS b
 |.put _ _ _ _ _=>To
 |_=>Fo
noncomputable def JD (M:Aq):Nat->Fm->Fm
 |_,[]=>[]
 |j,s::O=>(if j∈M then No else s)::JD M (j+1) O
def exD (U:Ae):Sx->Fm->Rs (Fw×Fm)
 |.skip,O=>.ok Yu
 |.seq a b,O=>(exD U a O).bind λr=>match r with
  |(.nx,env2)=>exD U b env2
  |r=>.ok r
 |.set m i e,O=>'ŭ'.bind λd=>if m&&!d.imm then .sk else .ok QcI
 |.own i e,O=>'ŭ'.bind λd=>match d with
  |.lst J=>if !imms J then .sk else .ok Pa
  |_=>.sk
 |.ownD t i,O=>.ok Ve
 |.retF i,O=>match O[i]? with
  |some (So (.dct t Fo ks f))=>.ok (.rt (.dct t To ks f),O)
  |_=>.sk
 |.ownP i e,O=>'ŭ'.bind λd=>(op1 .dictP d).bind λr=>match r with
  |.dct t To ks f=>if imms f then .ok (.nx,O.set i (So (.dct t Fo ks f)))else .sk
  |_=>.sk
 |.retP i e,O=>match O[i]? with
  |some (So (.dct Fo Fo ks f))=>'ŭ'.bind λd=>if d.imm then .ok (.rt (.tup [.dct Fo To ks f,d]),O)else .sk
  |_=>.sk
 |.app m i e,O=>match O[i]? with
  |some (So (.lst J))=>'ŭ'.bind λd=>if(m&&!d.imm)||!decide (Ac<lD)then .sk else .ok (.nx,O.set i (So (.lst (J++[d]))))
  |_=>.sk
 |.ext m i e,O=>match O[i]? with
  |some (So (.lst J))=>'ŭ'.bind λy=>y.asL.bind λg=>if(m&&!imms g)||!decide (Ac+g.length<=lD)then .sk else .ok (.nx,O.set i (So (.lst (J++g))))
  |_=>.sk
 |.eff e,O=>'ŭ'.bind λ_=>.ok Yu
 |.ret e,O=>'ŭ'.bind λd=>.ok Z2
 |.ite c a b,O=>'Ԅ'.bind λx=>match x with
  |.bl To=>exD U a O
  |.bl Fo=>exD U b O
  |_=>.sk
 |.loop m ts nt src body,O=>'У'.bind λs=>s.asL.bind λJ=>if m&&(mutS body||!imms J)then .sk else forL ts nt (exD U body) J O
 |.brk,O=>.ok (.bk,O)
 |.raise c p,O=>'Ƥ'.bind λd=>if xH d then .ex c else .sk
 |.whl n c body,O=>whlL Xh (exD U body) n O
 |.put m t' i k v,O=>match O[i]? with
  |some (So (.dct t Fo ks f))=>(evD U v O).bind λy=>(evD U k O).bind λx=>if(m&&!y.imm)||!(t==t')||!keyD t x||!decide (Ay<1000)then .sk else .ok (.nx,O.set i (So (.dct t Fo (putD x y ks f).1 (putD x y ks f).2)))
  |_=>.sk
theorem kJ{M:Aq}:∀(O:Fm)(j i:Nat),(JD M j O)[i]? =(O[i]?).map λs=>if j+i∈M then No else s
 |[],_,_=>by simp[JD]
 |s::O,j,0=>by simp[JD]
 |s::O,j,i+1=>by
  have:=kJ (M:=M) O (j+1) i
  simp only[JD,qH,this]
  rw[show j+1+i=j+'.' by lia]
def JkG{d:D}{new:Fm}(h:JT nt d=.ok new):new.length=if nt=0 then 1 else nt:=by
 unfold JT at h;split at h
 ·rename_i q;cases h;simp[q]
 ·rename_i q;split at h
  ·split at h
   ·rename_i e;subst e;rcases JiR h with z|⟨_,_,_,_,z⟩
    ·cases z
    ·cases z;rfl
   ·split at h
    ·rename_i e;cases h;simp[q,e]
    ·cases h
  ·cases h
def Jea{c e b g:Fm->Rs D}{env':Fm}(f:∀a:Fm,bU=(if nt=0 then 1 else nt)->c (a++O)=b (a++env'))(i:∀a:Fm,bU=(if nt=0 then 1 else nt)->e (a++O)=g (a++env')):
  ∀J,JX nt c e O J=JX nt b g env' J
 |[]=>rfl
 |d::J=>by
  have l:=Jea f i J
  unfold JX
  cases j:JT nt d with
  |ok a=>
   have h:=JkG j
   simp only[Rs.bo,f a h,i a h,l]
  |ex x=>rfl
  |sk=>rfl
theorem JfP(U:Ae):∀(p:Px)(O env':Fm),(∀i,usesP p i=To->O[i]? =env'[i]?)->evD U p O=evD U p env':=by
 intro p;induction p with
 |var j=>intro O env' h;simp only[evD,h j (by simp[usesP])]
 |con d=>intro O env' h;rfl
 |un o a g=>intro O env' h;simp only[evD,g O env' λi q=>h i '8']
 |bi o a b g l=>intro O env' h;simp only[evD,g O env' λi q=>h i '8',l O env' λi q=>h i '8']
 |and a b g l=>intro O env' h;simp only[evD,g O env' λi q=>h i '8',l O env' λi q=>h i '8']
 |or a b g l=>intro O env' h;simp only[evD,g O env' λi q=>h i '8',l O env' λi q=>h i '8']
 |ite c a b r g l=>intro O env' h;simp only[evD,r O env' λi q=>h i '8',g O env' λi q=>h i '8',l O env' λi q=>h i '8']
 |nil=>intro O env' h;rfl
 |cons a b g l=>intro O env' h;simp only[evD,g O env' λi q=>h i '8',l O env' λi q=>h i '8']
 |tup a g=>intro O env' h;simp only[evD,g O env' λi q=>h i '8']
 |dis a g=>intro O env' h;simp only[evD,g O env' λi q=>h i '8']
 |call f a g=>intro O env' h;simp only[evD,g O env' λi q=>h i '8']
 |sl a b c g l r=>intro O env' h;simp only[evD,g O env' λi q=>h i '8',l O env' λi q=>h i '8',r O env' λi q=>h i '8']
 |walk a g=>intro O env' h;simp only[evD,g O env' λi q=>h i '8']
 |dsp t a b g l=>intro O env' h;simp only[evD,g O env' λi q=>h i '8',l O env' λi q=>h i '8']
 |told f A a g=>intro O env' h;simp only[evD,g O env' λi q=>h i '8']
 |comp nt s c e x r w=>
  intro O env' h;have app:∀(u:Px),(∀i,usesP u (i+(if nt=0 then 1 else nt))=To->O[i]? =env'[i]?)->∀m:Fm,m.length=(if nt=0 then 1 else nt)->∀i,usesP u i=To->(m++O)[i]? =(m++env')[i]?:=λu z m v i y=>by
   by_cases q:i<m.length
   ·rw[vE q,vE q]
   ·rw[xE 'd',xE 'd'];refine z _ ?_;rw[show i-m.length+(if nt=0 then 1 else nt)=i by lia];exact y
  simp only[evD,x O env' λi q=>h i '8'];rw[show JX nt 'ʬ' 'Ԑ' O=JX nt 'ʬ' 'Ԑ' env' from funext λJ=>Jea (λm v=>r _ _ (app c Oc m v)) (λm v=>w _ _ (app e Oc m v)) J]
def Jv(U:Ae){M:Aq}{p:Px}(O:Fm)(h:BN):evD U p b8=evD U p O:=by
 refine JfP U p _ _ λi e=>?_;have a:i∉M:=λb=>by have:=ZQ.mp h i b;rw[e]at this;simp at this
 rw[kJ];simp only[qJ,if_neg a];cases O[i]? <;>rfl
noncomputable def Jf:Rs (Fw×Fm)->Rs D
 |.ok (.nx,_)=>.ok .non
 |.ok (.rt d,_)=>.ok d
 |.ok _=>.sk
 |.ex c=>.ex c
 |.sk=>.sk
structure DefD where
 slots:Nat
 params:Nat
 body:Sx
noncomputable def Jx (n:Nat) (J:Am):Fm:=J.map So++List.replicate (n-Ac) No
def runD (defs:BW):Nat->CallD
 |0=>λ_ _=>.sk
 |k+1=>λf J=>match defs[f]? with
  |some d=>if Ac=Yy then Jf (exD BR XF D0)else .sk
  |none=>.sk
def Rs.ofOpt_ex{o:Option α}{c:Str}:Rs.ofOpt o≠.ex c:=by cases o<;>simp[Rs.ofOpt]
noncomputable def jG:Px->Bool
 |.var _=>To
 |.con _=>To
 |_=>Fo
def oM(U:Ae){p:Px}(h:jG p=To):evD U p O=.sk\/∃d,evD U p O=.ok d:=by
 cases p with
 |var i=>
  simp only[evD];cases O[i]? with
  |none=>exact .inl rfl
  |some o=>cases o with
   |none=>exact .inl rfl
   |some d=>exact .inr ⟨d,rfl⟩
 |con d=>exact .inr ⟨d,rfl⟩
 |_=>cases h
def pI:Px->Bool
 |.nil=>To
 |.cons a p=>jG a&&pI p
 |_=>Fo
def Jgz(U:Ae){p:Px}:pI p=To->evD U p O=.sk\/∃J,evD U p O=.ok AE:=by
 induction p with
 |nil=>exactλ_=>.inr ⟨[],rfl⟩
 |cons a p _ e=>
  intro h;simp only[pI,Zd]at h;simp only[evD];rcases oM U (O:=O) h.1 with q|⟨d,q⟩
  ·rw[q];exact .inl rfl
  ·rcases e h.2 with b|⟨J,b⟩
   ·rw[q,b];exact .inl rfl
   ·rw[q,b];exact .inr ⟨d::J,rfl⟩
 |_=>exactλh=>Bool.noConfusion h
def JtE(a b:D)(c:Str):op2 .idx a b≠.ex c:=by intro h;cases a<;>first|(cases h;done)|(cases b<;>first|(cases h;done)|exact Rs.ofOpt_ex h|(simp only[op2]at h;split at h;exact Rs.ofOpt_ex h;cases h))
noncomputable def isIdx:O2->Bool
 |.idx=>To
 |_=>Fo
def noEx:Px->Bool
 |.tup a=>pI a
 |.bi o a b=>isIdx o&&(jG a&&jG b)
 |p=>jG p
def sW(U:Ae)(p:Px)(O:Fm)(c:Str)(h:noEx p=To):evD U p O≠.ex c:=by
 have f:∀{p:Px},jG p=To->evD U p O≠.ex c:=λh e=>by rcases oM U (O:=O) h with q|⟨d,q⟩<;>(rw[q]at e;cases e)
 cases p with
 |tup a=>
  intro e;simp only[evD]at e;rcases Jgz U (O:=O) (show pI a=To from h)with q|⟨J,q⟩
  ·rw[q]at e;cases e
  ·rw[q]at e;simp only[Rs.bo,D.asL]at e;split at e<;>cases e
 |bi o a b=>
  simp only[noEx,Zd]at h;obtain⟨i,m,j⟩:=h;have r:o=.idx:=by cases o<;>first|rfl|cases i
  subst r;intro e;simp only[evD]at e;rcases oM U (O:=O) m with q|⟨d,q⟩
  ·rw[q]at e;cases e
  ·rw[q]at e;simp only[Rs.bo]at e;rcases oM U (O:=O) j with g|⟨l,g⟩
   ·rw[g]at e;cases e
   ·rw[g]at e;exact JtE d l c e
 |_=>exact f h
def oY(x:Str):∀(l:Ag)(w:Str),w∈insS x l↔w=x\/w∈l
 |[],w=>by simp[insS]
 |y::ys,w=>by
  unfold insS
  split
  ·next h=>
   have:x=y:=by simpa using h
   subst this
   simp
  ·split
   ·simp
   ·simp only[Zg,oY x ys w]
    constructor
    ·rintro(h|h|h)<;>simp[h]
    ·rintro(h|h|h)<;>simp[h]
def Ju:∀(l:Ag)(w:Str),w∈Jn l↔w∈l
 |[],w=>Iff.rfl
 |y::ys,w=>by
  unfold Jn
  rw[oY,Ju ys w]
  simp
def LtS(a b:Str):Prop:=a.cps.toList<b.cps.toList
def LtS.irrefl(a:Str):¬LtS a a:=List.lt_irrefl _
def LtS.trans{a b c:Str}(h:LtS a b)(h':LtS b c):LtS a c:=List.lt_trans h h'
def LtS.asymm{a b:Str}(h:LtS a b)(h':LtS b a):False:=LtS.irrefl a (h.trans h')
def LtS.total{a b:Str}(h:¬LtS a b)(f:a≠b):LtS b a:=by
 by_cases z:LtS b a
 ·exact z
 ·exfalso;apply f;have e:a.cps.toList=b.cps.toList:=List.le_antisymm (List.not_lt.mp z) (List.not_lt.mp h);cases a with
  |mk x=>cases b with
   |mk y=>have:x=y:=Array.toList_inj.mp e;rw[this]
def JgH(x:Str):∀l:List Str,l.Pairwise LtS->(insS x l).Pairwise LtS
 |[],_=>by simp[insS]
 |y::ys,h=>by
  obtain⟨f,g⟩:=eE.mp h
  unfold insS
  split
  ·exact h
  ·next e=>
   have e:x≠y:=by simpa using e
   split
   ·next a=>
    have a:LtS x y:=ZW (p:=Xu<y.cps.toList) a
    refine eE.mpr ⟨λz b=>?_,h⟩
    rcases Zg.mp b with rfl|b
    ·exact a
    ·exact a.trans (f z b)
   ·next a=>
    have a:¬LtS x y:=λz=>a (ZH (p:=Xu<y.cps.toList) z)
    refine eE.mpr ⟨λz b=>?_,JgH x ys g⟩
    rcases(oY x ys z).mp b with rfl|b
    ·exact LtS.total a e
    ·exact f z b
def Jz:∀l:List Str,(Jn l).Pairwise LtS
 |[]=>lN
 |x::xs=>JgH x _ (Jz xs)
def jY:∀a b:List Str,a.Pairwise LtS->b.Pairwise LtS->(∀k,k∈a↔k∈b)->a=b
 |[],[],_,_,_=>rfl
 |[],y::b,_,_,h=>by
  have:=(h y).mpr Af
  simp at this
 |x::a,[],_,_,h=>by
  have:=(h x).mp Af
  simp at this
 |x::a,y::b,hx,hy,h=>by
  obtain⟨j,l⟩:=eE.mp hx
  obtain⟨i,m⟩:=eE.mp hy
  have e:x=y:=by
   rcases Zg.mp ((h x).mp Af)with e|e
   ·exact e
   ·rcases Zg.mp ((h y).mpr Af)with g|g
    ·exact g.symm
    ·exact((i x e).asymm (j y g)).elim
  subst e;rw[jY a b l m λk=>?_];constructor
  ·intro f
   rcases Zg.mp ((h k).mp (by simp[f]))with e|e
   ·subst e;exact((LtS.irrefl _) (j _ f)).elim
   ·exact e
  ·intro f
   rcases Zg.mp ((h k).mpr (by simp[f]))with e|e
   ·subst e;exact((LtS.irrefl _) (i _ f)).elim
   ·exact e
theorem Jmw:∀l:List Str,(Jn l).length<=l.length:=by
 have ins:∀(x:Str)(l:Ag),(insS x l).length<=Xv+1:=by
  intro x l;induction l with
  |nil=>simp[insS]
  |cons y e a=>
   unfold insS;split
   ·simp
   ·split
    ·simp
    ·simp only[Zi];lia
 intro l;induction l with
 |nil=>simp[Jn]
 |cons x b a=>unfold Jn;have:=ins x (Jn b);simp only[Zi];lia
def yM(l:Ag)(h:l.Pairwise LtS):l.Nodup:=h.imp fun{a b}z e=>by
 subst e
 exact LtS.irrefl _ z
mutual
def Jh:D->Bool
 |.non=>To
 |.bl _=>To
 |.int _=>To
 |.str _=>To
 |.exc _=>To
 |.fn _ _=>To
 |.adr _=>To
 |.tup J=>Jc J
 |.lst J=>Jc J
 |.dct _ z _ a=>z&&Jc a
 |.obj _ _ _=>Fo
 |.mls _ _=>Fo
def Jc:List D->Bool
 |[]=>To
 |d::J=>Jh d&&Jc J
end
noncomputable def plE:Fm->Bool
 |[]=>To
 |none::O=>plE O
 |some d::O=>Jh d&&plE O
def rQ:∀{O:Fm}{i:Nat}{d:D},plE O=To->O[i]? =So BG->Jh d=To
 |[],_,_,_,h=>by simp at h
 |none::O,0,d,_,h=>by simp at h
 |some x::O,0,d,p,h=>by simp at h;subst h;simp only[plE,Zd]at p;exact p.1
 |none::O,i+1,d,p,h=>rQ (O:=O) (i:=i) p (by simpa using h)
 |some x::O,i+1,d,p,h=>by simp only[plE,Zd]at p;exact rQ (i:=i) p.2 (by simpa using h)
def jW{i j:Nat}{d:D}(p:plE CZ=To)(h:O[j]? =So BG)(n:j≠i):Jh d=To:=rQ p (by rw[Zr (Ne.symm n)];exact h)
inductive Rc where
 |ok (d st:D)|ex (c:Str) (st:D)|sk
def Rc.Good(r:Rc)(P:D->D->Prop)(E:Str->D->Prop):Prop:=match r with
 |.ok d a=>P d a
 |.ex c a=>E c a
 |.sk=>False
noncomputable abbrev CallB:=Nat->D->List D->Rc
inductive Rx where
 |ok (d:D) (env:Fm)|ex (c:Str) (env:Fm)|sk
def Rx.Good(r:Rx)(P:D->Fm->Prop)(E:D1):Prop:=match r with
 |.ok d O=>P d O
 |.ex c O=>E c O
 |.sk=>False
noncomputable def Rx.bind (r:Rx) (f:D->Fm->Rx):Rx:=match r with
 |.ok d O=>f d O
 |.ex c O=>.ex c O
 |.sk=>.sk
def Rx.gB{r:Rx}{f:D->Fm->Rx}{P:D->Fm->Prop}{E:D1}:'ը'.Good P E↔r.Good (λd O=>(f d O).Good P E) E:=by cases r<;>rfl
def Rx.Good.imp{r:Rx}{P b:D->Fm->Prop}{E a:D1}(h:Gf)(f:∀d e,P d e->b d e)(g:∀c e,E c e->a c e):r.Good b a:=by
 cases r with
 |ok d e=>exact f d e h
 |ex c e=>exact g c e h
 |sk=>exact h
inductive Bx where
 |pur (p:Px)|call (r:Bool) (f i:Nat) (ns:List Str) (as:Px)|bi (o:O2) (a b:Bx)|isN (a:Bx)|or (a b:Bx)|tolB (fi:Nat) (cs:List Str) (f i:Nat) (ns:List Str) (as:Px)
noncomputable def Rx.of (O:Fm):Rs D->Rx
 |.ok d=>.ok d O
 |.ex c=>.ex c O
 |.sk=>.sk
noncomputable def Rx.lay (r:Bool) (O:Fm) (i:Nat):Rc->Rx
 |.ok d st=>.ok d GB
 |.ex c st=>if r then .ex c GB else .sk
 |.sk=>.sk
noncomputable def rK (U:Ae) (a:Nat) (cs:Ag) (O:Fm) (i:Nat):Rc->Rx
 |.ok d st=>.ok d GB
 |.ex c st=>if cs.contains c then(match U a DL with
  |.ok d=>.ok d GB
  |_=>.sk)else .sk
 |.sk=>.sk
def evB (U:Ae) (bc:AI):Bx->Fm->Rx
 |.pur p,O=>.of O 'Ƥ'
 |.call r f i ns as,O=>match O[i]? with
  |some (So (.obj a ns' fs))=>if ns'=ns then match evD U as O with
   |.ok (.lst J)=>if plE CZ&&Jc J then .lay r O i (bc f Cn J)else .sk
   |.ex c=>if r then .ex c O else .sk
   |_=>.sk else .sk
  |_=>.sk
 |.bi o a b,O=>'Ի'.bind λx e=>(evB U bc b e).bind λy g=>if Jh x then .of g (op2 o x y)else .sk
 |.isN a,O=>'Ի'.bind λx e=>.of e (op1 .isN x)
 |.tolB fi cs f i ns as,O=>match O[i]? with
  |some (So (.obj a ns' fs))=>if ns'=ns then match evD U as O with
   |.ok (.lst J)=>if plE CZ&&Jc J then rK U fi cs CZ i (bc f Cn J)else .sk
   |_=>.sk else .sk
  |_=>.sk
 |.or a b,O=>'Ի'.bind λx e=>match x with
  |.bl To=>.ok Cw e
  |.bl Fo=>evB U bc b e
  |_=>.sk
inductive Bs where
 |lift (p:Sx)|seq (a b:Bs)|ite (t:Bx) (a b:Bs)|eff (e:Bx)|set (i:Nat) (e:Bx)|ret (p:Px)|loop (ts:List Nat) (nt:Nat) (src:Px) (body:Bs)|raise (c:Str) (p:Px)|newL (f:Str)|appF (f:Str) (p:Px)|putK (f:Str) (k p:Px)|popK (f:Str) (k:Px)|retB (e:Bx)
inductive Rq where
 |ok (f:Fw) (env:Fm)|ex (c:Str) (env:Fm)|sk
def Rq.Good(r:Rq)(P:Fw->Fm->Prop)(E:D1):Prop:=match r with
 |.ok d O=>P d O
 |.ex c O=>E c O
 |.sk=>False
noncomputable def Rq.bind (r:Rq) (f:Fw->Fm->Rq):Rq:=match r with
 |.ok d O=>f d O
 |.ex c O=>.ex c O
 |.sk=>.sk
noncomputable def Rx.next (r:Rx) (f:D->Fm->Rq):Rq:=match r with
 |.ok d O=>f d O
 |.ex c O=>.ex c O
 |.sk=>.sk
def Rq.gB{r:Rq}{f:Fw->Fm->Rq}{P:Fw->Fm->Prop}{E:D1}:'ը'.Good P E↔r.Good (λd O=>(f d O).Good P E) E:=by cases r<;>rfl
def Rx.good_next{r:Rx}{f:D->Fm->Rq}{P:Fw->Fm->Prop}{E:D1}:(r.next f).Good P E↔r.Good (λd O=>(f d O).Good P E) E:=by cases r<;>rfl
def Rq.Good.imp{r:Rq}{P b:Fw->Fm->Prop}{E a:D1}(h:Gf)(f:∀d e,P d e->b d e)(g:∀c e,E c e->a c e):r.Good b a:=by
 cases r with
 |ok d e=>exact f d e h
 |ex c e=>exact g c e h
 |sk=>exact h
noncomputable def mT (w:Bool):Rs (Fw×Fm)->Rq
 |.ok (.rt d,O)=>if w then .sk else .ok CP O
 |.ok (f,O)=>.ok f O
 |_=>.sk
def forB (ts:Aq) (nt:Nat) (b:Fm->Rq):List D->Fm->Rq
 |[],O=>.ok .nx O
 |d::J,O=>match JT nt d with
  |.ok e=>(b (pA ts e O)).bind λf a=>match f with
   |.nx=>forB ts nt b J a
   |.ct=>forB ts nt b J a
   |.bk=>.ok .nx a
   |.rt d=>.ok CP a
  |_=>.sk
noncomputable def putN  (f:Str) (v:α):List Str->List α->List α
 |n::ns,x::xs=>if n=f then v::xs else x::putN f v ns xs
 |_,xs=>xs
noncomputable def kG:D->Bool
 |.dct _ _ _ a=>Jc a
 |.mls _ J=>Jc J
 |d=>Jh d
def chgF (f:Str) (d':D) (O:Fm):Rq:=match O with
 |some (.obj a ns fs)::env'=>if ns.contains f&&fs.all kG&&plE env'&&decide (AN<1000)then .ok .nx L5 else .sk
 |_=>.sk
noncomputable def othD (m:Bool) (f:Str):D->Bool
 |.mls t J=>(!m||!(t==f))&&Jc J
 |.dct _ _ _ a=>m&&Jc a
 |d=>Jh d
def chgM (m:Bool) (f:Str) (g:D->Option D) (O:Fm):Rq:=match O with
 |some (.obj a ns fs)::env'=>match(ns.zip fs).lookup f with
  |some d=>match g d with
   |some d'=>if plE env'&&(putN f D.non ns fs).all (othD m f)then .ok .nx L5 else .sk
   |none=>.sk
  |none=>.sk
 |_=>.sk
noncomputable def delD (k:D):List D->List D->List D×List D
 |a::ks,v::vs=>if a.eqv k then delD k ks vs else(a::(delD k ks vs).1,v::(delD k ks vs).2)
 |ks,vs=>(ks,vs)
noncomputable def appG (f:Str) (d:D):D->Option D
 |.mls t J=>if t==f&&Jc J&&decide (Ac<1000)then So (.mls t (J++[d]))else No
 |_=>No
def putG (x y:D):D->Option D
 |.dct Fo Fo ks a=>if Jc a&&decide (Ay<1000)then So (.dct Fo Fo (putD x y ks a).1 (putD x y ks a).2)else No
 |_=>No
def popG (x:D):D->Option D
 |.dct Fo Fo ks b=>if Jc b&&ks.any (λa=>a.eqv x)then So (.dct Fo Fo (delD x ks b).1 (delD x ks b).2)else No
 |_=>No
noncomputable def Rc.at (O:Fm):Rc->Rq
 |.ok d st=>.ok CP (So st::O)
 |.ex c st=>.ex c (So st::O)
 |.sk=>.sk
def exO (w:Bool) (U:Ae) (bc:AI):Bs->Fm->Rq
 |.lift p,O=>mT w (exD U p O)
 |.seq a b,O=>(exO w U bc a O).bind λf h=>match f with
  |.nx=>exO w U bc b h
  |f=>.ok f h
 |.ite t a b,O=>(evB U bc t O).next λx g=>match x with
  |.bl To=>exO w U bc a g
  |.bl Fo=>exO w U bc b g
  |_=>.sk
 |.eff e,O=>'Լ'.next λ_ g=>.ok .nx g
 |.set i e,O=>'Լ'.next λd g=>if Jh d then .ok .nx (g.set i BG)else .sk
 |.ret p,O=>match evD U p O with
  |.ok d=>.ok CP O
  |.ex c=>.ex c O
  |.sk=>.sk
 |.loop ts nt src body,O=>match evD U src O with
  |.ok (.lst J)=>if Jc J&&imms J then forB ts nt Fh J O else .sk
  |.ex c=>.ex c O
  |_=>.sk
 |.raise c p,O=>match evD U p O with
  |.ok d=>if xH d then .ex c O else .sk
  |_=>.sk
 |.newL f,O=>chgF f (.mls f []) O
 |.appF f p,O=>match evD U p O with
  |.ok d=>if Jh d then chgM To f (appG f d) O else .sk
  |_=>.sk
 |.putK f k p,O=>match evD U p O with
  |.ok y=>match evD U k O with
   |.ok x=>if Jh y&&keyD Fo x then chgM Fo f (putG x y) O else .sk
   |_=>.sk
  |_=>.sk
 |.popK f k,O=>match evD U k O with
  |.ok x=>if keyD Fo x then chgM Fo f (popG x) O else .sk
  |_=>.sk
 |.retB e,O=>'Լ'.next λd g=>.ok CP g
structure DefB where
 slots:Nat
 params:Nat
 body:Bs
noncomputable def zC:D->D->Bool
 |.obj a _ _,.obj b _ _=>a==b
 |_,_=>Fo
def ansB (s0:D):Rq->Rc
 |.ok .nx (So st::_)=>if zC s0 st then .ok .non st else .sk
 |.ok (.rt d) (So st::_)=>if zC s0 st then .ok d st else .sk
 |.ex c (So st::_)=>if zC s0 st then .ex c st else .sk
 |_=>.sk
def runB (defs:BW) (bdefs:Fn):Nat->CallB
 |0=>λ_ _ _=>.sk
 |k+1=>λf st J=>match bdefs[f]? with
  |some b=>if Ac+1=b.params then ansB st (exO To BR BO b.body (Jx b.slots (st::J)))else .sk
  |none=>.sk
noncomputable def nsS:List Str:=[oS "tables",oS "done",oS "undone"]
def Jkk (a:Nat):D:=.obj a nsS [.dct Fo Fo [] [],.mls Fi [],.mls FM []]
def mutB:Bs->Bool
 |.lift p=>mutS p
 |.seq a b=>mutB a||mutB b
 |.ite _ a b=>mutB a||mutB b
 |.loop _ _ _ b=>mutB b
 |_=>Fo
noncomputable def fsS (ks vs J es:Am):List D:=[.dct Fo Fo ks vs,.mls Fi J,.mls FM es]
def RunP(U:Ae)(i j:Nat)(q:Px)(R:Fm->Prop)(O:Fm):Prop:=plE O=To/\∃d,evD U q O=.ok d/\Jh d=To/\∀a,R ((O.set i Ke).set j BG)
end Pu
namespace Rd
open PySem PySem.Spec PyProof.Rows L2 PySem.W
variable{H:Hp}{P:Be}{w:A0}{s s':Ak}{h base B:Heap}{A:Bd}{C a:Addr}{mg:Bi}
def HOk.onB{h':Heap}(ok:Ct)(tr:∀b u,H b=So u->∃o,B.get? b=So o)(k1:B.StaysIn h)(k2:B.StaysIn h'):HOk P w H h':=λa o e=>
 ObjOk.stay (ok a o e) (λb u g q=>by
  have j:∃o,B.get? b=So o:=by
   rcases g with rfl|g
   ·exact tr _ _ e
   ·exact tr _ _ g
  obtain⟨ob,f⟩:=j;have i:=k1 b ob f;rw[q]at i;cases i;exact k2 b _ f) Kd Q2
def ObjOk.has{o:HO}(x:MF):∃ob,h.get? a=So ob:=by
 cases o with
 |lst g=>obtain⟨_,_,_,_,e⟩:=x;exact⟨_,e⟩
 |lsm _ g=>obtain⟨_,_,_,_,e⟩:=x;exact⟨_,e⟩
 |tup g=>obtain⟨_,_,_,ob,e,_⟩:=x;exact⟨_,e⟩
 |dK b=>obtain⟨_,_,_,_,ob,_,_,e,_⟩:=x;exact⟨_,e⟩
 |dT b=>exact x.elim
 |set S n=>obtain⟨ob,_,_,_,e,_⟩:=x;exact⟨_,e⟩
 |ins C j fs=>obtain⟨_,_,_,e,_⟩:=x;exact⟨_,e⟩
 |own y=>obtain⟨_,e⟩:=x;exact⟨_,e⟩
 |xd fs=>obtain⟨_,⟨_,_,_,e,_⟩,_⟩:=x;exact⟨_,e⟩
 |rng i q=>obtain⟨_,_,_,e⟩:=x;exact⟨_,e⟩
 |frz ob u=>obtain⟨e,_⟩:=x;exact⟨_,e⟩
 |tbl m=>obtain⟨_,_,_,_,e,_⟩:=x;exact⟨_,e⟩
 |met f y=>exact⟨_,(show h.get? a=So _ from x)⟩
 |ext l=>obtain⟨_,⟨_,e⟩,_⟩:=x;exact⟨_,e⟩
def HOk.has(ok:Ct){b:Addr}{u:HO}(e:H b=So u):∃o,h.get? b=So o:=ObjOk.has (ok b u e)
inductive CXi(P:Be)(w:A0)(outer:A5)(H:Hp)(s:Ak)(E:XK)(e:Al)(s':Ak):Prop where
 |mk (a C:Addr) (H':Hp) (B:Heap) (a0:Value):e=.ref a->s'.os=s.os->AllBare s'.gens->Un (frs outer) [] H H' s.heap s'.heap->HOk P w H' s'.heap->Heap.FlyingW B outer a (.ref C) a0 s'.heap->(∀b u,H' b=So u->∃o,B.get? b=So o)->(∀b o,s.heap.get? b=So o->b∉frs outer->(H b=No->B.get? b=So o)/\∃o',B.get? b=So o')->E (.ref C) No H'->CXi P w outer H s E e s'
noncomputable def CXr (P:Be) (w:A0):CXT:=CXi P w
def jV(B:Heap)(l:A5)(e:Addr)(b a0 fl:Al)(h:Heap):Prop:=B.StaysIn h/\B.get? e=No/\h.FunFrames B l/\h.TracedAtW B e b a0 fl
section
variable{M:Model}{E:Au}{O:Env}{outer:A5}{L e:Addr}{cls a0 fl:Al}{Q:C8}
def zY(y:A.frames=So Cu)(l:O.frame=So L)(x:Ut)(I:∀j,Heap.HeldW B Cu e cls a0 L j->s.heap.UpToSlots j->Q () {s with heap:=j}):wpAny M A Ob Q E s:=by
 obtain⟨z,u,Y,r⟩:=x;by_cases U:fl=rawInt L
 ·subst U;exact wpAny_noteFrame_againW l r (I Re ⟨z,u,Y,r⟩ (Heap.UpToSlots.refl _))
 ·obtain⟨oe,W,T,oT,ts,G,⟨Z,h0⟩,J,X,m,v,t,i,F⟩:=r;subst Z;unfold noteFrame;simp only[l];refine Za (ZV G J X ?_);rw[if_pos 'k'];refine Za (ZV t i F ?_);rw[if_neg (by simpa using U)];refine Za (rB t i (iK.mp F).1 ?_);have oth:∀b,b≠T->(s.heap.update T (Obj.mapFields (·.setIfInBounds 3 Xq))).get? b=s.heap.get? b:=λb hb=>ZR _ _ EM;have N:∀b o,s.heap.get? b=So o->(∀W,o.data≠.fields W)->b≠T:=λb o hb f q=>by rw[q,t]at hb;injection hb with hb;subst hb;exact f ts i
  refine wpAny_entryW y (Y.of_keeps λb o hb f=>⟨o,'乾'.trans hb,rfl⟩) l ((oth e (Ne.symm v)).trans G) (λb o g=>(oth b λq=>by
   rw[q,m]at g;cases g).trans (z b o g)) u J (iK.mp X).1 h0 λj hN=>?_
  obtain⟨x1,x2,x3,x4⟩:=hN;exact I j ⟨x1,u,x2,x3⟩ λb o hb f=>x4 b o ('乾'.trans hb) f
def JjT(j:A.frames=So Cu)(t:O.frame=So L)(x:Ut)(u:∀f,Heap.FlyingW B outer e cls a0 f->s.heap.UpToSlots f->Q () {s with heap:=f}):wpAny M A (leaving O IA) Q E s:=by unfold leaving;refine Za (zY j t x λy b o=>?_);refine wpAny_landsW b λv i g=>?_;obtain⟨r,l,⟨_,_,q⟩,m⟩:=i;exact u v ⟨r,l,q,m⟩ (o.trans g)
end
structure FlyIn(X:Cx)(C a:Addr)(W:Hp)(s':Ak):Prop where
 inv:∃Y Z,Inv X Y Z W s'/\((∃h vs,Heap.MadeExcOf h XZ a AX vs/\Inv X Y Z W {s' with heap:=h})\/
  ∃B a0 fl,jV B Xp a AX a0 fl XZ/\(∀b u,W b=So u->∃o,B.get? b=So o)/\(∀b o,X.s₀.heap.get? b=So o->b∉frs X.stack->b∉X.ex->(X.H₀ b=No->B.get? b=So o)/\∃o',B.get? b=So o')/\∀p∈X.pn,B.get? p.1=So p.2)
noncomputable def cxE (CX:CXT) (P:Be) (w:A0) (K:Aj) (mg:Bi) (base:Heap) (N:Ag) (O:Env) (fn:Str->Bool) (cm:Bool) (A:Bd) (outer:A5) (s:Ak) (H:Hp) (E:XK):Cx where
 prog:=P
 w:=w
 K:=K
 mg:=mg
 base:=base
 A:=A.deeper O
 N:=N
 s₀:=s
 H₀:=H
 env:=O
 outer:=outer
 stack:=O::outer
 ex:=[]
 calm:=cm
 fn:=fn
 pn:=[]
 xe:=λe s'=>wpAny Cf (A.deeper O) (leaving O e) (λ_ b=>CX outer H s E e b) (λf b=>CX outer H s E f b) s'
section
variable{K:Aj}{N:Ag}{O:Env}{fn:Str->Bool}{cm:Bool}{outer:A5}{W:Hp}{E:XK}
def JiJ(i:O.frame=So Aa){Y:AV}{Z:Bf}{h1 h':Heap}{a0:Al}(I:Inv 'ƛ' Y Z W {s' with heap:=h1})
  (fl:Heap.FlyingW B outer a AX a0 h') (k1:B.StaysIn h1) (up:h1.UpToSlots h') (tr:∀b u,W b=So u->∃o,B.get? b=So o)
  (kp:∀b o,s.heap.get? b=So o->b∉frs Cu->(H b=No->B.get? b=So o)/\∃r,B.get? b=So r) (hE:Qdg):CXr P w outer H s E Ax {s' with heap:=h'}:=by
 have g:∀b o,s.heap.get? b=So o->b∉frs outer->b∉frs Cu:=λb o f l q=>by
  unfold frs at q;rw[lC,i]at q;rcases Zg.mp q with e|q
  ·have:=Zh f;rw[e]at this;exact absurd this Cq
  ·exact l q
 have u:=Yq;refine⟨a,C,W,B,a0,rfl,I.os,XA,⟨?_,?_,?_,?_,u.tups,u.frzs,u.tbls⟩,HOk.onB Xy tr k1 fl.1,fl,tr,λb o f l=>kp b o f (g b o f l),hE⟩
 ·intro b o f l i _;exact fl.1 b o ((kp b o f (g b o f i)).1 l)
 ·intro b o f l i _;obtain⟨sl,x⟩:=u.slot b o f l i (by show b∉([]:List Addr);simp);obtain⟨_,y,j,v⟩:=(show s.heap.FunFrames base outer from I.ok.funs).mem i;rw[f]at j;cases j;obtain⟨m,t⟩:=up b _ x v;exact⟨m,t⟩
 ·intro b o f l _;exact u.free b o f l (by show b∉([]:List Addr);simp)
 ·intro b o f _;by_cases i:b∈frs outer
  ·obtain⟨_,y,j,v⟩:=(show s.heap.FunFrames base outer from I.ok.funs).mem i;rw[f]at j;cases j;obtain⟨sl,x⟩:=u.slot b o f (I.ok.frf b i) i (by show b∉([]:List Addr);simp);obtain⟨m,t⟩:=up b _ x v;exact⟨_,t⟩
  ·obtain⟨r,e⟩:=(kp b o f (g b o f i)).2;exact⟨r,fl.1 b r e⟩
def hZ(f:O.frame=So Aa)(F:FlyIn 'ƛ' C a W s')(hE:Qdg):'ƛ'.xe Ax s':=by
 obtain⟨Y,Z,I,hx⟩:=F.inv;have hst:'ƛ'.stack=O::outer:=rfl;show wpAny Cf (A.deeper (O)) (leaving (O) Ax) _ _ s';have l:(A.deeper (O)).frames=So Cu:=c5;rcases hx with⟨h,vs,L,i⟩|⟨B,a0,flv,m,tr,U,_⟩
 ·have r:∀G∈(O::outer),∀b,G.frame=So b->b∈frs Cu:=λG v b g=>ZX.mpr ⟨G,v,g⟩;have J:(hideAll h (frs Cu)).StaysIn h:=λb o q=>of_hideAll _ q;refine wpAny_leaves_madeW l f J (funFrames_hide i.stack r) L λh' t m _ _ x=>?_;refine JiJ f (B:=hideAll h (frs Cu)) (h1:=h) i m J ((sS L.keeps).trans x) (λb u e=>?_) (λb o g j=>RF) hE
  ·obtain⟨o,M⟩:=HOk.has i.hok e;exact⟨o,hideAll_get _ M λz=>by rw[i.stkFree b z]at e;cases e⟩
  ·refine hideAll_get _ (i.base.keep b o g h0 (λz=>j ?_) (by show b∉([]:List Addr);simp)) j;exact ZX.mpr (by obtain⟨e,v,f⟩:=ZX.mp z;exact⟨e,.tail _ v,f⟩)
  ·obtain⟨X,e⟩:=i.base.there b o g (by show b∉([]:List Addr);simp);exact⟨X,hideAll_get _ e j⟩
 ·refine JjT l f m λh' y x=>?_;exact JiJ f (h1:=XZ) I y m.1 x tr (λb o g j=>U b o g j (by show b∉([]:List Addr);simp)) hE
end
def uR{K:Aj}{N:Ag}{g:Str}{b:AS}{f:Addr}{i:Al}{e:A5}{W:Hp}{E:XK}(F:FlyIn 'ϱ' C a W s')(hE:Qdg):'ϱ'.xe Ax s':=
 hZ (O:=envOfC g b Aa f i) (fn:=λ_=>To) (cm:=To) rfl F hE
def pM{X:Cx}{Y:AV}{Z:Bf}{E:XK}{e:Al}(I:AH)(h:CXr Xn X.w Xp H s E e s'):∃a C W,e=.ref a/\FlyIn X C a W s'/\E AX No W:=by
 obtain⟨a,C,W,B,v,rfl,x,hg,u,l,U,G,r,hE⟩:=h;have L:Inv X Y Z W s':=I.call' x u l hg Qo;have g:∀b,b∉X.fs->b≠AD->b∉frs Xp:=λb h1 O M=>by
  rcases Zg.mp (I.stkSub b M)with e|e
  ·exact O e
  ·exact h1 e
 refine⟨a,C,W,rfl,⟨Y,Z,L,.inr ⟨B,v,.none,U,G,λb o i j f=>?_,λp N=>?_⟩⟩,hE⟩;rotate_left
 ·obtain⟨y,q2,q3,q4,_⟩:=I.pin p (zO _ N);exact(r p.1 p.2 y (g p.1 q4 q3)).1 q2
 have m:b∉X.fs:=λz=>j (by
  rcases I.ok.stk with e|⟨e,_⟩
  ·rw[e];exact z
  ·rw[e];obtain⟨e',J,F⟩:=ZX.mp z;exact ZX.mpr ⟨e',.tail _ J,F⟩)
 constructor
 ·intro t;have q:=I.base.keep b o i t m f;exact(r b o q j).1 (I.base.free b o i t f)
 ·obtain⟨o1,q⟩:=I.base.there b o i f;exact(r b o1 q j).2
def JdV{M:Model}{E:Au}{O:Env}{outer:A5}{L e:Addr}{l:Al}{g:AF}{Q:C8}
  (q:A.frames=So Cu) (r:O.frame=So L) (m:base.StaysIn h) (I:h.FunFrames base Cu) (j:Heap.MadeExcOf h Re e l g)
  (W:∀f a0,Heap.HeldW base Cu e l a0 L f->s.heap.UpToSlots f->Q () {s with heap:=f}):wpAny M A Ob Q E s:=by
 obtain⟨t,u,y,X⟩:=j.there;have fresh:∀b,h.get? b=No->base.get? b=No:=λb i=>by
  cases U:base.get? b with
  |none=>rfl
  |some F=>have:=m b F U;rw[i]at this;cases this
 unfold noteFrame;simp only[r];refine Za (ZV (x:=Xq) u rfl rfl ?_);rw[if_neg (show¬((Value.none !=Value.none)=To) by decide)];refine wpAny_entryW (a0:=.ref t) q (I.of_keeps λb o i _=>⟨o,j.keeps b o i,rfl⟩) r u (λb o i=>j.keeps b o (m b o i)) (fresh e j.new) rfl (by show 1<6;decide) rfl λf z=>?_;obtain⟨N,v,J,G⟩:=z;exact W f GO ⟨N,fresh e j.new,v,J⟩ G
noncomputable def nmK:Value->Str
 |.str n _=>n
 |_=>X5
def Jsk(P:Be){K:Aj}{x:Str}{b:AF}{f:Ba}(M:Mod K mg base)(l:PySem.W.nsIn K mainGlobals x=So Bo)(q:excIn K C b f=To):OwnCls x C b f mg base:=by obtain⟨mb,j,m⟩:=M.blt;obtain⟨o,r,F,v,E,k,i⟩:=id M.glob;refine PySem.W.own_of_in (p:=P) (loose:=r.toList.map λe=>nmK X9) (mb:=mb) M.kin ⟨M.glob,j,M.nolimit,m,λy _ h _ _ _=>?_⟩ l q;rw[<-i];refine Option.map_eq_none_iff.mpr (Array.find?_eq_none.mpr λe g z=>h (Zy.mpr ⟨e,by simpa using g,?_⟩));obtain⟨n,t,u⟩:=k e g;rw[u]at z⊢;exact eq_of_beq z
section
variable{X:Cx}{x:Str}{e:Expr}{te:TE}{np cpos pos:Pos}{bs0:AF}{Bn nid iid:Ba}
def JoF(f:BZ)(U:Dc)(F:PySem.W.nsIn X.K mainGlobals x=So Bo)(G:X.mg x=So AX)(L:excIn X.K C bs0 nid=To)(r:ExcBaseFacts Bn nid iid bs0)(J:Ew)(j:Gi)
  (i:IJ):PS X Wv (λD Z H=>te Z H λv W=>([v]:List V).length=1/\∀a s',FlyIn X C a W s'->X.xe Ax s'):=by
 intro Y s Z H D I h;obtain⟨tl,N,nm,qn,bs,O,sn,sub,ab,col,dd,k0,k1,k2,k3,k5,mN,y,u,l,T⟩:=(Jsk Xn YU F L).obj;refine wpAny_Raise_call_subT (C:=C) (nm:=nm) (q:=qn) (N:=N) (bs:=bs) (bm:=tl) (hdct:=O) (sn:=sn) (sub:=sub) (ab:=ab) (col:=col) (dd:=dd) (k0:=k0) (k1:=k1) (k2:=k2) (k3:=k3) (k5:=k5)
  r (mN:=mN) (T.hasType r.hasBase) (I.ok.hd f) (by rw[i];rfl) l (xG I U G Lx j)
 have m:=(Jq J JP i) cpos Y s Z H (λvs W=>AA=1/\∀a s',FlyIn X C a W s'->X.xe Ax s') I h;rw[i]at m⊢;refine sO (ZL m (λt o M=>?_) λ_ _ z=>z);obtain⟨vs,H2,g,rv,hv,E⟩:=M;have hl:t.length<=sizeLine:=by rw[<-rv.length,hv];decide
 refine⟨rfl,hl,g.bk _ _ y,u.keeps g.bk,T.keeps g.bk,λh' a b=>?_⟩;exact E a _ ⟨Y,Z,g.kept (t':=o.toks) b.keeps,.inl ⟨o.heap,t,b,g⟩⟩
end
end Rd
namespace Rd
open PySem PySem.Spec PyProof.Rows L2 Pu
variable{H W:Hp}{d:D}{Z:Bf}{xs:Av}{s:Ak}{X:Cx}{x:Str}{J:Am}{a Cd:Addr}{Y:AV}{pos:Pos}{v:V}{pc ps pe:Px}{o:O2}{scope:AS}{A:Bd}{E:Au}{N:Ag}{nm:A8}{elt iter tg:Expr}{ifs:Cy}{its:AF}{nt:Nat}{cs:DG}{prog:Be}{fp:A1}{α:Type}{P:D->Prop}
noncomputable def keyV:L2.Key->D
 |.inl n=>.int n
 |.inr x=>.str x
 |.non=>.non
mutual
def JvZ:KTr L2.Key->D
 |.a k=>keyV k
 |.t ks=>.tup (uK ks)
def uK:List (KTr Yh)->List D
 |[]=>[]
 |k::ks=>JvZ k::uK ks
end
def DK(H:Hp)(a:Addr)(t z:Bool)(ks:Am)(xs:Av):Prop:=match t with
 |true=>∃kvs:List (List (KTr Yh)×V),(match z with
  |true=>∃o,H a=So (.frz o Ft)
  |false=>H a=So Ft)/\ks=kvs.map (λp=>.tup (uK p.1))/\xs=kvs.map (·.2)
 |false=>∃kvs:List (L2.Key×V),(match z with
  |true=>∃o,H a=So (.frz o AM)
  |false=>H a=So AM)/\ks=kvs.map (λp=>keyV p.1)/\xs=kvs.map (·.2)
def DK.mono{t z:Bool}{ks:Am}(e:∀o,H a=So o->W a=So o)(h:Q6):DK W a t z ks xs:=by
 cases t<;>cases z<;>obtain⟨b,f,g⟩:=h
 ·exact Qd6
 ·exact⟨b,let⟨o,h⟩:=f;⟨o,e _ h⟩,g⟩
 ·exact Qd6
 ·exact⟨b,let⟨o,h⟩:=f;⟨o,e _ h⟩,g⟩
noncomputable def clsN (ns:Ag):Str:=if ns.contains (oS "rows")then oS "Board" else oS "Site"
mutual
def Rep(K:Aj)(H:Hp):D->V->Prop
 |.non,v=>v=.non
 |.bl b,v=>v=.bl b
 |.int i,v=>v=.int i
 |.str x,v=>v=.str x
 |.tup J,v=>∃a xs,v=.ref a/\SqT K H a xs/\Reps K H J xs
 |.lst J,v=>∃a xs,v=.ref a/\SqL K H a xs/\Reps K H J xs
 |.dct t z ks vs,v=>∃a xs,v=.ref a/\DK H a t z ks xs/\Reps K H vs xs
 |.exc c,v=>∃a o C,v=.ref a/\H a=So (.frz o F3)/\o.cls=.ref C/\PySem.W.nsIn K mainGlobals c=So Bo
 |.fn x _,v=>∃f,v=.ref f/\PySem.W.nsIn K mainGlobals x=So Ez
 |.obj a ns fs,v=>v=.ref a/\∃C e xs,H a=So (.ins C e 'ȥ')/\PySem.W.nsIn K mainGlobals CG=So Bo/\ns.length=Qdp/\Reps K H fs xs
 |.mls t J,v=>∃a xs,v=.ref a/\H a=So (.lsm t xs)/\Reps K H J xs
 |.adr b,v=>v=.ref b
def Reps(K:Aj)(H:Hp):List D->List V->Prop
 |[],xs=>xs=[]
 |d::J,xs=>∃x r,xs=x::r/\Rep K H d x/\Reps K H J r
end
def SqT.same{K:Aj}(e:B9)(h:bI):SqT K W a xs:=by
 rcases h with h|h
 ·exact .inl (e _ _ h)
 ·exact .inr h
mutual
def Rep.mono{K:Aj}{H W:Hp}(e:B9):∀(d:D){v:V},Rep K H d v->Rep K W d v
 |.non,_,h=>h
 |.bl _,_,h=>h
 |.int _,_,h=>h
 |.str _,_,h=>h
 |.tup J,_,⟨a,xs,e1,h1,h2⟩=>⟨a,xs,e1,SqT.same e h1,Reps.mono e J h2⟩
 |.lst J,_,⟨a,xs,e1,h1,h2⟩=>⟨a,xs,e1,e.seq h1,Reps.mono e J h2⟩
 |.dct t z ks vs,_,⟨a,xs,e1,h1,h2⟩=>⟨a,xs,e1,h1.mono (e a),Reps.mono e vs h2⟩
 |.exc c,_,⟨a,o,C,e1,h1,h2⟩=>⟨a,o,C,e1,e _ _ h1,h2⟩
 |.fn x _,_,h=>h
 |.obj a ns fs,_,⟨e1,C,dx,xs,h1,h2,h3,h5⟩=>⟨e1,C,dx,xs,e _ _ h1,h2,h3,Reps.mono e fs h5⟩
 |.mls t J,_,⟨a,xs,e1,h1,h2⟩=>⟨a,xs,e1,e _ _ h1,Reps.mono e J h2⟩
 |.adr _,_,h=>h
def Reps.mono{K:Aj}{H W:Hp}(e:B9):∀(J:Am){xs:Av},Reps K H J xs->Reps K W J xs
 |[],_,h=>h
 |d::J,_,⟨x,r,e1,h1,h2⟩=>⟨x,r,e1,Rep.mono e d h1,Reps.mono e J h2⟩
end
def Reps.length{K:Aj}{H:Hp}:∀{J:Am}{xs:Av},Reps K H J xs->Ai=Ac
 |[],_,h=>by cases h;rfl
 |d::J,_,⟨x,r,e1,h1,h2⟩=>by subst e1;simp[Reps.length h2]
def Reps.get{K:Aj}{H:Hp}:∀{J:Am}{xs:Av}{i:Nat}{d:D},Reps K H J xs->J[i]? =So d->∃x,xs[i]? =So x/\Rep K H d x
 |[],_,_,_,_,e=>by simp at e
 |d::J,_,0,d',⟨x,r,e1,h1,h2⟩,e=>by subst e1;simp at e;subst e;exact⟨x,rfl,h1⟩
 |d::J,_,i+1,d',⟨x,r,e1,h1,h2⟩,e=>by
  subst e1
  obtain⟨y,f,b⟩:=Reps.get (i:=i) h2 (by simpa using e)
  exact⟨y,by simpa using f,b⟩
def Reps.get'{K:Aj}:∀{J:Am}{xs:Av}{i:Nat}{x:V},Reps K H J xs->xs[i]? =So x->∃d,J[i]? =So d/\Rep K H d x
 |[],_,_,_,h,e=>by cases h;simp at e
 |d::J,_,0,d',⟨x,r,e1,h1,h2⟩,e=>by subst e1;simp at e;subst e;exact⟨d,rfl,h1⟩
 |d::J,_,i+1,d',⟨x,r,e1,h1,h2⟩,e=>by
  subst e1
  obtain⟨y,f,b⟩:=Reps.get' (i:=i) h2 (by simpa using e)
  exact⟨y,by simpa using f,b⟩
def Reps.append{K:Aj}:∀{J b:Am}{xs ys:Av},Reps K H J xs->Reps K H b ys->Reps K H (J++b) (xs++ys)
 |[],_,_,_,h,h'=>by cases h;exact h'
 |d::J,b,_,ys,⟨x,r,e1,h1,h2⟩,h'=>by subst e1;exact⟨x,r++ys,rfl,h1,Reps.append h2 h'⟩
def Reps.take{K:Aj}:∀(n:Nat){J:Am}{xs:Av},Reps K H J xs->Reps K H (J.take n) (xs.take n)
 |0,_,_,h=>by simp[Reps]
 |n+1,[],_,h=>by cases h;simp[Reps]
 |n+1,d::J,_,⟨x,r,e1,h1,h2⟩=>by subst e1;exact⟨x,r.take n,rfl,h1,Reps.take n h2⟩
def Reps.drop{K:Aj}:∀(n:Nat){J:Am}{xs:Av},Reps K H J xs->Reps K H (J.drop n) (xs.drop n)
 |0,_,_,h=>by simpa using h
 |n+1,[],_,h=>by cases h;simp[Reps]
 |n+1,d::J,_,⟨x,r,e1,h1,h2⟩=>by subst e1;exact Reps.drop n h2
def Reps.nil_iff{K:Aj}(h:FE):xs=[]↔J=[]:=by
 have:=h.length;constructor
 ·intro e;subst e;cases J with
  |nil=>rfl
  |cons _ _=>simp at this
 ·intro e;subst e;exact h
def Reps.one{K:Aj}(h:DX):Reps K H [d] [v]:=⟨v,[],rfl,h,rfl⟩
def Tups(K:Aj)(H W:Hp):Prop:=(∀a xs,SqT K H a xs->SqT K W a xs)/\∀a o u,H a=So (.frz o u)->W a=So Lh
def Tups.of{K:Aj}(e:B9):Tups K H W:=⟨λ_ _ h=>SqT.same e h,λ_ _ _ h=>e _ _ h⟩
mutual
def Rep.tups{K:Aj}{H W:Hp}(e:Tups K H W):∀(d:D){v:V},d.imm=To->Rep K H d v->Rep K W d v
 |.non,_,_,h=>h
 |.bl _,_,_,h=>h
 |.int _,_,_,h=>h
 |.str _,_,_,h=>h
 |.tup J,_,i,⟨a,xs,e1,h1,h2⟩=>⟨a,xs,e1,e.1 _ _ h1,Reps.tups e J (by simpa[D.imm]using i) h2⟩
 |.lst J,_,i,_=>by simp[D.imm]at i
 |.dct t z ks vs,_,i,⟨a,xs,e1,h1,h2⟩=>by
  simp only[D.imm,Zd]at i
  refine⟨a,xs,e1,?_,Reps.tups e vs i.2 h2⟩
  obtain⟨rfl,_⟩:=i
  cases t<;>obtain⟨b,⟨o,g⟩,f⟩:=h1
  ·exact⟨b,⟨o,e.2 _ _ _ g⟩,f⟩
  ·exact⟨b,⟨o,e.2 _ _ _ g⟩,f⟩
 |.exc c,_,_,⟨a,o,C,e1,h1,h2⟩=>⟨a,o,C,e1,e.2 _ _ _ h1,h2⟩
 |.fn x _,_,_,h=>h
 |.obj a ns fs,_,i,_=>by simp[D.imm]at i
 |.mls _ _,_,i,_=>by simp[D.imm]at i
 |.adr _,_,i,_=>by simp[D.imm]at i
def Reps.tups{K:Aj}{H W:Hp}(e:Tups K H W):∀(J:Am){xs:Av},imms J=To->Reps K H J xs->Reps K W J xs
 |[],_,_,h=>h
 |d::J,_,i,⟨x,r,e1,h1,h2⟩=>by
  simp only[imms,Zd]at i
  exact⟨x,r,e1,Rep.tups e d i.1 h1,Reps.tups e J i.2 h2⟩
end
noncomputable def hid (L:A1) (H:Hp):Hp:=λa=>if a∈L then No else H a
noncomputable def Chgb:HO->Prop
 |.lst _=>True
 |.dK _=>True
 |.dT _=>True
 |_=>False
def Ows(L:A1)(H:Hp):Prop:=∀a∈L,∃o,H a=So o/\Chgb o
def ItOk(b:It):Prop:=∀(L:A1)(i:Nat)(H:Hp)(x:V)(W:Hp),Ows L H->b.yld i H x W->b.yld i Bc x GF
section
variable{L L':A1}{H1:Hp}{o:HO}
def Jt(h:a∉L):hid L H a=H a:=by unfold hid;rw[if_neg h]
def uG(h:a∈L):hid L H a=No:=by unfold hid;rw[if_pos h]
def fH(h:hid L H a=So o):a∉L/\H a=So o:=by
 unfold hid at h;split at h
 ·cases h
 ·rename_i q;exact⟨q,h⟩
def hid_same:Same Bc H:=λa o h=>(fH h).2
def Jou(k:∀a o,H a=So o->a∉L->W a=So o/\a∉L'):Same Bc (hid L' W):=λa o h=>by
 obtain⟨b,f⟩:=fH h
 obtain⟨g,e⟩:=k a o f b
 rw[Jt e];exact g
def JH:hid [] H=H:=by funext a;exact Jt Af
def Jsf(h:a∉L):hid L EA=upd Bc a o:=by
 funext b;by_cases q:b=a
 ·subst q;rw[Jt h,Jd,Jd]
 ·rw[Jb q];by_cases r:b∈L
  ·rw[uG r,uG r]
  ·rw[Jt r,Jt r,Jb q]
end
def ReadOk(K:Aj)(H:Hp)(Z:Bf)(O:Fm):Prop:=∀(i:Nat)(d:D),O[i]? =So BG->∃v,Z[i]? =So Bj/\Rep K H d v
def ReadOk.mono{K:Aj}{O:Fm}(r:ReadOk K H Z O)(e:B9):ReadOk K W Z O:=λi d h=>
 let⟨v,b,f⟩:=r i d h
 ⟨v,b,f.mono e⟩
def XE(X:Cx)(C:Addr)(H:Hp):Prop:=∀a b,FlyIn X C a H b->X.xe Ax b
def XW(X:Cx)(H:Hp)(c:Str):Prop:=∀C W,X.mg c=So AX->Same H W->XE X C W
def XW.mono{c:Str}(e:B9)(h:XW X H c):XW X W c:=λC b f s=>h C b f (e.trans s)
def Out(X:Cx)(H:Hp)(Q:VK)(d:D):Prop:=∀v W,Same H W->Rep X.K W d v->Q v W
def Out.mono{b:Hp}{Q:VK}(h:cZ)(e:Same H b):Out X b Q d:=λv W f r=>h v W (e.trans f) r
def Out.now{Q:VK}(h:cZ)(r:HJ):Q v H:=h v H ED r
inductive tI(X:Cx)(call:Ae)(p:Px)(σ:Bf)(H:Hp)(Q:VK):Prop where
 |mk:∀env,ReadOk X.K H σ env->(evD call p env).Good (Out X H Q) (XW X H)->tI X call p σ H Q
inductive tT(X:Cx)(call:Ae)(p:Px)(σ:Bf)(H:Hp)(Q:L9):Prop where
 |mk:∀env,ReadOk X.K H σ env->((evD call p env).Good (λd=>∃b,d=.bl b/\∀H',Same H H'->Q b H') BE)->tT X call p σ H Q
inductive tA(X:Cx)(call:Ae)(p:Px)(σ:Bf)(H:Hp)(Q:(List V->Hp->Prop)):Prop where
 |mk:∀env,ReadOk X.K H σ env->((evD call p env).Good (λd=>∃ds,d=.lst ds/\∀vs H',Same H H'->Reps X.K H' ds vs->Q vs H') BE)->tA X call p σ H Q
section
variable{U:Ae}{e a b c:Expr}{es:Cy}{p pa pb:Px}
def PE.weak{t t':TE}(h:PE X e t)(f:∀Z H Q,t' Z H Q->t Z H Q):PE X e t':=λY s Z H Q I g=>h Y s Z H Q I Ls
def PT.weak{t t':TT}(h:PT X e t)(f:∀Z H Q,t' Z H Q->t Z H Q):PT X e t':=λY s Z H Q I g=>h Y s Z H Q I Ls
def PW.weak{t t':TT}(h:PW X e t)(f:∀Z H Q,t' Z H Q->t Z H Q):PW X e t':=λw Y s Z H Q I g=>h w Y s Z H Q I Ls
def PA.weak{t t':TA}(h:Z4)(f:∀Z H Q,t' Z H Q->t Z H Q):PA X es t':=λp Y s Z H Q I g=>h p Y s Z H Q I Ls
def tI.then{O:Fm}{Q:VK}{k:D->Rs D}(r:Kv)(h:('Ƥ'.bind k).Good BY BE){f:VK}
  (i:∀d v W,Same H W->Rep X.K W d v->ReadOk X.K W Z O->(k d).Good (Out X W Q) (XW X W)->f v W):tI X U p Z H f:=by refine⟨O,r,'Ĝ'.imp λd j v W s g=>i d v W s g (r.mono s) (j.mono (λl o=>o.mono s) λc x=>x.mono s)⟩
def Jqg{i:Nat}(m:X.N[i]? =So x)(j:Vis Cs x)(u:Gi)(g:Fg):PE X B0 QJ:=by
 refine PE.weak (nE m j u g) λZ H Q f=>?_;obtain⟨O,r,h⟩:=f;simp only[evD]at h;cases q:O[i]? with
 |none=>rw[q]at h;exact h.elim
 |some o=>
  cases o with
  |none=>rw[q]at h;exact h.elim
  |some d=>rw[q]at h;obtain⟨v,t,l⟩:=r i d q;exact⟨v,t,Out.now h l⟩
def JO{i:Int}{j}:PE X P8 (tI X U (.con AY)):=PE.weak JvW λZ H Q⟨O,r,h⟩=>Out.now h rfl
def uH{i:Bool}{j}:PE X (.Constant (.bool i) j pos) (tI X U (.con (.bl i))):=PE.weak pe_bl λZ H Q⟨O,r,h⟩=>Out.now h rfl
def JuU{j}:PE X Qq (tI X U Da):=PE.weak JuY λZ H Q⟨O,r,h⟩=>Out.now h rfl
def vA{j}:PE X P7 (tI X U (.con CB)):=PE.weak JpJ λZ H Q⟨O,r,h⟩=>Out.now h rfl
def Jtt(X:Cx)(x:Str)(d:D):Prop:=∃v u,X.mg x=So u/\RelV v u/\∀H,Rep X.K H d v
def JrI(f:Dc)(h:Jtt X x d)(j:Gi):PE X B0 Qaf:=by obtain⟨v,u,i,r,g⟩:=h;exact PE.weak (JlF f i r j) λZ H Q⟨O,r,h⟩=>Out.now h (g H)
def rD2(X:Cx)(o:O2):R2:=λx y H Q=>∃f g,Rep X.K H f x/\Rep X.K H g y/\(op2 o f g).Good BY BE
def tI.two{Q:VK}(h:tI X U L7 Z H Q):tOp Kh GV a7 Z H Q:=by obtain⟨O,r,h⟩:=h;refine tI.then r h λl x z u f j m=>?_;refine tI.then j m λt y B g i w q=>?_;exact⟨l,t,f.mono g,i,q⟩
def lL{f:bN}(ho:OpR X (binaryOp f) Kh)(i:AG)(g:Bp):PE X (.BinOp a f b pos) IP:=
 PE.weak (pe_op ho i g) λZ H Q h=>h.two
def yP{op:aX}(ho:QP)(g:AG)(f:Bp)(i:FQ):PE X FP IP:=
 PE.weak (Jrb ho g f i) λZ H Q h=>h.two
def tT.asTest{Q:D3}(h:tT X U p Z H Q):tI X U p Z H λx W=>∃k,x=.bl k/\Q k W:=by obtain⟨O,r,h⟩:=h;refine⟨O,r,h.imp λd g v W s f=>?_⟩;obtain⟨b,e,q⟩:=g;subst e;exact⟨b,f,q W s⟩
def qG{op:aX}(ho:QP)(g:AG)(f:Bp)(i:FQ):PT X FP (tT X U L7):=
 PT.weak (JlV ho g f i) λZ H Q h=>h.asTest.two
def pI_ix(g:IxR X Kh)(i:AG)(f:Bp)(j:zQ b):PE X MT IP:=
 PE.weak (pe_ix g i f j) λZ H Q h=>h.two
def tT.or{Q:D3}(h:tT X U Lr Z H Q):tOr J5 (tT X U pb) Z H Q:=by
 obtain⟨O,r,h⟩:=h;refine⟨O,r,'Ĝ'.imp λd f=>?_⟩;cases d with
 |bl b=>
  refine O7;cases b with
  |false=>exact iteF ⟨O,r.mono s,f.mono (λd⟨g,e,q⟩=>⟨g,e,λj i=>q j (s.trans i)⟩) λc x=>x.mono s⟩
  |true=>obtain⟨g,e,q⟩:=f;cases e;exact iteT (q W s)
 |_=>exact f.elim
def uU{op}(f:Qdh):PW X MU J5:=by
 cases op
 ·exact JlO f
 ·exact Jqv f
def sP{rest:Cy}(g:Qdh)(f:PW X (.BoolOp .Or (b::rest) pos) (tT X U pb)):PW X (.BoolOp .Or (a::b::rest) pos) (tT X U Lr):=
 PW.weak (Jto g f) λZ H Q h=>h.or
def jU(i:Qdh):PT X MZ (tT X U QdA):=by
 refine PT.weak (Jvc i) λZ H Q f=>?_;obtain⟨O,r,h⟩:=f;refine⟨O,r,'Ĝ'.imp λd g=>?_⟩;cases d with
 |bl b=>obtain⟨j,e,q⟩:=g;cases e;exact⟨b,rfl,q⟩
 |_=>exact g.elim
def Jrn{K:Aj}{b:Bool}(r:DX)(h:d.truth=.ok b):TruV K v H b:=by
 cases d with
 |non=>cases r;simp only[D.truth]at h;cases h;rfl
 |bl c=>cases r;simp only[D.truth]at h;cases h;rfl
 |int i=>cases r;simp only[D.truth]at h;cases h;rfl
 |str x=>
  cases r;simp only[D.truth]at h;split at h
  ·rename_i q;cases h;exact⟨by rw[ZJ];exact q,rfl⟩
  ·cases h
 |tup J=>obtain⟨a,xs,rfl,f,g⟩:=r;simp only[D.truth]at h;cases h;refine .inr (.inl ⟨xs,f,?_⟩);have:=XQ;cases J<;>cases xs<;>simp_all
 |lst J=>obtain⟨a,xs,rfl,f,g⟩:=r;simp only[D.truth]at h;cases h;refine .inl ⟨xs,f,?_⟩;have:=XQ;cases J<;>cases xs<;>simp_all
 |_=>simp only[D.truth]at h;cases h
def Jnl{c:Str}(h:d.truth=.ex c):False:=by cases d<;>simp only[D.truth]at h<;>first|cases h|(split at h<;>cases h)
def JsQ{c:Str}(h:d.walk=.ex c):False:=by cases d<;>simp only[D.walk]at h<;>cases h
def yU(t:AG)(l:∀f,isTrue a QL f=(do let v<-f;standAt a.pos;holding [v] bY)):PT X a (tT X U (.un .truth pa)):=by
 refine PT.weak (JnP t l) λZ H Q j=>?_;obtain⟨O,r,h⟩:=j;refine⟨O,r,'Ĝ'.imp λd g v W s m=>?_⟩;simp only[op1]at g;cases i:d.truth with
 |ok b=>rw[i]at g;obtain⟨u,e,q⟩:=g;cases e;exact⟨b,Jrn m i,q W s⟩
 |ex c=>exact(Jnl i).elim
 |sk=>rw[i]at g;exact g.elim
def Jqs{op}(f:AG):PE X MU GV:=Jvp f
def JpY{rest:Cy}(l:AG)(j:PE X (.BoolOp .And (b::rest) pos) a7):PE X (.BoolOp .And (a::b::rest) pos) (tI X U (.and pa pb)):=by
 refine PE.weak (Juu l j) λZ H Q f=>?_;obtain⟨O,r,h⟩:=f;refine tI.then r h λd v W s i q g=>?_;cases d with
 |bl b=>
  cases i;refine⟨b,rfl,?_⟩;cases b with
  |true=>exact iteT ⟨O,q,g⟩
  |false=>exact iteF (Out.now g rfl)
 |_=>exact g.elim
def Juf(j:AG):PE X MZ (tI X U QdA):=by
 refine PE.weak (Juv j) λZ H Q f=>?_;obtain⟨O,r,h⟩:=f;refine tI.then r h λd v W s i q g=>?_;cases d with
 |bl b=>cases i;exact⟨b,rfl,Out.now g rfl⟩
 |_=>exact g.elim
def pI_if(i:Qbz)(l:AG)(j:Bp):PE X Og (tI X U (.ite pc pa pb)):=by
 refine PE.weak (JiE i l j) λZ H Q f=>?_;obtain⟨O,r,h⟩:=f;refine⟨O,r,'Ĝ'.imp λd g=>?_⟩;cases d with
 |bl b=>
  refine O7;cases b with
  |true=>exact iteT Wy
  |false=>exact iteF Wy
 |_=>exact g.elim
def Jp:PA X [] (tA X U .nil):=by refine PA.weak JP λZ H Q f=>?_;obtain⟨O,r,h⟩:=f;obtain⟨J,e,q⟩:=h;cases e;exact q [] H ED rfl
def Jg(z:PE X e GV)(w:PA X es (tA X U pb))(m:Co):PA X E2 (tA X U (.cons pa pb)):=by
 refine PA.weak (Jq z w m) λZ H Q f=>?_;obtain⟨O,r,h⟩:=f;refine⟨O,r,'Ĝ'.imp λd t v W s u=>?_⟩;refine⟨O,r.mono s,((Rs.gB.mp t).imp λy i=>?_).mono (λ_ x=>x) λc x=>x.mono s⟩;cases y with
 |lst J=>refine⟨J,rfl,λj C g l=>?_⟩;obtain⟨B,e,q⟩:=i;cases e;exact q (v::j) C (s.trans g) ⟨v,j,rfl,u.mono g,l⟩
 |_=>exact i.elim
def jF{a:Addr}{K:Aj}(h:H a=No)(r:FE):Same H (upd H a Bl)/\Rep K (upd H a Bl) Gr Ax:=by
 have s:Same H (upd H a Bl):=λb o e=>by rw[Jb (Je e h)];exact e
 exact⟨s,a,xs,rfl,SqT.of Jd,r.mono s⟩
def eI{a:Addr}{K:Aj}(h:H a=No)(r:FE):Same H (upd H a AK)/\Rep K Q0 AE Ax:=by
 have s:Same H Q0:=λb o e=>by rw[Jb (Je e h)];exact e
 exact⟨s,a,xs,rfl,SqL.of Jd,r.mono s⟩
def JqJ{k:Nat}(h:QbA):PE X Qac (tI X U (.tup p)):=by
 refine PE.weak (JiT h) λZ H Q g=>?_;obtain⟨O,r,h⟩:=g;refine⟨O,r,'Ĝ'.imp λd f=>?_⟩;cases d with
 |lst J=>
  simp only[D.asL,Rs.bo]at f;refine⟨J,rfl,λt W s i=>?_⟩;split at f
  ·rename_i m;refine⟨by rw[i.length,ZJ];exact m,λa l=>?_⟩;obtain⟨j,q⟩:=jF l i;exact f _ _ (s.trans j) q
  ·exact f.elim
 |_=>exact f.elim
def OutF(X:Cx)(H:Hp)(Q:VK)(d:D):Prop:=∃J,d=.lst J/\∀l xs W,Same H W->H l=No->W l=So AK->Reps X.K W J xs->Q BC W
inductive tF(X:Cx)(call:Ae)(p:Px)(σ:Bf)(H:Hp)(Q:VK):Prop where
 |mk:∀env,ReadOk X.K H σ env->(evD call p env).Good (OutF X H Q) (XW X H)->tF X call p σ H Q
end
structure Gw where
 prog:Program
 w:World
 K:PySem.W.Frag
 mg:Str->Option Value
 base:Heap
 A:Around
variable{G:Gw}
noncomputable def gwOf (X:Cx):Gw:=⟨Xn,X.w,X.K,X.mg,XC,X.A⟩
noncomputable def visB (nm:A8) (x:Str):Bool:=match nm.lookup x with
 |some .local=>To
 |some .cell=>To
 |some .free=>To
 |_=>Fo
noncomputable def celB (nm:A8) (x:Str):Bool:=match nm.lookup x with
 |some .cell=>To
 |some .free=>To
 |_=>Fo
noncomputable def locB (nm:A8) (x:Str):Bool:=match nm.lookup x with
 |some .local=>To
 |some .cell=>To
 |_=>Fo
noncomputable def gloB (nm:A8) (x:Str):Bool:=match nm.lookup x with
 |some .globalImplicit=>To
 |_=>Fo
structure Ctx(X:Cx)(G:Gw)(N:Ag)(nm:A8):Prop where
 g:gwOf X=G
 hN:X.N=N
 nd:N.Nodup
 vis:∀x,visB nm x=To->Vis Cs x
 cel:∀x,celB nm x=To->X.env.kindOf x=So .cell\/X.env.kindOf x=So .free
 glo:∀x,gloB nm x=To->Gl X x
 sto:∀x,locB nm x=To->Loc Cs x/\(X.fn x=To\/X.env.scope.names.lookup x=So .local)
 calm:X.calm=To
 un:X.A.units+64<cLine
 fr:∃e0 out0 L,Xp=e0::out0/\e0.frame=So L/\X.env.frame=So L
def Ctx.K(C:Ao):X.K=G.K:=by rw[<-C.g];rfl
def Ctx.mg(C:Ao):X.mg=G.mg:=by rw[<-C.g];rfl
def Walk(K:Aj)(e:It)(H:Hp)(J:Am):Prop:=∀W,Same H W->
 (∀i,i<Ac->e.go i W)/\e.stop Ac W/\∀i x b,i<Ac->e.yld i W x b->Same W b/\∃d,J[i]? =So d/\Rep K b d x
inductive tW(X:Cx)(call:Ae)(p:Px)(σ:Bf)(H:Hp)(R:(It->Hp->Prop)):Prop where
 |mk:∀env,ReadOk X.K H σ env->((evD call p env).Good (λd=>∃ds,d=.lst ds/\∀J H',Same H H'->Walk X.K J H' ds->ItOk J->R J H') BE)->tW X call p σ H R
noncomputable def JW (cs:DG):List (Str×NameKind)->List (Str×Addr)->List (Str×Addr)
 |[],acc=>acc
 |(n,k)::r,acc=>match k,cs.lookup n with
  |.free,So a=>JW cs r ((n,a)::acc)
  |_,_=>JW cs r acc
def JaP{O:Env}:∀(e:A8)(b:DG),(∀y∈e,y.2=.free->∃c,O.cells.lookup y.1=So c)->
  (forIn e b λx r=>if(x.2==Yz)=To then do let a<-cellOf O x.1;pure (ForInStep.yield ((x.1,a)::r))else pure SC:Sem (List (Str×Addr)))=pure (JW QcF e b)
 |[],b,_=>rfl
 |(n,k)::r,b,h=>by
  rw[List.forIn_cons]
  by_cases g:k=.free
  ·subst g
   obtain⟨c,q⟩:=h (n,.free) QaP rfl
   have f:O.cells.lookup n=So c:=q
   have l:cellOf O n=pure c:=by unfold cellOf;rw[f]
   simp only[ZD,if_true,l]
   have i:=JaP r ((n,c)::b) λy j=>h y (.tail _ j)
   simp only[JW,f]
   exact i
  ·have t:(k==Yz)=Fo:=by simpa using g
   simp only[t,Zo,ZN]
   have i:=JaP r b λy j=>h y (.tail _ j)
   have m:JW QcF ((n,k)::r) b=JW QcF r b:=by
    cases k<;>first|rfl|exact absurd rfl g
   rw[m];exact i
def Jcv{O:Env}(h:∀y∈CW,y.2=.free->∃c,O.cells.lookup y.1=So c):closureFor scope O=pure (JW QcF CW []):=by have e:=JaP (O:=O) CW [] h;unfold closureFor;simp only[bind_pure];exact e
def iM:∀(f:A8)(b:DG),(∀x c,b.lookup x=So c->cs.lookup x=So c)->∀x c,(JW cs f b).lookup x=So c->cs.lookup x=So c
 |[],b,h=>h
 |(n,k)::r,b,h=>by
  intro x c
  have keep:=iM r b h x c
  unfold JW
  split
  ·rename_i a j
   refine iM r _ (λy d e=>?_) x c
   by_cases g:y=n
   ·subst g
    simp only[Zk,ZD]at e
    cases e
    exact j
   ·have i:(y==n)=Fo:=by simpa using g
    simp only[Zk,i]at e
    exact h y d e
  ·exact keep
def mZ:∀(e:A8)(b:DG)(x:Str),(∃c,b.lookup x=So c)->∃c,(JW cs e b).lookup x=So c
 |[],b,x,h=>h
 |(n,k)::r,b,x,h=>by
  unfold JW
  split
  ·refine mZ r _ x ?_
   by_cases f:x=n
   ·subst f;exact⟨_,by simp only[Zk,ZD];rfl⟩
   ·have i:(x==n)=Fo:=by simpa using f
    obtain⟨c,g⟩:=h
    exact⟨c,by simp only[Zk,i];exact g⟩
  ·exact mZ r b x h
def lJ:∀(b:A8)(f:DG)(x:Str),(x,Yz)∈b->(∃c,cs.lookup x=So c)->∃c,(JW cs b f).lookup x=So c
 |[],f,x,h,_=>nomatch h
 |(n,k)::r,f,x,h,g=>by
  rcases Zg.mp h with e|i
  ·cases e
   obtain⟨c,g⟩:=g
   unfold JW
   rw[g]
   exact mZ r _ _ ⟨c,by simp only[Zk,ZD]⟩
  ·unfold JW
   split
   ·exact lJ r _ x i g
   ·exact lJ r f x i g
noncomputable def relk (O:Env) (p:Str×NameKind):Str×NameKind:=if(p.2==Yz&&O.scope.kind==.function&&O.kindOf p.1==So .cell)=To then(p.1,XR)else(p.1,p.2)
def iX(O:Env)(n:Str)(k:bP):relk O (n,k)=(n,k)\/(k=.free/\relk O (n,k)=(n,.cell)):=by
 unfold relk;split
 ·rename_i b;simp only[Zd,ZB]at b;exact .inr ⟨b.1.1,rfl⟩
 ·exact .inl rfl
def JeP(scope:AS)(O:Env):'ҵ'.names=scope.names.map aN:=rfl
def JbH{O:Env}{x:Str}:∀{b:A8}{k:bP},b.lookup x=So k->(b.map aN).lookup x=So k\/(k=.free/\(b.map aN).lookup x=So .cell)
 |[],_,h=>by simp at h
 |(n,k')::r,k,h=>by
  rw[Zl]
  by_cases g:x=n
  ·subst g
   simp only[Zk,ZD]at h
   cases h
   rcases iX O x k' with e|⟨j,e⟩
   ·rw[e];exact .inl (by simp only[Zk,ZD])
   ·rw[e];exact .inr ⟨j,by simp only[Zk,ZD]⟩
  ·have f:(x==n)=Fo:=by simpa using g
   simp only[Zk,f]at h
   have i:=JbH (O:=O) h
   rcases iX O n k' with e|⟨_,e⟩<;>rw[e]<;>simp only[Zk,f]<;>exact i
def JgK{O:Env}{x:Str}:∀{b:A8},b.lookup x=No->(b.map aN).lookup x=No
 |[],_=>rfl
 |(n,k')::r,h=>by
  rw[Zl]
  by_cases g:x=n
  ·subst g;simp only[Zk,ZD]at h;cases h
  ·have f:(x==n)=Fo:=by simpa using g
   simp only[Zk,f]at h
   have i:=JgK (O:=O) h
   rcases iX O n k' with e|⟨_,e⟩<;>rw[e]<;>simp only[Zk,f]<;>exact i
def Jm{O:Env}{k:bP}(h:scope.names.lookup x=So k):'ҵ'.names.lookup x=So k\/(k=.free/\(relabel scope O).names.lookup x=So .cell):=JbH h
def JV{O:Env}{k:bP}(h:'ҵ'.names.lookup x=So k):scope.names.lookup x=So k\/(k=.cell/\scope.names.lookup x=So .free):=by
 rw[JeP]at h;cases q:scope.names.lookup x with
 |none=>rw[JgK q]at h;cases h
 |some f=>
  rcases JbH (O:=O) q with z|⟨b,e⟩
  ·rw[z]at h;cases h;exact .inl rfl
  ·rw[e]at h;cases h;subst b;exact .inr Dr
def mem_of_lookup{α:Type}:∀{l:List (Str×α)}{x:Str}{a:α},l.lookup x=So a->(x,a)∈l
 |[],_,_,h=>by simp at h
 |(n,b)::r,x,a,h=>by
  by_cases e:x=n
  ·subst e;simp only[Zk,ZD]at h;cases h;exact .head _
  ·have f:(x==n)=Fo:=by simpa using e
   simp only[Zk,f]at h
   exact .tail _ (mem_of_lookup h)
def Jgo{w:A0}{R:FV}{b:Expr}{it B:Al}{O:Env}(I:Nat->Shared->Prop)
  (M:∀n s,I n s->wpAny Ar A (pyNext it) (λr i=>match r with
   |none=>R (.ok .next) i
   |some v=>wpAny Ar A (letOwnedTupleGo b it v) (λ_ l=>wpAny Ar A (assign b O v) (λ_ y=>
     wpAny Ar A (forIn ifs To λc r=>if r=To then do let ok<-isTrue c O (eval c O);pure (ForInStep.yield ok)else pure SC) (λok j=>
      if ok=To then wpAny Ar A (eval elt O) (λx q=>
       wpAny Ar A (PySem.call (.builtin "list.append") [B,x]) (λ_ u=>∃m,m<n/\I m u) Hr q) Hr j
      else∃m,m<n/\I m j) Hr y) Hr l) Hr i) Hr s)
  (n:Nat) (h:I n s):
  codeAny Ar A (.compLoop Wj 0 it B O) R s:=by
 refine codeAny_loop rfl I (λn s hI=>?_) n h;show wpAny _ A ((compTurn Wj 0 it B O).onRaise (λx=>do noteFrame x O;theTreesLotGoes x)) _ _ s;refine wpAny_noted ?_;rw[compTurn_list];refine Za (wpAny_standAt (Za (ZL (M n s hI) (λr i z=>?_) λ_ _ g=>g)));cases r with
 |none=>exact Zb z
 |some v=>
  refine Za (ZL z (λ_ l C=>?_) λ_ _ g=>g);refine Za (ZL C (λ_ y L=>Za (ZL L (λok j t=>?_) λ_ _ g=>g)) λ_ _ g=>g);cases ok with
  |false=>exact Zb ⟨rfl,t⟩
  |true=>exact Za (Za (ZL t (λx q F=>Za (ZL F (λ_ u U=>Zb (Zb ⟨rfl,U⟩)) λ_ _ g=>g)) λ_ _ g=>g))
noncomputable def dum (n:Str):Str:=⟨n.cps.push 0⟩
def hidN (ls N:Ag):List Str:=N.map λn=>if ls.contains n then dum n else n
def pW:∀(b:A8)(n:Nat)(e:DG)(x:Str)(c:Addr),'Ҷ'.lookup x=So c->e.lookup x=So c\/(n<=c/\(x,XR)∈b)
 |[],_,_,_,_,h=>.inl h
 |(y,k)::r,n,e,x,c,h=>by
  unfold cellsFrom at h
  split at h
  ·rename_i i
   rw[ZB]at i
   subst i
   rcases pW r (n+1) _ x c h with q|⟨g,f⟩
   ·by_cases j:x=y
    ·subst j
     simp only[Zk,ZD,ZP]at q
     subst q
     exact .inr ⟨Zf _,by simp⟩
    ·have l:(x==y)=Fo:=by simpa using j
     simp only[Zk,l]at q
     exact .inl q
   ·exact .inr ⟨kN g,by simp[f]⟩
  ·rcases pW r n e x c h with q|⟨g,f⟩
   ·exact .inl q
   ·exact .inr ⟨g,by simp[f]⟩
def vU:∀(f:A8)(n:Nat)(b:DG),(∀x c,b.lookup x=So c->c<n)->(∀x y c,b.lookup x=So c->b.lookup y=So c->x=y)->∀x y c,(cellsFrom n f b).lookup x=So c->(cellsFrom n f b).lookup y=So c->x=y
 |[],_,_,_,h=>h
 |(z,k)::r,n,b,hlt,h=>by
  unfold cellsFrom
  split
  ·refine vU r (n+1) _ (λx c e=>?_) λx y c l j=>?_
   ·by_cases i:x=z
    ·subst i
     simp only[Zk,ZD,ZP]at e
     subst e;exact ZaJ _
    ·have g:(x==z)=Fo:=by simpa using i
     simp only[Zk,g]at e
     exact lB (hlt x c e)
   ·by_cases i:x=z<;>by_cases m:y=z
    ·rw[i,m]
    ·subst i
     have g:(y==x)=Fo:=by simpa using m
     simp only[Zk,ZD,ZP]at l
     simp only[Zk,g]at j
     subst l
     exact absurd (hlt y _ j) Cq
    ·subst m
     have g:(x==y)=Fo:=by simpa using i
     simp only[Zk,ZD,ZP]at j
     simp only[Zk,g]at l
     subst j
     exact absurd (hlt x _ l) Cq
    ·have g:(x==z)=Fo:=by simpa using i
     have q:(y==z)=Fo:=by simpa using m
     simp only[Zk,g]at l
     simp only[Zk,q]at j
     exact h x y c l j
  ·exact vU r n b hlt h
def eW:∀(b:A8)(n:Nat)(f:DG)(x:Str),(x,XR)∉b->(cellsFrom n b f).lookup x=f.lookup x
 |[],_,_,_,_=>rfl
 |(y,k)::r,n,f,x,h=>by
  unfold cellsFrom
  split
  ·rename_i g
   rw[ZB]at g
   rw[eW r _ _ x λq=>h (by simp[q])]
   have j:x≠y:=λe=>h (by simp[e,g])
   have i:(x==y)=Fo:=by simpa using j
   simp only[Zk,i]
  ·exact eW r _ _ x λq=>h (by simp[q])
def pQ:∀(b:A8)(n:Nat)(e:DG)(x:Str),(∃c,e.lookup x=So c)->∃c,'Ҷ'.lookup x=So c
 |[],_,_,_,h=>h
 |(y,k)::r,n,e,x,h=>by
  unfold cellsFrom
  split
  ·refine pQ r _ _ x ?_
   by_cases f:x=y
   ·exact⟨n,by simp[Zk,f]⟩
   ·have g:(x==y)=Fo:=by simpa using f
    simpa only[Zk,g]using h
  ·exact pQ r _ _ x h
def JpE:∀(b:A8)(n:Nat)(e:DG)(x:Str),(x,XR)∈b->∃c,'Ҷ'.lookup x=So c
 |[],_,_,_,h=>by cases h
 |(y,k)::r,n,e,x,h=>by
  unfold cellsFrom
  rcases Zg.mp h with q|q
  ·cases q
   simp only[ZD,if_true]
   exact pQ r _ _ _ ⟨n,by simp[Zk]⟩
  ·split<;>exact JpE r _ _ x q
theorem nW:∀(b:A8)(h:Heap)(f:DG)(x:Str)(c:Addr),(cellsFrom BL b f).lookup x=So c->f.lookup x=So c\/(BL<=c/\(pushCells h b).IsCell c No)
 |[],_,_,_,_,e=>.inl e
 |(y,k)::r,h,f,x,c,e=>by
  unfold cellsFrom at e
  unfold pushCells
  split at e
  ·rename_i g
   rw[if_pos g]
   have i:(h.push {cls:=.type "cell",data:=.cell No}).objs.size=BL+1:=ZO ..
   rw[<-i]at e
   rcases nW r (h.push {cls:=.type "cell",data:=.cell No}) _ x c e with q|⟨t,l⟩
   ·by_cases j:x=y
    ·subst j
     simp only[Zk,ZD,ZP]at q
     subst q
     exact .inr ⟨Zf _,_,yN _ _ _ _ G0,rfl⟩
    ·have m:(x==y)=Fo:=by simpa using j
     simp only[Zk,m]at q
     exact .inl q
   ·exact .inr ⟨by lia,l⟩
  ·rename_i g
   rw[if_neg g]
   exact nW r h f x c e
def lV{lo:Nat}:∀(b:A8)(n:Nat)(f:DG)(x:Str),lo<=n->((x,XR)∈b\/∀c,f.lookup x=So c->lo<=c)->∀c,(cellsFrom n b f).lookup x=So c->lo<=c
 |[],_,_,_,_,h,c,e=>by
  rcases h with h|h
  ·cases h
  ·exact h c e
 |(y,k)::r,n,f,x,hn,h,c,e=>by
  unfold cellsFrom at e
  split at e
  ·refine lV r (n+1) _ x (Nat.le_succ_of_le hn) ?_ c e
   by_cases i:x=y
   ·refine .inr λj g=>?_
    subst i
    simp only[Zk,ZD,ZP]at g
    subst g;exact hn
   ·have l:(x==y)=Fo:=by simpa using i
    rcases h with h|h
    ·rcases Zg.mp h with q|q
     ·cases q;exact absurd rfl i
     ·exact .inl q
    ·refine .inr λj g=>?_
     simp only[Zk,l]at g
     exact h j g
  ·rename_i m
   refine lV r n f x hn ?_ c e
   rcases h with h|h
   ·rcases Zg.mp h with q|q
    ·cases q;exact absurd (ZD _) m
    ·exact .inl q
   ·exact .inr h
def nM (X:Cx) (ls:Ag) (scope:AS) (C:Addr) (s:Ak) (H:Hp) (fp:A1) (E:Au):Cx:=
 {X with N:=ls++hidN ls X.N,s₀:=s,H₀:=H,env:=compEnvC scope (cellsFrom (C+1) CW (JW X.env.cells CW [])) C QL,outer:=Xp,ex:=fp,fn:=λx=>scope.names.lookup x==So .cell,pn:=[],xe:=E}
def JvH (N:Ag) (nm:A8) (ls:Ag) (b:A8):Bool:=
 b.all λy=>(y.2 !=.cell||(b.lookup y.1==So .cell&&ls.contains y.1))&&(y.2 !=.free||celB nm y.1)&&(y.2 !=.local||(b.lookup y.1==So .local&&(ls.contains y.1||!N.contains y.1)))
structure ScOk(N:Ag)(nm:A8)(ls:Ag)(sc:AS):Prop where
 kind:sc.kind=.function
 nd:(ls++hidN ls N).Nodup
 all:JvH N nm ls Xw=To
 no:∀n∈N,ls.contains n=To->sc.names.lookup (dum n)=No
section
variable{ls:Ag}{sc:AS}
def ScOk.at(h:EE){y:Str×NameKind}(b:y∈sc.names):(y.2=.cell->sc.names.lookup y.1=So .cell/\y.1∈ls)/\(y.2=.free->celB nm y.1=To)/\(y.2=.local->sc.names.lookup y.1=So .local/\(y.1∈ls\/y.1∉N)):=by
 have q:=ZQ.mp h.all y b;simp only[Zd,bne_iff_ne,uD,ZB,kB,rO,Zv,gG]at q;refine⟨λe=>?_,λe=>?_,λe=>?_⟩
 ·rcases q.1.1 with z|z
  ·exact absurd e z
  ·exact z
 ·rcases q.1.2 with z|z
  ·exact absurd e z
  ·exact z
 ·rcases q.2 with z|z
  ·exact absurd e z
  ·exact z
def ScOk.fcell(h:EE)(b:sc.names.lookup x=So .free):(x,XR)∉sc.names:=λq=>by
 have:=((h.at q).1 rfl).1
 rw[b]at this;cases this
def ScOk.cells(h:EE)(C:Ao)(ok:X.Ok):∀y∈sc.names,y.2=.free->∃c,X.env.cells.lookup y.1=So c:=λy b e=>ok.has _ (C.cel _ ((h.at b).2.1 e))
def Jnt(C:Ao)(h:EE):Ctx QB G C4 Xw where
 g:=C.g
 hN:=by show ls++hidN ls X.N=_;rw[C.hN]
 nd:=h.nd
 vis:=λx b=>by
  show Vis 'ǯ' x
  unfold visB at b
  split at b
  ·rename_i e
   rcases Jm (O:=QL) e with z|⟨z,_⟩
   ·exact .inl z
   ·cases z
  ·rename_i e
   rcases Jm (O:=QL) e with z|⟨z,_⟩
   ·exact .inr Fc
   ·cases z
  ·rename_i e
   rcases Jm (O:=QL) e with z|⟨_,z⟩
   ·exact .inr Gq
   ·exact .inr Fc
  ·cases b
 cel:=λx b=>by
  show(relabel sc QL).names.lookup x=So .cell\/(relabel sc QL).names.lookup x=So .free
  unfold celB at b
  split at b
  ·rename_i e
   rcases Jm (O:=QL) e with z|⟨z,_⟩
   ·exact .inl z
   ·cases z
  ·rename_i e
   rcases Jm (O:=QL) e with z|⟨_,z⟩
   ·exact .inr z
   ·exact .inl z
  ·cases b
 glo:=λx b=>by
  show(relabel sc QL).names.lookup x=So .globalImplicit
  unfold gloB at b
  split at b
  ·rename_i e
   rcases Jm (O:=QL) e with z|⟨z,_⟩
   ·exact z
   ·cases z
  ·cases b
 sto:=λx b=>by
  show Loc 'ǯ' x/\((sc.names.lookup x==So .cell)=To\/(relabel sc QL).names.lookup x=So .local)
  unfold locB at b
  split at b
  ·rename_i e
   rcases Jm (O:=QL) e with z|⟨z,_⟩
   ·exact QaH
   ·cases z
  ·rename_i e
   rcases Jm (O:=QL) e with z|⟨z,_⟩
   ·exact⟨.inr z,.inl (by rw[e];rfl)⟩
   ·cases z
  ·cases b
 calm:=XH
 un:=C.un
 fr:=C.fr
noncomputable abbrev jD (its:AF) (n:Nat):Obj:={cls:=.type "list",dict:=No,data:=.seq AU n}
theorem JnC{g:Heap}{tk:Nat}{m:Bi}{h0:Heap}(C:Ao)(h:EE)(hh:g=pushCells h0 Xw)(h0s:h0.objs.size=Cd+1)(I:AH)
  (hf:∀b∈fp,FpOk X Y H b) (ho:∀b∈fp,∃o,s.heap.get? b=So o) (hC:Cd=Aa+1) (hns:g.Ns Cd m) (keep:∀b o,s.heap.get? b=So o->g.get? b=So o)
  (hacc:g.get? Aa=So (jD [] 0)):
  Inv QB [(Aa,jD [] 0)] (List.replicate BF No++Z) H {s with heap:=g,toks:=tk}:=by
 subst hC
 have sub:∀x c,'ǐ'.lookup x=So c->X.env.cells.lookup x=So c:=iM Xw [] λx c e=>by simp at e
 have old':∀x c,'ǐ'.lookup x=So c->c<Aa:=λx c e=>by
  obtain⟨v,o,h1,h2⟩:=I.cell x c (sub x c e)
  exact Zh h1
 have F:∀x c,(cellsFrom (Aa+1+1) Xw FZ).lookup x=So c->X.env.cells.lookup x=So c\/(Aa+1+1<=c/\g.IsCell c No):=λx c e=>by
  rw[<-h0s]at e
  rcases nW Xw h0 _ x c e with q|⟨q1,q2⟩
  ·exact .inl (sub x c q)
  ·exact .inr ⟨h0s▸q1,hh▸q2⟩
 have stk:∀b∈frs Xp,b<Aa:=λb B=>by
  obtain⟨_,o,ho,_⟩:=I.stack.mem B
  exact Zh ho
 refine⟨⟨YU,h.kind,Z8,I.ok.blt,yA _,vU _ _ _ (λx c e=>lB (lB (old' x c e))) λx y c e1 e2=>I.ok.inj x y c (sub x c e1) (sub y c e2),λx hk=>?_,λx c z e=>?_,I.ok.hd,c5,.inl rfl,λb B=>?_,I.bs,ZA bR I.sz,λb o e B=>?_,λb B hz=>?_,I.stack,I.stkFree⟩,
  rfl,XA,Un.kept keep,⟨m,hns,λi x v hN t hv=>?_⟩,λx c e=>?_,?_,λx c e=>?_,λp hp=>?_,I.hok.kept keep,?_⟩
 ·--every cell name has its cell
  have hk':'ǯ'.names.lookup x=So .cell\/(relabel sc QL).names.lookup x=So .free:=hk
  have j:sc.names.lookup x=So .free\/sc.names.lookup x=So .cell:=by
   rcases hk' with z|z
   ·rcases JV z with q|⟨_,q⟩
    ·exact .inr q
    ·exact .inl q
   ·rcases JV z with q|⟨q,_⟩
    ·exact .inl q
    ·cases q
  rcases j with j|j
  ·have hm:=mem_of_lookup j
   exact pQ _ _ _ _ (lJ Xw [] x hm (h.cells C I.ok (x,.free) hm rfl))
  ·exact JpE _ _ _ _ (mem_of_lookup j)
 ·have z':sc.names.lookup x=So .cell:=by
   have z2:(sc.names.lookup x==So .cell)=To:=z
   simpa using z2
  have M:(cellsFrom (Aa+1+1) Xw FZ).lookup x=So c:=e
  have:=lV (lo:=Aa+1+1) _ _ _ _ (Zf _) (.inl (mem_of_lookup z')) c M
  show Aa<=c
  lia
 ·obtain⟨o,e⟩:=ho b B
  refine⟨Zn (lB (Zh e)),λx c M=>?_⟩
  rcases F x c M with q|⟨q,_⟩
  ·exact(hf b B).2.2.2.2.1 x c q
  ·have:=Zh e
   exactλee=>yO _ (Zt (lB (lB this)) (ee▸q))
 ·rcases(hf b B).2.2.2.1 with z|z
  ·exact I.ok.noex b o e z
  ·exact absurd (Zt (Zh (I.ok.bs b o e).1) z) Cq
 ·rcases Zg.mp (I.stkSub b hz)with z|z
  ·exact(hf b B).2.1 z
  ·exact(hf b B).2.2.1 z
 ·--a name that the block sees
  have f:(ls++hidN ls X.N)[i]? =So x:=hN
  by_cases hi:i<BF
  ·rw[vE (by simpa using hi)]at t
   rw[uJ]at t
   split at t<;>cases t
  ·have U:BF<=i:=Nat.le_of_not_lt hi
   rw[xE U]at f
   rw[xE (by simpa using U)]at t
   rw[iH]at t
   obtain⟨f,hxl⟩:X.N[i-BF]? =So x/\x∉ls:=by
    unfold hidN at f
    rw[jC]at f
    cases q:X.N[i-BF]? with
    |none=>rw[q]at f;cases f
    |some n=>
     rw[q]at f
     simp only[wF,ZP]at f
     by_cases hc:ls.contains n=To
     ·rw[if_pos hc]at f
      have hno:=h.no n (by rw[<-C.hN];exact gK q) hc
      rw[f]at hno
      have L:'ǯ'.names.lookup x=So .local\/(relabel sc QL).names.lookup x=So .cell\/(relabel sc QL).names.lookup x=So .free:=hv
      exfalso
      rcases L with z|z|z<;>rcases JV z with q|⟨_,q⟩<;>(rw[hno]at q;cases q)
     ·rw[if_neg hc]at f
      subst f
      exact⟨rfl,by simpa using hc⟩
   have hxN:x∈N:=by rw[<-C.hN];exact gK f
   have j:sc.names.lookup x=So .free:=by
    have L:'ǯ'.names.lookup x=So .local\/(relabel sc QL).names.lookup x=So .cell\/(relabel sc QL).names.lookup x=So .free:=hv
    rcases L with z|z|z
    ·rcases JV z with q|⟨q,_⟩
     ·have w:=((h.at Qag).2.2 rfl).2
      rcases w with w|w
      ·exact absurd w hxl
      ·exact absurd hxN w
     ·cases q
    ·rcases JV z with q|⟨_,q⟩
     ·exact absurd ((h.at Qag).1 rfl).2 hxl
     ·exact q
    ·rcases JV z with q|⟨q,_⟩
     ·exact q
     ·cases q
   have hm:=mem_of_lookup j
   have hk:=C.cel x ((h.at hm).2.1 rfl)
   have hvX:Vis Cs x:=by
    rcases hk with z|z
    ·exact .inr Fc
    ·exact .inr Gq
   obtain⟨m0,_,hl⟩:=XG
   obtain⟨u,r,l⟩:=hl (i-BF) x v f t hvX
   refine⟨u,r,.inr GQ⟩
   ·show(relabel sc QL).names.lookup x=So .cell\/(relabel sc QL).names.lookup x=So .free
    rcases Jm (O:=QL) j with z|⟨_,z⟩
    ·exact .inr z
    ·exact .inl z
   ·rcases l with⟨z,_⟩|⟨_,c,e,z⟩
    ·rcases hk with w|w<;>(rw[w]at z;cases z)
    ·obtain⟨c',M⟩:=lJ (cs:=X.env.cells) Xw [] x hm ⟨c,e⟩
     have e2:=sub x c' M
     rw[e]at e2
     cases e2
     obtain⟨o,h1,h2⟩:=z
     exact⟨c,(eW _ _ _ _ (h.fcell j)).trans M,o,keep _ _ h1,h2⟩
 ·rcases F x c e with q|⟨_,q⟩
  ·obtain⟨v,o,h1,h2⟩:=I.cell x c q
   exact⟨v,o,keep _ _ h1,h2⟩
  ·exact⟨No,q⟩
 ·exact I.hok.fresh (yA _)
 ·rcases F x c e with q|⟨q,_⟩
  ·exact I.freeC x c q
  ·exact I.hok.fresh Ad
 ·have e:p=(Aa,jD [] 0):=by simpa[nM]using hp
  subst e
  exact⟨hacc,I.hok.fresh (Zf _),Zn YD,λB=>yO _ (stk _ B),λv z=>(by cases z)⟩
 ·show(List.replicate BF No++Z).length=(ls++hidN ls X.N).length
  rw[Zm,Zm,iH,I.len]
  unfold hidN
  rw[Zj]
end
open PySem.SeqAt (EqAt RcAt RcNeAt)
def Jjf:∀{as bs:Am},eqvs as bs=To->as.length=Qdr
 |[],[],_=>rfl
 |[],_::_,h=>nomatch h
 |_::_,[],h=>nomatch h
 |a::as,b::bs,h=>by
  simp[Jjf (Bool.and_eq_true_iff.mp h).2]
def vZ:∀e bs:List D,YV=bs.length->eqvs e bs=(List.range YV).all λj=>(e.getD j .non).eqv (bs.getD j .non)
 |[],[],_=>rfl
 |a::e,b::bs,h=>by
  have f:=vZ e bs (by simpa using h)
  rw[Zi,mS,pC,pJ]
  rw[JtI,f]
  rfl
def Jmd{as bs:Am}(h:as.length≠bs.length):eqvs as bs=Fo:=by
 cases e:eqvs as bs with
 |false=>rfl
 |true=>exact absurd (Jjf e) h
theorem uQ:∀{J:Am}{n j:Nat},deps J<=n->'Ǣ'.dep<=n
 |[],n,j,_=>by simp[D.dep]
 |d::J,n,0,h=>by simp only[deps]at h;simp;lia
 |d::J,n,j+1,h=>by
  simp only[deps]at h
  have:=uQ (J:=J) (n:=n) (j:=j) Ad
  simpa using this
section
variable{X:Cx}{Y:AV}{Z:Bf}{H:Hp}{s:Ak}
def JfL(I:Bw){ys:Av}(h1:Ie)(l:SqT X.K H a ys):False:=by obtain⟨its,_,h,_⟩:=I.list h1;obtain⟨f,_,i,_⟩:=I.tuple l;obtain⟨o,e,c,_⟩:=h.isList;obtain⟨m,b,g,_⟩:=i;rw[e]at b;cases b;rw[c]at g;injection g with j;exact absurd j A9
inductive KD(X:Cx)(H:Hp):D->V->Prop
 |non:KD X H .non .non
 |bl (b:Bool):KD X H (.bl b) (.bl b)
 |int (i:Int):KD X H (.int i) (.int i)
 |str (x:Str):KD X H (.str x) (.str x)
 |tup {ds:List D} {a:Addr} {xs:List V} (h:SqT X.K H a xs) (r:Reps X.K H ds xs):KD X H (.tup ds) (.ref a)
 |lst {ds:List D} {a:Addr} {xs:List V} (h:SqL X.K H a xs) (r:Reps X.K H ds xs):KD X H (.lst ds) (.ref a)
def kd(p:d.dep<1000)(r:HJ):KD X H d v:=by
 cases d with
 |non=>cases r;exact .non
 |bl b=>cases r;exact .bl b
 |int i=>cases r;exact .int i
 |str x=>cases r;exact .str x
 |tup J=>obtain⟨a,xs,rfl,e,f⟩:=r;exact .tup e f
 |lst J=>obtain⟨a,xs,rfl,e,f⟩:=r;exact .lst e f
 |_=>simp[D.dep]at p
def qY{n:Nat}(f:∀{d d':D}{v:V},d.dep<=n->d'.dep<1000->Rep X.K H d v->Rep X.K H d' v->d=d'):∀{J b:Am}{xs:Av},deps J<=n->deps b<1000->Reps X.K H J xs->Reps X.K H b xs->J=b
 |[],b,xs,_,_,h,h'=>by
  cases h
  cases b with
  |nil=>rfl
  |cons _ _=>obtain⟨_,_,e,_⟩:=h';cases e
 |d::J,[],_,_,_,⟨_,_,e,_⟩,h'=>by cases e;cases h'
 |d::J,c::b,_,p,p',⟨x,r,e,h1,h2⟩,⟨x',r',e1,h3,h4⟩=>by
  cases e;cases e1
  simp only[deps]at p p'
  rw[f 'd' 'd' h1 h3,qY f 'd' 'd' h2 h4]
def Rep.inj(I:Bw)(n:Nat):n<1000->∀{d d':D}{v:V},d.dep<=n->d'.dep<1000->Rep X.K H d v->Rep X.K H d' v->d=d':=by
 induction n using Nat.strongRecOn with
 |_ n j=>
  intro m d d' v p g r i;have k:=kd Ad r;have l:=kd g i;clear r i;rcases k with _|_|_|_|⟨e,h⟩|⟨e,h⟩<;>rcases l with _|_|_|_|⟨b,f⟩|⟨b,f⟩<;>first|rfl|skip
  ·cases I.tuple_inj e b;simp only[D.dep]at p g;rw[qY (n:=n-1) (λq=>j (n-1) Ad Ad q) 'd' 'd' h f]
  ·exact(JfL I b e).elim
  ·exact(JfL I e b).elim
  ·cases I.list_inj e b;simp only[D.dep]at p g;rw[qY (n:=n-1) (λq=>j (n-1) Ad Ad q) 'd' 'd' h f]
def Jjj(I:Bw)(f:FF)(b:GS){j:Nat}(h:j<FL):∃v,Rep X.K H 'Ǣ' v/\RelV v AU[j]:=by
 have g:j<BV:=by simpa using h
 have w:=b.length;have t:=Yl;have m:J[j]? =So 'Ǣ':=by rw[vJ,Zs 'd'];rfl
 obtain⟨v,l,q⟩:=f.get m;obtain⟨u,r,i⟩:=b.get l;refine⟨v,q,?_⟩;have:AU[j]=u:=by have e:its[j]? =So u:=r;rw[Zs g]at e;simpa using e
 rw[this];exact i
inductive KU(X:Cx)(H:Hp)(s:Ak):D->Value->Prop
 |non:KU X H s .non .none
 |bl (b:Bool):KU X H s (.bl b) (.bool b)
 |int (i:Int) (t:Tok):KU X H s (.int i) (.int i t)
 |str (x:Str) (t:Tok):KU X H s (.str x) (.str x t)
 |tup {ds:List D} {a:Addr} {xs:List V} {its:List Value} (r:Reps X.K H ds xs) (v:Vals xs its) (p:IsTup s.heap a 'Ɔ'):KU X H s (.tup ds) (.ref a)
 |lst {ds:List D} {a:Addr} {xs:List V} {its:List Value} (r:Reps X.K H ds xs) (v:Vals xs its) (p:s.heap.IsList a 'Ɔ'):KU X H s (.lst ds) (.ref a)
def ku(I:Bw){u:Al}(p:d.dep<1000)(r:HJ)(q:Em):KU X H s d u:=by
 cases kd p r with
 |non=>cases q;exact .non
 |bl b=>cases q;exact .bl b
 |int i=>obtain⟨t,rfl⟩:=q;exact .int i t
 |str x=>obtain⟨t,rfl⟩:=q;exact .str x t
 |tup g h=>cases q;obtain⟨its,e,f,_⟩:=I.tuple g;exact .tup h e f
 |lst g h=>cases q;obtain⟨its,e,f,_⟩:=I.list g;exact .lst h e f.isList
def EqAt.rc{u b:Al}{k:Bool}(q:KU X H s d u)(h:RcAt A s u b k)(g:u=b->k=To):EqAt A s u b k:=λprog w E Q f=>by
 unfold eqBool
 refine qA (vF (λe=>?_) λ_=>?_)
 ·rw[g (eq_of_beq e)]at f
  exact Za (qB (Zb f))
 ·cases q<;>exact Za (h prog w E _ (yE f))
theorem fP(I:Bw)(n:Nat):∀(A:Bd)(d d':D){v v':V}{u B:Al},d.dep<=n->n<=900->d'.dep<1000->Rep X.K H d v->Rep X.K H d' v'->RelV v u->RelV v' B->A.units+n+1<cLine->
  RcAt A s u B (d.eqv d')/\RcNeAt A s u B (!d.eqv d')/\EqAt A s u B (d.eqv d'):=by
 induction n using Nat.strongRecOn with
 |_ n ih=>
  intro A d d' v v' u B p hn F r U q O hu;have k:=ku I Ad r q;have k':=ku I F U O;suffices z:RcAt A s u B (d.eqv d')/\RcNeAt A s u B (!d.eqv d')from⟨z.1,z.2,EqAt.rc k z.1 λe=>by subst e;cases q.inj O;rw[<-Rep.inj I n 'd' p F r U];exact jL d Ad⟩
  have b:A.units<cLine:=by lia
  have M:∀{J l:Am}{xs ys:Av}{its f:AF},(D.tup J).dep<=n->(D.tup l).dep<1000->Reps X.K H J xs->Reps X.K H l ys->Vals xs its->Vals ys f->∀j(g1:j<FL)(g2:j<Yt),EqAt XB s AU[j] f.toArray[j] ('Ǣ'.eqv QbJ):=λz1 z2 t w y i j g1 g2=>by obtain⟨w1,k1,k2⟩:=Jjj I t y g1;obtain⟨w2,k3,k4⟩:=Jjj I w i g2;simp only[D.dep]at z1 z2;exact(ih (n-1) Ad XB _ _ (uQ Ad) Ad (zF (uQ (Zf _)) Ad) k1 k3 k2 k4 (by show A.units+1+(n-1)+1<cLine;lia)).2.2
  clear ih r U q O;rcases k with _|_|_|_|@⟨J,_,_,its,t,y,h⟩|@⟨J,_,_,its,t,y,h⟩<;>rcases k' with _|_|_|_|@⟨l,_,_,f,w,i,g⟩|@⟨l,_,_,f,w,i,g⟩
  ·exact⟨.none_none,.none_none⟩
  ·exact⟨.none_bool _,.none_bool _⟩
  ·exact⟨.none_int _ _,.none_int _ _⟩
  ·exact⟨.none_str _ _,.none_str _ _⟩
  ·exact⟨.none_tuple g b,.none_tuple g b⟩
  ·exact⟨.none_list g b,.none_list g b⟩
  ·exact⟨.bool_none _,.bool_none _⟩
  ·exact⟨.bool_bool _ _,.bool_bool _ _⟩
  ·exact⟨.bool_int _ _ _,.bool_int _ _ _⟩
  ·exact⟨.bool_str _ _ _,.bool_str _ _ _⟩
  ·exact⟨.bool_tuple _ g b,.bool_tuple _ g b⟩
  ·exact⟨.bool_list _ g b,.bool_list _ g b⟩
  ·exact⟨.int_none _ _,.int_none _ _⟩
  ·exact⟨.int_bool _ _ _,.int_bool _ _ _⟩
  ·exact⟨.int_int _ _ _ _,.int_int _ _ _ _⟩
  ·exact⟨.int_str _ _ _ _,.int_str _ _ _ _⟩
  ·exact⟨.int_tuple _ _ g b,.int_tuple _ _ g b⟩
  ·exact⟨.int_list _ _ g b,.int_list _ _ g b⟩
  ·exact⟨.str_none _ _,.str_none _ _⟩
  ·exact⟨.str_bool _ _ _,.str_bool _ _ _⟩
  ·exact⟨.str_int _ _ _ _,.str_int _ _ _ _⟩
  ·exact⟨.str_str _ _ _ _,.str_str _ _ _ _⟩
  ·exact⟨.str_tuple _ _ g b,.str_tuple _ _ g b⟩
  ·exact⟨.str_list _ _ g b,.str_list _ _ g b⟩
  ·exact⟨.tuple_none h b,.tuple_none h b⟩
  ·exact⟨.tuple_bool _ h b,.tuple_bool _ h b⟩
  ·exact⟨.tuple_int _ _ h b,.tuple_int _ _ h b⟩
  ·exact⟨.tuple_str _ _ h b,.tuple_str _ _ h b⟩
  ·have C:FL=Ac:=by rw[Zp,<-y.length,t.length]
   have L:f.toArray.size=l.length:=by rw[Zp,<-i.length,w.length]
   have ev:((List.range (min FL Yt)).all (λj=>'Ǣ'.eqv QbJ)&&its.toArray.size==Yt)=eqvs J l:=by
    rw[C,L];by_cases m:Ac=Xv
    ·rw[vZ J l m,<-m,Nat.min_self];simp
    ·rw[Jmd m];simp[m]
   show RcAt A s _ _ (eqvs J l)/\RcNeAt A s _ _ (!eqvs J l);rw[<-ev];exact⟨.tuples h g b Mo,.tuples h g b Mo⟩
  ·exact⟨.tuple_list h g b,.tuple_list h g b⟩
  ·exact⟨.list_none h b,.list_none h b⟩
  ·exact⟨.list_bool _ h b,.list_bool _ h b⟩
  ·exact⟨.list_int _ _ h b,.list_int _ _ h b⟩
  ·exact⟨.list_str _ _ h b,.list_str _ _ h b⟩
  ·exact⟨.list_tuple h g b,.list_tuple h g b⟩
  ·have C:FL=Ac:=by rw[Zp,<-y.length,t.length]
   have L:f.toArray.size=l.length:=by rw[Zp,<-i.length,w.length]
   show RcAt A s _ _ (eqvs J l)/\RcNeAt A s _ _ (!eqvs J l);by_cases m:Ac=Xv
   ·rw[vZ J l m,<-C];exact⟨.lists h g (by rw[C,L,m]) b Mo,.lists h g (by rw[C,L,m]) b Mo⟩
   ·rw[Jmd m];have hb:('Ǝ' !=Yt)=To:=by rw[C,L];simpa using m
    exact⟨.lists_lengths h g hb b,.lists_lengths h g hb b⟩
end
section
variable{U:Ae}{c:Expr}{p:Px}
def PIf(X:Cx)(ifs:Cy)(t:TT):Prop:=∀(Y:AV)(s:Ak)(Z:Bf)(H:Hp)(Q:D3),L2.Inv X Y Z H s->t Z H Q->
 wpAny As X.A (forIn ifs To λc r=>if r=To then do let ok<-isTrue c QL (eval c QL);pure (ForInStep.yield ok)else pure SC) LK X.xe s
def Jse:PIf X [] (tT X U B4):=λY s Z H Q I⟨O,r,b,e,q⟩=>by
 cases e
 exact wpAny_tests_nil ⟨H,I,q H ED⟩
def Jrt(h:PT X c b9):PIf X [c] b9:=λY s Z H Q I w=>wpAny_tests_one (h Y s Z H Q I w)
def JmY:∀{l:List α},Xv=2->∃a b,l=[a,b]
 |[a,b],_=>⟨a,b,rfl⟩
def TgOk(X:Cx)(tg:Expr)(nt m:Nat):Prop:=∀(Y:AV)(s:Ak)(f h:Bf)(H:Hp)(d:D)(v:V)(u:Al)(b:Fm)(Q:L2.St->Hp->Prop),Yl=m->L2.Inv X Y (f++h) H s->RelV v u->Rep X.K H d v->JT nt d=.ok b->
 (∀e:L2.St,YV=m->b.length=m->(∀(i:Nat)(g:D),b[i]? =So (So g)->∃w,e[i]? =So (So w)/\Rep X.K H g w)->Q (e++h) H)->
 wpAny As X.A (assign tg QL u) Py X.xe s
def JvD(g:X.N[0]? =So x)(m:Ex)(q:GJ)(j:Ua):TgOk X B0 0 1:=by
 intro Y s f w H d v u l Q t I r y b h;refine zI (pos:=pos) m g q j Y s (f++w) H v u Q I r ?_;obtain⟨z,rfl⟩:=List.length_eq_one_iff.mp t;simp only[JT,if_true]at b;cases b;refine h [So v] rfl rfl λi B e=>?_;cases i with
 |zero=>simp at e;subst e;exact⟨v,rfl,y⟩
 |succ i=>simp at e
def Jtx{y:Str}{k:Nat}{p1 l:Pos}(t:X.N[0]? =So x)(j:X.N[1]? =So y)(m:Ex)(z:GJ)(w:Ua)
  (hy:Loc Cs y) (hg:X.fn y=To\/X.env.scope.names.lookup y=So .local) (q:BZ):TgOk X (.Tuple [.Name x p1,.Name y l] k pos) 2 2:=by
 intro Y s M F H d v u new Q hl I r rd b h;refine JqF (pos:=pos) q (mR (zI (pos:=p1) m t z w) (mR (zI (pos:=l) m j hy hg) Jme)) rfl rfl Y s (M++F) H v u Q I r ?_;unfold JT at b;rw[if_neg 'E']at b;cases d with
 |tup J=>
  dsimp only at b;rw[if_neg 'E']at b;split at b
  ·rename_i hd;cases b;obtain⟨a,xs,rfl,C,B⟩:=rd;obtain⟨d0,d1,rfl⟩:=JmY hd;obtain⟨g,r0,O,h0,f,r1,e1,h1,L⟩:=B;subst e1;subst L;subst O;refine⟨a,[g,f],rfl,C,rfl,g,[f],rfl,f,[],rfl,rfl,?_⟩;obtain⟨l0,l1,rfl⟩:=JmY hl;refine h [So g,So f] rfl rfl λi d' e=>?_;rcases i with _|_|i
   ·simp at e;subst e;exact⟨g,rfl,h0⟩
   ·simp at e;subst e;exact⟨f,rfl,h1⟩
   ·simp at e
  ·cases b
 |_=>cases b
end
def sR{J:List α}{i:Nat}{d:α}(h:J[i]? =So d):J.drop i=d::J.drop Bq:=by obtain⟨b,e⟩:=Zz.mp h;rw[List.drop_eq_getElem_cons b,e]
def ReadOk.front{K:Aj}{lo hi:Bf}{new O:Fm}(j:lo.length=new.length)(h:∀(i:Nat)(d':D),new[i]? =So (So d')->∃w,lo[i]? =So (So w)/\Rep K H d' w)(r:ReadOk K H hi O):ReadOk K H (lo++hi) (new++O):=by
 intro i d e;by_cases b:i<new.length
 ·rw[vE b]at e;obtain⟨w,f,g⟩:=h i d e;exact⟨w,by rw[vE 'd'];exact f,g⟩
 ·rw[xE 'd']at e;obtain⟨w,f,g⟩:=r _ d e;exact⟨w,by rw[xE 'd',j];exact f,g⟩
section
variable{ls:Ag}{sc:AS}{U:Ae}
def JcV{M:Model}{f:Addr}{e:DG}{j:Str}{i:DY}{h:Al}{g:Env}{b:Addr}{Q:Env->Shared->Prop}
  (m:Q (newEnv scope Aa f (cellsFrom DF CW e) j i h (So g) b) {s with heap:=pushCells (s.heap.push {cls:=.type "dict",data:=.dict #[]}) CW}):
  wpAny M A (newFunctionEnv scope f e [] j i h (So g) b) Q E s:=by simp only[newFunctionEnv,pN,if_true];refine Za (wpAny_alloc ?_);refine Za (wpAny_layCells _ (λname kind cells=>by cases l:kind==XR<;>simp[l]) _ _ _ _ ?_);rw[show({s with heap:=s.heap.push {cls:=.type "dict",data:=.dict #[]}}:Shared).heap.objs.size='Ɓ'+1 from ZO ..];rw[List.forIn_nil];exact Za (Zb (Zb m))
def KW(X:Cx)(Cd:Addr)(x:Al)(e:Ak):Prop:=∃m,e.heap.Ns Cd m/\∀f,Heap.SameBut Cd e.heap f->∀b:Env,b.locals=Cd->wpAny As X.A (PySem.passOn "comprehension.variables-let-go" x b:Sem Value) (λ_ _=>False) X.xe {e with heap:=f}
def JrO{e:Al}{O env':Env}(h:O.frame=env'.frame):noteFrame e O=noteFrame e env':=by unfold noteFrame PySem.frameOf;rw[h]
structure Sib(X X':Cx):Prop where
 code:X'.env.code=X.env.code
 qual:X'.env.qual=Qbv
 base:X'.base=XC
 mg:X'.mg=X.mg
 tb:∀P ps,X.H₀ P=So (.tbl ps)->∃more,X'.H₀ P=So (.tbl (ps++more))
def JrH{H2:Hp}{s2 s':Ak}{E':Au}{Cc:Addr}{ce:Env}(C:Ao)(I2:L2.Inv X Y Z H2 s2)(f2:∀b∈fp,FpOk X Y H2 b)(hCd:AO<=Cd)
  (F:FlyIn 'ə' Cc a W s') (hx:∀s5,FlyIn X Cc a W s5->X.xe Ax s5) (hce:ce.frame=X.env.frame):notedBy As X.A ce (KW X Cd) Ax s':=by
 obtain⟨e0,f,L,j,hf0,hfx⟩:=C.fr;obtain⟨ps,σ',I',hxx⟩:=F.inv;have hfr:X.A.frames=So (e0::f):=by rw[<-j];exact I2.ok.frames
 show wpAny _ X.A (noteFrame Ax ce) _ _ s';rw[JrO (env':=e0) (hce.trans (hfx.trans hf0.symm))];have hstk:∀b,b∉X.fs->b≠AD->b∉frs Xp:=λb h1 h2 hm=>by
  rcases Zg.mp (I2.stkSub b hm)with e|e
  ·exact h2 e
  ·exact h1 e
 have rest:∀(B:Heap)(a0:Al)(h1 h4:Heap),L2.Inv 'ə' ps σ' W {s' with heap:=h1}->B.StaysIn h1->(∀b u,W b=So u->∃o,B.get? b=So o)->
   (∀b o,s2.heap.get? b=So o->b∉frs X.stack->b∉fp->(H2 b=No->B.get? b=So o)/\∃o',B.get? b=So o')->Heap.HeldW B (e0::f) a (.ref Cc) a0 L h4->h1.UpToSlots h4->KW X Cd Ax {s' with heap:=h4}:=by
  intro B a0 h1 h4 I1 k1 tr kp g up;obtain⟨m,hn,_⟩:=I1.loc;have hn4:h4.Ns Cd m:=up.ns hn;refine⟨m,hn4,λI M cenv _=>?_⟩;obtain⟨g1,g2,g3,oe,vs,T,oT,ts,he,hcls,hd,hv1,hnT,hTe,hT,w,h3⟩:=g;obtain⟨oC,esC,epC,hoC,hdC,_⟩:=hn4;have hfC:W Cd=No:=I1.free;have neC:∀b o vs,h4.get? b=So o->o.data=.fields vs->b≠Cd:=λb o vs hb hd' q=>by
   rw[q,hoC]at hb;cases hb;rw[hdC]at hd';cases hd'
  have he5:=(M.2 a (neC a oe vs he hd)).trans he;have hT5:=(M.2 T (neC T oT ts hT w)).trans hT;have hsz3:3<ts.size:=(iK.mp h3).1;unfold PySem.passOn;refine Za (ZV he5 hd hv1 ?_);rw[if_neg (show¬((Value.ref T==Value.none)=To)from by simp)];have go:∀(v:Al),X.xe Ax {s' with heap:=I.update T (Obj.mapFields (·.setIfInBounds 3 v))}:=λv=>by
   refine hx _ ?_;have hT6:(I.update T (Obj.mapFields (·.setIfInBounds 3 v))).get? T=So (Obj.mapFields (·.setIfInBounds 3 v) oT):=ZY _ hT5 (gT (gH w _));have oth:∀b,b≠T->(I.update T (Obj.mapFields (·.setIfInBounds 3 v))).get? b=I.get? b:=λb hb=>ZR _ _ EM;have B5:∀b o,b≠Cd->B.get? b=So o->(I.update T (Obj.mapFields (·.setIfInBounds 3 v))).get? b=So o:=λb o hb hB=>(oth b λq=>by rw[q,hnT]at hB;cases hB).trans ((M.2 b hb).trans (g1 b o hB));have hB':∀{b o},b≠Cd->B.get? b=So o->'Ļ'.get? b=So o:=λhb hB=>rD _ hB (by simpa using hb);have t:∀{b o},'Ļ'.get? b=So o->b≠Cd/\B.get? b=So o:=fun{b o}q=>⟨λz=>(by
    rw[PySem.W.hideAll_none [Cd] (by simp[z])]at q;cases q),qN _ q⟩
   have noB':∀{b},B.get? b=No->'Ļ'.get? b=No:=fun{b}q=>by
    cases z:'Ļ'.get? b with
    |none=>rfl
    |some o=>rw[(t z).2]at q;cases q
   have i:∀b o,s2.heap.get? b=So o->b≠Cd:=λb o q=>Zn (Zt (Zh q) hCd);have frm:∀b o,h1.get? b=So o->(∀vs,o.data≠.fields vs)->b≠Cd->∃sl,(I.update T (Obj.mapFields (·.setIfInBounds 3 v))).get? b=So {o with slots:=sl}:=λb o hb hnf hne=>by
    obtain⟨sl,e4⟩:=up b o hb hnf;exact⟨sl,(oth b λq=>by
     rw[q,hT]at e4;injection e4 with e4;exact hnf ts (by have:=lA Obj.data e4;rw[w]at this;exact this.symm)).trans ((M.2 b hne).trans e4)⟩
   have U1:Un G3 fp H2 W aF h1:=I1.base;have fo:∀b∈frs Xp,∃o,s2.heap.get? b=So o/\∀vs,o.data≠.fields vs:=λb hb=>(I2.stack.mem hb).2;have nfp:∀b∈frs Xp,b∉fp:=λb hb hm=>by obtain⟨_,q1,q2,_⟩:=f2 b hm;exact hstk b q2 q1 hb
   have slt:∀b o,s2.heap.get? b=So o->H2 b=No->b∈frs X.stack->∃sl,(I.update T (Obj.mapFields (·.setIfInBounds 3 v))).get? b=So {o with slots:=sl}:=λb o hb h0 hf=>by obtain⟨sl,e1⟩:=U1.slot b o hb h0 hf (nfp b hf);obtain⟨o',ho',hnf⟩:=fo b hf;rw[hb]at ho';cases ho';obtain⟨sl2,e2⟩:=frm b _ e1 hnf cA;exact⟨sl2,e2⟩
   have un:Un G3 fp H2 W aF (I.update T (Obj.mapFields (·.setIfInBounds 3 v))):=by
    refine⟨λb o hb h0 hf hp=>B5 b o cA ((kp b o hb hf hp).1 h0),λb o hb h0 hf hp=>slt b o hb h0 hf,U1.free,λb o hb hp=>?_,U1.tups,U1.frzs,U1.tbls⟩;by_cases hf:b∈frs Xp
    ·obtain⟨sl,e⟩:=slt b o hb (I2.stkFree b hf) hf;exact⟨_,e⟩
    ·obtain⟨o',e⟩:=(kp b o hb hf hp).2;exact⟨o',B5 b o' cA e⟩
   have trB:∀b u,W b=So u->∃o,'Ļ'.get? b=So o:=λb u e=>by obtain⟨o,q⟩:=tr b u e;exact⟨o,hB' (λz=>by rw[z,hfC]at e;cases e) q⟩
   have st6:'Ļ'.StaysIn (I.update T (Obj.mapFields (·.setIfInBounds 3 v))):=λb o q=>B5 b o (t q).1 (t q).2;have ff:(I.update T (Obj.mapFields (·.setIfInBounds 3 v))).FunFrames 'Ļ' Xp:=by
    have base:∀l:List Env,(∀b∈frs l,b∈frs Xp)->h4.FunFrames B l->(I.update T (Obj.mapFields (·.setIfInBounds 3 v))).FunFrames 'Ļ' l:=by
     intro l;induction l with
     |nil=>intro _ _;trivial
     |cons en r ih=>intro hs hl;obtain⟨hk,⟨L1,o1,hf1,hn1,ho1,hd1⟩,hr⟩:=hl;have hL1:L1∈frs Xp:=hs L1 (by unfold frs;rw[lC,hf1];exact zJ);obtain⟨o2,y,_⟩:=fo L1 hL1;refine⟨hk,⟨L1,o1,hf1,noB' hn1,?_,hd1⟩,ih (λb hb=>hs b (by unfold frs;rw[lC,hf1];exact Zq _ hb)) hr⟩;exact(oth L1 λq=>by rw[q,hT]at ho1;cases ho1;exact hd1 ts w).trans ((M.2 L1 (i L1 o2 y)).trans ho1)
    rw[j];exact base (e0::f) (λb hb=>by rw[j];exact hb) g3
   refine⟨⟨Y,Z,I2.call' (ch:=fp) I1.os un (HOk.onB I1.hok trB (λb o q=>k1 b o (t q).2) st6) I1.bare (λb hb=>?_),.inr ⟨PySem.W.hideAll B [Cd],a0,v,⟨st6,noB' g2,ff,oe,vs,T,_,_,(oth a (Ne.symm hTe)).trans he5,hcls,hd,hv1,noB' hnT,hTe,hT6,gH w _,by simp[hsz3]⟩,trB,λb o hb hn hnx=>?_,λp hp=>?_⟩⟩⟩
   ·obtain⟨_,f1',f2',f3',f4',f5'⟩:=f2 b hb;exact Oj
   ·have nfs:b∉X.fs:=λz=>hn (by
     rcases I2.ok.stk with e|⟨e,_⟩
     ·rw[e];exact z
     ·rw[e];obtain⟨e',he',hf'⟩:=ZX.mp z;exact ZX.mpr ⟨e',.tail _ he',hf'⟩)
    have np:b∉fp:=λz=>by
     rcases(f2 b z).2.2.2.1 with q|q
     ·exact hnx q
     ·exact absurd (Zt (Zh hb) q) Cq
    obtain⟨o2,y⟩:=I2.base.there b o hb hnx;have q:=kp b o2 y hn np;refine RF
    ·have e2:=I2.base.keep b o hb h0 nfs hnx
     rw[y]at e2;cases e2;exact hB' (i b _ y) (q.1 (I2.base.free b _ hb h0 hnx))
    ·obtain⟨o',e⟩:=q.2
     exact⟨o',hB' (i b _ y) e⟩
   ·obtain⟨q1,q2,q3,q4,_⟩:=I2.pin p cB;exact hB' (i _ _ q1) ((kp p.1 p.2 q1 (hstk p.1 q4 q3) λz=>(f2 _ z).2.2.2.2.2 p cB rfl).1 q2)
  have fly:wpAny As X.A (do setFlight Ax cenv.frame;throw Ax:Sem Value) (λ_ _=>False) X.xe {s' with heap:=I}:=by
   refine Za ?_;unfold setFlight;refine Za (ZV he5 hd hv1 ?_);rw[if_pos 'k'];exact rB hT5 w hsz3 (wpAny_throw (go _))
  first
   |exact Za (Zb fly)
   |exact fly
 rcases hxx with⟨h,vs,hm,Ih⟩|⟨B,a0,flv,fl,tr,kp,_⟩
 ·have hk:(PySem.W.hideAll h (frs (e0::f))).StaysIn h:=λb o q=>qN _ q;have hin:∀O∈(e0::f),∀b,O.frame=So b->b∈frs (e0::f):=λO he b hb=>ZX.mpr ⟨O,he,hb⟩;have hs0:'ə'.stack=e0::f:=j;have hstk2:h.FunFrames XC (e0::f):=by rw[<-hs0];exact Ih.stack
  refine JdV hfr hf0 hk (PySem.W.funFrames_hide hstk2 hin) hm λh' a0 g up=>?_;refine rest _ a0 h h' Ih hk (λb u e=>?_) (λb o hb hn hp=>?_) g ((sS hm.keeps).trans up)
  ·obtain⟨o,ho⟩:=HOk.has Ih.hok e;exact⟨o,rD _ ho λz=>by rw[Ih.stkFree b (by rw[hs0];exact z)]at e;cases e⟩
  ·rw[j]at hn;refine⟨λh0=>rD _ (Ih.base.keep b o hb h0 (by show b∉frs Xp;rw[j];exact hn) hp) hn,?_⟩;obtain⟨o',e⟩:=Ih.base.there b o hb hp;exact⟨o',rD _ e hn⟩
 ·have fl':jV B (e0::f) a (.ref Cc) a0 flv XZ:=by rw[<-j];exact fl
  exact zY hfr hf0 fl' λh' g up=>rest B a0 XZ h' I' fl.1 tr kp g up
inductive CI(X:Cx)(call:Ae)(X':Cx)(ac:Addr)(tn:Ff)(fp:A1)(H H2:Hp)(n:Nat)(σ:Bf)(nt:Nat)(pc pe:Px)(env:Fm)(ds:Am)(Gd:List D->Prop):Nat->Shared->Prop
 |mk (i:Nat) (lo:L2.St) (H':Hp) (its:List Value) (k:Nat) (ys:List V) (done:List D) (s':Shared):L2.Inv X' [(ac,jD its k)] (lo++σ) H' s'->lo.length=n->tn i s'.heap->(∀b∈fp,H' b=No)->Same H2 H'->Vals ys its->Reps X.K H' done ys->done.length<=i->i<='Ƃ'->(JX nt (evD call pc) (evD call pe) env (ds.drop i)).Good (λrest=>Gd (done++rest)) BE->
  CI X call X' ac tn fp H H2 n σ nt pc pe env ds Gd (Ac-i) s'
theorem JgL{O:Fm}{Gd:List D->Prop}{RR0:Value->Addr->Result->Shared->Prop}(C:Ao)(h:EE)(hsrc:GL)
  (htg:∀X',Ctx X' G C4 sc.names->TgOk X' tg nt BF) (hif:∀X',Ctx X' G C4 sc.names->PIf X' ifs D2) (helt:∀X',Ctx X' G C4 sc.names->Sib X X'->PE X' elt GZ)
  (I:Bw) (r:Kv) (hw:tW X U ps Z H λJ9 W=>∃J,Walk X.K J9 W J/\Same H W/\J.length<=lD/\(JX nt Kc Kb O J).Good Gd BE)
  (hok:∀(w:Addr)(ys:Av)(Hf:Hp)(Cd:Addr)(m:Bi)(s4:Ak)(dn:Am),L2.Inv X Y Z Hf s4->s4.heap.Ns Cd m->FpOk X Y Hf Cd->Hf w=So (.lst ys)->H w=No->Same H Hf->Reps X.K Hf dn ys->Gd dn->RR0 (.ref w) Cd (.ok .next) s4) (hRR:∀w Cd x s',KW X Cd x s'->RR0 w Cd (.error x) s'):
  wpAny As X.A Qcn (λx s₁=>wpAny As X.A (pyIter x) (λit s₂=>wpAny As X.A (newList []) (λw t=>
   wpAny As X.A (newFunctionEnv sc X.env.globals FZ [] Qbv No .none (So QL)) (λcenv s₄=>
    codeAny As X.A (.compStart F4 0 it w {cenv with scope:=relabel sc QL}) (RR0 w cenv.locals) s₄) X.xe t) X.xe s₂) X.xe s₁) X.xe s:=by
 refine thn (hsrc Y s Z H _ I hw) λv s1 h1=>thn h1 λitv s2 h2=>?_;obtain⟨it,fp,tn,J9,H2,rfl,I2,T,st2,f2,J,hW,s02,hz,hG2⟩:=h2;refine ZE (JcV ?_);dsimp only;generalize hH2:s2.heap.push {cls:=.type "list",dict:=No,data:=.seq ([]:List Value).toArray}=Hh;obtain⟨g,j⟩:∃g,g=pushCells (Hh.push {cls:=.type "dict",data:=.dict #[]}) Xw:=AJ;rw[<-j];have hns₁:g.Ns XJ (λ_=>No):=j▸(Heap.Ns.new Hh Ks).keeps (yN _ _);have hC:Hh.objs.size=AO+1:=by rw[<-hH2,ZO]
 have hlt:∀b o,s2.heap.get? b=So o->b<AO:=λb o e=>Zh e;have old:∀b o,s2.heap.get? b=So o->g.get? b=So o:=λb o e=>by rw[j];exact yN _ _ _ _ (Zc _ (hH2▸Zc _ e))
 have hacc:g.get? AO=So (jD [] 0):=by rw[j];exact yN _ _ _ _ (Zc _ (hH2▸Ze _ rfl))
 have fpl:∀b∈fp,b<AO:=λb hb=>by obtain⟨o,e,_⟩:=T.obj _ _ st2 b hb;exact hlt b o e
 let RR:Result->Shared->Prop:=RR0 (.ref AO) XJ;let ce:Env:=compEnvC sc (cellsFrom (XJ+1) Xw FZ) XJ QL;let E':Value->Shared->Prop:=notedBy As X.A ce λe s'=>RR (.error e) s';let X':Cx:=nM X ls sc XJ s2 H2 fp E';have C':Ctx X' G C4 Xw:=Jnt C h;have SB:Sib X X':=⟨rfl,rfl,rfl,rfl,λP ps z=>I2.base.tbls P ps z⟩;have I4:L2.Inv X' [(AO,jD [] 0)] (List.replicate BF No++Z) H2 {s2 with heap:=g}:=
  JnC C h j (ZO ..) I2 f2 (λb hb=>let⟨o,e,_⟩:=T.obj _ _ st2 b hb;⟨o,e⟩) hC hns₁ old hacc
 have sub:∀x c,'ǐ'.lookup x=So c->X.env.cells.lookup x=So c:=iM Xw [] λx c e=>by simp at e
 have stat:∀{W:Hp}{o:Obj},(∀b∈fp,W b=No)->∀b∈fp,FpOk X' [(AO,o)] W b:=fun{W o}hn b hb=>by
  have hb':=fpl b hb;refine⟨hn b hb,?_,I4.ok.exfs b hb,.inl hb,(I4.ok.exf b hb).2,λp hp=>?_⟩
  ·show b≠Hh.objs.size;rw[hC];exact Zn (lB hb')
  ·have e:p=(AO,o):=by simpa[X',nM]using hp
   rw[e];exact nC hb'
 have loop:∀t:Shared,t={s2 with heap:=g}->
   codeAny As X.A (.compLoop F4 0 B6 (.ref AO) ce) RR t:=by
  rintro t rfl;refine Jgo (CI X U X' AO tn fp H H2 BF Z nt pc pe O J Gd) ?_ Ac
   (.mk 0 (List.replicate BF No) H2 [] 0 [] [] _ I4 iH (T.keep _ _ _ st2 (λb hb o e=>old b o e)) (λb hb=>(f2 b hb).1) LS .nil rfl (Zf _) (mB _) (by simpa using hG2))
  rintro _ s'⟨i,lo,W,its,k,ys,done,_,I',hlo,st,fr,sm,hv,hr,hdl,hil,M⟩;by_cases hi:i<Ac
  ·have go:=(hW W sm).1 i hi
   refine thn (T.item X' rfl rfl rfl C'.calm i _ s' (lo++Z) W X'.xe I' (stat fr) st go) λr' s4 zz0=>?_;obtain⟨u,hr',h4⟩:=zz0;subst hr';refine thn h4 λ_ s5 zz0=>?_;obtain⟨x,H5,I5,r5,y5,st5,fr5⟩:=zz0;obtain⟨s45,d,hd,rd⟩:=(hW W sm).2.2 i x H5 hi y5;rw[sR hd]at M;simp only[JX]at M;replace M:=Rs.gB.mp M;cases hb:JT nt d with
   |sk=>rw[hb]at M;exact M.elim
   |ex c=>exact(gM hb).elim
   |ok new=>
    rw[hb]at M;replace M:=Rs.gB.mp M;have I5p:=I5.pinned (stat fr5) (T.obj _ _ st5);refine thn (htg X' C' _ s5 lo Z H5 d x u new (λσ' H''=>∃l:L2.St,σ'=l++Z/\l.length=BF/\H5=H''/\ReadOk X.K H5 (l++Z) (new++O)) hlo I5p r5 rd hb λl l1 l2 hn=>
     ⟨l,rfl,l1,rfl,ReadOk.front (l1.trans l2.symm) hn (r.mono ('Կ'.trans s45))⟩) λ_ s6⟨σ6,H6,I6,l,e6,l6,e7,rd6⟩=>?_
    subst e6;subst e7;refine thn (hif X' C' _ s6 _ _ (λb H7=>Same H5 H7/\(if b=To then((evD U pe (new++O)).bind λy=>'丐'.bind λys=>Rs.ok (y::ys)).Good (λrest=>Gd (done++rest)) BE
     else(JX nt Kc Kb O G4).Good (λrest=>Gd (done++rest)) BE)) I6 ⟨new++O,rd6,Rs.good_calm (M.mono (λd' hd'=>?_) λc z=>z)⟩) λok s7⟨H7,I7,L,q7⟩=>?_
    ·cases d' with
     |bl b=>
      refine⟨b,rfl,λH7 L=>⟨L,?_⟩⟩;cases b with
      |true=>exact iteT hd'
      |false=>exact iteF hd'
     |_=>exact hd'.elim
    have tn7:∀{s9:Ak}{H9:Hp}{o:Obj}{σ9:Bf},L2.Inv X' ([(AO,o)]++kE fp YM) σ9 H9 s9->tn Bq s9.heap/\∀b∈fp,H9 b=No:=fun{s9 H9 o σ9}I9=>by refine⟨T.keep _ _ _ st5 λb hb o' e=>(I9.pin (b,o') Qw).1,λb hb=>?_⟩;obtain⟨o',e,_⟩:=T.obj _ _ st5 b hb;exact(I9.pin (b,o') Qw).2.1
    cases ok with
    |false=>
     rw[if_neg ZM];have q7':'丐'.Good (λrest=>Gd (done++rest)) BE:=by rw[if_neg ZM]at q7;exact q7
     obtain⟨t7,f7⟩:=tn7 I7;exact⟨Ac- Bq,by lia,.mk Bq l H7 its k ys done _ I7.unpinned l6 t7 f7 ((sm.trans s45).trans L) hv (hr.mono (s45.trans L)) Ad Ad q7'⟩
    |true=>
     rw[if_pos rfl];rw[if_pos rfl]at q7;replace q7:=Rs.gB.mp q7;refine thn (helt X' C' SB _ s7 _ _ (λv8 H8=>Same H7 H8/\∃y,Rep X.K H8 y v8/\(JX nt Kc Kb O G4).Good (λrest=>Gd (done++(y::rest))) BE) I7
      ⟨new++O,rd6.mono L,q7.mono (λy hy v8 H8 s78 r8=>⟨s78,y,r8,Rs.gB.mp hy⟩) λc z C0 H0 hm0 s0 a0 s0' F0=>ZL (JrH C I2 f2 (by rw[hC];exact yA _) F0 (λs5 F5=>z C0 H0 hm0 (('Կ'.trans s45).trans (L.trans s0)) a0 s5 F5) rfl) (λ_ _ e=>hRR _ _ _ _ e) λ_ _ e=>hRR _ _ _ _ e⟩) λu8 s8⟨v8,H8,I8,r8,s78,y,ry,q8⟩=>?_
     have e8:=(I8.pin Q7 Af).1;have hlen:BV<=lD:=by have h1:=hv.length;have h2:=hr.length;lia
     refine xA QbB ⟨_,e8,rfl⟩ QaI Um (PySem.list_append s2.heap.objs.size its.toArray k u8 (by rw[Zp,ZJ];exact hlen)) ⟨e8,?_⟩;have q9:=PySem.IsL.update e8 (λx=>x.push u8);have hpush:its.toArray.push u8=(its++[u8]).toArray:=by simp
     rw[hpush]at q9;obtain⟨k9,q9⟩:∃k9,(s8.heap.update AO Tv).get? AO=So (jD (its++[u8]) k9):=⟨_,q9⟩;have f:=(I8.pin Q7 Af).2;have I8u:L2.Inv X' (kE fp YM) (l++Z) H8 s8:=I8.pins_of λp hp=>I8.pin p (ZS _ (ZS _ hp));have I9:L2.Inv X' (kE fp YM) (l++Z) H8 {s8 with heap:=s8.heap.update AO Tv,toks:=s8.toks}:=by
      refine I8u.turned (it:=AO) (λb o hb e=>(ZR s8.heap _ EM).trans e) f.1 f.2.1 (.inr (Zf _)) (λx c e=>?_) (λp hp=>?_)
      ·rcases pW _ _ _ _ _ e with q|⟨q,_⟩
       ·obtain⟨v0,o0,h0,_⟩:=I2.cell x c (sub x c q);exact Zn (hlt c o0 h0)
       ·rw[hC]at q;exact nC (Zt (lB YD) q)
      ·have hp':p∈kE fp YM:=by simpa[X',nM]using hp
       exact Zn (fpl _ (JgY hp').1)
     have I10:L2.Inv X' ([(AO,jD (its++[u8]) k9)]++kE fp YM) (l++Z) H8 {s8 with heap:=s8.heap.update AO Tv,toks:=s8.toks}:=
      I9.pins_of λp hp=>(ZI.mp hp).elim (λz=>by
       have e:p=(AO,jD (its++[u8]) k9):=by simpa using z
       subst e;exact⟨q9,f.1,f.2.1,f.2.2.1,λv z=>(by cases z)⟩) λz=>I9.pin p (ZS _ z)
     obtain⟨t10,f10⟩:=tn7 I10;refine⟨Ac- Bq,by lia,.mk Bq l H8 (its++[u8]) _ (ys++[v8]) (done++[y]) _ I10.unpinned l6 t10 f10 (((sm.trans s45).trans L).trans s78) (hv.append (.cons r8 .nil)) ((hr.mono ((s45.trans L).trans s78)).append (Reps.one ry)) ?_ Ad ?_⟩
     ·rw[Zm,sE];lia
     ·simpa using q8
  ·--the end
   have hie:i=Ac:=by lia
   subst hie;rw[gN]at M;simp only[JX]at M;have hg':Gd done:=by have hg2:Gd (done++[]):=M;simpa using hg2
   refine thn (T.done X' rfl rfl rfl C'.calm Ac _ s' (lo++Z) W X'.xe I' (stat fr) st (hW W sm).2.1) λr' s4 zz0=>?_;obtain⟨hr',I5⟩:=zz0;subst hr';obtain⟨m',hn',_⟩:=I5.loc;have f:=I5.pin Q7 Af;have hlen:BU<=sizeLine:=by have h2:=hr.length;rw[ZJ];have h3:lD=16777216:=rfl;lia
   have HC:W XJ=No:=I5.free;have okH:HOk Xn X.w LU QcG:=by
    intro b o e;by_cases hb:b=AO
    ·subst hb;rw[Jd]at e;cases e;exact⟨hlen,its,k,hv,f.1⟩
    ·rw[Jb hb]at e;have ok5:ObjOk Xn X.w W QcG b o:=I5.hok b o e;refine ok5.stay (λc w' hc q=>q) (λc q=>?_) (λc xs q=>?_) λc o' u' q=>?_
     ·by_cases B:c=AO
      ·subst B;rw[f.2.1]at q;cases q
      ·rw[Jb B];exact q
     ·by_cases B:c=AO
      ·subst B;rw[f.2.1]at q;cases q
      ·rw[Jb B];exact q
     ·by_cases B:c=AO
      ·subst B;rw[f.2.1]at q;cases q
      ·rw[Jb B];exact q
   have un:Un G3 fp H2 LU aF QcG:=by
    have U9:Un G3 fp H2 W aF QcG:=I5.base;have ne1:∀b o,s2.heap.get? b=So o->b≠AO:=λb o e=>Zn (hlt b o e);have neH:∀b u,H2 b=So u->b≠AO:=λb u e z=>by rw[z,I2.hok.fresh (Zf _)]at e;cases e
    refine⟨U9.keep,U9.slot,λb o e n h2=>?_,U9.there,λb xs e=>?_,λb o u e=>?_,λb ps' e=>?_⟩
    ·rw[Jb (ne1 b o e)];exact U9.free b o e n h2
    ·rw[Jb (neH b _ e)];exact U9.tups b xs e
    ·rw[Jb (neH b _ e)];exact U9.frzs b o u e
    ·rw[Jb (neH b _ e)];exact U9.tbls b ps' e
   have If:L2.Inv X Y Z LU s4:=I2.call' (ch:=fp) I5.os un okH I5.bare λb hb=>by obtain⟨_,f1',f2',f3',f4',f5'⟩:=f2 b hb;exact Oj
   have sH:Same W LU:=λb o e=>by rw[Jb (Je e f.2.1)];exact e
   have hCn:upd W AO Y2 XJ=No:=by rw[Jb (by rw[hC];exact Nat.succ_ne_self _)];exact HC
   exact hok AO ys _ XJ m' s4 done If hn' (I2.fpOk (by rw[hC];exact yA _) hCn) Jd (s02.free (I2.hok.fresh (Zf _))) ('Կ'.trans sH) (hr.mono sH) hg'
 exact codeAny_compStart_list (loop _ rfl) (T.self _ 0 _ _ _ (T.keep _ _ _ st2 λb hb o e=>old b o e) (loop _ rfl))
def Jgr{O:Fm}{Q:VK}(r:Kv)(g:(evD U J6 O).Good (OutF X H Q) BE):
  tW X U ps Z H λe W=>∃J,Walk X.K e W J/\Same H W/\J.length<=lD/\(JX nt Kc Kb O J).Good (λi=>OutF X H Q (.lst i)) BE:=by
 refine⟨O,r,(Rs.gB.mp g).imp λd b=>?_⟩;cases d with
 |lst J=>
  simp only[D.asL,Rs.bo]at b;split at b
  ·rename_i h;exact⟨J,rfl,λe W f w _=>⟨J,w,f,h,Rs.gB.mp b⟩⟩
  ·exact b.elim
 |_=>exact b.elim
def Jqb{h':Heap}(I:Bw)(f:FpOk X Y H Cd)(g:Heap.SameBut Cd Re h'):L2.Inv X Y Z H {s with heap:=h'}:=by obtain⟨j,i,r,m,q,h⟩:=f;exact I.turned (t':=Xl) (λb o l e=>(g.2 b l).trans e) j i m q h
def JkO(C:Ao)(h:EE)(i:GL)
  (q:∀X',Ctx X' G C4 sc.names->TgOk X' tg nt BF) (l:∀X',Ctx X' G C4 sc.names->PIf X' ifs D2) (g:∀X',Ctx X' G C4 sc.names->Sib X X'->PE X' elt GZ)
  (u:∀x,foldedSetIterable iter QL x=pure x:=by intro _;rfl):PE X F4 QI:=by rintro Y s Z H Q I⟨O,r,B⟩;rw[eval_ListComp];refine wpAny_comprehension_free (use:=No) rfl u P1 h.kind (λy hy e=>((h.at hy).2.2 e).1) (JgL (RR0:=λb C=>compPost As X.A X.xe No BI b C) C h i q l g I r (Jgr r B) ?_ λ_ _ _ _ e=>e);intro b ys t Cd m s4 dn M w f z h0 sm L hg;refine⟨m,w,λh' j=>⟨.ref b,t,Jqb M f j,rfl,?_⟩⟩;obtain⟨ds',e',F⟩:=hg;cases e';exact F b ys t sm h0 z L
def JeH{j w:Pos}{i:Nat}{y:Str}(C:Ao)(h:EE)(hi:X.N[i]? =So y)(hy:locB nm y=To)(t:GL)
  (F:∀X',Ctx X' G C4 sc.names->TgOk X' tg nt BF) (B:∀X',Ctx X' G C4 sc.names->PIf X' ifs D2) (l:∀X',Ctx X' G C4 sc.names->PE X' elt GZ)
  (hs:∀x,foldedSetIterable iter QL x=pure x:=by intro _;rfl):PS X (.Assign [.Name y w] F4 j) (tAsg QI Ej):=by
 obtain⟨u,z⟩:=C.sto y hy;have nd:X.N.Nodup:=by rw[C.hN];exact C.nd
 have M:∃b,swapsWith F4 (So (.Name y w)) j.line QL=pure b:=AJ;obtain⟨b,M⟩:=M;cases b with
 |false=>exact pG nd hi u (JkO C h t F B P0 hs) M z
 |true=>
  rintro Y s Z H D I⟨O,r,hG⟩;rw[exec_Assign_Name_used _ _ _ _ M];refine Za (wpAny_standAt (Za ?_));show wpAny _ X.A (do let _<-comprehension F4 sc QL _ (newList []) Fo Qcn (So Tg)) _ _ s;refine Za (ZL (wpAny_comprehension_free (use:=So Tg) (Q:=λ_ L=>SP X Y D .next L) rfl hs P1 h.kind (λy hy e=>((h.at hy).2.2 e).1)
   (JgL (RR0:=λg C=>compPost As X.A X.xe (So Tg) (λ_ L=>SP X Y D .next L) g C) C h t F B P0 I r (Jgr r hG) ?_ λ_ _ _ _ e=>e)) (λ_ L hq=>Zb (Zb hq)) λ_ _ e=>e)
  intro g ys Hf Cd m s4 dn If hn f ha h0 sm rs hg;show wpAny _ X.A (assign (.Name y w) QL (.ref g)) _ _ s4;refine wpAny_assign_Name (JgB If nd hi u (v:=.ref g) rfl (λs5 I5⟨ad,sb,had⟩=>?_) z);have hne:Cd≠ad:=by
   rcases had with q|q
   ·rw[q];exact f.2.1
   ·exact Ne.symm (f.2.2.2.2.1 y ad q)
  refine⟨m,hn.sameBut sb hne,λh' hsb=>⟨_,Hf,Jqb I5 f hsb,?_⟩⟩;obtain⟨ds',e',hQ⟩:=hg;cases e';exact hQ g ys Hf sm h0 ha rs
end
def JlP(l b:Addr)(items e:B7)(n j:Nat)(dd i:DY)(sl f:EJ)(r:AC+e.size<=sizeLine):
  Meets (Builtin.«list.__add__» ⟨[.ref l,.ref b],[]⟩) (λ_ R s=>s.heap.get? l=So {cls:=.type "list",dict:=dd,data:=.seq items n,slots:=sl}/\s.heap.get? b=So {cls:=.type "list",dict:=i,data:=.seq e j,slots:=f}/\R (.ok (.ret Qco)) {s with heap:=s.heap.push {cls:=Value.type "list",data:=Data.seq (items++e)},toks:=Xl}):=
 .of_wp λprog w A R s h=>by
  obtain⟨F,g,d,B,y⟩:=s;obtain⟨q,m,h⟩:=h;have t:=AutoSeq1.idx_int;have u:=AutoSeq1.sub_tuple_tuple;have C:=AutoSeq1.sub_list_list;have I:=AutoSeq1.sub_tuple_list;have z:=AutoSeq1.sub_list_tuple
  wp_walk using AutoSeq1.wpAny_loadPart' q,AutoSeq1.wpAny_loadPart' m;exact HG
def Jnk{w:A0}{l b:Addr}{items e:B7}{Q:Au}(I:Oq)(C:s.heap.IsList b e)
  (h:Q E5 {s with heap:=s.heap.push {cls:=.type "list",data:=.seq (items++e)}}) (hsz:AC+e.size<=sizeLine):wpAny Ar A (binaryOp .Add BC Eu) Q E s:=by obtain⟨⟨cls,B,data,sl⟩,t,r,n,u⟩:=id I;obtain⟨⟨y,m,q,j⟩,i,f,z,g⟩:=id C;simp only at r u f g;subst r u f g;exact concat_meets HF ⟨_,i,rfl⟩ PySem.noFill_list_add PySem.seq_list_add F.slot_list_add F.entry_list_add (F.args_list_add_2 _ _) (JlP l b items e n z B m sl j hsz) ⟨t,i,h⟩
def JoQ{w:A0}{t b:Addr}{ws:AF}{Q:Au}(B:IsTup Re t ([]:List Value).toArray)(F:Qb)
  (h:Q Eu s):wpAny Ar A QC Q E s:=by
 obtain⟨⟨I,C,r,sl⟩,q,m,n,u⟩:=id B;obtain⟨⟨y,j,l,i⟩,g,e,z,f⟩:=id F;simp only at m u e f;subst m u e f;exact concat_meets ⟨_,q,rfl⟩ ⟨_,g,rfl⟩ noFill_tuple_add seq_tuple_add nS vS QcV
   (tuple_addW0 t b ([]:List Value).toArray Qbu n z C j sl i Af) ⟨q,g,h⟩
def wG{n:Nat}(h:n<=lD):n<=sizeLine:=by rw[ZJ];exact h
def Jul{a b:D}{E:C6}(h:(op2 .add a b).Good P E):(∃i j,a=.int i/\b=.int j)\/(∃i j,a=.str i/\b=.str j)\/(∃i j,a=.tup i/\b=.tup j)\/∃i j,a=.lst i/\b=.lst j:=by cases a<;>first|exact(show False from h).elim|(cases b<;>first|exact(show False from h).elim|exact .inl EG|exact .inr (.inl EG)|exact .inr (.inr (.inl EG))|exact .inr (.inr (.inr EG)))
theorem JrS:OpR X Mr (rD2 X .add):=by
 rintro Y s Z H x y v u Q I r q⟨dx,dy,z,B,h⟩;rcases Jul h with⟨i,j,rfl,rfl⟩|⟨i,j,rfl,rfl⟩|⟨J,es,rfl,rfl⟩|⟨J,es,rfl,rfl⟩
 ·exact JvE Y s Z H x y v u Q I r q ⟨_,_,z,B,Out.now h rfl⟩
 ·simp only[op2]at h;split at h
  ·rename_i t;exact JjL Y s Z H x y v u Q I r q ⟨_,_,z,B,wG t,Out.now h rfl⟩
  ·exact h.elim
 ·simp only[op2]at h;split at h
  ·rename_i t;obtain⟨a,xs,rfl,w,f⟩:=z;obtain⟨b,ys,rfl,m,g⟩:=B;have l1:=Yl;have M:=XQ;by_cases hx:xs=[]
   ·subst hx;have hd:J=[]:=f.nil_iff.mp rfl;subst hd;cases r;cases q;obtain⟨its,l,O,_⟩:=I.tuple w;obtain⟨e,U,C,_⟩:=I.tuple m;cases l;exact JoQ O C ⟨.ref b,H,I,rfl,Out.now h ⟨b,ys,rfl,m,g⟩⟩
   ·refine JrD Y s Z H _ _ v u Q I r q ⟨a,b,xs,ys,rfl,rfl,w,m,hx,wG (by rw[l1,M];exact t),λhy=>?_,λhy p hp=>?_⟩
    ·have he:es=[]:=g.nil_iff.mp hy;subst he;exact Out.now h ⟨a,xs,rfl,w,by simpa using f⟩
    ·obtain⟨L,l⟩:=jF (K:=X.K) hp (f.append g);exact h _ _ L l
  ·exact h.elim
 ·simp only[op2]at h;split at h
  ·rename_i t;obtain⟨a,xs,rfl,w,f⟩:=z;obtain⟨b,ys,rfl,m,g⟩:=B;have l1:=Yl;have M:=XQ;cases r;cases q;obtain⟨its,l,O,_⟩:=I.list w;obtain⟨e,U,C,_⟩:=I.list m;have l3:=Xv;have l4:=U.length;have F:Ai+BU<=sizeLine:=wG (by rw[l1,M];exact t);refine Jnk O.isList C.isList ?_ (by rw[Zp,Zp];lia);have ea:AU++e.toArray=(its++e).toArray:=by simp
   rw[ea];obtain⟨L,w1⟩:=eI (K:=X.K) (xs:=xs++ys) I.fresh (f.append g);exact⟨.ref _,_,I.lnew (t':=Xl) (l.append U) (by rw[Zm];exact F),rfl,h _ _ L w1⟩
  ·exact h.elim
def Jta:OpR X QbD (rD2 X .sub):=by rintro Y s Z H x y v u Q I g e⟨l,q,b,f,h⟩;obtain⟨i,j,rfl,rfl,m⟩:=jJ h;exact Jvf Y s Z H x y v u Q I g e Hk
theorem JiS(xs:Array α):∀(n:Nat)(b:Array α),((List.replicate n xs).foldl (·++·) b).size=b.size+n*xs.size
 |0,b=>by simp
 |n+1,b=>by
  rw[List.replicate_succ,xN,JiS xs n,Array.size_append,Nat.succ_mul]
  lia
def Jvr{a b:D}{E:C6}(h:(op2 .mul a b).Good P E):(∃i j,a=.int i/\b=.int j)\/∃i j,a=.str i/\b=.int j:=by cases a<;>first|exact(show False from h).elim|(cases b<;>first|exact(show False from h).elim|exact .inl EG|exact .inr EG)
theorem Jrr:OpR X Qa3 (rD2 X .mul):=by
 rintro Y s Z H x y v u Q I m g⟨F,dy,f,l,h⟩;rcases Jvr h with⟨i,j,rfl,rfl⟩|⟨i,j,rfl,rfl⟩
 ·simp only[op2]at h;split at h
  ·rename_i b;refine JtM Y s Z H x y v u Q I m g ⟨i,j,f,l,?_,Out.now h rfl⟩;simp only[smallI,uD,Zd,Zv]at b;exact b
  ·exact h.elim
 ·simp only[op2]at h;split at h
  ·rename_i b;obtain⟨U,h2,L,w⟩:=b;have C:x=V.str i:=f;have r:y=V.int j:=l;subst C r;obtain⟨t,rfl⟩:=m;obtain⟨M,rfl⟩:=g;have O:i.length*j.toNat<=1000*1000:=Nat.mul_le_mul w Ad;have B:PySem.Builtin.Str.tooLong (i.length*j.toNat)=Fo:=by unfold PySem.Builtin.Str.tooLong;rw[Zx];have:=ZJ;lia
   have z:(j==1||i.length==0)=Fo:=by rw[ZZ,Zw,Zw];lia
   refine P.mul_str ?_ (λ_ _ q=>?_) (λ_ _=>B) ?_
   ·rw[Zx 'd',Zx 'd'];rfl
   ·have:(1000:Int)<=(2^63-1) / j:=by
     refine(Int.le_ediv_iff_mul_le Ad).mpr ?_;lia
    lia
   ·rw[if_neg 'd',if_neg (by rw[z];exact ZM)];refine⟨?_,⟨.str (repS i j),H,I.tok _,AJ,Out.now h rfl⟩⟩;have e:(⟨'Ԣ'.foldl (·++·) #[]⟩:Str).length=i.length*j.toNat:=by show('Ԣ'.foldl (·++·) #[]).size=_;rw[JiS,Nat.mul_comm];simp[Str.length]
    rw[e];have:=ZJ;lia
  ·exact h.elim
def Jpf:OpR X OZ (rD2 X .fdiv):=by
 rintro Y s Z H x y v u Q I l f⟨q,r,e,g,h⟩;obtain⟨i,j,rfl,rfl,b⟩:=jJ h;split at b
 ·rename_i m;exact JsZ Y s Z H x y v u Q I l f Ur
 ·exact b.elim
def JsX:OpR X QbE (rD2 X .mod):=by
 rintro Y s Z H x y v u Q I l f⟨q,r,e,g,h⟩;obtain⟨i,j,rfl,rfl,b⟩:=jJ h;split at b
 ·rename_i m;exact Jtn Y s Z H x y v u Q I l f Ur
 ·exact b.elim
def JpN(q:Fk):OpR X (compareOp .Eq) (rD2 X .eq):=by
 rintro Y s Z H x y v u Q I m j⟨e,f,i,l,h⟩;have b:(if(Jy e&&Jy f)=To then Rs.ok (.bl (e.eqv f))else .sk:Rs D).Good BY BE:=h;split at b
 ·rename_i g;simp only[Jy,Zd,Zv]at g;exact(fP I 20 X.A e f g.1 Ad Ad i l m j Ad).1 Xn X.w X.xe _ UQ
 ·exact b.elim
def Jis(q:Fk):OpR X Oa (rD2 X .ne):=by
 rintro Y s Z H x y v u Q I m j⟨e,f,i,l,h⟩;have b:(if(Jy e&&Jy f)=To then Rs.ok (.bl (!e.eqv f))else .sk:Rs D).Good BY BE:=h;split at b
 ·rename_i g;simp only[Jy,Zd,Zv]at g;exact(fP I 20 X.A e f g.1 Ad Ad i l m j Ad).2.1 Xn X.w X.xe _ UQ
 ·exact b.elim
def lt_cs{a b:D}{E:C6}(h:(op2 .lt a b).Good P E):(∃i j,a=.int i/\b=.int j)\/∃i j,a=.str i/\b=.str j:=by cases a<;>first|exact(show False from h).elim|(cases b<;>first|exact(show False from h).elim|exact .inl EG|exact .inr EG)
def iV:OpR X Q9 (rD2 X .lt):=by
 rintro Y s Z H x y v u Q I g e⟨l,m,b,f,h⟩;rcases lt_cs h with⟨i,j,rfl,rfl⟩|⟨i,j,rfl,rfl⟩
 ·exact op_lt Y s Z H x y v u Q I g e Hk
 ·exact Jnc Y s Z H x y v u Q I g e Hk
def JvF:OpR X Qa4 (rD2 X .le):=by rintro Y s Z H x y v u Q I g e⟨l,q,b,f,h⟩;obtain⟨i,j,rfl,rfl,m⟩:=jJ h;exact op_le Y s Z H x y v u Q I g e Hk
def JpG:OpR X QbF (rD2 X .gt):=by rintro Y s Z H x y v u Q I g e⟨l,q,b,f,h⟩;obtain⟨i,j,rfl,rfl,m⟩:=jJ h;exact op_gt Y s Z H x y v u Q I g e Hk
def JtB:OpR X Qa5 (rD2 X .ge):=by rintro Y s Z H x y v u Q I g e⟨l,q,b,f,h⟩;obtain⟨i,j,rfl,rfl,m⟩:=jJ h;exact op_ge Y s Z H x y v u Q I g e Hk
theorem mU:∀{J:Am}{j:Nat}{d:D},J[j]? =So d->d.dep<=deps J
 |[],_,_,h=>by simp at h
 |a::J,0,d,h=>by simp at h;subst h;simp only[deps];lia
 |a::J,j+1,d,h=>by
  have:=mU (J:=J) (j:=j) (d:=d) (by simpa using h)
  simp only[deps];lia
open Classical in
noncomputable def eU (J:Am) (its:AF) (d:D) (y:Al):Bool:=decide (∃(j:Nat)(b:D),its[j]? =So y/\J[j]? =So b/\b.eqv d=To)
open Classical in
def tP(I:Bw)(q:FF)(m:GS)(pd:deps J<1000){d':D}{j:Nat}{y:Al}(h1:its[j]? =So y)(h:J[j]? =So d'):
  eU J its d y=d'.eqv d:=by
 have same:∀k b,its[k]? =So y->J[k]? =So b->b=d':=λk b g f=>by
  obtain⟨M,z,u⟩:=q.get h
  obtain⟨L,t,C⟩:=q.get f
  obtain⟨O,i,w⟩:=m.get z
  obtain⟨F,l,B⟩:=m.get t
  rw[h1]at i;cases i
  rw[g]at l;cases l
  have:=w.inj B
  subst this
  exact Rep.inj I _ pd (mU f) (zF (mU h) pd) C u
 cases e:d'.eqv d with
 |true=>exact ZH ⟨j,d',h1,h,e⟩
 |false=>
  refine Zx ?_
  rintro⟨k,b,g,f,r⟩
  rw[same k b g f,e]at r
  cases r
open Classical in
theorem JpK(I:Bw)(h:FF)(g:GS)(pd:deps J<1000)(d:D):its.toArray.any '乪'=J.any λf=>f.eqv d:=by
 have t:=XQ
 have u:=h.length
 rw[show its.toArray.any '乪'=its.any '乪' by simp,Bool.eq_iff_iff,fN,fN]
 constructor
 ·rintro⟨y,r,e⟩
  obtain⟨j,f,_,l,m⟩:=ZW e
  exact⟨f,gK l,m⟩
 ·rintro⟨f,q,e⟩
  obtain⟨j,i⟩:=qO q
  have b:j<BV:=by
   have:=(Zz.mp i).1
   lia
  refine⟨its[j],List.getElem_mem b,?_⟩
  rw[tP I h g pd (Zs b) i]
  exact e
theorem oQ(F:Fk)(I:Bw)(f:FF)(e:GS){x:V}{v:Al}(B:Rep X.K H d x)(u:RelV x v)(r:deps J<=20)(m:d.dep<=20):
  ∀y,y∈AU->EqAt aG s y v (eU J its d y):=by
 intro y t;have g:y∈its:=by simpa using t
 obtain⟨j,h⟩:=qO g;have C:=YV;have O:=Yl;have w:=(Zz.mp h).1;have b:J[j]? =So 'Ǣ':=by rw[vJ,Zs 'd'];rfl
 rw[tP I f e 'd' h b];obtain⟨L,z,l⟩:=f.get b;obtain⟨M,i,q⟩:=e.get z;rw[h]at i;cases i;exact(fP I 20 aG _ d (uQ r) A9 Ad l B q u (by show X.A.units+1+20+1<cLine;lia)).2.2
def Joj(h:x.cps=#[x.cps.getD 0 0]):x=⟨#[x.cps.getD 0 0]⟩:=by obtain⟨c⟩:=x;show Str.mk c=_;rw[<-h]
def JpS(C:Fk):OpR X QbG (rD2 X .isin):=by
 rintro Y s Z H x y v u Q I t q⟨b,F,m,r,h⟩;cases F with
 |str z=>
  cases b with
  |str w=>
   simp only[op2]at h;split at h
   ·rename_i i;refine Jkm Y s Z H x y v u Q I t q ⟨w,z,m,r,?_⟩;have e:=PySem.StrLaws.found_one z (w.cps.getD 0 0);rw[<-Joj i]at e;rw[e];exact Out.now h rfl
   ·exact h.elim
  |_=>exact(show False from h).elim
 |tup J=>
  have f:(if(Jy (.tup J)&&Jy b)=To then Rs.ok (.bl PZ)else .sk:Rs D).Good BY BE:=by cases b<;>exact h
  split at f
  ·rename_i i;have g:deps J+1<=20/\b.dep<=20:=by simpa[Jy,D.dep]using i
   obtain⟨a,xs,rfl,B,l⟩:=r;cases q;obtain⟨its,j,p,_⟩:=I.tuple B;refine SeqAt.in_tupleAt (eU J its b) p (oQ C I l j m t Ad g.2) OP;rw[JpK I l j 'd'];exact Out.now f rfl
  ·exact f.elim
 |lst J=>
  have f:(if(Jy AE&&Jy b)=To then Rs.ok (.bl PZ)else .sk:Rs D).Good BY BE:=by cases b<;>exact h
  split at f
  ·rename_i i;have g:deps J+1<=20/\b.dep<=20:=by simpa[Jy,D.dep]using i
   obtain⟨a,xs,rfl,B,l⟩:=r;cases q;obtain⟨its,j,p,_⟩:=I.list B;refine SeqAt.in_listAt (eU J its b) Yj (oQ C I l j m t Ad g.2) OP;rw[JpK I l j 'd'];exact Out.now f rfl
  ·exact f.elim
 |_=>cases b<;>exact(show False from h).elim
def JkZ{K:Aj}{i:Int}(b:FE)(h:atD J i=So d):∃x,atI xs i=So x/\Rep K H d x:=by
 have l:=b.length;unfold atD at h;unfold atI;have e:L2.ixN Ai i=ixn Ac i:=by rw[l];rfl
 rw[e];cases q:ixn Ac i with
 |none=>rw[q]at h;cases h
 |some j=>rw[q]at h;exact b.get h
def Jup:IxR X (rD2 X .idx):=by
 rintro b e Y s Z H x y v u Q I m j⟨L,F,f,C,h⟩l;cases L<;>first|exact(show False from h).elim|(cases F<;>first|exact(show False from h).elim|skip)
 ·rename_i z i;simp only[op2]at h;split at h
  ·rename_i M;cases q:atD XX i with
   |none=>rw[q]at h;exact h.elim
   |some c=>rw[q]at h;exact Jwh b e Y s Z H x y v u Q I m j ⟨z,i,c,f,C,wG M,q,Out.now h rfl⟩ l
  ·exact h.elim
 ·rename_i J i;simp only[op2]at h;cases q:atD J i with
  |none=>rw[q]at h;exact h.elim
  |some d=>rw[q]at h;obtain⟨a,xs,rfl,r,B⟩:=f;obtain⟨w,t,g⟩:=JkZ B q;exact JvR b e Y s Z H _ y v u Q I m j Vc l
 ·rename_i J i;simp only[op2]at h;cases q:atD J i with
  |none=>rw[q]at h;exact h.elim
  |some d=>rw[q]at h;obtain⟨a,xs,rfl,r,B⟩:=f;obtain⟨w,t,g⟩:=JkZ B q;exact Jtc b e Y s Z H _ y v u Q I m j Vc l
end Rd
namespace HT
open PySem PyProof.Rows
def Jcs{prog:Be}{w:A0}{A:Bd}{E:Au}{s:Ak}{t sl:Addr}{items:B7}{r u:Al}{lo hi:BA}{Q:Au}(b:NR)(m:s.heap.IsSliceOf sl r u .none)(pl:IsPart r lo)(z:IsPart u hi)
  (l:sIx AC 0 lo=0/\sIx AC AC hi=AC) (h:Q GO s):wpAny Ar A OJ Q E s:=by
 obtain⟨x,j,f,B⟩:=id m;have i:s.TypeIs J0 "slice":=⟨x,j,f⟩;unfold getItem;try with_reducible refine qA ?_
 first|refine Za (Zb ?_)|skip
 refine Za (wpAny_sequenceKey Yx A9 ?_);refine Za (ZK (name:=oS "__getitem__") Yx nO
  (ZF nO Yx entry_tuple_getitem ?_ Qx))
 show wpAny _ _ (Builtin.Tuple.tupleItemsOf (.ref t)>>=_) _ _ s;refine Za (tupleItemsOf_ b ?_);refine Za (nD i ?_);rw[if_pos 'E'];refine Za (JaR m pl z ?_);have e:(((sIx AC 0 lo:Nat):Int)==0&&(1:Int)==1&& F1==AC)=To:=by rw[l.1,l.2];simp
 show wpAny _ _ (if(((sIx AC 0 lo:Nat):Int)==0&&(1:Int)==1&& F1==AC)=To then _ else _) _ _ s;rw[if_pos e];have a:∀{g:Bool->Shared->Prop},g To s->wpAny Ar XB (Builtin.Tuple.tupleIsExact GO) g E s:=fun{g}q=>by obtain⟨o,y,v,n,C⟩:=id b;unfold Builtin.Tuple.tupleIsExact;refine Za (nD (T:="tuple") ⟨o,y,v⟩ ?_);exact Zb q
 first
  |exact Za (a (by simp only[if_true];exact Za (qB (Zb ⟨_,rfl,Zb h⟩))))
  |exact Za (wpAny_of_in1 (a (by simp only[if_true];exact Za (qB (Zb ⟨_,rfl,Zb h⟩)))))
end HT
namespace Rd
open PySem PySem.Spec PyProof.Rows L2 Pu
open PySem.SeqAt (EqAt RcAt RcNeAt)
variable{H H0 H1 W:Hp}{a l it tp:Addr}{s:Ak}{Z σ':Bf}{X:Cx}{K:Aj}{i k j n ep sl:Nat}{w:A0}{A:Bd}{E:Au}{prog P:Be}{N ks:Ag}{Y:AV}{pos p1 p2 px apos np:Pos}{M:Aq}{G:Gw}{nm:A8}{xs:Av}{x y:Str}{t lb t1 t2 m z:Bool}{p pa pb:Px}{J:Am}{O:Fm}{h h':Heap}{e b tg:Expr}{L L1:A1}{o:O1}{v:V}{α:Type}{es:Ka}{bs:List Bool}{items:B7}{elts:Cy}{st:Stmt}
section
variable{X:Cx}{U:Ae}{e a b c:Expr}{es:Cy}{p pa pb pc pl ph:Px}{pos:Pos}
def sX{lo hi:BA}(f:FE):Reps K H (cutD J lo hi) 'ȳ':=by
 have l:=Yl;have e:cutV xs lo hi=(xs.drop (six Ac 0 lo)).take (six Ac Ac hi-six Ac 0 lo):=by unfold cutV;rw[l];rfl
 rw[e];exact(f.drop _).take _
def Jkq{v:Al}{o:BA}(h:IsPart v o):∃p:Option (Int×Tok),v=partValue p/\p.map (·.1)=o:=by
 cases h with
 |none=>exact⟨No,rfl,rfl⟩
 |int i t=>exact⟨So (i,t),rfl,rfl⟩
theorem JfR(n:Nat)(lo hi:BA):Builtin.Str.strSliceIndices lo hi 1 n=(List.range (six n n hi-six n 0 lo)).map λk=>six n 0 lo+k:=by
 have g:∀a b:Nat,sliceRange (a:Int) (b:Int) 1=(List.range (b-a)).map λk=>a+k:=λa b=>by
  unfold sliceRange;have e:(if(a:Int)<b then((b:Int)-a+1-1) / 1 else 0).toNat=b-a:=by split<;>simp<;>lia
  simp only[show(1:Int)>0 by decide,if_true,e];refine fG λk _=>?_;lia
 have f:∀(v:BA)(d:Nat),(match v with|none=>(d:Int)|some i=>max 0 (min (if i<0 then i+(n:Int)else i) n))=((six n d v:Nat):Int):=λv d=>by
  cases v with
  |none=>rfl
  |some i=>
   unfold six;by_cases h:i<0
   ·simp only[h,if_true];lia
   ·simp only[h,ZN];lia
 rw[<-g];have q:=f lo 0;have r:=f hi n;unfold Builtin.Str.strSliceIndices;simp only[show(1:Int)>0 by decide,if_true];rw[<-q,<-r];cases lo<;>cases hi<;>rfl
theorem JmC(x:Str)(lo hi:BA):Txt.slice x lo hi=mkS Uz:=by
 have g:x.cps.toList.length=x.length:=ZT;have f:∀(d:Nat),d<=x.length->∀v,six Xo d v<=x.length:=λd r v=>by
  cases v with
  |none=>exact r
  |some i=>simp only[six];split<;>lia
 have C:=f 0 (mB _) lo;have B:=f Xo (Zf _) hi;have q:'ϩ'.filterMap (x.cps[·]?)=Pu.cutD Xu lo hi:=by
  rw[JfR,Pu.cutD,g];have:=StrLaws.picks Xu (six Xo Xo hi-six Xo 0 lo);generalize six Xo 0 lo=a at C this;generalize six Xo Xo hi=b at B this;by_cases h:a<=b
  ·rw[<-this a 'd'];simp only[sJ]
  ·rw[show b-a=0 by lia];simp
 unfold Txt.slice;rw[q];split
 ·rename_i h;have F:'ϩ'.length=x.length:=by simpa using h
  rw[JfR,Zj,jN]at F;have u:six Xo 0 lo=0:=by lia
  have I:six Xo Xo hi=x.length:=by lia
  rw[Pu.cutD,g,u,I,Nat.sub_zero,List.drop_zero,<-g,List.take_length];rfl
 ·rfl
def rSlD (X:Cx):V->Option Int->Option Int->Hp->VK->Prop:=λx g f H Q=>∃d,Rep X.K H d x/\(match d with
 |.tup J=>Rs.ok (.tup (cutD J g f))
 |.lst J=>.ok (.lst (cutD J g f))
 |.str x=>if x.length<=20000 then .ok (.str (mkS (Pu.cutD Xu g f)))else .sk
 |_=>.sk:Rs D).Good BY BE
def slD:SlR X (rSlD X):=by
 rintro Y s Z H x v vl vu lo hi sl Q I rx hs pl C⟨d,r,h⟩;cases d with
 |tup J=>
  obtain⟨a,xs,rfl,B,h2⟩:=r;by_cases hw:HT.sIx Ai 0 lo=0/\HT.sIx Ai Ai hi=Ai
  ·cases rx;obtain⟨its,r,ht,hz⟩:=I.tuple B;have g:FL=Ai:=by rw[Zp];exact r.length.symm
   refine⟨"tuple",_,YX,ht.typeIs,HT.Jcs ht hs pl C (by rw[g];exact hw) ⟨.ref a,H,I,rfl,Out.now h ⟨a,xs,rfl,B,?_⟩⟩⟩;have e:=sX (lo:=lo) (hi:=hi) h2;have e2:cutV xs lo hi=xs:=by unfold cutV;rw[hw.1,hw.2];simp
   rw[e2]at e;exact e
  ·refine Jug Y s Z H _ v vl vu lo hi sl Q I rx hs pl C ⟨a,xs,rfl,B,hw,λp hp=>?_⟩;obtain⟨s1,q1⟩:=jF (K:=X.K) hp (sX (lo:=lo) (hi:=hi) h2);exact h _ _ s1 q1
 |lst J=>obtain⟨a,xs,rfl,B,h2⟩:=r;refine Jsv Y s Z H _ v vl vu lo hi sl Q I rx hs pl C ⟨a,xs,rfl,B,λp hp=>?_⟩;obtain⟨s1,q1⟩:=eI (K:=X.K) hp (sX (lo:=lo) (hi:=hi) h2);exact h _ _ s1 q1
 |str x=>
  cases r;obtain⟨t,rfl⟩:=rx;have h:(if x.length<=20000 then Rs.ok (D.str (mkS Uz))else Rs.sk:Rs D).Good BY BE:=h;split at h
  ·rename_i hz;obtain⟨q,e1,e2⟩:=Jkq pl;obtain⟨f,e3,e4⟩:=Jkq C;obtain⟨o,ho,hc,hd⟩:=hs;subst e1 e3 e2 e4;refine⟨"str",_,F.slot_str_getitem.lookup,tJ _ _ _,wpAny_getItem_str_slice (l:=q) (u:=f) (st:=No) ⟨o,ho,hc,hd⟩ rfl (post_val_or_str ⟨?_,λt' k=>?_⟩)⟩
   ·exact ZA (Txt.slice_le x _ _) (ZA hz (show 20000<=sizeLine by rw[ZJ];decide))
   ·refine⟨.str (Txt.slice x (q.map (·.1)) (f.map (·.1))),H,I.tok _,AJ,?_⟩;rw[JmC];exact Out.now h rfl
  ·exact h.elim
 |_=>exact h.elim
def tO (X:Cx) (U:Ae) (p:Px):TO:=λZ H Q=>∃O,ReadOk X.K H Z O/\('Ƥ'.bind D.bound).Good (λo=>∀W,Same H W->Q o W) BE
def Jsy:PO X No (tO X U Da):=λY s Z H Q I⟨O,r,h⟩=>JrZ Y s Z H Q I (h H ED)
def Jrs(h:BX):PO X (So e) (tO X U (.un .asI p)):=λY s Z H Q I⟨O,r,f⟩=>JqO h Y s Z H Q I (by
 simp only[evD,Rs.bind_assoc]at f
 refine⟨O,r,(Rs.gB.mp f).imp λd g v W q u=>?_⟩
 cases d with
 |int i=>exact⟨i,u,g W q⟩
 |_=>exact(show False from g).elim)
def Joy{lo hi:cY}{p2:Pos}(I:PE X e GV)(hl:PO X lo (tO X U pl))(hu:PO X hi (tO X U ph)):PE X Ql (tI X U (.sl pa pl ph)):=by refine PE.weak (Joz slD I hl hu) λZ H Q q=>?_;obtain⟨O,r,h⟩:=q;refine tI.then r h λd v H1 s1 rv B C=>?_;rw[<-Rs.bind_assoc]at C;refine⟨O,B,(Rs.gB.mp C).imp λl F H2 f=>?_⟩;rw[<-Rs.bind_assoc]at F;refine⟨O,B.mono f,((Rs.gB.mp F).imp λu h3 H3 g=>?_).mono (λ_ x=>x) λc x=>x.mono f⟩;refine⟨d,rv.mono a8,?_⟩;have h4:=h3.mono (λd'(o:Out X H1 Q d')=>o.mono a8) λc(x:XW X H1 c)=>x.mono a8;cases d<;>exact h4
def tF.of{Q:VK}(h:tI X U p Z H Q)(f:∀O d,ReadOk X.K H Z O->evD U p O=.ok d->∃J,d=.lst J):tF X U p Z H Q:=by
 obtain⟨O,r,h⟩:=h;refine Dl;cases q:evD U p O with
 |ok d=>rw[q]at h;obtain⟨J,rfl⟩:=f O d r q;exact⟨J,rfl,λl xs W s B g u=>h _ _ s ⟨l,xs,rfl,SqL.of g,u⟩⟩
 |ex c=>rw[q]at h;exact h
 |sk=>rw[q]at h;exact h
noncomputable def isL:Px->Bool
 |.comp _ _ _ _=>To
 |.dis _=>To
 |_=>Fo
def Jla{d:D}(h:isL p=To)(e:evD U p O=.ok d):∃J,d=.lst J:=by
 cases p with
 |comp u a b c=>
  simp only[evD]at e;cases q:evD U a O with
  |ok f=>
   rw[q]at e;cases f with
   |lst J=>
    simp only[Rs.bo,D.asL]at e;split at e
    ·cases g:JX u (evD U b) Xh O J with
     |ok r=>rw[g]at e;cases e;exact⟨r,rfl⟩
     |ex c=>rw[g]at e;cases e
     |sk=>rw[g]at e;cases e
    ·cases e
   |_=>cases e
  |ex c=>rw[q]at e;cases e
  |sk=>rw[q]at e;cases e
 |dis a=>
  simp only[evD]at e;cases q:evD U a O with
  |ok f=>
   rw[q]at e;cases f with
   |lst J=>
    simp only[Rs.bo,D.asL]at e;split at e
    ·cases e;exact⟨J,rfl⟩
    ·cases e
   |_=>cases e
  |ex c=>rw[q]at e;cases e
  |sk=>rw[q]at e;cases e
 |_=>cases h
def qM(h:PE X e cC)(f:isL p=To):PE X e E1:=PE.weak h λZ H Q g=>tF.of g λO d _ q=>Jla f q
def zK(h:QbA):PE X Qcj (tF X U (.dis p)):=by
 refine PE.weak (JqI h) λZ H Q q=>?_;obtain⟨O,r,h⟩:=q;refine⟨O,r,'Ĝ'.imp λd f=>?_⟩;cases d with
 |lst J=>
  simp only[D.asL,Rs.bo]at f;refine⟨J,rfl,λF W s g=>?_⟩;split at f
  ·rename_i hz;refine⟨by rw[g.length,ZJ];exact hz,λa B=>?_⟩;obtain⟨u,r2⟩:=eI B g;obtain⟨I,C,hQ⟩:=f;cases C;exact hQ a F _ (s.trans u) (s.free B) Jd (g.mono u)
  ·exact f.elim
 |_=>exact f.elim
def rC1 (X:Cx) (o:O1):List V->Hp->VK->Prop:=λxs H Q=>∃x d,xs=[x]/\Rep X.K H d x/\(op1 o d).Good BY BE
def tC1{Q:VK}(h:O9):tCB QaQ (tA X U (.cons pa .nil)) Z H Q:=by obtain⟨O,r,h⟩:=h;refine Dl;simp only[evD];refine Rs.gB.mpr ('Ĝ'.imp λd q=>?_);simp only[Rs.bo,D.asL];refine⟨[d],rfl,λF W s f=>?_⟩;obtain⟨x,C,B,g,u⟩:=f;cases u;subst B;exact⟨x,d,rfl,g,q.mono SA λ_ x=>x.mono s⟩
section
variable{G:Gw}{N:Ag}{nm:A8}{x:Str}{id T:Ba}{p1:Pos}
def eQ(C:Ao)(r:nA X Do QaQ)(B:AG)(hg:gloB nm x=To)(F:G.mg x=No)(q:bootBuiltins x=So Do)(u:x≠"__name__")(f:Gi)
  (g:Sb):PE X PY Sy:=
 PE.weak (rM r CY (by rw[C.mg];exact F) q (Jg B Jp g) u f g rfl) λZ H Q h=>tC1 h
def JvU(C:Ao)(r:nA X Ey QaQ)(B:AG)(hg:gloB nm x=To)(F:G.mg x=No)(q:bootBuiltins x=So Ey)(u:x≠"__name__")(f:Gi)
  (g:Sb):PE X PY Sy:=
 PE.weak (xY r CY (by rw[C.mg];exact F) q (Jg B Jp g) u f g rfl) λZ H Q h=>tC1 h
end
def Inv.kind(I:Bw){a:Addr}{o f:HO}(h:H a=So o)(B:Mut (So o))(hn:ObjOk Xn X.w H Re a o->ObjOk Xn X.w (upd H a f) Re a f):L2.Inv X Y Z (upd H a f) s:=by
 have ne:∀{b u},H b=So u->Mut (So u)=False->upd H a f b=H b:=fun{b u}e m=>Jb λz=>by
  subst z
  rw[h]at e;cases e
  rw[m]at B;exact B
 have r:∀{b},H b=No->upd H a f b=No:=fun{b}e=>by rw[Jb λz=>by rw[z,h]at e;cases e];exact e
 exact{
  ok:=I.ok,os:=I.os,bare:=XA
  base:=⟨c6,c7,λb g hb F hx=>r (I.base.free b g hb F hx),bM,λb xs q=>by rw[ne 'ϣ' rfl];exact I.base.tups b xs q,λb g u q=>by rw[ne (I.base.frzs b g u q) rfl];exact I.base.frzs b g u q,λb qs q=>by
   obtain⟨m,e⟩:=I.base.tbls b qs q
   exact⟨m,by rw[ne e rfl];exact e⟩⟩
  loc:=XG,cell:=Yi,free:=r XD,freeC:=λx c e=>r G7
  pin:=λp C=>⟨(I.pin p C).1,r (I.pin p C).2.1,(I.pin p C).2.2⟩
  hok:=I.hok.write (by rw[h];exact B) BB MA (HOk.has Xy h) (hn (I.hok a o h))
  len:=Ys}
def Inv.asL(I:Bw){a:Addr}{t:Str}(h:H a=So (.lsm t xs)):L2.Inv X Y Z Q0 s:=Inv.kind I h trivial id
def Inv.asM(I:Bw){a:Addr}(t:Str)(h:H a=So AK):L2.Inv X Y Z (upd H a (.lsm t xs)) s:=Inv.kind I h trivial id
def Jvn{a:Addr}{o u:HO}(h:H a=So o):upd (upd H a u) a o=H:=funext λb=>by
 by_cases q:b=a
 ·subst q;rw[Jd,h]
 ·rw[Jb q,Jb q]
def Jus:nA X MB (rC1 X .len):=by
 rintro Y s Z H xs B Q I q⟨x,d,e,r,h⟩;subst e;cases d with
 |str z=>
  simp only[op1]at h;split at h
  ·rename_i hz;exact Jgk Y s Z H _ B Q I q ⟨z,by rw[show x=V.str z from r],wG hz,Out.now h rfl⟩
  ·exact h.elim
 |tup J=>obtain⟨a,ys,rfl,f,g⟩:=r;exact Jbe Y s Z H _ B Q I q ⟨a,ys,rfl,.inr f,by rw[g.length];exact Out.now h rfl⟩
 |lst J=>obtain⟨a,ys,rfl,f,g⟩:=r;exact Jbe Y s Z H _ B Q I q ⟨a,ys,rfl,.inl f,by rw[g.length];exact Out.now h rfl⟩
 |mls t J=>obtain⟨a,ys,rfl,f,g⟩:=r;refine thn (Jbe Y s Z _ _ B (λv W=>v=.int BU/\W=upd H a Y2) (Inv.asL I f) q ⟨a,ys,rfl,.inl (.inl (.inl Jd)),rfl,rfl⟩) λu s1 C=>?_;obtain⟨v,H1,I1,F,e1,e2⟩:=C;subst e1 e2;have I2:=Inv.asM I1 t (xs:=ys) Jd;rw[Jvn f]at I2;exact⟨_,H,I2,F,by rw[g.length];exact Out.now h rfl⟩
 |_=>exact(show False from h).elim
def JoO:nA X Mp (rC1 X .tuple):=by
 rintro Y s Z H xs B Q I u⟨x,d,e,r,h⟩;subst e;cases d with
 |tup J=>obtain⟨a,f,rfl,g,q⟩:=r;exact Jch Y s Z H _ B Q I u ⟨a,f,rfl,.inr ⟨g,Out.now h ⟨a,f,rfl,g,q⟩⟩⟩
 |lst J=>obtain⟨a,f,rfl,g,q⟩:=r;refine Jch Y s Z H _ B Q I u ⟨a,f,rfl,.inl ⟨g,λl hl=>?_⟩⟩;obtain⟨C,F⟩:=jF (K:=X.K) hl q;exact h _ _ C F
 |_=>exact(show False from h).elim
def xW:∀{J:Am}{bs:List Bool}{xs:Av},xB J=So bs->Reps K H J xs->xs=bs.map V.bl
 |[],_,_,h,r=>by
  simp only[xB]at h
  cases h
  cases r
  rfl
 |d::J,bs,_,h,⟨x,r,e,h1,h2⟩=>by
  subst e
  cases d with
  |bl b=>
   simp only[xB]at h
   cases q:xB J with
   |none=>rw[q]at h;cases h
   |some f=>
    rw[q]at h
    cases h
    have:=xW q h2
    subst this
    cases h1
    rfl
  |_=>simp[xB]at h
def Jlo:'为'.all Pp=bs.all id:=by
 induction bs with
 |nil=>rfl
 |cons b bs f=>rw[Zi,mS,pC,pJ];simp only[pC,<-f];rfl
def JmL:'为'.any Pp=bs.any id:=by
 induction bs with
 |nil=>rfl
 |cons b bs f=>rw[Zi,mS,qE,List.any_map];simp only[qE,<-f];rfl
theorem Jiz(r:BZ)(I:Bw){a:Addr}(h1:SqL X.K H a (bs.map V.bl)){Q:Au}{g:Bool}{tr:Nat->Bool}
  (hq:∀h' B,(∀b o,s.heap.get? b=So o->h'.get? b=So o)->Q QaN {s with heap:=h',toks:=B}):
  wpAny As aG Ia (λit f=>∃I fp wr n P St tr,it=.ref I/\Walks Xn X.w aG I fp wr n P St/\St 0 f.heap/\TruthOf Xn X.w aG P tr/\n=Qdr/\tr=(λi=>bs.getD i Fo)/\
   ∀h' B,(∀b o,b∉wr->f.heap.get? b=So o->h'.get? b=So o)->Q QaN {f with heap:=h',toks:=B}) X.xe s:=by
 obtain⟨its,rv,p,hz⟩:=I.list h1;have hh:X.A.in1.handled=No:=by show X.A.handled=No;exact I.ok.hd r
 refine pH Yj ?_;obtain⟨o,ho,_⟩:=Yj;have hlt:a<Aa:=Zh ho;refine⟨Aa,_,_,_,_,_,λi=>bs.getD i Fo,rfl,Walks.list hh Aa a (Zn hlt) AU,⟨CK,p.isList.push _⟩,?_,?_,rfl,λh' B k=>?_⟩
 ·intro i v Q' E' s' hv q;have C:its[i]? =So v:=by simpa using hv
  have F:=Qdo;have hi:i<BV:=(Zz.mp C).1;have hbi:(bs.map V.bl)[i]? =So (V.bl (bs.getD i Fo)):=by rw[jC,vJ,Zs (by rw[Zj]at F;lia)];rfl
  obtain⟨u,e1,e2⟩:=rv.get hbi;rw[C]at e1;cases e1;cases e2;exact yE q
 ·have F:=Qdo;rw[Zj]at F;rw[Zp];exact F.symm
 ·refine hq h' B λb o e=>k b o ?_ DS;intro hb;have:b=Aa:=by simpa using hb
  rw[this]at e;exact yO _ (Zh e)
def Jvu(f:BZ):nA X (.builtin "all") (rC1 X .all):=by
 rintro Y s Z H xs us Q I rv⟨x,d,e,r,h⟩;subst e;cases d with
 |lst J=>
  simp only[op1]at h;cases q:xB J with
  |none=>rw[q]at h;exact h.elim
  |some bs=>rw[q]at h;obtain⟨a,ys,rfl,h1,h2⟩:=r;have:=xW q h2;subst this;obtain⟨u,rfl,rx⟩:=uA rv;cases rx;refine call_all_walk (thn (Jiz (g:=bs.all id) (tr:=λ_=>To) f I h1 (Q:=EP X Y Z Q) λh' C k=>VC) λit s2 B=>?_);obtain⟨I',fp,wr,n,Pz,Sz,tr,e1,F,st,tt,e2,e3,hq⟩:=B;subst e2;subst e3;refine Wl;rw[Jlo];exact hq h' C k
 |_=>exact(show False from h).elim
def Jvm(f:BZ):nA X (.builtin "any") (rC1 X .any):=by
 rintro Y s Z H xs us Q I rv⟨x,d,e,r,h⟩;subst e;cases d with
 |lst J=>
  simp only[op1]at h;cases q:xB J with
  |none=>rw[q]at h;exact h.elim
  |some bs=>rw[q]at h;obtain⟨a,ys,rfl,h1,h2⟩:=r;have:=xW q h2;subst this;obtain⟨u,rfl,rx⟩:=uA rv;cases rx;refine call_any_walk (thn (Jiz (g:=bs.any id) (tr:=λ_=>To) f I h1 (Q:=EP X Y Z Q) λh' C k=>VC) λit s2 B=>?_);obtain⟨I',fp,wr,n,Pz,Sz,tr,e1,F,st,tt,e2,e3,hq⟩:=B;subst e2;subst e3;refine Wl;rw[JmL];exact hq h' C k
 |_=>exact(show False from h).elim
def tI.un1{Q:VK}{f:VK}(h:O9)(q:∀d v W,Same H W->Rep X.K W d v->(op1 o d).Good (Out X W Q) (XW X W)->f v W):tI X U pa Z H f:=by obtain⟨O,r,h⟩:=h;exact tI.then r h λd v W s g _ u=>q d v W s g u
def JrN{d:D}(r:DX):op1 .isN d=.ok (.bl (decide (v=.non)))/\op1 .notN d=.ok (.bl (!decide (v=.non))):=by
 cases d with
 |non=>cases r;rw[ZH rfl];exact Dr
 |_=>rw[Zx (by rintro rfl;first|(cases r;done)|(obtain⟨_,_,e,_⟩:=r;cases e;done)|(obtain⟨e,_⟩:=r;cases e;done)|(obtain⟨_,e,_⟩:=r;cases e;done)|(obtain⟨_,_,_,e,_⟩:=r;cases e))];exact Dr
def JuW{j p'}(q:AG):PT X (.Compare a [.Is] [.Constant .none j p'] pos) (tT X U (.un .isN pa)):=
 PT.weak (tU (Jum q)) λZ H Q h=>h.asTest.un1 λd v W s g f=>by rw[(JrN g).1]at f;exact Out.now f rfl
def JvN(q:AG):PE X (.UnaryOp .USub a pos) (tI X U (.un .neg pa)):=by
 refine PE.weak (pe_un Jty q) λZ H Q h=>h.un1 λd v W s g f=>?_;cases d with
 |int i=>exact⟨i,g,Out.now f rfl⟩
 |_=>exact(show False from f).elim
def tI.chain{o1 o2:O2}{Q:VK}(h:tI X U (.and (.bi o1 pa pb) (.bi o2 pb pc)) Z H Q):Jqa (rD2 X o1) (rD2 X o2) GV a7 (tI X U pc) Z H Q:=by
 obtain⟨O,r,h⟩:=h;simp only[evD,Rs.bind_assoc]at h;refine tI.then r h λdx x H1 s1 r1 B f=>?_;cases q:evD U pb O with
 |ok dy=>
  rw[q]at f;refine⟨O,B,?_⟩;rw[q];intro y F u r2;have I:=f.mono (λd(o:Out X H1 Q d)=>o.mono u) λc(x:XW X H1 c)=>x.mono u;simp only[Rs.bo]at I;refine⟨dx,dy,r1.mono u,r2,(Rs.gB.mp I).imp λdz C z H3 g r3=>?_⟩;cases dz with
  |bl k=>
   refine⟨k,r3,?_⟩;cases k with
   |true=>have h3:=C.mono (λd(o:Out X F Q d)=>o.mono g) λc(x:XW X F c)=>x.mono g;refine iteT (tI.then (B.mono (u.trans g)) h3 λdw w H4 s4 r4 q4 h4=>⟨dy,dw,r2.mono (g.trans s4),r4,h4⟩)
   |false=>exact iteF (C _ _ g rfl)
  |_=>exact C.elim
 |ex c=>exact⟨O,B,by rw[q]at f⊢;exact f⟩
 |sk=>rw[q]at f;exact f.elim
def JnM{u r:O2}{g f:aX}(ho:OpR X Qdx (rD2 X u))(q:OpR X (compareOp f) (rD2 X r))(F:AG)(C:Bp)(B:PE X c (tI X U pc))
  (I:lastMarks [g,f] [b,c]=Fo):PE X (.Compare a [g,f] [b,c] pos) (tI X U (.and (.bi u pa pb) (.bi r pb pc))):=PE.weak (JoK ho q F C B I) λZ H Q h=>h.chain
end
noncomputable def Jqh (t:Bool):String:=if t then "tuple_iterator" else "list_iterator"
def IsIt(t:Bool)(h:Heap)(it a:Addr)(i:Nat):Prop:=∃o,h.get? it=So o/\o.cls=.type (Jqh t)/\o.data=.fields #[.ref a,.int i 0]
def IsSq(t:Bool)(h:Heap)(a:Addr)(items:B7):Prop:=match t with
 |true=>h.IsTuple a items
 |false=>h.IsList a items
def IsIt.stay(x:Qd0)(k:∀o,h.get? it=So o->h'.get? it=So o):IsIt t h' it a i:=let⟨o,e,r⟩:=x;⟨o,k o e,r⟩
def IsSq.stay(x:IsSq t h a items)(k:∀o,h.get? a=So o->h'.get? a=So o):IsSq t h' a items:=by
 cases t
 ·exact let⟨o,e,r⟩:=(show h.IsList a items from x);(show h'.IsList a items from⟨o,k o e,r⟩)
 ·exact let⟨o,e,r⟩:=(show h.IsTuple a items from x);(show h'.IsTuple a items from⟨o,k o e,r⟩)
def IsIt.lt(x:Qd0):it<BL:=let⟨_,e,_⟩:=x;Zh e
def JbF{x:Al}{Q:Au}(hit:NQ)(C:Oo)(B:items[i]? =So x)
  (I:∀h',IsIt t h' it a Bq->Heap.SameBut it Re h'->Q x {s with heap:=h'}):wpAny Ar A UR Q E s:=by
 cases t with
 |false=>exact wpAny_nextOf_list_item (l:=a) (i:=i) hit C B I
 |true=>obtain⟨o,f,u,g⟩:=id hit;obtain⟨ol,r,_,U,q⟩:=(show s.heap.IsTuple a items from C);have ty:s.TypeIs B6 "tuple_iterator":=⟨o,f,u⟩;unfold Builtin.SmallTypes.nextOf;refine Za (ZK (name:=oS "__next__") ty iO (ZF iO ty bF ?_ U3));show wpAny _ _ (field B6 0>>=_) _ _ s;refine Za (ZV f g (x:=.ref a) rfl ?_);show wpAny _ _ (if(Value.ref a==Xq)=To then _ else _) _ _ s;rw[if_neg (show¬((Value.ref a==Value.none)=To)from ZM)];show wpAny _ _ (field B6 1>>=_) _ _ s;refine Za (ZV f g (x:=.int i 0) rfl ?_);show wpAny _ _ (seqItems? Ax>>=_) _ _ s;refine Za (qC r q ?_);simp only[LD,B];refine Za (rB f g Af (Zb ⟨x,rfl,Zb (I _ ?_ (qD ..))⟩));refine⟨_,ZY _ f (gT (gH g _)),(Obj.cls_mapFields ..).trans u,?_⟩;rw[gH g];simp[rawInt]
def Jev{Q:Au}(r:Bk)(hit:NQ)(C:Oo)(B:items[i]? =No)
  (hE:∀h' e,Heap.ExtBut it Re h'->(∃o,h'.get? e=So o/\o.cls=.type "StopIteration")->E IA {s with heap:=h'}):wpAny Ar A UR Q E s:=by
 cases t with
 |false=>exact wpAny_nextOf_list_end r (l:=a) (i:=i) hit C B hE
 |true=>
  obtain⟨o,f,I,q⟩:=id hit;obtain⟨ol,u,_,U,g⟩:=(show s.heap.IsTuple a items from C);have ty:s.TypeIs B6 "tuple_iterator":=⟨o,f,I⟩;unfold Builtin.SmallTypes.nextOf;refine Za (ZK (name:=oS "__next__") ty iO (ZF iO ty bF ?_ U3));show wpAny _ _ (field B6 0>>=_) _ _ s;refine Za (ZV f q (x:=.ref a) rfl ?_);show wpAny _ _ (if(Value.ref a==Xq)=To then _ else _) _ _ s;rw[if_neg (show¬((Value.ref a==Value.none)=To)from ZM)];show wpAny _ _ (field B6 1>>=_) _ _ s;refine Za (ZV f q (x:=.int i 0) rfl ?_);show wpAny _ _ (seqItems? Ax>>=_) _ _ s;refine Za (qC u g ?_);simp only[LD,B];refine Za (qB (Za (rB f q Af ?_)));show wpAny _ _ (newExc M8 []>>=_) _ _ _;refine Za ?_;simp only[newExc,newTuple];refine Za (ZE ?_ (by size_fits));refine Za (m:=firstArgMember _ _) (wpAny_of_eq (a:=Xq) (by first|rfl|(simp only[firstArgMember];rfl)) (ZE ?_ (by size_fits)));delta raiseNew;refine Za (wpAny_handled ?_);first|rw[show A.in1.handled=No from r]|rw[r]
  refine Za (Zb (wpAny_throw ?_));exact hE _ _ (((qD ..).extBut.push _).push _) FT
def Sq(K:Aj)(t:Bool)(H:Hp)(a:Addr)(xs:Av):Prop:=match t with
 |true=>SqT K H a xs
 |false=>SqL K H a xs
def Sq.same(e:B9)(h:Sq K t H a xs):Sq K t W a xs:=by
 cases t
 ·exact Same.seq e (show SqL K H a xs from h)
 ·exact SqT.same e (show SqT K H a xs from h)
section
variable{ys:Av}
def wI(I:Bw)(h:Qd1):∃its:List Value,Vals xs its/\IsSq t Re a AU/\xs.length<=sizeLine:=by
 cases t
 ·obtain⟨its,r,p,z⟩:=I.list h;exact⟨its,r,Yj,z⟩
 ·obtain⟨its,r,p,z⟩:=I.tuple h;exact Qd5
def JqC(I:Bw)(h:Qd1)(h':Sq X.K t H a ys):xs=ys:=by
 cases t
 ·exact I.list_inj h h'
 ·exact I.tuple_inj h h'
end
def zM{tk:Nat}{ch:A1}(I:Bw)(B:∀b∈ch,FpOk X Y H b)(k:∀b o,b∉ch->s.heap.get? b=So o->h'.get? b=So o):
  L2.Inv X Y Z H {s with heap:=h',toks:=tk}:=by
 refine I.step (g':=YR) (d':=Yo) (ch:=ch) (λb g=>?_) (λb o _ _ f e _=>k b o f e) (λb o _ _ f e _=>⟨QcD,k b o f e⟩) Oh (λb o f e=>⟨o,k b o f e⟩) (λ_ _ e=>e) (λ_ _ _ e=>e) (λb ps e=>⟨#[],by rw[e];simp⟩) (λm hm=>?_) (λb u e=>?_) XA
 ·obtain⟨_,F,_,f3,f4,f5⟩:=B b g;exact⟨f3,F,f4,f5⟩
 ·obtain⟨o,es,ep,U,r⟩:=hm;exact⟨o,es,ep,k _ o (λg=>(B _ g).2.1 rfl) U,r⟩
 ·refine(I.hok b u e).stay (λc v f q=>k c v ?_ q) Kg λ_ _ q=>q;intro g;have C:=(B c g).1;rcases f with z|z
  ·rw[<-z,C]at e;cases e
  ·rw[C]at z;cases z
def JdF{tk:Nat}{ch:A1}{o:HO}(I:Bw)(F:∀b∈ch,FpOk X Y H b)(k:∀b o,b∉ch->s.heap.get? b=So o->h'.get? b=So o)
  (hp:Aa<=a) (new:Uh):L2.Inv X Y Z EA {s with heap:=h',toks:=tk}:=by
 have hn:H a=No:=I.hok.fresh hp;have f:∀b u,H b=So u->b≠a:=λb u e z=>by rw[z,hn]at e;cases e
 have ne2:∀b ob,s.heap.get? b=So ob->b≠a:=λb ob e=>Zn (Zt (Zh e) hp);refine I.step (g':=YR) (d':=Yo) (ch:=ch) (λb B=>?_) (λb o _ _ g e _=>k b o g e) (λb o _ _ g e _=>⟨QcD,k b o g e⟩) (λb ob _ e n=>by rw[Jb (ne2 b ob e)];exact n) (λb o g e=>⟨o,k b o g e⟩)
  (λb xs e=>by rw[Jb (f b _ e)];exact e) (λb ob u e=>by rw[Jb (f b _ e)];exact e) (λb ps e=>⟨#[],by rw[Jb (f b _ e),e];simp⟩) (λm hm=>?_) (λb u e=>?_) XA
 ·obtain⟨_,f1,_,f3,f4,f5⟩:=F b B;exact⟨f3,f1,f4,f5⟩
 ·obtain⟨o,es,ep,ho,r⟩:=hm;exact⟨o,es,ep,k _ o (λB=>(F _ B).2.1 rfl) ho,r⟩
 ·by_cases B:b=a
  ·subst B;rw[Jd]at e;cases e;exact new
  ·rw[Jb B]at e;refine(I.hok b u e).stay (λc v g q=>k c v ?_ q) (λc q=>?_) (λc xs q=>?_) λc o' u' q=>by rw[Jb (f c _ q)];exact q
   ·intro U;have C:=(F c U).1;rcases g with z|z
    ·rw[<-z,C]at e;cases e
    ·rw[C]at z;cases z
   ·rw[Jb (f c _ q)];exact q
   ·rw[Jb (f c _ q)];exact q
structure Apart(z TI TO i1 i2:Addr):Prop where
 all:[z,TI,TO,i1,i2].Nodup
def Apart.ne{z TI TO f g:Addr}(D:Apart z TI TO f g):TI≠z/\TO≠z/\f≠z/\g≠z/\TI≠TO/\TI≠f/\TI≠g/\TO≠f/\TO≠g/\f≠g:=by have h:=D.all;simp only[iB,Zg,ZC,fA,not_or]at h;obtain⟨⟨I,a2,C,u⟩,⟨r,U,q⟩,⟨B,F⟩,d1,_⟩:=h;exact⟨Ne.symm I,Ne.symm a2,Ne.symm C,Ne.symm u,r,U,q,B,F,d1⟩
section
variable{z TI TO i1 i2 l1 l2:Addr}{xs ys:B7}{x y a b:Al}
def JrE{Q:Au}(D:RH)(hz:Qt)(hTI:Vd)(hTO:NO)(h1:OS)(h2:OR)
  (hl1:NN) (hl2:NK) (n1:l1∉[z,TO,i1,i2]) (n2:l2∉[z,TO,i1,i2]) (hx:xs[k]? =So x) (hy:ys[k]? =So y)
  (hQ:∀h',IsZip h' z TI TO (rawInt Aa)->IsPair h' TO x y->IsIt t1 h' i1 l1 A4->IsIt t2 h' i2 l2 A4->IsPair h' Aa x y->(∀c o,c∉[z,TO,i1,i2]->s.heap.get? c=So o->h'.get? c=So o)->Q E5 {s with heap:=h'}):
  wpAny Ar A (Builtin.«zip.__next__» Qcb) (λfin s'=>∃v,fin=.done (.ret v)/\Q v s') E s:=by
 obtain⟨d1,d2,d3,d4,d5,d6,d7,d8,d9,d10⟩:=D.ne;simp only[Zg,ZC,fA,not_or]at n1 n2;obtain⟨m1,m2,m3,m4⟩:=n1;obtain⟨o1,o2,o3,o4⟩:=n2;show wpAny _ _ (field Fb 2>>=_) _ _ _;refine Za (ZV hz rfl (x:=.bool Fo) rfl ?_);show wpAny _ _ (field Fb 3>>=_) _ _ _;refine Za (ZV hz rfl (x:=.ref TI) rfl (Za (qC hTI rfl ?_)));show wpAny _ _ (Builtin.SmallTypes.ownedTupleIsFree (.ref z)>>=_) _ _ _;refine Za ?_;unfold Builtin.SmallTypes.ownedTupleIsFree;refine Za (ZV hz rfl (x:=.none) rfl (Zb ?_));simp only[if_true];refine Za (qB (Za (ZV hz rfl (x:=.ref TO) rfl (Za (vB hz Af λg1 hz1 I=>?_)))));replace hz1:IsZip g1 z TI TO .ellipsis:=hz1;refine Za ?_;simp only[List.zipIdx_cons,List.zipIdx_nil,List.forIn_cons,List.forIn_nil];refine Za (Za (wpAny_onRaise ?_));show wpAny _ _ (Builtin.SmallTypes.nextOf (.ref i1)>>=_) _ _ _;refine Za (JbF (h1.stay λo e=>I.extBut _ _ d3 e) (hl1.stay λo e=>I.extBut _ _ m1 e) hx λg2 k1 s2=>Zb ?_);have C:IsPair g2 TO a b:=s2.extBut _ _ d8 (I.extBut _ _ d2 hTO);refine Za (qC C rfl (Za (zS C λg3 u s3=>?_)));replace u:IsPair g3 TO x b:=u;refine Za (wpAny_letGo (Zb ?_));refine Za (Za (wpAny_onRaise ?_));show wpAny _ _ (Builtin.SmallTypes.nextOf (.ref i2)>>=_) _ _ _;refine Za (JbF (h2.stay λo e=>s3.extBut _ _ HZ (s2.extBut _ _ QdB (I.extBut _ _ d4 e))) (hl2.stay λo e=>s3.extBut _ _ o2 (s2.extBut _ _ o3 (I.extBut _ _ o1 e))) hy λg4 k2 s4=>Zb ?_);have F:IsPair g4 TO x b:=s4.extBut _ _ d9 u;refine Za (qC F rfl (Za (zS F λf g s5=>?_)));replace g:IsPair f TO x y:=g;refine Za (wpAny_letGo (Zb (Zb (Za (qC g rfl (Za (wpAny_newTuple ?_)))))));have hsz:f.objs.size=Aa:=by rw[s5.1,s4.1,s3.1,s2.1,I.1]
 have hz5:IsZip f z TI TO .ellipsis:=s5.extBut _ _ HY (s4.extBut _ _ (Ne.symm d4) (s3.extBut _ _ HY (s2.extBut _ _ HW hz1)));have kp:∀c o,c∉[z,TO,i1,i2]->s.heap.get? c=So o->f.get? c=So o:=λc o r e=>by simp only[Zg,ZC,fA,not_or]at r;exact s5.extBut _ _ r.2.1 (s4.extBut _ _ r.2.2.2 (s3.extBut _ _ r.2.1 (s2.extBut _ _ r.2.2.1 (I.extBut _ _ r.1 e))))
 have e1:IsIt t1 f i1 l1 A4:=k1.stay λo e=>s5.extBut _ _ (Ne.symm d8) (s4.extBut _ _ d10 (s3.extBut _ _ (Ne.symm d8) e));have e2:IsIt t2 f i2 l2 A4:=k2.stay λo e=>s5.extBut _ _ HZ e;have zl:z<f.objs.size:=Zh hz5;show wpAny _ _ (Builtin.SmallTypes.ownedTupleHandOut Fb (.ref c8)>>=_) _ _ _;refine Za ?_;unfold Builtin.SmallTypes.ownedTupleHandOut;have hz6:IsZip (f.push {cls:=.type "tuple",data:=.seq #[x,y]}) z TI TO .ellipsis:=Zc _ hz5;refine Za (vB hz6 Af λg7 U s7=>?_);replace U:IsZip g7 z TI TO OX:=U;refine vB U Af λg8 B s8=>?_;replace B:IsZip g8 z TI TO OX:=B;have up:∀c o,c≠z->f.get? c=So o->g8.get? c=So o:=λc o r e=>s8.extBut _ _ r (s7.extBut _ _ r DS);have hT8:IsPair g8 c8 x y:=s8.extBut _ _ (nC zl) (s7.extBut _ _ (nC zl) G0);rw[hsz]at B hT8;refine Zb Ib;show Q (.ref c8) _;rw[hsz];exact hQ g8 B (up _ _ d2 g) (e1.stay λo e=>up _ o d3 e) (e2.stay λo e=>up _ o d4 e) hT8 λc o r e=>up c o (λq=>r (by simp[q])) (kp c o r e)
def Jvb{Q:Fin->Shared->Prop}(hh:Bk)(D:RH)(hz:Qt)(hTI:Vd)(hTO:NO)(h1:OS)(h2:OR)
  (hl1:NN) (hl2:NK) (n1:l1∉[z,TO,i1,i2]) (n2:l2∉[z,TO,i1,i2]) (hend:xs[k]? =No\/ys[k]? =No)
  (hE:∀h' e,(∀c o,c∉[z,TO,i1,i2]->s.heap.get? c=So o->h'.get? c=So o)->(∃o,h'.get? e=So o/\o.cls=.type "StopIteration")->E IA {s with heap:=h'}):
  wpAny Ar A (Builtin.«zip.__next__» Qcb) Q E s:=by
 obtain⟨d1,d2,d3,d4,d5,d6,d7,d8,d9,d10⟩:=D.ne;simp only[Zg,ZC,fA,not_or]at n1 n2;obtain⟨m1,m2,m3,m4⟩:=n1;obtain⟨o1,o2,o3,o4⟩:=n2;show wpAny _ _ (field Fb 2>>=_) _ _ _;refine Za (ZV hz rfl (x:=.bool Fo) rfl ?_);show wpAny _ _ (field Fb 3>>=_) _ _ _;refine Za (ZV hz rfl (x:=.ref TI) rfl (Za (qC hTI rfl ?_)));show wpAny _ _ (Builtin.SmallTypes.ownedTupleIsFree (.ref z)>>=_) _ _ _;refine Za ?_;unfold Builtin.SmallTypes.ownedTupleIsFree;refine Za (ZV hz rfl (x:=.none) rfl (Zb ?_));simp only[if_true];refine Za (qB (Za (ZV hz rfl (x:=.ref TO) rfl (Za (vB hz Af λg1 C B=>?_)))));replace C:IsZip g1 z TI TO .ellipsis:=C;refine Za ?_;simp only[List.zipIdx_cons,List.zipIdx_nil,List.forIn_cons,List.forIn_nil];refine Za (Za (wpAny_onRaise ?_));show wpAny _ _ (Builtin.SmallTypes.nextOf (.ref i1)>>=_) _ _ _;have f:∀c,c∉[z,TO,i1,i2]->c≠z/\c≠TO/\c≠i1/\c≠i2:=λc r=>by simpa[not_or]using r
 cases hx:xs[k]? with
 |none=>
  refine Za (Jev hh Vt VA hx λg2 e F he=>?_);obtain⟨oe,g,u⟩:=he;have hz2:IsZip g2 z TI TO .ellipsis:=F _ _ HW C;have U:e≠z:=λq=>by subst q;rw[hz2]at g;cases g;simp at u
  exact vB hz2 Af λg3 _ s3=>hE g3 e (λc o r q=>s3.extBut _ _ (f c r).1 (F _ _ (f c r).2.2.1 (B.extBut _ _ (f c r).1 q))) ⟨oe,s3.extBut _ _ U g,u⟩
 |some x=>
  have hy:ys[k]? =No:=by rcases hend with q|q;(·rw[hx]at q;cases q);exact q
  refine Za (JbF Vt VA hx λg2 k1 F=>Zb ?_);have I:IsPair g2 TO a b:=F.extBut _ _ d8 (B.extBut _ _ d2 hTO);refine Za (qC I rfl (Za (zS I λg3 hTO3 s3=>Za (wpAny_letGo (Zb ?_)))));refine Za (Za (wpAny_onRaise ?_));show wpAny _ _ (Builtin.SmallTypes.nextOf (.ref i2)>>=_) _ _ _;refine Za (Jev hh (h2.stay λo e=>s3.extBut _ _ HZ (F.extBut _ _ QdB (B.extBut _ _ d4 e))) (hl2.stay λo e=>s3.extBut _ _ o2 (F.extBut _ _ o3 (B.extBut _ _ o1 e))) hy λg4 e s4 he=>?_);obtain⟨oe,g,u⟩:=he;have hz4:IsZip g4 z TI TO .ellipsis:=s4 _ _ (Ne.symm d4) (s3.extBut _ _ HY (F.extBut _ _ HW C));have U:e≠z:=λq=>by subst q;rw[hz4]at g;cases g;simp at u
  exact vB hz4 Af λg5 _ s5=>hE g5 e (λc o r q=>s5.extBut _ _ (f c r).1 (s4 _ _ (f c r).2.2.2 (s3.extBut _ _ (f c r).2.1 (F.extBut _ _ (f c r).2.2.1 (B.extBut _ _ (f c r).1 q))))) ⟨oe,s5.extBut _ _ U g,u⟩
end
def Jjk{b:Addr}{f:Av}(I:Bw)(h:Sq X.K t H l f)(r:FpOk X Y H b):l≠b:=by
 rintro rfl;have mod:∀o,X.K.lookup l=So o->False:=λo e=>by
  have g:=I.mod.kin l o e;rcases r.2.2.2.1 with q|q
  ·exact I.ok.noex l o g q
  ·exact absurd (Zt (Zh (I.ok.bs l o g).1) q) Cq
 have B:∀u,Rd H l u->False:=λu q=>by rcases q with q|⟨o,q⟩<;>(rw[r.1]at q;cases q)
 cases t
 ·rcases(show SqL X.K H l f from h)with q|⟨o,_,_,q,_⟩
  ·exact B _ q
  ·exact mod o q
 ·rcases(show SqT X.K H l f from h)with q|⟨_,o,_,_,_,q,_⟩
  ·exact B _ (.inl q)
  ·exact mod o q
def Itz (K:Aj) (t1 t2:Bool) (g q:Addr):It:=
 ⟨λi H=>∃xs f x y,Sq K t1 H g xs/\Sq K t2 H q f/\xs[i]? =So x/\f[i]? =So y,
  λi H x W=>∃T u v,H T=No/\x=.ref T/\W=upd H T (.tup [u,v])/\(∀xs,Sq K t1 H g xs->xs[i]? =So u)/\∀f,Sq K t2 H q f->f[i]? =So v,
  λi H=>∃xs f,Sq K t1 H g xs/\Sq K t2 H q f/\(xs[i]? =No\/f[i]? =No)⟩
def JuA(z TI TO f g r q:Addr)(t1 t2:Bool)(i:Nat)(h:Heap):Prop:=IsZip h z TI TO .none/\IsPair h TI (.ref f) (.ref g)/\(∃a b,IsPair h TO a b)/\IsIt t1 h f r i/\IsIt t2 h g q i
def JoG{tpos:Pos}(t1 t2:Bool)(l1 l2 z TI TO i1 i2:Addr)(D:RH):
  Turn P w K (.Tuple elts k tpos) (Itz K t1 t2 l1 l2) [z,TI,TO,i1,i2] z (JuA z TI TO i1 i2 l1 l2 t1 t2)where
 mem:=by simp
 obj:=λi h st b g=>by
  obtain⟨h1,U,⟨a,c,h3⟩,⟨o4,h4,_,h4'⟩,⟨o5,h5,_,h5'⟩⟩:=st
  simp only[Zg,ZC,fA]at g
  rcases g with rfl|rfl|rfl|rfl|rfl
  ·exact⟨_,h1,λv q=>by cases q⟩
  ·exact⟨_,U,λv q=>by cases q⟩
  ·exact⟨_,h3,λv q=>by cases q⟩
  ·exact⟨_,h4,λv q=>by rw[h4']at q;cases q⟩
  ·exact⟨_,h5,λv q=>by rw[h5']at q;cases q⟩
 keep:=λi h h' st q=>let⟨h1,U,⟨a,c,h3⟩,h4,h5⟩:=st;⟨q z Af _ h1,q TI Af _ U,⟨a,c,q TO Af _ h3⟩,h4.stay λo e=>q i1 Af o e,h5.stay λo e=>q i2 Af o e⟩
 item:=by
  intro X hP hw hK r i Y s Z H E I hf st hg;subst hP hw hK;obtain⟨xs,ys,x,y,q1,q2,hx,hy⟩:=hg;obtain⟨its,rv,p1,_⟩:=wI I q1;obtain⟨its2,rv2,p2,_⟩:=wI I q2;obtain⟨u,hu,ru⟩:=rv.get hx;obtain⟨v,hv,rw2⟩:=rv2.get hy;obtain⟨hz,B,⟨a,b,C⟩,j1,j2⟩:=st;have f:∀{t:Bool}{l:Addr}{zs:Av},Sq X.K t H l zs->l∉[z,TO,i1,i2]:=fun{t l zs}q g=>
   Jjk I q (hf l (by simp only[Zg,ZC,fA]at g⊢;rcases g with e|e|e|e<;>simp[e])) rfl
  have hT:s.TypeIs Fb "zip":=⟨_,hz,rfl⟩;unfold pyNext;refine Za (wB (ZK (name:=oS "__next__") hT wN (ZF wN hT QcR
   (JrE D hz B C j1 j2 p1 p2 (f q1) (f q2) (x:=u) (y:=v) (by simpa using hu) (by simpa using hv) λh' a1 a2 a3 a4 a5 a6=>Zb ?_) Po)))
  refine⟨_,rfl,wpAny_letOwnedTupleGo_zip a1 λU b1 b2=>?_⟩;obtain⟨d1,d2,d3,d4,_⟩:=D.ne;have zl:z<Aa:=Zh hz;have kp:∀c o,c∉[z,TI,TO,i1,i2]->s.heap.get? c=So o->U.get? c=So o:=λc o r e=>by simp only[Zg,ZC,fA,not_or]at r;exact(b2.2 c r.1).trans (a6 c o (by simp[r]) e)
  have hT2:IsPair U Aa u v:=(b2.2 _ (nC zl)).trans a5;have I2:L2.Inv X Y Z (upd H Aa (.tup [x,y])) {s with heap:=U,toks:=Xl}:=
   JdF I hf kp (Zf _) ⟨⟨by rw[ZJ];show 2<=_;decide,λo q=>by rw[show U.get? 'Ɓ'=So _ from hT2]at q;cases q;rfl⟩,[u,v],.cons ru (.cons rw2 .nil),_,hT2,rfl,_,rfl⟩
  have hTI2:IsPair U TI (.ref i1) (.ref i2):=(b2.2 _ d1).trans (a6 TI _ (by obtain⟨_,_,_,_,d5,d6,d7,_⟩:=D.ne;simp[d1,d5,d6,d7]) B);refine⟨.ref Aa,_,I2,rfl,⟨Aa,x,y,I.hok.fresh (Zf _),rfl,rfl,λzs q=>by rw[JqC I q q1];exact hx,λzs q=>by rw[JqC I q q2];exact hy⟩,
   ⟨b1,hTI2,⟨u,v,(b2.2 _ d2).trans a2⟩,a3.stay λo e=>(b2.2 _ d3).trans e,a4.stay λo e=>(b2.2 _ d4).trans e⟩,λb g=>?_⟩
  have hbl:b<Aa:=by
   simp only[Zg,ZC,fA]at g;rcases g with rfl|rfl|rfl|rfl|rfl
   ·exact zl
   ·exact Zh B
   ·exact Zh C
   ·exact j1.lt
   ·exact j2.lt
  rw[Jb (Zn hbl)];exact(hf b g).1
 done:=by
  intro X hP hw hK r i Y s Z H E I hf st hg;subst hP hw hK;obtain⟨xs,ys,q1,q2,hx⟩:=hg;obtain⟨its,rv,p1,_⟩:=wI I q1;obtain⟨its2,rv2,p2,_⟩:=wI I q2;obtain⟨hz,B,⟨a,b,C⟩,j1,j2⟩:=st;have f:∀{t:Bool}{l:Addr}{zs:Av},Sq X.K t H l zs->l∉[z,TO,i1,i2]:=fun{t l zs}q g=>
   Jjk I q (hf l (by simp only[Zg,ZC,fA]at g⊢;rcases g with e|e|e|e<;>simp[e])) rfl
  have hT:s.TypeIs Fb "zip":=⟨_,hz,rfl⟩;unfold pyNext;refine Za (wB (ZK (name:=oS "__next__") hT wN (ZF wN hT QcR
   (Jvb (show X.A.in1.handled=No from I.ok.hd r) D hz B C j1 j2 p1 p2 (f q1) (f q2) ?_ λh' e hk he=>?_) Po)))
  ·rcases hx with q|q
   ·exact .inl (by simpa using rv.none_of q)
   ·exact .inr (by simpa using rv2.none_of q)
  ·obtain⟨o,ho,hoc⟩:=he;refine Za (xF (T:="StopIteration") (b:=To) ⟨o,ho,hoc⟩ nJ (Zb ⟨rfl,zM (tk:=Xl) I hf λc o r e=>hk c o ?_ e⟩));simp only[Zg,ZC,fA,not_or]at r⊢;exact⟨r.1,r.2.2.1,r.2.2.2⟩
 self:=λA i s Q E st h=>wpAny_pyIter_zip st.1 h
noncomputable abbrev pT (t:Bool) (l:Addr):Obj:={cls:=.type (Jqh t),data:=.fields #[.ref l,.int 0 0]}
def JgS{xs:B7}{Q:Au}(h:IsSq t Re l xs)(f:Q E5 {s with heap:=s.heap.push (pT t l)}):wpAny Ar A (pyIter BC) Q E s:=by
 cases t
 ·exact pH (show s.heap.IsList l xs from h) f
 ·exact oN (show s.heap.IsTuple l xs from h) f
def IsSq.push{xs:B7}(x:IsSq t h a xs)(o:Obj):IsSq t (h.push o) a xs:=x.stay λ_ e=>Zc _ e
noncomputable abbrev zh1 (h:Heap) (t:Bool) (l:Addr):Heap:=h.push (pT t l)
noncomputable abbrev zh3 (h:Heap) (t1 t2:Bool) (f g:Addr):Heap:='丟'.push {cls:=.type "tuple",data:=.seq #[.ref BL,.ref (zh1 h t1 f).objs.size]}
noncomputable abbrev zh4 (h:Heap) (t1 t2:Bool) (f g:Addr):Heap:=(zh3 h t1 t2 f g).push {cls:=.type "tuple",data:=.seq #[.none,.none]}
noncomputable abbrev zipOb (a b:Addr):Obj:={cls:=.type "zip",data:=.fields #[.none,.bool Fo,.bool Fo,.ref a,.ref b]}
noncomputable abbrev zh5 (h:Heap) (t1 t2:Bool) (f g:Addr):Heap:=(zh4 h t1 t2 f g).push (zipOb '丟'.objs.size (zh3 h t1 t2 f g).objs.size)
def Jrc(f q:Addr)(xs ys:B7)(t1 t2:Bool):
  Meets (Builtin.«zip.__new__» ⟨[.type "zip",.ref f,.ref q],[]⟩) (λ_ R s=>IsSq t1 Re f xs/\IsSq t2 Re q ys/\R (.ok (.ret (.ref 'Λ'.objs.size))) {s with heap:=zh5 Re t1 t2 f q}):=
 .of_wp λprog w A R s h=>by
  obtain⟨hp,g,d,U,I⟩:=s;obtain⟨B,C,h⟩:=h
  have F:=sub_zip
  have u:IsSq t1 (Shared.heap ⟨hp,g,d,U,I⟩) f xs:=B
  have r:IsSq t2 (Shared.heap ⟨hp.push (pT t1 f),g,d,U,I⟩) q ys:=C.push _
  wp_walk using JgS u,JgS r
  exact HG
open AutoSeq1 (wpAny_loadPart')
def Jmn{f q:Addr}{xs ys:B7}{Q:Au}(B:IsSq t1 Re f xs)(C:IsSq t2 Re q ys)
  (h:∀h',JuA (Aa+4) (Aa+2) (Aa+3) Aa DF f q t1 t2 0 h'->(∀c o,s.heap.get? c=So o->h'.get? c=So o)->Q (.ref (Aa+4)) {s with heap:=h'}):
  wpAny Ar A (PySem.call (.type "zip") [.ref f,.ref q]) Q E s:=by
 refine callType_new F.called_zip A9 (F.typeCall_zip_2 _ _) (F.newCall_zip_2 _ _) (λobj=>F.args_object_init_3 obj _ _) F.entry_zip_new (Jrc f q xs ys t1 t2) ⟨B,C,?_⟩;have I:'ɫ'.objs.size=Aa+1:=ZO ..;have r:(zh1 'ɫ' t2 q).objs.size=Aa+2:=by rw[ZO,I]
 have U:'主'.objs.size=Aa+3:=by rw[ZO,r]
 have z4:'Λ'.objs.size=Aa+4:=by rw[ZO,U]
 have p1:∀(g:Heap)(o o':Obj)(b:Addr),g.get? b=So o->(g.push o').get? b=So o:=λg o o' b e=>Zc _ e;have u:'ƽ'.get? 'Λ'.objs.size=So _:=Ze _ rfl;have g4:'ƽ'.get? '主'.objs.size=So _:=p1 _ _ _ _ G0;have g3:'ƽ'.get? (zh1 'ɫ' t2 q).objs.size=So _:=p1 _ _ _ _ RD;have g2:'ƽ'.get? 'ɫ'.objs.size=So _:=p1 _ _ _ _ QbK;have g1:'ƽ'.get? Aa=So _:=p1 _ _ _ _ (p1 _ _ _ _ QbK);show _/\_;rw[r,U,z4]at u;rw[I,r]at g3;rw[U]at g4;rw[I]at g2;rw[z4];exact⟨⟨_,u,rfl⟩,h _ ⟨u,g3,⟨_,_,g4⟩,⟨_,g1,rfl,rfl⟩,⟨_,g2,rfl,rfl⟩⟩ λc o x=>p1 _ _ _ _ (p1 _ _ _ _ (p1 _ _ _ _ (p1 _ _ _ _ (p1 _ _ _ _ x))))⟩
def JqK{d:D}(r:DX)(h:d=.tup J\/d=.lst J):∃t a xs,v=.ref a/\Sq K t H a xs/\Reps K H J xs:=by
 rcases h with rfl|rfl
 ·obtain⟨a,xs,e,f,g⟩:=r;exact⟨To,a,xs,e,f,g⟩
 ·obtain⟨a,xs,e,f,g⟩:=r;exact⟨Fo,a,xs,e,f,g⟩
def Jin:∀(as bs:Am)(i:Nat)(a b:D),as[i]? =So a->bs[i]? =So b->(zipD as bs)[i]? =So (.tup [a,b])
 |a::as,b::bs,0,_,_,h,h'=>by simp at h h';simp[zipD,h,h']
 |a::as,b::bs,i+1,_,_,h,h'=>by simpa[zipD]using Jin as bs i _ _ (by simpa using h) (by simpa using h')
 |[],_,_,_,_,h,_=>by simp at h
 |_::_,[],_,_,_,_,h'=>by simp at h'
def tY:∀(as bs:Am),(zipD as bs).length=min as.length Qdr
 |[],_=>by simp[zipD]
 |_::_,[]=>by simp[zipD]
 |a::as,b::bs=>by simp[zipD,tY as bs]
theorem JoS(I:Bw){b:Addr}{ys:Av}{es:Am}(h1:Sq X.K t1 H a xs)(B:FF)(h3:Sq X.K t2 H b ys)(q:Reps X.K H es ys):Walk X.K (Itz X.K t1 t2 a b) H (zipD J es):=by
 intro W sm;have l:=B.length;have l':=q.length;have g:=Sq.same sm h1;have f:=Sq.same sm h3;refine⟨λi r=>?_,⟨xs,ys,g,f,?_⟩,λi x H'' r⟨T,u,v,hT,e1,C,hu,hv⟩=>?_⟩
 ·rw[tY]at r;exact⟨xs,ys,xs[i]'(by lia),ys[i]'(by lia),g,f,Zs Ad,Zs Ad⟩
 ·rw[tY];by_cases hh:Ac<=es.length
  ·exact .inl (vO Ad)
  ·exact .inr (vO Ad)
 ·subst e1;subst C;obtain⟨d,hd,rd⟩:=(B.mono sm).get' (hu xs g);obtain⟨e,he,re⟩:=(q.mono sm).get' (hv ys f);obtain⟨F,U⟩:=jF (K:=X.K) (J:=[d,e]) (xs:=[u,v]) hT ⟨_,_,rfl,rd,_,_,rfl,re,rfl⟩;exact⟨F,_,Jin _ _ _ _ _ hd he,U⟩
theorem Jjg(h1:bI)(g:FE)(inj:∀W C,Same H W->SqT K W a C->True):Walk K QaM H J:=by intro W sm;have l:=XQ;have f:=SqT.same sm h1;refine⟨λi F=>⟨xs,xs[i]'(by lia),f,Zs Ad⟩,⟨xs,f,by lia⟩,λi x u F⟨e,q⟩=>?_⟩;subst e;obtain⟨d,B,r⟩:=(g.mono sm).get' (q xs f);exact O6
theorem Jir(h1:bH)(g:FE):Walk K QaL H J:=by intro W sm;have l:=XQ;have f:=Same.seq sm h1;refine⟨λi C=>⟨xs,xs[i]'(by lia),f,Zs Ad⟩,⟨xs,f,by lia⟩,λi x u C⟨e,q⟩=>?_⟩;subst e;obtain⟨d,B,r⟩:=(g.mono sm).get' (q xs f);exact O6
def JjH{lo:Int}:Walk K bX H (upTo lo n):=by
 intro W sm;have l:(upTo lo n).length=n:=by simp[Pu.upTo]
 refine⟨λi f=>by rw[l]at f;exact f,by show n<=_;rw[l];exact Zf _,λi x q f⟨e,g⟩=>?_⟩;subst e;refine⟨Same.refl _,.int (lo+i),?_,g⟩;rw[l]at f;simp[Pu.upTo,List.getElem?_range f]
noncomputable def Its (x:Str):It:=⟨λi _=>i<Qbw,λi H v W=>W=H/\∃c,x.cps[i]? =So c/\v=.str ⟨#[c]⟩,λi _=>i=Qbw⟩
def JoA:Walk K (Its x) H (jK x):=by
 intro W sm;have l:(jK x).length=x.cps.size:=by simp[jK]
 refine⟨λi f=>by rw[l]at f;exact f,l,λi v r f⟨e,c,q,g⟩=>?_⟩;subst e;refine⟨Same.refl _,.str ⟨#[c]⟩,?_,g⟩;unfold jK;rw[jC,sJ,q];rfl
def Jjb(f:Bk)(I:Addr)(x:Str)(t:Tok):Walks P w A I [I] [I] Qbw (SignAt x) (λi h=>h.IsStrIter I QbL x t i):=by
 cases g:x.cps.all (·<128)
 ·rw[show strIterType x="str_iterator" by simp[strIterType,g]];exact Walks.strWide f I x t
 ·rw[show strIterType x="str_ascii_iterator" by simp[strIterType,g]];exact Walks.strAscii f I x t
def Jpz(x:Str)(t:Tok)(I:Addr):Turn P w K HV (Its x) [I] I (λi h=>h.IsStrIter I QbL x t i)where
 mem:=by simp
 obj:=λi h st b f=>by
  have e:b=I:=by simpa using f
  subst e
  obtain⟨o,h1,_,h3⟩:=st
  exact⟨o,h1,λv q=>by rw[h3]at q;cases q⟩
 keep:=λi h h' st k=>let⟨o,h1,h2⟩:=st;⟨o,k I Af o h1,h2⟩
 item:=by
  intro X hP U C B i Y s Z H E g r st hg;subst hP U C;refine(Jjb (g.ok.hd B) I x t).item i s _ _ hg st λv h' tk hv st' kk=>?_;obtain⟨c,u,F,rfl⟩:=hv;have I1:L2.Inv X Y Z H {s with heap:=h',toks:=tk}:=zM g r λb o f e=>kk b o f e;exact⟨_,rfl,Zb ⟨.str ⟨#[c]⟩,H,I1,⟨u,rfl⟩,⟨rfl,c,F,rfl⟩,st',λb f=>(r b f).1⟩⟩
 done:=by
  intro X hP U C B i Y s Z H E g r st hg;subst hP U C;have e:i=x.cps.size:=hg;subst e;exact(Jjb (g.ok.hd B) I x t).done s _ _ st λh' tk kk=>⟨rfl,zM g r λb o f e=>kk b o f e⟩
 self:=λA i s Q E st h=>by
  cases ha:x.cps.all (·<128)
  ·rw[show strIterType x="str_iterator" by simp[strIterType,ha]]at st;exact wpAny_pyIter_striter_wide st h
  ·rw[show strIterType x="str_ascii_iterator" by simp[strIterType,ha]]at st;exact wpAny_pyIter_striter_ascii st h
def Jqe:ItOk QaL:=λL i H x W _⟨e,h⟩=>⟨by rw[e],λxs q=>h xs (hid_same.seq q)⟩
def JpR:ItOk QaM:=λL i H x W _⟨e,h⟩=>⟨by rw[e],λxs q=>h xs (SqT.same hid_same q)⟩
def Jpb{lo:Int}:ItOk bX:=λL i H x W _⟨e,h⟩=>⟨by rw[e],h⟩
def JuZ:ItOk (Its x):=λL i H v W _⟨e,h⟩=>⟨by rw[e],h⟩
def Jdt{T:Addr}(g:QcA)(h:H T=No):T∉L:=λf=>by
 obtain⟨o,e,_⟩:=g T f
 rw[h]at e;cases e
def JuN{b:Addr}:ItOk (Itz K t1 t2 a b):=λL i H x W I⟨T,u,v,f,F,B,C,r⟩=>by
 have g:=Jdt I f
 exact⟨T,u,v,by rw[Jt g];exact f,F,by rw[B,Jsf g],λxs q=>C xs OW,λxs q=>r xs OW⟩
section
variable{U:Ae}{a l:Expr}
def JuE(hl:PE X l E1):PI X HV l (tW X U (.walk p)):=by
 rintro Y s Z H R I⟨O,r,h⟩;refine thn (hl Y s Z H (λv W=>∃d J,Rep X.K W d v/\d.walk=.ok J/\Same H W/\∀J9 H2,Same H H2->Walk X.K J9 H2 J->ItOk J9->R J9 H2) I ⟨O,r,'Ĝ'.imp λd C v W s1 rv=>?_⟩) λv s1⟨x,H1,I1,F,d,J,rd,B,s2,g⟩=>?_
 ·cases q:d.walk with
  |ok J=>rw[q]at C;obtain⟨ds',e,g⟩:=C;cases e;exact⟨d,J,rv,q,s1,g⟩
  |ex c=>exact(JsQ q).elim
  |sk=>rw[q]at C;exact C.elim
 cases d with
 |tup es=>
  cases B;obtain⟨a,xs,rfl,u,h2⟩:=rd;cases F;obtain⟨its,rv,pt,hz⟩:=I1.tuple u;refine oN (show s1.heap.IsTuple a AU from pt) ⟨AB,[AB],_,_,H1,rfl,I1.kept (t':=XT) λb o e=>Zc _ e,Jen a _,CK,λb f=>?_,g _ _ s2 (Jjg u h2 λ_ _ _ _=>trivial) JpR⟩;have e:b=AB:=by simpa using f
  subst e;exact I1.fpOk (Zf _) D9
 |lst es=>
  cases B;obtain⟨a,xs,rfl,u,h2⟩:=rd;cases F;obtain⟨its,rv,pt,hz⟩:=I1.list u;refine pH pt.isList ⟨AB,[AB],_,_,H1,rfl,I1.kept (t':=XT) λb o e=>Zc _ e,JgM a _,CK,λb f=>?_,g _ _ s2 (Jir u h2) Jqe⟩;have e:b=AB:=by simpa using f
  subst e;exact I1.fpOk (Zf _) D9
 |str z=>
  cases B;have hx:x=V.str z:=rd;subst hx;obtain⟨t,rfl⟩:=F;refine wpAny_pyIter_strU ⟨AB,[AB],_,_,H1,rfl,I1.kept (t':=XT) λb o e=>Zc _ e,Jpz z t _,CK,λb f=>?_,g _ _ s2 JoA JuZ⟩;have e:b=AB:=by simpa using f
  subst e;exact I1.fpOk (Zf _) D9
 |_=>cases B
def JqT{tp:Pos}(hl:PE X l E1):PI X N9 l (tW X U (.walk (.un .rows p))):=by
 rintro Y s Z H R I⟨O,r,h⟩;simp only[evD,Rs.bind_assoc]at h;refine thn (hl Y s Z H (λv W=>∃d J,Rep X.K W d v/\(d=.tup J\/d=.lst J)/\Same H W/\∀F B,Same H B->Walk X.K F B J->ItOk F->R F B) I ⟨O,r,'Ĝ'.imp λd hd v W s1 q=>?_⟩) λv s1⟨x,H1,I1,r1,d,J,rd,hw,s2,f⟩=>?_
 ·cases d with
  |tup J=>obtain⟨ds',e,f⟩:=hd;cases e;exact⟨_,J,q,.inl rfl,s1,f⟩
  |lst J=>obtain⟨ds',e,f⟩:=hd;cases e;exact⟨_,J,q,.inr rfl,s1,f⟩
  |_=>exact(show False from hd).elim
 rcases hw with rfl|rfl
 ·obtain⟨a,xs,rfl,g,C⟩:=rd;cases r1;obtain⟨its,q,pt,hz⟩:=I1.tuple g;refine oN (show s1.heap.IsTuple a AU from pt) ⟨AB,[AB],_,_,H1,rfl,I1.kept (t':=XT) λb o e=>Zc _ e,Jen a _,CK,λb u=>?_,f _ _ s2 (Jjg g C λ_ _ _ _=>trivial) JpR⟩;have e:b=AB:=by simpa using u
  subst e;exact I1.fpOk (Zf _) D9
 ·obtain⟨a,xs,rfl,g,C⟩:=rd;cases r1;obtain⟨its,q,pt,hz⟩:=I1.list g;refine pH pt.isList ⟨AB,[AB],_,_,H1,rfl,I1.kept (t':=XT) λb o e=>Zc _ e,JgM a _,CK,λb u=>?_,f _ _ s2 (Jir g C) Jqe⟩;have e:b=AB:=by simpa using u
  subst e;exact I1.fpOk (Zf _) D9
def JkK(C:Ao)(ha:AG)(hg:gloB nm "range"=To)(hm:G.mg "range"=No)(q:starEach [a] QL=[NB]):PI X tg (.Call VZ [a] [] pos) (tW X U (.un .range pa)):=by
 rintro Y s Z H R I⟨O,r,h⟩;refine JfU CY (by rw[C.mg];exact hm) (Jg (U:=U) ha Jp q) q Y s Z H R I Dl;simp only[evD];refine Rs.gB.mpr ('Ĝ'.imp λd f=>?_);cases d with
 |int i=>
  simp only[op1]at f;split at f
  ·rename_i g;simp only[midI,Zd,Zv]at g;obtain⟨ds',e,F⟩:=f;cases e;refine⟨[.int i],rfl,λvs W u B=>?_⟩;obtain⟨v,r',e1,h1,h2⟩:=B;cases h2;cases h1;subst e1;exact⟨i,rfl,g.1,g.2,F _ _ u JjH Jpb⟩
  ·exact f.elim
 |_=>exact(show False from f).elim
def JuJ{tp:Pos}(C:Ao)(ha:AG)(hb:Bp)(hg:gloB nm "zip"=To)(hm:G.mg "zip"=No)(hs:starEach [a,b] QL=NB::starEach [b] QL)
  (hs2:starEach [b] QL=[(Fo,eval b QL)]):PI X N9 (.Call (.Name "zip" p1) [a,b] [] pos) (tW X U (.bi .zip pa pb)):=by
 rintro Y s Z H R I⟨O,r,h⟩;refine Call_ (iL I CY (by rw[C.mg];exact hm) boot_zip (kT (thn (Jg (U:=U) ha (Jg hb Jp hs2) hs pos Y s Z H (λvs W=>∃d J v f es F,vs=[v,F]/\Rep X.K W d v/\(d=.tup J\/d=.lst J)/\Rep X.K W f F/\(f=.tup es\/f=.lst es)/\Same H W/\∀J9 H2,Same H H2->Walk X.K J9 H2 (zipD J es)->ItOk J9->R J9 H2) I Dl)
  λus s1 zz=>?_) hs (by rw[hs2];rfl)))
 ·simp only[evD];refine Rs.gB.mpr ('Ĝ'.imp λd hd=>?_);refine Rs.gB.mpr ((Rs.gB.mpr ((Rs.gB.mp hd).imp λf hd'=>?_)));refine⟨[d,f],rfl,λvs W s1 rs=>?_⟩;obtain⟨v,r',e1,h1,F,r'',e2,h2,h3⟩:=rs;cases h3;subst e2;subst e1;obtain⟨J,w1,g⟩:=Jix hd';obtain⟨es,w2,g⟩:=Jix g;obtain⟨_,e,hR⟩:=g;cases e;exact⟨d,J,v,f,es,F,rfl,h1,w1,h2,w2,s1,hR⟩
 obtain⟨vs,H1,q,r1,d,J,v,f,es,F,e1,rd,hw,rd',hw',s2,hR⟩:=zz;subst e1;obtain⟨t,l,xs,rfl,q1,q2⟩:=JqK rd hw;obtain⟨t',l',ys,rfl,q3,q4⟩:=JqK rd' hw';obtain⟨u,u',rfl,ru,ru'⟩:=dU r1;cases ru;cases ru';obtain⟨its,rv,pt,hz⟩:=wI q q1;obtain⟨its2,rv2,pt2,hz2⟩:=wI q q3;have ap:Apart (AB+4) (AB+2) (AB+3) AB (AB+1):=⟨by simp[iB]⟩;refine Jmn pt pt2 λh' st kp=>wpAny_pyIter_zip st.1 ⟨AB+4,_,_,_,H1,rfl,q.kept (t':=XT) kp,JoG t t' l l' _ _ _ _ _ ap,st,λb hb=>?_,hR _ _ s2 (JoS q q1 q2 q3 q4) JuN⟩;have B:AB<=b:=by simp only[Zg,ZC,fA]at hb;rcases hb with rfl|rfl|rfl|rfl|rfl<;>first|exact Zf _|exact Nat.le_add_right _ _
 exact q.fpOk B (q.hok.fresh B)
end
noncomputable def uni (L:A1) (H H1:Hp):Hp:=λa=>if a∈L then H a else H1 a
section
variable{L':A1}{o:HO}
def JQ(h:a∉L):uni L H H1 a=H1 a:=by unfold uni;rw[if_neg h]
def hJ(h:a∈L):uni L H H1 a=H a:=by unfold uni;rw[if_pos h]
def uL(h:∀a∈L,H1 a=No):hid L FD=H1:=by
 funext a;by_cases q:a∈L
 ·rw[uG q,h a q]
 ·rw[Jt q,JQ q]
def eY(s:Same Bc H1):Same H FD:=λa o h=>by
 by_cases q:a∈L
 ·rw[hJ q];exact h
 ·rw[JQ q];exact s a o (by rw[Jt q];exact h)
def Ows.tup(h:QcA):Tups K H Bc:=by
 have f:∀b o,H b=So o->¬Chgb o->b∉L:=λb o e r B=>by obtain⟨u,g,c⟩:=h b B;rw[e]at g;cases g;exact r c
 refine⟨λb xs q=>?_,λb o u q=>by rw[Jt '亼'];exact q⟩;rcases q with q|q
 ·exact .inl (by rw[Jt '亼'];exact q)
 ·exact .inr q
end
section
variable{ps:AV}{s':Ak}
def Chgc:HO->Prop
 |.lsm _ _=>True
 |.ins _ _ _=>True
 |.own _=>True
 |o=>Chgb o
structure OwC(L:A1)(H:Hp):Prop where
 all:∀a∈L,∃o,H a=So o/\Chgc o
 own:∀b a,b∈L->H b=So (.own a)->a∈L/\∃C fs,H a=So QdC
 dx:∀a C d fs,a∈L->H a=So (.ins C d fs)->d∈L
def Ows.c(h:QcA):OwC L H where
 all:=λa g=>by
  obtain⟨o,e,c⟩:=h a g
  exact⟨o,e,by cases o<;>first|exact c|exact c.elim⟩
 own:=λb a q e=>by obtain⟨o,f,c⟩:=h b q;rw[e]at f;cases f;exact c.elim
 dx:=λa C d fs g e=>by obtain⟨o,f,c⟩:=h a g;rw[e]at f;cases f;exact c.elim
def Inv.obj(I:Bw)(r:QcB)(q:a∈L):∃ob,s.heap.get? a=So ob/\∀v,ob.data≠.cell v:=by
 obtain⟨o,h,B⟩:=r.all a q;have:=I.hok a o h;cases o with
 |lst xs=>obtain⟨_,f,n,_,e⟩:=this;exact⟨_,e,λv z=>by cases z⟩
 |lsm _ xs=>obtain⟨_,f,n,_,e⟩:=this;exact⟨_,e,λv z=>by cases z⟩
 |dK g=>obtain⟨_,_,vs,_,ob,es,ep,e,c,d,_⟩:=this;exact⟨ob,e,λv z=>by rw[d]at z;cases z⟩
 |ins C dx fs=>obtain⟨_,_,_,e,_⟩:=this;exact⟨_,e,λv z=>by cases z⟩
 |own b=>obtain⟨_,C,fs,U⟩:=r.own a b q h;obtain⟨_,_,_,_,mA,⟨F,es,ep,u,d,_⟩,_⟩:=I.hok b _ U;exact⟨F,u,λv z=>by rw[d]at z;cases z⟩
 |dT g=>exact(show False from this).elim
 |_=>exact B.elim
def Jio(I:Bw)(g:QcB):∀L1:List Addr,(∀a∈L1,a∈L)->∃ps:List (Addr×Obj),ps.map (·.1)=L1/\∀p∈ps,s.heap.get? p.1=So p.2/\∀v,p.2.data≠.cell v
 |[],_=>⟨[],rfl,by simp⟩
 |a::L1,h=>by
  obtain⟨ob,B,q⟩:=Inv.obj I g (h a Af)
  obtain⟨ps,u,C⟩:=Jio I g L1 λb r=>h b (by simp[r])
  refine⟨(a,ob)::ps,by simp[u],λp f=>?_⟩
  rcases Zg.mp f with rfl|f
  ·exact⟨B,q⟩
  ·exact C p f
def Inv.fsFree(I:Bw){b:Addr}(f:b∈X.fs):H b=No:=by obtain⟨_,o,g,_⟩:=I.ok.funs.mem f;exact I.base.free b o g (I.ok.frf b f) λz=>I.ok.exfs b z f
def Inv.hide(I:Bw)(F:QcB):∃ps:List (Addr×Obj),ps.map (·.1)=L/\(∀p∈ps,s.heap.get? p.1=So p.2)/\L2.Inv X (ps++Y) Z Bc s:=by
 obtain⟨ps,e1,e2⟩:=Jio I F L λ_ z=>z
 have B:∀p∈ps,p.1∈L:=λp f=>by rw[<-e1];exact eF f
 have g:∀b o,H b=So o->¬Chgc o->b∉L:=λb o e nc U=>by
  obtain⟨u,r,c⟩:=F.all b U
  rw[e]at r;cases r;exact nc c
 have C:∀b,H b=No->hid L H b=No:=λb e=>by unfold hid;split<;>first|rfl|exact e
 refine⟨ps,e1,λp f=>(e2 p f).1,?_⟩
 exact{
  ok:=I.ok,os:=I.os,bare:=XA
  base:=⟨c6,c7,λb o q n x=>C b Qk,bM,λb xs q=>by
    have:=I.base.tups b xs q
    rw[Jt 'λ'];exact this,
   λb o u q=>by
    have:=I.base.frzs b o u q
    rw[Jt 'λ'];exact this,
   λb qs q=>by
    obtain⟨m,this⟩:=I.base.tbls b qs q
    exact⟨m,by rw[Jt 'λ'];exact this⟩⟩
  loc:=XG,cell:=Yi,free:=C _ XD,freeC:=λx c e=>C _ G7
  pin:=λp f=>by
   have hp':p∈ps\/p∈X.pn++Y:=by
    simp only[ZI]at f⊢
    rcases f with h|h|h
    ·exact .inr QcU
    ·exact .inl h
    ·exact .inr QcW
   rcases hp' with f|f
   ·obtain⟨o,r,_⟩:=F.all p.1 (B p f)
    refine⟨(e2 p f).1,uG (B p f),λz=>?_,λz=>?_,(e2 p f).2⟩
    ·rw[z,I.free]at r;cases r
    ·rw[Inv.fsFree I z]at r;cases r
   ·obtain⟨q1,q2,q3⟩:=I.pin p f
    exact⟨q1,C _ q2,q3⟩
  hok:=λa o e=>by
   obtain⟨h1,h2⟩:=fH e
   exact(I.hok a o h2).stay MA (λb q=>by rw[Jt λU=>h1 (F.own b a U q).1];exact q) (λb xs q=>by rw[Jt '亽'];exact q) λb o' u' q=>by rw[Jt '亽'];exact q
  len:=Ys}
def Inv.unhide(I:Bw)(hL:QcB)(e1:ps.map (·.1)=L)(e2:∀p∈ps,s.heap.get? p.1=So p.2)(sm:∀b xs,hid L H b=So Bl->H1 b=So Bl)(f:L2.Inv X (ps++Y) σ' H1 s'):(∀a∈L,H1 a=No)/\L2.Inv X Y σ' FD s':=by
 have F:∀b o,H b=So o->¬Chgc o->b∉L:=λb o e nc hm=>by
  obtain⟨u,e3,c⟩:=hL.all b hm
  rw[e]at e3;cases e3;exact nc c
 have g:∀a∈L,∃ob,s.heap.get? a=So ob/\s'.heap.get? a=So ob/\H1 a=No:=λa B=>by
  rw[<-e1]at B
  obtain⟨p,hp,rfl⟩:=Zy.mp B
  obtain⟨q1,q2,_⟩:=f.pin p (by simp[hp])
  exact⟨p.2,e2 p hp,q1,q2⟩
 have U:∀b,H b=No->b∉L:=λb e hm=>by
  obtain⟨o,e3,_⟩:=hL.all b hm
  rw[e]at e3;cases e3
 have tp:∀b xs,H b=So Bl->uni L H H1 b=So Bl:=λb xs q=>by
  have hb:=F b _ q λz=>z
  rw[JQ hb];exact sm b _ (by rw[Jt hb];exact q)
 refine⟨λa B=>let⟨_,_,_,h⟩:=g a B;h,?_⟩
 exact{
  ok:=I.ok,os:=f.os,bare:=f.bare
  base:=⟨f.base.keep,f.base.slot,λb o q n x=>by rw[JQ (U b Qk)];exact f.base.free b o q n x,f.base.there,
   λb xs q=>by rw[JQ (F b _ 'ϣ' λz=>z)];exact f.base.tups b xs q,
   λb o u q=>by rw[JQ (F b _ (I.base.frzs b o u q) λz=>z)];exact f.base.frzs b o u q,
   λb qs q=>by
    obtain⟨m,this⟩:=I.base.tbls b qs q
    rw[JQ (F b _ this λz=>z)];exact f.base.tbls b qs q⟩
  loc:=f.loc,cell:=f.cell
  free:=by rw[JQ (U _ XD)];exact f.free
  freeC:=λx c e=>by rw[JQ (U _ G7)];exact f.freeC x c e
  pin:=λp hp=>by
   obtain⟨q1,q2,q3⟩:=f.pin p (by
    simp only[ZI]at hp⊢
    rcases hp with h|h
    ·exact .inl h
    ·exact .inr QcW)
   exact⟨q1,by rw[JQ (U _ (I.pin p hp).2.1)];exact q2,q3⟩
  hok:=λa o e=>by
   by_cases B:a∈L
   ·rw[hJ B]at e
    obtain⟨u,e3,hc⟩:=hL.all a B
    rw[e]at e3;cases e3
    have:=I.hok a o e
    have trB:∀{b:Addr}{x:Obj},b∈L->s.heap.get? b=So x->s'.heap.get? b=So x:=fun{b x}hb q=>by
     obtain⟨ob,h1,h2,_⟩:=g b hb
     rw[h1]at q;cases q;exact h2
    have tr:∀{x:Obj},s.heap.get? a=So x->s'.heap.get? a=So x:=trB B
    cases o with
    |lst xs=>obtain⟨z,its,n,r,q⟩:=this;exact NG
    |lsm _ xs=>obtain⟨z,its,n,r,q⟩:=this;exact NG
    |own y=>obtain⟨x,q⟩:=this;exact⟨x,tr q⟩
    |ins C dx fs=>
     obtain⟨d,z,ne,q,mA,⟨od,es,ep,q2,c⟩,r⟩:=this
     have hd:=hL.dx a C dx fs B e
     exact⟨by rw[hJ hd];exact d,z,ne,tr q,mA,⟨od,es,ep,trB hd q2,c⟩,r⟩
    |dK kvs=>obtain⟨z,y,vs,r,ob,es,ep,q,c⟩:=this;exact⟨z,y,vs,r,ob,es,ep,tr q,c⟩
    |dT kvs=>exact(show False from this).elim
    |_=>exact hc.elim
   ·rw[JQ B]at e
    have nz:∀b o,H1 b=So o->b∉L:=λb o q hm=>by
     obtain⟨_,_,_,h⟩:=g b hm
     rw[q]at h;cases h
    exact(f.hok a o e).stay MA (λb q=>by rw[JQ (nz b _ q)];exact q) (λb xs q=>by rw[JQ (nz b _ q)];exact q) λb o' u' q=>by rw[JQ (nz b _ q)];exact q
  len:=f.len}
end
def OutH(X:Cx)(L:A1)(H:Hp)(Q:VK)(d:D):Prop:=∀v W,Same H W->(∀a∈L,W a=H a)->Rep X.K GF d v->Q v W
inductive tH(X:Cx)(call:Ae)(p:Px)(σ:Bf)(H:Hp)(Q:VK):Prop where
 |mk:∀env L,Ows L H->ReadOk X.K (hid L H) σ env->(evD call p env).Good (OutH X L H Q) (XW X (hid L H))->tH X call p σ H Q
def OutFH(X:Cx)(L:A1)(H:Hp)(Q:VK)(d:D):Prop:=∃J,d=.lst J/\∀l xs W,Same H W->(∀a∈L,W a=H a)->H l=No->W l=So AK->Reps X.K GF J xs->Q BC W
inductive tFH(X:Cx)(call:Ae)(p:Px)(σ:Bf)(H:Hp)(Q:VK):Prop where
 |mk:∀env L,Ows L H->ReadOk X.K (hid L H) σ env->(evD call p env).Good (OutFH X L H Q) (XW X (hid L H))->tFH X call p σ H Q
section
variable{U:Ae}
def mE(he:BX):PE X e cD:=by
 rintro Y s Z H Q I⟨O,L,C,r,h⟩;obtain⟨ps,e1,F,I'⟩:=Inv.hide I C.c;refine ZL (he (ps++Y) s Z Bc (λv H1=>Same Bc H1/\((∀a∈L,H1 a=No)->Q v FD)) I' ⟨O,r,h.mono (λd hd v H1 f g=>⟨f,λB=>hd v _ (eY f) RZ ?_⟩) λc z=>z⟩)
  (λu f⟨v,H1,I1,g,sm,q⟩=>?_) λ_ _ z=>z
 ·rw[uL B];exact g
 ·obtain⟨B,I2⟩:=Inv.unhide I C.c e1 F S1 I1;exact⟨v,_,I2,g,q B⟩
end
def tWH (X:Cx) (U:Ae) (p:Px):TI:=λZ H R=>∃O L,Ows L H/\ReadOk X.K Bc Z O/\(evD U p O).Good (λd=>∃J,d=.lst J/\∀f W,Same H W->(∀a∈L,W a=H a)->Walk X.K f GF J->ItOk f->R f W) (XW X Bc)
section
variable{U:Ae}{iter:Expr}
def Juo(hi:PI X tg iter (tW X U p)):PI X tg iter (tWH X U p):=by
 rintro Y s Z H R I⟨O,L,hL,r,h⟩;obtain⟨ps,e1,e2,I'⟩:=Inv.hide I hL.c;refine ZL (hi (ps++Y) s Z Bc (λf H1=>Same Bc H1/\((∀a∈L,H1 a=No)->R f FD)) I' ⟨O,r,h.mono (λd⟨J,ed,hd⟩=>⟨J,ed,λf H1 C w ok=>⟨C,λB=>hd f _ (eY C) RZ ?_ ok⟩⟩) λc z=>z⟩)
  (λv C q1=>ZL q1 (λitv s2 zz=>?_) λ_ _ z=>z) λ_ _ z=>z
 ·rw[uL B];exact w
 ·obtain⟨it,fp,tn,f,H1,e3,I1,T,t0,hf,sm,q⟩:=zz;obtain⟨B,I2⟩:=Inv.unhide I hL.c e1 e2 S1 I1;refine⟨it,fp,tn,f,_,e3,I2,T,t0,λb hb=>?_,q B⟩;obtain⟨f0,f1,f2,f3,f4,F⟩:=hf b hb;have u:b∉L:=λhm=>by rw[<-e1]at hm;obtain⟨p,g,rfl⟩:=Zy.mp hm;exact F p (by simp[g]) rfl
  exact⟨by rw[JQ u];exact f0,f1,f2,f3,f4,λp g=>F p (by
   simp only[ZI]at g⊢;rcases g with h|h
   ·exact .inl h
   ·exact .inr QcW)⟩
end
noncomputable def owA (O:Fm) (Z:Bf) (i:Nat):Option Addr:=match O[i]?,Z[i]? with
 |some (So _),So (So (.ref l))=>So l
 |_,_=>No
def Ow (M:Aq) (O:Fm) (Z:Bf):List Addr:=M.filterMap (owA O Z)
def owA_iff:owA O Z i=So l↔∃d,O[i]? =So BG/\Z[i]? =So Dq:=by
 unfold owA;constructor
 ·intro h;split at h
  ·rename_i d m f g;cases h;exact⟨d,f,g⟩
  ·cases h
 ·rintro⟨d,f,g⟩;rw[f,g]
def mem_Ow:l∈Ow M O Z↔∃i∈M,∃d,O[i]? =So BG/\Z[i]? =So Dq:=by
 unfold Ow;rw[ZX];constructor
 ·rintro⟨i,f,h⟩;exact⟨i,f,owA_iff.mp h⟩
 ·rintro⟨i,f,h⟩;exact⟨i,f,owA_iff.mpr h⟩
def zX{env':Fm}(h:∀i∈M,owA O Z i=owA env' σ' i):Ow M O Z=Ow M env' σ':=by
 unfold Ow;induction M with
 |nil=>rfl
 |cons i M g=>simp only[lC,h i (.head _),g λj f=>h j (.tail _ f)]
def JrM{s:Bm}{t:bO}(h:j≠i):owA Lu (Z.set i t) j=owA O Z j:=by unfold owA;rw[Zr (Ne.symm h),Zr (Ne.symm h)]
def fC{s:Bm}{t:bO}(h:i∉M):Ow M Lu (Z.set i t)=Ow M O Z:=zX λj f=>JrM λe=>h (e▸f)
noncomputable def OwnIs (K:Aj) (f H:Hp) (l:Addr):D->Prop
 |.lst J=>∃xs,H l=So AK/\Reps K f J xs
 |.dct t z ks g=>z=Fo/\∃xs,DK H l t Fo ks xs/\Reps K f g xs
 |_=>False
def OwnIs.mono{r f:Hp}{d:D}(h:Qd2)(e:Same r f)(k:∀o,H l=So o->W l=So o):OwnIs K f W l d:=by
 cases d with
 |lst J=>obtain⟨xs,g,q⟩:=h;exact⟨xs,k _ g,q.mono e⟩
 |dct t z ks B=>obtain⟨u,xs,g,q⟩:=h;exact⟨u,xs,g.mono k,q.mono e⟩
 |_=>exact h.elim
def OwnIs.chg{r:Hp}{d:D}(h:Qd2):∃o,H l=So o/\Chgb o:=by
 cases d with
 |lst J=>obtain⟨xs,f,u⟩:=h;exact⟨_,f,trivial⟩
 |dct t z ks B=>
  obtain⟨C,xs,f,u⟩:=h;cases t<;>obtain⟨q,g,_⟩:=f
  ·exact Hd
  ·exact Hd
 |_=>exact h.elim
def OwnIs.rep{q:Hp}{d:D}(h:OwnIs K q H l d)(e:Same q H):Rep K H d BC:=by
 cases d with
 |lst J=>obtain⟨xs,f,g⟩:=h;exact⟨l,xs,rfl,SqL.of f,g.mono e⟩
 |dct t z ks r=>obtain⟨rfl,xs,f,g⟩:=h;exact⟨l,xs,rfl,f,g.mono e⟩
 |_=>exact h.elim
structure EnvOk(K:Aj)(M:Aq)(H0 H:Hp)(Z:Bf)(O:Fm):Prop where
 same:Same H0 H
 len:Z.length=O.length
 read:∀(i:Nat)(d:D),i∉M->O[i]? =So BG->∃v,Z[i]? =So Bj/\Rep K Di d v
 own:∀(i:Nat)(d:D),i∈M->O[i]? =So BG->∃l,Z[i]? =So Dq/\H0 l=No/\OwnIs K Di H l d
 apart:∀(i j:Nat)(l:Addr)(d d':D),i∈M->j∈M->i≠j->O[i]? =So BG->O[j]? =So (So d')->Z[i]? =So Dq->Z[j]? ≠So Dq
structure Fz(L:A1)(H:Hp)(L':A1)(W:Hp):Prop where
 keep:∀a o,H a=So o->a∉L->W a=So o
 own:∀l∈L',l∈L\/H l=No
section
variable{L2:A1}{H2:Hp}
def Fz.of(s:Iq)(h:∀l∈L1,l∈L\/H l=No):Fz L H L1 H1:=⟨λa o e _=>s a o e,h⟩
def Fz.sm(s:Iq):Fz L H L H1:=.of s λ_ h=>.inl h
def Fz.trans(a:Fz L H L1 H1)(b:Fz L1 H1 L2 H2):Fz L H L2 H2 where
 keep:=λc o e g=>b.keep c o (a.keep c o e g) λf=>by
  rcases a.own c f with h|h
  ·exact g h
  ·rw[e]at h;cases h
 own:=λl r=>by
  rcases b.own l r with h|h
  ·exact a.own l h
  ·by_cases f:l∈L
   ·exact .inl f
   ·cases q:H l with
    |none=>exact .inr rfl
    |some o=>rw[a.keep l o q f]at h;cases h
def Fz.hid(a:Fz L H L1 H1):Same Bc (hid L1 H1):=Jou λb o e f=>⟨a.keep b o e f,λg=>by
 rcases a.own b g with h|h
 ·exact f h
 ·rw[e]at h;cases h⟩
end
def EnvOk.ows(e:C7):Ows BQ H:=λa g=>by
 obtain⟨i,r,d,q,u⟩:=mem_Ow.mp g
 obtain⟨l,f,_,B⟩:=e.own i d r q
 rw[u]at f;cases f
 exact B.chg
def EnvOk.same0(e:C7):Same H0 Di:=λa o h=>by
 have r:a∉Ow M O Z:=λq=>by
  obtain⟨i,B,d,u,C⟩:=mem_Ow.mp q
  obtain⟨l,g,f,_⟩:=e.own i d B u
  rw[C]at g;cases g
  rw[h]at f;cases f
 rw[Jt r];exact e.same a o h
def EnvOk.readOk(e:C7):ReadOk K H Z O:=λi d h=>by
 by_cases q:i∈M
 ·obtain⟨l,f,_,g⟩:=e.own i d q h
  exact⟨_,f,g.rep hid_same⟩
 ·obtain⟨v,f,g⟩:=e.read i d q h
  exact⟨v,f,g.mono hid_same⟩
def EnvOk.readHid(e:C7):ReadOk K Di Z b8:=λi d h=>by
 rw[kJ]at h
 cases q:O[i]? with
 |none=>rw[q]at h;cases h
 |some s=>
  rw[q]at h
  simp only[wF,qJ,ZP]at h
  split at h
  ·cases h
  ·rename_i f
   subst h
   exact e.read i d f q
def EnvOk.grow(e:C7)(s:B9):EnvOk K M H0 W Z O where
 same:=e.same.trans s
 len:=e.len
 read:=λi d g h=>let⟨v,f,q⟩:=e.read i d g h;⟨v,f,q.mono (Fz.sm s).hid⟩
 own:=λi d g h=>let⟨l,f,r,q⟩:=e.own i d g h;⟨l,f,r,q.mono (Fz.sm s).hid (s l)⟩
 apart:=e.apart
theorem JB{l:List α}{a b:α}(h:(l.set i a)[j]? =So b):(j=i/\b=a/\i<Xv)\/(j≠i/\l[j]? =So b):=by
 by_cases q:j=i
 ·subst q;by_cases f:j<Xv
  ·rw[ZU f]at h;cases h;exact .inl ⟨rfl,rfl,f⟩
  ·rw[vO (by rw[iC];lia)]at h;cases h
 ·rw[Zr 'Ԉ']at h;exact .inr ⟨q,h⟩
def EnvOk.put(e:C7){d:D}(q:i∉M)(r:Rep K Di d v):EnvOk K M H0 H Xi FR where
 same:=Yb
 len:=by rw[iC,iC];exact e.len
 read:=λj u f h=>by
  rw[fC q]
  rcases JB h with⟨rfl,hd,hl⟩|⟨g,h⟩
  ·cases hd;exact⟨v,ZU (by rw[e.len];exact hl),r⟩
  ·rw[Zr (Ne.symm g)];exact e.read j u f h
 own:=λj u f h=>by
  rw[fC q]
  rcases JB h with⟨rfl,_,_⟩|⟨g,h⟩
  ·exact absurd f q
  ·rw[Zr (Ne.symm g)];exact e.own j u f h
 apart:=λj k l d1 d2 f C g F I B=>by
  have n1:j≠i:=λz=>q (z▸f)
  have U:k≠i:=λz=>q (z▸C)
  rw[Zr '买']at F B
  rw[Zr (Ne.symm U)]at I⊢
  exact e.apart j k l d1 d2 f C g F I B
theorem JpX{d:D}(b:Addr)(h:b∈Ow M FR Tw):b=l\/b∈Ow M O Z:=by
 obtain⟨j,u,r,g,f⟩:=mem_Ow.mp h;by_cases q:j=i
 ·subst q;by_cases B:j<Z.length
  ·rw[ZU B]at f;cases f;exact .inl rfl
  ·rw[vO (by rw[iC];lia)]at f;cases f
 ·rw[Zr 'Ԉ']at g f;exact .inr (mem_Ow.mpr ⟨j,u,r,g,f⟩)
def EnvOk.putOwn(e:C7)(s:B9){d:D}(h0:H l=No)(hl:∀Hh,Tups K W Hh->OwnIs K Hh W l d):
  EnvOk K M H0 W Tw FR/\Fz BQ H Rm W:=by
 have fz:Fz BQ H Rm W:=.of s λb hb=>by
  rcases JpX b hb with rfl|h
  ·exact .inr h0
  ·exact .inl h
 have ows:Ows Rm W:=λb hb=>by
  rcases JpX b hb with rfl|h
  ·exact(hl W (Tups.of LS)).chg
  ·obtain⟨o,h1,h2⟩:=e.ows b h;exact⟨o,s _ _ h1,h2⟩
 refine⟨{
  same:=e.same.trans s
  len:=by rw[iC,iC];exact e.len
  read:=λj d' g h=>?_
  own:=λj d' g h=>?_
  apart:=λj k m d1 d2 g hk C h1 h2 U I=>?_},fz⟩
 ·rcases JB h with⟨rfl,hd,u⟩|⟨C,h⟩
  ·cases hd
   exact⟨.ref l,ZU (by rw[e.len];exact u),(hl _ ows.tup).rep hid_same|>λr=>by
    have ho:l∉Ow M (O.set j BG) (Z.set j Dq):=λhm=>by
     obtain⟨k,hk,d2,k1,F⟩:=mem_Ow.mp hm
     by_cases q:k=j
     ·exact g (q▸hk)
     ·rw[Zr 'Ԉ']at k1 F
      obtain⟨l',f,_,g3⟩:=e.own k d2 hk k1
      rw[F]at f;cases f
      obtain⟨o,g4,_⟩:=g3.chg
      rw[h0]at g4;cases g4
    have:=hl _ (ows.tup)
    cases d with
    |lst J=>obtain⟨xs,B,q2⟩:=this;exact⟨l,xs,rfl,SqL.of (by rw[Jt ho];exact B),q2⟩
    |dct t z ks vs=>obtain⟨rfl,xs,B,q2⟩:=this;exact⟨l,xs,rfl,B.mono λo q=>by rw[Jt ho];exact q,q2⟩
    |_=>exact this.elim⟩
  ·obtain⟨v,f,g2⟩:=e.read j d' g h
   exact⟨v,by rw[Zr (Ne.symm C)];exact f,g2.mono fz.hid⟩
 ·rcases JB h with⟨rfl,hd,u⟩|⟨C,h⟩
  ·cases hd;exact⟨l,ZU (by rw[e.len];exact u),e.same.free h0,hl _ ows.tup⟩
  ·obtain⟨m,f,g0,g2⟩:=e.own j d' g h
   exact⟨m,by rw[Zr (Ne.symm C)];exact f,g0,g2.mono fz.hid (s m)⟩
 ·have old:∀q dq,q∈M->q≠i->O[q]? =So (So dq)->Z[q]? ≠So Dq:=λq dq hq hqi hqe hqs=>by
   obtain⟨l',f,_,g3⟩:=e.own q dq hq hqe
   rw[f]at hqs;cases hqs
   obtain⟨o,g4,_⟩:=g3.chg
   rw[h0]at g4;cases g4
  rcases JB h1 with⟨B,_,u⟩|⟨n1,k1⟩
  ·rw[B,ZU (by rw[e.len];exact u)]at U
   cases U
   rcases JB h2 with⟨q,_,_⟩|⟨n2,F⟩
   ·exact C (B.trans q.symm)
   ·rw[Zr (Ne.symm n2)]at I
    exact old k d2 hk n2 F I
  ·rw[Zr '买']at U
   rcases JB h2 with⟨q2,_,u⟩|⟨n2,F⟩
   ·rw[q2,ZU (by rw[e.len];exact u)]at I
    cases I
    exact old j d1 g n1 k1 U
   ·rw[Zr (Ne.symm n2)]at I
    exact e.apart j k m d1 d2 g hk C k1 F U I
def Jhr{o:HO}(h:l∈L):hid L J4=hid L H:=by
 funext b;by_cases q:b∈L
 ·rw[uG q,uG q]
 ·rw[Jt q,Jt q,Jb (λz:b=l=>q (by rw[z];exact h))]
def EnvOk.change(e:C7){d d':D}{o:HO}(hi:i∈M)(u:O[i]? =So BG)(r:Z[i]? =So Dq)(new:OwnIs K Di J4 l d'):
  EnvOk K M H0 J4 Z (O.set i (So d'))/\Fz BQ H (Ow M RC Z) J4:=by
 have hl:l∈Ow M O Z:=mem_Ow.mpr ⟨i,hi,d,u,r⟩;obtain⟨l',C,h0,h2⟩:=e.own i d hi u;rw[r]at C;cases C;have iσ:i<O.length:=(Zz.mp u).1;have ow:Ow M RC Z=Ow M O Z:=zX λj f=>by
  by_cases q:j=i
  ·subst q;rw[owA_iff.mpr ⟨d,u,r⟩];exact owA_iff.mpr ⟨d',ZU iσ,r⟩
  ·unfold owA;rw[Zr 'Ԉ']
 have hh:hid (Ow M RC Z) J4=hid BQ H:=by rw[ow,Jhr hl]
 refine⟨⟨λb ob q=>?_,by rw[iC];exact e.len,λj U f h=>?_,λj U f h=>?_,λj k m d1 d2 f hk B C h2 h3=>?_⟩,⟨λa ob q B=>?_,λb hb=>.inl (by rw[ow]at hb;exact hb)⟩⟩
 ·rw[Jb (Je q h0)];exact e.same b ob q
 ·rw[hh];rcases JB h with⟨rfl,_,_⟩|⟨B,h⟩
  ·exact absurd hi f
  ·exact e.read j U f h
 ·rw[hh];rcases JB h with⟨rfl,hd,_⟩|⟨B,h⟩
  ·cases hd;exact⟨l,r,h0,new⟩
  ·obtain⟨m,g1,g0,g2⟩:=e.own j U f h;have F:m≠l:=λz=>e.apart i j l _ _ hi f (Ne.symm B) u h r (z▸g1);exact⟨m,g1,g0,g2.mono LS λob q=>by rw[Jb F];exact q⟩
 ·have g:∀(q:Nat)(dq:D),(O.set i (So d'))[q]? =So (So dq)->∃dq',O[q]? =So (So dq'):=λq dq I=>by
   rcases JB I with⟨rfl,_,_⟩|⟨_,I⟩
   ·exact⟨_,u⟩
   ·exact⟨dq,I⟩
  obtain⟨e1,k1⟩:=g j d1 C;obtain⟨e2,k2⟩:=g k d2 h2;exact e.apart j k m e1 e2 f hk B k1 k2 h3
 ·rw[Jb (λz:a=l=>B (by rw[z];exact hl))];exact q
def Chg(m:Bool)(L:A1)(H:Hp)(f:A1)(W:Hp):Prop:=Fz L H f W/\(m=Fo->Same H W)
section
variable{n:Bool}{L2:A1}{H2:Hp}
def Chg.of(s:Iq):Chg m L H L H1:=⟨Fz.sm s,λ_=>s⟩
def Chg.trans(a:Mj)(b:Chg n L1 H1 L2 H2):Chg (m||n) L H L2 H2:=⟨a.1.trans b.1,λh=>by
 simp only[ZZ]at h
 exact(a.2 h.1).trans (b.2 h.2)⟩
def Chg.weak(a:Mj)(h:n=Fo->m=Fo):Chg n L H L1 H1:=⟨a.1,λq=>a.2 (h q)⟩
end
def OutS(X:Cx)(M:Aq)(H0:Hp)(L:A1)(H:Hp)(m:Bool)(D:Ends)(r:Fw×Fm):Prop:=match r.1 with
 |.nx=>∀σ' W,EnvOk X.K M H0 W σ' r.2->Chg m L H (Ow M r.2 σ') W->D.nx σ' W
 |.rt d=>∀v W,Same H0 W->Rep X.K W d v->D.rt v W
 |.bk=>∀σ' W,EnvOk X.K M H0 W σ' r.2->Chg m L H (Ow M r.2 σ') W->D.bk σ' W
 |.ct=>∀σ' W,EnvOk X.K M H0 W σ' r.2->Chg m L H (Ow M r.2 σ') W->D.ct σ' W
inductive tS(X:Cx)(call:Ae)(M:Aq)(H0:Hp)(p:Sx)(D:Ends)(σ:Bf)(H:Hp):Prop where
 |mk:∀env,EnvOk X.K M H0 H σ env->(exD call p env).Good (OutS X M H0 (Ow M env σ) H (mutS p) D) (XW X H0)->tS X call M H0 p D σ H
def OutS.after{n k:Bool}{D:Ends}{r:Fw×Fm}(h:OutS X M H0 L H k D r)(c:Mj)(F:k=Fo->m=Fo/\n=Fo):OutS X M H0 L1 H1 n D r:=by
 obtain⟨f,e⟩:=r;have B:∀{C:A1}{W:Hp},Chg n L1 H1 C W->Chg k L H C W:=λI=>(c.trans I).weak λq=>by obtain⟨a,b⟩:=F q;rw[a,b];rfl
 cases f with
 |nx=>exactλσ' W u g=>h σ' W u (B g)
 |rt d=>exact h
 |bk=>exactλσ' W u g=>h σ' W u (B g)
 |ct=>exactλσ' W u g=>h σ' W u (B g)
section
variable{U:Ae}{c:Expr}{pc:Px}{a b:Sx}{rest sa sb:BH}
def PS.weak{t t':TS}(h:Qdd)(f:∀D Z H,t' D Z H->t D Z H):PS X st t':=λY s Z H D I g=>h Y s Z H D I (f D Z H g)
def PSs.weak{f:BH}{t t':TS}(h:PSs X f t)(g:∀D Z H,t' D Z H->t D Z H):PSs X f t':=λY s Z H D I q=>h Y s Z H D I (g D Z H q)
def kF:PSs X [] (tS X U M H0 .skip):=PSs.weak Jtd λD Z H⟨O,e,h⟩=>h Z H e (Chg.of ED)
def nI(h:PS X st Mn):PSs X [st] Mn:=qI h
def eJ(h1:PS X st Mn)(F:PSs X rest Q8):PSs X (st::rest) (tS X U M H0 IG):=by
 refine PSs.weak (JK h1 F) λD Z H⟨O,e,h⟩=>Dj;refine(Rs.gB.mp h).imp λr C=>?_;obtain⟨f,g⟩:=r;have I:mutS IG=Fo->mutS a=Fo:=λq=>(ZZ.mp q).1;cases f with
 |nx=>intro σ' W B u;refine⟨g,B,C.imp λr2 F=>F.after u λq=>ZZ.mp q⟩
 |rt d=>exact C
 |bk=>exactλσ' W B u=>C σ' W B (u.weak I)
 |ct=>exactλσ' W B u=>C σ' W B (u.weak I)
def tG(g:BX):PS X KL (tS X U M H0 (.ret p)):=by refine PS.weak (lE g) λD Z H⟨O,e,h⟩=>FK;exact(Rs.gB.mp h).mono (λd f v W s r=>f v W Qa8 r) λc z=>z.mono Yb
def vP(u:Qbz)(I:PSs X sa Mn)(C:PSs X sb Q8):PS X Qah (tS X U M H0 QH):=by
 refine PS.weak (Jvd u I C) λD Z H⟨O,e,h⟩=>FK;refine(Rs.gB.mp h).mono (λd g=>?_) λc z=>z.mono Yb;cases d with
 |bl k=>
  refine⟨k,rfl,λW s=>?_⟩;have f:∀{q:Sx},(mutS QH=Fo->mutS q=Fo)->(exD U q O).Good (OutS X M H0 BQ H (mutS QH) D) (XW X H0)->tS X U M H0 q D Z W:=λhm B=>
   ⟨O,e.grow s,B.imp λr F=>F.after (m:=Fo) (Chg.of s) λz=>⟨rfl,hm z⟩⟩
  cases k with
  |true=>exact iteT (f (λz=>(ZZ.mp z).1) g)
  |false=>exact iteF (f (λz=>(ZZ.mp z).2) g)
 |_=>exact g.elim
def qW(g:i∉M)(f:BN){D:Ends}(h:UB):tAsg cD Ej D Z H:=by obtain⟨O,e,h⟩:=h;simp only[exD,uB,Zo,ZN]at h;refine KY;rw[Jv U O f];exact(Rs.gB.mp h).mono (λd q v W s k r=>q _ _ ('Ǩ'.put g r) (by rw[fC g];exact Chg.of s)) λc z=>z.mono Yw
def JqP{D:Ends}(h:tS X U M H0 (.own i p) D Z H):tAsg cC Ej D Z H:=by
 obtain⟨O,e,h⟩:=h;refine⟨O,X4,'Ĝ'.mono (λd f=>?_) λc z=>z.mono Yb⟩;cases d with
 |lst J=>
  simp only at f;split at f
  ·exact f.elim
  ·rename_i q;have g:imms J=To:=by simpa using q
   refine⟨J,rfl,λl xs W s B F C=>?_⟩;obtain⟨r,u⟩:=e.putOwn s (i:=i) (d:=.lst J) B λI tp=>⟨xs,F,Reps.tups tp J g C⟩;exact f _ _ r ⟨u,λ_=>s⟩
 |_=>exact f.elim
def JvK(C:Ao)(hi:N[i]? =So x)(g:locB nm x=To)(B:i∉M)(f:BN)(F:BX)(r:Sa):
  PS X IS Tp:=by obtain⟨q,u⟩:=C.sto x g;exact PS.weak (pG (by rw[C.hN];exact C.nd) (by rw[C.hN];exact hi) q (mE F) r u) λD Z H h=>qW B f h
def Jpu  {te:TE} (hM:i ∈ M) {D:Ends}   (h:tS X U M H0 (.app m i p) D Z H)
  (B:∀ O,EnvOk X.K M H0 H Z O -> ∀ Q,'Ƥ'.Good (λd=>∀ v H1,Same H H1 -> (m = To -> d.imm = To) -> Rep X.K (hid BQ H1) d v -> Q v H1) Y3 -> (∀ d,evD U p O = .ok d -> m = To -> d.imm = To) -> te Z H Q) :
  ∃ l,Z[i]? = So Dq /\ (∃ xs,H l = So AK) /\ te Z H λv H1=>∃ xs,H1 l = So AK /\ Ai < sizeLine /\ D.nx Z (upd H1 l (.lst (xs ++ [v]))):=by
 obtain ⟨O,e,h⟩:=h;simp only [exD] at h;cases q:O[i]? with
 | none=>rw [q] at h; exact h.elim
 | some o=>
  rw [q] at h;cases o with
  | none=>exact h.elim
  | some d=>
   cases d with
   | lst J=>
    obtain ⟨l,f,h0,xs,hl,I⟩:=e.own i _ hM q;refine ⟨l,f,⟨xs,hl⟩,B O e _ ('Ĝ'.imp λd u v H1 r him r1=>?_) λd ed hm=>?_⟩
    ·split at u
     ·exact u.elim
     ·rename_i g;simp only [uD,not_or,kB,Bool.not_eq_true,gG,Decidable.not_not] at g;have F:=r _ _ hl;have C:Ac < lD:=by simpa using g.2
      refine ⟨xs,F,by rw [I.length,ZJ]; exact C,?_⟩;obtain ⟨e2,f2⟩:=(e.grow r).change (d':=.lst (J ++ [d])) (o:=.lst (xs ++ [v])) hM q f ⟨_,Jd,(I.mono (Fz.sm r).hid).append (Reps.one r1)⟩;exact u Z _ e2 ⟨(Fz.sm r).trans f2,λz=>by cases z⟩
    ·rw [ed] at h;simp only [Rs.bo] at h;split at h
     ·exact h.elim
     ·rename_i g;simp only [uD,not_or,hm,Bool.true_and] at g;simpa using g.1
   | _=>exact h.elim
def Jue  (C:Ao) (hi:N[i]? = So x) (hx:visB nm x = To) (hd1:Gi) (B:Fg) (hM:i ∈ M) (F:BN) (he:BX)
  (hl:C9) {f:Pos} (q:IJ):PS X WA Uw:=by
 refine PS.weak (sQ (rP dA cW cX JgQ (nE (by rw [C.hN]; exact hi) (C.vis x hx) hd1 B) (Jq (mE he) JP q) rfl (by rw [q]; rfl) hl q rfl) rfl) λD Z H h=>?_;obtain ⟨l,u,⟨xs,hl⟩,h⟩:=Jpu (te:=tH X U p) hM h λO e Q g _=>⟨JD M 0 O,Ow M O Z,e.ows,Qds,by
  rw [Jv U O F];exact g.mono (λd I v W s k r=>I v W s (λz=>by cases z) r) λc z=>z.mono Yw⟩
 obtain ⟨O,L,k1,k2,k3⟩:=h;refine ⟨.ref l,u,.inl ⟨rfl,xs,SqL.of hl⟩,O,L,k1,k2,k3.imp λd I v H1 s1 kk r1=>?_⟩;simp only [tNil];obtain ⟨ys,g1,g2,g3⟩:=I v H1 s1 kk r1;exact ⟨l,ys,v,rfl,rfl,g1,g2,g3⟩
end
inductive gS(X:Cx)(M:Aq)(H0:Hp)(ts:Aq)(nt:Nat)(v:V)(σ:Bf)(H:Hp)(Q:(L2.St->Hp->Prop)):Prop where
 |mk:∀env d new,EnvOk X.K M H0 H σ env->Rep X.K (hid (Ow M env σ) H) d v->JT nt d=.ok new->(∀σ',EnvOk X.K M H0 H σ' (pA ts new env)->Ow M (pA ts new env) σ'=Ow M env σ->Q σ' H)->gS X M H0 ts nt v σ H Q
section
variable{U:Ae}{z:Str}{l:Nat}{p3:Pos}
def JtV(C:Ao)(hi:N[i]? =So x)(F:locB nm x=To)(g:i∉M):PG X B0 Qai:=by obtain⟨h1,q⟩:=C.sto x F;rintro Y s Z H v u Q I r⟨O,d,B,e,rd,f,h⟩;refine zI (pos:=pos) (i:=i) (by rw[C.hN];exact C.nd) (by rw[C.hN];exact hi) h1 q Y s Z H v u Q I r ?_;simp only[JT,if_true]at f;cases f;exact h _ (e.put g rd) (fC g)
def JvC(C:Ao)(hi:N[i]? =So x)(hx:locB nm x=To)(B:i∉M)(hj:N[j]? =So y)(hy:locB nm y=To)(g:j∉M):PG X TV OG:=by
 obtain⟨h1,h2⟩:=C.sto x hx;obtain⟨h3,h4⟩:=C.sto y hy;rintro Y s Z H v u Q I r⟨O,d,new,e,rd,f,h⟩;refine JqF (pos:=pos) XH (mR (zI (i:=i) (pos:=p1) (by rw[C.hN];exact C.nd) (by rw[C.hN];exact hi) h1 h2) (mR (zI (i:=j) (pos:=p2) (by rw[C.hN];exact C.nd) (by rw[C.hN];exact hj) h3 h4) Jme)) rfl rfl Y s Z H v u Q I r ?_;unfold JT at f;rw[if_neg 'E']at f;cases d with
 |tup J=>
  dsimp only at f;rw[if_neg 'E']at f;split at f
  ·rename_i hd;cases f;obtain⟨a,xs,rfl,hq,hr⟩:=rd;match J,hd with
   |[d0,d1],_=>obtain⟨F,r0,e0,k0,q,r1,e1,k1,e2⟩:=hr;subst e1;subst e2;subst e0;exact⟨a,[F,q],rfl,SqT.same hid_same hq,rfl,F,[q],rfl,q,[],rfl,rfl,h _ ((e.put B k0).put g (by rw[fC B];exact k1)) (by rw[show pA [i,j] ([d0,d1].map So) O=(O.set i (So d0)).set j (So d1)from rfl,fC g,fC B])⟩
  ·cases f
 |_=>cases f
theorem Jol{g:Sx}{ts:Aq}{nt:Nat}{D:Ends}{J:Fl}{J9:It}(e:On)(s1:Iq)
  (wk:∀F W,Chg DV BQ H1 F W->Ows F W->(∀i,i<Ac->J9.go i W)/\J9.stop Ac W/\∀i x H'',i<Ac->J9.yld i W x H''->Same W H''/\∃d,J[i]? =So d/\Rep X.K (hid F H'') d x)
  (h:(forL ts nt QaR J O).Good Tf Y3):
  ∃W9:Nat->Nat->L2.St->Hp->Prop,(∃m,W9 0 m Z H1)/\∀i m Z H,W9 i m Z H->(J9.stop i H/\D.nx Z H)\/(J9.go i H/\∃Nn:L2.St->Hp->Prop,(∀σ' W,Nn σ' W->∃m',m'<m/\W9 Bq m' σ' W)/\
   ∀x W,J9.yld i H x W->gS X M H0 ts nt x Z W λB I=>tS X U M H0 g {D with nx:=Nn,ct:=Nn,bk:=D.nx} B I):=by
 refine⟨λi m σ' W=>∃u,EnvOk X.K M H0 W σ' u/\Chg DV BQ H1 (Ow M u σ') W/\i<=Ac/\m=Ac-i/\(forL ts nt QaR cE u).Good Tf Y3,
  ⟨Ac,O,e,Chg.of LS,mB _,rfl,by simpa using h⟩,?_⟩
 rintro i m σ' W⟨u,e',c',hi,rfl,C⟩;obtain⟨w1,w2,w3⟩:=wk _ W c' e'.ows;have cH:∀{F:A1}{Hz:Hp},Chg DV BQ H1 F Hz->Chg DV BQ H F Hz:=λz=>((Chg.of (m:=Fo) s1).trans z).weak λq=>by rw[q];rfl
 by_cases hlt:i<Ac
 ·refine .inr ⟨w1 i hlt,λB I=>∃m',m'<Ac-i/\∃u,EnvOk X.K M H0 I B u/\Chg DV BQ H1 (Ow M u B) I/\i+1<=Ac/\m'=Ac- Bq/\(forL ts nt QaR G4 u).Good Tf Y3,λB I q=>q,λx I hy=>?_⟩;obtain⟨s2,d,hd,rd⟩:=w3 i x I hlt hy;rw[sR hd]at C;simp only[forL]at C;replace C:=Rs.gB.mp C;cases hb:JT nt d with
  |sk=>rw[hb]at C;exact C.elim
  |ex c=>exact(gM hb).elim
  |ok new=>
   rw[hb]at C;refine⟨u,d,new,e'.grow s2,rd,hb,λσ3 e3 ow3=>⟨pA ts new u,e3,(Rs.gB.mp C).imp λr hr=>?_⟩⟩;have c2:Chg DV BQ H1 (Ow M u σ') I:=(c'.trans (n:=Fo) (Chg.of s2)).weak λq=>by rw[q];rfl
   have cc:∀{F:A1}{Hz:Hp},Chg DV (Ow M (pA ts new u) σ3) I F Hz->Chg DV BQ H1 F Hz:=λz=>by rw[ow3]at z;exact(c2.trans z).weak λq=>by rw[q];rfl
   obtain⟨f,env4⟩:=r;cases f with
   |nx=>exactλσ4 H4 e4 c4=>⟨_,by lia,env4,e4,cc c4,by lia,rfl,hr⟩
   |ct=>exactλσ4 H4 e4 c4=>⟨_,by lia,env4,e4,cc c4,by lia,rfl,hr⟩
   |bk=>exactλσ4 H4 e4 c4=>hr σ4 H4 e4 (cH (cc c4))
   |rt d=>exact hr
 ·have he:i=Ac:=by lia
  subst he;rw[gN]at C;exact .inl ⟨w2,C σ' W e' (cH c')⟩
variable{iter:Expr}{body:BH}{src:Px}{sb:Sx}{ts:Aq}{nt:Nat}
def Jts(C:Ao)(hp:Nk)(hi:PI X tg iter (tW X U src))(hg:Qbq)(hb:PSs X body (tS X U M H0 sb))(g:sepP M src=To)
  (hs:∀x,foldedSetIterable iter QL x=pure x):PS X (.For tg iter body [] pos) (tS X U M H0 (.loop Fo ts nt src sb)):=by
 refine PS.weak (yV hp XH (Juo hi) hg hb hs) λD Z H⟨O,e,h⟩=>KY;rw[Jv U O g];refine(Rs.gB.mp h).mono (λd r=>?_) λc z=>z.mono Yw;cases d with
 |lst J=>simp only[Pu.D.asL,Rs.bo,uB,Zo,ZN]at r;refine⟨J,rfl,λJ9 W F kk w ok=>Jol (U:=U) (e.grow F) F (λL' B q ow=>?_) r⟩;have sh:Same cG (hid L' B):=q.1.hid;obtain⟨a1,a2,a3⟩:=w B (sh.trans hid_same);refine⟨a1,a2,λi x f hi I=>⟨(a3 i x f hi I).1,?_⟩⟩;have u:=ok L' i B x f ow I;exact((w _ sh).2.2 i x _ hi u).2
 |_=>exact r.elim
end
def spI(K:Aj)(mg:Bi)(U:Ae)(g:Nat):Sp:=λf H Q E=>∃J,Reps K H J f/\(U g J).Good (λd=>∀v W,Same H W->Rep K W d v->Q v W) (λc=>∀C W,mg c=So AX->Same H W->E AX No W)
theorem Room.out(r:Room k Ye):Room k A:=⟨r.hd,r.dp,by have:=r.un;simp only[Around.in1]at this;lia⟩
inductive Calleee(G:Gw)(call:Ae)(fi:Nat)(x:Str):Prop where
 |mk (kk:Nat) (f:Addr) (fd:FuncData) (ps:List Str) (h:FnOk G.prog G.w G.K G.mg G.base (CXr G.prog G.w) kk f fd ps (spI G.K G.mg call fi)/\Room kk G.A.in1.in1/\G.mg x=So (.ref f)/\PySem.W.keepIn G.K (.ref f)=To/\Binds G.K fd ps []):Calleee G call fi x
structure Callee(G:Gw)(U:Ae)(fi:Nat)(x:Str):Prop where
 ex:Calleee G U fi x
section
variable{U:Ae}{es:Cy}{fi:Nat}
def Jtl(C:Ao)(g:Callee G U fi x)(hg:gloB nm x=To)(hdb:Gi)(ha:Ec)(he:Co)
  (hpl:Dd):PE X S0 (tI X U (.call fi p)):=by
 obtain⟨kk,f,fd,ps,F,q,hm,hk,hb⟩:=g.ex;have q:=Room.out q;have hG:=C.g;subst hG;have hp:oZ Kx X (λcls _ W=>∀C,cls=.ref C->XE X C W):=λY Z H s e s' I g=>by obtain⟨a,C,W,rfl,F,hE⟩:=pM I g;exact hE C rfl a s' F
 refine PE.weak (lX F q (C.glo x hg) hm hk hb .nil hp ha hdb he hpl) λZ H Q⟨O,r,h⟩=>Dl;refine(Rs.gB.mp h).imp λd hd=>?_;cases d with
 |lst J=>simp only[D.asL,Rs.bo]at hd;refine Uq;show spI X.K X.mg U fi (vs++[]) W Q _;rw[xD];exact⟨J,rs,hd.mono (λd o v u s2 rv=>o v u (s.trans s2) rv) λc z C u B s2 C' e=>by cases e;exact z C u B (s.trans s2)⟩
 |_=>exact hd.elim
end
def Jgu{d:D}(h:(Jx n J)[i]? =So BG):J[i]? =So d:=by
 unfold Jx at h;by_cases f:i<Ac
 ·rw[vE (by simpa using f),jC]at h;cases q:J[i]? with
  |none=>rw[q]at h;cases h
  |some g=>rw[q]at h;cases h;rfl
 ·rw[xE (by simpa using f),uJ]at h;split at h<;>cases h
section
variable{mg:Bi}{base:Heap}{defs:BW}{fi:Nat}{d:DefD}
theorem wM{vs:Av}(B:d.slots=Xr)(hl:Ac<=Xr)(I:∀i∈M,Ac<=i)(r:Reps K H J vs):EnvOk K M H H QG D0:=by
 have l:=Xz;have get:∀(i:Nat)(f:D),(Jx Yc J)[i]? =So (So f)->∃v,(L2.pB N vs)[i]? =So Bj/\Rep K H f v:=λi f h=>by have h':=Jgu h;obtain⟨v,u,F⟩:=r.get h';refine⟨v,?_,F⟩;have g:i<AA:=(Zz.mp u).1;unfold L2.pB;rw[vE (by simpa using g),jC,u];rfl
 have no:∀(i:Nat)(f:D),i∈M->(Jx Yc J)[i]? =So (So f)->False:=λi f g h=>by have h':=Jgu h;have:=(Zz.mp h').1;have:=I i g;lia
 have C:Ow M D0 QG=[]:=by
  cases q:Ow M D0 (L2.pB N vs)with
  |nil=>rfl
  |cons b t=>obtain⟨i,g,f,u,_⟩:=mem_Ow.mp (show b∈Ow M D0 QG by rw[q];simp);exact(no i f g u).elim
 refine⟨Same.refl H,?_,λi f _ h=>by rw[C,JH];exact get i f h,λi f g h=>(no i f g h).elim,λi j l U d2 g _ _ h=>(no i U g h).elim⟩;unfold L2.pB Jx;rw[Zm,Zm,Zj,Zj,iH,iH,B,l]
structure HX(X:Cx)(nm:A8):Prop where
 sc:X.env.scope.names=nm
 pass:PassesOwn As X.A QL X.xe
 stk:X.stack=QL::X.outer
 frm:X.env.frame=So AD
 ex:X.ex=[]
theorem JtW{qual:Str}{f:Addr}{fd:A7}{ps:Ag}(F:D7)(S:Ky)(hd:defs[fi]? =So d)(hs:d.slots=Xr)(hp:d.params=Aw)(hM:∀i∈M,Aw<=i)(hpN:Aw<=Xr)
  (B:∀(X:Cx)(A:Bd)(H0:Hp),Ctx X An N 'Š'.names->Room j A->HX X 'Š'.names->PSs X Df (tS X BR M H0 XF)):
  FnOk P w K mg base B8 (j+1) f fd ps N8:=by
 have U:∀J,runD defs A4 fi J=if Ac=Yy then Jf (exD BR XF D0)else .sk:=λJ=>by
  simp only[runD,hd]
 obtain⟨oc,od,kV,doc,pm,an,cdv,ct,osl,rfl,lk,hcd⟩:=F.ex
 refine pK lk hcd S (λvs H Q E h=>?_) (λA I s H vs Q E hr h=>?_)
 ·obtain⟨J,r,g⟩:=h
  rw[U]at g
  split at g
  ·rename_i q
   rw[r.length,q,hp]
  ·exact g.elim
 ·obtain⟨J,r,g⟩:=h
  rw[U]at g
  split at g
  ·rename_i q
   have C:Ctx (cxOf B8 P w K mg base N qual B1 f cdv A I s H E) ⟨P,w,K,mg,base,A.deeper Hs⟩ N 'Š'.names:={
    g:=rfl
    hN:=rfl
    nd:=S.nd
    vis:=λy u=>by
     show Vis B1 y
     unfold visB at u
     split at u
     ·rename_i z;exact .inl z
     ·rename_i z;exact .inr Fc
     ·rename_i z;exact .inr Gq
     ·cases u
    cel:=λy u=>by
     show(Ja st).names.lookup y=So .cell\/(Ja st).names.lookup y=So .free
     unfold celB at u
     split at u
     ·rename_i z;exact .inl z
     ·rename_i z;exact .inr z
     ·cases u
    glo:=λy u=>by
     show(Ja st).names.lookup y=So .globalImplicit
     unfold gloB at u
     split at u
     ·rename_i z;exact z
     ·cases u
    sto:=λy u=>by
     show Loc B1 y/\(To=To\/_)
     unfold locB at u
     split at u
     ·rename_i z;exact SJ
     ·rename_i z;exact SI
     ·cases u
    calm:=rfl
    un:=hr.units
    fr:=SW}
   refine⟨_,B _ _ H C hr Na,Jx Yc J,wM hs Ad (λi hi=>by have:=hM i hi;lia) r,?_⟩
   cases q2:exD BR XF D0 with
   |ok r2=>
    rw[q2]at g
    obtain⟨fl,env2⟩:=r2
    cases fl with
    |nx=>exactλσ' W e' _=>g .non W e'.same rfl
    |rt dd=>exactλv W s' r'=>g v W s' r'
    |bk=>exact g.elim
    |ct=>exact g.elim
   |ex c=>
    rw[q2]at g
    exactλC2 H2 hm s2 a s' F=>uR F QbM
   |sk=>rw[q2]at g;exact g.elim
  ·exact g.elim
def Jni{f:Addr}{fd:A7}{ps:Ag}:FnOk P w K mg base B8 0 f fd ps Uv:=
 ⟨λr H Q E⟨_,_,h⟩=>Z1,λA g s H q u r Q E _ _ _ _⟨_,_,h⟩=>Z1⟩
end
noncomputable def lI:D->String
 |.non=>"NoneType"
 |.bl _=>"bool"
 |.int _=>"int"
 |.str _=>"str"
 |.tup _=>"tuple"
 |.lst _=>"list"
 |_=>""
def JoT{Q:Au}{c:Al}{k:Bool}{d:D}{x:V}{u:Al}(I:Bw)(r:Rep X.K H d x)(f:RelV x u)(U:lI d≠"")
  (e:PySem.W.kitOne X.K Qcp c=So k) (h:∀F,Q (.bool k) {s with toks:=F}):wpAny As A (PySem.call S5 [u,c]) Q E s:=by
 cases d with
 |non=>cases r;cases(show u=Xq from f);exact uF PySem.W.kitx_none Yf gA e (λz=>nomatch z) h
 |bl y=>cases r;cases(show u=Value.bool y from f);exact uF PySem.W.kitx_bool Yf gA e (λz=>nomatch z) h
 |int i=>cases r;obtain⟨t,rfl⟩:=f;exact uF PySem.W.kitx_int Yf gA e (λz=>nomatch z) h
 |str y=>cases r;obtain⟨t,rfl⟩:=f;exact uF PySem.W.kitx_str Yf gA e (λz=>nomatch z) h
 |tup J=>obtain⟨a,xs,rfl,C,_⟩:=r;cases(show u=Value.ref a from f);obtain⟨q,_,p,_⟩:=I.tuple C;obtain⟨o,g,B,_⟩:=p;exact uF PySem.W.kitx_tuple Yf ⟨o,g,B⟩ e (λz=>nomatch z) h
 |lst J=>obtain⟨a,xs,rfl,C,_⟩:=r;cases(show u=Value.ref a from f);obtain⟨q,_,p,_⟩:=I.list C;obtain⟨o,g,B,_⟩:=Yj;exact uF PySem.W.kitx_list Yf ⟨o,g,B⟩ e (λz=>nomatch z) h
 |_=>exact absurd rfl U
example (K:Aj):PySem.W.kitOne K (.type "str") Mp=So Fo:=by
 first|rfl|decide|(unfold PySem.W.kitOne PySem.W.kitCls;simp)
section
variable{U:Ae}{a:Expr}
def qP(o:O1)(T:Ba):Prop:=∀(K:Aj)(d:D),(lI d≠""/\∃k,PySem.W.kitOne K Qcp Ey=So k/\op1 o d=.ok (.bl k))\/op1 o d=.sk
def Jmq:qP .isStr "str":=λK d=>by cases d<;>first|exact .inl ⟨by simp[lI],_,by rfl,by rfl⟩|exact .inr rfl
def JsT:qP .isTup "tuple":=λK d=>by cases d<;>first|exact .inl ⟨by simp[lI],_,by rfl,by rfl⟩|exact .inr rfl
def Jtq{T:Ba}(hi:qP o T):nA X S5 (λxs H Q=>∃x d,xs=[x,.ty T]/\Rep X.K H d x/\(op1 o d).Good BY BE):=by
 rintro Y s Z H xs us Q I C⟨x,d,e,r,h⟩;subst e;obtain⟨u1,u,rfl,g,B⟩:=dU C;cases(show u=Value.type T from B);rcases hi X.K d with⟨hp,k,e1,f⟩|e;rotate_left
 ·rw[e]at h;exact h.elim
 rw[f]at h;exact JoT I r g hp e1 λF=>⟨.bl k,H,I.kept (t':=F) (λ_ _ q=>q),rfl,Out.now h rfl⟩
def cIsi{T:Ba}(hi:qP o T)(C:Ao)(hm:G.mg "isinstance"=No)(I:G.mg y=No)(hv:bootBuiltins y=So Ey)(ha:AG)(hg:gloB nm "isinstance"=To)(g:gloB nm y=To)(hn:y≠"__name__")(f:(y==Xk)=Fo)
  (B:starEach [a,.Name y p2] QL=NB::starEach [.Name y p2] QL):PE X (.Call Qj [a,.Name y p2] [] pos) Sy:=by refine PE.weak (rM (Jtq hi) CY (by rw[C.mg];exact hm) aW (Jq ha (Jq (Jlq (v:=.ty T) (C.glo _ g) (by rw[C.mg];exact I) hv rfl hn f) JP rfl) B) Ab Ab B rfl) λZ H Q u=>?_;obtain⟨O,r,h⟩:=u;refine⟨O,r,'Ĝ'.imp λd F v W s rv=>?_⟩;exact⟨v,d,rfl,rv,F.mono SA λ_ q=>q.mono s⟩
def nK{a:Addr}(f:ModT K y a){its:AF}{sl:EJ}(v:K.lookup a=So ⟨.type "tuple",No,.seq AU n,sl⟩)(hz:BV<=1000)(r:GS)(rs:∀H,Reps K H J xs)(H:Hp):Rep K H Gr Ax:=
 ⟨a,xs,rfl,.inr ⟨y,_,AU,n,f,v,rfl,rfl,rfl,wG (ZA (by simpa using hz) A9),by simpa using r⟩,rs H⟩
end
noncomputable def oF (es:List (Int×Value)):List Str:=es.map λe=>strOf e.2
def TS(prog:Be)(w:A0)(lb:Bool)(h:Heap)(a:Addr)(ks:Ag):Prop:=
 ∃o es ep t,(h.get? a=So o/\o.ExactSet/\o.data=.set es ep t)/\ElemsOf 'č' Yp/\(t.fits Xm=To/\es.size<scanBound)/\t.led=lb/\(es.size≠0->t.plain=Fo)/\(oF Yp).Perm ks/\ks.Nodup
def TS.stay(x:QaF)(k:∀o,h.get? a=So o->h'.get? a=So o):TS prog w lb h' a ks:=
 let⟨o,es,ep,t,⟨e,f⟩,g⟩:=x
 ⟨o,es,ep,t,⟨k o e,f⟩,g⟩
def TS.there(x:QaF):∃o,h.get? a=So o:=let⟨o,_,_,_,⟨e,_⟩,_⟩:=x;⟨o,e⟩
def Jlb(t:El)(n:Nat):(t.orStandIn n).led=t.led:=by unfold SetTable.orStandIn;split<;>rfl
def Jrp(t:El)(es:Ka)(h:Int)(x:Al):(layNew t es h x).2.1.led=t.led:=by
 unfold layNew;split
 ·exact Jlb ..
 ·rfl
def Jms(t:El)(es:Ka)(n:Nat):(relayAll t es n).2.1.led=t.led/\(t.plain=Fo->(relayAll t es n).2.1.plain=Fo):=by
 unfold relayAll;split
 ·rename_i g f q;have e:g.led=t.led/\g.plain=t.plain:=by
   unfold SetTable.relaid SetTable.laid at q;cases r:SetTable.layClean (SetTable.sizeAbove n-1) (es.map (·.1))with
   |none=>rw[r]at q;cases q
   |some u=>rw[r]at q;cases q;exact Dr
  dsimp only;split
  ·exact⟨e.1,λz=>e.2.trans z⟩
  ·exact NF
 ·exact NF
def uV{k:Str}{v:Al}(h:'č'.is k v=To):∃t,v=.str k t:=Value.isStrOf_shape h
def JuQ{es:List (Int×Value)}(h:ElemsOf 'č' es)(k:Str):k∈oF es↔∃e∈es,'č'.is k e.2=To:=by
 unfold oF;rw[Zy];constructor
 ·rintro⟨e,g,rfl⟩;obtain⟨⟨r,f,_⟩,_⟩:=h e g;obtain⟨t,q⟩:=uV f;refine⟨e,g,?_⟩;rw[q]at f⊢;exact f
 ·rintro⟨e,g,f⟩;obtain⟨t,q⟩:=uV f;exact⟨e,g,by rw[q];rfl⟩
def JiO{o:Obj}{f:Ka}{t t':El}(ho:s.heap.get? a=So o)(B:o.ExactSet)(r:o.data=.set es ep t)
  (h1:ElemsOf 'č' f.toList) (F:t'.fits f.size=To) (h3:f.size<scanBound) (U:t'.led=lb) (u:t'.plain=Fo) (I:(oF f.toList).Perm ks) (C:ks.Nodup):
  TS prog w lb '丼' a ks/\(s.heap.update a Th).get? a=So {o with data:=.set f (ep+1) t'}:=by
 have g:'丼'.get? a=So {o with data:=.set f (ep+1) t'}:=by have q:=ZY Th ho (by rw[putSet_of f t' r];rfl);rwa[putSet_of f t' r]at q
 exact⟨⟨_,f,ep+1,t',⟨g,B,rfl⟩,h1,⟨F,h3⟩,U,λ_=>u,I,C⟩,g⟩
def JmE{b:Bool}{Q:C8}(h:Q () s):wpAny Ar A (match b with|true=>rule "set.scan.the-table-gave-way"|false=>pure ()) Q E s:=by
 cases b
 ·exact Zb h
 ·exact qB h
theorem Jua{tk:Tok}{Q:Bool->Shared->Prop}(hS:TS prog w lb Re a ks)(hb:Ay+1<scanBound)
  (h:∀b h',Heap.SameBut a Re h'->TS prog w lb h' a (if x∈ks then ks else ks++[x])->Q b {s with heap:=h'}):wpAny Ar A (setAddHashed a FC (hashStr w x)) Q E s:=by
 obtain⟨o,es,ep,t,⟨U,hx,hd⟩,f,⟨hf,hz⟩,hl,hp,hk,hn⟩:=hS;have hlen:es.size=Ay:=by have:=hk.length_eq;simpa[oF]using this
 have C:'č'.is x FC=To:=by simp[PySem.strKind,Value.isStrOf]
 have B:x∈ks↔∃e∈es.toList,'č'.is x e.2=To:=(hk.mem_iff).symm.trans (JuQ f x);have hh:hashStr w x='č'.hash x:=rfl;rw[hh];unfold setAddHashed setAddHashedIn;refine qA (Za (oH U hd hf ?_));dsimp only;rw[byScan_of rfl hz f];simp only[if_true];unfold setAddByScan;refine Za (Za (qB (Za (wpAny_setScan_of C U hd hf f ?_))));cases hr:List.findIdx? (λe=>'č'.is x e.2) Yp with
 |some j=>dsimp only;obtain⟨hj,hpj,_⟩:=List.findIdx?_eq_some_iff_getElem.mp hr;have g:x∈ks:=B.mpr ⟨_,List.getElem_mem hj,hpj⟩;refine Zb (Zb ?_);have q:=h Fo Re (Heap.SameBut.refl a Re) (by rw[if_pos g];exact⟨o,es,ep,t,⟨U,hx,hd⟩,f,⟨hf,hz⟩,hl,hp,hk,hn⟩);cases s;exact q
 |none=>
  dsimp only;have g:¬x∈ks:=λz=>by obtain⟨e,he,hp⟩:=B.mp z;have:=List.findIdx?_eq_none_iff.mp hr e he;rw[hp]at this;cases this
  rw[if_neg g]at h;have a1:=layNew_perm t es ('č'.hash x) FC;have a2:=layNew_fits t es ('č'.hash x) FC;have a3:=Jrp t es ('č'.hash x) FC;generalize layNew t es ('č'.hash x) FC=L at a1 a2 a3⊢;obtain⟨es1,t1,wd,gv⟩:=L;dsimp only at a1 a2 a3⊢;rw[Array.toList_push]at a1;have b1:ElemsOf 'č' es1.toList:=(f.push C rfl).perm a1;have b2:(oF es1.toList).Perm (ks++[x]):=by have c1:=a1.map λe:Int×Value=>strOf e.2;rw[gC]at c1;exact c1.trans (hk.append_right [x])
  have b3:(ks++[x]).Nodup:=by rw[List.nodup_append];refine⟨hn,by simp,λu hu v hv e=>?_⟩;rw[kC]at hv;subst hv e;exact g hu
  have b4:es1.size<scanBound:=by have:=b2.length_eq;simp only[oF,Zj,ZT,Zm,sE]at this;lia
  refine Za (JmE ?_);have F:∀t2:SetTable,t2.led=lb->t2.plain=Fo->t2.fits es1.size=To->wpAny Ar A (do
    storeSet a es1 t2;if(!wd&&t2.tooFull)=To then do
      (match(relayAll t2 es1 FO).2.2 with|true=>rule "set.scan.the-table-gave-way"|false=>pure ());storeSet a (relayAll t2 es1 FO).1 (relayAll t2 es1 FO).2.1;pure (So To)
     else pure (So To)) (λr s'=>wpAny Ar A (match r with
      |some I=>pure I
      |none=>setAddHashedIn a FC ('č'.hash x) 99999) Q E s') E s:=by
   intro t2 c1 c2 c3;refine Za (wpAny_storeSet_of U hd ?_ (fits_of_scanBound b4));obtain⟨T1,g1⟩:=JiO (s:=s) U hx hd b1 c3 b4 c1 c2 b2 b3;have u1:=qD Re a (Obj.putSet es1 t2);split
   ·have d1:=relayAll_perm t2 es1 FO
    have d2:=relayAll_fits t2 es1 FO;have d3:=Jms t2 es1 FO;generalize relayAll t2 es1 FO=R at d1 d2 d3⊢;obtain⟨es2,t3,gv2⟩:=R;dsimp only at d1 d2 d3⊢;refine Za (JmE ?_);have z2:es2.size=es1.size:=by simpa using d1.length_eq
    refine Za (wpAny_storeSet_of g1 rfl ?_ (fits_of_scanBound (by rw[z2];exact b4)));obtain⟨T2,_⟩:=JiO (s:={s with heap:=s.heap.update a (Obj.putSet es1 t2)}) g1 hx rfl (b1.perm d1) d2 (by rw[z2];exact b4) (d3.1.trans c1) (d3.2 c2) ((d1.map _).trans b2) b3;exact Zb (Zb (h To _ (u1.trans (qD _ a _)) T2))
   ·exact Zb (Zb (h To _ u1 T1))
  split
  ·refine Za ?_;rw[hashByValue_scannable 8 (x:=.str x tk) rfl];refine Zb ?_;exact F _ QdD rfl (SetTable.fits_plain_off a2)
  ·rename_i np;refine Za (Zb ?_);simp only[if_true];exact F _ QdD (by simpa using np) a2
noncomputable def addS (ks:Ag) (x:Str):List Str:=if x∈ks then ks else ks++[x]
def metS (ws:Ag):List Str:=ws.foldl addS []
def Jli(ws:Ag)(x:Str):metS (ws++[x])=addS 'Ў' x:=by unfold metS;rw[List.foldl_append];rfl
def Jne(val:Nat->Str)(i:Nat):metS ((List.range Bq).map val)=addS (metS ('ό'.map val)) Qax:=by rw[List.range_succ,gC];exact Jli _ _
def JoD(ws:Ag):∀(ks:Ag)(k:Str),k∈ws.foldl addS ks↔k∈ks\/k∈ws:=by
 induction ws with
 |nil=>intro ks k;simp
 |cons x ws f=>
  intro ks k;rw[xN,f];unfold addS;split
  ·rename_i h;constructor
   ·rintro(z|z)<;>simp[z]
   ·rintro(z|z)
    ·exact .inl z
    ·rcases Zg.mp z with rfl|z
     ·exact .inl h
     ·exact .inr z
  ·simp[or_assoc]
def Jja(ws:Ag)(k:Str):k∈metS ws↔k∈ws:=by rw[metS,JoD];simp
theorem JnA(ws:Ag):∀ks:List Str,'亿'.length<=Ay+ws.length:=by
 induction ws with
 |nil=>intro ks;simp
 |cons x ws f=>
  intro ks;rw[xN];have:=f (addS ks x);have g:(addS ks x).length<=Ay+1:=by unfold addS;split<;>simp
  simp only[Zi];lia
def pY(ws:Ag):'Ў'.length<=ws.length:=by have:=JnA ws [];simpa[metS]using this
section
variable{R:FV}{I:Addr}{fp wr:A1}{G:Array GenState->Array GenState->Prop}{P:Nat->Value->Prop}{St:Nat->Shared->Prop}
theorem JrA(W9:WalksS prog w XB I fp wr G n P St)(S:Addr)(hSf:S∉fp)(val:Nat->Str)(hval:∀i v,P i v->∃t,v=.str Qax t)(u:n+1<scanBound):
  ∀(k i:Nat)(s:Ak),n-i=k->i<=n->St i s->TS prog w lb Re S (metS ('ό'.map val))->
   (∀f,Moved (S::wr) G s f->TS prog w lb f.heap S (metS ('Ժ'.map val))->R N7 f)->codeAny Ar A (.builtin "set.update.loop" ⟨[.ref S,.ref I],[]⟩) R s:=by
 have g:S∉wr:=λh=>hSf (W9.sub _ h);have q:∀b∈wr,b∈S::wr:=λb u=>Zq _ u;intro k;induction k with
 |zero=>
  intro i s hk hi r hS hR;obtain rfl:i=n:=by lia
  refine wC dC ?_;rw[sD rS _];show wpAny _ XB (pyNext (.ref I)>>=_) _ _ s;refine Za (W9.done s _ _ r λf hm=>?_);show wpAny _ XB (ret Xq) _ _ f;exact Zb (hR f (hm.mono q) (hS.stay λo e=>hm.heap S o g e))
 |succ k ih=>
  intro i s hk hi r hS hR;have hlt:i<n:=by lia
  refine wC dC ?_;rw[sD rS _];show wpAny _ XB (pyNext (.ref I)>>=_) _ _ s;refine Za (W9.item i s _ _ hlt r λv f hP B hm=>?_);obtain⟨t,rfl⟩:=hval i v hP;have hS':=hS.stay λo e=>hm.heap S o g e;show wpAny _ XB (holding [Value.str Qax t] (setAdd S (.str Qax t))>>=_) _ _ f;refine Za (qA ?_);unfold setAdd;refine qA (Za ('č'.pyHash (k:=val i) (by simp[PySem.strKind,Value.isStrOf]) ?_));have room:(metS ('ό'.map val)).length+1<scanBound:=by have:=pY ('ό'.map val);simp only[Zj,jN]at this;lia
  refine Jua (s:={f with toks:=f.toks+1}) hS' room λ_ h' U hS2=>?_;have hSi:TS prog w lb h' S (metS ((List.range Bq).map val)):=by rw[Jne];exact hS2
  refine Zb ⟨pD rS _,ih Bq _ Ad hlt (W9.frame _ f _ _ B (yA _) λb u o e=>?_) hSi λs'' C hS''=>?_⟩
  ·rw[U.2 b (λh:b=S=>hSf (by rw[<-h];exact u))];exact e
  ·refine hR s'' (Moved.trans W9.gtrans ((hm.mono q).then_heap (yA _) λb o u e=>?_) C) hS'';rw[U.2 b (λh:b=S=>u (by rw[h];exact zJ))];exact e
end
noncomputable abbrev byT (w:A0):Bool:=w.params.followText "set-order"
noncomputable abbrev newS (w:A0):Obj:={cls:=.type "set",dict:=No,data:=.set #[] 0 (.fresh 0 0 (!byT w))}
def JsE(a:Al){Q:Au}(h:Q E5 {s with heap:=s.heap.push (newS w)}):codeAny Ar A (.call (.builtin "set.__new__") S2) (wants Q E) s:=by refine codeAny_of_tree ?_;show wpAny _ XB (do checkBuiltinCall "set.__new__" S2;again (.builtin "set.__new__" S2)) _ _ s;refine Za (wpAny_of_eq (F.newCall_set_1 a) (Zb ⟨pD F.plain_set_new _,wC F.entry_set_new ?_⟩));rw[sD F.plain_set_new _];unfold Builtin.«set.__new__» Builtin.Frozenset.newClass;have sub:=sub_set_self;obtain⟨r,g,d,q,f⟩:=s;dsimp only;wp_walk;refine mH (Zb ?_);dsimp only;simp only[newObj];refine Za (wpAny_alloc (Zb (Zb h)))
def Jnb{ws:Ag}{Q:Au}(hh:Bk)(hl:Oq)(hi:StrsAre items.toList ws)(hb:AC+1<scanBound)
  (h:∀(h':Heap)(tk:Nat),TS prog w (!byT w) h' Aa (metS ws)->(∀b o,b<Aa->s.heap.get? b=So o->h'.get? b=So o)->Q E5 {s with heap:=h',toks:=tk}):
  wpAny Ar A (call QF [.ref l]) Q E s:=by
 obtain⟨c,tl,hmro⟩:=F.called_set.mro;have hmade:=F.called_set.made;have hsub:=F.called_set.sub;refine sF (codeAny_of_tree ?_);show wpAny _ _ (callAny QF _) _ _ _;refine Zb ⟨Code.quiet_builtin _ Ab,wC F.entry_type_call ?_⟩;rw[Around.under_plain (weight_type_call_type "set" [.ref l] []) rfl];have h1:=F.called_set.notType;have h2:=F.called_set.canCreate;have hct:=F.typeCall_set_1 BC;repeat(any_goals(first|assumption|wp_step))
 refine mC (JsE BC (E:=E) (Q:=λobj B=>obj=.ref Aa/\B={s with heap:=s.heap.push (newS w)}) Dr) λr B hr=>?_;cases r with
 |error e=>exact hr
 |ok fl=>
  cases fl with
  |ret obj=>
   obtain⟨rfl,rfl⟩:=hr;have hS:'Ȍ'.get? Aa=So QcX:=Ze _ rfl;have hT:Shared.TypeIs {s with heap:=s.heap.push (newS w)} '7' "set":=⟨_,hS,rfl⟩;have hli:=F.called_set.init.lookup;have hbi:=F.called_set.init.bind E5;repeat(any_goals(first|assumption|wp_step))
   refine mC (yS (R:=wants (λr C=>r=.none/\∃h' tk,C={s with heap:=h',toks:=tk}/\TS prog w (!byT w) h' Aa (metS ws)/\
     (∀b o,b<Aa->s.heap.get? b=So o->h'.get? b=So o)) E) F.called_set.init.plain F.entry_set_init (check_set_init_1 hT ?_)) λr₂ C f=>?_
   ·obtain⟨ol,hol,hcl,nl,hdl⟩:=hl;obtain⟨ocls,I,odata,g⟩:=ol;simp only at hcl hdl;subst hcl;subst hdl;have hol':'Ȍ'.get? l=So {cls:=.type "list",dict:=I,data:=.seq items nl,slots:=g}:=Zc _ hol;have hsls:=F.sub_list_set;have hslf:=F.sub_list_frozenset;have hne:(Value.type "list"==Value.type "dict")=Fo:=by decide
    have hl1:'Ȍ'.IsList l items:=⟨_,hol',rfl,nl,rfl⟩;unfold Builtin.«set.__init__» noKeywords Builtin.Frozenset.updateFrom;generalize hPI:pyIter=PI;wp_walk;subst hPI;refine pH hl1 (Za (wpAny_runValue ?_));have hlS:l<Aa:=Zh hol;have hh3:A.in1.in1.in1.handled=No:=by simp[hh]
    have hneI:l≠(s.heap.push QcX).objs.size:=by rw[ZO];exact Zn (lB hlS)
    have hSf:Aa∉['Ȍ'.objs.size,l]:=by rw[ZO];simp only[Zg,ZC,fA,not_or];exact⟨Zn YD,nC hlS⟩
    have hlen:AC=ws.length:=by have:=hi.strs;rw[<-this];simp
    have hval:∀(i:Nat)(v:Al),items[i]? =So v->∃t,v=.str ((λi=>ws.getD i ⟨#[]⟩) i) t:=λi v hv=>by
     have hv':items.toList[i]? =So v:=by rw[sJ];exact hv
     obtain⟨x,t,e⟩:=hi.all v (gK hv');have q:=lA (λl:List Str=>l[i]?) hi.strs;simp only[jC,hv',wF]at q;refine⟨t,?_⟩;rw[e]at q⊢;simp only[vJ,<-q];rfl
    have hws:(List.range AC).map (λi=>ws.getD i ⟨#[]⟩)=ws:=by rw[hlen];refine eN Af λi h1 h2=>?_;simp[vJ,h2]
    refine JrA (lb:=!byT w) ((Walks.list hh3 _ l hneI items).toS) Aa hSf (λi=>ws.getD i ⟨#[]⟩) hval hb (AC-0) 0 _ Ad (mB _) ⟨CK,(hl1.push _)⟩ ?hS0 ?hR;case hS0=>
     refine⟨newS w,#[],0,.fresh 0 0 (!byT w),⟨Zc _ hS,Qcc,rfl⟩,λe he=>by simp at he,⟨rfl,by decide⟩,rfl,λz=>absurd rfl z,sN _,List.nodup_nil⟩
    case hR=>
     intro s' hm u;rw[hws]at u;obtain⟨h',g',d',tk',os'⟩:=s';have eg:g'=s.gens:=hm.gens;have ed:d'=s.drawn:=hm.drawn;have eo:os'=s.os:=hm.os;subst eg;subst ed;subst eo;show wpAny _ _ _ _ _ _;refine Zb ?_;show wpAny _ _ (ret Xq) _ _ _;refine Zb ⟨rfl,h',tk',rfl,u,λb o hb e=>?_⟩;have hb1:b≠Aa:=Zn hb;have hb2:b≠(s.heap.push QcX).objs.size:=by rw[ZO];exact Zn (lB hb)
     exact hm.heap b o (by simp only[Zg,ZC,fA,not_or];exact⟨hb1,hb2⟩) (Zc _ DS)
   ·cases r₂ with
    |error e=>exact f
    |ok U=>
     cases U with
     |ret r=>
      obtain⟨rfl,h',tk,rfl,u,hk'⟩:=f;repeat(any_goals(first|assumption|wp_step))
      exact h _ _ u hk'
     |_=>exact f.elim
  |_=>exact hr.elim
def JsY:entryFor table "set.__iter__"=So Builtin.«frozenset.__iter__»:=entryFor_alias (id':="frozenset.__iter__") (by kernel_rfl) rfl Ab (by kernel_rfl)
def yQ:entryFor table "set_iterator.__next__"=So Builtin.«set_iterator.__next__»:=entryFor_of_tree (by kernel_rfl)
def at_next:Slot "set_iterator" "__next__" "set_iterator.__next__":=.of (owner:="set_iterator") (n:="__next__") (by rw[vN,uO];kernel_rfl) Ab Ab Ab (by first|exact .inl Ab|exact .inr Ab) (by rw[rN];kernel_rfl)
def Jjn:Manifest.owners.lookup (String.ofList 'ǔ'.reverse)=So Manifest.sig_set_iterator:=by kernel_rfl
def eS(a:Al):argsOk "set_iterator.__next__" ⟨[a],[]⟩:=by unfold argsOk;rw[signature?_of (id:="set_iterator.__next__") (n:=['_','_','t','x','e','n','_','_']) (o:='ǔ') (by kernel_rfl) Jjn];kernel_rfl
def JkM{src:Source}{Q:Nat->Shared->Prop}(f:n≠0)(h:∀i d,i<n->Q i {s with drawn:=d}):wpAny Ar A (choose src n) Q E s:=λg p _=>⟨f,h _ _ (Nat.mod_lt _ (Nat.pos_of_ne_zero f))⟩
def xZ:∀(xs:List α)(i:Nat)(h:i<Ai),(xs[i]::xs.eraseIdx i).Perm xs
 |x::xs,0,h=>sN _
 |x::xs,i+1,h=>by
  simp only[List.getElem_cons_succ,List.eraseIdx_cons_succ]
  exact(List.Perm.swap ..).trans ((xZ xs i (by simpa using h)).cons x)
theorem Jjr:∀(n:Nat)(xs:List α)(s:Ak)(Q:List α->Shared->Prop),Ai=n->(∀f d,f.Perm xs->Q f {s with drawn:=d})->wpAny Ar A (drawOrder n xs) Q E s
 |0,[],s,Q,_,h=>by
  unfold drawOrder
  refine Zb ?_
  have:=h [] Yo (sN _)
  cases s;exact this
 |n+1,x::xs,s,Q,hl,h=>by
  unfold drawOrder
  refine Za (JkM Af λi d g=>?_)
  have q:(x::xs)[i]? =So (x::xs)[i]:=Zs g
  rw[q]
  dsimp only
  refine Za (Jjr n _ _ _ (by rw[List.length_eraseIdx_of_lt g];lia) λf r u=>Zb ?_)
  refine h _ r ?_
  exact(List.Perm.cons _ u).trans (xZ _ i g)
 |0,x::xs,s,Q,hl,_=>by simp at hl
 |n+1,[],s,Q,hl,_=>by simp at hl
theorem Jgv(next:Nat->Nat):∀(fuel k:Nat)(left:List α)(out:Array α),left.length=fuel->(pickOrder.go next fuel k left out).toList.Perm (out.toList++left)
 |0,k,left,out,h=>by
  have:left=[]:=qS.mp h
  subst this
  simp[pickOrder.go]
 |fuel+1,k,left,out,h=>by
  have f:next k % left.length<left.length:=Nat.mod_lt _ Ad
  unfold pickOrder.go
  rw[Zs f]
  dsimp only
  refine(Jgv next fuel A4 _ _ (by rw[List.length_eraseIdx_of_lt f];lia)).trans ?_
  rw[Array.toList_push,List.append_assoc]
  exact(List.Perm.append_left _ (xZ _ _ f))
def IsSI(h:Heap)(it:Addr)(first:Al)(i:Nat)(a:Addr)(n ep:Nat):Prop:=h.get? it=So {cls:=.type "set_iterator",data:=.fields #[first,.int i 0,.ref a,.int n 0,.int ep 0]}
structure SetAt(h:Heap)(a:Addr)(o:Obj)(es:Ka)(ep:Nat)(t:El):Prop where
 ho:h.get? a=So o
 hx:o.ExactSet
 hd:o.data=.set es ep t
 hf:t.fits Xm=To
def SetAt.stay{o:Obj}{t:El}(x:SetAt h a o es ep t)(k:∀o,h.get? a=So o->h'.get? a=So o):SetAt h' a o es ep t:=⟨k _ x.ho,x.hx,x.hd,x.hf⟩
section
variable{o:Obj}{t:El}
def IsSI.ty{h:Heap}{first:Al}{i n:Nat}{s:Ak}(x:Us):s.TypeIs B6 "set_iterator":=⟨_,x,rfl⟩
def JmK{Q:Fin->Shared->Prop}(f:Bk)(hE:∀h' e,(∀b o,s.heap.get? b=So o->h'.get? b=So o)->(∃o,h'.get? e=So o/\o.cls=.type "StopIteration")->E IA {s with heap:=h'}):
  wpAny Ar A (do raiseNew (<-newExc M8 [])) Q E s:=by refine Za ?_;simp only[newExc,newTuple];refine Za (ZE ?_ (by size_fits));refine Za (m:=firstArgMember _ _) (wpAny_of_eq (a:=Xq) (by first|rfl|(simp only[firstArgMember];rfl)) (ZE ?_ (by size_fits)));delta raiseNew;refine Za (wpAny_handled ?_);rw[f];refine Za (Zb (wpAny_throw ?_));exact hE _ _ PX FT
def JfK{nx:Nat}{x:Al}{Q:CN}(hit:VG)(g:GE)(f:∀(u:Au)(r:LX),r (So (x,nx)) s->wpAny Ar XB MP r u s)
  (B:∀h',IsSI h' it (.int nx 0) Bq a Xm ep->Heap.SameBut it Re h'->Q (So x) {s with heap:=h'}):wpAny Ar A Dm Q E s:=by unfold pyNext;refine Za (wB (ZK (name:=oS "__next__") (hit.ty (h:=Re)) at_next (ZF at_next (hit.ty (h:=Re)) yQ ?_ (eS _))));show wpAny _ _ (fieldsOf B6>>=_) _ _ s;refine Za (rE hit rfl ?_);show wpAny _ _ (setEntries a>>=_) _ _ s;refine Za (fK g.ho g.hd g.hf ?_);show wpAny _ _ (if(((Xm:Nat):Int)!=(Xm:Int))=To then _ else _) _ _ s;rw[if_neg 'k'];show wpAny _ _ (setNext a sl i ep>>=_) _ _ s;refine Za (f _ _ ?_);refine Za (rB hit rfl Af ?_);have q:(s.heap.update it (Obj.mapFields (·.setIfInBounds 0 (rawInt (nx:Int))))).get? it=So {cls:=.type "set_iterator",data:=.fields #[.int nx 0,.int i 0,.ref a,.int Xm 0,.int ep 0]}:=ZY _ hit rfl;refine Za (rB q rfl Af (Zb ⟨x,rfl,Zb (B _ ?_ ((qD ..).trans (qD ..)))⟩));exact ZY _ q rfl
def Jga{Q:CN}(I:Bk)(hit:VG)(q:GE)(f:∀(B:Au)(u:LX),u No s->wpAny Ar XB MP u B s)
  (U:∀h',(∀b o,b≠it->s.heap.get? b=So o->h'.get? b=So o)->Q No {s with heap:=h'}):wpAny Ar A Dm Q E s:=by unfold pyNext;refine Za (wB (ZK (name:=oS "__next__") (hit.ty (h:=Re)) at_next (ZF at_next (hit.ty (h:=Re)) yQ ?_ (eS _))));show wpAny _ _ (fieldsOf B6>>=_) _ _ s;refine Za (rE hit rfl ?_);show wpAny _ _ (setEntries a>>=_) _ _ s;refine Za (fK q.ho q.hd q.hf ?_);show wpAny _ _ (if(((Xm:Nat):Int)!=(Xm:Int))=To then _ else _) _ _ s;rw[if_neg 'k'];show wpAny _ _ (setNext a sl i ep>>=_) _ _ s;refine Za (f _ _ ?_);refine Za (rB hit rfl Af ?_);refine JmK I λh' e C he=>?_;obtain⟨F,r,g⟩:=he;refine Za (xF (T:="StopIteration") (b:=To) ⟨F,r,g⟩ nJ (Zb (U h' λb o hb e=>C b o ?_)));exact(ZR _ _ EM).trans e
def JjC{ord:B7}{e:Int×Value}{Q:CN}(hit:Vv)(f:GE)(g:s.heap.get? tp=So {cls:=.type "tuple",data:=.seq ord})(hj:ord[i]? =So (.int (j:Int) 0))(he:es[j]? =So e)
  (hQ:∀h',IsSI h' it (.ref tp) Bq a Xm ep->Heap.SameBut it Re h'->Q (So e.2) {s with heap:=h'}):wpAny Ar A Dm Q E s:=by
 unfold pyNext;refine Za (wB (ZK (name:=oS "__next__") (hit.ty (h:=Re)) at_next (ZF at_next (hit.ty (h:=Re)) yQ ?_ (eS _))));show wpAny _ _ (fieldsOf B6>>=_) _ _ s;refine Za (rE hit rfl ?_);show wpAny _ _ (setEntries a>>=_) _ _ s;refine Za (fK f.ho f.hd f.hf ?_);show wpAny _ _ (if(((Xm:Nat):Int)!=(Xm:Int))=To then _ else _) _ _ s;rw[if_neg 'k'];show wpAny _ _ (seqItems? (.ref tp)>>=_) _ _ s;refine Za (qC g rfl ?_);simp only[LD,hj];refine Za ?_;unfold setNextDrawn;refine Za (oH f.ho f.hd f.hf ?_);simp only[bne_self_eq_false,Zo,ZN,he];first|refine Za (Zb (Zb ?_))|refine Zb ?_
 refine Za (rB hit rfl Af (Zb ⟨e.2,rfl,Zb (hQ _ ?_ (qD ..))⟩));exact ZY _ hit rfl
def Jeh{ord:B7}{Q:CN}(F:Bk)(hit:Vv)(g:GE)(r:s.heap.get? tp=So {cls:=.type "tuple",data:=.seq ord})(hj:ord[i]? =No)
  (hQ:∀h',(∀b o,b≠it->s.heap.get? b=So o->h'.get? b=So o)->Q No {s with heap:=h'}):wpAny Ar A Dm Q E s:=by unfold pyNext;refine Za (wB (ZK (name:=oS "__next__") (hit.ty (h:=Re)) at_next (ZF at_next (hit.ty (h:=Re)) yQ ?_ (eS _))));show wpAny _ _ (fieldsOf B6>>=_) _ _ s;refine Za (rE hit rfl ?_);show wpAny _ _ (setEntries a>>=_) _ _ s;refine Za (fK g.ho g.hd g.hf ?_);show wpAny _ _ (if(((Xm:Nat):Int)!=(Xm:Int))=To then _ else _) _ _ s;rw[if_neg 'k'];show wpAny _ _ (seqItems? (.ref tp)>>=_) _ _ s;refine Za (qC r rfl ?_);simp only[LD,hj];refine Za (rB hit rfl Af ?_);have B:(s.heap.update it (Obj.mapFields (·.setIfInBounds 0 (rawInt 0)))).get? it=So {cls:=.type "set_iterator",data:=.fields #[.int 0 0,.int i 0,.ref a,.int Xm 0,.int ep 0]}:=ZY _ hit rfl;refine Za (rB B rfl Af ?_);refine JmK F λh' e u I=>?_;obtain⟨C,q,f⟩:=I;refine Za (xF (T:="StopIteration") (b:=To) ⟨C,q,f⟩ nJ (Zb (hQ h' λb o hb e=>u b o ?_)));exact(ZR _ _ EM).trans ('є'.trans e)
def JlY(f:GE)(g:byT w=To)(r:Au)(q:LX)(h:q (((pickOrder KQ es)[i]?).map λe=>(e.2,sl)) s):wpAny Ar A MP q r s:=by
 unfold setNext;refine Za (oH f.ho f.hd f.hf ?_);unfold setsByText;refine Za (Za (mH (Zb ?_)));show wpAny _ _ (if byT w=To then _ else _) _ _ s;rw[if_pos g];simp only[bne_self_eq_false,Zo,ZN];first|refine Za (Zb ?_)|skip
 unfold setWalk;refine Za (Za (oH f.ho f.hd f.hf ?_));unfold setsByText;refine Za (Za (mH (Zb ?_)));show wpAny _ _ (if byT w=To then _ else _) _ _ s;rw[if_pos g];refine Za (mH (Zb ?_));exact Zb h
def JpA(f:GE)(C:byT w=Fo)(h1:es.size<=1)(u:es.size=0\/t.led=To)(q:Au)(g:LX)
  (h:g (match es[SetTable.below QcH sl]?,t.place[SetTable.below QcH sl]? with
   |some (_,x),So j=>So (x,j+1)
   |_,_=>No) s):wpAny Ar A MP g q s:=by
 unfold setNext;refine Za (oH f.ho f.hd f.hf ?_);unfold setsByText;refine Za (Za (mH (Zb ?_)));show wpAny _ _ (if byT w=To then _ else _) _ _ s;rw[if_neg (by rw[C];decide)];have B:(!t.plain&&decide (Xm>1))=Fo:=by rw[Zx 'd',Bool.and_false]
 show wpAny _ _ (if(!t.plain&&decide (Xm>1))=To then _ else _) _ _ s;rw[if_neg (by rw[B];decide)];have r:(!t.led&&!es.isEmpty)=Fo:=by
  rcases u with z|z
  ·have:es.isEmpty=To:=by simpa[Array.isEmpty]using z
   rw[this];simp
  ·rw[z];rfl
 show wpAny _ _ ((if(!t.led&&!es.isEmpty)=To then _ else _)>>=_) _ _ s;rw[if_neg (by rw[r];decide)];refine Za (Zb (Zb h))
end
def JnV:entryFor table "set_iterator.__iter__"=So Builtin.«dict_keyiterator.__iter__»:=entryFor_alias (id':="dict_keyiterator.__iter__") (by kernel_rfl) rfl Ab (by kernel_rfl)
def JiA:Slot "set_iterator" "__iter__" "set_iterator.__iter__":=.of (owner:="set_iterator") (n:="__iter__") (by rw[vN,uO];kernel_rfl) Ab Ab Ab (by first|exact .inl Ab|exact .inr Ab) (by rw[rN];kernel_rfl)
def JjP(a:Al):argsOk "set_iterator.__iter__" ⟨[a],[]⟩:=by unfold argsOk;rw[signature?_of (id:="set_iterator.__iter__") (n:=['_','_','r','e','t','i','_','_']) (o:='ǔ') (by kernel_rfl) Jjn];kernel_rfl
section
variable{o:Obj}{t:El}
def jZ{first:Al}{Q:Au}(hit:Us)(h:Q B6 s):wpAny Ar A (pyIter B6) Q E s:=by refine yJ (hit.ty (h:=Re)) JiA (ZF JiA (hit.ty (h:=Re)) JnV ?_ (JjP _));show wpAny _ _ (ret B6) _ _ s;exact Zb ⟨_,rfl,"set_iterator",_,(hit.ty (h:=Re)),at_next.lookup,h⟩
def JmB(hh:Bk)(U:byT w=To)(u:a≠it):Walks prog w A it [it,a] [it] ('Ё'.toList.map (·.2)).length (λi v=>('Ё'.toList.map (·.2))[i]? =So v)
  (λi h=>IsSI h it (.int (0:Nat) 0) i a Xm ep/\SetAt h a o es ep t)where
 sub:=λb f=>by simp at f;simp[f]
 frame:=λi h h' st I=>⟨I it Af _ st.1,st.2.stay λo e=>I a Af o e⟩
 item:=λi s Q E hi st C=>by
  have g:i<(pickOrder KQ es).size:=by simpa using hi
  refine JfK (sl:=0) (nx:=0) (x:=(pickOrder KQ es)[i].2) st.1 st.2 (λr B q=>JlY st.2 U r B ?_) λh' g1 F=>?_
  ·rw[uE g];exact q
  ·refine C _ h' Xl ?_ ⟨g1,st.2.stay λo e=>(F.2 a u).trans e⟩ λb o f e=>(F.2 b λz=>f (by simp[z])).trans e
   rw[jC,sJ,uE g];rfl
 done:=λs Q E st C=>by
  refine Jga (sl:=0) hh st.1 st.2 (λr B q=>JlY st.2 U r B ?_) λh' k=>C h' Xl λb o f e=>k b o (λz=>f (by simp[z])) e
  rw[Array.getElem?_eq_none 'k'];exact q
 self:=λi s Q E st h=>jZ st.1 h
def JjO{ord:Aq}(U:Bk)(u:a≠it)(r:tp≠it)(ho:∀j∈ord,j<Xm):Walks prog w A it [it,a,tp] [it] (ord.map λj=>(es.getD j Qc9).2).length (λi v=>(ord.map λj=>(es.getD j Qc9).2)[i]? =So v)
  (λi h=>IsSI h it (.ref tp) i a Xm ep/\SetAt h a o es ep t/\h.get? tp=So {cls:=.type "tuple",data:=.seq (ord.map λj:Nat=>Value.int (j:Int) 0).toArray})where
 sub:=λb g=>by simp at g;simp[g]
 frame:=λi h h' st C=>⟨C it Af _ st.1,st.2.1.stay λo e=>C a Af o e,C tp Af _ st.2.2⟩
 item:=λi s Q E hi st q=>by
  have f:i<ord.length:=by simpa using hi
  have F:ord[i]<es.size:=ho _ (List.getElem_mem f)
  refine JjC (j:=ord[i]) (e:=es[ord[i]]) st.1 st.2.1 st.2.2 (by simp[f]) (uE F) λh' I B=>?_
  refine q _ h' Xl ?_ ⟨I,st.2.1.stay λo e=>(B.2 a u).trans e,(B.2 tp r).trans st.2.2⟩ λb o g e=>(B.2 b λz=>g (by simp[z])).trans e
  rw[jC,Zs f]
  simp[Array.getD,F]
 done:=λs Q E st q=>Jeh U st.1 st.2.1 st.2.2 Af λh' k=>q h' Xl λb o g e=>k b o (λz=>g (by simp[z])) e
 self:=λi s Q E st h=>jZ st.1 h
theorem Jns(hh:Bk)(hT:byT w=Fo)(C:a≠it)(h1:es.size<=1)(hl:es.size=0\/t.led=To):Walks prog w A it [it,a] [it] (es.toList.map (·.2)).length (λi v=>(es.toList.map (·.2))[i]? =So v)
  (λi h=>IsSI h it (.int ((if i=0 then 0 else t.place.getD 0 0+1:Nat):Nat) 0) i a Xm ep/\SetAt h a o es ep t)where
 sub:=λb f=>by simp at f;simp[f]
 frame:=λi h h' st hk=>⟨hk it Af _ st.1,st.2.stay λo e=>hk a Af o e⟩
 item:=λi s Q E hi st U=>by
  have g:i<es.size:=by simpa using hi
  have i0:i=0:=by lia
  subst i0
  have hsz:es.size=1:=by lia
  have I:t.place.size=1:=by
   have:=st.2.hf;simp only[SetTable.fits,Zd,ZB]at this;lia
  have f:SetTable.below QcH 0=0:=by
   unfold SetTable.below;rw[I];simp[SetTable.below.go]
  refine JfK (sl:=0) (nx:=t.place.getD 0 0+1) (x:=es[0].2) st.1 st.2 (λu F q=>JpA st.2 hT h1 hl u F ?_) λh' g1 g2=>?_
  ·rw[f,uE g,uE (show 0<t.place.size by lia)]
   have:t.place.getD 0 0=t.place[0]:=by simp[Array.getD,I]
   rw[this]at q;exact q
  ·refine U _ h' Xl ?_ ⟨g1,st.2.stay λo e=>(g2.2 a C).trans e⟩ λb o f e=>(g2.2 b λz=>f (by simp[z])).trans e
   rw[jC,sJ,uE g];rfl
 done:=λs Q E st U=>by
  rw[Zj,ZT]at st;refine Jga hh st.1 st.2 (λu F q=>JpA st.2 hT h1 hl u F ?_) λh' k=>U h' Xl λb o f e=>k b o (λz=>f (by simp[z])) e;have I:t.place.size=es.size:=by
   have:=st.2.hf;simp only[SetTable.fits,Zd,ZB]at this;exact this.1
  have r:es.size<=SetTable.below QcH (if es.size=0 then 0 else t.place.getD 0 0+1):=by
   by_cases z:es.size=0
   ·lia
   ·have z1:es.size=1:=by lia
    rw[if_neg z];have B:t.place.size=1:=by lia
    unfold SetTable.below;rw[B];have h0:t.place[0]? =So (t.place[0]'(by lia)):=uE Ad;simp[SetTable.below.go,h0,z1]
  rw[Array.getElem?_eq_none r];exact q
 self:=λi s Q E st h=>jZ st.1 h
def Jox{Q:Au}(hS:TS prog w (!byT w) Re a ks)(hk:Ay<=4000)
  (hQ:∀(h1:Heap)(d:Drawn)(I:Addr)(fp:A1)(vs:AF)(ks':Ag)(St:Ff),(∀b o,s.heap.get? b=So o->h1.get? b=So o)->(∀b∈fp,b=a\/s.heap.objs.size<=b)->Aa<=I->
   (∀A':Around,A'.handled=No->Walks prog w A' I fp [I] AA (λi v=>vs[i]? =So v) St)->St 0 h1->StrsAre vs ks'->ks'.Perm ks->Q (.ref I) {s with heap:=h1,drawn:=d}):wpAny Ar A Ia Q E s:=by
 obtain⟨o,es,ep,t,⟨f,hx,hd⟩,hel,⟨hf,hz⟩,hl,hp,hkp,hn⟩:=hS;have sa:SetAt Re a o es ep t:=⟨f,hx,hd,hf⟩;have hty:s.TypeIs Ax "set":=⟨o,f,hx.1⟩;have B:a<Aa:=Zh f;have allS:∀e∈es.toList,∃x u,e.2=.str x u:=λe he=>by obtain⟨⟨k,hk,_⟩,_⟩:=hel e he;obtain⟨u,q⟩:=uV hk;exact⟨k,u,q⟩
 have r:∀l:List (Int×Value),l.Perm es.toList->StrsAre (l.map (·.2)) ((l.map (·.2)).map strOf)/\((l.map (·.2)).map strOf).Perm ks:=λl pl=>by
  refine⟨strsAre_map _ λv hv=>?_,?_⟩
  ·obtain⟨e,he,rfl⟩:=Zy.mp hv;exact allS e (pl.mem_iff.mp he)
  ·rw[Zu];exact(pl.map _).trans hkp
 refine yJ hty Qea (ZF Qea hty JsY ?_ (F.args_set_iter_1 _));unfold Builtin.«frozenset.__iter__» Builtin.Frozenset.slot0 slotArgs;simp only[List.isEmpty_nil,Bool.not_true,Zo,ZN,bind_assoc,wD,bne_self_eq_false];unfold Builtin.Frozenset.addrOf Builtin.Frozenset.sizeOf;refine Za (Zb ?_);try dsimp only
 refine Za (Zb ?_);refine Za (Za (fK f hd hf (Zb ?_)));unfold setDrawn;refine Za (Za (oH f hd hf ?_));unfold setsByText;refine Za (Za (mH (Zb ?_)));refine Zb ?_;show wpAny _ _ (if(!byT w&&(!t.plain&&decide (Xm>1)))=To then _ else _) _ _ s;have z1:es.size<=sizeLine:=fits_of_scanBound hz;by_cases g:(!byT w&&(!t.plain&&decide (Xm>1)))=To
 ·rw[if_pos g];refine Za (Jjr _ _ _ _ Af λord d po=>?_);refine Za (wpAny_newTuple ?_ (by rw[Zj,po.length_eq,jN];exact z1));refine Za (wpAny_setEpoch_of (Zc _ f) hd hf ?_);refine Za (ZE (Zb Wo));have oj:∀j∈ord,j<es.size:=λj hj=>by simpa using po.mem_iff.mp hj
  have pl:((ord.map λj=>es.getD j Qc9)).Perm Yp:=by
   have c1:=po.map λj=>es.getD j Ig;refine c1.trans (List.Perm.of_eq ?_);refine eN Af λi h1 h2=>?_;have h3:i<es.size:=by simpa using h2
   simp[Array.getD,h3]
  obtain⟨C,U⟩:=r _ pl;have em:(ord.map λj=>es.getD j Ig).map (·.2)=ord.map λj=>(es.getD j Ig).2:=by rw[Zu];rfl
  rw[em]at C U;refine hQ _ d _ [_,a,Aa] _ _ _ PX (λb hb=>?_) ?_ (λA' hA=>JjO (tp:=Aa) (ord:=ord) hA ?_ ?_ oj) ⟨Ze _ rfl,sa.stay λo e=>Zc _ DS,Zc _ G0⟩ C U
  ·simp only[Zg,ZC,fA]at hb;rcases hb with rfl|rfl|rfl
   ·right;show _<=(Heap.push _ _).objs.size;rw[ZO];exact yA _
   ·exact .inl rfl
   ·exact .inr (Zf _)
  ·show _<=(Heap.push _ _).objs.size;rw[ZO];exact yA _
  ·show a≠(Heap.push _ _).objs.size;rw[ZO];exact Zn (lB B)
  ·show Aa≠(Heap.push _ _).objs.size;rw[ZO];exact Zn YD
 ·rw[if_neg g];refine Za (Zb ?_);refine Za (wpAny_setEpoch_of f hd hf ?_);refine Za (ZE (Zb Wo));have fpo:∀b∈[Aa,a],b=a\/s.heap.objs.size<=b:=λb hb=>by
   simp only[Zg,ZC,fA]at hb;rcases hb with rfl|rfl
   ·exact .inr (Zf _)
   ·exact .inl rfl
  have kp:∀(x:Obj)b o,s.heap.get? b=So o->(s.heap.push x).get? b=So o:=λx b o e=>Zc _ e;cases hT:byT w with
  |true=>
   have pl:'Ё'.toList.Perm Yp:=by have:=Jgv KQ Xm 0 Yp #[] Af;simpa[pickOrder]using this
   obtain⟨C,U⟩:=r _ pl;exact hQ _ Yo _ _ _ _ _ (kp _) fpo (Zf _) (λA' hA=>JmB (o:=o) (t:=t) hA hT (Zn B)) Vs C U
  |false=>
   have few:es.size<=1:=by
    by_cases z:es.size<=1
    ·exact z
    ·exfalso;apply g;rw[hT,hp 'd',ZH 'd'];rfl
   obtain⟨C,U⟩:=r _ (sN _);rw[hT]at hl;exact hQ _ Yo _ _ _ _ _ (kp _) fpo (Zf _) (λA' hA=>Jns (o:=o) (t:=t) hA hT (Zn B) few (.inr hl)) Vs C U
end
def JoN{Q:Bool->Shared->Prop}(g:s.TypeIs Ax "set")(h:Q Fo s):wpAny Ar A (Builtin.List.listLengthHint Ax) Q E s:=by unfold Builtin.List.listLengthHint;refine Za (wpAny_specialOf g F.slot_set_len.lookup ?_);generalize hid:("set.__len__":String)=id0;wp_delta;rw[show splitId id0=So ("set","__len__")from by subst hid;decide+kernel];subst hid;refine Za (xF (T:="set") (b:=To) g (by rw[rN];kernel_rfl) (vF Pn (λ_=>vF (λ_=>?_) Pm)));exact Za QdE
theorem JhD{Q:List Value->Shared->Prop}(hh:Bk)(hS:TS prog w (!byT w) Re a ks)(hk:Ay<60)
  (hQ:∀(h1:Heap)(d:Drawn)(tk:Nat)(vs:AF)(q:Ag),(∀b o,s.heap.get? b=So o->h1.get? b=So o)->Aa<=h1.objs.size->StrsAre vs q->q.Perm ks->Q vs {s with heap:=h1,drawn:=d,toks:=tk}):wpAny Ar A (collect Ax) Q E s:=by
 obtain⟨oa,hoa⟩:=hS.there;have hty:∀u:Shared,TS prog w (!byT w) u.heap a ks->u.TypeIs Ax "set":=λu⟨o,_,_,_,⟨e,x,_⟩,_⟩=>⟨o,e,x.1⟩;have hne:Aa≠a:=nC (Zh hoa);unfold collect;refine Za (wpAny_runValue (wC dJ ?_));rw[sD F.plain_proto_collect _];show wpAny _ XB (newList []>>=λl=>again (.builtin "list.__iadd__" ⟨[l,.ref a],[]⟩)) _ _ s;refine Za (ZE ?_);refine Zb VB;rw[sD pS _];show wpAny _ XB (Builtin.List.listExtendWith E5 Ax E5) _ _ _;unfold Builtin.List.listExtendWith;have C:TS prog w (!byT w) (s.heap.push {cls:=.type "list",data:=.seq ([]:List Value).toArray}) a ks:=hS.stay λo e=>Zc _ e;refine Za (nD (hty {s with heap:=s.heap.push {cls:=.type "list",data:=.seq ([]:List Value).toArray}} C) ?_);have h1:Builtin.List.listSameRef E5 Ax=Fo:=by simp[Builtin.List.listSameRef,hne]
 have h2:(Value.type "set"==Value.type "list")=Fo:=by decide
 have h3:(Value.type "set"==Value.type "tuple")=Fo:=by decide
 simp only[h1,h2,h3,jH,Zo,ZN];refine Za (Jox (s:={s with heap:=s.heap.push {cls:=.type "list",data:=.seq ([]:List Value).toArray}}) C Ad λU d I fp vs q St kp fpo hI W9 st q1 q2=>?_);have hsz:(s.heap.push {cls:=.type "list",data:=.seq ([]:List Value).toArray}).objs.size=Aa+1:=ZO ..;have hSf:Aa∉fp:=λz=>by
  rcases fpo _ z with e|e
  ·exact hne e
  ·change(s.heap.push {cls:=.type "list",data:=.seq ([]:List Value).toArray}).objs.size<=_ at e;rw[hsz]at e;lia
 have hIS:Aa≠I:=λz=>by change(s.heap.push {cls:=.type "list",data:=.seq ([]:List Value).toArray}).objs.size<=_ at hI;rw[hsz]at hI;lia
 have hlen:AA=Ay:=by have:=q2.length_eq;rw[<-q1.strs,Zj]at this;exact this
 have hnl:AA<=sizeLine:=by rw[ZJ];lia
 have hL1:U.get? Aa=So {cls:=.type "list",data:=.seq #[]}:=kp _ _ G0;have hh1:A.in1.in1.handled=No:=by simp[hh]
 have key:∀(g:Heap)(c:Nat)(tk:Nat),St 0 g->(∀b o,b≠Aa->U.get? b=So o->g.get? b=So o)->g.get? Aa=So {cls:=.type "list",data:=.seq #[] c}->
   codeAny Ar A (.builtin "list.extend.loop" ⟨[.ref Aa,.ref I,.ref Aa],[]⟩) (λr u=>match r with
    |.ok (.ret v)=>wpAny Ar A (match v with
     |.ref a=>do match(<-load a).data with
      |.seq xs _=>pure xs.toList
      |_=>unsupported "internal:collect"
     |_=>unsupported "internal:collect") Q E u
    |.ok _=>False
    |.error e=>E e u) {s with heap:=g,drawn:=d,toks:=tk}:=by
  intro g c tk st' kp' hL;refine codeAny_extend_loopS (W9 XB (by simp[hh])).toS hnl Aa hSf _ AA 0 _ #[] c rfl (mB _) st' hL (ItemsOf.nil _) λu f c' hm hS' B=>?_;have e2:f.toList=vs:=by
   refine eN (by simpa using B.1) λi a1 a2=>?_;have a3:i<f.size:=by simpa using a1
   have:vs[i]? =So f[i]:=B.2 i f[i] (uE a3);rw[Zs a2]at this;simpa using(yD this).symm
  show wpAny _ _ (load Aa>>=_) _ _ u;refine Za (wpAny_load hS' (Zb ?_));obtain⟨g',ge',d',tk',os'⟩:=u;have eg:ge'=s.gens:=hm.gens;have ed:d'=d:=hm.drawn;have eo:os'=s.os:=hm.os;subst eg ed eo;show Q f.toList _;rw[e2];refine hQ g' d' tk' vs q (λb o e=>?_) (Nat.le_of_lt (Zh hS')) q1 q2;have hb:b<Aa:=Zh e;refine hm.heap b o ?_ (kp' b o (Zn hb) (kp b o DS));simp only[Zg,ZC,fA,not_or];refine⟨Zn hb,λz=>?_⟩;change(s.heap.push {cls:=.type "list",data:=.seq ([]:List Value).toArray}).objs.size<=_ at hI;rw[hsz]at hI;have hb':b<Aa:=hb;rw[z]at hb';exact absurd (Zt hb' (kN hI)) Cq
 have hS2:TS prog w (!byT w) U a ks:=C.stay λo e=>kp a o e;refine Za (qA (JoN (hty {s with heap:=U,drawn:=d} hS2) ?_));refine vF (λ_=>?_) (λ_=>Zb ⟨pD pO _,key U 0 Xl st (λb o _ e=>e) hL1⟩);refine Za (qB (Za ?_));show wpAny _ XB (updateSeq Aa (·.push .none)>>=λ_=>updateSeq Aa (·.pop)) _ _ _;refine Za (uN hL1 rfl ?_);have hL2:=ZY (Obj.mapSeq (·.push Xq)) hL1 rfl;refine uN (hz:=by seq_fits) hL2 rfl ?_;have hL3:=ZY (Obj.mapSeq (·.pop)) hL2 rfl;have oth:∀b o,b≠Aa->U.get? b=So o->((U.update Aa (Obj.mapSeq (·.push Xq))).update Aa (Obj.mapSeq (·.pop))).get? b=So o:=λb o hb e=>'є'.trans ('є'.trans e);exact Zb ⟨pD pO _,key _ _ Xl ((W9 XB (by simp[hh])).frame 0 _ _ st λb hb o e=>oth b o (λz=>hSf (z▸hb)) e) oth hL3⟩
theorem JgD{Q:Au}(hh:Bk)(I:TS prog w (!byT w) Re a ks)(hk:Ay<60)
  (h:∀(h':Heap)(d:Drawn)(tk:Nat)(l:Addr)(vs:AF)(g:Ag)(e:Nat),(∀b o,s.heap.get? b=So o->h'.get? b=So o)->Aa<=l->h'.get? l=So (seqObj "list" CF e)->StrsAre vs g->g.Perm ks->PyProof.Rows.sortedS g=To->Q BC {s with heap:=h',drawn:=d,toks:=tk}):
  wpAny Ar A (call MO Cr) Q E s:=by
 obtain⟨oa,hoa⟩:=I.there;refine Calls.call_function_entry kind_sorted plain_sorted entry_sorted Qa9 ?_;unfold Builtin.«sorted»;refine Za (m:=checkCount "sorted" 1 1 _) (Zb (Za (JhD (by simp[hh]) I hk λC d tk vs ks' kp F B q2=>?_)));have hlen:AA=Ay:=by have:=q2.length_eq;rw[<-B.strs,Zj]at this;exact this
 refine Za (wpAny_newList ?_ (by rw[ZJ];lia));have f:(C.push SZ).get? C.objs.size=So SZ:=Ze _ rfl;refine Za (qA (ZF slot_list_sort ⟨_,f,rfl⟩ entry_list_sort (list_sort_treeK strKind_oneLt (s:={s with heap:=C.push SZ,drawn:=d,toks:=tk}) f B.keysOf (λv₁ v₂ rest e=>keyKind_strs (by rw[<-e];exact B)) Ad λr a1 a2=>Ib) N6));obtain⟨g,b1,b2,b3⟩:=sorted_out_str B a1 a2;obtain⟨e,he⟩:=sortedHeap_at (out:=(arrOf r).map (·.2)) f;refine Zb ⟨_,rfl,h _ d tk C.objs.size ((arrOf r).map (·.2)).toList g e (λb o q=>?_) F (by rw[Array.toArray_toList];exact he) b1 (b2.trans q2) b3⟩;have U:=kp b o q;have u:=Zh U;rw[sortedHeap_old (Zn u) (by rw[ZO];exact lB u)];exact Zc _ U
noncomputable def SetO (X:Cx) (a:Addr) (ks:Ag):HO:=.ext λh=>TS Xn X.w (!byT X.w) h a ks
section
def dZ:∀{ws:Ag}{f:AF},Vals (ws.map Yg) f->StrsAre f ws
 |[],_,.nil=>.nil
 |x::ws,_,.cons ⟨t,e⟩ r=>by subst e;exact .cons x t (dZ r)
def uY:∀{ws:Ag}{f:AF},StrsAre f ws->Vals (ws.map Yg) f
 |_,_,.nil=>.nil
 |_,_,.cons x t r=>.cons GR (uY r)
def JkH(I:Bw)(d:Drawn):L2.Inv X Y Z H {s with drawn:=d}:=⟨I.ok,I.os,XA,Yq,XG,Yi,XD,XY,I.pin,Xy,Ys⟩
def rSet (X:Cx):List V->Hp->VK->Prop:=λxs H Q=>∃p f,xs=E9/\SqL X.K H p (f.map Yg)/\f.length<60/\∀l,H l=No->Q BC (upd H l (SetO X l (metS f)))
theorem JvT(C:BZ):nA X QF (rSet X):=by intro Y s Z H xs us Q I r h;obtain⟨p,ws,rfl,hq,hl,q⟩:=h;obtain⟨u,rfl,U⟩:=uA r;cases U;obtain⟨its,B,pl,hz⟩:=I.list hq;have f:=B.length;rw[Zj]at f;refine Jnb (items:=AU) (ws:=ws) (I.ok.hd C) Yd (by simpa using dZ B) (by rw[Zp,<-f];show _<4096;lia) λh' tk g kp=>?_;obtain⟨o,F⟩:=g.there;exact⟨.ref Aa,_,I.laid (t':=tk) (λb o e=>kp b o (Zh e) e) (Zf _) (show ObjOk Xn X.w _ h' _ (SetO X Aa 'Ў')from⟨g,⟨o,F⟩,λh1 h2 z k=>TS.stay z k⟩),rfl,q _ GA⟩
theorem Jmj(U:BZ):nA X MO (λxs H Q=>∃p ks,xs=E9/\H p=So (SetO X p ks)/\ks.length<60/\∀(l:Addr)(f:Ag),H l=No->f.Perm ks->PyProof.Rows.sortedS f=To->Q BC UN):=by
 intro Y s Z H xs us Q I r h;obtain⟨p,ks,rfl,hq,hl,q⟩:=h;obtain⟨u,rfl,rx⟩:=uA r;cases rx;have hS:TS Xn X.w (!byT X.w) Re p ks:=(I.hok p _ hq).1;refine JgD (I.ok.hd U) hS hl λh' d F l vs f e kp g hg C B q3=>?_;have hz:AA=Ay:=by have:=B.length_eq;rw[<-C.strs,Zj]at this;exact this
 have I1:L2.Inv X Y Z UN {s with heap:=h',drawn:=d,toks:=F}:=
  (JkH I d).laid (t':=F) kp g ⟨by rw[Zj,B.length_eq,ZJ];lia,vs,e,uY C,hg⟩
 exact⟨.ref l,_,I1,rfl,q l f QbC B q3⟩
theorem Jvx:nA X MB (λxs H Q=>∃p ks,xs=E9/\H p=So (SetO X p ks)/\ks.length<60/\Q (.int Ay) H):=by
 intro Y s Z H xs us Q I r h;obtain⟨p,ks,rfl,hq,hl,q⟩:=h;obtain⟨u,rfl,rx⟩:=uA r;cases rx;obtain⟨o,es,ep,t,⟨C,hx,F⟩,hel,⟨U,hz⟩,_,_,g,_⟩:=(I.hok p _ hq).1;have f:es.size=Ay:=by have:=g.length_eq;simpa[oF]using this
 have B:((Xm:Nat):Int)<2^63:=by
  have:((Xm:Nat):Int)<60:=by lia
  exact Int.lt_trans this A9
 refine call_len_set C hx F U B ?_;refine⟨.int Ay,H,I.kept (t':=Xl+1+1) (λb o e=>e),⟨_,by rw[f]⟩,q⟩
def JdQ:∀(p:Str)(l:Ag),risingS p l=To->(p::l).Nodup->(p::l).Pairwise LtS
 |p,[],_,_=>by simp
 |p,x::r,h,hn=>by
  simp only[risingS,Zd,kB]at h
  obtain⟨q,F⟩:=h
  rw[ltCps_eq]at q
  have B:¬LtS x p:=by simpa[LtS]using q
  obtain⟨C,u⟩:=iB.mp hn
  have g:=JdQ x r F u
  have px:LtS p x:=LtS.total B λe=>C (by simp[e])
  refine eE.mpr ⟨λz f=>?_,g⟩
  rcases Zg.mp f with rfl|f
  ·exact px
  ·exact px.trans ((eE.mp g).1 z f)
def Jhc{f ws:Ag}(h1:f.Perm ks)(B:PyProof.Rows.sortedS f=To)(q:ks.Nodup)(r:∀k,k∈ks↔k∈ws):f=Pu.Jn ws:=by
 have g:f.Nodup:=h1.symm.nodup q;have u:f.Pairwise LtS:=by
  cases f with
  |nil=>exact lN
  |cons p l=>exact JdQ p l B g
 exact jY _ _ u (Jz ws) λk=>(h1.mem_iff.trans (r k)).trans (Ju ws k).symm
def Jju(ws:Ag):∀ks:List Str,ks.Nodup->'亿'.Nodup:=by
 induction ws with
 |nil=>intro ks h;exact h
 |cons x ws q=>
  intro ks h;rw[xN];refine q _ ?_;unfold addS;split
  ·exact h
  ·rename_i f;rw[List.nodup_append];refine⟨h,by simp,λu r v g e=>?_⟩;rw[kC]at g;subst g e;exact f r
def Jep(ws:Ag):'Ў'.Nodup:=Jju ws [] List.nodup_nil
def Jkl(ws:Ag):'Ў'.length=(Pu.Jn ws).length:=by have f:'Ў'.Perm (Pu.Jn ws):=(List.perm_ext_iff_of_nodup (Jep ws) (yM _ (Jz ws))).mpr λk=>(Jja ws k).trans (Ju ws k).symm;exact f.length_eq
def uM:∀{J:Am}{ws:Ag},JF J=So ws->J=ws.map Yn
 |[],ws,h=>by cases h;rfl
 |.str x::J,ws,h=>by
  simp only[JF]at h
  cases q:JF J with
  |none=>rw[q]at h;cases h
  |some f=>rw[q]at h;cases h;rw[uM q];rfl
 |.non::J,ws,h=>by cases h
 |.bl _::J,ws,h=>by cases h
 |.int _::J,ws,h=>by cases h
 |.tup _::J,ws,h=>by cases h
 |.lst _::J,ws,h=>by cases h
def vX:∀{ws:Ag}{xs:Av},Reps K H 'Հ' xs->xs=ws.map Yg
 |[],xs,h=>by cases h;rfl
 |w::ws,xs,h=>by
  obtain⟨x,r,rfl,f,g⟩:=h
  cases f
  rw[vX g];rfl
def uX:∀f:List Str,Reps K H (f.map Yn) (f.map Yg)
 |[]=>rfl
 |w::f=>⟨.str w,f.map Yg,rfl,rfl,uX f⟩
variable{U:Ae}{a:Expr}{p3:Pos}
def Jqq(C:Ao)(r:AG)(g:gloB nm "set"=To)(f:G.mg "set"=No)(q:Sb):PE X (.Call Vf [a] [] p3) (tCB (rSet X) (Jux GV tNil)):=
 xY (JvT XH) (C.glo _ g) (by rw[C.mg];exact f) boot_set (Jq r JP q) Ab Ab q rfl
def Jtm(C:Ao)(ha:AG)(hg:gloB nm "sorted"=To)(hm:G.mg "sorted"=No)(B:gloB nm "set"=To)(I:G.mg "set"=No)(hs:DC):PE X (.Call OF OO [] pos) (tI X U (.un .sset pa)):=by
 refine PE.weak (rM (Jmj XH) CY (by rw[C.mg];exact hm) Ab (Jq (Jqq C ha B I hs) JP rfl) Ab Ab rfl rfl) λZ H Q h=>?_;obtain⟨O,r,h⟩:=h;refine⟨O,r,'Ĝ'.imp λd f=>λv H1 s1 rv=>?_⟩;show∃p g,[v]=E9/\_;cases d with
 |lst J=>
  obtain⟨p,xs,rfl,h1,h2⟩:=rv;simp only[op1]at f;cases q:JF J with
  |none=>rw[q]at f;exact f.elim
  |some g=>
   rw[q]at f;have e:=uM q;subst e;have e2:=vX h2;subst e2;simp only at f;split at f
   ·rename_i u;refine UA;show∃p' ks,Qdk=[.ref p']/\_;refine⟨l,metS g,rfl,Jd,zF (pY g) u,λl2 ss F a1 a2=>?_⟩;have e3:=Jhc a1 a2 (Jep g) (Jja g);subst e3;have s2:Same H1 QdF:=λb o e=>by rw[Jb (Je e hl)];exact e
    obtain⟨s3,r3⟩:=eI (K:=X.K) (H:=upd H1 l Sw) F Qcq;exact f _ _ (s1.trans QE) r3
   ·exact f.elim
 |_=>exact f.elim
def Jsj(C:Ao)(ha:AG)(hg:gloB nm "len"=To)(hm:G.mg "len"=No)(B:gloB nm "set"=To)(F:G.mg "set"=No)(I:DC):PE X (.Call Qba OO [] pos) (tI X U (.un .lset pa)):=by
 refine PE.weak (rM Jvx CY (by rw[C.mg];exact hm) PySem.boot_len (Jq (Jqq C ha B F I) JP rfl) Ab Ab rfl rfl) λZ H Q h=>?_;obtain⟨O,r,h⟩:=h;refine⟨O,r,'Ĝ'.imp λd f=>λv H1 s1 rv=>?_⟩;show∃p g,[v]=E9/\_;cases d with
 |lst J=>
  obtain⟨p,xs,rfl,h1,h2⟩:=rv;simp only[op1]at f;cases q:JF J with
  |none=>rw[q]at f;exact f.elim
  |some g=>
   rw[q]at f;have e:=uM q;subst e;have e2:=vX h2;subst e2;simp only at f;split at f
   ·rename_i u;refine UA;show∃p' ks,Qdk=[.ref p']/\_;refine⟨l,metS g,rfl,Jd,zF (pY g) u,?_⟩;have s2:Same H1 QdF:=λb o e=>by rw[Jb (Je e hl)];exact e
    rw[Jkl];exact f _ _ (s1.trans s2) rfl
   ·exact f.elim
 |_=>exact f.elim
end
noncomputable def plainN (x:Str):Bool:=!(x==Xk)&&!(x==Xj)
def chkV (N:Ag) (nm:A8) (i:Nat) (x:Str):Bool:=(N[i]? ==So x)&&visB nm x&&plainN x
def chkS (N:Ag) (nm:A8) (i:Nat) (x:Str):Bool:=(N[i]? ==So x)&&locB nm x&&plainN x
def chkG (nm:A8) (x:Str):Bool:=gloB nm x&&plainN x
section
variable{X:Cx}{U:Ae}{G:Gw}{N:Ag}{nm:A8}{e a b c:Expr}{es:Cy}{p pa pb pc pl ph:Px}{pos p1 p2 p3:Pos}{x y:Str}
def plainN.d(h:plainN x=To):(x==Xk)=Fo/\(x==Xj)=Fo:=by simpa[plainN]using h
def vV(C:Ao){i:Nat}(h:Gz):PE X B0 QJ:=by simp only[chkV,Zd,ZB]at h;obtain⟨g,f⟩:=plainN.d h.2;exact Jqg (by rw[C.hN];exact h.1.1) (C.vis x h.1.2) g f
def rC(G:Gw)(x:Str)(d:D):Prop:=∃v u,G.mg x=So u/\RelV v u/\∀H,Rep G.K H d v
def vG(C:Ao){d:D}(f:rC G x d)(h:chkG nm x=To):PE X B0 Qaf:=by simp only[chkG,Zd]at h;obtain⟨B,F⟩:=plainN.d h.2;obtain⟨v,u,g,r,q⟩:=f;exact JrI (C.glo x h.1) ⟨v,u,by rw[C.mg];exact g,r,λH=>by rw[C.K];exact q H⟩ B
def cF(C:Ao){g:Nat}(q:Callee G U g x)(h:chkG nm x=To)(r:Ec)(u:Xb)(f:'('):
  PE X S0 (tI X U (.call g p)):=by simp only[chkG,Zd]at h;exact Jtl C q h.1 (plainN.d h.2).1 r u f
def cLen(C:Ao)(r:G.mg "len"=No)(q:AG)(f:gloB nm "len"=To)(g:DC):PE X (.Call Qba [a] [] pos) (tI X U (.un .len pa)):=eQ C Jus q f r PySem.boot_len Ab Ab g
def cAll(C:Ao)(r:G.mg "all"=No)(q:AG)(f:gloB nm "all"=To)(g:DC):PE X (.Call (.Name "all" p1) [a] [] pos) (tI X U (.un .all pa)):=eQ C (Jvu XH) q f r boot_all Ab Ab g
def cAny(C:Ao)(r:G.mg "any"=No)(q:AG)(f:gloB nm "any"=To)(g:DC):PE X (.Call (.Name "any" p1) [a] [] pos) (tI X U (.un .any pa)):=eQ C (Jvm XH) q f r boot_any Ab Ab g
def JuM(C:Ao)(r:G.mg "tuple"=No)(q:AG)(f:gloB nm "tuple"=To)(g:DC):PE X (.Call (.Name "tuple" p1) [a] [] pos) (tI X U (.un .tuple pa)):=JvU C JoO q f r PyProof.Rows.boot_tuple Ab Ab g
def eEq(C:Ao)(f:AG)(g:Bp):PE X Ul (tI X U QbN):=yP (JpN C.un) f g De
def eNe(C:Ao)(f:AG)(g:Bp):PE X IT (tI X U Mm):=yP Le f g De
def eLt(f:AG)(g:Bp):PE X Uk (tI X U QbO):=yP iV f g De
def eIn(C:Ao)(f:AG)(q:Bp)(g:behindInMarks .In b=Fo):PE X Nh (tI X U Qaj):=yP (JpS C.un) f q g
def tEq(C:Ao)(f:AG)(g:Bp):PT X Ul (tT X U QbN):=qG (JpN C.un) f g De
def tNe(C:Ao)(f:AG)(g:Bp):PT X IT (tT X U Mm):=qG Le f g De
def tLt(f:AG)(g:Bp):PT X Uk (tT X U QbO):=qG iV f g De
def tGt(f:AG)(g:Bp):PT X (.Compare a [.Gt] [b] pos) (tT X U (.bi .gt pa pb)):=qG JpG f g De
def tIn(C:Ao)(f:AG)(q:Bp)(g:behindInMarks .In b=Fo):PT X Nh (tT X U Qaj):=qG (JpS C.un) f q g
def eIx(f:AG)(q:Bp)(g:zQ b:=by intro _ _;rfl):PE X MT (tI X U (.bi .idx pa pb)):=pI_ix Jup f q g
def eAdd(f:AG)(g:Bp):PE X (.BinOp a .Add b pos) (tI X U (.bi .add pa pb)):=lL JrS f g
def eSub(f:AG)(g:Bp):PE X (.BinOp a .Sub b pos) (tI X U (.bi .sub pa pb)):=lL Jta f g
def eMul(f:AG)(g:Bp):PE X (.BinOp a .Mult b pos) (tI X U (.bi .mul pa pb)):=lL Jrr f g
def eMod(f:AG)(g:Bp):PE X (.BinOp a .Mod b pos) (tI X U (.bi .mod pa pb)):=lL JsX f g
def eDiv(f:AG)(g:Bp):PE X (.BinOp a .FloorDiv b pos) (tI X U (.bi .fdiv pa pb)):=lL Jpf f g
def gOne(C:Ao)(h:chkS N nm 0 x=To):TgOk X B0 0 1:=by simp only[chkS,Zd,ZB]at h;obtain⟨f,g⟩:=C.sto x h.1.2;exact JvD (by rw[C.hN];exact h.1.1) (by rw[C.hN];exact C.nd) f g
def gTwo(C:Ao)(h:chkS N nm 0 x=To)(h':chkS N nm 1 y=To):TgOk X TV 2 2:=by simp only[chkS,Zd,ZB]at h h';obtain⟨f,q⟩:=C.sto x h.1.2;obtain⟨g,r⟩:=C.sto y h'.1.2;exact Jtx (by rw[C.hN];exact h.1.1) (by rw[C.hN];exact h'.1.1) (by rw[C.hN];exact C.nd) f q g r XH
def scB (N:Ag) (nm:A8) (ls:Ag) (f:AS):Bool:=(f.kind==.function)&&decide (ls++hidN ls N).Nodup&&JvH N nm ls f.names&&N.all (λn=>!ls.contains n||(f.names.lookup (dum n)).isNone)
def scO{ls:Ag}{f:AS}(h:scB N nm ls f=To):ScOk N nm ls f:=by simp only[scB,Zd,ZB,Zv]at h;refine⟨h.1.1.1,h.1.1.2,h.1.2,λn q g=>?_⟩;have:=ZQ.mp h.2 n q;simp only[g,Bool.not_true,Bool.false_or,Option.isNone_iff_eq_none]at this;exact this
variable{M:Aq}{H0:Hp}{i j l:Nat}{px:Pos}
def chkA (N:Ag) (nm:A8) (M:Aq) (i:Nat) (x:Str):Bool:=chkS N nm i x&&!M.contains i
def chkA.at(h:ER):N[i]? =So x/\locB nm x=To/\i∉M:=by simp only[chkA,chkS,Zd,ZB,kB,rO,gG]at h;exact⟨h.1.1.1,h.1.1.2,h.2⟩
def chkO (N:Ag) (nm:A8) (M:Aq) (i:Nat) (x:Str):Bool:=chkS N nm i x&&M.contains i&&visB nm x
def chkO.at(h:Eb):N[i]? =So x/\locB nm x=To/\plainN x=To/\i∈M/\visB nm x=To:=by simp only[chkO,chkS,Zd,ZB,rO,Zv]at h;exact⟨h.1.1.1.1,h.1.1.1.2,h.1.1.2,h.1.2,h.2⟩
def aSet(C:Ao)(h:ER)(B:BX)(f:BN)(r:SS):PS X IS Tp:=by obtain⟨g,u,q⟩:=chkA.at h;exact JvK C g u q f B r
section
variable{elt tg iter:Expr}{ifs:Cy}{ps pe:Px}{nt:Nat}{ls:Ag}{sc:AS}
def Jvv(h:PS X st (tAsg cC Ej)):PS X st (tAsg (tFH X U p) Ej):=by
 rintro Y s Z H D I⟨O,L,hL,r,g⟩;obtain⟨ps,e1,e2,I'⟩:=Inv.hide I hL.c;refine ZL (h (ps++Y) s Z Bc ⟨λσ' H1=>Same Bc H1/\((∀a∈L,H1 a=No)->D.nx σ' FD),λ_ _=>False,λ_ _=>False,λ_ _=>False⟩ I' ⟨O,r,g.mono (λd⟨J,ed,hd⟩=>⟨J,ed,λl xs H1 C h0 F rv=>⟨C,λB=>?_⟩⟩) λc z=>z⟩)
  (λf C q=>?_) λ_ _ z=>z
 ·have hl:l∉L:=λhm=>by rw[B l hm]at F;cases F
  exact hd l xs _ (eY C) RZ (by rw[Jt hl]at h0;exact h0) (by rw[JQ hl];exact F) (by rw[uL B];exact rv)
 ·cases f with
  |next=>obtain⟨σ',H1,I1,sm,q⟩:=q;obtain⟨B,I2⟩:=Inv.unhide I hL.c e1 e2 S1 I1;exact⟨σ',_,I2,q B⟩
  |brk=>obtain⟨_,_,_,q⟩:=q;exact q.elim
  |cont=>obtain⟨_,_,_,q⟩:=q;exact q.elim
  |ret u=>obtain⟨_,_,_,_,_,q⟩:=q;exact q.elim
def Jpv(hM:i∉M)(g:BN)(hl:isL p=To){D:Ends}(h:UB):tAsg (tFH X U p) Ej D Z H:=by
 obtain⟨O,L,B,F,f⟩:=qW hM g h;refine⟨O,L,B,F,?_⟩;cases q:evD U p O with
 |ok d=>
  rw[q]at f;obtain⟨J,rfl⟩:=Jla hl q;refine⟨J,rfl,λl xs H1 C I h0 h1 rv=>f _ _ C I ?_⟩;have r:l∉L:=λhm=>by obtain⟨o,u,_⟩:=B l hm;rw[h0]at u;cases u
  exact⟨l,xs,rfl,SqL.of (by rw[Jt r];exact h1),rv⟩
 |ex c=>rw[q]at f;exact f
 |sk=>rw[q]at f;exact f.elim
noncomputable def tgN:Expr->List Str
 |.Name x _=>[x]
 |.Tuple es _ _=>es.filterMap λe=>match e with
  |.Name x _=>So x
  |_=>No
 |_=>[]
noncomputable abbrev cN (tg:Expr) (N:Ag):List Str:=tgN tg++hidN 'Ѡ' N
def aSetC(C:Ao)(h:ER)(F:scB N nm 'Ѡ' sc=To)(g:GL)(r:∀X',Ctx X' G DU sc.names->TgOk X' tg nt 'Ѡ'.length)(B:∀X',Ctx X' G DU sc.names->PIf X' ifs D2)
  (f:∀X',Ctx X' G DU sc.names->PE X' elt GZ) (u:sepP M J6=To) (hs:∀x,foldedSetIterable iter QL x=pure x):PS X WM (tS X U M H0 (.set Fo i J6)):=by obtain⟨I,h2,h3⟩:=chkA.at h;exact PS.weak (Jvv (JeH C (scO F) (by rw[C.hN];exact I) h2 g r B f hs)) λD Z H q=>Jpv h3 u rfl q
def aOwnC(C:Ao)(h:Eb)(B:scB N nm 'Ѡ' sc=To)(g:GL)(r:∀X',Ctx X' G DU sc.names->TgOk X' tg nt 'Ѡ'.length)(u:∀X',Ctx X' G DU sc.names->PIf X' ifs D2)
  (f:∀X',Ctx X' G DU sc.names->PE X' elt GZ) (F:∀x,foldedSetIterable iter QL x=pure x):PS X WM (tS X U M H0 (.own i J6)):=by obtain⟨I,h2,h3,h4,h5⟩:=chkO.at h;exact PS.weak (JeH C (scO B) (by rw[C.hN];exact I) h2 g r u f F) λD Z H q=>JqP q
def fComp(C:Ao)(u:scB N nm 'Ѡ' sc=To)(g:GL)(q:∀X',Ctx X' G DU sc.names->TgOk X' tg nt 'Ѡ'.length)(r:∀X',Ctx X' G DU sc.names->PIf X' ifs D2)
  (f:∀X',Ctx X' G DU sc.names->PE X' elt GZ) (B:∀x,foldedSetIterable iter QL x=pure x):PE X F4 QI:=JkO C (scO u) g q r (λX' F _=>f X' F) B
end
def aApp{f:Pos}(C:Ao)(h:Eb)(he:BX)(B:C9)(g:BN)(hs:Nz):
  PS X WA Uw:=by obtain⟨F,h2,I,h4,r⟩:=chkO.at h;obtain⟨q,u⟩:=plainN.d I;exact Jue C F r q u h4 g he B hs
def lOne(C:Ao)(h:ER):PG X B0 Qai:=by obtain⟨f,g,q⟩:=chkA.at h;exact JtV C f g q
def lTwo(C:Ao)(h:ER)(h':chkA N nm M j y=To):PG X TV OG:=by obtain⟨q,r,B⟩:=chkA.at h;obtain⟨f,u,g⟩:=chkA.at h';exact JvC C q r B f u g
end
structure Landed(X:Cx)(H:Hp)(B h:Heap):Prop where
 tr:∀b u,H b=So u->∃o,B.get? b=So o
 kp:∀b o,X.s₀.heap.get? b=So o->b∉frs X.stack->(X.H₀ b=No->B.get? b=So o)/\∃o',B.get? b=So o'
 pn:∀p∈X.pn,B.get? p.1=So p.2
section
variable{ps:AV}{B h1 h2:Heap}
def Inv.land(hst:X.stack=QL::X.outer)(hfm:X.env.frame=So AD)(hex:X.ex=[])(I:L2.Inv X ps Z H {s with heap:=h1})(L:Landed X H B h1)(k1:B.StaysIn h1)(k2:B.StaysIn h2)(up:h1.UpToSlots h2)(t:Nat):
  L2.Inv X [] 'ǀ' H {s with heap:=h2,toks:=t}:=by
 have hnx:∀b,b∉X.ex:=λb=>by rw[hex];simp
 have nst:∀b o,X.s₀.heap.get? b=So o->b∉X.fs->b∉frs Xp:=λb o f C F=>by
  rw[hst]at F
  unfold frs at F
  rw[lC,hfm]at F
  rcases Zg.mp F with e|F
  ·have:=Zh f
   rw[e]at this
   exact absurd (Zt this YY) Cq
  ·exact C F
 have u:=Yq
 exact{
  ok:=I.ok,os:=I.os,bare:=XA
  base:=⟨λb o f C r _=>k2 b o ((L.kp b o f QdG).1 C),λb o f C r _=>by
    obtain⟨sl,e1⟩:=u.slot b o f C r (hnx b)
    obtain⟨_,o1,g,U⟩:=(Z7).mem r
    rw[f]at g
    cases g
    obtain⟨sl2,e2⟩:=up b _ e1 U
    exact⟨sl2,e2⟩,
   u.free,λb o f _=>by
    by_cases r:b∈X.fs
    ·obtain⟨_,o1,g,U⟩:=(Z7).mem r
     rw[f]at g
     cases g
     obtain⟨sl,e1⟩:=u.slot b o f (I.ok.frf b r) r (hnx b)
     obtain⟨sl2,e2⟩:=up b _ e1 U
     exact⟨_,e2⟩
    ·obtain⟨o',e⟩:=(L.kp b o f QdG).2
     exact⟨o',k2 b o' e⟩,u.tups,u.frzs,u.tbls⟩
  loc:=by
   obtain⟨m,C,_⟩:=XG
   exact⟨m,up.ns C,λi x v _ q _=>by
    rw[uJ]at q
    split at q<;>cases q⟩
  cell:=λx c e=>by
   obtain⟨v,o,ho,U⟩:=I.cell x c e
   obtain⟨sl,e2⟩:=up c o ho λvs z=>by rw[U]at z;cases z
   exact⟨v,_,e2,U⟩
  free:=XD,freeC:=XY
  pin:=λp hp=>by
   have hp':p∈X.pn:=by simpa using hp
   obtain⟨_,q2,q3⟩:=I.pin p (zO _ hp')
   exact⟨k2 _ _ (L.pn p hp'),q2,q3⟩
  hok:=HOk.onB Xy L.tr k1 k2
  len:=by simp}
def Inv.know(I:L2.Inv X ps Z H s){o:Obj}(g:H a=No)(ho:s.heap.get? a=So o)(hb:B.get? a=No)(L:Landed X H B Re)(hst:X.stack=QL::X.outer)(hfm:X.env.frame=So AD)(hex:X.ex=[])(hps:ps=[])
  {vs:B7} (hd:o.data=.fields vs):L2.Inv X ps Z (upd H a G2) s:=by
 have F:a∉frs Xp:=λhm=>by
  obtain⟨_,o1,r,hn⟩:=I.stack.mem hm
  rw[ho]at r;cases r
  exact hn vs hd
 have hL:a≠AD:=λz=>F (by
  rw[hst]
  unfold frs
  rw[lC,hfm,z]
  exact .head _)
 have ne:∀b,b≠a->upd H a G2 b=H b:=λb h=>Jb h
 exact{
  ok:=I.ok,os:=I.os,bare:=XA
  base:=⟨c6,c7,λb f U hn hx=>by
    by_cases q:b=a
    ·subst q
     obtain⟨o2,e⟩:=(L.kp b f U F).2
     rw[hb]at e;cases e
    ·rw[ne b q];exact I.base.free b f U hn hx,bM,
   λb xs q=>by rw[ne b (Je 'ϣ' g)];exact I.base.tups b xs q,λb f u q=>by rw[ne b (Je (I.base.frzs b f u q) g)];exact I.base.frzs b f u q,λb qs q=>by
    obtain⟨m,e⟩:=I.base.tbls b qs q
    exact⟨m,by rw[ne b (Je e g)];exact e⟩⟩
  loc:=XG,cell:=Yi
  free:=by rw[ne _ (Ne.symm hL)];exact I.free
  freeC:=λx c e=>by
   have:c≠a:=λz=>by
    obtain⟨v,o2,ho2,C⟩:=I.cell x c e
    rw[z,ho]at ho2;cases ho2
    rw[hd]at C;cases C
   rw[ne c this];exact I.freeC x c e
  pin:=λp hp=>by
   obtain⟨q1,q2,q3⟩:=I.pin p hp
   have:p.1≠a:=λz=>by
    have hp':p∈X.pn:=by rw[hps]at hp;simpa using hp
    have:=L.pn p hp'
    rw[z,hb]at this;cases this
   exact⟨q1,by rw[ne _ this];exact q2,q3⟩
  hok:=λb u e=>by
   by_cases q:b=a
   ·subst q
    rw[Jd]at e;cases e
    exact⟨ho,trivial,⟨o,ho⟩,λ_ _ _ _=>trivial⟩
   ·rw[ne b q]at e
    exact(I.hok b u e).stay (λ_ _ _ z=>z) (λc z=>by rw[ne c (Je z g)];exact z) (λc xs z=>by rw[ne c (Je z g)];exact z) λc f u' z=>by rw[ne c (Je z g)];exact z
  len:=Ys}
end
def Inv.locals(I:Bw){F:Bi}{t:Nat}(g:Heap.SameBut AD Re h')(hn:h'.Ns AD F)(hl:σ'.length=Qbr)
  (hm:∀(i:Nat)(x:Str)(v:V),X.N[i]? =So x->σ'[i]? =So Bj->Vis Cs x->∃u,RelV v u/\Look QL h' F x u):L2.Inv X Y σ' H {s with heap:=h',toks:=t}:=by
 have f:∀b o,X.s₀.heap.get? b=So o->b≠AD:=λb o e=>Zn KN
 exact{
  ok:=I.ok,os:=I.os,bare:=XA
  base:=⟨λb o e n C r=>(g.2 b QaS).trans (I.base.keep b o e n C r),λb o e n C r=>let⟨sl,U⟩:=I.base.slot b o e n C r;⟨sl,(g.2 b QaS).trans U⟩,I.base.free,
   λb o e r=>let⟨o',U⟩:=I.base.there b o e r;⟨o',(g.2 b QaS).trans U⟩,I.base.tups,I.base.frzs,I.base.tbls⟩
  loc:=⟨F,hn,hm⟩
  cell:=λy c e=>let⟨w',z⟩:=I.cell y c e;⟨w',z.sameBut g (I.cne y c e)⟩
  free:=XD,freeC:=XY
  pin:=λp hp=>let⟨e,n,ne,nf,d⟩:=I.pin p hp;⟨(g.2 p.1 ne).trans e,n,ne,nf,d⟩
  hok:=λb ob e=>(I.hok b ob e).stay (λc w' B q=>(g.2 c (by
   rintro rfl
   rcases B with rfl|B
   ·rw[I.free]at e;cases e
   ·rw[I.free]at B;cases B)).trans q) Kg λ_ _ q=>q
  len:=hl}
inductive ExcCe(G:Gw)(x:Str):Prop where
 |mk C (h:PySem.W.nsIn G.K mainGlobals x=So (So (.ref C))/\G.mg x=So (.ref C)/\∃bs nid iid Bn,PySem.W.excIn G.K C bs nid=To/\ExcBaseFacts Bn nid iid bs):ExcCe G x
structure ExcC(G:Gw)(x:Str):Prop where
 ex:ExcCe G x
noncomputable abbrev Cx.mk1 (X:Cx) (E:Au) (Y:AV):Cx:={X with xe:=E,pn:=X.pn++Y}
noncomputable abbrev Cx.mk2 (X:Cx) (A:Bd) (E:Au) (Y:AV):Cx:={X with xe:=E,pn:=X.pn++Y,A:=A,calm:=Fo}
def Cx.Ok.to1(ok:X.Ok):'Ձ'.Ok:=W0
def Cx.Ok.of1(ok:'Ձ'.Ok):X.Ok:=W0
def Cx.Ok.to2(ok:X.Ok)(f:A.frames=X.A.frames):(Cx.mk2 X A E Y).Ok:=⟨ok.mod,ok.kind,ok.glob,ok.blt,ok.above,ok.inj,ok.has,ok.cab,λh=>(by cases h),f.trans ok.frames,ok.stk,ok.exf,ok.bs,ok.bsz,ok.noex,ok.exfs,ok.funs,ok.frf⟩
def Inv.to1(I:Bw):L2.Inv EO [] Z H s:=⟨Cx.Ok.to1 I.ok,I.os,XA,Yq,XG,Yi,XD,XY,λp f=>I.pin p (by simpa using f),Xy,Ys⟩
def Inv.of1(I:NJ):L2.Inv X Y Z H s:=⟨Cx.Ok.of1 I.ok,I.os,XA,Yq,XG,Yi,XD,XY,λp f=>I.pin p (by simpa using f),Xy,Ys⟩
def Inv.to2{f:Au}(I:NJ)(g:A.frames=X.A.frames):L2.Inv Qbb [] Z H s:=⟨Cx.Ok.to2 (Cx.Ok.of1 I.ok) g,I.os,XA,Yq,XG,Yi,XD,XY,λp q=>I.pin p q,Xy,Ys⟩
def Inv.of2{f:Au}(I:L2.Inv Qbb [] Z H s)(ok:X.Ok):L2.Inv X Y Z H s:=⟨ok,I.os,XA,Yq,XG,Yi,XD,XY,λp g=>I.pin p (by simpa using g),Xy,Ys⟩
inductive Takese(G:Gw)(rn:Str)(cs:Ag):Prop where
 |mk CR (h:G.mg rn=So (.ref CR)/\∀c∈cs,∃C,PySem.W.nsIn G.K mainGlobals c=So (So (.ref C))/\G.mg c=So (.ref C)/\PySem.W.exmOne G.K (.ref C) (.ref CR)=So To):Takese G rn cs
structure Takes(G:Gw)(rn:Str)(cs:Ag):Prop where
 ex:Takese G rn cs
inductive tM(X:Cx)(call:Ae)(p:Px)(σ:Bf)(H:Hp)(Q:VK):Prop where
 |mk:∀env,ReadOk X.K H σ env->(((evD call p env).bind λd=>if xH d then .ok d else .sk).Good (λd=>∀v H',Same H H'->Q v H') BE)->tM X call p σ H Q
section
variable{U:Ae}{cpos:Pos}
def JiB(C:Ao)(hc:ExcC G x)(r:chkG nm x=To)(he:PE X e (tM X U p))(hs:IJ):
  PS X Wv (tS X U M H0 (.raise x p)):=by
 obtain⟨u,g1,g2,bs,nid,iid,Bn,hq,FB⟩:=hc.ex;simp only[chkG,Zd]at r;have f:X.mg x=So (.ref u):=by rw[C.mg];exact g2
 refine PS.weak (JoF XH (C.glo x r.1) (by rw[C.K];exact g1) f (by rw[C.K];exact hq) FB he (plainN.d r.2).1 hs) λD Z H⟨O,g,h⟩=>⟨O,g.readOk,?_⟩;simp only[exD]at h;cases q:evD U p O with
 |ok d=>
  rw[q]at h;simp only[Rs.bo]at h⊢;by_cases B:xH d=To
  ·rw[if_pos B]at h⊢;exactλv W s=>⟨rfl,λa I F=>h u W f (g.same.trans s) a I F⟩
  ·rw[if_neg B]at h;exact h.elim
 |ex c=>rw[q]at h;exact(show XW X H0 c from h).mono g.same
 |sk=>rw[q]at h;exact h.elim
def fU{z:Str}{k}:PE X (.Constant YH k pos) (tM X U .nil):=PE.weak JpJ λZ H Q⟨O,r,h⟩=>h _ H ED
def JJ(x y:Str):(x++y).length=Xo+y.length:=PySem.strLen_append x y
end
section
variable{U:Ae}{a:Expr}
def JtT(I:Bw){f:AF}(q:FF)(g:Vals xs f)(pd:deps J<1000)(d:D):f.map (eU J f d)=J.map λB=>B.eqv d:=by have C:=XQ;have F:=q.length;refine eN Gj λj r u=>?_;simp only[Zj]at r u;rw[List.getElem_map,List.getElem_map];exact tP I q g pd (Zs r) (Zs u)
def Jdi(f:α->Bool)(l:List α):l.countP f=(l.map f).countP id:=by rw[List.countP_map];rfl
def Jiy:∀{J:Am}{x:D}{n:Nat},idxD x J=So n->(∃d,J[n]? =So d/\d.eqv x=To)/\∀m d,m<n->J[m]? =So d->d.eqv x=Fo
 |[],x,n,h=>by simp[idxD]at h
 |d::J,x,n,h=>by
  unfold idxD at h
  split at h
  ·rename_i q
   cases h
   exact⟨⟨d,rfl,q⟩,λm r u=>absurd u (Nat.not_lt_zero _)⟩
  ·rename_i q
   rw[Option.map_eq_some_iff]at h
   obtain⟨k,B,rfl⟩:=h
   obtain⟨⟨r,C,I⟩,F⟩:=Jiy B
   refine⟨⟨r,by simpa using C,I⟩,λm f u g=>?_⟩
   cases m with
   |zero=>simp at g;subst g;simpa using q
   |succ m=>exact F m f Ad (by simpa using g)
def Jnp(hu:Fk):MtR X "list.count" (λx xs H Q=>∃y,xs=[y]/\∃J g,Rep X.K H AE x/\Rep X.K H g y/\(op2 .count AE g).Good BY BE):=by
 rintro Y s Z H x xs v us Q I rx rv⟨y,e,J,g,r1,r2,h⟩;subst e;obtain⟨u,rfl,ru⟩:=uA rv;simp only[op2]at h;split at h
 ·rename_i q;simp only[Jy,Zd,Zv]at q;have B:deps J+1<=20:=q.1.1;obtain⟨l,zs,rfl,h1,h2⟩:=r1;cases rx;obtain⟨its,f,⟨o,n,e1,C,d1,k1⟩,_⟩:=I.list h1;obtain⟨oc,od,oda,r⟩:=o;simp only at C d1 k1;subst C;subst d1;subst k1;refine xA Qcg ⟨_,e1,rfl⟩ F.entry_list_count (F.args_list_count_2 _ _) (SeqAt.list_countAt l AU n No r u (eU J its g)) ⟨e1,oQ hu I h2 f r2 ru Ad q.1.2,?_⟩;refine⟨.int _,H,I.tok _,AJ,?_⟩;rw[Jdi,JtT I h2 f 'd',<-Jdi];exact Out.now h rfl
 ·exact h.elim
theorem JnQ(hu:Fk):MtR X "list.index" (λx xs H Q=>∃y,xs=[y]/\∃J f,Rep X.K H AE x/\Rep X.K H f y/\(op2 .index AE f).Good BY BE):=by
 rintro Y s Z H x xs v us Q I rx rv⟨y,e,J,f,r1,r2,h⟩;subst e;obtain⟨u,rfl,ru⟩:=uA rv;simp only[op2]at h;split at h
 ·rename_i C;simp only[Jy,Zd,Zv]at C;have hdep:deps J+1<=20:=C.1.1;cases q:idxD f J with
  |none=>rw[q]at h;exact h.elim
  |some j=>
   rw[q]at h;obtain⟨⟨d',g1,g2⟩,g3⟩:=Jiy q;obtain⟨l,zs,rfl,h1,h2⟩:=r1;cases rx;obtain⟨its,g,⟨o,n,e1,c1,d1,k1⟩,_⟩:=I.list h1;obtain⟨oc,od,oda,osl⟩:=o;simp only at c1 d1 k1;subst c1;subst d1;subst k1;have l1:=XQ;have l2:=h2.length;have hj:j<Ac:=(Zz.mp g1).1;have B:∀(m:Nat)(r:m<FL),eU J its f AU[m]=(J[m]'(by simp at r;lia)).eqv f:=λm r=>by
    have hm':m<BV:=by simpa using r
    have:=tP I h2 g Ad (d:=f) (j:=m) (Zs hm') (Zs (by lia:m<Ac));simpa using this
   refine xA Qch ⟨_,e1,rfl⟩ F.entry_list_index (F.args_list_index_2 _ _) (SeqAt.list_indexAt l AU n No osl u (eU J its f) j Gj Ad ?_ ?_) ⟨e1,oQ hu I h2 g r2 ru Ad C.1.2,?_⟩
   ·rw[B j '>'];have:J[j]=d':=by rw[Zs hj]at g1;simpa using g1
    rw[this];exact g2
   ·intro m r hlt;rw[B m r];exact g3 m _ hlt (Zs (by simp at r;lia))
   ·exact⟨.int _,H,I.tok _,AJ,Out.now h rfl⟩
 ·exact h.elim
def JiM{id:Ba}{name:Str}{o:O2}(I:Slot "list" name id)(hty:RM)(ho:∀C B,(∀J,C≠.lst J)->op2 o C B=.sk)
  (hm:MtR X id (λx xs H Q=>∃y,xs=[y]/\∃J B,Rep X.K H AE x/\Rep X.K H B y/\(op2 o AE B).Good BY BE)) (ha:AG) (hb:Bp) (hn:noEx pb=To) (hl:C9)
  (g:'б' (attributeBase a name QL CH=eval a QL) Ah) (hs:II):PE X Wd IP:=by
 refine PE.weak (rP F.plainAttrs_list I hty hm ha (Jq hb JP hs) g (by rw[hs];rfl) hl hs rfl) λZ H Q h=>?_;obtain⟨O,r,h⟩:=h;refine tI.then r h λC x H1 s1 r1 q1 u=>?_;cases f:evD U pb O with
 |ex c=>exact absurd f (sW U pb O c hn)
 |sk=>rw[f]at u;exact u.elim
 |ok B=>
  rw[f]at u;simp only[Rs.bo]at u;have ty:∃J,C=.lst J:=by
   cases C with
   |lst J=>exact⟨J,rfl⟩
   |_=>rw[ho _ _ (by intro J;simp)]at u;exact u.elim
  obtain⟨J,rfl⟩:=ty;obtain⟨l,xs,rfl,g1,g2⟩:=(show _ from r1);refine⟨.inl ⟨rfl,xs,g1⟩,O,q1,?_⟩;rw[f];intro y H2 s2 r2;exact⟨y,rfl,J,B,r1.mono s2,r2,u.mono (λ_ o=>o.mono s2) λ_ q=>q.mono s2⟩
end
section
open PySem.W PySem.Calls
variable{K:Frag}{x D:Addr}
structure ExKit(K:Frag)(D:Addr):Prop where
 g:findIn K Dh "__getattribute__"=So (So L4)
 n:findIn K Dh "__getattr__"=So No
 b:mroIn K D Qi=So To
 d:hasDictIn K D=To
 a:findIn K Dh "__class__"=So (So EW)
 s:specialIn K EW "__get__"=So (So IW)
 t:takesIn K EW=So To
 m:mroIn K D Qbc=So To
open Builtin.ObjectAttr in
def Jpc{M:Model}(f:K.In h)(g:Ip):Looks M h (find Ca Dh "__class__") (.bind IW EW):=by
 have q:=looks_takesIn (M:=M) f g.t
 have r:Looks M h (dataDescriptor? (So EW) (So IW)) (So (.builtin "getset_descriptor.__get__",.builtin "object.__class__")):=by
  unfold dataDescriptor?
  exact Looks.andThen q .now
 exact(looks_findIn (M:=M) f g.a).andThen ((looks_specialIn (M:=M) f g.s).andThen (r.andThen (Looks.tag .now)))
open Builtin Builtin.ObjectAttr Builtin.Getset_descriptor in
def Jsa{tp:Al}{R:FV}(f:Fx)(lt:TF)(g:Ip)(q:Om):codeAny Ar A (.call IW ⟨[.builtin "object.__class__",.ref x,tp],[]⟩) R s:=by
 obtain⟨F,u,r,I,B⟩:=s
 have C:=looks_mroIn (M:=model prog w) f g.m
 refine(yS KF.slot_gs.plain KF.entry_gs (KF.slot_gs.check _ _ _ _ _ _ _ _ KF.type_class (KF.args_gs _ _ _) ?_))
 (unfold Builtin.«getset_descriptor.__get__» descrGet);(rw[dga_obj]);(refine Za (Zb ?_))
 (unfold descrGetter descrCheckInstance descrNameAndClass isInstance);(simp only[KF.owner_class]);(repeat lk)
 refine⟨(Code.quiet_builtin _ Ab),wC KF.entry_class ?_⟩
 (unfold Builtin.«object.__class__» shownTypeOf);(repeat lk);exact q
open Builtin Builtin.ObjectAttr in
def Jog{tk:Tok}{R:FV}(f:Fx)(lt:TF)(q:Ip)(u:Om):codeAny Ar A (.call L4 ⟨[.ref x,.str "__class__" tk],[]⟩) R s:=by
 obtain⟨h0,F,B,t0,U⟩:=s
 have lm:=looks_mroIn (M:=model prog w) f q.b
 have I:=Jpc (M:=model prog w) (x:=x) f q
 have r:builtinKind "BaseException.__getattribute__"=So .slot:=Ab
 have g:splitId "BaseException.__getattribute__"=So ("BaseException","__getattribute__"):=Ab
 have C:=PySem.F.args_bexc_ga Ca (.str "__class__" tk)
 refine yS PySem.F.excAttr_ValueError.ga.plain PySem.F.entry_bexc_ga ?_
 (simp only[checkBuiltinCall,r,g]);(refine Za ?_);(unfold isInstance);(repeat lk)
 exact wpAny_run (Jsa f lt q (Zb (Zb u)))
def Jlj{Q:CN}(f:Fx)(lt:TF)(g:Ip)(I:Q (So Dh) {s with toks:=Xl+1}):wpAny Ar A (getAttr? Ca "__class__") Q E s:=by obtain⟨U,u,r,t0,C⟩:=s;have F:=looks_findIn (M:=model prog w) f g.g;have q:=looks_findIn (M:=model prog w) f g.n;have B:=PySem.F.excAttr_ValueError.ga.bind Ca;(unfold getAttr? getAttrBy? getAttrBy);(refine Za (wpAny_mkText (Za (wB (qA (Za (lt.at (Za (F.at ?_)))))))));(show wpAny _ _ (getAttrByItsOwn Ca _ Dh L4 Fo Fo) _ _ _);(unfold getAttrByItsOwn);refine Za (m:=hookBefore Dh) (q.at ?_);refine Za (wB (qA ?_));(show wpAny _ _ (boundAndCalled _ _ _) _ _ _);(unfold boundAndCalled);(rw[B]);(refine Za (Zb ?_));refine sF (Jog (s:=⟨U,u,r,t0+1,C⟩) f lt g ?_);exact Zb (Zb I)
def Jpl{ox:Obj}(C:Ip):KitX K Ca Dh (λh=>h.get? x=So ox/\ox.cls=.ref D)where
 ty:=λ_ _ _⟨B,F⟩=>F▸(Looks.ld B).andThen .now
 it:=λ_ _ f _=>by
  obtain⟨U,g,_⟩:=any_some C.d
  unfold clsIn at g
  split at g
  ·rename_i r
   intro A' Q' E' s' k q
   (unfold isType loadHead);exact Za (wpAny_loadPart (k _ _ (f _ _ r)) (Zb q))
  ·cases g
 ne:=λh tp dd I n sl f u=>by
  obtain⟨U,g,_⟩:=any_some C.d
  refine(Bool.eq_false_iff.mpr λq=>?_)
  have e:D=tp:=Value.ref.inj (ZB.mp q)
  subst e
  unfold clsIn at g
  split at g
  ·rename_i r
   have z:=(f _ _ r).symm.trans u
   cases z
  ·cases g
 ca:=λf⟨B,F⟩k=>Jlj f (F▸(Looks.ld B).andThen .now) C k
end
inductive IsaCe(G:Gw)(t:Str)(cs:Ag):Prop where
 |mk (u:Value) (v:V) (h:RelV v u/\(G.mg t=So u\/(G.mg t=No/\bootBuiltins t=So u/\t≠"__name__"))/\∀c∈cs,∃C,PySem.W.nsIn G.K mainGlobals c=So (So (.ref C))/\ExKit G.K C/\PySem.W.kitOne G.K (.ref C) u=So (t==oS "ValueError"||c==t)):IsaCe G t cs
structure IsaC(G:Gw)(t:Str)(cs:Ag):Prop where
 ex:IsaCe G t cs
section
variable{U:Ae}{a:Expr}{t:Str}{cs:Ag}
def JuC{u:Al}(g:Em)(hc:∀c∈cs,∃C,PySem.W.nsIn X.K mainGlobals c=So Bo/\ExKit X.K C/\PySem.W.kitOne X.K AX u=So (t==oS "ValueError"||c==t)):
  nA X S5 (λxs H Q=>∃x d,xs=[x,v]/\Rep X.K H d x/\(op1 (.isC cs t) d).Good BY BE):=by
 rintro Y s Z H xs us Q I rvs⟨x,d,e,r,h⟩;subst e;obtain⟨u1,u2,rfl,r1,B⟩:=dU rvs;cases d with
 |exc c=>
  simp only[op1]at h;split at h
  ·rename_i F;obtain⟨C,g1,Z9,f⟩:=hc c (by simpa using F);obtain⟨a,o,C',rfl,k1,k2,k3⟩:=r;rw[g1]at k3;cases k3;cases r1;obtain⟨ho,_⟩:=I.hok a _ k1;have e2:u2=u\/True:=.inr trivial;have h2:PySem.W.kitOne X.K AX u2=So (t==oS "ValueError"||c==t):=by
    have:∀{w:V}{p q:Al},RelV w p->RelV w q->(∀T,w≠.ty T)->(∀b,w≠.ref b)->True:=λ_ _ _ _=>trivial;cases v with
    |ref b=>cases g;cases B;exact f
    |ty T=>cases g;cases B;exact f
    |non=>cases g;cases B;exact f
    |bl b=>cases g;cases B;exact f
    |_=>obtain⟨_,rfl⟩:=g;first|(unfold PySem.W.kitOne PySem.W.kitCls at f;simp at f;done)|exact absurd f (by simp[PySem.W.kitOne,PySem.W.kitCls])
   exact uF (Jpl (ox:=o) Z9) Yf ⟨ho,k2⟩ h2 (λz=>nomatch z) λtk=>⟨.bl _,H,I.kept (t':=tk) (λ_ _ q=>q),rfl,Out.now h rfl⟩
  ·exact h.elim
 |_=>exact(show False from h).elim
end
def iD(a b:Yh):(keyV a).eqv (keyV b)=decide (a=b):=by cases a<;>cases b<;>first|exact(Zx nofun).symm|exact(ZH rfl).symm|exact(JpF _ _).symm|exact(JpC _ _).symm
def lM{d:D}(h:keyD Fo d=To):∃k,d=keyV k:=by
 cases d with
 |int i=>exact⟨.inl i,rfl⟩
 |str x=>exact⟨.inr x,rfl⟩
 |non=>exact⟨.non,rfl⟩
 |_=>simp[keyD,keyB]at h
def tL{k:Yh}{y:V}(r:Rep K H Es y):y=kV k:=by cases k<;>cases r<;>rfl
noncomputable def sT (k:List (KTr Yh)):D:=.tup (uK k)
mutual
def JqA{K:Aj}{H:Hp}:∀(k:KTr Yh){v:V},KH H k v->Rep K H (JvZ k) v
 |.a k,v,h=>by cases(show v=kV k from h);cases k<;>rfl
 |.t ks,v,⟨a,xs,e,h1,h2⟩=>⟨a,xs,e,.inl h1,JlI ks h2⟩
def JlI{K:Aj}{H:Hp}:∀(ks:List (KTr Yh)){xs:Av},KHs H ks xs->Reps K H (uK ks) xs
 |[],_,h=>h
 |k::ks,_,⟨v,r,e,h1,h2⟩=>⟨v,r,e,JqA k h1,JlI ks h2⟩
end
def banV:Value->Nat
 |.str x _=>if banD x then 1 else 0
 |_=>0
def NoKT(K:Aj):Prop:=∀(y:Str)(b:Addr)(o:Obj)(f:B7)(n:Nat),ModT K y b->K.lookup b=So o->o.cls=.type "tuple"->o.data=.seq f n->2<=(f.toList.map banV).sum
def Jqt{d:D}(h:keyD To d=To):False:=by cases d<;>cases h
section
variable{κ:Type}[DecidableEq κ]{g:κ->D}
def look_of(f:∀a b,(g a).eqv (g b)=decide (a=b)){k:κ}:∀{kvs:Bu}{vs:Am},Reps K H vs (kvs.map (·.2))->match jA (g k) (kvs.map λp=>g p.1) vs with
  |some d=>∃v,valV kvs k=So v/\Rep K H d v
  |none=>valV kvs k=No
 |[],vs,h=>by
  cases vs with
  |nil=>rfl
  |cons _ _=>obtain⟨_,_,e,_⟩:=h;cases e
 |p::kvs,vs,h=>by
  cases vs with
  |nil=>cases h
  |cons d vs=>
   obtain⟨x,r,e,B,C⟩:=h
   simp only[Zl,lH]at e
   obtain⟨rfl,rfl⟩:=e
   simp only[Zl,jA,f]
   by_cases q:p.1=k
   ·simp only[q,decide_true,if_true]
    exact⟨p.2,nY q,B⟩
   ·simp only[q,decide_false,Zo,ZN]
    have u:=look_of f (k:=k) C
    rw[xX q];exact u
def xU(f:∀a b,(g a).eqv (g b)=decide (a=b)){k:κ}(kvs:Bu):((kvs.map λp=>g p.1).any λd=>d.eqv (g k))='乩'.isSome:=by rw[<-rX,List.any_map];simp only[wA,f]
def tV(F:∀a b,(g a).eqv (g b)=decide (a=b)){k:κ}{d:D}(C:DX){kvs:Bu}{vs:Am}(h:Reps K H vs (kvs.map (·.2))):
  (putD (g k) d (kvs.map λp=>g p.1) vs).1='ǿ'.map (λp=>g p.1)/\Reps K H (putD (g k) d (kvs.map λp=>g p.1) vs).2 ('ǿ'.map (·.2)):=by
 have f:=xU F (k:=k) kvs;rw[<-rX]at f;unfold putD putK;rw[f];by_cases q:(kvs.any λkv=>decide (kv.1=k))=To
 ·rw[if_pos q,if_pos q];refine GQ
  ·show kvs.map _=_;rw[Zu];refine fG λp _=>?_;show g p.1=g (if p.1=k then(p.1,v)else p).1;split<;>rfl
  ·clear q f;show Reps K H (setD _ _ _ _) _;induction kvs generalizing vs with
   |nil=>
    cases vs with
    |nil=>rfl
    |cons _ _=>obtain⟨_,_,e,_⟩:=h;cases e
   |cons p kvs I=>
    cases vs with
    |nil=>cases h
    |cons u vs=>
     obtain⟨x,r,e,h1,U⟩:=h;simp only[Zl,lH]at e;obtain⟨rfl,rfl⟩:=e;simp only[Zl,setD,F];refine⟨_,_,rfl,?_,I U⟩;by_cases B:p.1=k
     ·simp only[B,decide_true,if_true];exact C
     ·simp only[B,decide_false,Zo,ZN];exact h1
 ·rw[if_neg q,if_neg q];refine⟨by simp,?_⟩;simp only[gC,Zl,rJ];exact h.append (Reps.one C)
end
def dk_k{ks:Am}(h:DK H a Fo z ks xs):∃kvs:List (L2.Key×V),Rd H a AM/\ks=kvs.map (λp=>keyV p.1)/\xs=kvs.map (·.2):=by
 cases z<;>obtain⟨kvs,f,g⟩:=h
 ·exact⟨kvs,.inl f,g⟩
 ·exact⟨kvs,.inr f,g⟩
def dk_t{ks:Am}(h:DK H a To z ks xs):∃f:List (List (KTr Yh)×V),Rd H a (.dT f)/\ks=f.map (λp=>sT p.1)/\xs=f.map (·.2):=by
 cases z<;>obtain⟨f,g,q⟩:=h
 ·exact⟨f,.inl g,q⟩
 ·exact⟨f,.inr g,q⟩
section
variable{X:Cx}{U:Ae}{G:Gw}{N:Ag}{nm:A8}{e a b:Expr}{p pa pb:Px}{pos p1:Pos}{x:Str}{i:Nat}{M:Aq}{H0:Hp}{px:Pos}
def kW{ks vs:Am}{g:D}{x y:V}(hK:t=To->NoKT X.K)(r:Rep X.K H (.dct t z ks vs) x)(B:Rep X.K H g y)(q:keyD t g=To):∃l o,x=.ref l/\DGet H l y o/\(ks.any λd=>d.eqv g)=bT/\∀d,jA g ks vs=So d->∃v,o=So v/\Rep X.K H d v:=by
 obtain⟨l,xs,rfl,F,I⟩:=r;cases t with
 |false=>obtain⟨f,u,rfl,rfl⟩:=dk_k F;obtain⟨k,rfl⟩:=lM q;have:=tL B;subst this;refine⟨l,valV f k,rfl,.inl ⟨f,k,u,rfl,rfl⟩,xU iD f,λd C=>?_⟩;have:=look_of iD (k:=k) I;rw[C]at this;exact this
 |true=>exact(Jqt q).elim
def eDGet(C:Ao){t':Bool}(I:t'=To->NoKT G.K)(ha:AG)(hb:Bp)(hs:NoSl b):PE X MT (tI X U (.bi (.dGet t') pa pb)):=by
 have hu:=C.un;refine PE.weak (Jst Ad ha hb hs) λZ H Q u=>?_;obtain⟨O,r,h⟩:=u;refine tI.then r h λdx x H1 s1 F q1 h1=>tI.then q1 h1 λdy y H2 s2 r2 q2 h2=>?_;obtain⟨t,z,ks,vs,rfl,f⟩:=Jil h2;split at f
 ·rename_i B;obtain⟨rfl,B⟩:=B;obtain⟨l,o,e1,g,_,hl⟩:=kW (by rw[C.K];exact I) (F.mono s2) r2 B;cases q:jA dy ks vs with
  |none=>rw[q]at f;exact f.elim
  |some d=>rw[q]at f;obtain⟨v,e2,rv⟩:=hl d q;subst e2;exact⟨l,v,e1,g,Out.now f rv⟩
 ·exact f.elim
def rV{g:Bool->Bool}{t':Bool}{q u:D}{x y:V}{P:D->Prop}{E:C6}(C:t'=To->NoKT X.K)(B:Rep X.K H q x)(I:Rep X.K H u y)
  (h:(onD u λt ks _=>if t=t'/\keyD t q=To then .ok (.bl (g (ks.any λd=>d.eqv q)))else .sk).Good P E):∃l o,y=.ref l/\DGet H l x o/\P (.bl (g bT)):=by
 obtain⟨t,z,ks,vs,rfl,f⟩:=Jil h;split at f
 ·rename_i r;obtain⟨rfl,r⟩:=r;obtain⟨l,o,e1,F,ha,_⟩:=kW C I B r;rw[ha]at f;exact⟨l,o,e1,F,f⟩
 ·exact f.elim
def eDIn(C:Ao){t':Bool}(F:t'=To->NoKT G.K)(ha:AG)(hb:Bp)(hm:behindInMarks .In b=Fo):PE X Nh (tI X U Pl):=by have hu:=C.un;refine PE.weak (JvI Qcr hm) λZ H Q f=>?_;obtain⟨O,r,h⟩:=f;refine tI.then r h λdx x H1 s1 u q1 h1=>tI.then q1 h1 λdy y H2 B I q2 h2=>?_;obtain⟨l,o,e1,g,q⟩:=rV (g:=id) (by rw[C.K];exact F) cI I h2;exact Ti
def tDIn(C:Ao){t':Bool}(F:t'=To->NoKT G.K)(ha:AG)(hb:Bp)(hm:'б' (behindInMarks .In b=Fo) Ah):PT X Nh (tT X U Pl):=by have hu:=C.un;refine PT.weak (tU Qcr hm) λZ H Q f=>?_;obtain⟨O,r,h⟩:=f.asTest;refine tI.then r h λdx x H1 s1 u q1 h1=>tI.then q1 h1 λdy y H2 B I q2 h2=>?_;obtain⟨l,o,e1,g,q⟩:=rV (g:=id) (by rw[C.K];exact F) cI I h2;exact Ti
def tDNi(C:Ao){t':Bool}(F:t'=To->NoKT G.K)(ha:AG)(hb:Bp)(hm:behindInMarks .NotIn b=Fo):PT X (.Compare a [.NotIn] [b] pos) (tT X U (.bi (.dNi t') pa pb)):=by have hu:=C.un;refine PT.weak (tU (JkP Ad ha hb) hm) λZ H Q f=>?_;obtain⟨O,r,h⟩:=f.asTest;refine tI.then r h λdx x H1 s1 u q1 h1=>tI.then q1 h1 λdy y H2 B I q2 h2=>?_;obtain⟨l,o,e1,g,q⟩:=rV (g:=not) (by rw[C.K];exact F) cI I h2;exact Ti
def Jwa(C:Ao)(h:Eb)(F:swapsWith Qbd Qay Xt QL=pure Fo):PS X (.Assign bJ Qbd pos) (tS X U M H0 (.ownD Fo i)):=by
 obtain⟨I,h2,h3,h4,h5⟩:=chkO.at h;obtain⟨k1,u⟩:=C.sto x h2;refine PS.weak (pG (by rw[C.hN];exact C.nd) (by rw[C.hN];exact I) k1 rY F u) λD Z H f=>?_;obtain⟨O,e,h⟩:=f;intro l g;have s:Same H (upd H l aL):=λb o q=>by rw[Jb 'ћ'];exact q
 obtain⟨r,B⟩:=e.putOwn s (i:=i) (d:=.dct Fo Fo [] []) g λHh tp=>⟨rfl,[],⟨[],Jd,rfl,rfl⟩,rfl⟩;exact h _ _ r ⟨B,λ_=>s⟩
theorem aPut{b v:Expr}{pk pv:Px}{ps:Pos}(C:Ao){t':Bool}(hK:t'=To->NoKT G.K)(h:Eb)(hb:PE X b (tI X U pk))(hv:PE X v (tI X U pv))(h1:sepP M pk=To)(h2:sepP M pv=To)
  (hs:swapsWith v (So (.Subscript E3 b ps)) Xt QL=pure Fo):PS X (.Assign [.Subscript E3 b ps] v pos) (tS X U M H0 (.put Fo t' i pk pv)):=by
 obtain⟨g1,g2,g3,g4,g5⟩:=chkO.at h;obtain⟨d1,d2⟩:=plainN.d g3;have hu:=C.un;refine PS.weak (JlC Ad L8 (mE hb) (mE hv) hs) λD Z H zz0=>?_;obtain⟨O,e,h⟩:=zz0;simp only[exD]at h;cases q:O[i]? with
 |none=>rw[q]at h;exact h.elim
 |some o=>
  rw[q]at h;cases o with
  |none=>exact h.elim
  |some d=>
   cases d with
   |dct t z ks vs=>
    cases z with
    |true=>exact h.elim
    |false=>
     simp only at h;obtain⟨l,u,h0,hz,xs,hl,hr⟩:=e.own i _ g4 q;refine KY;rw[Jv U O h2];refine(Rs.gB.mp h).mono (λdv hdv v H1 F k1 r1=>?_) λc z=>z.mono Yw;have I:=e.grow F;refine⟨.ref l,u,JD M 0 O,Ow M O Z,I.ows,I.readHid,?_⟩;rw[Jv U O h1];refine(Rs.gB.mp hdv).mono (λdk f y r B k2 r2=>?_) λc z=>z.mono I.same0;split at f
     ·exact f.elim
     ·rename_i g;simp only[uB,Bool.false_or,uD,not_or,kB,Bool.not_eq_true,Bool.not_eq_false,gG,Decidable.not_not,ZB,Zw,ne_eq]at g;obtain⟨⟨htt,hc1⟩,hc2⟩:=g;have g:=fB hc1 hc2;subst htt;have e2:=I.grow B;have f2:Same Di J3:='亟'.hid;have f3:Same (hid BQ H1) J3:=(Fz.sm B).hid;have fin:∀ob,OwnIs X.K J3 LI l (.dct t Fo (putD dk dv ks vs).1 (putD dk dv ks vs).2)->D.nx Z LI:=λob nw=>by obtain⟨e3,f4⟩:=e2.change (o:=ob) g4 q u nw;exact f _ _ e3 ⟨'亟'.trans f4,λz=>by cases z⟩
      cases t with
      |true=>exact(Jqt g.1).elim
      |false=>
       obtain⟨k,rfl⟩:=lM g.1;have hy:=tL r2;subst hy;obtain⟨kvs,w1,rfl,rfl⟩:=hl;have w2:r l=So AM:=B _ _ (F _ _ w1);have hlen:By<1000:=by simpa using g.2
       refine⟨l,_,rfl,DPut.k (k:=k) w2 (by show _<16777216;lia),fin _ ?_⟩;obtain⟨p1,p2⟩:=tV iD (k:=k) (r1.mono f3) (hr.mono f2);exact Qcd
   |_=>exact h.elim
end
def rW(I:Bw){kvs:EH}(e:H l=So AM):∃o,L2.Inv X Y Z (upd H l (.frz o AM)) s:=by obtain⟨z,B,u,f,g⟩:=rT Xy e;obtain⟨o,es,ep,r,_⟩:=id g;exact⟨o,I.write (t':=Xl) (x:=l) (e:=l) (h':=Re) (by rw[e];exact gA) BB MA ⟨o,r⟩ ⟨r,z,B,u,f,g⟩⟩
def Jti(I:Bw){kvs:List (List (KTr Yh)×V)}(e:H l=So Ft):∃o,L2.Inv X Y Z (upd H l (.frz o Ft)) s:=(show False from I.hok l _ e).elim
section
variable{U:Ae}{a:Expr}
def aRetF(C:Ao)(h:Eb):PS X (.Return Qay pos) (tS X U M H0 (.retF i)):=by
 obtain⟨g1,g2,g3,g4,g5⟩:=chkO.at h;obtain⟨d1,d2⟩:=plainN.d g3;rintro Y s Z H D I⟨O,e,h⟩;simp only[exD]at h;cases q:O[i]? with
 |none=>rw[q]at h;exact h.elim
 |some o=>
  rw[q]at h;cases o with
  |none=>exact h.elim
  |some d=>
   cases d with
   |dct t z ks vs=>
    cases z with
    |true=>exact h.elim
    |false=>
     obtain⟨l,F,h0,hz,xs,hl,hr⟩:=e.own i _ g4 q;have hlo:l∈Ow M O Z:=mem_Ow.mpr ⟨i,g4,_,q,F⟩;have fin:∀ob,Rep X.K HU Qak BC->D.rt BC HU:=λob r=>h _ _ (λb o' g=>by rw[Jb (Je g h0)];exact e.same b o' g) r;have rr:∀ob,Reps X.K HU vs xs:=λob=>hr.mono λb o' g=>by
      by_cases z:b∈Ow M O Z
      ·rw[uG z]at g;cases g
      ·rw[Jt z]at g;rw[Jb (λk:b=l=>z (k▸hlo))];exact g
     refine ZL (lE L8 Y s Z H ⟨λ_ _=>False,λv W=>v=.ref l/\W=H,λ_ _=>False,λ_ _=>False⟩ I ⟨.ref l,F,rfl,rfl⟩) (λf s1 r=>?_) λ_ _ z=>z;cases f with
     |next=>obtain⟨_,_,_,z⟩:=r;exact z.elim
     |brk=>obtain⟨_,_,_,z⟩:=r;exact z.elim
     |cont=>obtain⟨_,_,_,z⟩:=r;exact z.elim
     |ret u=>
      obtain⟨v,σ',W,I',rv,rfl,rfl⟩:=r;cases t with
      |false=>obtain⟨B,w1,rfl,rfl⟩:=hl;obtain⟨o,I2⟩:=rW I' w1;exact WO
      |true=>obtain⟨B,w1,rfl,rfl⟩:=hl;obtain⟨o,I2⟩:=Jti I' w1;exact WO
   |_=>exact h.elim
end
end Rd
namespace Rd
open PySem PySem.Spec PyProof.Rows L2
open Sem (wp)
variable{A:Bd}{prog:Be}{a:Addr}
def JfB:typeLookup Mp "keys"=pure No:=by rw[vN,uO];kernel_rfl
def JdB{w:A0}{E:Au}{s:Ak}{o:Obj}{xs:B7}{k:Nat}{Q:CN}
  (t:s.heap.get? a=So o) (q:o.cls=.type "tuple") (f:o.data=.seq xs k) (r:o.dict=No) (y:Bk)
  (h:∀j m,(∀b o,s.heap.get? b=So o->j.get? b=So o)->Q No {s with heap:=j,toks:=m}):
  wpAny Ar A (getAttr? Ax "keys") Q E s:=by
 obtain⟨c,dct,x,sl⟩:=o;simp only at q f r;subst q f r;obtain⟨z,g,d,m,v⟩:=s;have u:∀l,(Qd7:Shared).TypeIs Ax "tuple":=λ_=>HF;have B:=sub_AttributeError;have J:=F.slot_tuple_getattribute.lookup;have L:=F.slot_tuple_getattribute.bind Ax;have H:=am_tuple_getattr_none;unfold getAttr? getAttrBy? getAttrBy;repeat(any_goals(first|assumption|exact u _|((with_reducible show wpAny _ _ (call (Value.builtin "tuple.__getattribute__") _ _) _ _ _);refine xA F.slot_tuple_getattribute (u _) am_entry_tuple_getattribute (F.args_tuple_getattribute_2 _ _) (meets_getattribute_miss_tuple a xs k sl "keys" _ JfB Ab (by size_fits)) Qa)|wp_step))
 obtain⟨G,I,C⟩:=i.there;show wpAny _ _ Vj _ _ _;unfold getattributeRaised;repeat(any_goals(first|assumption|wp_step))
 exact h _ _ i.keeps
def JgE:typeLookup (.type "list") "keys"=pure No:=by rw[vN,uO];kernel_rfl
def Jem{w:A0}{E:Au}{s:Ak}{o:Obj}{xs:B7}{k:Nat}{Q:CN}
  (t:s.heap.get? a=So o) (q:o.cls=.type "list") (f:o.data=.seq xs k) (r:o.dict=No) (y:Bk)
  (h:∀j m,(∀b o,s.heap.get? b=So o->j.get? b=So o)->Q No {s with heap:=j,toks:=m}):
  wpAny Ar A (getAttr? Ax "keys") Q E s:=by
 obtain⟨c,dct,x,sl⟩:=o;simp only at q f r;subst q f r;obtain⟨z,g,d,m,v⟩:=s;have u:∀l,(Qd7:Shared).TypeIs Ax "list":=λ_=>HF;have B:=sub_AttributeError;have J:=F.slot_list_getattribute.lookup;have L:=F.slot_list_getattribute.bind Ax;have H:=am_list_getattr_none;unfold getAttr? getAttrBy? getAttrBy;repeat(any_goals(first|assumption|exact u _|((with_reducible show wpAny _ _ (call (Value.builtin "list.__getattribute__") _ _) _ _ _);refine xA F.slot_list_getattribute (u _) am_entry_list_getattribute (F.args_list_getattribute_2 _ _) (meets_getattribute_miss_list a xs k sl "keys" _ JgE Ab (by size_fits)) Qa)|wp_step))
 obtain⟨G,I,C⟩:=i.there;show wpAny _ _ Vj _ _ _;unfold getattributeRaised;repeat(any_goals(first|assumption|wp_step))
 exact h _ _ i.keeps
def iS:plainId "dict.update.loop"=To:=by decide+kernel
def JbS:entryFor table "dict.update.loop"=So Builtin.«dict.update.loop»:=entryFor_of_tree (by kernel_rfl)
section
variable{w:A0}{R:FV}{I d:Addr}{fp wr:A1}{n:Nat}{P:Nat->Value->Prop}{St:Ff}{κ:Type}[DecidableEq κ]{knd:KeyKind prog w κ}
noncomputable def yB (rows:Ci) (i:Nat):List (κ×Value):=(rows.take i).foldl (λa r=>stored a r.1 r.2) []
def Jks(a:Ci)(k:κ)(v:Al):(stored a k v).length<=bU+1:=by unfold stored;split<;>simp
def uZ{rows:Ci}{i:Nat}{r:κ×Value}(h:rows[i]? =So r):yB rows Bq=stored '乲' r.1 r.2:=by unfold yB;rw[xJ,h];simp[List.foldl_append]
def JeU(rows:Ci):∀i,'乲'.length<=i
 |0=>by simp[yB]
 |i+1=>by
  cases h:rows[i]? with
  |none=>
   have:yB rows Bq=yB rows i:=by unfold yB;rw[xJ,h];simp
   rw[this];exact Nat.le_succ_of_le HS
  |some r=>rw[uZ h];exact ZA (Jks _ _ _) (Nat.succ_le_succ HS)
theorem JnD(W9:Walks prog w XB I fp wr n P St)(Z:d∉fp)(U:Heap){Dk:Ff}(r:∀i h g,Dk i h->(∀b o,b∉wr->h.get? b=So o->g.get? b=So o)->Dk i g)
  (hit:∀i v,P i v->∃b H J,v=.ref b/\b∉wr/\b≠d/\IsTup U b #[H,J]/\∀(s:Ak)(Q:C8)(E:Au),Dk i s.heap->(∀b o,b∉wr->b≠d->U.get? b=So o->s.heap.get? b=So o)->
   (∀g y,Dk Bq g->(∀b,b≠d->g.get? b=s.heap.get? b)->Q () {s with heap:=g,toks:=y})->wpAny Ar XB QbP Q E s):
  ∀(k i:Nat)(s:Ak)(t:Tok)(j:Int),n-i=k->i<=n->St i s.heap->Dk i s.heap->(∀b o,b∉wr->b≠d->U.get? b=So o->s.heap.get? b=So o)->
  (∀g y,Dk n g->(∀b o,b∉wr->b≠d->U.get? b=So o->g.get? b=So o)->R N7 {s with heap:=g,toks:=y})->
  codeAny Ar A (.builtin "dict.update.loop" ⟨[.ref d,.ref I,.int j t,.none],[]⟩) R s:=by
 intro k;induction k with
 |zero=>
  intro i s t j hk hi B Y l hR;have X:i=n:=by lia
  subst X;refine wC JbS ?_;rw[sD iS _];show wpAny _ XB (pyNext (.ref I)>>=_) _ _ s;refine Za (W9.done s _ _ B λg y f=>?_);show wpAny _ _ (Builtin.Dict.addKeywords d []>>=_) _ _ _;refine Za (Zb (Zb ?_));exact hR g y QdH λb o x C q=>f b o x Io
 |succ k ih=>
  intro i s t j hk hi B Y l hR;have O:i<n:=by lia
  refine wC JbS ?_;rw[sD iS _];show wpAny _ XB (pyNext (.ref I)>>=_) _ _ s;refine Za (W9.item i s _ _ O B λv g y hP F f=>?_);obtain⟨b,H,J,rfl,L,hb2,⟨ob,g1,g2,m,g3⟩,G⟩:=hit i v hP;have N:=f b ob L (l b ob L hb2 g1);have hT:({s with heap:=g,toks:=y}:Shared).TypeIs Eu "tuple":=⟨ob,N,g2⟩;refine Za ?_;try with_reducible refine qA ?_
  refine Za (wpAny_tryCatch ?_);show wpAny _ _ (Builtin.Dict.pairItems Eu) _ _ _;unfold Builtin.Dict.pairItems;refine Za (nD hT ?_);rw[if_pos (by rfl)];refine Za (qC N g3 (Zb ?_));show wpAny _ _ (holding [H,J] QbP) _ _ _;try with_reducible refine qA ?_
  refine G _ _ _ QdH (λb o x C q=>f b o x Io) λh'' tk'' M u=>?_;refine Zb QcK;refine ih Bq _ _ _ Ad O (W9.frame _ _ _ F λb hb o e=>u b (λz=>Z (by rw[<-z];exact hb))▸e) M (λb o x C q=>?_) λh3 W q1 q2=>hR h3 W q1 q2;exact(u b C).trans (f b o x Io)
def JdT{E:Au}{s:Ak}{o:Obj}{f:B7}{m:Nat}(T:Bool)(ho:s.heap.get? a=So o)(M:o.cls=.type (if T then "tuple" else "list"))(hd:o.dict=No)(j:o.data=.seq f m)(hA:Bk)
  {Dk:Ff} (d0:Dk 0 (s.heap.push {cls:=.type "dict",data:=.dict #[]})) (hkeep:∀i h h',Dk i h->(∀b o,(b=Aa\/∃q,s.heap.get? b=So q)->h.get? b=So o->h'.get? b=So o)->Dk i h')
  (hit:∀(i:Nat)(v:Al),f[i]? =So v->∃b kv Y,v=Value.ref b/\IsTup Re b #[kv,Y]/\∀(H:Ak)(Q:C8)(E:Au),Dk i H.heap->(∀b o,s.heap.get? b=So o->H.heap.get? b=So o)->
   (∀h' r,Dk Bq h'->(∀b,b≠Aa->h'.get? b=H.heap.get? b)->Q () {H with heap:=h',toks:=r})->wpAny Ar Ye (dictSet Aa kv Y) Q E H) {Q:Au}
  (h:∀h' r,Dk f.size h'->(∀b o,s.heap.get? b=So o->h'.get? b=So o)->Q Qco {s with heap:=h',toks:=r}):
  wpAny Ar A (call Ks LL) Q E s:=by
 refine callType_codes (Q₁:=λobj t=>obj=.ref Aa/\t={s with heap:=s.heap.push {cls:=.type "dict",data:=.dict #[]}}) F.kt_called_dict (F.kt_typeCall_dict_1 _) F.entry_dict_init (kt_code_dict_new _ Dr) ?_;rintro obj t⟨rfl,rfl⟩;have u:(s.heap.push {cls:=.type "dict",data:=.dict #[]}).DictOf (JN prog w) Aa []:=Heap.DictOf.new Re;have l:(s.heap.push {cls:=.type "dict",data:=.dict #[]}).get? a=So o:=Zc _ ho;have hT1:({s with heap:=s.heap.push {cls:=.type "dict",data:=.dict #[]}}:Shared).TypeIs Ax (if T then "tuple" else "list"):=⟨o,l,M⟩;refine⟨u.typeIs,F.args_dict_init_2 _ _,?_⟩;unfold Builtin.«dict.__init__»;refine Za ?_;unfold Builtin.Dict.selfAndRest;refine Za (fT u.typeIs ?_);show wpAny _ _ (pure (Aa,LL)) _ _ _;refine Zb ?_;show wpAny _ _ (Builtin.Dict.updateFrom "dict.__init__" Aa Ax [] .none) _ _ _;unfold Builtin.Dict.updateFrom;refine Za (nD hT1 ?_);rw[if_pos (by cases T<;>rfl)];have G:∀h' r,(∀b o,(s.heap.push {cls:=.type "dict",data:=.dict #[]}).get? b=So o->h'.get? b=So o)->wpAny Ar Ye Ia (λit x=>∃I fp wr St,it=.ref I/\x.os=s.os/\x.gens=YR/\x.drawn=Yo/\Walks prog w Ye I fp wr f.size (λi v=>f[i]? =So v) St/\St 0 x.heap/\s.heap.objs.size∉fp/\(∀b o,s.heap.get? b=So o->b∉wr)/\∀b o,h'.get? b=So o->x.heap.get? b=So o) E {s with heap:=h',toks:=r}:=by
  intro h' r y;have hD':=y _ _ (Ze (o:={cls:=.type "dict",data:=.dict #[]}) Re rfl);have J:Aa<Cb:=Zh hD';have C:=Zh ho;have O:a≠Cb:=λe=>by rw[e]at C;exact Nat.lt_asymm C J
  have U:Aa∉[Cb,a]:=by
   intro e;simp only[Zg,ZC,fA]at e;rcases e with e|e
   ·exact Zn J e
   ·exact nC C e
  have g:∀b o,s.heap.get? b=So o->b∉[Cb]:=λb o q e=>by have Z:=Zh q;simp only[Zg,ZC,fA]at e;rw[e]at Z;exact Nat.lt_asymm Z J
  cases T with
  |true=>have W:h'.IsTuple a f:=Oi;refine oN W ?_;exact⟨Cb,[Cb,a],[Cb],(λi h=>h.IsTupleIter Cb a i/\h.IsTuple a f),rfl,rfl,rfl,rfl,Walks.tuple (A:=Ye) hA _ a O f,Qce,U,g,λb o q=>Zc _ q⟩
  |false=>have W:h'.IsList a f:=Oi;refine pH W ?_;exact⟨Cb,[Cb,a],[Cb],(λi h=>h.IsListIter Cb a i/\h.IsList a f),rfl,rfl,rfl,rfl,Walks.list (A:=Ye) hA _ a O f,Qce,U,g,λb o q=>Zc _ q⟩
 have B:∀{Q':CN}{E':Au},(∀h' r,(∀b o,(s.heap.push {cls:=.type "dict",data:=.dict #[]}).get? b=So o->h'.get? b=So o)->Q' No {s with heap:=h',toks:=r})->wpAny Ar Ye (getAttr? Ax "keys") Q' E' {s with heap:=s.heap.push {cls:=.type "dict",data:=.dict #[]}}:=by
  intro Q' E' X;cases T with
  |true=>exact JdB l M j hd hA X
  |false=>exact Jem l M j hd hA X
 refine Za (B λh' r y=>?_);simp only[Option.isNone_none,if_true];refine Za (qB (Za (thn (G h' r y) λit x zz0=>?_)));obtain⟨I,fp,wr,Sz,e1,e2,e3,e4,W9,st,hf,g,kp⟩:=zz0;subst e1;refine Zb QcK;have hdw:Aa∉wr:=λz=>hf (W9.sub _ z);refine JnD W9 hf Re (Dk:=Dk) (λi Z h2 N L=>hkeep i Z h2 N λb o hb=>L b o (by rcases hb with rfl|⟨q,X⟩;exact hdw;exact g b q X)) (λi v hv=>?_) f.size 0 x _ _ Ad (mB _) st ?_ (λb o _ _ q=>kp _ _ (y _ _ (Zc _ q))) λh3 tk3 N L=>?_
 ·obtain⟨b,kv,Y,h2,h3,h4⟩:=hit i v hv;obtain⟨ob,g1,g2⟩:=h3;exact⟨b,kv,Y,h2,g b ob g1,Zn (Zh g1),⟨ob,g1,g2⟩,λH Q E N L q3=>h4 H Q E N (λb o q=>L b o (g b o q) (Zn (Zh q)) q) q3⟩
 ·exact hkeep _ _ _ d0 λb o _ q=>kp _ _ (y _ _ q)
 ·refine Lx;have:=h h3 tk3 N λb o q=>L b o (g b o q) (Zn (Zh q)) q;obtain⟨hp',g',d',t',os'⟩:=x;simp only at e2 e3 e4;subst e2 e3 e4;exact this
end
end Rd
namespace Rd
open PySem PySem.Spec PyProof.Rows L2 Pu
variable{X:Cx}{pos p1 p2 px p3:Pos}{G:Gw}{N:Ag}{nm:A8}{H H0:Hp}{s:Ak}{w:A0}{d:Addr}{a v e b:Expr}{pa pv pk p:Px}{prog:Be}{A:Bd}{E:Au}{ks J:Am}{xs:Av}{o od:Obj}{i ep:Nat}{t:Bool}{x y:Str}{Z:Bf}{K:Aj}{M:Aq}{Y:AV}{es:Ku}{κ:Type}{vs:Cy}
def JjJ[DecidableEq κ]{a:Ci}{k:κ}{v:Al}(h:k∉a.map (·.1)):stored a k v=a++[(k,v)]:=by unfold stored;rw[if_neg];intro q;obtain⟨p,f,g⟩:=fN.mp q;exact h (Zy.mpr ⟨p,f,ZW g⟩)
theorem JbB[DecidableEq κ]{rows:Ci}(h:(rows.map (·.1)).Nodup):∀i,yB rows i=rows.take i
 |0=>by simp[yB]
 |i+1=>by
  cases q:rows[i]? with
  |none=>
   have:yB rows Bq=yB rows i:=by unfold yB;rw[xJ,q];simp
   rw[this,JbB h i,xJ,q];simp
  |some r=>
   rw[uZ q,JbB h i,xJ,q,JjJ]
   ·rfl
   ·intro l
    obtain⟨z,e⟩:=Zz.mp q
    obtain⟨p,u,m⟩:=Zy.mp l
    obtain⟨j,B,g⟩:=List.mem_take_iff_getElem.mp u
    have f:j<i:=by lia
    have:=(List.pairwise_iff_getElem.mp h) j i Gj (by simpa using z) f
    simp[g,e,m]at this
def JjE{f:D->Bool}{d:D}{vs:Am}(h:fF f (d::J)=So (ks,vs)):∃k v,∃p:List D×List D,d=.tup [k,v]/\f k=To/\fF f J=So (p.1,p.2)/\ks=k::p.1/\vs=v::p.2:=by
 simp only[fF]at h;split at h
 ·split at h
  ·rename_i g;cases q:fF f J with
   |none=>rw[q]at h;cases h
   |some p=>rw[q]at h;cases h;exact⟨_,_,p,rfl,g,rfl,rfl,rfl⟩
  ·cases h
 ·cases h
def Jss{P:D->Bool}(I:Bw):∀{J ks vs:Am}{xs:Av}{its:AF},fF P J=So (ks,vs)->Reps X.K H J xs->Vals xs its->
  ∃(rs:List (V×V))(us:List (Value×Value)),Reps X.K H ks (rs.map (·.1))/\Reps X.K H vs (rs.map (·.2))/\Paired (λr u=>RelV r.1 u.1/\RelV r.2 u.2) rs us/\us.length=BV/\(∀k∈ks,P k=To)/\
   ∀(i:Nat)(v:Al),its[i]? =So v->∃b u,us[i]? =So u/\v=Value.ref b/\IsTup Re b #[u.1,u.2]:=by
 intro J;induction J with
 |nil=>intro ks vs xs its h r l;cases h;cases r;cases l;exact⟨[],[],rfl,rfl,.nil,rfl,λk j=>by simp at j,λi v h=>by simp at h⟩
 |cons d J ih=>
  intro ks vs xs its h r l;obtain⟨x,xr,rfl,W,r2⟩:=r;cases l with
  |@cons _ u _ ur rx C=>
  obtain⟨k,v,p,rfl,j,q,rfl,rfl⟩:=JjE h;obtain⟨rs,us,e1,e2,e3,e4,e6,e5⟩:=ih q r2 C;obtain⟨a,ys,rfl,g1,g2⟩:=W;obtain⟨y0,yr,rfl,g3,y1,yr',rfl,g4,g5⟩:=g2;cases g5;obtain⟨O,rt,ht,_⟩:=I.tuple g1;cases rt with
  |@cons _ F _ ur0 B rt=>
  cases rt with
  |@cons _ L _ U g rt=>
  cases rt;cases rx;refine⟨(y0,y1)::rs,(F,L)::us,⟨_,_,rfl,g3,e1⟩,⟨_,_,rfl,g4,e2⟩,.cons ⟨B,g⟩ e3,by simp[e4],λk' m=>by rcases Zg.mp m with rfl|z;exact j;exact e6 _ z,λi v f=>?_⟩;cases i with
  |zero=>simp only[tE,ZP]at f;subst f;exact⟨a,(F,L),rfl,rfl,ht⟩
  |succ i=>simp only[qH]at f⊢;exact e5 i v f
def JtA:∀{ks:Am}{rs:List (V×V)}{us:List (Value×Value)},Reps X.K H ks (rs.map (·.1))->Paired (λr u=>RelV r.1 u.1/\RelV r.2 u.2) rs us->(∀k∈ks,keyN k=To)->
  ∃(kvs:EH)(rows:List (L2.Key×Value)),ks=kvs.map (λp=>keyV p.1)/\rs.map (·.2)=kvs.map (·.2)/\KV kvs rows/\rows.length=Qdq/\∀(i:Nat)(u:Value×Value),us[i]? =So u->∃k,rows[i]? =So (k,u.2)/\(JN Xn X.w).is k u.1=To:=by
 intro ks rs us r rv;induction rv generalizing ks with
 |nil=>intro _;cases ks with
  |nil=>exact⟨[],[],rfl,rfl,.nil,rfl,λi u h=>by simp at h⟩
  |cons k ks=>obtain⟨_,_,e,_⟩:=r;cases e
 |@cons p q ps qs l t I=>
  intro m;cases ks with
  |nil=>cases r
  |cons k ks=>
   obtain⟨x,xr,e,B,g2⟩:=r;simp only[Zl,lH]at e;obtain⟨rfl,rfl⟩:=e;obtain⟨kvs,rows,e1,O,U,L,e5⟩:=I g2 λk' P=>m k' (Zq _ P);obtain⟨p1,p2⟩:=p;obtain⟨j,W⟩:=q;obtain⟨f,F,C⟩:∃f,k=keyV f/\(JN Xn X.w).is f j=To:=by
    have:=m k Af;cases k<;>first|(cases this;done)|skip
    ·have z:RelV p1 j:=l.1;rw[show p1=V.non from B]at z;cases z;exact⟨.non,rfl,rfl⟩
    ·have z:RelV p1 j:=l.1;rw[show p1=V.str _ from B]at z;obtain⟨t,rfl⟩:=z;exact⟨.inr _,rfl,JdE _ _ _ _⟩
   refine⟨(f,p2)::kvs,(f,W)::rows,by rw[F,e1];rfl,by simp only[Zl];rw[O],.cons ⟨rfl,l.2⟩ U,by simp[L],λi u g=>?_⟩;cases i with
   |zero=>simp only[tE,ZP]at g;subst g;exact⟨f,rfl,C⟩
   |succ i=>simp only[qH]at g⊢;exact e5 i u g
def Jjx{kvs:EH}(h:(kvs.map (λp=>keyV p.1)).Pairwise (λa b=>a.eqv b=Fo)):(kvs.map (·.1)).Nodup:=by rw[List.pairwise_map]at h;unfold List.Nodup;rw[List.pairwise_map];refine h.imp fun{a b}q e=>?_;rw[iD,gG]at q;exact q e
noncomputable def frzO (fz:Bool) (o:Obj) (ob:HO):HO:=if fz then .frz o ob else ob
def OutD(X:Cx)(H:Hp)(Q:VK)(d:D):Prop:=∀ks vs,d=.dct Fo To ks vs->∃f:Bool,∀l(kvs:EH)o,H l=No->ks=kvs.map (λp=>keyV p.1)->Reps X.K QA vs (kvs.map (·.2))->Q BC QA
def OutD.of{Q:VK}{d:D}(h:cZ):OutD X H Q d:=λks vs e=>⟨To,λl f o m g j=>by
 subst e
 exact h _ _ (λb ob e=>by rw[Jb (Je e m)];exact e) ⟨l,_,rfl,⟨f,⟨o,Jd⟩,g,rfl⟩,j⟩⟩
theorem Jgn(f:BZ)(I:Bw){a:Addr}{its:AF}{m:Nat}(T:Bool)(P:GS)(ho:s.heap.get? a=So o)(hc:o.cls=.type (if T then "tuple" else "list"))(hd:o.dict=No)(F:o.data=.seq AU m)(hz:Ai<=sizeLine)(r:FF)
  {Q:VK} (h:(wK J).Good (OutD X H Q) BE) {E:Au}:wpAny As X.A (call Ks LL) BI E s:=by
 unfold wK at h;split at h
 ·rename_i ks vs q;split at h
  ·rename_i hk;obtain⟨rs,us,f1,f2,f3,f4,f6,f5⟩:=Jss I q r P;obtain⟨kvs,rows,e1,f7,L,U,e5⟩:=JtA f1 f3 f6;have e4:Bz=BV:=U.trans f4;have e2:Reps X.K H vs (kvs.map (·.2)):=by rw[<-f7];exact f2
   subst e1;have hn:=Jjx hk.1;have hn2:(rows.map (·.1)).Nodup:=by rw[<-L.keys];exact hn
   refine JdT (Dk:=λi h=>h.DictOf Mq Aa '乲') T ho hc hd F (I.ok.hd f) (Heap.DictOf.new Re) (λi h1 h2 W O=>?_) (λi v hv=>?_) λh' tk hD O=>?_
   ·obtain⟨o,es,ep,ho,r⟩:=W;exact⟨o,es,ep,O _ _ BB ho,r⟩
   ·have C:its[i]? =So v:=by simpa using hv
    obtain⟨b,u,g1,g2,g3⟩:=f5 i v C;obtain⟨k,g4,g5⟩:=e5 i u g1;have hlt:i<BV:=(Zz.mp C).1;refine⟨b,u.1,u.2,g2,g3,λs1 Q E W q2 q3=>wpAny_dictSet_pairs (hsz:=ZA HS (by rw[P.length]at hz;lia)) g5 W λh'' z l=>?_⟩;exact q3 _ _ (by rw[uZ g4];exact z) l.2
   have hsz:FL=Bz:=by rw[Zp,e4]
   rw[JbB hn2,hsz,List.take_length]at hD;obtain⟨B,es,ep,j,hr⟩:=hD;have hl:By<=sizeLine:=by rw[L.length,e4,<-P.length];exact hz
   have g:=I.hok.fresh (Zf Aa);have sm:∀ob,Same H (upd H Aa ob):=λob b ob' e=>by rw[Jb (Je e g)];exact e
   have big:=Zw.mpr (Ne.symm (Zn I.big));obtain⟨fz,h⟩:=h _ _ rfl;cases fz with
   |true=>exact⟨.ref Aa,upd H Aa (.frz B AM),I.laid O (Zf _) ⟨j,hl,big,rows,L,B,es,ep,j,hr⟩,rfl,h _ kvs B g rfl Qbe⟩
   |false=>exact⟨.ref Aa,upd H Aa AM,I.laid O (Zf _) ⟨hl,big,rows,L,B,es,ep,j,hr⟩,rfl,h _ kvs B g rfl Qbe⟩
  ·exact h.elim
 ·exact h.elim
def Jik(f:BZ):nA X Ks (λxs H Q=>∃x d,xs=[x]/\Rep X.K H d x/\(op1 .dictP d).Good (OutD X H Q) BE):=by
 rintro Y s Z H xs U Q I O⟨x,d,e,r,h⟩;subst e;cases d with
 |tup J=>obtain⟨a,P,rfl,L,q⟩:=r;obtain⟨u,rfl,C⟩:=uA O;cases C;obtain⟨j,o,n,z,B,l,F,m,g⟩:=I.tupleD L;exact Jgn f I To z B l F m g q h
 |lst J=>obtain⟨a,P,rfl,L,q⟩:=r;obtain⟨u,rfl,C⟩:=uA O;cases C;obtain⟨j,z,⟨o,n,B,l,F,m⟩,g⟩:=I.list L;exact Jgn f I Fo z B l F m g q h
 |_=>exact(show False from h).elim
def JqR(f:BZ):nA X Ks (rC1 X .dictP):=λY s Z H xs j Q I g⟨x,d,e,r,h⟩=>Jik f Y s Z H xs j Q I g ⟨x,d,e,r,h.imp λ_ z=>OutD.of z⟩
section
variable{U:Ae}
def cDict(C:Ao)(j:G.mg "dict"=No)(h:AG)(f:gloB nm "dict"=To)(g:DC):PE X TN (tI X U (.un .dictP pa)):=JvU C (JqR XH) h f j dF Ab Ab g
end
section
variable{U:Ae}
def JfZ{f g:Type}{R:f->g->Prop}:∀{xs:List f}{us:List g},Ai=us.length->(∀(j:Nat)x u,xs[j]? =So x->us[j]? =So u->R x u)->Paired R xs us
 |[],[],_,_=>.nil
 |x::xs,u::us,h,k=>.cons (k 0 x u rfl rfl) (JfZ (by simpa using h) λj x u a b=>k (j+1) x u (by simpa using a) (by simpa using b))
end
section
variable{U:Ae}{pe:Px}
def PJV(X:Cx)(U:Ae)(vs:Cy)(p:Px):Prop:=∀(Y:AV)(s:Ak)(Z:Bf)(H:Hp)(O:Fm)(f:Str)(Q:Str->Shared->Prop)(J:Am)(y:Str),L2.Inv X Y Z H s->ReadOk X.K H Z O->evD U p O=.ok AE->iF J=So y->
 f.length+y.length<=1000000->(∀g h,L2.Inv X Y Z h g->Same H h->Q (f++y) g)->Joins As X.A X.xe OE f Q s
def JmU(x:Str):x++Str.empty=x:=by cases x with|mk c=>show Str.mk (c++#[])=_;simp
def JgF(x y z:Str):x++y++z=x++(y++z):=by cases x with|mk a=>cases y with|mk b=>cases z with|mk c=>exact lA Str.mk (Array.append_assoc ..)
def Jsd:PJV X U [] .nil:=λY s Z H O f Q J y I r h g j k=>by
 cases h
 cases g
 have:=k s H I ED
 rw[JmU]at this
 exact this
def Jeo{d:D}(h:iF (d::J)=So y):∃a b,iI d=So a/\iF J=So b/\y=a++b:=by
 unfold iF at h;split at h
 ·rename_i a b g f;split at h
  ·cases h;exact⟨a,b,g,f,rfl⟩
  ·cases h
 ·cases h
theorem JnW(he:PE X e (tI X U pe))(hs:jG pe=To)(h:PJV X U vs p):PJV X U (.FormattedValue e (-1) No pos::vs) (.cons pe p):=by
 intro Y s Z H O j Q J y I r f hy hl kk;simp only[evD]at f;rcases oM U (O:=O) hs with q|⟨d,q⟩
 ·rw[q]at f;cases f
 rw[q]at f;simp only[Rs.bo]at f;cases C:evD U p O with
 |ex c=>rw[C]at f;cases f
 |sk=>rw[C]at f;cases f
 |ok d2=>
  rw[C]at f;cases d2 with
  |lst es=>
   simp only[Pu.D.asL,Rs.bo]at f;cases f;obtain⟨a,b,g,e2,rfl⟩:=Jeo hy;rw[JJ]at hl;have rest:∀(m:Ak)l,L2.Inv X Y Z l m->Same H l->Joins As X.A X.xe OE (j++a) Q m:=λm l L sm=>
    h Y m Z l O (j++a) Q es b L (r.mono sm) C e2 (by rw[JJ];lia) λs2 H2 I2 P=>by rw[JgF];exact kk s2 H2 I2 (sm.trans P)
   have hz:(j++a).length<=sizeLine:=by rw[JJ,ZJ];lia
   refine wpAny_FormattedValue_plain (ZL (he Y s Z H (λv W=>Rep X.K W d v/\Same H W) I ⟨O,r,by rw[q];exactλv W m F=>⟨F,m⟩⟩) (λu m⟨v,l,L,F,hv,sm⟩=>?_) λ_ _ z=>z);cases d with
   |str z=>
    cases hv;obtain⟨t,rfl⟩:=F;simp only[iI]at g;split at g
    ·rename_i B;cases g;exact formatField_str (λt' tk=>⟨_,t',rfl,hz,rest _ l (L.tok tk) sm⟩) (by rw[ZJ];lia)
    ·cases g
   |int i=>
    cases hv;obtain⟨t,rfl⟩:=F;simp only[iI]at g;split at g
    ·rename_i B;cases g;refine formatField_int_small ?_ ⟨_,_,rfl,hz,rest _ l (L.tok _) sm⟩;by_cases h0:i.natAbs=0
     ·rw[h0];decide
     ·exact Zt ((Nat.log2_lt h0).mpr B) A9
    ·cases g
   |_=>simp[iI]at g
  |_=>cases f
theorem eFst{j l:Expr}(h:PJV X U (j::l::vs) p)(z:pI p=To):PE X (.JoinedStr (j::l::vs) pos) (tI X U (.un .join p)):=by
 rintro Y s Z H Q I⟨O,r,g⟩;simp only[evD]at g;rcases Jgz U (O:=O) z with q|⟨J,q⟩
 ·rw[q]at g;exact g.elim
 rw[q]at g;simp only[Rs.bo,op1]at g;cases f:iF J with
 |none=>rw[f]at g;exact g.elim
 |some y=>
  rw[f]at g;have L:y.length<=2000:=by
   cases J with
   |nil=>cases f;decide
   |cons d J=>
    unfold iF at f;split at f
    ·split at f
     ·rename_i C;cases f;rw[JJ];exact C
     ·cases f
    ·cases f
  refine wpAny_JoinedStr (h Y s Z H O X5 _ J y I r q f (by show 0+_<=_;lia) λF m B sm=>⟨?_,.str _,m,B.tok _,AJ,?_⟩)
  ·rw[JJ];show 0+_<=16777216;lia
  ·have u:Str.empty++y=y:=by cases y with|mk c=>show Str.mk (#[]++c)=_;simp
   rw[u];exact g _ _ sm rfl
end
section
variable{it:Addr}{ok ov:Al}
theorem JnY{e:DictEntry}{Q:CN}(hit:VF)(P:s.heap.get? d=So od)(L:D8)(hx:es[i]? =So e)
  (hQ:∀U,IsItemIterOut U it d Bq Xm ep X9 Ya Aa->U.get? Aa=So {cls:=.type "tuple",data:=.seq #[e.key,Ya]}->
   (∀b o,b≠it->s.heap.get? b=So o->U.get? b=So o)->Q (So E5) {s with heap:=U}):
  wpAny Ar A Dm Q E s:=by
 obtain⟨r,g,C,O,u⟩:=s;have B:Shared.TypeIs ⟨r,g,C,O,u⟩ B6 "dict_itemiterator":=Qd8;have own:Builtin.Dict_items.ownsTuple "dict_itemiterator"=To:=by decide
 unfold pyNext;refine Za (wB (ZK (name:=oS "__next__") B lO (ZF lO B aI ?_ Vr)));refine Za (Zb (Za (Za ?_)));refine Za (mO B (Zb (Za (rE hit rfl ?_))));simp only[own,if_true];show wpAny _ _ (if EV=To then _ else _) _ _ _;rw[if_neg (show¬(EV=To)from ZM)];refine Za (Zb (Za (nH P L ?_)));rw[if_neg 'k'];refine Za (Zb (Za (kH P L ?_)));rw[if_neg 'k'];refine Zb ?_;simp only[show¬((i:Int)<0)from by lia,ZN,LD,hx];refine Za (Za (mO B (Zb (Za (lS B ?_)))));show wpAny _ _ (setField B6 3 (rawInt ((i:Int)+1))>>=_) _ _ ⟨r,g,C,O,u⟩;refine Za (vB hit Af λh j m=>?_);replace m:Heap.SameBut it r h:=m;replace j:IsItemIter h it d Bq Xm ep ok ov:=by unfold IsItemIter;rw[show((i+1:Nat):Int)=(i:Int)+1 by lia];simpa[rawInt]using j
 have I:Shared.TypeIs ⟨h,g,C,O,u⟩ B6 "dict_itemiterator":=HI;refine Za (qA (Za (lS I (Za (lS I ?_)))));show wpAny _ _ (Builtin.Dict_items.pairFromOwner B6 6 X9 Ya) _ _ ⟨h,g,C,O,u⟩;unfold Builtin.Dict_items.pairFromOwner;refine Za (wpAny_newTuple ?_);have z1:h.objs.size=r.objs.size:=m.1;have il:it<r.objs.size:=Zh hit;have ne:r.objs.size≠it:=nC il;show wpAny _ _ (Builtin.Dict_items.ownedTupleIsFree B6>>=_) _ _ ⟨h.push {cls:=.type "tuple",data:=.seq #[e.key,Ya]},g,C,O,u⟩;have z:(h.push {cls:=.type "tuple",data:=.seq #[e.key,Ya]}).get? r.objs.size=So {cls:=.type "tuple",data:=.seq #[e.key,Ya]}:=by rw[<-z1];exact Ze _ rfl
 have f:IsItemIter (h.push {cls:=.type "tuple",data:=.seq #[e.key,Ya]}) it d Bq Xm ep ok ov:=Zc _ j;have k2:∀b o,b≠it->r.get? b=So o->(h.push {cls:=.type "tuple",data:=.seq #[e.key,Ya]}).get? b=So o:=λb o l q=>Zc _ (m.extBut b o l q);rw[z1];generalize h.push {cls:=.type "tuple",data:=.seq #[e.key,Ya]}=h2 at z f k2⊢;refine Za ?_;unfold Builtin.Dict_items.ownedTupleIsFree;refine Za (ZV f rfl (x:=.none) rfl (Zb ?_));simp only[if_true];refine Za (ZV f rfl (x:=ok) rfl (Za (ZV f rfl (x:=ov) rfl ?_)));refine Za (vB f Af λh3 he3 hs3=>Za (vB (show IsItemIter h3 it d Bq Xm ep X9 ov from he3) Af λh4 he4 hs4=>?_));refine Za (vB (show IsItemIter h4 it d Bq Xm ep X9 Ya from he4) Af λW he5 hs5=>?_);refine Za (vB (show IsItemIterOut W it d Bq Xm ep X9 Ya r.objs.size from he5) Af λh6 he6 hs6=>?_);have kk:∀b o,b≠it->h2.get? b=So o->h6.get? b=So o:=λb o l q=>
  (show Heap.SameBut it W h6 from hs6).extBut b o l ((show Heap.SameBut it h4 W from hs5).extBut b o l ((show Heap.SameBut it h3 h4 from hs4).extBut b o l ((show Heap.SameBut it h2 h3 from hs3).extBut b o l q)))
 exact Za (wpAny_letGo (Zb (Zb ⟨_,rfl,Zb (hQ h6 he6 (kk _ _ ne z) λb o l q=>kk b o l (k2 b o l q))⟩)))
theorem Jth{Q:CN}(I:Bk)(hit:VF)(j:s.heap.get? d=So od)(h:D8)(O:es[i]? =No)
  (P:∀B,(∀b o,b≠it->s.heap.get? b=So o->B.get? b=So o)->Q No {s with heap:=B}):
  wpAny Ar A Dm Q E s:=by
 obtain⟨u,g,z,r,q⟩:=s;have l:Shared.TypeIs ⟨u,g,z,r,q⟩ B6 "dict_itemiterator":=Qd8;have own:Builtin.Dict_items.ownsTuple "dict_itemiterator"=To:=by decide
 unfold pyNext;refine Za (wB (ZK (name:=oS "__next__") l lO (ZF lO l aI ?_ Vr)));refine Za (Zb (Za (Za ?_)));refine Za (mO l (Zb (Za (rE hit rfl ?_))));simp only[own,if_true];show wpAny _ _ (if EV=To then _ else _) _ _ _;rw[if_neg (show¬(EV=To)from ZM)];refine Za (Zb (Za (nH j h ?_)));rw[if_neg 'k'];refine Za (Zb (Za (kH j h ?_)));rw[if_neg 'k'];refine Zb ?_;simp only[show¬((i:Int)<0)from by lia,ZN,LD,O];refine Za (Za (mO l (Zb ?_)));show wpAny _ _ (setField B6 2 .none>>=_) _ _ ⟨u,g,z,r,q⟩;refine Za (vB hit Af λC L f=>?_);replace f:Heap.SameBut it u C:=f;show wpAny _ _ (newExc M8 []>>=_) _ _ ⟨C,g,z,r,q⟩;refine Za ?_;simp only[newExc,newTuple];refine Za (ZE (Za (m:=firstArgMember _ _) (wpAny_of_eq (a:=Xq) (by first|rfl|(simp only[firstArgMember];rfl)) (ZE ?_ (by size_fits)))) (by size_fits));delta raiseNew;refine Za (wpAny_handled ?_);rw[show A.in1.handled=No from I];refine Za (Zb (wpAny_throw ?_));refine Za (xF (T:="StopIteration") (b:=To) FT nJ ?_);exact Zb (P _ ((f.extBut.push _).push _))
end
def KR(H:Hp)(d:D)(v:V):Prop:=(∃c,d=keyV c/\v=kV c)\/∃c,d=sT c/\KH H (.t c) v
def KR.rep{d:D}{v:V}(h:KR H d v):Rep K H d v:=by
 rcases h with⟨c,rfl,rfl⟩|⟨c,rfl,h⟩
 ·cases c<;>rfl
 ·exact JqA (.t c) h
def KR.hid{L:A1}{d:D}{v:V}(g:QcA)(h:KR H d v):KR Bc d v:=by
 rcases h with h|⟨c,e,h⟩
 ·exact .inl h
 ·refine .inr ⟨c,e,KH.keep (λb xs q=>?_) _ h⟩;rw[Jt λz=>?_]
  ·exact q
  ·obtain⟨o,f,j⟩:=g b z;rw[q]at f;cases f;exact j
def JoM{Q:Au}(ho:s.heap.get? d=So od)(j:od.cls=.type "dict")(g:(d==sysModules)=Fo)
  (h:Q E5 {s with heap:=s.heap.push {cls:=.type "dict_items",data:=.fields #[.ref d]}}):wpAny Ar A (call (.builtin "dict.items") [.ref d]) Q E s:=by have f:s.TypeIs DQ "dict":=⟨od,ho,j⟩;refine ZF F.slot_dict_items f F.entry_dict_items ?_ (F.args_dict_items_1 _);unfold Builtin.«dict.items»;refine Za ?_;unfold Builtin.Dict.noArgs;refine Za (fT f ?_);show wpAny _ _ (pure d) _ _ s;refine Zb ?_;show wpAny _ _ (Builtin.Dict.showsAll d>>=_) _ _ s;unfold Builtin.Dict.showsAll;rw[if_neg (by rw[g];exact ZM)];exact Za (Zb (Za (ZE (Zb HG))))
theorem Jpg{v:Addr}{Q:Au}(h:s.heap.IsItemsView v d)(ho:s.heap.get? d=So od)(f:D8)
  (m:Q E5 {s with heap:=s.heap.push {cls:=.type "dict_itemiterator",data:=.fields #[.none,.bool Fo,.ref d,.int 0 0,.int Xm 0,.int ep 0,.none,.none]}}):wpAny Ar A (pyIter (.ref v)) Q E s:=by
 obtain⟨q,g,l,j⟩:=id h;have own:Builtin.Dict_items.ownsTuple "dict_itemiterator"=To:=by decide
 refine yJ h.typeIs dG (ZF dG h.typeIs F.entry_dict_items_iter ?_ (F.args_dict_items_iter_1 _));unfold Builtin.«dict_items.__iter__»;refine Za (Zb (Za ?_));unfold Builtin.Dict_items.dictOf;refine Za (ZV g j (x:=.ref d) rfl (Zb (Za ?_)));unfold Builtin.Dict_items.newIterator;refine Za (nH ho f (Za (kH ho f ?_)));simp only[own,if_true];refine ZE (Zb ⟨_,rfl,"dict_itemiterator",_,FT,YZ,?_⟩) (by simp only[sizeOk,Builtin.Dict_items.ownedTupleFields,Zp,Zm,Zi,wD,ZJ];lia);simpa[rawInt,Builtin.Dict_items.ownedTupleFields]using m
def DKo(H:Hp)(d:Addr)(t:Bool)(o:Obj)(ks:Am)(xs:Av):Prop:=match t with
 |true=>∃kvs:List (List (KTr Yh)×V),H d=So (.frz o Ft)/\ks=kvs.map (λp=>sT p.1)/\xs=kvs.map (·.2)
 |false=>∃kvs:List (L2.Key×V),H d=So (.frz o AM)/\ks=kvs.map (λp=>keyV p.1)/\xs=kvs.map (·.2)
def DKo.of(h:DK H d t To ks xs):∃o,DKo H d t o ks xs:=by cases t<;>obtain⟨f,⟨o,q⟩,j,g⟩:=h<;>exact⟨o,f,q,j,g⟩
def DKo.same{W:Hp}(s:B9)(h:FJ):DKo W d t o ks xs:=by cases t<;>obtain⟨f,q,j,g⟩:=h<;>exact⟨f,s _ _ q,j,g⟩
def DKo.inj{H:Hp}{d:Addr}{t:Bool}{o z:Obj}{ks f:Am}{xs g:Av}(h:FJ)(h':DKo H d t z f g):ks=f/\xs=g:=by cases t<;>obtain⟨C,q,B,u⟩:=h<;>obtain⟨r,m,j,l⟩:=h'<;>rw[q]at m<;>cases m<;>exact⟨B.trans j.symm,u.trans l.symm⟩
def DKo.len(h:FJ):Ay=Ai:=by cases t<;>obtain⟨f,_,rfl,rfl⟩:=h<;>simp
def Iti (K:Aj) (t:Bool) (d:Addr) (o:Obj):It:=
 ⟨λi H=>∃ks xs,DKo H d t o ks xs/\i<Ai,
  λi H x W=>∃T f y,H T=No/\x=.ref T/\W=upd H T (.tup [f,y])/\∀ks xs,DKo H d t o ks xs->xs[i]? =So y/\∃k,ks[i]? =So k/\KR H k f,
  λi H=>∃ks xs,DKo H d t o ks xs/\xs.length=i⟩
def lZ{f g:Type}{R:f->g->Prop}:∀{xs:List f}{us:List g}{i:Nat}{x:f},Paired R xs us->xs[i]? =So x->∃u,us[i]? =So u/\R x u
 |_,_,_,_,.nil,e=>by simp at e
 |_,_,0,_,.cons r t,e=>by simp at e;subst e;exact LM
 |_,_,i+1,_,.cons r t,e=>by
  obtain⟨u,h,j⟩:=lZ (i:=i) t (by simpa using e)
  exact⟨u,by simpa using h,j⟩
theorem fJ(I:Bw)(h:FJ):s.heap.get? d=So o/\o.cls=.type "dict"/\o.dict=No/\(d==sysModules)=Fo/\∃es ep,o.data=.dict es ep/\es.size=Ai/\
  ∀i,i<Ai->∃e k B y,es[i]? =So e/\ks[i]? =So k/\xs[i]? =So y/\RelV y Ya/\RelV B X9/\KR H k B:=by
 cases t with
 |true=>obtain⟨kvs,q,rfl,rfl⟩:=h;exact(I.hok d _ q).2.elim
 |false=>
  obtain⟨kvs,q,rfl,rfl⟩:=h;obtain⟨z,g1,g2,ys,r,o',es,ep,C,u,L,g7,F,g9⟩:=I.hok d _ q;rw[z]at C;cases C;have hl:es.size=By:=by have:=F.length;rw[<-mJ r]at this;simpa using this
  refine⟨z,u.1,u.2.1,g2,es,ep,L,by simp[hl],λi P=>?_⟩;have f:i<By:=by simpa using P
  obtain⟨⟨k,v⟩,e1,U,W⟩:=lZ r (Zs f);have m:i<es.size:=by lia
  obtain⟨O,hv⟩:=F.get? (e:=es[i]) (by simp[m]) e1;have rk:RelV (kV (kvs[i]).1) es[i].key:=by
   rw[U];rcases Jr O with⟨j,t,g,l⟩|⟨y,t,g,l⟩|⟨g,l⟩
   ·rw[g,l];exact GR
   ·rw[g,l];exact GR
   ·rw[g,l];rfl
  refine⟨es[i],keyV (kvs[i]).1,kV (kvs[i]).1,(kvs[i]).2,by simp[m],by simp[f],by simp[f],by rw[hv];exact W,rk,.inl ⟨_,rfl,rfl⟩⟩
def JmO:entryFor table "dict_itemiterator.__iter__"=So Builtin.«dict_keyiterator.__iter__»:=entryFor_alias (id':="dict_keyiterator.__iter__") (by kernel_rfl) (by first|rfl|decide+kernel) Ab (by kernel_rfl)
def Jnv{P:Be}{L:Cy}{k:Nat}{B:Pos}(t:Bool)(d it:Addr)(o:Obj)(es:Ku)(ep:Nat)(g:o.data=.dict es ep):
  Turn P w K (.Tuple L k B) QdI [it] it (λi h=>∃ok r,IsItemIter h it d i Xm ep ok r)where
 mem:=by simp
 obj:=λi h⟨ok,r,f⟩b l=>by
  have e:b=it:=by simpa using l
  subst e
  exact⟨_,f,λv z=>by cases z⟩
 keep:=λi h h'⟨ok,r,f⟩q=>⟨ok,r,q it Af _ f⟩
 item:=by
  rintro X hP hw hK hc i Y s Z H E I W⟨ok,r,f⟩⟨ks,xs,hq,hi⟩;subst hP hw hK;obtain⟨g0,_,_,_,es',ep',O,g2,g3⟩:=fJ I hq;rw[g]at O;cases O;obtain⟨e,k',kv,y,e1,e2,e3,e4,e5,e6⟩:=g3 i hi;refine JnY f g0 g e1 λh' he C hk=>⟨_,rfl,wpAny_letOwnedTupleGo_items he λh2 he2 j=>?_⟩;have U:it<Aa:=Zh f;have m:∀b o,b∉[it]->s.heap.get? b=So o->h2.get? b=So o:=λb o l q=>by have h1:b≠it:=λz=>l (by simp[z]);exact(j.2 b h1).trans (hk b o h1 q)
  have u:h2.get? Aa=So {cls:=.type "tuple",data:=.seq #[e.key,Ya]}:=(j.2 _ (nC U)).trans C;have hfr:H Aa=No:=I.hok.fresh (Zf _);have I2:L2.Inv X Y Z (upd H Aa (.tup [kv,y])) {s with heap:=h2,toks:=Xl}:=
   JdF I W m (Zf _) ⟨⟨by rw[ZJ];show 2<=_;decide,λo q=>by rw[u]at q;cases q;rfl⟩,[e.key,Ya],.cons e5 (.cons e4 .nil),_,u,rfl,_,rfl⟩
  refine⟨.ref Aa,_,I2,rfl,⟨Aa,kv,y,hfr,rfl,rfl,λks' xs' hq'=>?_⟩,⟨_,_,he2⟩,λb l=>?_⟩
  ·obtain⟨rfl,rfl⟩:=hq.inj hq';exact⟨e3,k',e2,e6⟩
  ·have e:b=it:=by simpa using l
   subst e;rw[Jb (Zn U)];exact(W b Af).1
 done:=by
  rintro X hP hw hK hc i Y s Z H E I W⟨ok,r,f⟩⟨ks,xs,hq,hi⟩;subst hP hw hK;obtain⟨g0,_,_,_,es',ep',O,g2,g3⟩:=fJ I hq;rw[g]at O;cases O;exact Jth Kf f g0 g (by simp[g2,hi]) λh' hx'=>⟨rfl,zM (tk:=Xl) I W λb o l q=>hx' b o (λz=>l (by simp[z])) q⟩
 self:=λA i s Q E⟨ok,r,f⟩h=>by
  have C:s.TypeIs B6 "dict_itemiterator":=⟨_,f,rfl⟩;refine yJ C aU (ZF aU C JmO ?_ (F.args_dict_itemiterator_iter_1 _));show wpAny _ _ (ret B6) _ _ s;exact Zb ⟨_,rfl,"dict_itemiterator",_,C,YZ,h⟩
theorem Joq{vs:Am}(h1:FJ)(r:Reps K H vs xs):Walk K QdI H '乴':=by
 intro W sm;have l:=Xz;have l2:=h1.len;have g:=h1.same sm;have q:=r.mono sm;have F:∀(a b:Am),bU=b.length->(zipD a b).length=b.length:=by
  intro a;induction a with
  |nil=>intro b e;cases b with
   |nil=>rfl
   |cons _ _=>simp at e
  |cons x a m=>intro b e;cases b with
   |nil=>simp at e
   |cons y b=>simp[zipD,m b (by simpa using e)]
 have L:∀(a b:Am)(i:Nat)(x y:D),a[i]? =So x->b[i]? =So y->(zipD a b)[i]? =So (.tup [x,y]):=by
  intro a;induction a with
  |nil=>intro b i x y e;simp at e
  |cons z a m=>intro b i x y h f;cases b with
   |nil=>simp at f
   |cons u b=>cases i with
    |zero=>simp at h f;subst h f;rfl
    |succ i=>simp only[qH]at h f;simp only[zipD,qH];exact m b i x y h f
 have j:'乴'.length=Ai:=by rw[F ks vs 'd'];lia
 refine⟨λi P=>⟨ks,xs,g,by lia⟩,⟨ks,xs,g,j.symm⟩,λi x O P⟨T,kv,y,U,h,f,hv⟩=>?_⟩;subst h;subst f;obtain⟨g1,k,g2,I⟩:=hv ks xs g;obtain⟨B,hd,rd⟩:=q.get' g1;obtain⟨s1,C⟩:=jF (K:=K) (J:=[k,B]) (xs:=[kv,y]) U ⟨_,_,rfl,I.rep,_,_,rfl,rd,rfl⟩;exact⟨s1,_,L ks vs i k B g2 hd,C⟩
def dk{p:Prop}(h:'б' p IL):p:=h
section
variable{U:Ae}{tg:Expr}{ts:Aq}{nt:Nat}
def JuH(O:Fm):evD U Pk O='Ƥ'.bind λd=>.ok (.lst [d]):=by simp only[evD];cases evD U p O<;>rfl
def JsF(l:BN){D:Ends}(h:tS X U M H0 RQ D Z H):tAsg cD MH D Z H:=by
 obtain⟨O,e,h⟩:=h;have B:exD U RQ O='Ƥ'.bind λd=>(JT nt d).bind λf=>.ok (.nx,pA ts f O):=by
  show(evD U Pk O).bind _=_;rw[JuH];cases evD U p O with
  |ok d=>show(forL ts nt (exD U .skip) [d] O)=(JT nt d).bind _;unfold forL;cases JT nt d<;>rfl
  |sk=>rfl
  |ex c=>rfl
 rw[B]at h;refine KY;rw[Jv U O l];refine(Rs.gB.mp h).mono (λd g v W s k r=>?_) λc z=>z.mono Yw;cases j:JT nt d with
 |sk=>rw[j]at g;exact g.elim
 |ex c=>exact(gM j).elim
 |ok f=>rw[j]at g;exact⟨O,d,f,e.grow s,r,j,λm u q=>g m W u (by rw[q];exact Chg.of s)⟩
def aTup(C:Ao)(m:BX)(g:Qbq)(f:BN)(l:swapsWithSole [tg] e Xt QL=pure Fo)(j:swappedStores [tg] e QL=pure No)
  (h1:'丙'.map (·.2)=[assign tg QL]):PS X O0 (tS X U M H0 RQ):=
 PS.weak (Jqy (mE m) g l j h1) λD Z H h=>JsF f h
end
section
variable{U:Ae}
def aPar{j:Nat}{pb:Px}{B pt f:Pos}{kt g}(C:Ao)(I:HX X nm)(h:ER)(h':chkA N nm M j y=To)(W:(nm.lookup x==So .local&&nm.lookup y==So .local&&!usesP pb i&&decide (i≠j))=To)
  (ha:AG) (hb:Bp) (h1:'б' (sepP M pa=To) Ah) (h2:'б' (sepP M pb=To) Ah) (hw:'б' (swappedStores TK RY QL=pure Lf) Ah)
  (hs:'б' (swapsWithSole TK RY Xt QL=pure Fo) Ah) (hs1:'б' (starEach [a,b] QL=NB::starEach [b] QL) Ah) (hs2:II):
  PS X (.Assign TK RY pos) Wt:=by
 obtain⟨g1,g2,m⟩:=chkA.at h;obtain⟨f1,f2,f3⟩:=chkA.at h';simp only[Zd,ZB,kB,Zv]at W;obtain⟨⟨⟨l1,l2⟩,P⟩,l4⟩:=W;refine PS.weak (Jqo XH (by rw[C.hN];exact C.nd) 'ō' (by rw[C.hN];exact f1) l4 (by rw[I.sc];exact l1) (by rw[I.sc];exact l2) (Jq (mE ha) (Jq (mE hb) JP hs2) hs1) hw hs) λD Z H r=>?_;obtain⟨O,e,h⟩:=r;simp only[exD,uB,Zo,ZN]at h;refine KY;rw[Jv U O h1];cases q:evD U pa O with
 |sk=>rw[q]at h;exact h.elim
 |ex c=>rw[q]at h;exact(show XW X H0 c from h).mono Yw
 |ok d1=>
  rw[q]at h;simp only[Rs.bo]at h;intro v H1 L k1 r1;have l:=e.grow L;refine⟨JD M 0 O,Ow M O Z,l.ows,l.readHid,?_⟩;rw[Jv U O h2];have hc:evD U pb (O.set i (So d1))=evD U pb O:=JfP U pb _ _ λk hk=>Zr λz=>by subst z;rw[hk]at P;cases P
  rw[hc]at h;cases F:evD U pb O with
  |sk=>rw[F]at h;exact h.elim
  |ex c=>rw[F]at h;exact(show XW X H0 c from h).mono l.same0
  |ok d2=>rw[F]at h;simp only[Rs.bo]at h;intro w H2 u g r2;have e2:=l.grow u;refine⟨v,w,rfl,?_⟩;have p1:=e2.put m (r1.mono (Fz.sm u).hid);have p2:=p1.put f3 (d:=d2) (v:=w) (by rw[fC m];exact r2);refine h _ _ p2 ?_;rw[fC f3,fC m];exact Chg.of (L.trans u)
end
section
variable{it:Addr}
def JiU{Q:Au}(j:(d==sysModules)=Fo)(ho:s.heap.get? d=So od)(h:od.cls=.type "dict")(f:D8)
  (l:Q E5 {s with heap:=s.heap.push {cls:=.type "dict_keyiterator",data:=.fields #[.ref d,.int 0 0,.int Xm 0,.int ep 0]}}):
  wpAny Ar A (pyIter DQ) Q E s:=by have g:s.TypeIs DQ "dict":=⟨_,ho,h⟩;refine yJ g QcS (ZF QcS g F.entry_dict_iter ?_ (F.args_dict_iter_1 _));unfold Builtin.«dict.__iter__»;refine Za ?_;unfold Builtin.Dict.dictSlotNone;refine Za (fT g (show wpAny _ _ (pure (Value.ref d)) _ _ s from Zb ?_));show wpAny _ _ (Builtin.Dict.showsAll d>>=_) _ _ s;unfold Builtin.Dict.showsAll;rw[if_neg (by rw[j];exact ZM)];refine Za (Zb (Za (nH ho f (Za (kH ho f ?_)))));refine Za (ZE (Zb ⟨_,rfl,"dict_keyiterator",_,FT,F.slot_dict_keyiterator_next.lookup,?_⟩));simpa[rawInt]using l
theorem Jih{e:DictEntry}{Q:CN}(hit:UU)(g:s.heap.get? d=So od)(h:D8)(u:es[i]? =So e)
  (z:∀m,m.IsKeyIter it d Bq Xm ep->Heap.SameBut it Re m->Q (So X9) {s with heap:=m}):wpAny Ar A Dm Q E s:=by
 obtain⟨o,q,r,l⟩:=id hit;have j:Builtin.Dict_items.ownsTuple "dict_keyiterator"=Fo:=by decide
 unfold pyNext;refine Za (wB (ZK (name:=oS "__next__") XO jO (ZF jO XO aV ?_ Vi)));refine Za (Zb (Za (Za ?_)));refine Za (kO XO (Zb (Za (rE q l ?_))));simp only[j,Zo,ZN];show wpAny _ _ (if EV=To then _ else _) _ _ s;rw[if_neg (show¬(EV=To)from ZM)];refine Za (Zb (Za (nH g h ?_)));rw[if_neg 'k'];refine Za (Zb (Za (kH g h ?_)));rw[if_neg 'k'];refine Zb ?_;simp only[show¬((i:Int)<0)from by lia,ZN,LD,u];refine Za (Za (kO XO (Zb (Za (wpAny_isOneOf_keyiter XO ?_)))));show wpAny _ _ (setField B6 1 (rawInt ((i:Int)+1))>>=_) _ _ s;refine Za (rB q l Af ?_);have f:(s.heap.update it (Obj.mapFields (·.setIfInBounds 1 (rawInt ((i:Int)+1))))).IsKeyIter it d Bq Xm ep:=
  ⟨_,ZY _ q (gT (gH l _)),(Obj.cls_mapFields ..).trans r,by rw[gH l];simp[rawInt]⟩
 refine Za (qA (Za (wpAny_isOneOf_keyiter (s:={s with heap:=s.heap.update it (Obj.mapFields (·.setIfInBounds 1 (rawInt ((i:Int)+1))))}) f.typeIs ?_)));show wpAny _ _ (pure X9) _ _ _;exact Zb (Zb ⟨_,rfl,Zb (z _ f (qD ..))⟩)
theorem Jlf{Q:CN}(u:Bk)(hit:UU)(f:s.heap.get? d=So od)(g:D8)(r:es[i]? =No)
  (z:∀j,Heap.ExtBut it Re j->Q No {s with heap:=j}):wpAny Ar A Dm Q E s:=by
 obtain⟨o,l,B,q⟩:=id hit;have h:Builtin.Dict_items.ownsTuple "dict_keyiterator"=Fo:=by decide
 unfold pyNext;refine Za (wB (ZK (name:=oS "__next__") XO jO (ZF jO XO aV ?_ Vi)));refine Za (Zb (Za (Za ?_)));refine Za (kO XO (Zb (Za (rE l q ?_))));simp only[h,Zo,ZN];show wpAny _ _ (if EV=To then _ else _) _ _ s;rw[if_neg (show¬(EV=To)from ZM)];refine Za (Zb (Za (nH f g ?_)));rw[if_neg 'k'];refine Za (Zb (Za (kH f g ?_)));rw[if_neg 'k'];refine Zb ?_;simp only[show¬((i:Int)<0)from by lia,ZN,LD,r];refine Za (Za (kO XO (Zb ?_)));show wpAny _ _ (setField B6 0 .none>>=_) _ _ s;refine Za (rB l q Af ?_);show wpAny _ _ (newExc M8 []>>=_) _ _ _;refine Za ?_;simp only[newExc,newTuple];refine Za (ZE (Za (m:=firstArgMember _ _) (wpAny_of_eq (a:=Xq) (by first|rfl|(simp only[firstArgMember];rfl)) (ZE ?_ (by size_fits)))) (by size_fits));delta raiseNew;refine Za (wpAny_handled ?_);rw[show A.in1.handled=No from u];refine Za (Zb (wpAny_throw ?_));refine Za (xF (T:="StopIteration") (b:=To) FT nJ ?_);exact Zb (z _ (((qD ..).extBut.push _).push _))
def JlN(F:Bk)(I d:Addr)(u:d≠I)(od:Obj)(es:Ku)(ep:Nat)(j:D8):
  Walks prog w A I [I,d] [I] Xm (λi v=>∃e,es[i]? =So e/\v=X9) (λi h=>h.IsKeyIter I d i Xm ep/\h.get? d=So od)where
 sub:=λb g=>by simp at g;simp[g]
 frame:=λ_ _ _ f C=>⟨f.1.at λo e=>C I Af o e,C d Af _ f.2⟩
 item:=λi s Q E B f q=>Jih f.1 f.2 j (e:=es[i]) (by simp[B]) λr m l=>q _ r Xl ⟨es[i],by simp[B],rfl⟩ ⟨m,l.extBut d od u f.2⟩ λb o g e=>l.extBut b o (λh=>g (by simp[h])) e
 done:=λs Q E f q=>Jlf F f.1 f.2 j Af λr z=>q r Xl λb o g e=>z b o (λh=>g (by simp[h])) e
 self:=λ_ _ _ _ f q=>wpAny_pyIter_keyiter f.1 q
end
section
variable[DecidableEq κ]{kd:HeapKind prog w κ}{xs:List (κ×Addr×Value)}
def Jpe{Q:Bool->Shared->Prop}(g:s.TypeIs DQ "dict")(h:Q Fo s):wpAny Ar A (Builtin.List.listLengthHint DQ) Q E s:=by unfold Builtin.List.listLengthHint;refine Za (wpAny_specialOf g F.slot_dict_len.lookup ?_);generalize hid:("dict.__len__":String)=id0;wp_delta;rw[show splitId id0=So ("dict","__len__")from by subst hid;decide+kernel];subst hid;refine Za (xF (T:="dict") (b:=To) g (by rw[rN];kernel_rfl) ?_);refine vF Pn (λ_=>?_);refine vF (λ_=>?_) Pm;exact Za QdE
theorem Jki{R:FV}(hh:Bk)(hd:(d==sysModules)=Fo)(ho:s.heap.get? d=So od)(hc:od.cls=.type "dict")(r:D8)(hlen:es.size<=2^24)
  (S:Addr) (z:Al) (B:Nat) (W:s.heap.get? S=So {cls:=.type "list",data:=.seq #[] B})
  (hR:∀h' tk l O,(∀b o,b≠S->s.heap.get? b=So o->h'.get? b=So o)->h'.get? S=So {cls:=.type "list",dict:=No,data:=.seq l O,slots:=#[]}->
   ItemsOf (λi v=>∃e,es[i]? =So e/\v=X9) l es.size->R (.ok (.ret z)) {s with heap:=h',toks:=tk}):
  wpAny Ar XB (Builtin.List.listExtendWith (.ref S) DQ z)
   (λfin L=>match fin with|.done f=>R (.ok f) L|.again O=>O.quiet=To/\codeAny Ar A O R L) (λe L=>R (.error e) L) s:=by
 have F:S≠d:=λe=>by rw[e,ho]at W;cases W;cases r
 have C:S≠Aa:=Zn (Zh W);have hdI:d≠Aa:=Zn (Zh ho);have hSf:S∉[Aa,d]:=λhm=>by
  rcases Zg.mp hm with e|e
  ·exact C e
  ·exact F (kC.mp e)
 have W9:=(JlN (prog:=prog) (w:=w) (A:=XB) hh Aa d hdI od es ep r).toS;have P:∀(h:Heap)(u tk:Nat),h.IsKeyIter Aa d 0 Xm ep->(∀b o,b≠S->s.heap.get? b=So o->h.get? b=So o)->
   h.get? S=So {cls:=.type "list",data:=.seq #[] u}->codeAny Ar A (.builtin "list.extend.loop" ⟨[.ref S,.ref Aa,z],[]⟩) R {s with heap:=h,toks:=tk}:=by
  intro h u tk hit hk g;refine codeAny_extend_loopS W9 (by rw[ZJ];lia) S hSf z Xm 0 _ #[] u rfl (mB _) ⟨hit,hk d _ F.symm ho⟩ g (ItemsOf.nil _) λL l O hm hS' U=>?_;rw[Moved.eq_with hm];refine hR L.heap L.toks l O (λb o hb e=>hm.heap b o (λq=>?_) (hk b o hb e)) hS' U;rcases Zg.mp q with e'|q
  ·exact hb e'
  ·exact absurd (Zh e) (by rw[kC.mp q];exact yO _)
 unfold Builtin.List.listExtendWith;refine Za (nD (T:="dict") ⟨_,ho,hc⟩ ?_);have h1:Builtin.List.listSameRef (.ref S) DQ=Fo:=by simp[Builtin.List.listSameRef,F]
 have h2:(Value.type "dict"==Value.type "list")=Fo:=by decide
 have h3:(Value.type "dict"==Value.type "tuple")=Fo:=by decide
 simp only[h1,h2,h3,jH,Zo,ZN];refine Za (JiU hd ho hc r ?_);refine Za (qA (Jpe (d:=d) ⟨_,Zc _ ho,hc⟩ ?_));have j:(s.heap.push {cls:=.type "dict_keyiterator",data:=.fields #[.ref d,.int 0 0,.int Xm 0,.int ep 0]}).IsKeyIter Aa d 0 Xm ep:=CK;have g:=Zc {cls:=.type "dict_keyiterator",data:=.fields #[.ref d,.int 0 0,.int Xm 0,.int ep 0]} W;refine vF (λ_=>?_) (λ_=>Zb ⟨pD pO _,P _ B _ j (λb o _ e=>Zc _ e) g⟩);refine Za (qB ?_);refine Za ?_;show wpAny _ _ (updateSeq S (·.push .none)>>=λ_=>updateSeq S (·.pop)) _ _ _;refine Za (uN g rfl ?_);have m:=ZY (Obj.mapSeq (·.push Xq)) g rfl;refine uN (hz:=by seq_fits) m rfl ?_;have I:=ZY (Obj.mapSeq (·.pop)) m rfl;refine Zb ⟨pD pO _,P _ _ _ (j.at λo e=>?_) (λb o hb e=>?_) I⟩
 ·exact(ZR _ _ C).trans ((ZR _ _ C).trans e)
 ·exact(ZR _ _ EM).trans ('є'.trans DS)
end
noncomputable def Itk (K:Aj) (t:Bool) (d:Addr) (o:Obj):It:=
 ⟨λi H=>∃ks xs,DKo H d t o ks xs/\i<Ai,
  λi H x W=>W=H/\∀ks xs,DKo H d t o ks xs->∃k,ks[i]? =So k/\KR H k x,
  λi H=>∃ks xs,DKo H d t o ks xs/\xs.length=i⟩
def Jtp:ItOk Im:=λL i H x W l⟨g,j⟩=>by
 refine⟨by rw[g],λks xs q=>?_⟩
 obtain⟨k,h,f⟩:=j ks xs (q.same hid_same)
 exact⟨k,h,f.hid l⟩
def Jnq{P:Be}{tg:Expr}(t:Bool)(d it:Addr)(o:Obj)(es:Ku)(ep:Nat)(g:o.data=.dict es ep):
  Turn P w K tg Im [it] it (λi h=>h.IsKeyIter it d i Xm ep)where
 mem:=by simp
 obj:=λi h f b j=>by
  have e:b=it:=by simpa using j
  subst e
  obtain⟨o,e,c,d⟩:=f
  exact⟨o,e,λv z=>by rw[d]at z;cases z⟩
 keep:=λi h C f q=>let⟨o,e,r⟩:=f;⟨o,q it Af o e,r⟩
 item:=by
  rintro X hP hw F hc i Y s Z H E I u f⟨ks,xs,B,U⟩;subst hP hw F;obtain⟨O,_,_,_,W,ep',l,g2,g3⟩:=fJ I B;rw[g]at l;cases l;obtain⟨e,k',kv,y,e1,e2,e3,e4,e5,e6⟩:=g3 i U;obtain⟨f0,f1,f2,f3,f4,f5⟩:=u it Af;refine Jih f O g e1 λC m sb=>?_;have I1:L2.Inv X Y Z H {s with heap:=C}:=I.turned (t':=Xl) (λb o j e=>(sb.2 b j).trans e) f0 f1 f3 f4 f5;obtain⟨oi,ei,ci,di⟩:=id m;refine⟨X9,rfl,dP (s:={s with heap:=C}) ei ci di A9 ⟨kv,H,I1,e5,⟨rfl,λks' xs' L=>?_⟩,m,λb j=>(u b j).1⟩⟩;obtain⟨rfl,rfl⟩:=B.inj L;exact⟨k',e2,e6⟩
 done:=by
  rintro X hP hw F hc i Y s Z H E I u f⟨ks,xs,B,U⟩;subst hP hw F;obtain⟨O,_,_,_,W,ep',l,g2,g3⟩:=fJ I B;rw[g]at l;cases l;exact Jlf Kf f O g (by simp[g2,U]) λC hx'=>⟨rfl,zM (tk:=Xl) I u λb o j q=>hx' b o (λz=>j (by simp[z])) q⟩
 self:=λA i s Q E f h=>wpAny_pyIter_keyiter f h
theorem JoV(h1:FJ):Walk K Im H ks:=by intro W sm;have r:=h1.len;have f:=h1.same sm;refine⟨λi l=>⟨ks,xs,f,by lia⟩,⟨ks,xs,f,r.symm⟩,λi x m l⟨j,g⟩=>?_⟩;subst j;obtain⟨k,q,h⟩:=g ks xs f;exact⟨Same.refl _,k,q,h.rep⟩
section
variable{U:Ae}
def Jsi(ha:AG):PI X HV a (tW X U (.un .dKeyW pa)):=by
 rintro Y s Z H R I⟨O,r,h⟩;refine thn (ha Y s Z H (λv W=>∃t ks d xs,v=.ref d/\DK W d t To ks xs/\Same H W/\∀j g,Same H g->Walk X.K j g ks->ItOk j->R j g) I Dl) λu s1⟨v,H1,I1,L,t,ks,d,xs,e1,f,s2,m⟩=>?_
 ·refine(Rs.gB.mp h).imp λP l v W s1 rv=>?_;cases P with
  |dct t z ks vs=>
   cases z with
   |true=>obtain⟨J,e,m⟩:=l;cases e;obtain⟨d,xs,rfl,f,q2⟩:=rv;exact⟨t,_,d,xs,rfl,f,s1,m⟩
   |false=>exact(show False from l).elim
  |_=>exact(show False from l).elim
 subst e1;cases(show u=Value.ref d from L);obtain⟨o,C⟩:=DKo.of f;obtain⟨g0,gc,gd,F,es,ep,B,g2,g3⟩:=fJ I1 C;refine JiU F g0 gc B ?_;refine⟨_,[_],_,_,H1,rfl,I1.kept (t':=XT) λb ob q=>Zc _ q,Jnq t d _ o es ep B,CK,λb hb=>?_,m _ _ s2 (JoV C) Jtp⟩;have e:b=AB:=by simpa using hb
 subst e;exact I1.fpOk (Zf _) D9
end
def rk (ks:List b7) (k:AR):Nat:=(ks.filter λy=>lexI y k).length
open PySem.SeqAt (EqAt)
end Rd
namespace HT
open PySem PyProof.Rows
end HT
namespace Rd
open PySem PySem.Spec PyProof.Rows L2 Pu
variable{X:Cx}{a b:Expr}{pa pb:Px}{pos apos p2 px p1:Pos}{G:Gw}{N:Ag}{x y:Str}{nm:A8}{w:A0}{K:Aj}{s:Ak}{H:Hp}{c:Nat}{A:Bd}{prog:Be}{cs:DG}{h:Heap}
section
variable{U:Ae}{c d:Expr}{pc pd:Px}
noncomputable def sI:Expr->Bool
 |.Starred _ _=>Fo
 |_=>To
def JmR{g pt i:Pos}{M k2:Nat}{O:PySem.Env}(W:O.scope.kind=.function)(u:O.scope.names.lookup x=So .local)(Y:O.scope.names.lookup y=So .local)(e:(x==y)=Fo)(r:(g.line==aH)=To)(v:sI a=To)(B:sI b=To)(L:[a,b].all Qal=Fo)(C:[a,b].all N5=Fo):
  swappedStores [.Tuple M3 M pt] (.Tuple [a,b] k2 i) O=pure Lf:=by
 have P:O.blockKind=.function:=by unfold PySem.Env.blockKind;rw[W];rfl
 have j:(y==x)=Fo:=by rw[Zw]at e⊢;exactλz=>e z.symm
 have Z:(O.kindOf x==So .local)=To:=by unfold PySem.Env.kindOf;rw[u];rfl
 have I:(O.kindOf y==So .local)=To:=by unfold PySem.Env.kindOf;rw[Y];rfl
 have t:∀{a:Expr},sI a=To->(match a with|.Starred ..=>To|_=>Fo)=Fo:=fun{a}h=>by cases a<;>first|rfl|cases h
 have m:∀{p q:Bool},p=Fo->q=Fo->¬(p||(q||false))=To:=λl o=>by rw[l,o];decide
 have E:∀f:Expr->Option Str,f E3=So x->f (.Name y g)=So y->List.filterMap f M3=[x,y]:=λf l o=>by rw[List.filterMap_cons_some l,List.filterMap_cons_some o];rfl
 unfold swappedStores;dsimp only[List.length,List.head?,Option.map,Option.getD];generalize F:List.filterMap _ _=names;obtain rfl:names=[x,y]:=by rw[<-F];exact E _ (by show(if(O.kindOf x==So .local&&px.line==aH)=To then So x else No)=So x;rw[Z,BEq.rfl];rfl) (by show(if(O.kindOf y==So .local&&g.line==aH)=To then So y else No)=So y;rw[I,r];rfl)
 have J:[x,y].eraseDups=[x,y]:=by rw[List.eraseDups_cons,List.filter,j];rfl
 rw[if_neg (by rw[P];decide)];refine(if_neg (m (t v) (t B))).trans ?_;rw[if_neg (by rw[J];exact ZM),if_neg (by rw[L];decide),if_neg (by rw[C];decide)]
def aPr{M:Aq}{H0:Hp}{i j:Nat}{g pt e:Pos}{o k2:Nat}(C:Ao)(f:HX X nm)(h:ER)(h':chkA N nm M j y=To)(u:(nm.lookup x==So .local&&nm.lookup y==So .local&&!usesP pb i&&decide (i≠j)&&!(x==y))=To)
  (q:(g.line==aH&&sI a&&sI b&&!([a,b].all Qal)&&!([a,b].all N5))=To) (F:AG) (E:Bp) (h1:sepP M pa=To) (L:sepP M pb=To)
  (z:swapsWithSole QcL OD Xt QL=pure Fo) (l:starEach [a,b] QL=NB::starEach [b] QL) (m:F8):
  PS X (.Assign QcL OD pos) Wt:=λY s Z H D I B=>by
 simp only[Zd,ZB,kB,Zv]at u q
 obtain⟨⟨⟨⟨t,r⟩,W⟩,P⟩,l5⟩:=u
 obtain⟨⟨⟨⟨p1,p2⟩,J⟩,v⟩,O⟩:=q
 exact aPar C f h h' (by simp[t,r,W,P]) F E h1 L (JmR XU (by rw[f.sc];exact t) (by rw[f.sc];exact r) l5 (by simp[p1]) p2 J v O) z l m Y s Z H D I B
end
open PySem.SeqAt (EqAt)
def lR(s:Str):∀e:List Str,(Str.join s e).cps.toList=Jo XI (e.map (·.cps.toList))
 |[]=>rfl
 |[x]=>rfl
 |x::y::r=>by
  have:=lR s (y::r)
  show((x++s++Str.join s (y::r)).cps).toList=_
  rw[Str.cps_append,Str.cps_append,oO,oO,this,List.append_assoc]
  rfl
def kI{l:Aq}(h:x.cps.toList=l):x=mkS l:=StrLaws.mk_of_toList h
def JdS:∀{l:Aq},c∉l->Js c l=[l]
 |[],_=>rfl
 |x::l,h=>by
  have f:x≠c:=λe=>h (by simp[e])
  rw[Js,if_neg f,JdS λz=>h (by simp[z])]
  rfl
def JeI(l:Aq):∀{a:Aq},c∉a->Js c (a++c::l)=a::Js c l
 |[],_=>by simp[Js]
 |x::a,h=>by
  have f:x≠c:=λe=>h (by simp[e])
  rw[jB,Js,if_neg f,JeI l λz=>h (by simp[z])]
  rfl
def JS:∀{ls:Ds},ls≠[]->(∀l∈ls,c∉l)->Js c (Jo [c] ls)=ls
 |[],h,_=>absurd rfl h
 |[x],_,h=>JdS (h x Af)
 |x::y::r,_,h=>by
  show Js c (x++([c]++Jo [c] (y::r)))=_
  rw[List.singleton_append,JeI _ (h x Af),JS 'k' λl e=>h l (by simp[e])]
def JoW(x y:Str):Txt.split x y≠[]:=by
 unfold Txt.split;split
 ·simp
 ·split
  ·simp
  ·rw[StrLaws.partsBetween_eq];obtain⟨p,r,e⟩:=StrLaws.partsFrom_ne x Yk 0 (Builtin.Str.occurrences x y 0 Xo (Xo+1));rw[e];simp
def Jiq(x:Str)(c:Nat):(Txt.split x ⟨#[c]⟩).map (·.cps.toList)=Js c Xu:=by
 have e:=lA (·.cps.toList) (StrLaws.join_split x ⟨#[c]⟩);simp only[lR]at e;rw[<-e,JS (by simp[JoW]) λl f=>by
  obtain⟨p,g,rfl⟩:=Zy.mp f;exact StrLaws.split_free x c p g]
theorem pZ(c:Nat):∀l:List Nat,(Js c l).length<=Xv+1
 |[]=>by simp[Js]
 |x::l=>by
  have:=pZ c l
  unfold Js
  split
  ·simp;lia
  ·cases h:Js c l with
   |nil=>simp[oP]
   |cons p r=>rw[h]at this;simp[oP]at this⊢;lia
def JgX:∀e:List Str,Reps K H (e.map Yn) (e.map Yg)
 |[]=>rfl
 |x::e=>⟨_,_,rfl,rfl,JgX e⟩
def Jiw:∀l:List (Str×Tok),Vals ((l.map (·.1)).map Yg) (strValues l)
 |[]=>.nil
 |p::l=>.cons ⟨p.2,rfl⟩ (Jiw l)
def kY:∀{xs:Ag}{vs:Av}{us:AF},Reps K H (xs.map Yn) vs->Vals vs us->∃l:List (Str×Tok),us=strValues l/\l.map (·.1)=xs
 |[],vs,us,h,v=>by
  cases h
  have:=v.length
  rw[qS.mp this.symm]
  exact⟨[],rfl,rfl⟩
 |x::xs,vs,us,h,v=>by
  obtain⟨y,r,rfl,g,j⟩:=h
  cases g
  cases v with
  |cons f i=>
   obtain⟨t,rfl⟩:=f
   obtain⟨l,rfl,e⟩:=kY j i
   exact⟨(x,t)::l,rfl,by simp[e]⟩
theorem JgW(e:Aq):∀ls:List CV,(ls.map (·.length)).sum+BF*e.length<=(Jo e ls).length+e.length
 |[]=>by simp[Jo]
 |[x]=>by simp[Jo]
 |x::y::r=>by
  have:=JgW e (y::r)
  simp only[Jo,Zl,List.sum_cons,Zi,Zm,Nat.add_mul,Nat.one_mul]at this⊢
  lia
theorem Jlx{s:Str}{xs:Ag}(h1:s.length<=1000)(f:(Jo XI (xs.map (·.cps.toList))).length<=20000):Builtin.Str.tooLong (xs.toArray.foldl (·+·.length+s.length) 0)=Fo:=by rw[StrLaws.joinTotal];have:=JgW XI (xs.map (·.cps.toList));rw[Zu,Zj]at this;have e:(xs.map (List.length∘λx:Str=>Xu))=xs.map (·.length):=fG λx _=>ZT;rw[e,show s.cps.toList.length=s.length from ZT]at this;unfold Builtin.Str.tooLong;rw[gG,ZJ];lia
def JrT:MtR X "str.join" (λx E H Q=>∃y,E=[y]/\rD2 X .joinS x y H Q):=by
 rintro Y s Z H x E v us Q I rx rv⟨y,e,W,dy,L,C,h⟩;subst e;obtain⟨u,rfl,B⟩:=uA rv;cases W with
 |str z=>
  have e1:x=V.str z:=L;subst e1;obtain⟨t,rfl⟩:=rx;cases dy with
  |lst J=>
   simp only[op2]at h;split at h
   ·rename_i ws o;split at h
    ·rename_i i;obtain⟨a,ys,rfl,m,g⟩:=C;cases B;obtain⟨j,q,pl,_⟩:=I.list m;rw[uM o]at g;obtain⟨l,rfl,r⟩:=kY g q;subst r;have f:=Jlx i.1 i.2;refine xA Y0 GU QcT Qh (meets_str_join_list z t a l f) ⟨Yd,post_join l UT⟩;refine⟨.str (Txt.join z (l.map (·.1))),H,I.tok _,AJ,?_⟩;rw[show Txt.join z (l.map (·.1))=mkS (Jo XX ((l.map (·.1)).map (·.cps.toList)))from kI (by rw[<-lR];exact lA (·.cps.toList) Uu)];exact Out.now h rfl
    ·exact h.elim
   ·exact h.elim
  |tup J=>
   simp only[op2]at h;split at h
   ·rename_i ws o;split at h
    ·rename_i i;obtain⟨a,ys,rfl,m,g⟩:=C;cases B;obtain⟨j,ob,M,q,U,o2,_,O,_⟩:=I.tupleD m;rw[uM o]at g;obtain⟨l,rfl,r⟩:=kY g q;subst r;have f:=Jlx i.1 i.2;refine xA Y0 GU QcT Qh (meets_str_join_tuple z t a l f) ⟨⟨ob,M,U,o2,O⟩,post_join l UT⟩;refine⟨.str (Txt.join z (l.map (·.1))),H,I.tok _,AJ,?_⟩;rw[show Txt.join z (l.map (·.1))=mkS (Jo XX ((l.map (·.1)).map (·.cps.toList)))from kI (by rw[<-lR];exact lA (·.cps.toList) Uu)];exact Out.now h rfl
    ·exact h.elim
   ·exact h.elim
  |_=>exact(show False from h).elim
 |_=>exact(show False from h).elim
def mtSS{id:Ba}{o:O2}{k:Str->Str->Rs D}(ho:∀a b,op2 o a b=onSS a b k)
  (h:∀(Y:AV)(s:Ak)(Z:Bf)(H:Hp)(Q:VK)(z w:Str)(t t':Tok),L2.Inv X Y Z H s->(k z w).Good BY BE->wpAny As X.A (PySem.call Do [.str z t,.str w t']) BI X.xe s):MtR X id (λx f H Q=>∃y,f=[y]/\rD2 X o x y H Q):=by rintro Y s Z H x f v B Q I q m⟨y,e,r,C,i,l,g⟩;subst e;obtain⟨u,rfl,j⟩:=uA m;rw[ho]at g;obtain⟨z,w,rfl,rfl,g⟩:=Jgy g;cases i;cases l;obtain⟨t,rfl⟩:=q;obtain⟨t',rfl⟩:=j;exact h Y s Z H Q z w t t' I g
def Jkj{t u:Tok}{Q E:Au}(j:(Yk==0)=Fo)
  (i:∀l k,l.map (·.1)=Txt.split x y->Q E5 {s with heap:=s.heap.push {cls:=.type "list",data:=.seq (strValues l).toArray},toks:=k})
  (hsz:x.length<=sizeLine) (hsz2:(Txt.split x y).length<=sizeLine):
  wpAny Ar A (PySem.call (.builtin "str.split") [.str x t,.str y u]) Q E s:=by
 cases f:(decide (Xo<Yk)||decide (Builtin.Str.strKind x<Builtin.Str.strKind y))
 ·cases g:(Builtin.Str.occurrences x y 0 Xo (Xo+1)).isEmpty
  ·have e:Txt.split x y=_:='Ӝ'.trans QbQ;rw[e]at hsz2;refine xA eO GU YT 'ʢ' (meets_str_split_sep x y t u f j g hsz hsz2) ?_;show wants Q E _ {s with toks:=_,heap:=s.heap.push {cls:=.type "list",data:=.seq (strsFrom Xl (Builtin.Str.partsBetween x (Builtin.Str.occurrences x y 0 Xo (Xo+1)) Yk)).toArray}};rw[strsFrom_eq];exact i (numbered Xl _) _ ((numbered_texts _ _).trans ('Ӝ'.trans QbQ).symm)
  ·exact xA eO GU YT 'ʢ' (meets_str_split_not_found x y t u f j g)
    (i [(x,t)] _ ('Ӝ'.trans (if_pos g)).symm)
 ·exact xA eO GU YT 'ʢ' (meets_str_split_cannot_occur x y t u f)
   (i [(x,t)] _ (if_pos f).symm)
theorem Jpj:MtR X "str.split" (λx B H Q=>∃y,B=[y]/\rD2 X .splitS x y H Q):=mtSS Cg λY s Z H Q z w t t' I h=>by
 split at h
 ·rename_i i
  obtain⟨i,m⟩:=i
  generalize w.cps.getD 0 0=c at h m
  have g:w=⟨#[c]⟩:=Str.ext' m
  subst g
  have j:=pZ c XX
  rw[show z.cps.toList.length=z.length from ZT,<-Jiq,Zj]at j
  refine Jkj rfl (λl k q=>?_) (ZA i (by rw[ZJ];decide)) ?_
  ·have f:(Js c XX).map (λl=>D.str SG)=(l.map (·.1)).map Yn:=by
    rw[<-Jiq,q,Zu];exact fG λx _=>lA Yn (kI rfl).symm
   rw[f]at h;obtain⟨r,u⟩:=eI (K:=X.K) Qg (JgX (l.map (·.1)));have v:l.length<=20001:=by
    have:=lA YN q;rw[Zj]at this;lia
   refine⟨.ref Aa,_,I.laid (t':=k) SD (Zf _) (show ObjOk Xn X.w _ _ _ (.lst ((l.map (·.1)).map Yg))from⟨by rw[Zj,Zj,ZJ];lia,strValues l,0,Jiw l,Ze _ rfl⟩),rfl,h _ _ r u⟩
  ·rw[ZJ];lia
 ·exact h.elim
def Jjs(b:Aq):∀{a:Aq},c∉a->cutL c (a++c::b)=(a,So b)
 |[],_=>by simp[cutL]
 |x::a,h=>by
  have f:x≠c:=λe=>h (by simp[e])
  rw[jB,cutL,if_neg f,Jjs b λz=>h (by simp[z])]
def Jgj:∀{l:Aq},c∉l->cutL c l=(l,No)
 |[],_=>rfl
 |x::l,h=>by
  have f:x≠c:=λe=>h (by simp[e])
  rw[cutL,if_neg f,Jgj λz=>h (by simp[z])]
theorem JrR:MtR X "str.partition" (λx xs H Q=>∃y,xs=[y]/\rD2 X .partS x y H Q):=mtSS Cg λY s Z H Q z w t t' I h=>by
 split at h
 ·rename_i P
  obtain⟨P,W⟩:=P
  generalize w.cps.getD 0 0=c at h W
  have M:w=⟨#[c]⟩:=Str.ext' W
  subst M
  refine xA dN GU F.entry_str_partition (F.args_str_partition_2 _ _) (meets_str_partition z ⟨#[c]⟩ t t' rfl (ZA P (by rw[ZJ];decide))) ?_
  have tup:∀(a b d:Str)(m u v k:Tok),gF XX c=.tup M0->wants BI X.xe (.ok (.ret E5)) {s with toks:=k,heap:=s.heap.push {cls:=.type "tuple",data:=.seq 'ǘ'.toArray}}:=λa b d m u v k e=>by
   rw[e]at h
   obtain⟨s1,q1⟩:=jF (K:=X.K) Qg (J:=M0) (xs:=M0) ⟨_,_,rfl,rfl,_,_,rfl,rfl,_,_,rfl,rfl,rfl⟩
   refine⟨.ref Aa,_,I.laid (t':=k) SD (Zf _) (show ObjOk Xn X.w _ _ _ (.tup M0)from ?_),rfl,h _ _ s1 q1⟩
   have U:(s.heap.push {cls:=.type "tuple",data:=.seq 'ǘ'.toArray}).get? Aa=So {cls:=.type "tuple",data:=.seq 'ǘ'.toArray}:=Ze _ rfl
   exact⟨⟨by rw[ZJ];show 3<=_;decide,λo q=>by rw[U]at q;cases q;rfl⟩,'ǘ',.cons AJ KC,_,U,rfl,_,rfl⟩
  have g:∀i,StrLaws.At z ⟨#[c]⟩ bS i↔z.cps.toList[i]? =So c:=λi=>by
   have e:Builtin.Str.subAt z ⟨#[c]⟩ i=To↔z.cps.toList[i]? =So c:=by
    rw[StrLaws.subAt_eq];exact StrLaws.take1_drop
   constructor
   ·exactλh=>e.mp h.2
   ·intro h
    have hl:=(Zz.mp h).1;exact⟨by show i+1<=z.cps.size;rw[<-ZT];lia,e.mpr h⟩
  rcases StrLaws.occ_head z ⟨#[c]⟩ 1 (Zf 1)with⟨L,f⟩|⟨i,r,L,j,f⟩
  ·rw[L]
   refine tup z X5 X5 t Xl Xl _ ?_;have C:c∉z.cps.toList:=λO=>by
    obtain⟨i,j⟩:=qO O;exact f i ((g i).mpr j)
   rw[gF,Jgj C];rw[<-kI (x:=z) rfl];rfl
  ·rw[L]
   refine tup _ _ _ _ _ _ _ ?_;have j:=(g i).mp j;have E:=(Zz.mp j).1;have l:z.cps.toList=z.cps.toList.take i++c::z.cps.toList.drop Bq:=by
    have e:=List.drop_eq_getElem_cons E;rw[(Zz.mp j).2]at e;rw[<-e,List.take_append_drop]
   have C:c∉z.cps.toList.take i:=λO=>by
    obtain⟨k,B⟩:=qO O;rw[List.getElem?_take]at B;split at B
    ·exact f k ‹_› ((g k).mpr B)
    ·cases B
   have ha:mkS (z.cps.toList.take i)=Builtin.Str.strSub z 0 i:=(kI (by rw[StrLaws.strSub_toList];simp)).symm;have hb:mkS (z.cps.toList.drop Bq)=Builtin.Str.strSub z (i+(⟨#[c]⟩:Str).length) bS:=(kI (by
    rw[StrLaws.strSub_toList];show _=_;rw[show i+(⟨#[c]⟩:Str).length=i+1 from rfl];exact List.take_of_length_le (by rw[iN,show z.cps.toList.length=z.length from ZT];lia))).symm
   rw[<-ha,<-hb,gF,l,Jjs _ C];simp only[<-l];rfl
 ·exact h.elim
def Jsl:MtR X "str.endswith" (λx e H Q=>∃y,e=[y]/\rD2 X .ends x y H Q):=mtSS Cg λY s Z H Q z w t f I h=>
 xA QaJ (tJ _ _ _) F.entry_str_endswith (F.args_str_endswith_2 _ _) (gives_str_endswith z w t f).meets UP
def JsS:MtR X "str.startswith" (λx e H Q=>∃y,e=[y]/\rD2 X .strt x y H Q):=mtSS Cg λY s Z H Q z w t f I h=>
 xA dM (tJ _ _ _) F.entry_str_startswith (F.args_str_startswith_2 _ _) (gives_str_startswith z w t f).meets UP
section
variable{U:Ae}
def lQ{a b:D}{k:Str->Str->Rs D}{P:D->Prop}{E:C6}(h:(onSS a b k).Good P E):∃i,a=.str i:=let⟨i,_,e,_⟩:=Jgy h;⟨i,e⟩
def oK{id:Ba}{name:Str}{o:O2}(g:Slot "str" name id)(l:RM)(ho:∀{v t:D}{P:D->Prop}{E:C6},(op2 o v t).Good P E->∃z,v=.str z)
  (Y:MtR X id (λx xs H Q=>∃y,xs=[y]/\rD2 X o x y H Q)) (W:AG) (I:Bp) (hp:∀O,(∃z,evD U pa O=.ok YH)\/noEx pb=To) (M:C9)
  (f:'б' (attributeBase a name QL CH=eval a QL) Ah) (hs:II):PE X Wd IP:=by
 refine PE.weak (rP F.plainAttrs_str g l Y W (Jq I JP hs) f (by rw[hs];rfl) M hs rfl) λZ H Q h=>?_;obtain⟨O,r,h⟩:=h;simp only[evD]at h;refine Dl;cases i:evD U pa O with
 |sk=>rw[i]at h;exact h.elim
 |ex c=>rw[i]at h;exact h
 |ok v=>
  rw[i]at h;simp only[Rs.bo]at h;intro x H1 j u;have B:=r.mono j;cases e:evD U pb O with
  |sk=>rw[e]at h;exact h.elim
  |ex c=>
   rw[e]at h;rcases hp O with⟨z,C⟩|J
   ·rw[i]at C;cases C;refine⟨by rw[show x=V.str z from u];rfl,O,B,?_⟩;rw[e];exact XW.mono j h
   ·exact absurd e (sW U pb O c J)
  |ok t=>rw[e]at h;simp only[Rs.bo]at h;obtain⟨z,rfl⟩:=ho h;refine⟨by rw[show x=V.str z from u];rfl,O,B,?_⟩;rw[e];intro y H2 m L;exact⟨y,rfl,.str z,t,u.mono m,L,h.mono (λ_ o=>o.mono (j.trans m)) λ_ q=>q.mono (j.trans m)⟩
def cJoin{z:Str}{j}(g:Bp)(i:C9)(e:attributeBase Ng "join" QL (eval Ng QL)=eval Ng QL)(l:F8):
  PE X (.Call (.Attribute Ng "join" apos) [b] [] pos) (tI X U (.bi .joinS (.con YH) pb)):=oK Y0 F.type_str_join (fun{f _ _ _}h=>by cases f<;>first|exact AJ|exact(show False from h).elim) JrT vA g (λ_=>.inl ⟨z,rfl⟩) i e l
def Jwb(l:AG)(i:Bp)(j:noEx pb=To)(f:C9)(e:attributeBase a "split" QL CH=eval a QL)(g:F8):
  PE X (.Call (.Attribute a "split" apos) [b] [] pos) (tI X U (.bi .splitS pa pb)):=oK eO F.type_str_split lQ Jpj l i Ml f e g
def cPart(l:AG)(i:Bp)(j:noEx pb=To)(f:C9)(e:attributeBase a "partition" QL CH=eval a QL)(g:F8):
  PE X (.Call (.Attribute a "partition" apos) [b] [] pos) (tI X U (.bi .partS pa pb)):=oK dN F.type_str_partition lQ JrR l i Ml f e g
def cEnds(l:AG)(i:Bp)(j:noEx pb=To)(f:C9)(e:attributeBase a "endswith" QL CH=eval a QL)(g:F8):
  PE X (.Call (.Attribute a "endswith" apos) [b] [] pos) (tI X U (.bi .ends pa pb)):=oK QaJ F.type_str_endswith lQ Jsl l i Ml f e g
def cStrt(l:AG)(i:Bp)(j:noEx pb=To)(f:C9)(e:attributeBase a "startswith" QL CH=eval a QL)(g:F8):
  PE X (.Call (.Attribute a "startswith" apos) [b] [] pos) (tI X U (.bi .strt pa pb)):=oK dM F.type_str_startswith lQ JsS l i Ml f e g
end
def noCX{P:Be}{e:Al}{f:Ak}(h:CXr P w [] H s Hg e f):False:=by obtain⟨_,_,_,_,_,_,_,_,_,_,_,_,_,z⟩:=h;exact z
noncomputable def nG (N P:Ag) (e:AS):Bool:=(e.kind==.function)&&!e.isCoroutine&&!e.isGenerator&&decide N.Nodup&&(N.take P.length==P)&&P.all (λx=>e.names.lookup x==So .local||e.names.lookup x==So .cell)&&e.names.all λy=>!(y.2==.free)
def fE{P:Ag}{e:AS}(h:nG N P e=To):FnScope N P e:=by simp only[nG,Zd,ZB,kB,Zv,ZQ,uD,Zw]at h;obtain⟨⟨⟨⟨⟨⟨i,l⟩,o⟩,m⟩,f⟩,j⟩,g⟩:=h;exact⟨i,l,o,m,f,j,g⟩
structure DefIn(K:Aj)(n:Str)(s:Stmt)(f:Addr)(fd:A7):Prop where
 a:PySem.W.nsIn K mainGlobals n=So Ez
 F:Fun K n n s f fd
def def_mk{n:Str}{s:Stmt}{f:Addr}{m g:DY}{sl:EJ}{o kV j i e ct:Al}(a:PySem.W.nsIn K mainGlobals n=So Ez)(l:K.lookup f=So ⟨o,m,.func WC,sl⟩)(c:PySem.W.codeIn K e n=To)(k:PySem.W.keepIn K A6=To):DefIn K n s f WC:=⟨a,JpP l c k⟩
structure Def1(K:Aj)(mg:Bi)(x:Str)(st:Stmt)(ps:Ag)(f:Addr)(fd:A7):Prop where
 F:Fun K x x st f fd
 b:Binds K fd ps []
 g:mg x=So A6
noncomputable def kitB (K:Aj) (e:FW) (cs:DG):Bool:=e.all λt=>cs.all λc=>PySem.W.kitOne K (.ref c.2) t.2==So (t.1==oS "ValueError"||c.1==t.1)
noncomputable def exkB (K:Aj) (C:Addr):Bool:=PySem.W.findIn K AX "__getattribute__"==So (So L4)&&PySem.W.findIn K AX "__getattr__"==So No&&PySem.W.mroIn K C Qi==So To&&PySem.W.hasDictIn K C&&PySem.W.findIn K AX "__class__"==So (So EW)&&PySem.W.mroIn K C Qbc==So To
def exB (K:Aj) (cs:DG):Bool:=PySem.W.specialIn K EW "__get__"==So (So IW)&&PySem.W.takesIn K EW==So To&&cs.all λc=>exkB K c.2&&PySem.W.nsIn K mainGlobals c.1==So (So (.ref c.2))
noncomputable def takB (K:Aj) (CR:Addr) (cs:DG):Bool:=cs.all λc=>PySem.W.exmOne K (.ref c.2) (.ref CR)==So To
def Jqi(h:exB K cs=To){c:Str×Addr}(i:c∈cs):ExKit K c.2/\PySem.W.nsIn K mainGlobals c.1=So (So (.ref c.2)):=by simp only[exB,Zd,ZB,ZQ,exkB]at h;obtain⟨⟨l,m⟩,o⟩:=h;obtain⟨⟨⟨⟨⟨⟨a,b⟩,j⟩,d⟩,e⟩,f⟩,g⟩:=o c i;exact⟨⟨a,b,j,d,e,l,m,f⟩,g⟩
def gD{t:Str}{u:Al}{v:V}{f:FW}(j:kitB G.K f cs=To)(l:exB G.K cs=To)(g:Em)(q:G.mg t=So u\/(G.mg t=No/\bootBuiltins t=So u/\t≠"__name__"))(m:(t,u)∈f):IsaC G t (cs.map (·.1)):=by refine⟨⟨u,v,g,q,λc i=>?_⟩⟩;obtain⟨x,e,rfl⟩:=Zy.mp i;obtain⟨r,o⟩:=Jqi l e;refine⟨x.2,o,r,?_⟩;have:=ZQ.mp (ZQ.mp j _ m) _ e;exact ZB.mp this
def JoR{g:Str}{CR:Addr}(X:G.K.In h)(N:h.Ns mainGlobals G.mg)(j:exB G.K cs=To)(m:takB G.K CR cs=To)(l:G.mg g=So (.ref CR)):Takes G g (cs.map (·.1)):=by refine⟨⟨CR,l,λc i=>?_⟩⟩;obtain⟨x,e,rfl⟩:=Zy.mp i;obtain⟨o,f⟩:=Jqi j e;exact⟨x.2,f,ZG X N f,ZB.mp (ZQ.mp m _ e)⟩
noncomputable abbrev DefE:=Str×Stmt×List Str
section
variable{P:Be}{mg:Bi}{base:Heap}{defs:BW}
noncomputable def HasD (K:Aj) (mg:Bi):List DefE->Prop
 |[]=>True
 |e::T=>(∃f g,Def1 K mg e.1 e.2.1 e.2.2 f g)/\HasD K mg T
noncomputable def OkD (P:Be) (w:A0) (K:Aj) (mg:Bi) (base:Heap) (defs:BW) (k:Nat):Nat->List DefE->Prop
 |_,[]=>True
 |i,e::T=>(∀f g,Def1 K mg e.1 e.2.1 e.2.2 f g->FnOk P w K mg base B8 (3*k) f g e.2.2 QbR)/\OkD P w K mg base defs k Bq T
def JiN:∀(T:Gv)(i:Nat),OkD P w K mg base defs 0 i T
 |[],_=>trivial
 |e::T,i=>⟨λ_ _ _=>Jni,JiN T Bq⟩
theorem JmA{k:Nat}:∀{T:Gv}{i j:Nat}{e:DefE},OkD P w K mg base defs k i T->T[j]? =So e->∀f g,Def1 K mg e.1 e.2.1 e.2.2 f g->FnOk P w K mg base B8 (3*k) f g e.2.2 (spI K mg BR (i+j))
 |[],_,_,_,_,h=>by simp at h
 |d::T,i,0,e,ok,h=>by
  simp only[tE,ZP]at h
  subst h
  exact ok.1
 |d::T,i,j+1,e,ok,h=>by
  have:=JmA (j:=j) ok.2 (by simpa using h)
  rw[show i+1+j=i+(j+1) by lia]at this
  exact this
def yX:∀{T:Gv}{j:Nat}{e:DefE},HasD K mg T->T[j]? =So e->∃f g,Def1 K mg e.1 e.2.1 e.2.2 f g
 |[],_,_,_,h=>by simp at h
 |d::T,0,e,ok,h=>by
  simp only[tE,ZP]at h
  subst h
  exact ok.1
 |d::T,j+1,e,ok,h=>yX ok.2 (by simpa using h)
def Jll{T:Gv}{k:Nat}(l:HasD K mg T)(ok:OkD P w K mg base defs k 0 T)(i:IY)(j:Nat){e:DefE}(h:T[j]? =So e):Callee An BR j e.1:=by obtain⟨f,g,D⟩:=yX l h;have F:=JmA ok h f g D;rw[qJ]at F;exact⟨⟨3*k,f,g,_,F,i.in1.in1,D.g,D.F.kp,D.b⟩⟩
def fo{e:Gw->CallD->Prop}{ps:Ag}{M:Aq}{st:Stmt}{i k:Nat}{d:DefD}{b:Sx}(E:∀A,Room Dp A->e An BR)(r:∀{X:Cx}{G:Gw}{U:Ae}{l:Hp},e G U->Ctx X G N 'Š'.names->HX X 'Š'.names->PSs X Df (tS X U M l b))
  (o:'б' (defs[i]? =So d) Ah) (hb:'б' (XF=b) Ah) (h:'б' ((nG N ps B1&&d.slots==Xr&&d.params==Aw&&M.all (λi=>decide (Aw<=i))&&decide (Aw<=Xr))=To) IL):
  ∀f g,Def1 K mg x st ps f g->FnOk P w K mg base B8 (3*A4) f g ps RB:=λf g D=>by
 simp only[Zd,ZB,ZQ,Zv]at h
 obtain⟨⟨⟨⟨z,B⟩,q⟩,t⟩,m⟩:=h
 subst hb
 exact JtW (j:=3*k+2) D.F (fE z) o B q t m λX A l C u v=>r (E A u) C v
noncomputable def DsIn (K:Aj):List DefE->Prop
 |[]=>True
 |e::T=>(∃f g,DefIn K e.1 e.2.1 f g)/\DsIn K T
abbrev BsE(e:DefE):Prop:=∀(kV f l:Al)(j:DY)(i ct:Al)(g:AF),XQ=e.2.2.length->bindArgs (PySem.W.fnOf e.1 e.1 (iJ e.2.1) (Jl e.2.1) (Ja e.2.1) .none kV f l j i ct) ⟨g,[]⟩=pure (e.2.2.zip g)
noncomputable def BsOk:List DefE->Prop
 |[]=>True
 |e::T=>BsE e/\BsOk T
def sL(X:K.In h)(G:RG):∀{T:Gv},DsIn K T->BsOk T->HasD K mg T
 |[],_,_=>trivial
 |e::T,d,b=>⟨let⟨f,g,D⟩:=d.1;⟨f,g,D.F,D.F.binds b.1,ZG X G D.a⟩,sL X G d.2 b.2⟩
noncomputable def BlIn (K:Aj):List Str->Prop
 |[]=>True
 |x::T=>PySem.W.nsIn K mainGlobals x=So No/\BlIn K T
noncomputable def BlN (mg:Bi):List Str->Prop
 |[]=>True
 |x::T=>mg x=No/\BlN mg T
def xT(X:K.In h)(G:RG):∀{T:Ag},BlIn K T->BlN mg T
 |[],_=>trivial
 |x::T,d=>⟨PySem.W.mg_none_of X G d.1,xT X G d.2⟩
def pV:∀{T:Ag}(j:Nat){x:Str},BlN mg T->T[j]? =So x->mg x=No
 |[],_,_,_,h=>by simp at h
 |d::T,0,e,ok,h=>by
  simp only[tE,ZP]at h
  subst h
  exact ok.1
 |d::T,j+1,e,ok,h=>pV j ok.2 (by simpa using h)
end
noncomputable abbrev NM:=List Str×List Nat
def DAll (X:Cx) (G:Gw) (U:Ae) (f:Hp):List DefE->List NM->List DefD->Prop
 |e::T,n::L,d::D=>(Ctx X G n.1 (Ja e.2.1).names->HX X (Ja e.2.1).names->PSs X (Jl e.2.1) (tS X U n.2 f XF))/\DAll X G U f T L D
 |[],_,_=>True
 |_,_,_=>False
def chkD:List DefE->List NM->List DefD->Bool
 |e::T,n::L,d::D=>(nG n.1 e.2.2 (Ja e.2.1)&&d.slots==n.1.length&&d.params==e.2.2.length&&n.2.all (λi=>decide (e.2.2.length<=i))&&decide (e.2.2.length<=n.1.length))&&chkD T L D
 |[],_,_=>To
 |_,_,_=>Fo
def foAll{P:Be}{mg:Bi}{base:Heap}{defs:BW}{g:Gw->CallD->Prop}{k:Nat}(E:∀A,Room Dp A->g An BR)(T:Gv):∀(L:List NM)(i:Nat)(_:∀{X:Cx}{G:Gw}{U:Ae}{m:Hp},g G U->DAll X G U m T L QdJ)(_:chkD T L QdJ=To),OkD P w K mg base defs A4 i T:=by
 induction T with
 |nil=>exactλ_ _ _ _=>trivial
 |cons e T o=>
  intro L i f h;cases L with
  |nil=>cases h
  |cons n L=>
   cases q:defs.drop i with
   |nil=>rw[q]at h;cases h
   |cons d D=>
    have l:defs[i]? =So d:=by rw[<-Nat.add_zero i,<-List.getElem?_drop,q];rfl
    have j:defs.drop Bq=D:=by rw[<-List.drop_drop,q];rfl
    rw[q]at h;simp only[q]at f;simp only[chkD,Zd]at h;exact⟨fo E (λe=>(f e).1) l rfl (by simp only[Zd];exact h.1),o L Bq (λe=>by rw[j];exact(f e).2) (by rw[j];exact h.2)⟩
def Jhb{k:D}:∀{ks vs:Am},jA k ks vs=No->Ay=AA->(ks.any λd=>d.eqv k)=Fo
 |[],_,_,_=>rfl
 |a::ks,[],_,e=>by simp at e
 |a::ks,v::vs,h,e=>by
  simp only[jA]at h
  split at h
  ·cases h
  ·rename_i q
   simp only[qE,Jhb h (by simpa using e),jH]
   simpa using q
def JvB{a:Addr}{t z:Bool}{ks:Am}{xs:Av}(h:Q6):Ay=Ai:=by
 cases t
 ·obtain⟨e,_,rfl,rfl⟩:=dk_k h;simp
 ·obtain⟨e,_,rfl,rfl⟩:=dk_t h;simp
end Rd
namespace Rd
open PySem PySem.Spec PyProof.Rows L2 Pu PySem.SeqAt PySem.W
def look_mem{k d:D}:∀{ks vs:Am},jA k ks vs=So d->d∈vs
 |[],vs,h=>by cases vs<;>cases h
 |a::ks,[],h=>by cases h
 |a::ks,v::vs,h=>by
  simp only[jA]at h
  split at h
  ·cases h;simp
  ·exact Zq _ (look_mem h)
section
variable{X:Cx}{Y:AV}{Z:Bf}{A:Bd}{s:Ak}{H:Hp}{kvb:EH}{kb:List (L2.Key×Value)}{vb:Am}
def Jrg(I:Bw)(W:A.units+22<cLine)(M:KV kvb kb)(O:Reps X.K H vb (kvb.map (·.2)))(B:vb.all Jy=To):∀{b:EH}{m:List (L2.Key×Value)}{a:Am},KV b m->Reps X.K H a (b.map (·.2))->a.all Jy=To->
  KeqHits A s kb m (Pu.iG (kvb.map λp=>keyV p.1) vb (b.map λp=>keyV p.1) a):=by
 intro b m a N;induction N generalizing a with
 |nil=>intro i _;cases a with
  |nil=>exact .nil
  |cons d a=>obtain⟨_,_,e,_⟩:=i;cases e
 |@cons p q ps qs F t E=>
  intro i l;cases a with
  |nil=>cases i
  |cons d a=>
   obtain⟨x,r,e,P,G⟩:=i;simp only[Zl,lH]at e;obtain⟨rfl,rfl⟩:=e;simp only[pC,Zd]at l;have y:d.dep<=20:=by simpa[Jy]using l.1
   obtain⟨k,v⟩:=q;obtain⟨o,w⟩:=F;simp only at o w;subst o;have g:=look_of iD (k:=p.1) O;have f:=M.val p.1;simp only[Zl,Pu.iG];cases z:jA (keyV p.1) (kvb.map λp=>keyV p.1) vb with
   |none=>
    rw[z]at g;simp only at g;rw[g]at f;refine .miss ?_;cases h:valueAt kb p.1 with
    |none=>rfl
    |some u=>rw[h]at f;exact f.elim
   |some j=>
    rw[z]at g;obtain⟨U,L,J⟩:=g;have C:j.dep<=20:=by simpa[Jy]using ZQ.mp B j (look_mem z)
    rw[L]at f;cases h:valueAt kb p.1 with
    |none=>rw[h]at f;exact f.elim
    |some u=>rw[h]at f;exact .hit h (fP I 20 A d j y Ad Ad P J w f Ad).2.2 (E G l.2)
end
section
variable{X:Cx}
def Juq{a b:D}{P:D->Prop}{E:C6}(h:(op2 .dNe a b).Good P E):∃z ks i l f g,a=.dct Fo z ks i/\b=.dct Fo l f g/\i.all Jy=To/\g.all Jy=To/\P (.bl (!(Ay==Yl&&Pu.iG f g ks i))):=by
 have e:(dNeD a b).Good P E:=h;unfold dNeD at e;split at e
 ·split at e
  ·split at e
   ·rename_i j;simp only[Zd]at j;exact⟨_,_,_,_,_,_,rfl,rfl,j.1,j.2,e⟩
   ·exact e.elim
  ·exact e.elim
 ·exact e.elim
theorem Jte(hu:Fk):OpR X Oa (rD2 X .dNe):=by rintro Y s Z H x y v u Q I M t⟨dx,O,i,o,h⟩;obtain⟨z,ks,vs,W,A,E,rfl,rfl,j,G,g⟩:=Juq h;obtain⟨a,xs,rfl,B,F⟩:=i;obtain⟨b,ys,rfl,N,q⟩:=o;cases M;cases t;obtain⟨J,l,rfl,rfl⟩:=dk_k B;obtain⟨r,L,rfl,rfl⟩:=dk_k N;obtain⟨_,w,P,e,C⟩:=yC Xy l;obtain⟨_,sb,U,f,m⟩:=yC Xy L;refine keq_ne w sb C m Ad (λ_=>Jrg I (by show X.A.units+1+22<cLine;lia) f q G e F j) ?_;rw[Zj,Zj,e.length,f.length]at g;exact⟨.bl _,H,I,rfl,Out.now g rfl⟩
variable{U:Ae}{a b:Expr}{pa pb:Px}{pos:Pos}{G:Gw}{N:Ag}{nm:A8}
def tDNe(C:Ao)(e:AG)(f:Bp):PT X IT (tT X U (.bi .dNe pa pb)):=qG (Jte C.un) e f De
end
end Rd
namespace Rd
open PySem PySem.Spec PyProof.Rows L2 Pu
section
variable{X:Cx}{U:Ae}{G:Gw}{N:Ag}{nm:A8}{a e:Expr}{p pa:Px}{pos p1 pos':Pos}{x:Str}{i:Nat}{M:Aq}{H0:Hp}{px:Pos}
def JtP:PE X Qae (tI X U OC):=by rintro Y s Z H Q I⟨O,r,h⟩;simp only[evD,Rs.bo,D.asL,dspD]at h;refine ZL (rY Y s Z H (λv W=>∃l,v=.ref l/\H l=No/\W=upd H l aL) I λl f=>⟨l,rfl,f,rfl⟩) (λu y⟨v,A,t,m,l,w,f,j⟩=>?_) λ_ _ z=>z;subst w j;obtain⟨o,g⟩:=rW t Jd;rw[upd_upd]at g;exact⟨.ref l,_,g,m,h _ _ (λb ob q=>by rw[Jb (Je q f)];exact q) ⟨l,[],rfl,⟨[],⟨o,Jd⟩,rfl,rfl⟩,rfl⟩⟩
def aOwnP(C:Ao)(F:G.mg "dict"=No)(h:Eb)(E:AG)(hg:gloB nm "dict"=To)(u:DC)
  (f:swapsWith TN Qay aA QL=pure Fo):PS X (.Assign bJ TN pos') (tS X U M H0 (.ownP i pa)):=by
 obtain⟨h1,J,h3,h4,h5⟩:=chkO.at h;obtain⟨k1,W⟩:=C.sto x J;refine PS.weak (pG (by rw[C.hN];exact C.nd) (by rw[C.hN];exact h1) k1 (xY (Jik XH) CY (by rw[C.mg];exact F) dF (Jg (U:=U) E Jp u) Ab Ab u rfl) f W) λD Z H j=>?_;obtain⟨O,e,h⟩:=j;refine FK;simp only[exD]at h;simp only[evD];cases z:evD U pa O with
 |sk=>rw[z]at h;exact h.elim
 |ex c=>rw[z]at h;exact(show XW X H0 c from h).mono Yb
 |ok d=>
  rw[z]at h;refine⟨[d],rfl,λt w m P=>?_⟩;obtain⟨v,r',rfl,rv,rfl⟩:=P;refine⟨v,d,rfl,rv,?_⟩;simp only[Rs.bo]at h;have A:=e.grow m;cases s:op1 .dictP d with
  |sk=>rw[s]at h;exact h.elim
  |ex c=>rw[s]at h;exact(show XW X H0 c from h).mono A.same
  |ok r=>
   rw[s]at h;simp only[Rs.bo]at h;rintro ks t rfl;refine⟨Fo,λl kvs o y B g=>?_⟩;simp only at h;split at h
   ·rename_i I;have sm:Same w (upd w l AM):=λb ob q=>by rw[Jb (Je q y)];exact q
    obtain⟨L,Y⟩:=A.putOwn sm (i:=i) (d:=.dct Fo Fo ks t) y λHh tp=>⟨rfl,_,⟨kvs,Jd,B,rfl⟩,Reps.tups tp t I g⟩;exact h _ _ L ⟨(Fz.sm m).trans Y,λ_=>m.trans sm⟩
   ·exact h.elim
def aRetP{k:Nat}{pt:Pos}(C:Ao)(h:Eb)(he:BX)(L:starEach [.Name x px,e] QL=(Fo,eval E3 QL)::starEach [e] QL)(P:Nz):
  PS X (.Return (So (.Tuple [.Name x px,e] k pt)) pos) (tS X U M H0 (.retP i p)):=by
 obtain⟨g1,g2,g3,g4,g5⟩:=chkO.at h;obtain⟨d1,d2⟩:=plainN.d g3;rintro Y s Z H D I⟨O,e,h⟩;simp only[exD]at h;cases q:O[i]? with
 |none=>rw[q]at h;exact h.elim
 |some o=>
  rw[q]at h;cases o with
  |none=>exact h.elim
  |some d=>
   cases d with
   |dct t z ks vs=>
    cases t with
    |true=>exact h.elim
    |false=>
     cases z with
     |true=>exact h.elim
     |false=>
      obtain⟨l,m,h0,hz,xs,hl,hr⟩:=e.own i _ g4 q;have E:l∈Ow M O Z:=mem_Ow.mpr ⟨i,g4,_,q,m⟩;simp only at h;cases z:evD U p O with
      |sk=>rw[z]at h;exact h.elim
      |ex c=>rw[z]at h;refine ZL (lE UM Y s Z H D I Ug) Q2 λ_ _ z=>z;rw[z];exact(show XW X H0 c from h).mono Yb
      |ok d=>
       rw[z]at h;simp only[Rs.bo]at h;split at h
       ·rename_i hi;refine ZL (lE UM Y s Z H ⟨λ_ _=>False,λv W=>∃g u j,v=.ref g/\Same H j/\j g=No/\W=upd j g (.tup [.ref l,u])/\Rep X.K (hid BQ j) d u,λ_ _=>False,λ_ _=>False⟩ I Ug) (λf s1 r=>?_) λ_ _ z=>z
        ·rw[z];intro v j s1 rv;refine⟨by show 2<=16777216;decide,λg B=>⟨g,v,j,rfl,s1,B,rfl,Rep.tups (e.grow s1).ows.tup d hi rv⟩⟩
        ·cases f with
         |next=>obtain⟨_,_,_,z⟩:=r;exact z.elim
         |brk=>obtain⟨_,_,_,z⟩:=r;exact z.elim
         |cont=>obtain⟨_,_,_,z⟩:=r;exact z.elim
         |ret u=>
          obtain⟨v,σ',W,I',rv,g,w,j,rfl,sm,B,rfl,rw_⟩:=r;have F:g≠l:=λz=>by subst z;obtain⟨o,q2,_⟩:=e.ows g E;rw[sm _ _ q2]at B;cases B
          have up:∀ob,Same (hid BQ j) Np:=λob b y A=>by obtain⟨n,J⟩:=fH A;rw[Jb (λk:b=l=>n (k▸E)),Jb (Je J B)];exact J
          have rr:∀ob,Reps X.K Np vs xs:=λob=>hr.mono λb y A=>up ob b y ((Fz.sm sm).hid b y A);have fin:∀ob,Rep X.K Np (.dct Fo To ks vs) BC->D.rt (.ref g) Np:=λob r=>h _ _ (λb y A=>by
           have J:=sm b y (e.same b y A);rw[Jb (Je A h0),Jb (Je J B)];exact J) ⟨g,_,rfl,SqT.of (by rw[Jb F,Jd]),_,_,rfl,r,_,_,rfl,rw_.mono (up ob),rfl⟩
          obtain⟨kvs,w1,rfl,rfl⟩:=hl;obtain⟨o,I2⟩:=rW I' (l:=l) (kvs:=kvs) (by rw[Jb (Ne.symm F)];exact sm _ _ w1);exact⟨.ref g,σ',_,I2,rv,fin _ ⟨l,_,rfl,⟨kvs,⟨o,Jd⟩,rfl,rfl⟩,rr _⟩⟩
       ·exact h.elim
   |_=>exact h.elim
end
end Rd
namespace Rd
open PySem PySem.Spec PyProof.Rows L2 Pu PySem.W
variable{x en qual rn pc cn:Str}{pos p1 p2:Pos}{f fc:Addr}{N cs ps:Ag}{i fi:Nat}{X:Cx}{H:Hp}{s:Ak}{A:Bd}{P:Be}{w:A0}{base:Heap}{p:Px}{st:Stmt}{params:Iu}{body:Expr}{scope:AS}{clos:DG}{nm:A8}{d:DefD}{fd:A7}
structure LamB(mg:Bi)(base:Heap)(c P:Addr):Prop where
 code:CodeHd base c P
 bm:∃bm ob,mg "__builtins__"=So (.ref bm)/\bm≠builtinsNs/\base.get? bm=So ob/\ob.cls=.type "module"/\ob.dict=So builtinsNs/\ob.data=.plain
inductive LamAt(H:Hp)(f:Addr)(params:Iu)(body:Expr)(scope:AS)(q:Str)(clos:DG):Prop where
 |mk (pm:Value) (c:Addr) (ctv:Value) (oc:Obj) (vs:Array Value) (t:Tok):H f=So (.frz (kla_obj "<lambda>" q params body scope clos pm c ctv) (.ext λ_=>True))->H c=So (.frz oc F3)->oc.data=.fields vs->vs[1]? =So (.str q t)->LamAt H f params body scope q clos
def Jkf{a b:Int}{c j:Al}(l:AF)(h:TriplesOk l)(e:codeAmong pos (l++[rawInt a,rawInt b,c])=So j):codeAmong pos l=So j\/j=c:=by
 fun_induction TriplesOk l with
 |case1=>
  simp only[tN,codeAmong,rawInt]at e;split at e
  ·cases e;exact .inr rfl
  ·cases e
 |case2 v t o u x rest m=>
  simp only[jB,codeAmong]at e⊢;split at e
  ·rename_i g;rw[if_pos g];exact .inl e
  ·rename_i g;rw[if_neg g];exact m h e
 |case3 l q r=>exact h.elim
section
variable{Y:AV}{Z:Bf}
def Inv.grow{h P:Addr}{ps J:B7}{q:Str}{O t:Tok}{h':Heap}{tk:Nat}{a:Obj}{vs:B7}(I:Bw)(G:H P=So QaT)(hq:ps[0]? =So (.str q O))(U:TriplesOk J.toList)
  (hc:∀pos C,codeAmong pos J.toList=So C->∃(c:Addr)(a:Obj)(vs:B7)(t:Tok),C=.ref c/\H c=So (.frz a F3)/\a.data=.fields vs/\vs[1]? =So bW)
  (E:Heap.ExtBut P Re h') (B:Aa<=h) (y:h'.get? h=So a) (hd:a.data=.fields vs) (hv:vs[1]? =So bW) (l:h'.get? P=So (tabObj (J++#[rawInt Xt,rawInt pos.col,.ref h]))):
  L2.Inv X Y Z (upd H h (.frz a F3)) {s with heap:=h',toks:=tk}:=by
 have hn:H h=No:=I.hok.fresh B;have W:∀b,H b=No->b≠P:=λb e z=>by rw[z,G]at e;cases e
 have j:∀{b u},H b=So u->upd H h (.frz a F3) b=So u:=λe=>by rw[Jb (Je e hn)];exact e
 refine I.un ⟨λb o e n _ _=>E b o (W b n) e,λb o e n _ _=>⟨QcD,E b o (W b n) e⟩,λb o e n _=>?_,λb o e _=>?_,λb xs e=>j e,λb o u e=>j e,λb ps' e=>⟨#[],by rw[j e];simp⟩⟩ λb u e=>?_
 ·rw[Jb (Zn (Zt (Zh e) B))];exact n
 ·by_cases z:b=P
  ·exact⟨_,z▸l⟩
  ·exact⟨o,E b o z e⟩
 ·by_cases z:b=h
  ·subst z;rw[Jd]at e;cases e;exact⟨y,trivial,⟨a,y⟩,λ_ _ _ _=>trivial⟩
  ·rw[Jb z]at e;by_cases M:b=P
   ·subst M;rw[G]at e;cases e;refine⟨q,O,_,hq,l,?_,λm C w=>?_⟩
    ·rw[oO];exact TriplesOk_snoc _ _ _ _ U
    ·rw[oO]at w;rcases Jkf _ U w with w|w
     ·obtain⟨c,L,F,t',e1,e2,e3⟩:=hc m C w;exact⟨c,L,F,t',e1,j e2,e3⟩
     ·exact⟨h,a,vs,t,w,Jd,hd,hv⟩
   ·refine(I.hok b u e).stay (λc v g r=>E c v ?_ r) (λc r=>j r) (λc xs r=>j r) λc o' u' r=>j r;rcases g with rfl|g
    ·exact M
    ·intro z2;rw[z2,G]at g;cases g
def Jpa{M:Model}{E:Au}{Q:Au}{c P:Addr}{ps:B7}{q:Str}{qt:Tok}{fl:Nat}
  (I:Bw) (B:LamB X.mg XC c P) (a:X.env.code=.ref c) (J:H P=So QaT) (hq:ps[0]? =So (.str q qt)) (l:closureFor scope QL=pure clos)
  (h:∀f s' W,L2.Inv X Y Z W s'->Same H W->LamAt W f params body scope q clos->Q A6 s'):
  wpAny M A (makeFunction "<lambda>" q params (.expr body) scope QL [] [] [] pos fl) Q E s:=by
 have hob:ObjOk Xn X.w H Re P QaT:=I.hok P _ J;obtain⟨q',qt',qs,e0,eP,O,cs⟩:=hob;rw[hq]at e0;cases e0;have hg:=I.ok.mod.glob.keeps I.bk;have hgP:mainGlobals≠P:=λz=>by obtain⟨o,es,ep,e,_⟩:=I.ok.mod.glob;have:=(I.bs _ _ e).2;rw[z,J]at this;cases this
 obtain⟨bm,ob,b1,b2,F,b4,b5,b6⟩:=B.bm;have hbP:bm≠P:=λz=>by have:=(I.bs _ _ F).2;rw[z,J]at this;cases this
 have hbG:bm≠mainGlobals:=λz=>by obtain⟨o,es,ep,e,j,_⟩:=I.ok.mod.glob;rw[z,e]at F;cases F;rw[j]at b6;cases b6
 have hb:s.heap.BuiltinsAt X.mg P:=⟨bm,ob,b1,b2,hbG,hbP,I.bk _ _ F,b4,b5,b6⟩;have lay:∀{y:Hp}{s1:Ak}{o:Obj}{tk:Nat}{ho:o.isFreed=Fo},L2.Inv X Y Z y s1->L2.Inv X Y Z QdK {s1 with heap:=s1.heap.push o,toks:=tk}/\Same y QdK:=fun{y s1 o tk ho}J9=>
  ⟨J9.laid SE (Zf _) ⟨Ze _ ho,trivial,⟨_,Ze _ ho⟩,λ_ _ _ _=>trivial⟩,λb u e=>by rw[Jb (Je e (J9.hok.fresh (Zf _)))];exact e⟩
 cases L:codeAmong pos qs.toList with
 |none=>refine kla_makeFunction (mg:=X.mg) l Z8 hg a OB eP O L hgP hb λC g h' tk hx m hlt v U=>?_;obtain⟨c2,oc,vs,t,e2,hoc,j,G⟩:=v;cases e2;have I1:=Inv.grow (tk:=tk) I J hq O cs hx m hoc j G U;have hn:H C=No:=I.hok.fresh m;obtain⟨I2,r⟩:=lay (o:=kla_obj "<lambda>" q params body scope clos ((X.mg "__name__").getD .none) C g) (tk:=tk) (ho:=rfl) I1;refine h _ _ _ I2 (Same.trans (λb u e=>by rw[Jb (Je e hn)];exact e) r) ⟨_,_,_,oc,vs,t,Jd,r _ _ Jd,j,G⟩
 |some cv=>obtain⟨C,oc,vs,t,rfl,e2,j,G⟩:=cs pos cv L;refine kla_makeFunctionHit (mg:=X.mg) l Z8 hg a OB eP O L hb λg h' tk hk hsz=>?_;have I1:L2.Inv X Y Z H {s with heap:=h',toks:=tk}:=I.kept hk;obtain⟨I2,r⟩:=lay (o:=kla_obj "<lambda>" q params body scope clos ((X.mg "__name__").getD .none) C g) (tk:=tk) (ho:=rfl) I1;refine h _ _ _ I2 r ⟨_,_,_,oc,vs,t,Jd,r _ _ e2,j,G⟩
end
structure CtxN(X:Cx)(G:Gw)(N:Ag)(nm:A8):Prop where
 g:gwOf X=G
 hN:X.N=N
 nd:N.Nodup
 vis:∀x,visB nm x=To->Vis Cs x
 glo:∀x,gloB nm x=To->Gl X x
 sto:∀x,locB nm x=To->Loc Cs x/\(X.fn x=To\/X.env.scope.names.lookup x=So .local)
 un:X.A.units+64<cLine
section
variable{U:Ae}{G:Gw}{e a b:Expr}{pa pb:Px}{px apos:Pos}{t:Str}{M:Aq}{H0:Hp}
def CtxN.K(C:EC):X.K=G.K:=by rw[<-C.g];rfl
def CtxN.mg(C:EC):X.mg=G.mg:=by rw[<-C.g];rfl
def Ctx.n(C:Ao):CtxN X G N nm:=⟨C.g,C.hN,C.nd,C.vis,C.glo,C.sto,C.un⟩
def vVN(C:EC)(h:Gz):PE X B0 QJ:=by simp only[chkV,Zd,ZB]at h;obtain⟨j,g⟩:=plainN.d h.2;exact Jqg (by rw[C.hN];exact h.1.1) (C.vis x h.1.2) j g
def tNeN(C:EC)(g:AG)(h:Bp):PT X IT (tT X U Mm):=qG Le g h De
def JrF(C:EC)(o:AG)(l:Bp)(m:noEx pb=To)(q:C9)(g:'б' (attributeBase a "count" QL CH=eval a QL) Ah)(hs:II):
  PE X (.Call (.Attribute a "count" apos) [b] [] pos) (tI X U (.bi .count pa pb)):=JiM Qcg F.type_list_count (λj r h=>by cases j<;>first|rfl|exact absurd rfl (h _)) (Jnp C.un) o l m q g hs
def JrP(C:EC)(o:AG)(l:Bp)(m:noEx pb=To)(q:C9)(g:'б' (attributeBase a "index" QL CH=eval a QL) Ah)(hs:II):
  PE X (.Call (.Attribute a "index" apos) [b] [] pos) (tI X U (.bi .index pa pb)):=JiM Qch F.type_list_index (λj r h=>by cases j<;>first|rfl|exact absurd rfl (h _)) (JnQ C.un) o l m q g hs
def lP(C:EC)(h:ER)(r:BX)(g:'б' BN Ah)(hs:Sa):PS X IS Tp:=by obtain⟨l,o,m⟩:=chkA.at h;obtain⟨j,q⟩:=C.sto x o;exact PS.weak (pG (by rw[C.hN];exact C.nd) (by rw[C.hN];exact l) j (mE r) hs q) λD Z H h=>qW m g h
def xC(C:EC)(I:G.mg "isinstance"=No)(hi:IsaC G t cs)(F:AG)(hg:gloB nm "isinstance"=To)(g:chkG nm t=To)
  (m:'б' (starEach [a,.Name t p2] QL=NB::starEach [.Name t p2] QL) Ah):PE X (.Call Qj [a,.Name t p2] [] pos) (tI X U (.un (.isC cs t) pa)):=by
 obtain⟨u,v,j,L,y⟩:=hi.ex;simp only[chkG,Zd]at g;have J:PE X (.Name t p2) (tC v):=by
  rcases L with z|⟨Y,B,z3⟩
  ·exact JlF (C.glo t g.1) (by rw[C.mg];exact z) j (plainN.d g.2).1
  ·exact Jlq (C.glo t g.1) (by rw[C.mg];exact Y) B j z3 (plainN.d g.2).1
 refine PE.weak (rM (JuC (cs:=cs) (t:=t) j (by rw[C.K];exact y)) CY (by rw[C.mg];exact I) aW (Jq F (Jq J JP rfl) m) Ab Ab m rfl) λZ H Q l=>?_;obtain⟨O,r,h⟩:=l;refine⟨O,r,'Ĝ'.imp λd E v W s j=>?_⟩;exact⟨v,d,rfl,j,E.mono SA λ_ q=>q.mono s⟩
end
structure FnN(P:Be)(w:A0)(K:Aj)(mg:Bi)(base:Heap)(f:Addr)(fd:A7)(ps:Ag)(sp:Sp):Prop where
 len:∀vs H Q E,sp vs H Q E->AA=Aw
 run:∀(A:Bd)(outer:A5)(s:Ak)(H:Hp)(args:Args)(us:AF)(vs:Av)(Q:VK)(E:XK),A.depth+5<recursionLimit->A.units+100<cLine->Env0 P w K mg base A outer s H->BindsTo s fd args (ps.zip us)->Vals vs us->sp vs H Q E->
  codeAny Cf A QbH Te s
section
variable{K:Aj}{mg:Bi}{defs:BW}{k:Nat}{outer:A5}{s1:Ak}{E:XK}
def Jjv{cd:Al}{us:AF}{vs:Av}(S:Ro)(a:FU)(b:AA=Aw)(r:Gg)
  (x:InCallC s Aa (bindL 'Ԭ'.kindOf GW λ_=>No) dE (bindC 'Ԭ'.kindOf GW λ_=>No) s1):
  L2.Inv (cxE B8 P w K mg base N L0 'ϔ' Fo A outer s H E) [] WS H s1:=by have e:Env0 P w K mg base {A with handled:=No} outer s H:=⟨a.frames,a.mod,a.bs,a.bsz,a.funs,a.frf,a.hok,a.bare⟩;have I:=wY (CX:=CXr P w) (E:=E) S rfl e b r x;exact⟨⟨YU,XU,Z8,I.ok.blt,YY,I.ok.inj,I.ok.has,I.ok.cab,(λz=>by cases z),eT a.frames,I.ok.stk,I.ok.exf,I.ok.bs,bR,I.ok.noex,I.ok.exfs,Z7,I.ok.frf⟩,I.os,XA,Yq,XG,Yi,XD,XY,I.pin,Xy,Ys⟩
theorem Jwi(F:D7)(S:Ky)(hd:defs[fi]? =So d)(t:d.slots=Xr)(hp:d.params=Aw)(hpN:Aw<=Xr)
  (B:∀(X:Cx)(A:Bd)(H0:Hp),CtxN X An N 'Š'.names->PSs X Df (tS X BR [] H0 XF)):FnN P w K mg base f fd ps N8:=by
 have Y:∀J,runD defs A4 fi J=if Ac=Yy then Jf (exD BR XF D0)else .sk:=λJ=>by
  simp only[runD,hd]
 obtain⟨oc,od,kV,doc,pm,an,cdv,ct,osl,rfl,lk,hcd⟩:=F.ex
 have len:∀vs H Q E,spI K mg T5 fi vs H Q E->AA=Aw:=λvs H Q E h=>by
  obtain⟨J,r,g⟩:=h
  rw[Y]at g
  split at g
  ·rename_i q
   rw[r.length,q,hp]
  ·exact g.elim
 refine⟨len,λA outer s H args us vs Q E h1 h2 Z hb r U=>?_⟩
 have hl:=len _ _ _ _ U
 have KX:K.In Re:=Z.mod.kin.keeps λb o e=>(Z.bs b o e).1
 have lim:s.heap.NoLimit:=Z.mod.nolimit.keeps λb o e=>(Z.bs b o e).1
 have G:∀y∈ps.zip us,'Š'.names.lookup y.1=So .local\/('Š'.names.lookup y.1=So .cell/\((cellsFrom DF 'Š'.names []).lookup y.1).isSome=To):=λ⟨n,v⟩j=>by
  rcases S.par n (oJ j).1 with q|q
  ·exact .inl q
  ·exact .inr S7
 refine iT Ad aZ rfl S.co S.gen rfl Tq (hb _ _ _ _ ?_)
 refine jT S.kind G λO he s1 x=>?_
 subst he
 refine T4
 have I:L2.Inv T7 [] WS H s1:=Jjv S Z hl r x
 obtain⟨J,rs,g⟩:=U
 rw[Y]at g
 split at g
 ·rename_i q
  have C:CtxN T7 ⟨P,w,K,mg,base,A.deeper Hs⟩ N 'Š'.names:={
   g:=rfl
   hN:=rfl
   nd:=S.nd
   vis:=λy j=>by
    show Vis B1 y
    unfold visB at j
    split at j
    ·rename_i z;exact .inl z
    ·rename_i z;exact .inr Fc
    ·rename_i z;exact .inr Gq
    ·cases j
   glo:=λy j=>by
    show(Ja st).names.lookup y=So .globalImplicit
    unfold gloB at j
    split at j
    ·rename_i z;exact z
    ·cases j
   sto:=λy j=>by
    show Loc B1 y/\(To=To\/_)
    unfold locB at j
    split at j
    ·rename_i z;exact SJ
    ·rename_i z;exact SI
    ·cases j
   un:=by show A.units+3+64<_;lia}
  refine ZL (B _ _ H C [] s1 WS H {nx:=λ_ W=>Q .non W,rt:=Q} I ⟨Jx Yc J,wM t Ad Af rs,?_⟩) (λfl L t=>?_) λe L t=>t
  ·cases q2:exD BR XF D0 with
   |ok r2=>
    rw[q2]at g
    obtain⟨fl,env2⟩:=r2
    cases fl with
    |nx=>exactλl W e' _=>g .non W e'.same rfl
    |rt dd=>exactλv W L r'=>g v W L r'
    |bk=>exact g.elim
    |ct=>exact g.elim
   |ex c=>
    rw[q2]at g
    exactλC2 H2 hm s2 a L F=>hZ rfl F QbM
   |sk=>rw[q2]at g;exact g.elim
  ·have M:∀{l:Bf}{W:Hp}{v:V}{u:Al},L2.Inv T7 [] l W L->RelV v u->Q v W->CE outer P w H s Q u L:=
    fun{l W v u}m rv q=>Vu
   cases fl with
   |ret u=>
    obtain⟨v,l,W,m,rv,q⟩:=t
    exact M m rv q
   |next=>
    obtain⟨l,W,m,q⟩:=t
    exact M (v:=V.non) (u:=Xq) m rfl q
   |brk=>
    obtain⟨_,_,_,q⟩:=t
    exact False.elim q
   |cont=>
    obtain⟨_,_,_,q⟩:=t
    exact False.elim q
 ·exact g.elim
def JnT:FnN P w K mg base f fd ps Uv:=
 ⟨λb H Q E⟨_,_,h⟩=>Z1,λA outer s H a e b Q E _ _ _ _ _⟨_,_,h⟩=>Z1⟩
end
section
variable{Y:AV}{E:Au}{C CRa a:Addr}{np hp:Pos}{je:Nat}{D:Ends}{ex:Expr}{te:TE}
def JkC(ok:X.Ok)(j:X.stack=QL::X.outer)(l:X.env.frame=So AD)(r:X.ex=[])(F:FlyIn EO C a H s)(hgr:Gl X rn)(hmr:X.mg rn=So IF)(hdb:(rn==Xk)=Fo)
  (hexm:PySem.W.exmOne X.K AX IF=So To) (hN:Ex) (hje:X.N[je]? =So en) (G:X.env.scope.names.lookup en=So .local)
  (st:∀E',PE (Cx.mk2 X OA E' Y) ex te)
  (k:∀o,o.cls=.ref C->H a=No->te ('ǀ'.set je (So Ax)) (upd H a G2) D.rt):
  wpAny As X.A (noteFrame Ax QL) (λ_ s2=>wpAny As X.A N4 (λ_ s3=>
   wpAny As X.A VL Lg X.xe s3) X.xe s2) X.xe s:=by
 obtain⟨ps,σ',I,hxx⟩:=F.inv;have hfr:X.A.frames=So Fe:=by rw[<-j];exact ok.frames
 have rest:∀(B:Heap)(L:Al)(h1 h4:Heap),Landed EO H B h1->B.StaysIn h1->L2.Inv EO ps σ' H {s with heap:=h1}->Heap.HeldW B Fe a AX L AD h4->h1.UpToSlots h4->
   wpAny As X.A N4 (λ_ s3=>wpAny As X.A VL Lg X.xe s3) X.xe {s with heap:=h4}:=by
  intro B L h1 h4 W k1 I1 g up;refine wpAny_landsW g λh5 J up5=>?_;have I5:L2.Inv EO [] 'ǀ' H {s with heap:=h5,toks:=Xl}:=Inv.land (X:=Cx.mk1 X E Y) j l r I1 W k1 J.1 (up.trans up5) Xl;obtain⟨ob,hob,hobc⟩:=J.there;refine wpAny_handleBy_cons (codeAny_handlers_test ?_) (by intro q;cases q);refine xG (X:=Cx.mk2 X OA (λ_ _=>True) Y) (Inv.to2 I5 rfl) hgr hmr ?_ hdb;have LT:PySem.W.Looks As h5 (typeOf Ax) AX:=hobc▸(PySem.W.Looks.ld hob).andThen .now;refine PySem.W.Looks.here (PySem.W.exm_one I5.kIn LT hexm) ?_;rw[if_pos rfl];refine codeAny_handlers_suite_as ?_;refine lands_againW J λh6 y up6=>?_;have I6:L2.Inv EO [] 'ǀ' H {s with heap:=h6,toks:=Xl}:=Inv.land (X:=Cx.mk1 X E Y) j l r I1 W k1 y.1 ((up.trans up5).trans up6) Xl;obtain⟨oe,ws,hoe,hoec,hoed,_⟩:=y.first;have h0:H a=No:=by
   cases q:H a with
   |none=>rfl
   |some u=>obtain⟨o,e⟩:=W.tr a u q;rw[y.2.1]at e;cases e
  have LD6:Landed EO H B h6:=⟨W.tr,W.kp,W.pn⟩;have I7:=Inv.know (X:=Cx.mk1 X E Y) I6 h0 hoe y.2.1 LD6 j l r rfl hoed;refine yL (X:=Cx.mk1 X E Y) (i:=je) (v:=.ref a) I7 hN hje (.inl G) rfl (λs7 I8=>?_) (.inr G);refine ZL (qI (lE (pos:=p2) (st _)) [] s7 _ _ ⟨λ_ _=>False,D.rt,λ_ _=>False,λ_ _=>False⟩ (Inv.to2 I8 rfl) (k oe hoec h0)) (λf s9 q=>?_) λ_ _ z=>z;cases f with
  |brk=>obtain⟨_,_,_,q⟩:=q;exact q.elim
  |cont=>obtain⟨_,_,_,q⟩:=q;exact q.elim
  |next=>obtain⟨_,_,_,q⟩:=q;exact q.elim
  |ret u=>
   obtain⟨v,σ9,H9,I10,rv,q⟩:=q;have I11:=Inv.of2 I10 ok;obtain⟨m,t,hm⟩:=I11.loc;refine wpAny_nameGoes_keeps G t (by rw[ok.kind];rfl) λh' v' hn' hs=>?_;refine⟨v,List.replicate Qbr No,H9,Inv.locals I11 hs hn' Af (λi x w e1 e2 e3=>?_),rv,q⟩;rw[uJ]at e2;split at e2<;>cases e2
 rcases hxx with⟨h,vs,hm,U⟩|⟨B,L,flv,fl,tr,kp,pn⟩
 ·have hin:∀O∈(QL::X.outer),∀b,O.frame=So b->b∈frs Fe:=λO he b Z=>ZX.mpr ⟨O,he,Z⟩;have hk:(PySem.W.hideAll h (frs Fe)).StaysIn h:=λb o q=>qN _ q;have hstk:h.FunFrames XC Fe:=by rw[<-j];exact U.stack
  refine JdV hfr l hk (PySem.W.funFrames_hide hstk hin) hm λh' L g up=>?_;have M:frs 'Ձ'.stack=frs Fe:=by rw[<-j]
  refine rest _ L h h' ⟨λb u e=>?_,λb o Z t=>RF,λp hp=>?_⟩ hk U g ((sS hm.keeps).trans up)
  ·obtain⟨o,ho⟩:=HOk.has U.hok e;exact⟨o,rD _ ho λz=>by rw[U.stkFree b (by rw[M];exact z)]at e;cases e⟩
  ·rw[M]at t;refine rD _ (U.base.keep b o Z h0 (λz=>t ?_) (by show b∉X.ex;rw[r];simp)) t;exact ZX.mpr (by obtain⟨e,he,hf⟩:=ZX.mp z;exact⟨e,.tail _ he,hf⟩)
  ·rw[M]at t;obtain⟨o',e⟩:=U.base.there b o Z (by show b∉X.ex;rw[r];simp);exact⟨o',rD _ e t⟩
  ·obtain⟨q1,q2,q3,q4,_⟩:=U.pin p cB;refine rD _ q1 λz=>?_;unfold frs at z;rw[lC,l]at z;rcases Zg.mp z with e|z
   ·exact q3 e
   ·exact q4 z
 ·have fl':jV B Fe a AX L flv Re:=by rw[<-j];exact fl
  exact zY hfr l fl' λh' g up=>rest B L Re h' ⟨tr,λb o Z t=>kp b o Z t (by show b∉X.ex;rw[r];simp),pn⟩ fl.1 I g up
def tDeed(X:Cx)(i:Nat):TE:=λZ H Q=>∃b,Z[i]? =So (So Eu)/\∀Y s,L2.Inv X Y Z H s->FnAt b Re/\codeAny As X.A (.call Eu Fv) (CR Kx Xp Xn X.w H s Q (λe _ g=>∀C,e=.ref C->XE X C g)) s
def JsR(G:X.N[i]? =So x)(hv:Vis Cs x)(U:Gi)(t:Fg):PE X (.Call Ga [] [] pos) (tDeed X i):=by
 rintro Y s Z H Q I⟨g,h0,h⟩;refine eG (thn (nE G hv U t Y s Z H (λv j=>v=.ref g/\j=H) I ⟨_,h0,rfl,rfl⟩) λu y l=>?_);obtain⟨w,j,m,o,O,L⟩:=l;subst O L;obtain rfl:u=Value.ref g:=o;obtain⟨J,B⟩:=h Y y m;refine callWith_F0 J (sF (mC B λr z b=>?_));cases r with
 |error e=>obtain⟨a,C,W,rfl,F,hE⟩:=pM m (show CXr Xn X.w Xp j y (λq _ M=>∀C,q=.ref C->XE X C M) e z from b);exact hE C rfl a z F
 |ok g=>
  cases g with
  |ret u=>exact m.after b
  |next=>exact False.elim b
  |brk=>exact False.elim b
  |cont=>exact False.elim b
end
section
variable{fdc:A7}{U:Ae}{je:Nat}
def Jpx(G:FnN Xn X.w X.K X.mg XC fc fdc [pc] Oz)(h1:X.A.depth+5<recursionLimit)(L:X.A.units+100<cLine)(hg:Gl X cn)(J:X.mg cn=So Iz)(E:PySem.W.keepIn X.K Iz=To)(B:Binds X.K fdc [pc] [])
  (q:(cn==Xk)=Fo) (z:X.N[je]? =So en) (hv:Vis Cs en) (hd:(en==Xk)=Fo) (t:(en==Xj)=Fo):
  PE X (.Call (.Name cn p1) [.Name en p2] [] pos) (λZ H Q=>∃v,Z[je]? =So Bj/\spI X.K X.mg U fi [v] H Q λ_ _ _=>False):=by
 rintro Y s Z H Q I⟨v,h0,h⟩;refine eG (xG I hg J ?_ q);refine PySem.W.callWith_K (h₀:=XC) YF E (thn ((Jq (nE z hv hd t) JP rfl) pos Y s Z H (λy l=>y=[v]/\l=H) I ⟨v,h0,rfl,rfl⟩) λm o⟨y,l,g,r,e1,M⟩=>⟨g.kIn,?_⟩) rfl rfl;subst e1 M;have hl:(m++[]).length=[pc].length:=by have:=Xz;simpa using this.symm
 have j:=B o m g.kIn hl;rw[xD]at j;refine sF (mC (G.run X.A Xp o l ⟨m,[]⟩ m [v] Q Hg h1 L g.env0 j r h) λr O b=>?_);cases r with
 |error e=>obtain⟨a,C,W,rfl,F,hE⟩:=pM g (show CXr Xn X.w Xp l o Hg e O from b);exact hE.elim
 |ok fl=>
  cases fl with
  |ret u=>exact g.after b
  |next=>exact False.elim b
  |brk=>exact False.elim b
  |cont=>exact False.elim b
end
structure ToldS(st:Stmt)(dn en rn cn:Str):Prop where
 body:∃p1 p2 p3 np p4 p5 p6 p7 hp pos,Jl st=[.Try Wi WW [] [] pos]
 sc:FnScope QcC [dn] B1
 ld:'Š'.names.lookup dn=So .local
 le:'Š'.names.lookup en=So .local
 lr:'Š'.names.lookup rn=So .globalImplicit
 lc:'Š'.names.lookup cn=So .globalImplicit
 pl:(plainN dn&&plainN en&&plainN rn&&plainN cn)=To
inductive LamXe(X:Cx):Prop where
 |mk (c P:Addr) (ps:Array Value) (qt:Tok) (h:X.env.code=.ref c/\LamB X.mg X.base c P/\X.H₀ P=So (.tbl ps)/\ps[0]? =So (.str (X.env.qual++"<lambda>") qt)):LamXe X
structure LamX(X:Cx):Prop where
 ex:LamXe X
inductive Tolde(G:Gw)(call:Ae)(x:Str)(fi:Nat)(cs:Ag):Prop where
 |mk (f:Addr) (fd:FuncData) (qual:Str) (st:Stmt) (dn en rn cn:Str) (CRa fc:Addr) (fdc:FuncData) (pc:Str) (h:Fun G.K x qual st f fd/\ToldS st dn en rn cn/\Binds G.K fd [dn] []/\G.mg x=So (.ref f)/\G.mg rn=So (.ref CRa)/\
  (∀c∈cs,∃C,PySem.W.nsIn G.K mainGlobals c=So Bo/\G.mg c=So AX/\PySem.W.exmOne G.K AX IF=So To)/\FnN G.prog G.w G.K G.mg G.base fc fdc [pc] (spI G.K G.mg call fi)/\G.mg cn=So (.ref fc)/\PySem.W.keepIn G.K Iz=To/\Binds G.K fdc [pc] []):Tolde G call x fi cs
structure Told(G:Gw)(U:Ae)(x:Str)(fi:Nat)(cs:Ag):Prop where
 ex:Tolde G U x fi cs
def lamB (N:Ag) (nm:A8) (M:Aq) (a:AS):Bool:=
 (a.kind==.function)&&!a.isCoroutine&&!a.isGenerator&&a.names.all (λy=>!(y.2==.cell)&&(!(y.2==.free)||celB nm y.1))&&
  (List.range Xr).all λi=>M.contains i||(match N[i]? with|some x=>a.names.lookup x==So .free|none=>To)
noncomputable def fM (M:Aq) (Z:Bf):L2.St:=Z.mapIdx λi o=>if i∈M then No else o
def JjX{M:Aq}{Z:Bf}{v:V}(h:(fM M Z)[i]? =So Bj):i∉M/\Z[i]? =So Bj:=by
 unfold fM at h;rw[List.getElem?_mapIdx]at h;cases q:Z[i]? with
 |none=>rw[q]at h;cases h
 |some o=>
  rw[q]at h;simp only[wF,ZP]at h;split at h
  ·cases h
  ·rename_i a;subst h;exact⟨a,rfl⟩
def JjV(h:celB nm x=To):visB nm x=To:=by
 unfold celB at h;unfold visB;split at h
 ·rename_i z;rw[z]
 ·rename_i z;rw[z]
 ·cases h
section
variable{U:Ae}{G:Gw}{sc:AS}{lp:Pos}{M:Aq}{j:Nat}
def Jtz(L:Y8)(e:closureFor sc QL=pure clos)(b:R8):
  PE X (.Lambda params body sc lp) (λZ H Q=>∀f W,Same H W->LamAt W f params body sc L6 clos->Q A6 W):=by
 intro Y s Z H Q I h;obtain⟨c,P,ps,l,t,y,q,g⟩:=L.ex;obtain⟨a,m⟩:=I.base.tbls P ps q;have u:0<ps.size:=(iK.mp g).1;have o:(ps++a)[0]? =So (.str L6 l):=by rw[Array.getElem?_append_left u];exact g
 exact kla_eval b (Jpa I y t m o e λf z W r sm v=>⟨.ref f,W,r,rfl,h f W sm v⟩)
end
def TbH(H:Hp)(b:Addr)(q:Str):Prop:=∃(ps:B7)(a:Tok),H b=So (.tbl ps)/\ps[0]? =So (.str q a)
section
variable{K:Aj}{mg:Bi}{defs:BW}{k j:Nat}{c Pt:Addr}
def foN{k:Nat}{b:Sx}{g:A7}(D:Ol)
  (e:∀{X:Cx}{A:Bd}{a:Hp},CtxN X An N 'Š'.names->PSs X Df (tS X BR [] a b))
  (o:'б' (defs[i]? =So d) Ah) (hb:'б' (XF=b) Ah) (h:Wa):
  FnN P w K mg base f g ps RB:=by simp only[Zd,ZB,Zv]at h;obtain⟨⟨⟨m,q⟩,r⟩,l⟩:=h;subst hb;exact Jwi D.F (fE m) o q r l λX A a C=>e C
def JrW{U:Ae}{e:Stmt}{dn:Str}{g b:A7}(D:Def1 K mg x st [dn] f g)(T:NI)(l:Takes An rn cs)(a:Def1 K mg cn e [pc] fc b)(h:FnN P w K mg base fc b [pc] (spI K mg U i)):
  Told An U x i cs:=by obtain⟨CR,m,o⟩:=l.ex;exact⟨f,g,x,st,dn,en,rn,cn,CR,fc,b,pc,D.F,T,D.b,D.g,m,o,h,a.g,a.F.kp,a.b⟩
end
end Rd
namespace Rd
open PySem PySem.Spec PyProof.Rows L2 Pu
variable{X:Cx}{N ns ps:Ag}{pos px apos p1 py cpos pt pt2 np:Pos}{H0 H W H1:Hp}{x f m y cn qual:Str}{G:Gw}{nm:A8}{bc:AI}{K:Aj}{i fi k j kt k2 nt:Nat}{e b ek c:Expr}{M ts:Aq}{Z:Bf}{w:Bool}{a C:Addr}{O:Fm}{v:V}{d:D}{P:Be}{mg:Bi}{base:Heap}{α:Type}{pb:Bx}{es:Cy}{pk:Px}{st:Stmt}{fd:A7}{xs:Av}
def JsC{O:PySem.Env}{a:Expr}(h:O.kindOf x≠So .local):swappedStores Nm MY O=pure No:=by
 have g:(O.kindOf x==So .local)=Fo:=by simpa using h
 unfold swappedStores;simp only[lC,g,uB,Zo,ZN,List.filterMap_nil];cases q:(O.kindOf y==So NameKind.local&&py.line==(Option.map (λx=>x.pos.line) [Expr.Name x px,Expr.Name y py].head?).getD 0)<;>simp only[q,Zo,ZN,if_true]<;>(split<;>first|rfl|(split<;>rfl))
noncomputable def plK:HO->Bool
 |.lst _=>To
 |.tup _=>To
 |.frz _ _=>To
 |_=>Fo
def SameP(H W:Hp):Prop:=∀a o,H a=So o->plK o=To->W a=So o
def PlO(H:Hp):Prop:=∀a o,H a=So o->plK o=To
def pl (H:Hp):Hp:=λa=>match H a with
 |some o=>if plK o then So o else No
 |none=>No
section
variable{K:Aj}{H W H1 H2 H0:Hp}{L:A1}
def SameP.of(s:B9):SameP H W:=λa o h _=>s a o h
def SameP.refl:SameP H H:=λ_ _ h _=>h
def SameP.trans(a:Ge)(b:SameP H1 H2):SameP H H2:=λx o h p=>b x o (a x o h p) p
def SameP.hid(s:CS):SameP Bc GF:=λa o h p=>by
 obtain⟨n,e⟩:=fH h
 rw[Jt n];exact s a o e p
def PlO.same(p:A3)(s:Same H0 H)(t:CS):Same H0 W:=λa o h=>t a o (s a o h) (p a o h)
def Jmc{o:HO}(h:pl H a=So o):H a=So o/\plK o=To:=by
 unfold pl at h;split at h
 ·rename_i u e;split at h
  ·rename_i q;cases h;exact⟨e,q⟩
  ·cases h
 ·cases h
def Jlr:Same (pl H) H:=λa o h=>(Jmc h).1
def JqL:PlO (pl H):=λa o h=>(Jmc h).2
def JsM(t:Same (pl H) W):SameP H W:=λa o h p=>t a o (by unfold pl;rw[h];simp[p])
def SameP.sqL(s:CS)(h:bH):SqL K W a xs:=by
 rcases h with(h|⟨o,h⟩)|h
 ·exact .inl (.inl QdL)
 ·exact .inl (.inr ⟨o,s _ _ h rfl⟩)
 ·exact .inr h
def SameP.sqT(s:CS)(h:bI):SqT K W a xs:=by
 rcases h with h|h
 ·exact .inl QdL
 ·exact .inr h
mutual
def Rep.plain(e:CS):∀(d:D){v:V},Jh d=To->Rep K H d v->Rep K W d v
 |.non,_,_,h=>h
 |.bl _,_,_,h=>h
 |.int _,_,_,h=>h
 |.str _,_,_,h=>h
 |.tup J,_,p,⟨a,xs,e1,h1,h2⟩=>⟨a,xs,e1,e.sqT h1,Reps.plain e J (by simpa[Jh]using p) h2⟩
 |.lst J,_,p,⟨a,xs,e1,h1,h2⟩=>⟨a,xs,e1,e.sqL h1,Reps.plain e J (by simpa[Jh]using p) h2⟩
 |.dct t z ks vs,_,p,⟨a,xs,e1,h1,h2⟩=>by
  simp only[Jh,Zd]at p
  obtain⟨rfl,p⟩:=p
  refine⟨a,xs,e1,?_,Reps.plain e vs p h2⟩
  cases t<;>obtain⟨g,⟨o,q⟩,l⟩:=h1
  ·exact Up
  ·exact Up
 |.obj _ _ _,_,p,_=>by simp[Jh]at p
 |.mls _ _,_,p,_=>by simp[Jh]at p
 |.adr _,_,_,h=>h
 |.exc c,_,_,⟨a,o,C,e1,h1,h2⟩=>⟨a,o,C,e1,e _ _ h1 rfl,h2⟩
 |.fn x _,_,_,h=>h
def Reps.plain(e:CS):∀(J:Am){xs:Av},Jc J=To->Reps K H J xs->Reps K W J xs
 |[],_,_,h=>h
 |d::J,_,p,⟨x,r,e1,h1,h2⟩=>by
  simp only[Jc,Zd]at p
  exact⟨x,r,e1,Rep.plain e d p.1 h1,Reps.plain e J p.2 h2⟩
end
end
def JtH{s:Bm}(h:i∉M):Ow M Lu Z=Ow M O Z:=zX λj g=>by
 unfold owA
 rw[Zr (λz:i=j=>h (z▸g))]
def EnvOk.objN(e:C7){A:D}(hi:i∉M)(F:plE CZ=To)(s:CS)(s0:Same H0 W)(Y:Rep K cG A v):EnvOk K M H0 W Xi (O.set i (So A))where
 same:=s0
 len:=by rw[iC,iC];exact e.len
 read:=λj d q h=>by
  rw[fC hi]
  rcases JB h with⟨rfl,hd,hl⟩|⟨o,h⟩
  ·cases hd;exact⟨v,ZU (by rw[e.len];exact hl),Y⟩
  ·obtain⟨u,r,g⟩:=e.read j d q h
   rw[Zr (Ne.symm o)]
   exact⟨u,r,Rep.plain s.hid d (jW F h o) g⟩
 own:=λj d q h=>by
  rw[fC hi]
  rcases JB h with⟨rfl,_,_⟩|⟨o,h⟩
  ·exact absurd q hi
  ·obtain⟨l,r,h0,g⟩:=e.own j d q h
   have p:=jW F h o
   rw[Zr (Ne.symm o)]
   refine⟨l,r,h0,?_⟩
   cases d with
   |lst J=>obtain⟨xs,L,q2⟩:=g;exact⟨xs,s _ _ L rfl,Reps.plain s.hid J (by simpa[Jh]using p) q2⟩
   |dct t z ks vs=>
    cases z with
    |true=>first|exact g.elim|(obtain⟨B,_⟩:=g;cases B)
    |false=>simp[Jh]at p
   |_=>exact g.elim
 apart:=λj k l d1 U q E o r g B=>by
  have n1:j≠i:=λz=>hi (z▸q)
  have I:k≠i:=λz=>hi (z▸E)
  rw[Zr '买']at r B
  rw[Zr (Ne.symm I)]at g⊢
  exact e.apart j k l d1 U q E o r g B
def JqN:∀{l:List α}{i:Nat}{a:α},l[i]? =So a->l.set i a=l
 |[],_,_,h=>by simp at h
 |b::l,0,a,h=>by simp at h;simp[h]
 |b::l,i+1,a,h=>by simp only[List.set_cons_succ];rw[JqN (by simpa using h)]
def EnvOk.obj(e:C7){g:D}(hi:i∉M)(l:plE CZ=To)(s:CS)(s0:Same H0 W)(o:Z[i]? =So Bj)(h:Rep K cG g v):EnvOk K M H0 W Z Rl:=by have:=e.objN hi l s s0 h;rw[JqN o]at this;exact this
def OutX(X:Cx)(M:Aq)(H0:Hp)(Z:Bf)(L:A1)(H:Hp)(Q:VK)(d:D)(O:Fm):Prop:=∀v W,EnvOk X.K M H0 W Z O->Ow M O Z=L->SameP H W->Rep X.K W d v->Q v W
def EX(X:Cx)(M:Aq)(H0:Hp)(Z:Bf)(c:Str)(O:Fm):Prop:=∀C W,X.mg c=So AX->EnvOk X.K M H0 W Z O->XE X C W
inductive tB(X:Cx)(call:Ae)(bc:AI)(M:Aq)(H0:Hp)(p:Bx)(σ:Bf)(H:Hp)(Q:VK):Prop where
 |mk:∀env,EnvOk X.K M H0 H σ env->(evB call bc p env).Good (OutX X M H0 σ (Ow M env σ) H Q) (EX X M H0 σ)->tB X call bc M H0 p σ H Q
inductive tTB(X:Cx)(call:Ae)(bc:AI)(M:Aq)(H0:Hp)(p:Bx)(σ:Bf)(H:Hp)(Q:L9):Prop where
 |mk:∀env,EnvOk X.K M H0 H σ env->((evB call bc p env).Good (λd env'=>∃b,d=.bl b/\∀H',EnvOk X.K M H0 H' σ env'->Ow M env' σ=Ow M env σ->SameP H H'->Q b H') (EX X M H0 σ))->tTB X call bc M H0 p σ H Q
def fW(e:EnvOk X.K M H0 H Z O){r:Rs D}{P:D->Fm->Prop}{g:D->Prop}(h:(Rx.of O r).Good P (EX X M H0 Z))(o:∀d,P d O->g d):r.Good g BE:=by
 cases r with
 |ok d=>exact o d h
 |ex c=>exactλC W l s=>h C W l Nf
 |sk=>exact h
section
variable{U:Ae}{a:Expr}{p:Px}{pa:Bx}
def JqE(l:BX):PE X e (tB X U bc M H0 YI):=
 PE.weak l λZ H Q⟨O,e,h⟩=>⟨O,X4,fW e h λd g v W s r=>g v W Nf rfl 'Ǽ' r⟩
def tTB.asTest{Q:D3}(h:tTB X U bc M H0 pa Z H Q):tB X U bc M H0 pa Z H λx W=>∃k,x=.bl k/\Q k W:=by obtain⟨O,e,h⟩:=h;refine⟨O,e,h.imp (λd g⟨b,t,q⟩v W l o s r=>?_) λ_ _ z=>z⟩;subst t;exact⟨b,r,q W l o s⟩
def tB.two{o:O2}{Q:VK}(h:tB X U bc M H0 L7 Z H Q):tOp Kh Sv MN Z H Q:=by
 obtain⟨O,e,h⟩:=h;refine⟨O,e,(Rx.gB.mp h).imp (λE g hx x H1 e1 q F I=>?_) λ_ _ z=>z⟩;refine⟨g,e1,(Rx.gB.mp hx).imp (λJ A l y H2 u t B L=>?_) λ_ _ z=>z⟩;split at l
 ·rename_i hp;exact⟨E,J,Rep.plain B E hp I,L,fW u l λd Y v W s r=>Y v W (u.grow s) (t.trans q) ((F.trans B).trans 'Ǽ') r⟩
 ·exact l.elim
def JqU{o:O2}{op:aX}(ho:QP)(l:PE X a Sv)(g:PE X b MN)(q:FQ):PT X FP (tTB X U bc M H0 L7):=
 PT.weak (JlV ho l g q) λZ H Q h=>h.asTest.two
def vL{p:Px}(l:PT X a b9):PT X a (tTB X U bc M H0 YI):=
 PT.weak l λZ H Q⟨O,e,h⟩=>⟨O,X4,fW e h λd⟨b,g,q⟩=>⟨b,g,λW s=>q W Nf rfl 'Ǽ'⟩⟩
def tTB.or{Q:D3}(h:tTB X U bc M H0 Lr Z H Q):tOr MR SN Z H Q:=by
 obtain⟨O,e,h⟩:=h;refine⟨O,e,(Rx.gB.mp h).imp (λd g o=>?_) λ_ _ z=>z⟩;cases d with
 |bl k=>
  refine⟨k,rfl,λH1 A l t=>?_⟩;cases k with
  |true=>obtain⟨b,s,q⟩:=o;cases s;exact iteT (q H1 A l t)
  |false=>exact iteF ⟨g,A,o.imp (λd u⟨b,s,q⟩=>⟨b,s,λF B r E=>q F B (r.trans l) (t.trans E)⟩) λ_ _ z=>z⟩
 |_=>exact o.elim
def Jrj{op}(g:PT X a MR):PW X MU MR:=by
 cases op
 ·exact JlO g
 ·exact Jqv g
def JtD{rest:Cy}(l:PT X a MR)(g:PW X (.BoolOp .Or (b::rest) pos) SN):PW X (.BoolOp .Or (a::b::rest) pos) (tTB X U bc M H0 Lr):=
 PW.weak (Jto l g) λZ H Q h=>h.or
end
def spB(K:Aj)(mg:Bi)(bc:AI)(fi:Nat):Sp:=λl H Q E=>∃a h st J,l=.ref a::h/\Rep K H st Ax/\Reps K H J h/\Jc J=To/\
 (bc fi st J).Good (λd g=>∀v W,SameP H W->Rep K W g Ax->Rep K W d v->Q v W) (λc g=>∀C W,mg c=So AX->SameP H W->Rep K W g Ax->E AX No W)
inductive CalleeBe(G:Gw)(bc:AI)(fi:Nat)(c m:Str):Prop where
 |mk (C:Addr) (kk:Nat) (f:Addr) (fd:FuncData) (ps:List Str) (h:PySem.W.nsIn G.K mainGlobals c=So (So (.ref C))/\Cls G.K C/\Meth G.K C m f/\FnOk G.prog G.w G.K G.mg G.base (CXr G.prog G.w) kk f fd ps (spB G.K G.mg bc fi)/\Room kk G.A.in1.in1/\Binds G.K fd ps []):CalleeBe G bc fi c m
structure CalleeB(G:Gw)(bc:AI)(fi:Nat)(c m:Str):Prop where
 ex:CalleeBe G bc fi c m
inductive tC(X:Cx)(call:Ae)(bc:AI)(f i:Nat)(cn m:Str)(p:Px)(σ:Bf)(H:Hp)(Q:VK):Prop where
 |mk:∀env a ns fs,ReadOk X.K H σ env->env[i]? =So (So (.obj a ns fs))->clsN ns=cn->ns.contains m=Fo->((evD call p env).Good (λd=>∃ds,d=.lst ds/\Jc ds=To/\(bc f Cn ds).Good (λd st'=>∀v H',SameP H H'->Rep X.K H' st' Ax->Rep X.K H' d v->Q v H') (λc st'=>∀C H',X.mg c=So AX->SameP H H'->Rep X.K H' st' Ax->XE X C H')) BE)->tC X call bc f i cn m p σ H Q
def pX:∀{ns:Ag}{xs:List α},ns.contains m=Fo->'ȥ'.lookup m=No
 |[],_,_=>by simp
 |n::ns,[],_=>by simp
 |n::ns,x::xs,h=>by
  simp only[nN,ZZ]at h
  simp only[zE,Zk,h.1]
  exact pX h.2
section
variable{U:Ae}{p:Px}
def Jsq{C f:Addr}{kk:Nat}{fd:A7}{ps:Ag}{t:TA}(Cc:Ao)(hC:PySem.W.nsIn G.K mainGlobals cn=So Bo){Z:Bf}{H:Hp}{Q:VK}(h:tC X U bc fi i cn m p Z H Q)
  (ht:∀O Q',ReadOk X.K H Z O->'Ƥ'.Good (λd=>∃J,d=.lst J/\∀l W,Same H W->Reps X.K W J l->Q' l W) BE->t Z H Q'):
  nP C m (spB X.K X.mg bc fi) [] (λF _ W=>∀C,F=.ref C->XE X C W) (λZ H Q=>∃v,Z[i]? =So Bj/\Q v H) t Z H Q:=by
 obtain⟨O,a,ns,fs,r,he,B,hm,h⟩:=h;obtain⟨v,hv,L⟩:=r i _ he;obtain⟨e1,C',dx,xs,h1,Y,h3,h4⟩:=id L;subst e1;rw[B,Cc.K,hC]at Y;cases Y;refine⟨_,hv,a,dx,_,rfl,h1,pX hm,ht O _ r (h.imp λd⟨J,ed,I,g⟩=>⟨J,ed,λl W s rs=>?_⟩)⟩;refine⟨a,l++[],_,J,rfl,L.mono s,by rw[xD];exact rs,I,?_⟩;cases q:bc fi Cn J with
 |ok d E=>rw[q]at g;exactλv o A u rd=>g v o ('Ǽ'.trans A) u rd
 |ex c E=>rw[q]at g;exactλC2 o z A u C3 e3=>by cases e3;exact g C2 o z ('Ǽ'.trans A) u
 |sk=>rw[q]at g;exact g
def yH:oZ Kx X (λg _ W=>∀C,g=.ref C->XE X C W):=λY Z H s e h I l=>by
 obtain⟨a,C,W,rfl,F,hE⟩:=pM I l
 exact hE C rfl a h F
def Jmm{pl:CQ}(l:Ao)(t:NH)(z:visB nm x=To)(hi:N[i]? =So x)(s:Gi)(o:Fg)(B:Ec)
  (q:Co) (hpl:Dd)
  (ht:'б' (eval EU QL=(do
   let ov<-eval Ga QL
   standAt XS
   let(f,first)<-holding [ov] D6
   callWith pos f first 'ž' D5)) Ah):PE X EU S4:=by obtain⟨C,kk,f,fd,ps,I,L,u,F,E,A⟩:=t.ex;have J:=l.g;subst J;exact PE.weak (Jmy (nE (by rw[l.hN];exact hi) (l.vis x z) s o) L u F (Room.out E) A .nil yH B q hpl ht) λZ H Q h=>Jsq (f:=f) (kk:=kk) (fd:=fd) (ps:=ps) l I h λO Y r g=>⟨O,r,g⟩
end
section
variable{U:Ae}{p:Px}
def JrV(F:UI)(E:A3)(Y:CM):PE X e VE:=by
 refine PE.weak F λZ H Q B=>?_;obtain⟨O,e,h⟩:=B;simp only[evB]at h;split at h
 ·rename_i a t fs q;split at h
  ·rename_i A;subst A;refine⟨O,a,t,fs,X4,q,rfl,Y,?_⟩;obtain⟨v,I,L⟩:=e.read i _ Af q;obtain rfl:v=.ref a:=L.1;have o:∀{g:D}{W:Hp},plE CZ=To->SameP H W->Rep X.K W g Ax->EnvOk X.K [] H0 W Z Rl:=λhp s r=>e.obj Af hp s (E.same Yb s) I (by show Rep X.K IE _ _;rw[JH];exact r);cases z:evD U p O with
   |sk=>rw[z]at h;exact h.elim
   |ex c=>rw[z]at h;simp only[if_true]at h;exactλC W l s=>h C W l Nf
   |ok d=>
    rw[z]at h;cases d with
    |lst J=>
     simp only at h;split at h
     ·rename_i u;simp only[Zd]at u;refine⟨J,rfl,u.2,?_⟩;cases y:bc fi (.obj a t fs) J with
      |sk=>rw[y]at h;exact h.elim
      |ok d g=>rw[y]at h;exactλv W s r rd=>h v W (o u.1 s r) rfl s rd
      |ex c g=>rw[y]at h;exactλC W l s r=>h C W l (o u.1 s r)
     ·exact h.elim
    |_=>exact h.elim
  ·exact h.elim
 ·exact h.elim
def Jvy{L:A1}(g:∀a∈L,H1 a=No):Same H1 FD:=λb o h=>by
 have:b∉L:=λl=>by rw[g b l]at h;cases h
 rw[JQ this];exact h
def Jpd(he:UI)(h0:A3)(hm:CM)(hi:i∉M)(E:BN):PE X e Vz:=by
 rintro Y s Z H Q I⟨O,e,h⟩;simp only[evB]at h;split at h
 ·rename_i a g fs q;split at h
  ·rename_i B;subst B;obtain⟨v0,hv,hr⟩:=e.read i _ hi q;obtain rfl:v0=.ref a:=hr.1;obtain⟨ps,e1,e2,I'⟩:=Inv.hide I e.ows.c;cases z:evD U p O with
   |sk=>rw[z]at h;exact h.elim
   |ex c=>rw[z]at h;exact h.elim
   |ok d=>
    rw[z]at h;cases d with
    |lst J=>
     simp only at h;split at h
     ·rename_i t;simp only[Zd]at t;cases y:bc fi (.obj a g fs) J with
      |sk=>rw[y]at h;exact h.elim
      |ex c l=>rw[y]at h;exact h.elim
      |ok d l=>
       rw[y]at h;refine ZL (he (ps++Y) s Z Di (λv H1=>SameP Di H1/\Rep X.K H1 l Ax/\Rep X.K H1 d v) I' ⟨JD M 0 O,a,g,fs,Qds,by rw[kJ,q];simp[hi],rfl,hm,?_⟩) (λu s1⟨v,H1,I1,rv,sm,L,r2⟩=>?_) λ_ _ z=>z
       ·rw[Jv U O E,z];refine⟨J,rfl,t.2,?_⟩;rw[y];exactλv W s r rd=>⟨s,r,rd⟩
       ·obtain⟨F,I2⟩:=Inv.unhide I e.ows.c e1 e2 (λb xs w=>sm b _ w rfl) I1;have sp:SameP H (uni BQ H H1):=λb o w pk=>by
         by_cases A:b∈Ow M O Z
         ·rw[hJ A];exact w
         ·rw[JQ A];exact sm b o (by rw[Jt A];exact w) pk
        exact⟨v,_,I2,rv,h v _ (e.obj hi t.1 sp (h0.same Yb sp) hv (by rw[uL F];exact L)) (JtH hi) sp (r2.mono (Jvy F))⟩
     ·exact h.elim
    |_=>exact h.elim
  ·exact h.elim
 ·exact h.elim
end
structure FzB(L:A1)(H:Hp)(L':A1)(W:Hp):Prop where
 keep:∀a o,H a=So o->plK o=To->a∉L->W a=So o
 own:∀l∈L',l∈L\/∀o,H l=So o->plK o=Fo
def ChB(m:Bool)(L:A1)(H:Hp)(g:A1)(W:Hp):Prop:=FzB L H g W/\(m=Fo->SameP H W)
section
variable{m n:Bool}{L L1 L2:A1}{H2:Hp}
def ChB.of(h:Mj):ChB m L H L1 H1:=⟨⟨λa o e _ g=>h.1.keep a o e g,λl q=>(h.1.own l q).imp id λz o w=>by rw[z]at w;cases w⟩,λz=>SameP.of (h.2 z)⟩
def ChB.sp(h:Ge):ChB m L H L H1:=⟨⟨λa o e p _=>h a o e p,λl g=>.inl g⟩,λ_=>h⟩
def ChB.trans(a:Qd3)(b:ChB n L1 H1 L2 H2):ChB (m||n) L H L2 H2:=by
 refine⟨⟨λc o e p q=>b.1.keep c o (a.1.keep c o e p q) p λg=>?_,λl r=>?_⟩,λh=>?_⟩
 ·rcases a.1.own c g with h|h
  ·exact q h
  ·rw[h o e]at p;cases p
 ·rcases b.1.own l r with h|h
  ·exact a.1.own l h
  ·by_cases g:l∈L
   ·exact .inl g
   ·refine .inr λo e=>?_;cases p:plK o with
    |false=>rfl
    |true=>rw[<-h o (a.1.keep l o e p g),p]
 ·simp only[ZZ]at h;exact(a.2 h.1).trans (b.2 h.2)
def ChB.weak(a:Qd3)(h:n=Fo->m=Fo):ChB n L H L1 H1:=⟨a.1,λq=>a.2 (h q)⟩
end
def OutQ(X:Cx)(w:Bool)(M:Aq)(H0:Hp)(L:A1)(H:Hp)(m:Bool)(D:Ends)(f:Fw)(O:Fm):Prop:=match f with
 |.nx=>∀g W,EnvOk X.K M H0 W g O->ChB m L H cJ W->D.nx g W
 |.rt d=>∀v W,Same H0 W->Rep X.K W d v->(w=To->∃g,EnvOk X.K M H0 W g O)->D.rt v W
 |.bk=>∀g W,EnvOk X.K M H0 W g O->ChB m L H cJ W->D.bk g W
 |.ct=>∀g W,EnvOk X.K M H0 W g O->ChB m L H cJ W->D.ct g W
def EQ(X:Cx)(M:Aq)(H0:Hp)(c:Str)(O:Fm):Prop:=∀C W g,X.mg c=So AX->EnvOk X.K M H0 W g O->XE X C W
inductive tSB(X:Cx)(w:Bool)(call:Ae)(bc:AI)(M:Aq)(H0:Hp)(p:Bs)(D:Ends)(σ:Bf)(H:Hp):Prop where
 |mk:∀env,EnvOk X.K M H0 H σ env->(exO w call bc p env).Good (OutQ X w M H0 (Ow M env σ) H (mutB p) D) (EQ X M H0)->tSB X w call bc M H0 p D σ H
def OutQ.after{L r:A1}{m n k:Bool}{D:Ends}{f:Fw}(h:OutQ X w M H0 L H k D f O)(c:ChB m L H r H1)(u:k=Fo->m=Fo/\n=Fo):OutQ X w M H0 r H1 n D f O:=by
 have s:∀{t:A1}{W:Hp},ChB n r H1 t W->ChB k L H t W:=λz=>(c.trans z).weak λq=>by obtain⟨a,b⟩:=u q;rw[a,b];rfl
 cases f with
 |nx=>exactλg W o l=>h g W o (s l)
 |rt d=>exact h
 |bk=>exactλg W o l=>h g W o (s l)
 |ct=>exactλg W o l=>h g W o (s l)
section
variable{U:Ae}{p:Px}{a b:Bs}{q:Sx}{rest sa sb:BH}
def qF(h:PS X st QbS):PS X st UE:=by
 refine PS.weak h λD Z H⟨O,e,h⟩=>Dj;simp only[exO]at h;cases z:exD U q O with
 |sk=>rw[z]at h;exact h.elim
 |ex c=>rw[z]at h;exact h.elim
 |ok r=>
  rw[z]at h;obtain⟨f,t⟩:=r;cases f with
  |nx=>exactλg W o l=>h g W o GP
  |bk=>exactλg W o l=>h g W o GP
  |ct=>exactλg W o l=>h g W o GP
  |rt d=>
   cases w with
   |true=>exact h.elim
   |false=>exactλv W s r=>h v W s r λz=>by cases z
def zL(h:PSs X rest QbS):PSs X rest UE:=by
 refine PSs.weak h λD Z H⟨O,e,h⟩=>Dj;simp only[exO]at h;cases z:exD U q O with
 |sk=>rw[z]at h;exact h.elim
 |ex c=>rw[z]at h;exact h.elim
 |ok r=>
  rw[z]at h;obtain⟨f,t⟩:=r;cases f with
  |nx=>exactλg W o l=>h g W o GP
  |bk=>exactλg W o l=>h g W o GP
  |ct=>exactλg W o l=>h g W o GP
  |rt d=>
   cases w with
   |true=>exact h.elim
   |false=>exactλv W s r=>h v W s r λz=>by cases z
def eD(h:PS X st MX):PSs X [st] MX:=qI h
def rF(h1:PS X st MX)(t:PSs X rest Pj):PSs X (st::rest) (tSB X w U bc M H0 IG):=by
 refine PSs.weak (JK h1 t) λD Z H⟨O,e,h⟩=>Dj;refine(Rq.gB.mp h).imp (λf l s=>?_) λ_ _ z=>z;have A:mutB IG=Fo->mutB a=Fo:=λq=>(ZZ.mp q).1;cases f with
 |nx=>intro g W r o;refine⟨l,r,s.imp (λB u t=>t.after o λq=>ZZ.mp q) λ_ _ z=>z⟩
 |rt d=>exact s
 |bk=>exactλg W r o=>s g W r (o.weak A)
 |ct=>exactλg W r o=>s g W r (o.weak A)
def mK(u:PT X c SN)(J:PSs X sa MX)(F:PSs X sb Pj):PS X Qah (tSB X w U bc M H0 Il):=by
 refine PS.weak (Jvd u J F) λD Z H⟨O,e,h⟩=>Dj;refine(Rx.good_next.mp h).imp (λd g o=>?_) λc g z C W t A=>z C W Z t A;cases d with
 |bl k=>
  refine⟨k,rfl,λW L E s=>?_⟩;have l:∀{q:Bs},(mutB Il=Fo->mutB q=Fo)->(exO w U bc q g).Good (OutQ X w M H0 BQ H (mutB Il) D) (EQ X M H0)->tSB X w U bc M H0 q D Z W:=λt B=>
   ⟨g,L,B.imp (λf r I=>by rw[E];exact I.after (m:=Fo) (ChB.sp s) λz=>⟨rfl,t z⟩) λ_ _ z=>z⟩
  cases k with
  |true=>exact iteT (l (λz=>(ZZ.mp z).1) o)
  |false=>exact iteF (l (λz=>(ZZ.mp z).2) o)
 |_=>exact o.elim
def gV(u:PE X e MN)(l:swapsWith e No Xt QL=pure Fo):PS X Qdv (tSB X w U bc M H0 (.eff pb)):=by refine PS.weak (sQ u l) λD Z H⟨O,e,h⟩=>Dj;exact(Rx.good_next.mp h).imp (λd g o v W E A s r=>o Z W E (by rw[A];exact ChB.sp s)) λc g z C W B t=>z C W Z B t
def JqH(l:BX):PS X KL (tSB X w U bc M H0 (.ret p)):=by
 refine PS.weak (lE l) λD Z H⟨O,e,h⟩=>FK;simp only[exO]at h;cases z:evD U p O with
 |sk=>rw[z]at h;exact h.elim
 |ex c=>rw[z]at h;exactλC W g s=>h C W Z g Nf
 |ok d=>rw[z]at h;exactλv W s r=>h v W Qa8 r λ_=>⟨Z,e.grow s⟩
def JuK(C:Ao)(hi:N[i]? =So x)(A:locB nm x=To)(u:Tc)(o:Sa):
  PS X IS U2:=by
 obtain⟨E,I⟩:=C.sto x A;refine PS.weak (pG (by rw[C.hN];exact C.nd) (by rw[C.hN];exact hi) E u o I) λD Z H⟨O,e,h⟩=>Dj;refine(Rx.good_next.mp h).imp (λd g l v W F J s r=>?_) λc g z C W B t=>z C W Z B t;split at l
 ·exact l _ W (F.put Af (by show Rep X.K cK d v;rw[JH];exact r)) (ChB.sp s)
 ·exact l.elim
def Jok{cx:Str}{ma:Expr}{l:Px}(r:∀H,PS X R5 (tS X U [] H QdM)):PS X R5 (tSB X w U bc [] H0 QdM):=by
 rintro Y s Z H D I⟨O,e,h⟩;refine r H Y s Z H D I ⟨O,⟨Same.refl H,e.len,e.read,λj d o=>by simp at o,λj _ _ _ _ o=>by simp at o⟩,?_⟩;simp only[exO]at h;simp only[exD];cases z:evD U l O with
 |sk=>rw[z]at h;exact h.elim
 |ex c=>rw[z]at h;exact h.elim
 |ok d=>
  rw[z]at h;simp only[Rs.bo];simp only at h;split at h
  ·rename_i t;rw[if_pos t];exactλC W g s=>h C W Z g Nf
  ·exact h.elim
end
section
variable{X:Cx}{w:Bool}{U:Ae}{bc:AI}{M:Aq}{H0:Hp}{G:Gw}{N:Ag}{nm:A8}{pos:Pos}
theorem JkL{body:Bs}{D:Ends}{J:Fl}{E:It}(e:On)(s1:Ge)
  (wk:∀r W,ChB C5 BQ H1 r W->(∀i,i<Ac->E.go i W)/\E.stop Ac W/\∀i x F,i<Ac->E.yld i W x F->F=W/\∃d,J[i]? =So d/\Rep X.K (hid r W) d x)
  (h:(forB ts nt Fh J O).Good Ts a9):
  ∃W9:Nat->Nat->L2.St->Hp->Prop,(∃m,W9 0 m Z H1)/\∀i m Z H,W9 i m Z H->(E.stop i H/\D.nx Z H)\/(E.go i H/\∃Nn:L2.St->Hp->Prop,(∀l W,Nn l W->∃I,I<m/\W9 Bq I l W)/\
   ∀x W,E.yld i H x W->gS X M H0 ts nt x Z W λo s=>tSB X w U bc M H0 body {D with nx:=Nn,ct:=Nn,bk:=D.nx} o s):=by
 refine⟨λi m l W=>∃g,EnvOk X.K M H0 W l g/\ChB C5 BQ H1 (Ow M g l) W/\i<=Ac/\m=Ac-i/\(forB ts nt Fh cE g).Good Ts a9,
  ⟨Ac,O,e,ChB.sp Qbx,mB _,rfl,by simpa using h⟩,?_⟩
 rintro i m l W⟨g,e',c',hi,rfl,t⟩;obtain⟨w1,w2,w3⟩:=wk _ W c';have cH:∀{r:A1}{Hz:Hp},ChB C5 BQ H1 r Hz->ChB C5 BQ H r Hz:=λz=>((ChB.sp (m:=Fo) s1).trans z).weak λq=>by rw[q];rfl
 by_cases hlt:i<Ac
 ·refine .inr ⟨w1 i hlt,λo s=>∃I,I<Ac-i/\∃g,EnvOk X.K M H0 s o g/\ChB C5 BQ H1 (Ow M g o) s/\i+1<=Ac/\I=Ac- Bq/\(forB ts nt Fh G4 g).Good Ts a9,λo s q=>q,λx s hy=>?_⟩;obtain⟨rfl,d,hd,rd⟩:=w3 i x s hlt hy;rw[sR hd]at t;simp only[forB]at t;cases hb:JT nt d with
  |sk=>rw[hb]at t;exact t.elim
  |ex c=>exact(gM hb).elim
  |ok B=>
   rw[hb]at t;refine⟨g,d,B,e',rd,hb,λσ3 e3 ow3=>⟨pA ts B g,e3,(Rq.gB.mp t).imp (λf u hr=>?_) λ_ _ z=>z⟩⟩;have cc:∀{r:A1}{Hz:Hp},ChB C5 (Ow M (pA ts B g) σ3) s r Hz->ChB C5 BQ H1 r Hz:=λz=>by rw[ow3]at z;exact(c'.trans z).weak λq=>by rw[q];rfl
   cases f with
   |nx=>exactλA H4 L Y=>⟨_,by lia,u,L,cc Y,by lia,rfl,hr⟩
   |ct=>exactλA H4 L Y=>⟨_,by lia,u,L,cc Y,by lia,rfl,hr⟩
   |bk=>exactλA H4 L Y=>hr A H4 L (cH (cc Y))
   |rt d=>exact hr
 ·have he:i=Ac:=by lia
  subst he;rw[gN]at t;exact .inl ⟨w2,t l W e' (cH c')⟩
variable{tg iter:Expr}{body:BH}{p:Px}{sb:Bs}{ts:Aq}{nt:Nat}
def JkV{a:Expr}{p1:Pos}(C:Ao)(hp:Nk)(ha:PE X a E1)(t:gloB nm "range"=To)(q:G.mg "range"=No)(hg:Qbq)(E:PSs X body (tSB X w U bc M H0 sb))
  {u:Pos} (g:starEach [a] QL=[NB]) (Y:∀x,foldedSetIterable Pi QL x=pure x):PS X (.For tg Pi body [] pos) (tSB X w U bc M H0 (.loop ts nt QZ sb)):=by
 refine PS.weak (yV hp XH (JfU (C.glo _ t) (by rw[C.mg];exact q) (Jg (U:=U) ha Jp (by exact g)) g) hg E Y) λD Z H⟨O,e,h⟩=>FK;simp only[exO,evD]at h;simp only[evD];cases z:evD U p O with
 |sk=>rw[z]at h;exact h.elim
 |ex c=>rw[z]at h;exactλC W q s=>h C W Z q Nf
 |ok d=>
  rw[z]at h;cases d with
  |int j=>
   simp only[Rs.bo,op1]at h;cases l:midI j with
   |false=>rw[l]at h;exact h.elim
   |true=>
    rw[l]at h;simp only[if_true]at h;refine⟨[.int j],rfl,λvs H1 A r=>?_⟩;obtain⟨v,r',rfl,I,rfl⟩:=r;cases I;simp only[midI,Zd,Zv]at l;refine⟨j,rfl,l.1,l.2,?_⟩;split at h
    ·have L:(Pu.upTo 0 j.toNat).length=j.toNat:=by simp[Pu.upTo]
     refine JkL (w:=w) (U:=U) (bc:=bc) (J:=Pu.upTo 0 j.toNat) (e.grow A) (SameP.of A) (λL' W c=>?_) h;rw[L];refine⟨λi o=>o,Zf _,λi x H'' o⟨B,F⟩=>⟨B,.int (0+(i:Int)),by simp[Pu.upTo,o],F⟩⟩
    ·exact h.elim
  |_=>exact h.elim
end
def FldC(G:Gw)(f:Str):Prop:=∀ns C,PySem.W.nsIn G.K mainGlobals CG=So Bo->Cls G.K C/\NoAttr G.K C f
def kX{g:Type}(P:α->g->Prop):∀{ns:Ag}{fs:List α}{xs:List g}{d:α},'ϕ'.lookup f=So d->Qdp=Ai->(∀(i:Nat)(d:α),fs[i]? =So d->∃x,xs[i]? =So x/\P d x)->∃x,'ȥ'.lookup f=So x/\P d x
 |[],_,_,_,h,_,_=>by simp at h
 |n::ns,[],_,_,h,_,_=>by simp at h
 |n::ns,a::fs,[],_,_,hl,_=>by simp at hl
 |n::ns,a::fs,x::xs,d,h,hl,hr=>by
  simp only[zE,Zk]at h⊢
  cases q:f==n with
  |true=>
   rw[q]at h
   cases h
   obtain⟨y,l,r⟩:=hr 0 _ rfl
   simp at l;subst l
   exact LM
  |false=>
   rw[q]at h
   exact kX P h (by simpa using hl) λi d o=>by simpa using hr Bq d (by simpa using o)
section
variable{U:Ae}{p:Px}
def JtY(C:Ao)(u:DM)(A:BX)(F:attributeBase e f QL Mg=eval e QL):PE X SQ (tI X U (.un (.fld f) p)):=by
 refine PE.weak (Jim A F) λZ H Q h=>h.un1 λd v W s E g=>?_;cases d with
 |obj a ns fs=>
  simp only[op1]at g;obtain⟨rfl,o,B,xs,I,r,L,l⟩:=E;cases q:'ϕ'.lookup f with
  |none=>rw[q]at g;exact g.elim
  |some d=>rw[q]at g;obtain⟨x,t,z⟩:=kX (λd x=>Rep X.K W d x) q l.length.symm λi d g=>l.get g;rw[C.K]at r;obtain⟨J,k2⟩:=u ns o r;exact⟨a,o,B,_,x,rfl,I,by rw[C.K];exact J,by rw[C.K];exact k2,t,Out.now g z⟩
 |_=>exact(show False from g).elim
end
noncomputable def JpU:HO->Prop
 |.ins _ _ _=>False
 |_=>True
def SameN(H W:Hp):Prop:=∀a o,H a=So o->JpU o->W a=So o
def SameN.p(s:Qdi):SameP H W:=λa o h p=>s a o h (by cases o<;>first|trivial|cases p)
def DK.no{t z:Bool}{ks:Am}(h:Q6):∃o,H a=So o/\JpU o:=by
 cases t<;>cases z<;>obtain⟨l,g,q⟩:=h
 ·exact Hd
 ·obtain⟨o,g⟩:=g;exact Hd
 ·exact Hd
 ·obtain⟨o,g⟩:=g;exact Hd
def Rep.fld(s:Qdi)(l:kG d=To)(h:DX):Rep K W d v:=by
 cases d with
 |dct t z ks E=>obtain⟨a,xs,r,g,u⟩:=h;obtain⟨o,A,B⟩:=g.no;exact⟨a,xs,r,g.mono λF q=>by rw[A]at q;cases q;exact s a _ A B,Reps.plain s.p E l u⟩
 |mls t J=>obtain⟨a,xs,r,g,u⟩:=h;exact⟨a,xs,r,s a _ g trivial,Reps.plain s.p J l u⟩
 |_=>exact Rep.plain s.p _ l h
def Reps.fld(s:Qdi):∀{J:Am}{xs:Av},J.all kG=To->Reps K H J xs->Reps K W J xs
 |[],_,_,h=>h
 |d::J,_,p,⟨x,r,e1,h1,h2⟩=>by
  simp only[pC,Zd]at p
  exact⟨x,r,e1,Rep.fld s p.1 h1,Reps.fld s p.2 h2⟩
def JlL:∀{ns:Ag}{xs:Av},ns.contains f=To->AN=Ai->putF f v 'ȥ'=ns.zip (putN f v ns xs)
 |[],_,h,_=>by simp at h
 |n::ns,[],_,hl=>by simp at hl
 |n::ns,x::xs,h,hl=>by
  simp only[zE,putF,putN]
  by_cases q:n=f
  ·rw[if_pos q,if_pos q];rfl
  ·rw[if_neg q,if_neg q]
   simp only[nN,uD,ZB]at h
   rw[JlL (h.resolve_left λz=>q z.symm) (by simpa using hl)]
   rfl
def put_len{v:α}:∀(ns:Ag)(xs:List α),(putN f v ns xs).length=Ai
 |[],xs=>by cases xs<;>rfl
 |n::ns,[]=>rfl
 |n::ns,x::xs=>by simp only[putN];split<;>simp[put_len ns xs]
def Reps.putN(g:DX):∀{ns:Ag}{J:Am}{xs:Av},Reps K H J xs->Reps K H (Pu.putN f d ns J) (Pu.putN f v ns xs)
 |[],J,xs,h=>by cases J<;>cases xs<;>exact h
 |n::ns,[],xs,h=>by cases h;exact rfl
 |n::ns,d'::J,_,⟨x,r,e1,h1,h2⟩=>by
  subst e1
  simp only[Pu.putN]
  by_cases q:n=f
  ·rw[if_pos q,if_pos q];exact⟨_,_,rfl,g,h2⟩
  ·rw[if_neg q,if_neg q];exact⟨_,_,rfl,h1,Reps.putN g h2⟩
section
variable{fs:Am}
def JnH(J:A3)(e:EnvOk K [] H0 H Z (So Cn::O))(Y:plE O=To)(F:fs.all kG=To)(L:ns.contains f=To)(E:kG d=To)(I:DX):
  Z[0]? =So (So Ax)/\∃C dx xs,H a=So (.ins C dx 'ȥ')/\PySem.W.nsIn K mainGlobals CG=So Bo/\(ns.zip xs).length<=AN/\SameP H RJ/\EnvOk K [] H0 RJ Z (So Qcs::O):=by
 obtain⟨u,r,h⟩:=e.read 0 _ Af rfl;replace h:Rep K H Cn u:=by have z:Rep K cL Cn u:=h;rw[JH]at z;exact z
 obtain⟨rfl,C,dx,xs,A,B,s,t⟩:=h;have g:SameN H RJ:=λb o q l=>by rw[Jb (λz=>by subst z;rw[A]at q;cases q;exact l)];exact q
 refine⟨r,C,dx,xs,A,B,by rw[List.length_zip];exact Nat.min_le_left _ _,g.p,?_⟩;refine e.obj (i:=0) Af Y g.p (J.same Yb g.p) r ?_;show Rep K IE _ _;rw[JH];have U:AN=Ai:=s.trans t.length.symm;refine⟨rfl,C,dx,putN f v ns xs,by rw[Jd,JlL L U],B,by rw[put_len];exact s,?_⟩;exact Reps.putN (Rep.fld g E I) (Reps.fld g F t)
end
section
variable{U:Ae}{p:Px}{ipos:Pos}
structure Slf(N:Ag)(nm:A8)(x:Str):Prop where
 at_:N[0]? =So x
 vis:visB nm x=To
 d1:(x==Xk)=Fo
 d2:(x==Xj)=Fo
def Slf.pe(S:IC)(C:Ao):PE X E3 (λZ H Q=>∃v,Z[0]? =So Bj/\Q v H):=nE (by rw[C.hN];exact S.at_) (C.vis x S.vis) S.d1 S.d2
def Jsb{P:Fw->Fm->Prop}{E:D1}(h:(chgF f d O).Good P E):∃a ns fs g,O=So Cn::g/\ns.contains f=To/\fs.all kG=To/\plE g=To/\ns.length<1000/\P .nx (So Qcs::g):=by
 unfold chgF at h;split at h
 ·rename_i a ns fs g;split at h
  ·rename_i l;simp only[Zd]at l;exact⟨a,ns,fs,g,rfl,l.1.1.1,l.1.1.2,l.1.2,by simpa using l.2,h⟩
  ·exact h.elim
 ·exact h.elim
def JqD{d:α}:∀{ns:Ag}{fs:List α},'ϕ'.lookup f=So d->ns.contains f=To
 |[],_,h=>by simp at h
 |n::ns,[],h=>by simp at h
 |n::ns,y::fs,h=>by
  simp only[zE,Zk]at h
  simp only[nN,uD]
  cases q:f==n with
  |true=>exact .inl rfl
  |false=>rw[q]at h;exact .inr (JqD h)
def Jkd{k:D}(q:Jh d=To)(ks vs:Am)(g:Jc vs=To):Jc (putD k d ks vs).2=To:=by
 have l:∀(ks vs:Am),Jc vs=To->Jc (setD k d ks vs)=To:=λks=>by
  induction ks with
  |nil=>intro vs g;cases vs<;>exact g
  |cons a ks o=>
   intro vs g;cases vs with
   |nil=>rfl
   |cons u vs=>
    simp only[Jc,Zd]at g;simp only[setD,Jc,Zd];refine⟨?_,o vs g.2⟩;split
    ·exact q
    ·exact g.1
 have h:∀vs:List D,Jc vs=To->Jc (vs++[d])=To:=λvs=>by
  induction vs with
  |nil=>intro _;simp[Jc,q]
  |cons u vs o=>intro g;simp only[Jc,Zd]at g;simp only[jB,Jc,Zd];exact⟨g.1,o g.2⟩
 unfold putD;split
 ·exact l _ _ g
 ·exact h _ g
end
section
variable{w:A0}{sc:AS}{f:Addr}{cd:Al}{A:Bd}{outer:A5}{s:Ak}{E:XK}
def mQ(S:FnScope N ps sc)(l:Room k (A.deeper Uj)):Ctx (cxOf B8 P w K mg base N qual sc f cd A outer s H E) ⟨P,w,K,mg,base,A.deeper Uj⟩ N Xw where
 g:=rfl
 hN:=rfl
 nd:=S.nd
 vis:=λy h=>by
  show Vis sc y
  unfold visB at h
  split at h
  ·rename_i z;exact .inl z
  ·rename_i z;exact .inr Fc
  ·rename_i z;exact .inr Gq
  ·cases h
 cel:=λy h=>by
  show sc.names.lookup y=So .cell\/sc.names.lookup y=So .free
  unfold celB at h
  split at h
  ·rename_i z;exact .inl z
  ·rename_i z;exact .inr z
  ·cases h
 glo:=λy h=>by
  show sc.names.lookup y=So .globalImplicit
  unfold gloB at h
  split at h
  ·rename_i z;exact z
  ·cases h
 sto:=λy h=>by
  show Loc sc y/\(To=To\/_)
  unfold locB at h
  split at h
  ·rename_i z;exact SJ
  ·rename_i z;exact SI
  ·cases h
 calm:=rfl
 un:=l.units
 fr:=SW
end
def Jrl{r:Fm}{l g:D}(e:EnvOk K [] H0 W Z (So g::r))(q:zC l g=To)(h:Rep K H l Ax):Rep K W g Ax:=by
 obtain⟨v,_,o⟩:=e.read 0 _ Af rfl;replace o:Rep K W g v:=by have z:Rep K cK g v:=o;rw[JH]at z;exact z
 cases g with
 |obj b ns fs=>
  cases l with
  |obj c B t=>
   have A:a=c:=by injection h.1
   have s:c=b:=by simpa[zC]using q
   subst A;subst s;have u:=o.1;subst u;exact o
  |_=>simp[zC]at q
 |_=>cases l<;>simp[zC]at q
section
variable{w:A0}{defs:BW}{bdefs:Fn}{d:DefB}
theorem Jnd{Tb:Hp->Prop}{f:Addr}(F:D7)(S:Ky)(hd:bdefs[fi]? =So d)(hs:d.slots=Xr)(hp:d.params=Aw)(hpN:Aw<=Xr)
  (B:∀(X:Cx)(A:Bd)(H0:Hp),Ctx X An N 'Š'.names->Room j A->HX X 'Š'.names->Tb X.H₀->X.env.code=fd.code->Qbv=qual++".<locals>."->PlO H0->PSs X Df U0):
  FnOk P w K mg base B8 (j+1) f fd ps (λvs H Q E=>Tb H/\spB K mg M7 fi vs H Q E):=by
 have L:∀st J,runB defs bdefs A4 fi st J=if Ac+1=Yy then ansB st (exO To BR BO XF (Jx Yc (st::J)))else .sk:=λst J=>by simp only[runB,hd]
 obtain⟨oc,od,kV,doc,pm,an,cdv,ct,osl,rfl,lk,hcd⟩:=F.ex;refine pK lk hcd S (λvs H Q E h=>?_) (λA outer s H vs Q E hr h=>?_)
 ·obtain⟨_,a,ws,l,J,rfl,I,r2,hpl,g⟩:=h;rw[L]at g;split at g
  ·rename_i q;rw[Zi,r2.length,q,hp]
  ·exact g.elim
 ·obtain⟨tb,a,ws,l,J,rfl,I,r2,hpl,g⟩:=h;rw[L]at g;split at g
  ·rename_i q;have e0:EnvOk K [] H H (L2.pB N (.ref a::ws)) (Jx Yc (l::J)):=by have:=wM (d:=⟨Yc,Yy,.skip⟩) (M:=[]) hs (J:=l::J) (by simp only[Zi];lia) (λi U=>by simp at U) (show Reps K H (l::J) (.ref a::ws)from⟨_,_,rfl,I,r2⟩);exact this
   refine⟨_,B _ _ (pl H) (mQ S hr) hr Na tb rfl rfl JqL,Jx Yc (l::J),⟨Jlr,e0.len,e0.read,λ_ _ U=>by simp at U,λ_ _ _ _ _ U=>by simp at U⟩,?_⟩;cases q2:exO To BR BO XF (Jx Yc (l::J))with
   |sk=>rw[q2]at g;exact g.elim
   |ok fl t=>
    rw[q2]at g;cases t with
    |nil=>cases fl<;>exact g.elim
    |cons o r=>
     cases o with
     |none=>cases fl<;>exact g.elim
     |some st'=>
      cases fl with
      |bk=>exact g.elim
      |ct=>exact g.elim
      |nx=>
       simp only[ansB]at g;split at g
       ·rename_i u;exactλY W z _=>g .non W HR bA rfl
       ·exact g.elim
      |rt dd=>
       simp only[ansB]at g;split at g
       ·rename_i u;exactλv W s' r' hw=>let⟨Y,z⟩:=hw rfl;g v W HR bA r'
       ·exact g.elim
   |ex c t=>
    rw[q2]at g;cases t with
    |nil=>exact g.elim
    |cons o r=>
     cases o with
     |none=>exact g.elim
     |some st'=>
      simp only[ansB]at g;split at g
      ·rename_i u;exactλC2 H2 Y hm z a' s' F'=>uR F' (g C2 H2 hm HR bA)
      ·exact g.elim
  ·exact g.elim
def Juy{f:Addr}(F:D7)(S:Ky)(o:bdefs[fi]? =So d)(l:d.slots=Xr)(t:d.params=Aw)(h:Aw<=Xr)
  (g:∀(X:Cx)(A:Bd)(H0:Hp),Ctx X An N 'Š'.names->Room j A->HX X 'Š'.names->PlO H0->PSs X Df U0):
  FnOk P w K mg base B8 (j+1) f fd ps (spB K mg M7 fi):=(Jnd (Tb:=λ_=>True) F S o l t h λX A H0 C r s _ _ _ q=>g X A H0 C r s q).imp λu H Q E z=>⟨trivial,z⟩
def JnE{f:Addr}:FnOk P w K mg base B8 0 f fd ps (spB K mg (runB defs bdefs 0) fi):=
 ⟨λo H Q E⟨_,_,_,_,_,_,_,_,h⟩=>Z1,λA g s H l q o Q E _ _ _ _⟨_,_,_,_,_,_,_,_,h⟩=>Z1⟩
end
def spLaw(K:Aj):Sp:=λg H Q _=>∃(a:Addr)(ns:AR),g=Cr/\SqL K H a (ns.map V.int)/\ns.length<=63/\∀W,Q Cw W
section
variable{w:A0}{U:Ae}
def JgO:∀ns:List Int,Reps K H DI Q3
 |[]=>rfl
 |n::ns=>⟨.int n,ns.map V.int,rfl,rfl,JgO ns⟩
end
noncomputable abbrev MethE:=Str×Str×Stmt×List Str
structure Met1(K:Aj)(C:Addr)(e:MethE)(f:Addr)(fd:A7):Prop where
 F:Fun K e.1 e.2.1 e.2.2.1 f fd
 m:Meth K C e.1 f
 b:Binds K fd e.2.2.2 []
section
variable{w:A0}{defs:BW}{bdefs:Fn}
noncomputable def HasM (K:Aj) (C:Addr):List MethE->Prop
 |[]=>True
 |e::T=>(∃f g,Met1 K C e f g)/\HasM K C T
noncomputable def OkM (P:Be) (w:A0) (K:Aj) (mg:Bi) (base:Heap) (defs:BW) (bdefs:Fn) (C:Addr) (k:Nat):Nat->List MethE->Prop
 |_,[]=>True
 |i,e::T=>(∀f g,Met1 K C e f g->FnOk P w K mg base B8 (3*k) f g e.2.2.2 (spB K mg BO i))/\OkM P w K mg base defs bdefs C k Bq T
def Jig:∀(T:IB)(i:Nat),OkM P w K mg base defs bdefs C 0 i T
 |[],_=>trivial
 |e::T,i=>⟨λ_ _ _=>JnE,Jig T Bq⟩
def foB{l:Gw->CallD->CallB->Prop}{e:MethE}{d:DefB}{b:Bs}(E:∀A,Room Dp A->l An BR BO)(t:∀{X:Cx}{G:Gw}{U:Ae}{bc:AI}{H0:Hp},l G U bc->Ctx X G N (Ja e.2.2.1).names->HX X (Ja e.2.2.1).names->PlO H0->PSs X (Jl e.2.2.1) (tSB X To U bc [] H0 b))
  (q:'б' (bdefs[i]? =So d) Ah) (hb:'б' (XF=b) Ah) (h:'б' ((nG N e.2.2.2 (Ja e.2.2.1)&&d.slots==Xr&&d.params==e.2.2.2.length&&decide (e.2.2.2.length<=Xr))=To) IL):
  ∀f g,Met1 K C e f g->FnOk P w K mg base B8 (3*A4) f g e.2.2.2 (spB K mg M7 i):=λf g D=>by
 simp only[Zd,ZB,Zv]at h
 obtain⟨⟨⟨B,F⟩,s⟩,o⟩:=h
 subst hb
 exact Juy (j:=3*k+2) D.F (fE B) q F s o λX A H0 C u z r=>t (E A u) C z r
noncomputable def MsIn (K:Aj) (C:Addr):List MethE->Prop
 |[]=>True
 |e::T=>(∃f g,Fun K e.1 e.2.1 e.2.2.1 f g/\Meth K C e.1 f)/\MsIn K C T
def meth_mk{n h:Str}{s:Stmt}{f:Addr}{t q:DY}{sl:EJ}{u kV z r o ct:Al}(a:PySem.W.findIn K AX n=So Ez)(i:PySem.W.isFn K A6=To)(l:K.lookup f=So ⟨u,t,.func (PySem.W.fnOf n h (iJ s) (Jl s) (Ja s) .none kV z r q o ct),sl⟩)(c:PySem.W.codeIn K o h=To)(k:PySem.W.keepIn K A6=To):
  ∃f g,Fun K n h s f g/\Meth K C n f:=⟨f,_,JpP l c k,a,i,k⟩
abbrev BsM(e:MethE):Prop:=∀(kV g q:Al)(o:DY)(l ct:Al)(h:AF),h.length=e.2.2.2.length->bindArgs (PySem.W.fnOf e.1 e.2.1 (iJ e.2.2.1) (Jl e.2.2.1) (Ja e.2.2.1) .none kV g q o l ct) ⟨h,[]⟩=pure (e.2.2.2.zip h)
noncomputable def BmOk:List MethE->Prop
 |[]=>True
 |e::T=>BsM e/\BmOk T
def oW:∀{T:IB},MsIn K C T->BmOk T->HasM K C T
 |[],_,_=>trivial
 |e::T,d,b=>⟨let⟨f,g,F,m⟩:=d.1;⟨f,g,F,m,F.binds b.1⟩,oW d.2 b.2⟩
end
section
variable{U:Ae}{a ev:Expr}{p:Px}{pa:Bx}{spos dpos:Pos}
def tbNe(C:Ao)(g:PE X a Sv)(h:PE X b MN):PT X IT (tTB X U bc M H0 Mm):=JqU Le g h De
def cM{pl:CQ}(C:Ao)(z:A3)(o:CalleeB G bc fi CG m)(g:Gz)(r:CM)(s:Ec)
  (h:Xb) (l:'(')
  (t:eval EU QL=(do
   let ov<-eval Ga QL
   standAt XS
   let(f,first)<-holding [ov] D6
   callWith pos f first 'ž' D5)):PE X EU VE:=by simp only[chkV,Zd,ZB]at g;obtain⟨u,q⟩:=plainN.d g.2;exact JrV (Jmm C o g.1.2 g.1.1 u q s h l t) z r
def sG(g:chkV N nm 0 x=To):Slf N nm x:=by simp only[chkV,Zd,ZB]at g;obtain⟨l,h⟩:=plainN.d g.2;exact⟨g.1.1,g.1.2,l,h⟩
def bSet(C:Ao)(h:chkA N nm [] i x=To)(q:Tc)(l:SS):PS X IS U2:=by obtain⟨g,o,r⟩:=chkA.at h;exact JuK C g o q l
def xV{cx:Str}{ma:Expr}(C:Ao)(l:ExcC G cx)(g:chkG nm cx=To)(o:PE X ma (tM X U p))(h:starEach [ma] QL=(Fo,eval ma QL)::starEach [] QL):
  PS X R5 (tSB X w U bc [] H0 (.raise cx p)):=Jok λH=>JiB C l g o h
end
def upd_upd{o u:HO}:upd (upd H a u) a o=upd H a o:=funext λb=>by
 by_cases q:b=a
 ·subst q;rw[Jd,Jd]
 ·rw[Jb q,Jb q,Jb q]
def Jkg:MtM X "list.append" (λx r H Q=>∃l t xs y,x=.ref l/\r=[y]/\H l=So (.lsm t xs)/\xs.length<sizeLine/\Q .non (upd H l (.lsm t (xs++[y])))):=by rintro Y s Z H x r v B Q I E F⟨l,t,xs,y,z,o,J,U,q⟩;refine thn (JgQ Y s Z _ x r v B (λv W=>v=.non/\W=upd H l (.lst (xs++[y]))) (Inv.asL I J) E F ⟨l,xs,y,z,o,Jd,U,rfl,upd_upd⟩) λu s1 g=>?_;obtain⟨v,H1,L,h,z,o⟩:=g;subst z o;have A:=Inv.asM L t Jd;rw[upd_upd]at A;exact⟨_,_,A,h,q⟩
def hX(t:Str):PE X (.List [] pos) (λZ H Q=>∀l,H l=No->Q BC Ph):=by intro Y s Z H Q I h;refine thn (JqI JP Y s Z H (λv W=>∃l,v=.ref l/\H l=No/\W=upd H l Fs) I ⟨by decide,λl B=>⟨l,rfl,B,rfl⟩⟩) λu F g=>?_;obtain⟨v,H1,A,o,l,E,z,r⟩:=g;subst E r;have q:=Inv.asM A t Jd;rw[upd_upd]at q;exact⟨_,_,q,o,h l z⟩
section
variable{T:Addr}{o o':HO}{m:Bool}
noncomputable def ofM (m:Bool) (f:Str):HO->Prop
 |.lsm t _=>m=To/\t=f
 |.dK _=>m=Fo
 |.dT _=>m=Fo
 |_=>False
def ofM.sp(h:H T=So o)(ho:Qdj):SameP H GY:=λb u e p=>by
 rw[Jb λz=>by subst z;rw[h]at e;cases e;cases o<;>first|(cases p;done)|exact(show False from ho)];exact e
def Rep.oth(h:H T=So o)(ho:Qdj)(l:othD m f d=To)(r:DX):Rep K GY d v:=by
 have sp:SameP H GY:=ofM.sp h ho;cases d with
 |mls t J=>
  obtain⟨a,xs,u,s,A⟩:=r;simp only[othD,Zd,uD,kB,Zw]at l;refine⟨a,xs,u,?_,Reps.plain sp J l.2 A⟩;rw[Jb λz=>by
   subst z;rw[h]at s;cases s;obtain⟨E,B⟩:=ho;rcases l.1 with z|z
   ·rw[E]at z;cases z
   ·exact z B]
  exact s
 |dct t z ks I=>
  obtain⟨a,xs,u,s,A⟩:=r;simp only[othD,Zd]at l;obtain⟨L,F⟩:=l;subst L;refine⟨a,xs,u,s.mono λY q=>?_,Reps.plain sp I F A⟩;rw[Jb λw=>by
   subst w;rw[h]at q;cases q;cases t<;>cases z<;>obtain⟨U,g,_⟩:=s
   ·rw[h]at g;cases g;cases ho
   ·obtain⟨_,g⟩:=g;rw[h]at g;cases g;exact ho
   ·rw[h]at g;cases g;cases ho
   ·obtain⟨_,g⟩:=g;rw[h]at g;cases g;exact ho]
  exact q
 |_=>exact Rep.plain sp _ l r
def Jiv(h:H T=So o)(ho:Qdj){g:Str}{d':D}:∀{ns:Ag}{fs:Am}{xs:Av},(∀x,'ȥ'.lookup g=So x->Rep K GY d' x)->ns.contains g=To->(putN g .non ns fs).all Ld=To->Reps K H fs xs->Reps K GY (putN g d' ns fs) xs
 |[],fs,xs,_,hc,_,_=>by simp at hc
 |n::ns,[],xs,_,_,_,h=>by cases h;exact rfl
 |n::ns,d::fs,_,hx,hc,l,⟨x,r,A,u,t⟩=>by
  subst A
  have all:∀{fs:Am}{r:Av},fs.all Ld=To->Reps K H fs r->Reps K GY fs r:=fun{fs}=>by
   induction fs with
   |nil=>intro r _ z;exact z
   |cons d fs E=>
    rintro _ l⟨x,r,A,u,t⟩
    simp only[pC,Zd]at l
    exact⟨x,r,A,Rep.oth h ho l.1 u,E l.2 t⟩
  simp only[putN]at l⊢
  by_cases q:n=g
  ·subst q
   rw[if_pos rfl]at l⊢
   simp only[pC,Zd]at l
   exact⟨x,r,rfl,hx x (by simp[Zk]),all l.2 t⟩
  ·rw[if_neg q]at l⊢
   simp only[pC,Zd]at l
   have s:(g==n)=Fo:=by simpa using λz=>q z.symm
   simp only[nN,s,Bool.false_or]at hc
   exact⟨x,r,rfl,Rep.oth h ho l.1 u,Jiv h ho (λy B=>hx y (by simp only[zE,Zk,s];exact B)) hc l.2 t⟩
end
section
variable{U:Ae}{p:Px}{mpos spos:Pos}
def JqX(C:Ao)(h0:A3)(S:IC)(L:DM){g:Pos}(J:'б' (swapsWith (.List [] g) (So HA) Xt QL=pure Fo) Ah):
  PS X (.Assign O5 (.List [] g) pos) UL:=by
 refine PS.weak (zP (S.pe C) (hX f) J) λD Z H t l hl=>?_;obtain⟨O,e,h⟩:=t;obtain⟨a,ns,fs,B,rfl,hn,s,A,z,Y⟩:=Jsb h;have I:Same H (upd H l (.lsm f [])):=λb o q=>by rw[Jb (Je q hl)];exact q
 obtain⟨u,E,dx,xs,h1,F,r,sp,e2⟩:=JnH (f:=f) (d:=.mls f []) (v:=.ref l) h0 (e.grow I) A s hn rfl ⟨l,[],rfl,Jd,rfl⟩;rw[C.K]at F;obtain⟨k1,k2⟩:=L ns E F;exact⟨_,u,a,E,dx,_,rfl,h1,by rw[C.K];exact k1,by rw[C.K];exact k2,zF r z,Y Z _ e2 (ChB.sp ((SameP.of I).trans sp))⟩
def RW{m:Bool}{g:D->Option D}{P:Fw->Fm->Prop}{E:D1}(h:(chgM m f g O).Good P E):∃a ns fs env' d d',O=So Cn::env'/\(ns.zip fs).lookup f=So d/\g d=So d'/\plE env'=To/\(putN f .non ns fs).all Ld=To/\P .nx L5:=by
 unfold chgM at h;split at h
 ·rename_i a ns fs env';split at h
  ·rename_i d q;split at h
   ·rename_i d' o;split at h
    ·rename_i l;simp only[Zd]at l;exact⟨a,ns,fs,env',d,d',rfl,q,o,l.1,l.2,h⟩
    ·exact h.elim
   ·exact h.elim
  ·exact h.elim
 ·exact h.elim
def oX{m:Bool}{fs:Am}{env':Fm}(e:EnvOk K [] H0 H Z (So Cn::env'))(q:'ϕ'.lookup f=So d):
  Z[0]? =So (So Ax)/\∃C t xs v,H a=So (.ins C t 'ȥ')/\PySem.W.nsIn K mainGlobals CG=So Bo/\(ns.zip xs).lookup f=So v/\Rep K H d v/\
   ∀(H1:Hp)(T:Addr)(o h:HO)(d':D),PlO H0->Same H H1->plE env'=To->(putN f .non ns fs).all Ld=To->v=.ref T->H1 T=So o->ofM m f o->Rep K HQ d' v->SameP H (upd H1 T h)/\EnvOk K [] H0 HQ Z L5:=by
 obtain⟨u,l,A⟩:=e.read 0 _ Af rfl;replace A:Rep K H Cn u:=by have z:Rep K cL Cn u:=A;rw[JH]at z;exact z
 obtain⟨rfl,I,t,xs,E,L,g3,F⟩:=A;obtain⟨v,Y,gv⟩:=kX (λd x=>Rep K H d x) q F.length.symm λi d hd=>F.get hd;refine⟨l,I,t,xs,v,E,L,Y,gv,λH1 T o h d' h0 g hp ho ev s B r=>?_⟩;have sp:SameP H1 HQ:=ofM.sp s B;refine⟨(SameP.of g).trans sp,(e.grow g).obj (i:=0) Af hp sp (h0.same (e.grow g).same sp) l ?_⟩;show Rep K IE _ _;rw[JH];refine⟨rfl,I,t,xs,by rw[Jb (λz=>by subst z;rw[g _ _ E]at s;cases s;exact B)];exact g _ _ E,L,by rw[put_len];exact g3,?_⟩;exact Jiv s B (λy J=>by rw[Y]at J;cases J;exact r) (JqD q) ho (F.mono g)
theorem JsK(C:Ao)(h0:A3)(S:IC)(hf:DM)(he:BX)(hl:(mpos.endLine==YG)=To)
  (hb:R9) (hb2:'б' (attributeBase HA "append" QL (eval HA QL)=eval HA QL) Ah)
  (hs:IJ):
  PS X WI UZ:=by
 refine PS.weak (sQ (rP dA cW cX Jkg RA (Jq he JP hs) hb2 (by rw[hs];rfl) hl hs rfl) rfl) λD Z H A=>?_;obtain⟨O,e,h⟩:=A;simp only[exO]at h;cases z:evD U p O with
 |sk=>rw[z]at h;exact h.elim
 |ex c=>rw[z]at h;exact h.elim
 |ok y=>
  rw[z]at h;simp only at h;split at h
  ·rename_i hy;obtain⟨a,ns,fs,Y,d,d',rfl,q,r,hp,ho,hD⟩:=RW h;obtain⟨B,C',dx,xs,v,g1,g2,g3,gv,I⟩:=oX (m:=To) e q;cases d with
   |mls t J=>
    simp only[appG]at r;split at r
    ·rename_i L;cases r;simp only[Zd,ZB,Zv]at L;obtain⟨⟨rfl,s⟩,g⟩:=L;obtain⟨T,ys,rfl,hT,o⟩:=gv;rw[C.K]at g2;obtain⟨k1,k2⟩:=hf ns C' g2;refine⟨_,B,a,C',dx,_,.ref T,rfl,g1,by rw[C.K];exact k1,by rw[C.K];exact k2,g3,.inr (.inr (.inr (.inr ⟨rfl,_,ys,hT⟩))),_,X4,?_⟩;rw[z];intro u H1 F r1;have l:=F _ _ hT;have hz:BU<1000:=by rw[<-o.length]at g;exact g
     refine⟨T,_,ys,u,rfl,rfl,l,by show _<16777216;lia,?_⟩;have sp:SameP H1 (upd H1 T (.lsm t (ys++[u]))):=ofM.sp (m:=To) (f:=t) l Dr;obtain⟨E,e2⟩:=I H1 T _ (.lsm t (ys++[u])) (.mls t (J++[y])) h0 F hp ho rfl l Dr ⟨T,_,rfl,Jd,(Reps.plain sp J s (o.mono F)).append (Reps.one (Rep.plain sp y hy r1))⟩;exact hD Z _ e2 (ChB.sp E)
    ·cases r
   |_=>cases r
  ·exact h.elim
theorem JrU{F:Expr}(C:Ao)(h0:A3)(S:IC)(hf:DM)(hk:ML)(hv:PE X F E1)
  (hb:R9) (hs:'б' (swapsWith F UD Xt QL=pure Fo) Ah):
  PS X (.Assign PJ F pos) Vq:=by
 have hu:=C.un;refine PS.weak (JlC Ad RA hk hv hs) λD Z H⟨O,e,h⟩=>FK;simp only[exO]at h;cases z:evD U p O with
 |sk=>rw[z]at h;exact h.elim
 |ex c=>rw[z]at h;exact h.elim
 |ok y=>
  rw[z]at h;simp only at h;cases s:evD U pk O with
  |sk=>rw[s]at h;exact h.elim
  |ex c=>rw[s]at h;exact h.elim
  |ok k0=>
   rw[s]at h;simp only at h;split at h
   ·rename_i u;simp only[Zd]at u;obtain⟨a,ns,fs,env',d,d',rfl,q,l,hp,ho,hD⟩:=RW h;intro v H1 s1 r1;have Y:=e.grow s1;obtain⟨A,C',dx,xs,vT,g1,g2,g3,gv,I⟩:=oX (m:=Fo) Y q;cases d with
    |dct t zz ks L=>
     cases t<;>cases zz<;>first|(cases l;done)|skip
     simp only[putG]at l;split at l
     ·rename_i B;cases l;simp only[Zd,Zv]at B;obtain⟨T,xsT,rfl,⟨kvs,gk,rfl,rfl⟩,J⟩:=gv;rw[C.K]at g2;obtain⟨k1,k2⟩:=hf ns C' g2;refine⟨_,A,a,C',dx,_,.ref T,rfl,g1,by rw[C.K];exact k1,by rw[C.K];exact k2,g3,_,Y.readOk,?_⟩;rw[s];intro y' o r r2;obtain⟨k,rfl⟩:=lM u.2;have hy:=tL r2;subst hy;have g:o T=So AM:=r _ _ gk;have hlen:By<1000:=by simpa using B.2
      refine⟨T,_,rfl,DPut.k (k:=k) g (by show _<16777216;lia),?_⟩;obtain⟨p1,p2⟩:=tV iD (k:=k) (r1.mono r) (J.mono r);have sp:SameP o (upd o T S3):=ofM.sp (m:=Fo) (f:=f) g rfl;have r3:Rep X.K (upd o T S3) (.dct Fo Fo (putD Es y (kvs.map λp=>keyV p.1) L).1 (putD Es y (kvs.map λp=>keyV p.1) L).2) (.ref T):=⟨T,_,rfl,MD,Reps.plain sp _ (Jkd u.1 _ L B.1) p2⟩;obtain⟨E,e2⟩:=I o T _ S3 _ h0 r hp ho rfl g rfl r3;exact hD Z _ e2 (ChB.sp ('七'.trans E))
     ·cases l
    |_=>cases l
   ·exact h.elim
end
section
variable{κ:Type}[DecidableEq κ]{g:κ->D}
def Jqx(s:∀a b,(g a).eqv (g b)=decide (a=b)){k:κ}:∀{kvs:Bu}{vs:Am},Reps K H vs (kvs.map (·.2))->
  (delD (g k) (kvs.map λp=>g p.1) vs).1='ǃ'.map (λp=>g p.1)/\Reps K H (delD (g k) (kvs.map λp=>g p.1) vs).2 ('ǃ'.map (·.2))/\(Jc vs=To->Jc (delD (g k) (kvs.map λp=>g p.1) vs).2=To)
 |[],[],_=>⟨rfl,rfl,id⟩
 |[],d::vs,⟨x,r,e,_⟩=>by cases e
 |p::kvs,[],h=>by cases h
 |p::kvs,d::vs,⟨x,r,e,h1,h2⟩=>by
  simp only[Zl,lH]at e
  obtain⟨rfl,rfl⟩:=e
  obtain⟨l,o,t⟩:=Jqx s (k:=k) h2
  unfold yY at l o⊢
  simp only[Zl,delD,s]
  by_cases q:p.1=k
  ·rw[if_pos (ZH q),zD,if_neg (by simp[q])]
   exact⟨l,o,λz=>t (by simp only[Jc,Zd]at z;exact z.2)⟩
  ·rw[if_neg (by simp[q]),zD,if_pos (by simp[q])]
   refine⟨by rw[Zl,l],⟨_,_,rfl,h1,o⟩,λz=>?_⟩
   simp only[Jc,Zd]at z⊢
   exact⟨z.1,t z.2⟩
end
section
variable{U:Ae}{a:Expr}{p pa pb:Px}{mpos:Pos}
def JqV(C:Ao)(h0:A3)(S:IC)(hf:DM)(hk:ML)(m:Qy)
  (hb:R9):
  PS X WB Va:=by
 refine PS.weak (sQ (JoI RA hk m) rfl) λD Z H r=>?_;obtain⟨O,e,h⟩:=r;simp only[exO]at h;cases z:evD U pk O with
 |sk=>rw[z]at h;exact h.elim
 |ex c=>rw[z]at h;exact h.elim
 |ok k0=>
  rw[z]at h;simp only at h;split at h
  ·rename_i hc;obtain⟨a,ns,fs,J,d,d',rfl,q,l,hp,ho,hD⟩:=RW h;obtain⟨s,L,dx,xs,vT,g1,Y,g3,gv,B⟩:=oX (m:=Fo) e q;cases d with
   |dct t zz ks vs=>
    cases t<;>cases zz<;>first|(cases l;done)|skip
    simp only[popG]at l;split at l
    ·rename_i u;cases l;simp only[Zd]at u;obtain⟨T,xsT,rfl,⟨kvs,I,rfl,rfl⟩,F⟩:=gv;rw[C.K]at Y;obtain⟨k1,k2⟩:=hf ns L Y;refine⟨_,s,a,L,dx,_,.ref T,rfl,g1,by rw[C.K];exact k1,by rw[C.K];exact k2,g3,T,rfl,.inl ⟨kvs,.inl I⟩,_,X4,?_⟩;rw[z];intro y' o E r2;obtain⟨k,rfl⟩:=lM hc;have hy:=tL r2;subst hy;have g:o T=So AM:=E _ _ I;have hv:=u.2;rw[xU iD]at hv;obtain⟨v,ev⟩:=Option.isSome_iff_exists.mp hv;refine⟨kvs,k,v,g,rfl,ev,?_⟩;obtain⟨p1,p2,p3⟩:=Jqx iD (k:=k) (F.mono E);have sp:SameP o (upd o T IH):=ofM.sp (m:=Fo) (f:=f) g rfl;have r3:Rep X.K (upd o T IH) (.dct Fo Fo (delD Es (kvs.map λp=>keyV p.1) vs).1 (delD Es (kvs.map λp=>keyV p.1) vs).2) (.ref T):=⟨T,_,rfl,MD,Reps.plain sp _ (p3 u.1) p2⟩;obtain⟨A,e2⟩:=B o T _ IH _ h0 E hp ho rfl g rfl r3;exact hD Z _ e2 (ChB.sp A)
    ·cases l
   |_=>cases l
  ·exact h.elim
theorem eGetN(C:Ao)(ha:AG)(hb:Bp)(hx:noEx pb=To)(m:M1 X a "get" apos b cpos):PE X (.Call (.Attribute a "get" apos) [b] [] cpos) (tI X U (.ite (.bi Y4 pb pa) (.bi E0 pa pb) Da)):=by
 have hu:=C.un;refine PE.weak (Jop Ad ha hb m) λZ H Q E=>?_;obtain⟨O,r,h⟩:=E;simp only[evD]at h;have J:∀c,evD U pb O≠.ex c:=λc z=>sW U pb O c hx z;cases B:evD U pb O with
 |ex c=>exact absurd B (J c)
 |sk=>rw[B]at h;exact h.elim
 |ok dy=>
  rw[B]at h;simp only[Rs.bo]at h;cases A:evD U pa O with
  |ex c=>rw[A]at h;exact⟨O,r,by rw[A];exact h⟩
  |sk=>rw[A]at h;exact h.elim
  |ok dx=>
   rw[A]at h;simp only[Rs.bo]at h;refine Dl;rw[A];intro x H1 I Y;cases dx with
   |dct t z ks vs=>
    obtain⟨l,xs,rfl,g1,g2⟩:=id Y;simp only[op2,onD]at h;by_cases u:t=Fo/\keyD t dy=To
    ·rw[if_pos u]at h;obtain⟨rfl,u⟩:=u;simp only[Rs.bo]at h;refine⟨l,rfl,?_,O,r.mono I,?_⟩
     ·obtain⟨F,g,_⟩:=dk_k g1;exact .inl ⟨F,g⟩
     ·rw[B];intro y H2 L r2;obtain⟨l',o,e1,g,s,hl⟩:=kW (t:=Fo) (λz=>by cases z) (Y.mono L) r2 u;cases e1;refine⟨o,g,?_⟩;cases q:jA dy ks vs with
      |some d=>obtain⟨v,e2,rv⟩:=hl d q;subst e2;rw[s]at h;simp only[pN,Rs.ofOpt,q,u,and_self,if_true]at h;exact h v H2 (I.trans L) rv
      |none=>
       have hn:=Jhb q (by have:=g2.length;have:=JvB g1;lia);rw[hn]at s h;have:o=No:=by
        cases o with
        |none=>rfl
        |some _=>cases s
       subst this;exact h _ H2 (I.trans L) rfl
    ·rw[if_neg u]at h;exact h.elim
   |_=>exact h.elim
end
section
variable{prog:Be}{w:A0}{A:Bd}{E:Au}{s:Ak}{d:Addr}{od:Obj}{es:Ku}{ep:Nat}
def JfQ{Q:List Value->Shared->Prop}(hh:Bk)(hd:(d==sysModules)=Fo)(ho:s.heap.get? d=So od)(U:od.cls=.type "dict")(q:D8)(u:es.size<=2^24)
  (hQ:∀z L g,(∀b o,s.heap.get? b=So o->z.get? b=So o)->ItemsOf (λi v=>∃e,es[i]? =So e/\v=X9) g es.size->Q g.toList {s with heap:=z,toks:=L}):
  wpAny Ar A (collect DQ) Q E s:=by
 unfold collect;refine Za (wpAny_runValue (wC dJ ?_));rw[sD F.plain_proto_collect _];show wpAny _ XB (newList []>>=λl=>again (.builtin "list.__iadd__" ⟨[l,.ref d],[]⟩)) _ _ s;refine Za (ZE ?_);refine Zb VB;rw[sD pS _];show wpAny _ XB (Builtin.List.listExtendWith E5 DQ E5) _ _ _;have Y:(s.heap.push {cls:=.type "list",data:=.seq ([]:List Value).toArray}).get? Aa=So {cls:=.type "list",data:=.seq #[] 0}:=Ze _ rfl;refine ZL (Jki (A:=A) (R:=λr B=>r=.ok (.ret E5)/\wpAny Ar A (load Aa>>=λo=>match o.data with
   |Data.seq xs _=>pure xs.toList
   |_=>unsupported "internal:collect") Q E B) (s:={s with heap:=s.heap.push {cls:=.type "list",data:=.seq ([]:List Value).toArray}}) hh hd (Zc _ ho) U q u Aa E5 0 Y λz L g c' hk J t=>⟨rfl,Za (wpAny_load J (Zb (hQ z L g (λb o e=>hk b o Lv DS) t)))⟩) (λI B h=>?_) λe B h=>?_
 ·cases I with
  |done f=>obtain⟨e,h⟩:=h;cases e;exact h
  |again c=>exact⟨h.1,mC h.2 λr B h=>by obtain⟨e,h⟩:=h;subst e;exact h⟩
 ·cases h.1
end
section
theorem Jnr(B:BZ):nA X MO (λxs H Q=>∃l kvs g,xs=Qdk/\L2.Rd H l AM/\(kvs.map λp=>kV p.1)=g.map Yg/\g.Nodup/\g.length<60/\Out X H Q (.lst ((Pu.Jn g).map .str))):=by
 rintro Y s Z H xs us Q I rv⟨l,kvs,g,e,hr,hk,hn,hz,h⟩;subst e;obtain⟨u,rfl,rx⟩:=uA rv;cases rx;obtain⟨z,hd,ys,g3,o,es,ep,ho,hc,hdat,g7,g8,g9⟩:=yC Xy hr;have hl:es.size=By:=by have:=g8.length;rw[<-mJ g3]at this;simpa using this
 have hlw:By=g.length:=by have:=lA YN hk;simpa using this
 refine Calls.call_function_entry kind_sorted plain_sorted entry_sorted Qa9 ?_;unfold Builtin.«sorted»;refine Za (m:=checkCount "sorted" 1 1 _) (Zb (Za (JfQ (I.ok.hd B) hd ho hc.1 hdat Ad λF tk r kp A=>?_)));have U:Vals (g.map Yg) r.toList:=by
  rw[<-hk];refine JfZ (by have e1:=A.1;have e2:r.toList.length=r.size:=ZT;rw[Zj];lia) λj x v J U=>?_;obtain⟨e,he,rfl⟩:=A.2 j v (by simpa using U);rw[jC]at J;cases q:kvs[j]? with
  |none=>rw[q]at J;cases J
  |some y=>
   rw[q]at J;cases J;obtain⟨⟨k,v⟩,e1,e2,e3⟩:=lZ g3 q;obtain⟨hk',hv'⟩:=g8.get? (e:=e) (by simpa using he) e1;show RelV (kV y.1) X9;rw[e2];rcases Jr hk' with⟨j,t,L,z2⟩|⟨y,t,L,z2⟩|⟨L,z2⟩
   ·rw[L,z2];exact GR
   ·rw[L,z2];exact GR
   ·rw[L,z2];rfl
 generalize r.toList=its at U;have q1:StrsAre its g:=dZ U;have l4:g.length=BV:=by simpa using U.length
 refine Za (wpAny_newList ?_ (by rw[ZJ];lia));have E:(F.push SY).get? c9=So SY:=Ze _ rfl;refine Za (qA (ZF slot_list_sort ⟨_,E,rfl⟩ entry_list_sort (list_sort_treeK strKind_oneLt (s:={s with heap:=F.push SY,toks:=tk}) E q1.keysOf (λv₁ v₂ rest e=>keyKind_strs (by rw[<-e];exact q1)) Ad λst' a1 a2=>Ib) N6));obtain⟨ss,b1,b2,b3⟩:=sorted_out_str q1 a1 a2;obtain⟨e,he⟩:=sortedHeap_at (out:=(arrOf st').map (·.2)) E;have I1:L2.Inv X Y Z H {s with heap:=F,toks:=tk}:=I.kept (t':=tk) kp;have hd:=Jhc b2 b3 hn (λk=>Iff.rfl);subst hd;have hlen:=b2.length_eq;obtain⟨s1,w1⟩:=eI (K:=X.K) D9 Qcq;refine Zb ⟨_,rfl,.ref c9,_,I1.laid (a:=c9) (t':=tk) (λb o q'=>?_) (Zf _) (show ObjOk Xn X.w _ _ _ (.lst ((Pu.Jn g).map Yg))from⟨by rw[Zj,ZJ];lia,((arrOf st').map (·.2)).toList,e,uY b1,by rw[Array.toArray_toList];exact he⟩),rfl,h _ _ s1 w1⟩;have hlt:=Zh q';rw[sortedHeap_old (Zn hlt) (by rw[ZO];exact lB hlt)];exact Zc _ q'
def Jgm:∀{kvs:EH}{ws:Ag},JF (kvs.map λp=>keyV p.1)=So ws->(kvs.map λp=>kV p.1)=ws.map Yg
 |[],ws,h=>by cases h;rfl
 |p::kvs,ws,h=>by
  obtain⟨k,v⟩:=p
  cases k with
  |inr x=>
   replace h:(JF (kvs.map λp=>keyV p.1)).map (x::·)=So ws:=h
   cases q:JF (kvs.map λp=>keyV p.1)with
   |none=>rw[q]at h;cases h
   |some g=>
    rw[q]at h
    cases h
    simp only[Zl,Jgm q]
    rfl
  |inl n=>cases(show No=So ws from h)
  |non=>cases(show No=So ws from h)
def JsW(o:BZ):nA X MO (rC1 X .sortD):=by
 rintro Y s Z H xs B Q I A⟨x,d,e,r,h⟩;subst e;cases d with
 |dct t z ks L=>
  cases t with
  |true=>exact(show False from h).elim
  |false=>
   obtain⟨l,xs,rfl,J,U⟩:=r;obtain⟨q,g,rfl,rfl⟩:=dk_k J;simp only[op1]at h;split at h
   ·rename_i E F;split at h
    ·rename_i u;exact Jnr o Y s Z H _ B Q I A ⟨l,q,E,rfl,g,Jgm F,u.1,u.2,h⟩
    ·exact h.elim
   ·exact h.elim
 |_=>exact(show False from h).elim
variable{U:Ae}{a:Expr}{pa:Px}
def cSrtD(C:Ao)(o:G.mg "sorted"=No)(l:AG)(g:gloB nm "sorted"=To)(h:DC):PE X (.Call OF [a] [] pos) (tI X U (.un .sortD pa)):=eQ C (JsW XH) l g o PyProof.Rows.boot_sorted Ab Ab h
end
inductive CalleePe(G:Gw)(call:Ae)(fi:Nat)(c m:Str):Prop where
 |mk (C:Addr) (kk:Nat) (f:Addr) (fd:FuncData) (ps:List Str) (h:PySem.W.nsIn G.K mainGlobals c=So (So (.ref C))/\Cls G.K C/\Meth G.K C m f/\FnOk G.prog G.w G.K G.mg G.base (CXr G.prog G.w) kk f fd ps (spI G.K G.mg call fi)/\Room kk G.A.in1.in1/\Binds G.K fd ps []):CalleePe G call fi c m
structure CalleeP(G:Gw)(U:Ae)(fi:Nat)(c m:Str):Prop where
 ex:CalleePe G U fi c m
section
variable{U:Ae}{p:Px}
def Jko{C f:Addr}{kk:Nat}{fd:A7}{ps:Ag}{t:TA}(Cc:Ao)(hC:PySem.W.nsIn G.K mainGlobals CG=So Bo)(hm:CM){Z:Bf}{H:Hp}{Q:VK}(h:tI X U S8 Z H Q)
  (ht:∀O Y,ReadOk X.K H Z O->'Ƥ'.Good (λd=>∃J,d=.lst J/\∀E W,Same H W->Reps X.K W J E->Y E W) BE->t Z H Y):
  nP C m Oz [] (λF _ W=>∀C,F=.ref C->XE X C W) (λZ H Q=>∃v,Z[i]? =So Bj/\Q v H) t Z H Q:=by
 obtain⟨O,r,h⟩:=h;simp only[evD]at h;cases l:O[i]? with
 |none=>rw[l]at h;exact h.elim
 |some o=>
  rw[l]at h;cases o with
  |none=>exact h.elim
  |some d=>
   cases d with
   |obj a g fs=>
    simp only[Rs.bo,op1]at h;split at h
    ·rename_i hn;subst hn;obtain⟨v,hv,I⟩:=r i _ l;obtain⟨e1,C',dx,xs,h1,L,h3,h4⟩:=id I;subst e1;rw[Cc.K,hC]at L;cases L;simp only[Rs.bo]at h;refine⟨_,hv,a,dx,_,rfl,h1,pX hm,ht O _ r ?_⟩;cases q:evD U p O with
     |sk=>rw[q]at h;exact h.elim
     |ex c=>rw[q]at h;exact h
     |ok dd=>
      rw[q]at h;cases dd with
      |lst J=>
       simp only[Rs.bo,D.asL]at h;refine⟨J,rfl,λE W s rs=>?_⟩;refine⟨.obj a g fs::J,?_,?_⟩
       ·rw[xD];exact⟨_,_,rfl,I.mono s,rs⟩
       ·cases B:U fi (.obj a g fs::J)with
        |ok d=>rw[B]at h;exactλv u A rd=>h v u (s.trans A) rd
        |ex c=>rw[B]at h;exactλC2 u z A C3 e3=>by cases e3;exact h C2 u z (s.trans A)
        |sk=>rw[B]at h;exact h
      |_=>exact(show False from h).elim
    ·exact h.elim
   |_=>exact(show False from h).elim
def JsV{pl:CQ}(l:Ao)(t:MW)(E:CM)(z:visB nm x=To)(hi:N[i]? =So x)(s:Gi)(o:Fg)(B:Ec)
  (q:Co) (hpl:Dd)
  (ht:'б' (eval EU QL=(do
   let ov<-eval Ga QL
   standAt XS
   let(f,first)<-holding [ov] D6
   callWith pos f first 'ž' D5)) Ah):PE X EU (tI X U S8):=by obtain⟨C,kk,f,fd,ps,J,Y,u,F,I,A⟩:=t.ex;have L:=l.g;subst L;exact PE.weak (Jmy (nE (by rw[l.hN];exact hi) (l.vis x z) s o) Y u F (Room.out I) A .nil yH B q hpl ht) λZ H Q h=>Jko (f:=f) (kk:=kk) (fd:=fd) (ps:=ps) l J E h λO Q' r g=>⟨O,r,g⟩
def Jpo {pl:CQ} (l:Ao) (s:MW) (I:CM) (A:visB nm x = To) (hi:N[i]? = So x) (q:Gi) (o:Fg)
  (t:'б' (eval M6 QL = (do
   let ov <- eval Ga QL
   standAt XS
   let (f,first) <- holding [ov] D6
   callWith pos f first 'ȶ' D5)) Ah):PE X M6 Vy:=by obtain ⟨C,kk,f,fd,ps,L,h2,z,F,E,B⟩:=s.ex;have Y:=l.g;subst Y;exact PE.weak (JnF (nE (by rw [l.hN]; exact hi) (l.vis x A) q o) h2 z F (Room.out E) B .nil yH t) λZ H Q h=>Jko (f:=f) (kk:=kk) (fd:=fd) (ps:=ps) l L I h λO Q' r g=>by obtain ⟨J,ed,u⟩:=g;cases ed;exact u [] H ED rfl
end
def plains_app:∀{J es:Am},Jc (J++es)=(Jc J&&Jc es)
 |[],es=>by simp[Jc]
 |d::J,es=>by simp only[jB,Jc,plains_app,Bool.and_assoc]
def look_put{g:Str}{d:α}(h:(g==f)=Fo):∀{ns:Ag}{fs:List α},(ns.zip Rk).lookup g='ϕ'.lookup g
 |[],_=>rfl
 |n::ns,[]=>by simp[putN]
 |n::ns,x::fs=>by
  simp only[putN]
  split
  ·rename_i z
   subst z
   simp only[zE,Zk,h]
  ·simp only[zE,Zk,look_put h]
section
variable{U:Ae}{es sts:BH}{p:Px}
def Jnw:PSs X sts (tS X U M H0 PV):=λY s Z H D I⟨O,e,h⟩=>(show False from h).elim
end
section
variable{U:Ae}{p:Px}
def cP{pl:CQ}(C:Ao)(o:MW)(g:Gz)(r:CM)(s:Ec)
  (h:Xb) (l:'(')
  (t:eval EU QL=(do
   let ov<-eval Ga QL
   standAt XS
   let(f,first)<-holding [ov] D6
   callWith pos f first 'ž' D5)):PE X EU (tI X U S8):=by simp only[chkV,Zd,ZB]at g;obtain⟨u,q⟩:=plainN.d g.2;exact JsV C o r g.1.2 g.1.1 u q s h l t
def cP0 {pl:CQ} (C:Ao) (h:MW) (g:Gz) (q:CM)
  (o:eval M6 QL = (do
   let ov <- eval Ga QL
   standAt XS
   let (f,first) <- holding [ov] D6
   callWith pos f first 'ȶ' D5)):PE X M6 Vy:=by simp only [chkV,Zd,ZB] at g;obtain ⟨r,l⟩:=plainN.d g.2;exact Jpo C h q g.1.2 g.1.1 r l o
end
def SmB(x:Addr)(H W:Hp):Prop:=∀b o,H b=So o->b≠x->W b=So o
def SmB.sp{x dx:Addr}{fs:List (Str×V)}(s:SmB x H W)(h:H x=So DJ):SameP H W:=λb o e p=>s b o e λz=>by subst z;rw[h]at e;cases e;cases p
def spNS(K:Aj):Sp:=λh H Q _=>∃x g C,h=[.ref x]/\H x=So (.ins C g [])/\PySem.W.nsIn K mainGlobals K3=So Bo/\∀W xs,SmB x H W->W x=So (.ins C g (nsS.zip xs))->Rep K W (Jkk x) (.ref x)->Q .non W
def JvX(t:Str):TE:=λZ H Q=>∀l,H l=No->Q BC Ph
def JpI(K:Aj):L2.TS:=tSeq (sFld K QcY tDNewK Ik) (tSeq (sFld K QcY (JvX Fi) Fi) (sFld K QcY (JvX FM) FM))
section
variable{w:A0}
def clS:clsN nsS=oS "Site":=by decide+kernel
def JoE{f:Addr}(F:D7)(S:FnScope ps ps B1)(hps:Aw=1)(hf:∀A,∀g∈nsS,FldC An g)
  (I:∀(X:Cx)(A:Bd),Ctx X An ps 'Š'.names->PSs X Df (JpI K)):FnOk P w K mg base B8 1 f fd ps (spNS K):=by
 obtain⟨oc,od,kV,doc,pm,an,cdv,ct,osl,rfl,lk,hcd⟩:=F.ex;refine pK lk hcd S (λvs H Q E h=>?_) (λA outer s H vs Q E hr h=>?_)
 ·obtain⟨y,J,C,rfl,_⟩:=h;exact hps.symm
 ·obtain⟨y,J,C,rfl,hy,hC,k⟩:=h;refine⟨_,I _ _ (mQ S hr),?_⟩;have U:∀g∈nsS,Cls K C/\NoAttr K C g:=λg hg=>hf A g hg nsS C (by rw[clS];exact hC);have s0:(L2.pB ps [V.ref y])[0]? =So QdN:=rfl;intro T hT;have t:T≠y:=(Je hy hT).symm;refine⟨_,s0,y,C,J,[],rfl,by rw[Jb (Ne.symm t)];exact hy,(U Ik (by simp[nsS])).1,(U Ik (by simp[nsS])).2,by decide,?_⟩;intro p L;have r:p≠y:=λz=>by subst z;rw[Jd]at L;cases L
  have hpT:p≠T:=λz=>by subst z;rw[Jb r,Jd]at L;cases L
  refine⟨_,s0,y,C,J,_,rfl,by rw[Jb (Ne.symm r),Jd],(U Fi (by simp[nsS])).1,(U Fi (by simp[nsS])).2,by show 1<1000;decide,?_⟩;intro q u;have l:q≠y:=λz=>by subst z;rw[Jd]at u;cases u
  have B:q≠p:=λz=>by subst z;rw[Jb l,Jd]at u;cases u
  have Y:q≠T:=λz=>by subst z;rw[Jb l,Jb B,Jb l,Jd]at u;cases u
  refine⟨_,s0,y,C,J,_,rfl,by rw[Jb (Ne.symm l),Jd],(U FM (by simp[nsS])).1,(U FM (by simp[nsS])).2,zF (JbK _ _ _) (by show 2<1000;decide),?_⟩;rw[Jb r,Jb hpT]at L;rw[Jb l,Jb B,Jb l,Jb Y]at u;have ih:∀h:Hp,upd h y QdO y=So QdO:=λh=>Jd;refine k _ Nq (λb o e nb=>?_) (ih _) ⟨rfl,C,J,Nq,ih _,by rw[clS];exact hC,rfl,?_⟩
  ·rw[Jb nb,Jb (Je e u),Jb nb,Jb (Je e L),Jb nb,Jb (Je e hT)];exact e
  ·refine⟨_,_,rfl,⟨T,[],rfl,⟨[],?_,rfl,rfl⟩,rfl⟩,_,_,rfl,⟨p,[],rfl,?_,rfl⟩,_,_,rfl,⟨q,[],rfl,?_,rfl⟩,rfl⟩
   ·rw[Jb t,Jb (Ne.symm Y),Jb t,Jb (Ne.symm hpT),Jb t,Jd]
   ·rw[Jb r,Jb (Ne.symm B),Jb r,Jd]
   ·rw[Jb l,Jd]
end
inductive MakeSe(G:Gw):Prop where
 |mk (C f:Addr) (fd:FuncData) (ps:List Str) (h:Mk G.K C f/\FnOk G.prog G.w G.K G.mg G.base (CXr G.prog G.w) 1 f fd ps (spNS G.K)/\Room 2 G.A/\G.mg (oS "Site")=So (.ref C)/\PySem.W.nsIn G.K mainGlobals (oS "Site")=So (So (.ref C))/\Binds G.K fd ps []):MakeSe G
structure MakeS(G:Gw):Prop where
 ex:MakeSe G
section
variable{U:Ae}{b:Bs}{q:Px}{rest:BH}{p pos':Pos}
def EnvOk.sp(e:C7)(l:∀k∈M,∀d,O[k]? ≠So BG)(t:plE O=To)(o:A3)(s:CS):EnvOk K M H0 W Z O:=
 ⟨o.same Yb s,e.len,λk d g h=>let⟨v,r,u⟩:=e.read k d g h;⟨v,r,Rep.plain s.hid d (rQ t h) u⟩,λk d g h=>absurd h (l k g d),λk _ _ d _ g _ _ h=>absurd h (l k g d)⟩
end
end Rd
namespace Rd
open PySem PySem.Spec PyProof.Rows L2 Pu PySem.W
variable{x y dn qual cn:Str}{H H0:Hp}{K:Aj}{N:Ag}{X:Cx}{P:Be}{w:A0}{mg:Bi}{G:Gw}{nm:A8}{base:Heap}{i j k fi kt k2:Nat}{pos p1 px py apos pt pt2 pos':Pos}{M:Aq}{bc:AI}{Z:Bf}{s:Ak}{st:Stmt}{f c Pt a:Addr}{e body:Expr}{p:Px}{A:Bd}{fd:A7}{b:Bs}{params:Iu}{O:Fm}{tq:Addr->Option Str}
section
variable{defs:BW}{bdefs:Fn}{C:Addr}
noncomputable def OkP (P:Be) (w:A0) (K:Aj) (mg:Bi) (base:Heap) (defs:BW) (C:Addr) (k:Nat):Nat->List MethE->Prop
 |_,[]=>True
 |i,e::T=>(∀f g,Met1 K C e f g->FnOk P w K mg base B8 (3*k) f g e.2.2.2 QbR)/\OkP P w K mg base defs C k Bq T
def JiX:∀(T:IB)(i:Nat),OkP P w K mg base defs C 0 i T
 |[],_=>trivial
 |e::T,i=>⟨λ_ _ _=>Jni,JiX T Bq⟩
theorem JeD{k:Nat}{A:Bd}{cn:Str}(cl:aB)(l:PySem.W.nsIn K mainGlobals cn=So Bo)(m:IY):∀{T:IB}{i j:Nat}{e:MethE},HasM K C T->OkP P w K mg base defs C k i T->T[j]? =So e->CalleeP An BR (i+j) cn e.1
 |[],_,_,_,_,_,h=>by simp at h
 |d::T,i,0,e,hm,ok,h=>by
  simp only[tE,ZP]at h
  subst h
  obtain⟨⟨f,g,D⟩,_⟩:=hm
  exact⟨⟨C,3*k,f,g,_,l,cl,D.m,ok.1 f g D,m.in1.in1,D.b⟩⟩
 |d::T,i,j+1,e,hm,ok,h=>by
  have:=JeD (cn:=cn) cl l m (j:=j) hm.2 ok.2 (by simpa using h)
  rw[show i+1+j=i+(j+1) by lia]at this
  exact this
theorem Jew{k:Nat}{A:Bd}{cn:Str}(cl:aB)(l:PySem.W.nsIn K mainGlobals cn=So Bo)(m:IY):∀{T:IB}{i j:Nat}{e:MethE},HasM K C T->OkM P w K mg base defs bdefs C k i T->T[j]? =So e->CalleeB An BO (i+j) cn e.1
 |[],_,_,_,_,_,h=>by simp at h
 |d::T,i,0,e,hm,ok,h=>by
  simp only[tE,ZP]at h
  subst h
  obtain⟨⟨f,g,D⟩,_⟩:=hm
  exact⟨⟨C,3*k,f,g,_,l,cl,D.m,ok.1 f g D,m.in1.in1,D.b⟩⟩
 |d::T,i,j+1,e,hm,ok,h=>by
  have:=Jew (cn:=cn) cl l m (j:=j) hm.2 ok.2 (by simpa using h)
  rw[show i+1+j=i+(j+1) by lia]at this
  exact this
def foP{l:Gw->CallD->Prop}{e:MethE}{d:DefD}{b:Sx}(E:∀A,Room Dp A->l An BR)(t:∀{X:Cx}{G:Gw}{U:Ae}{H0:Hp},l G U->Ctx X G N (Ja e.2.2.1).names->HX X (Ja e.2.2.1).names->PSs X (Jl e.2.2.1) Q8)
  (o:'б' (defs[i]? =So d) Ah) (hb:'б' (XF=b) Ah) (h:'б' ((nG N e.2.2.2 (Ja e.2.2.1)&&d.slots==Xr&&d.params==e.2.2.2.length&&M.all (λi=>decide (e.2.2.2.length<=i))&&decide (e.2.2.2.length<=Xr))=To) IL):
  ∀f g,Met1 K C e f g->FnOk P w K mg base B8 (3*A4) f g e.2.2.2 RB:=λf g D=>by
 simp only[Zd,ZB,ZQ,Zv]at h
 obtain⟨⟨⟨⟨z,B⟩,q⟩,r⟩,m⟩:=h
 subst hb
 exact JtW (j:=3*k+2) D.F (fE z) o B q r m λX A H0 C u v=>t (E A u) C v
def tX{f:Str}(hB:PySem.W.nsIn K mainGlobals (oS "Board")=So No)(g:PySem.W.nsIn K mainGlobals K3=So Bo)(cl:aB)(l:NoAttr K C f)(A:Bd):FldC An f:=λm o h=>by
 unfold clsN at h
 split at h
 ·rw[hB]at h;cases h
 ·rw[g]at h;cases h;exact⟨cl,l⟩
end
section
variable{w:Bool}{U:Ae}{ek ev:Expr}{pk:Px}{f z:Str}{pz mpos cpos spos dpos:Pos}
def bNewL(C:Ao)(m:A3)(l:chkV N nm 0 x=To)(h:DM)(g:swapsWith QbT (So HA) Xt QL=pure Fo):
  PS X (.Assign O5 QbT pos) UL:=JqX C m (sG l) h g
def bAppF(C:Ao)(r:A3)(l:chkV N nm 0 x=To)(q:DM)(t:BX)(m:(mpos.endLine==YG)=To)
  (h:Nw) (g:attributeBase HA "append" QL (eval HA QL)=eval HA QL)
  (o:Nz):
  PS X WI UZ:=JsK C r (sG l) q t m h g o
def bPutK(C:Ao)(r:A3)(q:chkV N nm 0 x=To)(m:DM)(g:ML)(h:PE X ev E1)
  (o:Nw) (l:swapsWith ev UD Xt QL=pure Fo):
  PS X (.Assign PJ ev pos) Vq:=JrU C r (sG q) m g h o l
def bPopK(C:Ao)(q:A3)(o:chkV N nm 0 x=To)(h:DM)(g:ML)(m:Qy)
  (l:Nw):
  PS X WB Va:=JqV C q (sG o) h g m l
end
section
variable{outer:A5}{Q:VK}{E:XK}{U:Ae}{en rn pc:Str}{fl fc CRa:Addr}{fdc:A7}{W9:VK->XK->Prop}
theorem Jmu(F:D7)(T:NI)(hbt:Binds K fd [dn] [])(e0:FU)(hr:Room 3 A)(hmr:mg rn=So IF)
  (FN:FnN P w K mg base fc fdc [pc] (spI K mg U fi)) (hmc:mg cn=So Iz) (hkc:PySem.W.keepIn K Iz=To) (hbc:Binds K fdc [pc] [])
  (Wm:∀Q' t E'',(∀m o L,t m o L->E'' m o L)->W9 Q' t->W9 Q' E'')
  (deed:∀(A':Bd)(h:A5)(l:Ak)(Q':VK)(t:XK),Room 2 A'->Env0 P w K mg base A' h l H->(∃env',A'=A.deeper env')->(∀b o,s.heap.get? b=So o->H b=No->∃sl,l.heap.get? b=So {o with slots:=sl})->
   W9 Q' t->FnAt fl l.heap/\codeAny Cf A' (.call (.ref fl) Fv) (CR B8 h P w H l Q' t) l)
  (g:W9 Q λm _ L=>∃(c:Str)(C:Addr)(d:D),m=.ref C/\PySem.W.nsIn K mainGlobals c=So Bo/\PySem.W.exmOne K AX IF=So To/\U fi DL=.ok d/\∀v W,Same L W->Rep K W d v->Q v W):
  codeAny Cf A (.call A6 ⟨Z5,[]⟩) Te s:=by
 obtain⟨oc,od,kV,doc,pm,an,cdv,ct,osl,rfl,lk,hcd⟩:=F.ex;obtain⟨p1,p2,p3,np,p4,p5,p6,p7,hp,pos,B⟩:=T.body;have S:=T.sc;have pl:=T.pl;simp only[Zd]at pl;obtain⟨⟨⟨pl1,pl2⟩,pl3⟩,pl4⟩:=pl;have KX:K.In Re:=e0.mod.kin.keeps λb o e=>(e0.bs b o e).1;have lim:s.heap.NoLimit:=e0.mod.nolimit.keeps λb o e=>(e0.bs b o e).1;have J:∀y∈[dn].zip [Value.ref fl],'Š'.names.lookup y.1=So .local\/('Š'.names.lookup y.1=So .cell/\((cellsFrom DF 'Š'.names []).lookup y.1).isSome=To):=λ⟨n,v⟩hy=>by
  rcases S.par n (oJ hy).1 with q|q
  ·exact .inl q
  ·exact .inr S7
 have hb:=hbt s Z5 KX rfl;refine iT hr.depth aZ rfl S.co S.gen rfl Tq (hb _ _ _ _ ?_);refine jT S.kind J λenv1 he s1 x=>?_;subst he;refine T4;have I:L2.Inv WH [] (pB QcC Z5) H s1:=wY S hr.hd e0 rfl MC x;have nd:(QcC:List Str).Nodup:=S.nd;have hr1:Room 2 (A.deeper Hs):=hr.deeper _;have main:PS WH (.Try Wi WW [] [] pos)
   (λD Z H1=>Z=pB QcC Z5/\H1=H/\D.rt=Q):=by
  rintro Y s2 Z H1 D I2⟨e1,e2,e3⟩;subst e1 e2;refine wpAny_Try_except ?_;refine ZL (qI (lE (X:=Cx.mk1 WL _ Y) (pos:=p3) (JsR (i:=0) (p1:=p1) (pos:=p2) (x:=dn) rfl (.inl T.ld) (plainN.d pl1).1 (plainN.d pl1).2)) [] s2 _ H1 ⟨λ_ _=>False,Q,λ_ _=>False,λ_ _=>False⟩ (Inv.to1 I2) ?_) (λf s3 q=>?_) Q2
  ·refine⟨fl,rfl,λpins' l I'=>deed _ _ l _ _ hr1 I'.env0 AJ (λb o e n=>I'.base.any e n (by show b∉([]:List Addr);simp)) (Wm _ _ _ ?_ g)⟩
   rintro m o L⟨c,CC,d,rfl,g1,g3,hd,hg⟩C3 eC a l F;cases eC;refine JkC (je:=1) (te:=λZ H Q=>∃v,Z[1]? =So Bj/\spI K mg U fi [v] H Q λ_ _ _=>False) I2.ok rfl rfl rfl F T.lr hmr (plainN.d pl3).1 g3 nd rfl T.le (λt=>Jpx (X:=Cx.mk2 WL _ t Y) FN ?_ ?_ T.lc hmc hkc hbc (plainN.d pl4).1 rfl (.inl T.le) (plainN.d pl2).1 (plainN.d pl2).2) λo ho hn=>?_
   ·have:=hr1.dp;show(A.deeper Hs).depth+5<_;lia
   ·have:=hr1.un;show(A.deeper Hs).units+100<_;lia
   ·have up:Same L (upd L a G2):=λb u e=>by rw[Jb (Je e hn)];exact e
    refine⟨.ref a,rfl,DL,Reps.one ⟨a,o,_,rfl,Jd,ho,g1⟩,?_⟩;rw[hd,e3];exactλv W l r=>hg v W (up.trans l) r
  ·cases f with
   |brk=>obtain⟨_,_,_,q⟩:=q;exact q.elim
   |cont=>obtain⟨_,_,_,q⟩:=q;exact q.elim
   |next=>obtain⟨_,_,_,q⟩:=q;exact q.elim
   |ret u=>obtain⟨v,σ',W,I',rv,q⟩:=q;exact⟨v,σ',W,Inv.of1 I',rv,by rw[e3];exact q⟩
 rw[B];refine ZL (qI main [] s1 _ H {nx:=λ_ _=>False,rt:=Q} I Qcc) (λfl l hs=>?_) λe l hs=>hs;cases fl with
 |ret u=>obtain⟨v,σ',W,J9,rv,q⟩:=hs;exact V3
 |next=>obtain⟨_,_,_,q⟩:=hs;exact False.elim q
 |brk=>obtain⟨_,_,_,q⟩:=hs;exact False.elim q
 |cont=>obtain⟨_,_,_,q⟩:=hs;exact False.elim q
end
section
variable{outer:A5}{Q:VK}{E:XK}{scope:AS}{q:Str}{clos:DG}{σ2:Bf}{te:Addr->TE}
def Jpt(l:FU)(hr:Room 1 A)(hl:LamAt H f params body scope q clos)(hσ:σ2.length=Xr)(hk:scope.kind=.function)(hco:scope.isCoroutine=Fo)(hgen:scope.isGenerator=Fo)
  (J:∀pm c ctv,bindArgs (kla_fn "<lambda>" q params body scope clos pm aO ctv) Fv=pure []) (m:∀y∈CW,y.2≠.cell)
  (inj:∀x y c,clos.lookup x=So c->clos.lookup y=So c->x=y) (has:∀x,scope.names.lookup x=So .free->∃c,clos.lookup x=So c) (cel:∀x c,clos.lookup x=So c->(∃v,s.heap.IsCell c v)/\H c=No)
  (loc:∀(i:Nat)(x:Str)(v:V),N[i]? =So x->σ2[i]? =So Bj->∃u c,RelV v u/\scope.names.lookup x=So .free/\clos.lookup x=So c/\s.heap.IsCell c (So u))
  (L:∀c':Addr,PE T6 body (te c'))
  (g:∀c',(∀C W,E AX No W->XE T6 C W)->te c' σ2 H Q):
  codeAny Cf A (.call A6 Fv) Te s:=by
 obtain⟨pm,c',ctv,oc,vs,t,ho,hc,hd,hv⟩:=hl;obtain⟨hoc,_⟩:=l.hok c' _ hc;obtain⟨ho,_⟩:=l.hok f _ ho;have lim:s.heap.NoLimit:=l.mod.nolimit.keeps λb o e=>(l.bs b o e).1;refine kla_callFunE hr.depth ho rfl hco hgen rfl ⟨c',oc,vs,t,rfl,hoc,hd,hv⟩ ?_;rw[J];refine Zb (wpAny_newFunctionEnv m (by intro x hx;simp at hx) (λh1 hns Y=>⟨lim.fresh _ Y,?_⟩) hk);show codeAny _ _ (.expr body SR) _ _;refine kla_codeExpr ?_;have k1:∀b o,s.heap.get? b=So o->h1.get? b=So o:=λb o e=>Y.extBut b o Lv DS;have kc:∀c v,s.heap.IsCell c v->h1.IsCell c v:=λc v⟨o,e,d⟩=>⟨o,k1 _ _ e,d⟩;have I:L2.Inv T6 [] σ2 H {s with heap:=h1,toks:=Xl+([]:List (Str×Value)).length}:=by
  have B:∀b:Addr,b∉(cxE B8 P w K mg base N SR (λ_=>Fo) To A outer s H E).ex:=λb z=>absurd (show b∈([]:List Addr)from z) Af;refine⟨⟨l.mod,hk,rfl,rfl,Zf _,inj,λy U=>?_,λy c z=>(by cases z),λ_=>hr.hd,eT l.frames,.inr Dr,λb z=>absurd z (B b),l.bs,l.bsz,λb _ _=>B b,λb z=>absurd z (B b),l.funs,l.frf⟩,
   rfl,l.bare,Un.kept k1,⟨_,hns,λi y v h1 h2 h3=>?_⟩,λy c h=>?_,l.hok.fresh (Zf _),λy c h=>(cel y c h).2,λp hp=>absurd (show p∈([]:List (Addr×Obj))from hp) Af,l.hok.kept k1,hσ⟩
  ·have U:scope.names.lookup y=So .cell\/scope.names.lookup y=So .free:=U;rcases U with U|U
   ·exact absurd rfl (m _ (vC U))
   ·exact has y U
  ·obtain⟨u,c,r,g1,g2,g3⟩:=loc i y v h1 h2;exact⟨u,r,.inr ⟨.inr g1,c,g2,kc _ _ g3⟩⟩
  ·obtain⟨⟨v,z⟩,_⟩:=cel y c h;exact⟨v,kc _ _ z⟩
 refine ZL (L c' [] _ σ2 H Q I (g c' λC W z a s' F=>hZ rfl F z)) (λu s'⟨v,W,J9,rv,q⟩=>?_) λe s' z=>z;exact V3
end
inductive tCT(X:Cx)(call:Ae)(bc:AI)(fi:Nat)(cs:Ag)(f i:Nat)(cn m:Str)(p:Px)(σ:Bf)(H:Hp)(Q:VK):Prop where
 |mk:∀env a ns fs ds,ReadOk X.K H σ env->env[i]? =So (So (.obj a ns fs))->clsN ns=cn->ns.contains m=Fo->evD call p env=.ok (.lst ds)->Jc ds=To->((bc f (.obj a ns fs) ds).Good (λd st'=>∀v H',SameP H H'->Rep X.K H' st' Ax->Rep X.K H' d v->Q v H') (λc st'=>c∈cs/\∃d,call fi DL=.ok d/\∀v H',SameP H H'->Rep X.K H' st' Ax->Rep X.K H' d v->Q v H'))->tCT X call bc fi cs f i cn m p σ H Q
def lF(X:Cx)(te:Cx->TE)(M:Aq)(U:Ae)(fi:Nat)(cs:Ag):TE:=λZ H Q=>∃r:Hp->VK->XK->Prop,
 (∀g m l q,(∀h o t,l h o t->q h o t)->r g m l->r g m q)/\
 (∀u g m l,u.K=X.K->u.mg=X.mg->Same H g->r g m l->(∀C W,l AX No W->XE u C W)->te u Y5 g m)/\
 ∀g,Same H g->r g Q λh _ t=>∃(c:Str)(C:Addr)(d:D),h=.ref C/\c∈cs/\X.mg c=So AX/\U fi DL=.ok d/\∀v W,Same t W->Rep X.K W d v->Q v W
section
variable{U:Ae}{sc:AS}{lp:Pos}{m:Str}{cs:Ag}{f:Nat}
theorem zW{te:Cx->TE}(C:Ao)(L:Y8)(T:Q5)(hr:Room (j+3) G.A)(hg:chkG nm x=To)(hl:lamB N nm M sc=To)
  (hE:∀(X':Cx)(A':Bd),Ctx X' TC N sc.names->Room j A'->PE X' body (te X'))
  (hbind:∀q clos pm c ctv,bindArgs (kla_fn "<lambda>" q params body sc clos pm aO ctv) Fv=pure []:=by intros;rfl) (hdef:V9)
  (hs:V8):
  PE X RO (lF X te M U fi cs):=by
 obtain⟨ft,fd,qual,st,dn,en,rn,cnn,CRa,fc,fdc,pc,F,T',hbt,hm,hmr,hcs,FN,hmc,hkc,hbc⟩:=T.ex
 have hG:=C.g
 subst hG
 simp only[lamB,Zd,ZB,kB,ZQ]at hl
 obtain⟨⟨⟨⟨l1,l2⟩,l3⟩,l4⟩,l5⟩:=hl
 have B:∀y∈sc.names,y.2≠.cell:=λy h=>by
  have:=(l4 y h).1
  simpa using this
 have l:∀y∈sc.names,y.2=.free->celB nm y.1=To:=λy h e=>by
  have:=(l4 y h).2
  simpa[e]using this
 have hslot:∀i y,N[i]? =So y->i∉M->sc.names.lookup y=So .free:=λi y e hm=>by
  have hi:i<N.length:=(Zz.mp e).1
  have:=l5 i (List.mem_range.mpr hi)
  rw[e]at this
  simpa[hm]using this
 simp only[chkG,Zd]at hg
 rintro Y s Z H Q I⟨W9,hWm,hWt,hWg⟩
 have hcl:closureFor sc QL=pure FZ:=Jcv λy h e=>I.ok.has y.1 (C.cel y.1 (l y h e))
 refine eG (xG I (C.glo x hg.1) hm ?_ (plainN.d hg.2).1)
 refine callWith_K (h₀:=XC) YF F.kp (thn ((Jq (Jtz (lp:=lp) L hcl hdef) JP hs) pos Y s Z H (λvs H1=>∃f',vs=[.ref f']/\Same H H1/\LamAt H1 f' params body sc L6 FZ) I λf' W sm la=>⟨f',rfl,sm,la⟩) λus s1⟨vs,H1,I1,rv,f',e1,sm,la⟩=>⟨I1.kIn,?_⟩) hs rfl
 subst e1
 obtain⟨u,rfl,ru⟩:=rv.one
 obtain rfl:u=Value.ref f':=ru
 have sub:∀y c,'ǐ'.lookup y=So c->X.env.cells.lookup y=So c:=iM Xw [] λy c e=>by cases e
 refine sF (mC (Jmu (Q:=Q) (E:=λ_ _ _=>False) (fl:=f') (W9:=W9 H1) F T' hbt I1.env0 Ko hmr FN hmc hkc hbc (hWm H1) (λA' outer' s' Q' E' hr' e0' hA kp gd=>?_) (hWm H1 _ _ _ ?_ (hWg H1 sm))) λr s' hq=>?_)
 ·obtain⟨J,rfl⟩:=hA
  have kc:∀y c,X.env.cells.lookup y=So c->∀v,s1.heap.IsCell c v->s'.heap.IsCell c v:=λy c hc v⟨o,ho,hd⟩=>by
   obtain⟨sl,e⟩:=kp c o ho (I1.freeC y c hc)
   exact⟨_,e,hd⟩
  refine⟨?_,Jpt (N:=N) (σ2:=fM M Z) (te:=λc'=>te (cxE Kx Xn X.w X.K X.mg XC N Ws (λ_=>Fo) To (X.A.deeper J) outer' s' H1 E')) e0' (hr'.mono Ad) la ?_ l1 l2 l3 (hbind _ _) B (λy z c e1 e2=>I1.ok.inj y z c (sub _ _ e1) (sub _ _ e2)) (λy e=>?_) (λy c e=>?_) (λi y v e1 e2=>?_) (λc'=>?_) (λc' hx=>?_)⟩
  ·obtain⟨pm,c',ctv,oc,vs,t,hf,_⟩:=la
   obtain⟨ho,_⟩:=e0'.hok f' _ hf
   exact⟨_,_,_,_,ho⟩
  ·unfold fM
   rw[List.length_mapIdx,I.len,C.hN]
  ·exact lJ Xw [] y (vC e) (I1.ok.has y (C.cel y (l _ (vC e) rfl)))
  ·have hc:=sub _ _ e
   obtain⟨v,z⟩:=I1.cell y c hc
   exact⟨⟨v,kc y c hc v z⟩,I1.freeC y c hc⟩
  ·obtain⟨hm',e3⟩:=JjX e2
   have hfr:=hslot i y e1 hm'
   have hce:=l _ (vC hfr) rfl
   obtain⟨m,_,hloc⟩:=I1.loc
   obtain⟨u,ru,lk⟩:=hloc i y v (by rw[C.hN];exact e1) e3 (C.vis y (JjV hce))
   rcases lk with⟨q1,_⟩|⟨_,c,q2,q3⟩
   ·have:=C.cel y hce
    rw[q1]at this
    rcases this with z|z<;>cases z
   ·obtain⟨c2,e4⟩:=lJ Xw [] y (vC hfr) ⟨c,q2⟩
    have e5:=sub _ _ e4
    rw[q2]at e5;cases e5
    exact⟨u,c,ru,hfr,e4,kc y c q2 _ q3⟩
  ·have hj:Room j ((X.A.deeper J).deeper Ws):=((hr.mono (show j+2<=j+3 by lia)).deeper J).deeper _
   refine hE _ _ ?_ hj
   exact{
    g:=rfl
    hN:=rfl
    nd:=C.nd
    vis:=λy h=>by
     show Vis sc y
     unfold visB at h
     split at h
     ·rename_i z;exact .inl z
     ·rename_i z;exact .inr Fc
     ·rename_i z;exact .inr Gq
     ·cases h
    cel:=λy h=>by
     show sc.names.lookup y=So .cell\/sc.names.lookup y=So .free
     unfold celB at h
     split at h
     ·rename_i z;exact .inl z
     ·rename_i z;exact .inr z
     ·cases h
    glo:=λy h=>by
     show sc.names.lookup y=So .globalImplicit
     unfold gloB at h
     split at h
     ·rename_i z;exact z
     ·cases h
    sto:=λy h=>by
     show Loc sc y/\(Fo=To\/sc.names.lookup y=So .local)
     unfold locB at h
     split at h
     ·rename_i z;exact QaH
     ·rename_i z;exact absurd rfl (B _ (vC z))
     ·cases h
    calm:=rfl
    un:=hj.units
    fr:=SW}
  ·exact hWt _ H1 Q' E' rfl rfl sm gd hx
 ·rintro cls o H2⟨c,CC,d,rfl,hc,hmc2,hd,hg2⟩
  obtain⟨C2,g1,g2,g3⟩:=hcs c hc
  rw[show X.mg c=So (.ref C2)from g2]at hmc2
  cases hmc2
  exact⟨c,_,d,rfl,g1,g3,hd,hg2⟩
 ·cases r with
  |error e=>
   have hq':CXr Xn X.w Xp H1 s1 Hg e s':=hq
   obtain⟨_,_,_,_,_,_,_,_,_,_,_,_,_,hf⟩:=hq'
   exact hf.elim
  |ok fl=>
   cases fl with
   |ret u=>exact I1.after hq
   |next=>exact False.elim hq
   |brk=>exact False.elim hq
   |cont=>exact False.elim hq
def yR{h:Hp}(r:Kv)(sm:Same H h):ReadOk X.K h Y5 b8:=λk d e=>by
 rw[kJ]at e
 simp only[qJ]at e
 cases q:O[k]? with
 |none=>rw[q]at e;cases e
 |some o=>
  rw[q]at e
  simp only[wF,ZP]at e
  split at e
  ·cases e
  ·rename_i g
   subst e
   obtain⟨v,t,l⟩:=r k d q
   refine⟨v,?_,Rep.mono sm d l⟩
   unfold fM
   rw[List.getElem?_mapIdx,t]
   simp[g]
def tCT.gen(Y:BN)(hi:(!M.contains i)=To){Q:VK}(h:tCT X U bc fi cs f i cn m p Z H Q):lF X (λX'=>tC X' U bc f i cn m p) M U fi cs Z H Q:=by
 obtain⟨O,a,ns,fs,J,r,ho,hcn,hnm,hev,hpl,h⟩:=h;have hiM:i∉M:=by simpa using hi
 refine⟨λo Q' I=>(∀c g,bc f Cn J=.ex c g->c∈cs)/\(bc f Cn J).Good (λd g=>∀v W,SameP o W->Rep X.K W g Ax->Rep X.K W d v->Q' v W) (λc g=>∀C W,X.mg c=So AX->SameP o W->Rep X.K W g Ax->I AX No W),λo Q' I E'' u z=>⟨z.1,?_⟩,λX' o Q' I eK eM sm l hx=>?_,λo sm=>GQ⟩
 ·have z:=z.2;cases q:bc f Cn J with
  |ok d g=>rw[q]at z;exact z
  |ex c g=>rw[q]at z;exactλC W h1 B t=>u _ _ _ (z C W h1 B t)
  |sk=>rw[q]at z;exact z
 ·refine⟨JD M 0 O,a,ns,fs,by rw[eK];exact yR r sm,?_,hcn,hnm,?_⟩
  ·rw[kJ,ho];simp[hiM]
  ·rw[Jv U O Y,hev];refine⟨J,rfl,hpl,?_⟩;have l:=l.2;rw[eK,eM];cases q:bc f Cn J with
   |ok d g=>rw[q]at l;exact l
   |ex c g=>rw[q]at l;exactλC W h1 B t=>hx C W (l C W h1 B t)
   |sk=>rw[q]at l;exact l
 ·intro c g q;rw[q]at h;exact h.1
 ·cases q:bc f Cn J with
  |ok d g=>rw[q]at h;exactλv W L r1 E=>h v W ((SameP.of sm).trans L) r1 E
  |ex c g=>rw[q]at h;obtain⟨hc,d,hd,hg⟩:=h;intro C2 H2 F L E;exact⟨c,C2,d,rfl,hc,F,hd,λv W s3 r3=>hg v W ((((SameP.of sm).trans L)).trans (SameP.of s3)) (Rep.mono s3 _ E) r3⟩
  |sk=>rw[q]at h;exact h
def tCT.ite{pc:Px}{l o:Cx->TE}{b:Bool}(E:sepP M pc=To){Q:VK}(r:Kv)(L:evD U pc O=.ok E8)(h:if b then lF X l M U fi cs Z H Q else lF X o M U fi cs Z H Q):
  lF X UY M U fi cs Z H Q:=by
 have v:∀J:Cx->TE,(∀X' q t,X'.K=X.K->Same H q->(∀g,Same q g->J X' Y5 g t)->tIf D2 (l X') (o X') Y5 q t)->lF X J M U fi cs Z H Q->lF X UY M U fi cs Z H Q:=λJ W⟨Y,w1,w2,w3⟩=>
  ⟨λq t C=>∀g,Same q g->Y g t C,λq t C I F z g u=>w1 g t C I F (z g u),λX' q t C B eM sm gd hx=>W X' q t B sm λg u=>w2 X' g t C B eM (sm.trans u) (gd g u) hx,λq sm g u=>w3 g (sm.trans u)⟩
 cases b with
 |true=>refine v l (λX' q t B sm z=>⟨JD M 0 O,by rw[B];exact yR r sm,?_⟩) h;rw[Jv U O E,L];exact⟨To,rfl,λg u=>iteT (z g u)⟩
 |false=>refine v o (λX' q t B sm z=>⟨JD M 0 O,by rw[B];exact yR r sm,?_⟩) h;rw[Jv U O E,L];exact⟨Fo,rfl,λg u=>iteF (z g u)⟩
def Jtb(C:Ao)(L:Y8)(T:Q5)(z:Room (j+3) G.A)(v:chkG nm x=To)(B:lamB N nm M sc=To)(o:BN)(hi:(!M.contains i)=To)
  (hE:∀(t:Cx)(A':Bd),Ctx t TC N sc.names->Room j A'->PE t body (tC t U bc f i cn m p))
  (g:∀q l u c r,bindArgs (kla_fn "<lambda>" q params body sc l u aO r) Fv=pure []:=by intros;rfl) (hdef:V9)
  (hs:V8):
  PE X RO (tCT X U bc fi cs f i cn m p):=PE.weak (zW C L T z v B hE g hdef hs) λZ H Q h=>h.gen o hi
end
section
variable{X:Cx}{U:Ae}{G:Gw}{N:Ag}{nm:A8}{body:Expr}{params:Iu}{sc:AS}{p:Px}{pos p1 lp:Pos}{x:Str}{cs:Ag}{M:Aq}{fi j:Nat}
def cTold(C:Ao)(L:Y8)(T:Q5)(hr:Room (j+3) G.A)(hg:chkG nm x=To)(hl:lamB N nm M sc=To)(hsp:BN)
  (hE:∀(l:Cx)(A':Bd),Ctx l TC N sc.names->Room j A'->PE l body (tI l U p))
  (t:∀q u pm c ctv,bindArgs (kla_fn "<lambda>" q params body sc u pm aO ctv) Fv=pure []) (B:R8)
  (hs:V5):
  PE X RO (tI X U (.told fi cs p)):=by
 refine PE.weak (zW (te:=λl=>tI l U p) C L T hr hg hl hE t B hs) λZ H Q zz=>?_;obtain⟨O,r,h⟩:=zz;refine⟨λo I E'=>'Ƥ'.Good (λd=>∀v W,Same o W->Rep X.K W d v->I v W) λc=>∀C W,X.mg c=So AX->Same o W->E' AX No W,λo I E' E'' hm g=>g.mono Kd λc z C W m s=>hm _ _ _ (z C W m s),λl o I E' hK Y sm g hx=>⟨JD M 0 O,by rw[hK];exact yR r sm,?_⟩,λo sm=>?_⟩
 ·rw[Jv U O hsp];change(evD U p O).Good (λd=>∀v W,Same o W->Rep l.K W d v->I v W) (XW l o);rw[hK];exact g.mono Kd λc z E H2 m s=>hx E H2 (z E H2 (by rw[<-Y];exact m) s)
 ·change(match evD U p O with
   |.ok d=>.ok d
   |.ex c=>if cs.contains c then(match U fi DL with|.ok d=>.ok d|_=>.sk)else .sk
   |.sk=>.sk:Rs Pu.D).Good _ _ at h
  cases q:evD U p O with
  |sk=>rw[q]at h;exact h.elim
  |ok d=>rw[q]at h;exactλv W s k=>h v W (sm.trans s) k
  |ex c=>
   rw[q]at h;dsimp only at h;by_cases J:cs.contains c=To
   ·rw[if_pos J]at h;cases F:U fi DL with
    |ok d=>rw[F]at h;exactλE H2 m s=>⟨c,E,d,rfl,by simpa using J,m,F,λv W s2 k=>h v W ((sm.trans s).trans s2) k⟩
    |ex _=>rw[F]at h;exact h.elim
    |sk=>rw[F]at h;exact h.elim
   ·rw[if_neg J]at h;exact h.elim
end
section
variable{w:Bool}{U:Ae}{pb:Bx}{m:Str}{cs:Ag}{f:Nat}{ns:Ag}
def tB.tct(Y:A3)(hm:CM){Q:VK}(B:tB X U bc [] H0 Si Z H Q):tCT X U bc fi cs f i CG m p Z H Q:=by
 obtain⟨O,e,h⟩:=B;simp only[evB]at h;split at h
 ·rename_i a o fs q;split at h
  ·rename_i u;subst u;cases z:evD U p O with
   |sk=>rw[z]at h;exact h.elim
   |ex c=>rw[z]at h;exact h.elim
   |ok d=>
    rw[z]at h;cases d with
    |lst J=>
     simp only at h;split at h
     ·rename_i E;simp only[Zd]at E;obtain⟨v,hv,hr⟩:=e.read i _ Af q;obtain rfl:v=.ref a:=hr.1;have l:∀{g:D}{W:Hp},SameP H W->Rep X.K W g Ax->EnvOk X.K [] H0 W Z Rl:=λs r=>e.obj Af E.1 s (Y.same Yb s) hv (by show Rep X.K IE _ _;rw[JH];exact r);refine⟨O,a,o,fs,J,X4,q,rfl,hm,z,E.2,?_⟩;cases y:bc f (.obj a o fs) J with
      |ok d g=>rw[y]at h;simp only[rK,List.set_set]at h;exactλC W s t F=>h C W (l s t) rfl s F
      |ex c g=>
       rw[y]at h;simp only[rK,List.set_set]at h;split at h
       ·rename_i I;split at h
        ·rename_i d L;exact⟨by simpa using I,d,L,λC W s t F=>h C W (l s t) rfl s F⟩
        ·exact h.elim
       ·exact h.elim
      |sk=>rw[y]at h;exact h.elim
     ·exact h.elim
    |_=>exact(show False from h).elim
  ·exact h.elim
 ·exact h.elim
def JsD(o:PE X e (tCT X U bc fi cs f i CG m p))(l:A3)(g:CM):PE X e (tB X U bc [] H0 Si):=PE.weak o λZ H Q h=>h.tct l g
def tSB.retB{D:Ends}(l:tSB X w U bc [] H0 (.retB pb) D Z H):tB X U bc [] H0 pb Z H D.rt:=by obtain⟨O,e,h⟩:=l;refine Dj;refine(Rx.good_next.mp h).imp (λd g q v W o B s r=>?_) λc g z C W u t=>z C W Z u t;exact q v W o.same r λ_=>⟨Z,o⟩
def JsJ(g:Tc):PS X KL (tSB X w U bc [] H0 (.retB pb)):=PS.weak (lE g) λD Z H h=>h.retB
variable{f2:Nat}{m2:Str}{p2 pc:Px}
def JoB(C:PE X e (lF X (λX'=>tIf D2 (tC X' U bc f i CG m p) (tC X' U bc f2 i CG m2 p2)) M U fi cs))(B:A3)(E:CM)(o:ns.contains m2=Fo)(v:sepP M pc=To)(t:BN)(u:sepP M p2=To)(hi:(!M.contains i)=To)(q:∀O c,evD U pc O≠.ex c):
  PS X KL (tSB X w U bc [] H0 (.ite (.pur pc) LH UX)):=by
 refine PS.weak (lE C) λD Z H r=>?_;obtain⟨O,e,h⟩:=r;cases z:evD U pc O with
 |sk=>exact(show False by have l:('丿'.next _).Good _ _:=h;rw[z]at l;exact l).elim
 |ex c=>exact absurd z (q O c)
 |ok d=>
  have l:('丿'.next λx g=>match x with
   |.bl To=>exO w U bc LH g
   |.bl Fo=>exO w U bc UX g
   |_=>.sk).Good (OutQ X w [] H0 (Ow [] O Z) H Fo D) LG:=h
  rw[z]at l;cases d with
  |bl b=>
   cases b with
   |true=>exact tCT.ite v X4 z ((tSB.retB (w:=w) (D:=D) ⟨O,e,l⟩).tct B E|>.gen t hi)
   |false=>exact tCT.ite v X4 z ((tSB.retB (w:=w) (D:=D) ⟨O,e,l⟩).tct B o|>.gen u hi)
  |_=>exact(show False from l).elim
end
def spBL(K:Aj)(mg:Bi)(Pt:Addr)(q:Str)(bc:AI)(fi:Nat):Sp:=λg H Q E=>TbH H Pt q/\spB K mg bc fi g H Q E
inductive CalleeOLe(G:Gw)(bc:AI)(fi:Nat)(x:Str)(Pt:Addr)(q:Str):Prop where
 |mk (kk:Nat) (f:Addr) (fd:FuncData) (ps:List Str) (h:FnOk G.prog G.w G.K G.mg G.base (CXr G.prog G.w) kk f fd ps (spBL G.K G.mg Pt q bc fi)/\Room kk G.A.in1.in1/\G.mg x=So (.ref f)/\PySem.W.keepIn G.K (.ref f)=To/\Binds G.K fd ps []):CalleeOLe G bc fi x Pt q
structure CalleeOL(G:Gw)(bc:AI)(fi:Nat)(x:Str)(Pt:Addr)(q:Str):Prop where
 ex:CalleeOLe G bc fi x Pt q
section
variable{X:Cx}{w:Bool}{U:Ae}{bc:AI}{M:Aq}{H0:Hp}{G:Gw}{N:Ag}{nm:A8}{e a:Expr}{es:Cy}{p:Px}{x y m cn q0:Str}{fi i:Nat}{ns:Ag}{pos p1 py px:Pos}{Pt:Addr}
def JtJ(Cc:Ao)(hc:PL)(tb:QcJ)(hg:gloB nm x=To)(C:Gi)(ha:PA X (.Name y py::es) Qf)(he:'б' VH Ah)
  (hpl:Dd):PE X (.Call Ga (.Name y py::es) [] pos) S4:=by
 obtain⟨kk,f,fd,ps,F,hr,hm,hk,hb⟩:=hc.ex;have hG:=Cc.g;subst hG;rintro Y s Z H Q I⟨O,a,ns,fs,r,hE,_,_,h⟩;refine lX F (Room.out hr) (Cc.glo x hg) hm hk hb .nil yH ha C he hpl Y s Z H Q I Dl;simp only[evD,hE,Rs.bo];refine Rs.gB.mpr (h.imp λd t=>?_);obtain⟨J,ed,l,g⟩:=t;subst ed;simp only[D.asL,Rs.bo];refine⟨_,rfl,λvs W s rs=>?_⟩;obtain⟨v0,ws,rfl,r0,r1⟩:=rs;obtain rfl:v0=.ref a:=r0.1;obtain⟨o,tqt,t1,t2⟩:=tb;obtain⟨more,t3⟩:=I.base.tbls Pt o t1;have hz:0<o.size:=(iK.mp t2).1;refine⟨⟨_,tqt,s _ _ t3,by rw[Array.getElem?_append_left hz];exact t2⟩,a,ws++[],_,J,rfl,r0,by rw[xD];exact r1,l,?_⟩;cases q:bc fi Cn J with
 |ok d L=>rw[q]at g;exactλv u E z rd=>g v u ('Ǽ'.trans E) z rd
 |ex c L=>rw[q]at g;exactλC2 u B E z C3 e3=>by cases e3;exact g C2 u B ('Ǽ'.trans E) z
 |sk=>rw[q]at g;exact g
def cOHL(u:Ao)(v:A3)(o:PL)(t:QcJ)(g:chkG nm x=To)(hi:(!M.contains i)=To)(r:CM)(q:PA X (.Name y py::es) Qf)(h:BN)(z:VH)
  (l:'('):PE X (.Call Ga (.Name y py::es) [] pos) Vz:=by simp only[chkG,Zd]at g;exact Jpd (m:=m) (JtJ u o t g.1 (plainN.d g.2).1 q z l) v r (by simpa using hi) h
def cMt{pl:CQ}(C:Ao)(o:NH)(g:Gz)(r:Ec)
  (h:Co) (hpl:Dd)
  (ht:'б' (eval V2 QL=(do
   let ov<-eval Ga QL
   standAt py.atName
   let(f,first)<-holding [ov] D6
   callWith pos f first 'ž' D5)) Ah):PE X V2 S4:=by simp only[chkV,Zd,ZB]at g;obtain⟨l,q⟩:=plainN.d g.2;exact Jmm C o g.1.2 g.1.1 l q r h hpl ht
def Joi{k:Int}{s:Str}(O:Fm)(c:Str):evD U (.bi .eq (.bi .idx Cv (.con Er)) (.con (.str s))) O≠.ex c:=by
 have l:∀d c,op2 .idx d (.int k)≠.ex c:=λd c=>by cases d<;>simp only[op2]<;>first|exact Rs.ofOpt_ex|(intro z;cases z;done)|(split<;>first|exact Rs.ofOpt_ex|(intro z;cases z;done))
 have r:∀a b c,op2 .eq a b≠.ex c:=λa b c=>by simp only[op2];split<;>(intro z;cases z)
 intro h;simp only[evD]at h;cases q:O[i]? with
 |none=>rw[q]at h;cases h
 |some o=>
  rw[q]at h;cases o with
  |none=>cases h
  |some d=>
   simp only[Rs.bo]at h;cases z:op2 .idx d (.int k)with
   |sk=>rw[z]at h;cases h
   |ex g=>exact l d g z
   |ok y=>rw[z]at h;exact r _ _ _ h
variable{b:Bs}{q:Px}{rest:BH}{pt pt2 pos':Pos}{kt k2 j:Nat}
end
section
variable{defs:BW}{bdefs:Fn}
def foBL{u:Gw->CallD->CallB->Prop}{ps:Ag}{d:DefB}{g:A7}(E:∀A,Room Dp A->u An BR BO)(D:Ol)(l:g.code=.ref c)(B:Qb9)
  (L:∀{X:Cx}{A:Bd}{H0:Hp},Room (3*k+5) A->Ctx X An N 'Š'.names->HX X 'Š'.names->LamX X->PlO H0->PSs X Df (tSB X To BR BO [] H0 b))
  (z:'б' (bdefs[i]? =So d) Ah) (hb:'б' (XF=b) Ah) (h:Wa):
  FnOk P w K mg base B8 (3*(k+2)) f g ps (spBL K mg Pt (x++".<locals>."++"<lambda>") M7 i):=by
 simp only[Zd,ZB,Zv]at h;obtain⟨⟨⟨h1,h2⟩,J⟩,t⟩:=h;subst hb;refine Jnd (Tb:=λH=>TbH H Pt (x++".<locals>."++"<lambda>")) (j:=3*k+5) D.F (fE h1) z h2 J t λX A H0 C U W v r hq I=>L U C W ?_ I;obtain⟨o,m,Y,F⟩:=v;have hG:=C.g;refine⟨c,Pt,o,m,r.trans l,?_,Y,by rw[hq];exact F⟩;have e1:X.mg=mg:=C.mg;have q:X.base=base:=by have:=lA Gw.base hG;exact this
 rw[e1,q];exact B
def Jvt (X:Cx) (G:Gw) (U:Ae) (bc:AI) (H0:Hp):List MethE->List (List Str)->List DefB->Prop
 |e::T,n::L,d::D=>(Ctx X G n (Ja e.2.2.1).names->HX X (Ja e.2.2.1).names->PSs X (Jl e.2.2.1) (tSB X To U bc [] H0 XF))/\Jvt X G U bc H0 T L D
 |[],_,_=>True
 |_,_,_=>False
def Jvi (X:Cx) (G:Gw) (U:Ae) (H0:Hp):List MethE->List (List Str)->List DefD->Prop
 |e::T,n::L,d::D=>(Ctx X G n (Ja e.2.2.1).names->HX X (Ja e.2.2.1).names->PSs X (Jl e.2.2.1) (tS X U [] H0 XF))/\Jvi X G U H0 T L D
 |[],_,_=>True
 |_,_,_=>False
end
def Jnh{mb:Bi}{CX:CXT}{fa:Addr}{sp:Sp}{g:Ak}{vs:AF}{ns:AR}{cs:List (Addr×Addr)}
  (KX:K.In YB) (hns:g.heap.Ns mainGlobals mg) (l:g.heap.Ns builtinsNs mb) (hbb:∀x:Str,x≠"__name__"->mb x=bootBuiltins x) (hlim:g.heap.NoLimit) (hg:g.gens=#[])
  (ha:g.heap.get? a=So {cls:=.type "list",data:=.seq CF}) (hi:IntsAre vs ns) (hl:AN<=sizeLine) (hr:Room k callerA)
  (hPK:∀p q,tq p=So q->K.lookup p=No) (hC:∀c∈cs,CodeHd YB c.1 c.2) (hP:∀p q,tq p=So q->g.heap.get? p=So (tabObj #[])) (hT:∀p q,tq p=So q->∃c,CodeHd YB c p)
  (hbm:∃bm ob,mg "__builtins__"=So (.ref bm)/\bm≠builtinsNs/\g.heap.get? bm=So ob/\ob.cls=.type "module"/\ob.dict=So builtinsNs/\ob.data=.plain)
  (F:∀base:Heap,K.In base->base.Ns mainGlobals mg->(∀c∈cs,LamB mg base c.1 c.2)->FnOk P w K mg base CX k fa fd [x] sp) (hbind:∀(s:Ak)(u:Al),BindsTo s fd ⟨[u],[]⟩ [(x,u)])
  (hsp:∀H:Hp,(∀p q,tq p=So q->TbH H p q)->SqL K H a (ns.map V.int)->sp Cr H (λv _=>v=.bl To) λ_ _ _=>False)
  (hCX:∀H e B,CX [] H g Hg e B->False):
  codeAny Cf callerA PU (λr B=>r=.ok (.ret Fu)/\OldK YB B.heap/\B.os=g.os/\AllBare B.gens) g:=by
 have rv:=JgA hi;have lenV:=hi.length;have aP:tq a=No:=by
  cases z:tq a with
  |none=>rfl
  |some q=>have:=hP a q z;rw[this]at ha;cases ha
 have L:∀H:Hp,(∀b,tq b=No->H b=No\/∃o xs,H b=So (.frz o AK))->(∀p q,tq p=So q->H p=So (.tbl #[.str q 0]))->SqL K H a (ns.map V.int)->HOk P w H g.heap->(∀b,H b≠No->b=a\/∃q,tq b=So q)->(H a≠No->K.lookup a=No)->
   codeAny Cf callerA PU (λr B=>r=.ok (.ret Fu)/\OldK YB B.heap/\B.os=g.os/\AllBare B.gens) g:=by
  intro H hO hPt hS hok hA hK;have t:∀{b:Addr}{o:Obj},g.heap.get? b=So o->H b=No->'ǣ'.get? b=So o:=λe n=>Jnz e n;have noA:∀{b:Addr}{o:Obj},g.heap.get? b=So o->(∀z n,o.data≠.seq z n)->o≠tabObj #[]->H b=No:=fun{b o}e d1 d2=>by
   cases q:H b with
   |none=>rfl
   |some u=>
    rcases hA b (by rw[q];simp)with e'|⟨n,e'⟩
    ·subst e';rw[ha]at e;cases e;exact absurd rfl (d1 _ _)
    ·rw[hP b n e']at e;cases e;exact absurd rfl d2
  have I:∀{b:Addr}{m:Bi},g.heap.Ns b m->'ǣ'.Ns b m:=fun{b m}⟨o,es,ep,e,d,r⟩=>⟨o,es,ep,t e (noA e (λz n h=>by rw[d]at h;cases h) λh=>by rw[h]at d;cases d),d,r⟩;have hKb:K.In 'ǣ':=λb o e=>t (KX b o e) (by
   cases q:H b with
   |none=>rfl
   |some u=>
    rcases hA b (by rw[q];simp)with e'|⟨n,e'⟩
    ·subst e';rw[hK (by rw[q];simp)]at e;cases e
    ·rw[hPK b n e']at e;cases e)
  have hM:Mod K mg 'ǣ':=⟨hKb,I hns,⟨mb,I l,hbb⟩,let⟨mc,h1,h2⟩:=hlim;⟨mc,I h1,h2⟩⟩;have LB:∀c∈cs,LamB mg 'ǣ' c.1 c.2:=λc hc=>by
   refine GQ
   ·obtain⟨o,ws,file,tf,flags,tg,inF,text,tt,Y,J,e3,r⟩:=hC c hc;refine⟨o,ws,file,tf,flags,tg,inF,text,tt,t Y ?_,J,e3,r⟩;cases q:H c.1 with
    |none=>rfl
    |some u=>
     rcases hA c.1 (by rw[q];simp)with e'|⟨n,e'⟩
     ·rw[e',ha]at Y;cases Y;injection J with J;exact absurd J A9
     ·rw[hP _ n e']at Y;cases Y;cases J
   ·obtain⟨bm,ob,b1,b2,b3,b4,b5,b6⟩:=hbm;exact⟨bm,ob,b1,b2,t b3 (noA b3 (λz n h=>by rw[b6]at h;cases h) λh=>by rw[h]at b6;cases b6),b4,b5,b6⟩
  have e0:Env0 P w K mg 'ǣ' callerA [] g H:=⟨rfl,hM,λb o e=>Jru e,Nat.le_of_eq (JmQ _ _),trivial,λb l=>absurd (show b∈([]:List Addr)from l) Af,hok,.of_eq hg⟩;refine mC ((F _ hKb (I hns) LB).run callerA [] g H RE Cr Cr _ _ hr e0 (hbind g Ax) MC (hsp H (λp q z=>⟨_,0,hPt p q z,rfl⟩) hS)) λr B h=>?_;cases r with
  |error e=>exact(hCX H e B h).elim
  |ok fl=>
   cases fl with
   |next=>exact False.elim h
   |brk=>exact False.elim h
   |cont=>exact False.elim h
   |ret u=>
    obtain⟨v,W,os,bare,un,U,r',q'⟩:=h;have q':v=.bl To:=q';subst q';obtain rfl:u=Value.bool To:=r';have tab:∀p q,tq p=So q->∃qs,B.heap.get? p=So (tabObj qs):=λp q z=>by obtain⟨more,e⟩:=un.tbls p _ (hPt p q z);obtain⟨_,_,qs,_,J,_⟩:=U p _ e;exact⟨qs,J⟩
    have keep:∀b o,tq b=No->g.heap.get? b=So o->B.heap.get? b=So o:=λb o l e=>by
     cases q:H b with
     |none=>exact un.keep b o e q (by intro z;exact absurd (show b∈([]:List Addr)from z) Af) Af
     |some u=>
      rcases hO b l with z|⟨ob,xs,z⟩
      ·rw[q]at z;cases z
      ·have z2:=un.frzs b ob _ z;obtain⟨Y,_⟩:=hok b _ z;obtain⟨J,_⟩:=U b _ z2;rw[e]at Y;cases Y;exact J
    refine⟨rfl,⟨λb o e=>?_,λb o e=>?_⟩,os,bare⟩
    ·cases l:tq b with
     |none=>exact .inl (keep b o l e)
     |some q=>obtain⟨qs,hqs⟩:=tab b q l;obtain⟨c,hc⟩:=hT b q l;have C:=hP b q l;rw[C]at e;cases e;exact .inr (.inl ⟨(hc.tab C).isCodeTable,rfl,#[],qs,rfl,by rw[Array.empty_append];exact hqs⟩)
    ·cases l:tq b with
     |none=>exact⟨o,keep b o l e⟩
     |some q=>obtain⟨qs,hqs⟩:=tab b q l;exact⟨_,hqs⟩
 have tok:∀(H:Hp)p q,tq p=So q->ObjOk P w H YB p (.tbl #[.str q 0]):=λH p q z=>⟨q,0,#[],rfl,hP p q z,trivial,λpos cv z=>by cases z⟩;have ft:∀{α:Type}{x y:α}{b:Addr}{q:Str},tq b=So q->(match tq b with|some q=>x|none=>y)=x:=λz=>by rw[z]
 have fn:∀{b:Addr}(G:Str->Option HO)(y:Option HO),tq b=No->(match tq b with|some q=>G q|none=>y)=y:=λG y z=>by rw[z]
 have fs:∀{b:Addr}{q:Str}(G:Str->Option HO)(y:Option HO),tq b=So q->(match tq b with|some q=>G q|none=>y)=G q:=λG y z=>by rw[z]
 cases hk:K.lookup a with
 |some o=>
  have e:=KX a o hk;rw[ha]at e;cases e;refine L (λb=>match tq b with|some q=>So (.tbl #[.str q 0])|none=>No) (λb l=>.inl (fn _ _ l)) Pg (.inr ⟨_,CF,_,hk,rfl,rfl,rfl,by rw[Zp,lenV];exact hl,by simpa using rv⟩) (λb u z=>?_) (λb z=>?_) λz=>absurd (fn _ _ aP) z
  ·cases l:tq b with
   |some q=>have E:=(fs _ _ l).symm.trans z;cases E;exact tok _ b q l
   |none=>have E:=(fn _ _ l).symm.trans z;cases E
  ·cases l:tq b with
   |some q=>exact .inr ⟨q,rfl⟩
   |none=>exact absurd (fn _ _ l) z
 |none=>
  refine L (λb=>match tq b with|some q=>So (.tbl #[.str q 0])|none=>if b=a then So (.frz {cls:=.type "list",data:=.seq CF} (.lst Q3))else No) (λb C=>?_) Pg (.inl (.inr ⟨{cls:=.type "list",data:=.seq CF},(fn _ _ aP).trans (if_pos rfl)⟩)) (λb u z=>?_) (λb z=>?_) λ_=>hk
  ·by_cases l:b=a
   ·exact .inr ⟨_,_,'Ѿ'.trans (if_pos l)⟩
   ·exact .inl ('Ѿ'.trans cO)
  ·cases C:tq b with
   |some q=>have E:=(fs _ _ C).symm.trans z;cases E;exact tok _ b q C
   |none=>
    by_cases l:b=a
    ·have E:=('Ѿ'.trans (if_pos l)).symm.trans z;cases E;subst l;exact⟨ha,by rw[Zj];exact hl,vs,_,rv,ha⟩
    ·have E:=('Ѿ'.trans cO).symm.trans z;cases E
  ·cases C:tq b with
   |some q=>exact .inr ⟨q,rfl⟩
   |none=>
    by_cases l:b=a
    ·exact .inl l
    ·exact absurd ('Ѿ'.trans cO) z
def Jpr{l:Qd4}{n:Nat}{q:Be}{loose:Ag}{XP:(Str->Option Value)->Heap->Prop}{YP:World->Heap->Prop}{d:DefRec}{K:Params->PySem.W.Frag}{CX:World->CXT}{sp:World->Sp}{cs:List (Addr×Addr)}
  (hn:l.most=So n) (J:n<=sizeLine) (hdf:d.params.defaults=[]) (hr:Room k callerA) (U:∀p q,tq p=So q->∃c,(c,p)∈cs)
  (hY:∀(w:A0)(h:Heap),YP w h->'Ͳ'.In h/\∀c∈cs,h.get? c.2=So (tabObj #[])) (hC:∀p,∀c∈cs,codeHdIn (K p) c.1 c.2=To) (L:∀p,∀c∈cs,(K p).lookup c.2=No)
  (F:∀(w:A0)(mg:Bi)(C:Addr)(h:Heap),'Ͳ'.In h->h.Ns mainGlobals mg->mg d.name=So (.ref C)->
   ∃fd:FuncData,(∀(s:Ak)(u:Al),BindsTo s fd ⟨[u],[]⟩ [(x,u)])/\
    ∀base:Heap,'Ͳ'.In base->base.Ns mainGlobals mg->(∀c∈cs,LamB mg base c.1 c.2)->FnOk Z0 w 'Ͳ' mg base (CX w) k C fd [x] (sp w))
  (hsp:∀(w:A0)(H:Hp)(a:Addr)(ns:AR),AN<=n->(∀p q,tq p=So q->TbH H p q)->SqL 'Ͳ' H a (ns.map V.int)->sp w Cr H (λv _=>v=.bl To) λ_ _ _=>False)
  (W:∀(w:A0)(H:Hp)(s:Ak)(e:Al)(Y:Ak),CX w [] H s Hg e Y->False):
  PySem.W.WalkO q loose XP YP bL d [] Ux:=by refine Att.JhF hn hdf λw s₀ t mg mb C o pm cd doc a vs ns G Y9 ho hd hcd I B r g hg=>?_;obtain⟨E,hP⟩:=hY w _ Y9;obtain⟨fd,hb,hF⟩:=F w mg C _ E G.T.g I;exact Jnh (tq:=tq) (cs:=cs) E G.T.g G.T.b G.T.builtins G.T.nolimit hg B r (ZA g J) hr (λp q z=>let⟨c,m⟩:=U p q z;L _ _ m) (λc m=>codeHd_of_K E (hC _ c m)) (λp q z=>let⟨c,m⟩:=U p q z;hP _ m) (λp q z=>let⟨c,m⟩:=U p q z;⟨c,codeHd_of_K E (hC _ _ m)⟩) G.T.bmain hF hb (λH hO hS=>hsp w H a ns g hO hS) λH e Y=>W w H t e Y
def sU(K:Aj)(tq:Addr->Option Str):Sp:=λg H Q E=>(∀p q,tq p=So q->TbH H p q)/\spLaw K g H Q E
section
variable{P2:Addr}{q2:Str}
def JqZ{SP:Str}{t:Cx->Hp->L2.TS}(F:D7)(g:fd.code=.ref c)(B:Qb9)(h1:tq Pt=So (qual++".<locals>."++"<lambda>"))(h2:tq P2=So q2)(S:FnScope N [SP] B1)(hM:∀i∈M,1<=i)(Y:1<=Xr)
  (m:∀(X:Cx)(A:Bd)(H0:Hp),Ctx X An N 'Š'.names->Room j A->HX X 'Š'.names->LamX X->TbH X.H₀ P2 q2->PlO H0->PSs X Df (t X H0))
  (ht:∀(X:Cx)(H0 H:Hp)(Z:Bf)(D:Ends)(ns:AR),X.K=K->AN<=63->EnvOk K M H0 H Z (Jx Xr Qdl)->(∀W,D.rt Cw W)->t X H0 D Z H):
  FnOk P w K mg base B8 (j+1) f fd [SP] (sU K tq):=by
 obtain⟨oc,od,kV,doc,pm,an,u,ct,U,rfl,lk,C⟩:=F.ex;obtain rfl:u=.ref c:=g;refine pK lk C S (λvs H Q E h=>?_) (λA r s H vs Q E L h=>?_)
 ·obtain⟨_,a,ns,rfl,_⟩:=h;rfl
 ·obtain⟨I,a,ns,rfl,hs,hl,k⟩:=h;obtain⟨z,v,t1,t2⟩:=I _ _ h1;refine⟨_,m _ _ (pl H) (mQ S L) L Na ⟨c,Pt,z,v,rfl,B,t1,t2⟩ (I _ _ h2) JqL,ht _ (pl H) H _ _ ns rfl hl ?_ k⟩;have o:=wM (K:=K) (d:=ON) (M:=M) (H:=H) rfl (J:=Qdl) (vs:=Cr) Y hM ⟨_,_,rfl,⟨a,_,rfl,hs,JgO ns⟩,rfl⟩;exact⟨Jlr,o.len,o.read,λq d hq hd=>by
   obtain⟨l,g1,g0,g2⟩:=o.own q d hq hd;refine⟨l,g1,?_,g2⟩;unfold pl;rw[g0],o.apart⟩
end
structure Prt(K:Aj)(H:Hp)(a:Addr)(d:D)(L:A1):Prop where
 mem:a∈L
 owc:OwC L H
 npl:∀l∈L,∀o,H l=So o->plK o=Fo
 rep:∀W,(∀l∈L,W l=H l)->SameP H W->Rep K W d Ax
section
variable{W:Hp}{d:D}{L:A1}{ks vs J es:Am}
def Jut{C g T p q:Addr}{kvs:EH}{ys F:Av}(h:H a=So (.ins C g QY))(v:H g=So aK)(t:H T=So AM)(r:H p=So (.lsm Fi ys))(m:H q=So (.lsm FM F))
  (hC:PySem.W.nsIn K mainGlobals Ce=So Bo) (hk:ks=kvs.map (λp=>keyV p.1)) (rv:Reps K H vs (kvs.map (·.2))) (rd:Reps K H J ys) (Y:Reps K H es F) (pv:Jc vs=To) (pd:Jc J=To) (pe:Jc es=To):
  Prt K H a IU [a,g,T,p,q]:=by
 have u:∀{P:Addr->Prop},P a->P g->P T->P p->P q->∀l∈[a,g,T,p,q],P l:=λh1 h2 h3 h4 h5 l U=>by simp only[Zg,ZC,fA]at U;rcases U with rfl|rfl|rfl|rfl|rfl<;>assumption
 refine⟨by simp,⟨u ⟨_,h,trivial⟩ ⟨_,v,trivial⟩ ⟨_,t,trivial⟩ ⟨_,r,trivial⟩ ⟨_,m,trivial⟩,λb y E e=>?_,λb C' I fs E e=>?_⟩,u (λo e=>?_) (λo e=>?_) (λo e=>?_) (λo e=>?_) (λo e=>?_),λW B sp=>?_⟩
 ·refine u (P:=λb=>H b=So (.own y)->y∈[a,g,T,p,q]/\∃C fs,H y=So QdC) (λz=>?_) (λz=>?_) (λz=>?_) (λz=>?_) (λz=>?_) b E e
  ·rw[h]at z;cases z
  ·rw[v]at z;cases z;exact⟨by simp,_,_,h⟩
  ·rw[t]at z;cases z
  ·rw[r]at z;cases z
  ·rw[m]at z;cases z
 ·refine u (P:=λb=>H b=So (.ins C' I fs)->I∈[a,g,T,p,q]) (λz=>?_) (λz=>?_) (λz=>?_) (λz=>?_) (λz=>?_) b E e
  ·rw[h]at z;cases z;simp
  ·rw[v]at z;cases z
  ·rw[t]at z;cases z
  ·rw[r]at z;cases z
  ·rw[m]at z;cases z
 ·rw[h]at e;cases e;rfl
 ·rw[v]at e;cases e;rfl
 ·rw[t]at e;cases e;rfl
 ·rw[r]at e;cases e;rfl
 ·rw[m]at e;cases e;rfl
 ·exact⟨rfl,C,g,Nq,by rw[B a 'k'];exact h,hC,rfl,_,_,rfl,⟨T,_,rfl,⟨kvs,by rw[B T 'k'];exact t,hk,rfl⟩,Reps.plain sp vs pv rv⟩,_,_,rfl,⟨p,ys,rfl,by rw[B p 'k'];exact r,Reps.plain sp J pd rd⟩,_,_,rfl,⟨q,F,rfl,by rw[B q 'k'];exact m,Reps.plain sp es pe Y⟩,rfl⟩
def Jqn{h:Heap}(r:Rep K H IU Ax)(ok:Ct)(I:Jc vs=To)(pd:Jc J=To)(pe:Jc es=To):∃L,Prt K H a IU L:=by obtain⟨_,C,dx,xs,g,m,_,Y,U,rfl,⟨T,B,rfl,⟨z,v,o,rfl⟩,E⟩,x2,r2,rfl,⟨p,ys,rfl,u,F⟩,x3,r3,rfl,⟨q,zs,rfl,t,l⟩,rfl⟩:=r;exact⟨_,Jut g (ok a _ g).1 v u t m o E F l I pd pe⟩
def Prt.mono(p:Ki)(s:∀l∈L,W l=H l)(sp:CS):Prt K W a d L where
 mem:=p.mem
 owc:=⟨λb g=>by rw[s b g];exact p.owc.all b g,λb y g e=>by
   rw[s b g]at e
   obtain⟨q,m⟩:=p.owc.own b y g e
   exact⟨q,by rw[s y q];exact m⟩,λb C x fs g e=>by rw[s b g]at e;exact p.owc.dx b C x fs g e⟩
 npl:=λl h o e=>by rw[s l h]at e;exact p.npl l h o e
 rep:=λt m r=>p.rep t (λl h=>by rw[m l h];exact s l h) (sp.trans r)
def Prt.now(p:Ki):Rep K H d Ax:=p.rep H Cg Qbx
def Prt.at(p:Ki){l:Addr}(g:l∈L):∃o,H l=So o:=let⟨o,e,_⟩:=p.owc.all l g;⟨o,e⟩
def Prt.keep(p:Ki)(s:B9):∀l∈L,W l=H l:=λl g=>by obtain⟨o,e⟩:=p.at g;rw[s l o e,e]
def Prt.hid(p:Ki):SameP H Bc:=λb o e k=>by
 rw[Jt λg=>by rw[p.npl b g o e]at k;cases k];exact e
end
def tLaw(X:Cx)(H0:Hp)(R:Fm->Prop):L2.TS:=λD Z H=>∃O,EnvOk X.K [] H0 H Z O/\R O/\∀W,D.rt Cw W
section
variable{U:Ae}{rest body:BH}{a:Bs}
def mW{R:Fm->Prop}(h1:PS X st (tSB X Fo U bc [] H0 a))(t:PK):PSs X (st::rest) (tLaw X H0 λO=>∃g,exO Fo U bc a O=.ok .nx g/\R g):=by refine PSs.weak (JK h1 t) λD Z H h=>?_;obtain⟨O,e,⟨g,r,m⟩,q⟩:=h;refine Dj;rw[r];exactλl W o _=>⟨g,o,m,q⟩
def env0(s:Same H0 H)(l:Z.length=O.length)(r:ReadOk K H Z O):EnvOk K [] H0 H Z O:=
 ⟨s,l,λj d _ h=>by show∃v,_/\Rep K cL d v;rw[JH];exact r j d h,λj d g=>by simp at g,λj _ _ _ _ g=>by simp at g⟩
def tPk(X:Cx)(U:Ae)(bc:AI)(H0:Hp)(b:Bs):L2.TS:=λD Z H=>∃L O g,OwC L H/\EnvOk X.K [] H0 Bc Z O/\exO Fo U bc b O=.ok .nx g/\
 ∀h W,EnvOk X.K [] H0 GF h g->(∀l∈L,W l=H l)->SameP Bc (hid L W)->D.nx h W
variable{is io ip ij ia:Nat}{pt pp pi:Px}{xo:Str}{pf pr pc:Pos}{e6 tg iter:Expr}{s7 s8:Stmt}{kc:Nat}
def Jtk{R:Fm->Prop}{q:Px}{pt p:Pos}(C:Ao)(l:HX X nm)(h0:A3)(hc:chkA N nm [] i x=To)(J:chkA N nm [] j y=To)(hl:(nm.lookup x==So .local&&nm.lookup y==So .local&&decide (i≠j)&&!(x==y)&&(py.line==aH)&&sI e)=To)(hM:MakeS G)(hg:gloB nm K3=To)(he:PE X e (tI X U q))(g:PK)
  (hs:'б' (swapsWithSole Nm TY aA QL=pure Fo) Ah)
  (hs1:'б' (starEach [.Call SU [] [] pos,e] QL=(Fo,eval 'ƾ' QL)::starEach [e] QL) Ah) (hs2:IJ):
  PSs X (.Assign Nm TY pos'::rest) (tLaw X H0 (RunP U i j q R)):=by
 obtain⟨L,f,fd,ps,mk,F,hr,hm,hC,hb⟩:=hM.ex;have hG:=C.g;subst hG;obtain⟨g1,g2,g3⟩:=chkA.at hc;obtain⟨f1,f2,f3⟩:=chkA.at J;simp only[Zd,kB]at hl;obtain⟨⟨⟨⟨⟨t,m⟩,l3⟩,l4⟩,l5⟩,l6⟩:=hl;have t:=ZB.mp t;have m:=ZB.mp m;intro Y s Z H D I u;have hw:swappedStores Nm TY QL=pure Lf:=JmR XU (by rw[l.sc];exact t) (by rw[l.sc];exact m) l4 l5 rfl l6 (by rw[pC,show foldedForSure 8 'ƾ'=Fo from rfl];rfl) (by rw[pC,show constantsAlone 8 'ƾ'=Fo from rfl];rfl);refine JK (Jqo XH (by rw[C.hN];exact C.nd) 'ō' (by rw[C.hN];exact f1) (ZW l3) (by rw[l.sc];exact t) (by rw[l.sc];exact m) (Jq (Jjl mk F hr CY hm hb .nil (yH (X:=X)) Ab) (Jq he JP hs2) hs1) hw hs) g Y s Z H D I ?_;obtain⟨O,ee,⟨hp,d,hd,hpd,h⟩,hD⟩:=u;intro z E hz B hne;refine⟨z,E,L,rfl,Jd,hC,λW _ sp _ r=>Lx⟩;have s1:Same H (upd (upd H E (.own z)) z (.ins L E [])):=λc o q=>by rw[Jb (Je q hz),Jb (Je q B)];exact q
 have e1:=ee.sp Af hp h0 ('七'.trans (sp.sp Jd));refine⟨O,e1.readOk,?_⟩;rw[hd];intro v H2 s2 r2;exact⟨_,_,rfl,_,((e1.grow s2).put Af (by show Rep X.K (hid [] H2) _ _;rw[JH];exact r.mono s2)).put Af (by show Rep X.K (hid [] H2) _ _;rw[JH];exact r2),h z,hD⟩
end
end Rd
namespace Pu
open PySem
variable{α:Type}{e a c src as:Px}{p:Bool}{J:Am}
section
variable(i j:Int)(x y:Str)(xs ys:Am)(a b:D)(p q:Bool)
@[simp]def o_neg:op1 .neg AY=.ok (.int (-i)):=rfl
@[simp]def o_not:op1 .not Cp=.ok (.bl !p):=rfl
@[simp]def Jwj:op1 .truth Cp=.ok Cp:=rfl
@[simp]def o_lenT:op1 .len Bl=.ok (.int Ai):=rfl
@[simp]def o_lenL:op1 .len AK=.ok (.int Ai):=rfl
@[simp]def o_tupL:op1 .tuple AK=.ok Bl:=rfl
@[simp]def o_tupT:op1 .tuple Bl=.ok Bl:=rfl
@[simp]def o_listL:op1 .list AK=.ok AK:=rfl
@[simp]def o_listT:op1 .list Bl=.ok AK:=rfl
@[simp]def o_enumT:op1 .enum Bl=.ok Qbf:=rfl
@[simp]def o_enumL:op1 .enum AK=.ok Qbf:=rfl
@[simp]def o_rowsL:op1 .rows AK=.ok AK:=rfl
@[simp]def o_rowsT:op1 .rows Bl=.ok Bl:=rfl
@[simp]def JuL:D.walk AK=.ok xs:=rfl
@[simp]def JtC:D.walk Bl=.ok xs:=rfl
@[simp]def o_asI:op1 .asI AY=.ok AY:=rfl
@[simp]def o_isNn:op1 .isN .non=.ok Cw:=rfl
@[simp]def o_isNl:op1 .isN AK=.ok CO:=rfl
@[simp]def o_notNn:op1 .notN .non=.ok CO:=rfl
@[simp]def o_notNl:op1 .notN AK=.ok Cw:=rfl
theorem JmJ(n:Nat)(h:n<=1000):op1 .range QcZ=.ok (.lst (upTo 0 n)):=by
 have:midI n=To:=by simp only[midI,Zd,Zv];lia
 show(if midI n=To then Rs.ok (D.lst (upTo 0 (n:Int).toNat))else .sk)=_;rw[if_pos this,LD]
@[simp]def o_add:op2 .add AY Dg=.ok (.int (i+j)):=rfl
@[simp]def Jwk{i j:Int}{k:Int->Int->Rs D}:onII AY Dg k=k i j:=rfl
@[simp]def o_sub:op2 .sub AY Dg=.ok (.int (i-j)):=rfl
@[simp]def o_mul(h:smallI i||smallI j):op2 .mul AY Dg=.ok (.int (i*j)):=if_pos h
def JuT(h:Ai+BU<=lD):op2 .add Bl QaU=.ok (.tup (xs++ys)):=if_pos h
@[simp]def o_lt:op2 .lt AY Dg=.ok (.bl (decide (i<j))):=rfl
@[simp]def o_le:op2 .le AY Dg=.ok (.bl (decide (i<=j))):=rfl
@[simp]def o_gt:op2 .gt AY Dg=.ok (.bl (decide (j<i))):=rfl
@[simp]def o_ge:op2 .ge AY Dg=.ok (.bl (decide (j<=i))):=rfl
def o_eq(h:a.dep<=20)(h':b.dep<=20):op2 .eq a b=.ok (.bl (a.eqv b)):=if_pos (by simp[Jy,h,h'])
def o_ne(h:a.dep<=20)(h':b.dep<=20):op2 .ne a b=.ok (.bl (!a.eqv b)):=if_pos (by simp[Jy,h,h'])
@[simp]def o_eqS:op2 .eq CB Gs=.ok (.bl (x==y)):=rfl
@[simp]def o_neS:op2 .ne CB Gs=.ok (.bl (!(x==y))):=rfl
@[simp]def o_eqI:op2 .eq AY Dg=.ok (.bl (i==j)):=rfl
@[simp]def o_neI:op2 .ne AY Dg=.ok (.bl (!(i==j))):=rfl
@[simp]def o_eqB:op2 .eq Cp Qaz=.ok (.bl (p==q)):=rfl
@[simp]def o_neB:op2 .ne Cp Qaz=.ok (.bl (!(p==q))):=rfl
@[simp]def o_idxT:op2 .idx Bl AY=Rs.ofOpt (atD xs i):=rfl
@[simp]def JtS:op2 .idx AK AY=Rs.ofOpt (atD xs i):=rfl
@[simp]def JsH:op2 .zip Bl QaU=.ok OH:=rfl
theorem atN(n:Nat)(h:n<Ai):atD xs (n:Int)=So xs[n]:=by
 have f:(n:Int)<Ai:=by lia
 have g:(0:Int)<=n:=by lia
 simp[atD,ixn,f,g,h]
@[simp]def at0:atD (a::xs) 0=So a:=by have:=atN (a::xs) 0 Af;simpa using this
@[simp]def at1:atD (a::b::xs) 1=So b:=by have:=atN (a::b::xs) 1 Af;simpa using this
@[simp]def at2(c:D):atD (a::b::c::xs) 2=So c:=by have:=atN (a::b::c::xs) 2 Af;simpa using this
@[simp]def ofSome(a:α):Rs.ofOpt (So a)=.ok a:=rfl
end
section
variable(U:Ae)(O:Fm)
@[simp]def gE(i:Nat):evD U Cv O=match O[i]? with
  |some (So d)=>.ok d
  |_=>.sk:=rfl
@[simp]def Jwd(d:D):evD U (.con d) O=.ok d:=rfl
@[simp]def e_un(o:O1)(a:Px):evD U (.un o a) O='Ũ'.bind (op1 o):=rfl
@[simp]def e_bi(o:O2)(a b:Px):evD U (.bi o a b) O='Ũ'.bind λx=>(evD U b O).bind λy=>op2 o x y:=rfl
@[simp]def e_and(a b:Px):evD U (.and a b) O='Ũ'.bind λx=>match x with
  |.bl To=>evD U b O
  |.bl Fo=>.ok CO
  |_=>.sk:=rfl
@[simp]def e_or(a b:Px):evD U (.or a b) O='Ũ'.bind λx=>match x with
  |.bl To=>.ok Cw
  |.bl Fo=>evD U b O
  |_=>.sk:=rfl
@[simp]def e_ite(c a b:Px):evD U (.ite c a b) O='Ԅ'.bind λx=>match x with
  |.bl To=>evD U a O
  |.bl Fo=>evD U b O
  |_=>.sk:=rfl
@[simp]def e_nil:evD U .nil O=.ok Fs:=rfl
@[simp]def xK(a as:Px):evD U (.cons a as) O='Ũ'.bind λx=>'ǈ'.bind λy=>y.asL.bind λJ=>.ok (.lst (x::J)):=rfl
@[simp]def e_tup(as:Px):evD U (.tup as) O='ǈ'.bind λy=>y.asL.bind λJ=>if Ac<=lD then .ok (.tup J)else .sk:=rfl
@[simp]def e_dis(as:Px):evD U (.dis as) O='ǈ'.bind λy=>y.asL.bind λJ=>if Ac<=lD then .ok AE else .sk:=rfl
@[simp]def kQ(f:Nat)(as:Px):evD U (.call f as) O='ǈ'.bind λy=>y.asL.bind λJ=>U f J:=rfl
@[simp]def e_sl(a lo hi:Px):evD U (.sl a lo hi) O='Ũ'.bind λx=>(evD U lo O).bind λl=>l.bound.bind λl=>(evD U hi O).bind λh=>h.bound.bind λh=>match x with
  |.tup J=>.ok (.tup LJ)
  |.lst J=>.ok (.lst LJ)
  |.str x=>if x.length<=20000 then .ok (.str UF)else .sk
  |_=>.sk:=rfl
@[simp]def rG(a:Px):evD U (.walk a) O='Ũ'.bind λx=>x.walk.bind λJ=>.ok AE:=rfl
def fQ(b:Nat)(src c e:Px):evD U (.comp b src c e) O='У'.bind λs=>s.asL.bind λJ=>if Ac<=lD then(JX b Xh 'Ԑ' O J).bind λf=>.ok (.lst f)else .sk:=rfl
end
@[simp]def yI(J:Am):D.asL AE=.ok J:=rfl
@[simp]def JlD:D.bound .non=.ok No:=rfl
@[simp]def JmN(i:Int):D.bound AY=.ok (So i):=rfl
section
variable(U:Ae)(O:Fm)
@[simp]def ans_nx:Jf (.ok Yu)=.ok .non:=rfl
@[simp]def Juh(d:D):Jf (.ok Z2)=.ok d:=rfl
@[simp]def Jvl:Jf .sk=.sk:=rfl
@[simp]def ans_ex(c:Str):Jf (.ex c)=.ex c:=rfl
@[simp]def x_skip:exD U .skip O=.ok Yu:=rfl
@[simp]def sA(a b:Sx):exD U IG O=(exD U a O).bind λr=>match r with
  |(.nx,env2)=>exD U b env2
  |r=>.ok r:=rfl
@[simp]def uT(m:Bool)(i:Nat)(e:Px):exD U (.set m i e) O='ŭ'.bind λd=>if m&&!d.imm then .sk else .ok QcI:=rfl
@[simp]def x_own(i:Nat)(e:Px):exD U (.own i e) O='ŭ'.bind λd=>match d with
  |.lst J=>if !imms J then .sk else .ok Pa
  |_=>.sk:=rfl
@[simp]def x_app(m:Bool)(i:Nat)(e:Px):exD U (.app m i e) O=match O[i]? with
  |some (So (.lst J))=>'ŭ'.bind λd=>if(m&&!d.imm)||!decide (Ac<lD)then .sk else .ok (.nx,O.set i (So (.lst (J++[d]))))
  |_=>.sk:=rfl
@[simp]def x_ext(m:Bool)(i:Nat)(e:Px):exD U (.ext m i e) O=match O[i]? with
  |some (So (.lst J))=>'ŭ'.bind λy=>y.asL.bind λb=>if(m&&!imms b)||!decide (Ac+b.length<=lD)then .sk else .ok (.nx,O.set i (So (.lst (J++b))))
  |_=>.sk:=rfl
@[simp]def Jud(t:Bool)(i:Nat):exD U (.ownD t i) O=.ok Ve:=rfl
@[simp]def x_retF(i:Nat):exD U (.retF i) O=match O[i]? with
  |some (So (.dct t Fo ks vs))=>.ok (.rt Qak,O)
  |_=>.sk:=rfl
@[simp]def x_put(m t':Bool)(i:Nat)(k v:Px):exD U (.put m t' i k v) O=match O[i]? with
  |some (So (.dct t Fo ks vs))=>(evD U v O).bind λy=>(evD U k O).bind λx=>if(m&&!y.imm)||!(t==t')||!keyD t x||!decide (Ay<1000)then .sk else .ok (.nx,O.set i (So (.dct t Fo (putD x y ks vs).1 (putD x y ks vs).2)))
  |_=>.sk:=rfl
@[simp]def x_raise(c:Str)(p:Px):exD U (.raise c p) O='Ƥ'.bind λd=>if xH d then .ex c else .sk:=rfl
def x_whl(n:Nat)(c:Px)(b:Sx):exD U (.whl n c b) O=whlL Xh (exD U b) n O:=rfl
@[simp]def x_eff(e:Px):exD U (.eff e) O='ŭ'.bind λ_=>.ok Yu:=rfl
@[simp]def qK(e:Px):exD U aQ O='ŭ'.bind λd=>.ok Z2:=rfl
@[simp]def tK(c:Px)(a b:Sx):exD U (.ite c a b) O='Ԅ'.bind λx=>match x with
  |.bl To=>exD U a O
  |.bl Fo=>exD U b O
  |_=>.sk:=rfl
@[simp]def hV(m:Bool)(g:Aq)(f:Nat)(src:Px)(b:Sx):exD U (.loop m g f src b) O='У'.bind λs=>s.asL.bind λJ=>if m&&(mutS b||!imms J)then .sk else forL g f (exD U b) J O:=rfl
@[simp]def x_brk:exD U .brk O=.ok (.bk,O):=rfl
end
def Jpw(ns:AR):deps DI=0:=by
 induction ns with
 |nil=>rfl
 |cons a t b=>simp[deps,D.dep,b]
def Jph(ns:Ag):deps (ns.map Yn)=0:=by
 induction ns with
 |nil=>rfl
 |cons a t b=>simp[deps,D.dep,b]
def JnU(ns:AR):imms DI=To:=by
 induction ns with
 |nil=>rfl
 |cons a t b=>simp[imms,D.imm,b]
def Joe(ns:Ag):imms (ns.map Yn)=To:=by
 induction ns with
 |nil=>rfl
 |cons a t b=>simp[imms,D.imm,b]
def JuR(b:Nat)(c e:Fm->Rs D)(O:Fm):JX b c e O []=.ok []:=rfl
def tZ(b:Nat)(c e:Fm->Rs D)(O:Fm)(d:D)(J:Am){new:Fm}(g:JT b d=.ok new)(f:c (new++O)=.ok Cp){y:D}(i:p=To->e (new++O)=.ok y)
  {ys:Am} (h:JX b c e O J=.ok ys):JX b c e O (d::J)=.ok (if p then y::ys else ys):=by cases p<;>simp[JX,g,f,h,i]
def Jdv(c e:Fm->Rs D)(O:Fm)(f:Nat->D):∀(n lo:Nat),(∀k,lo<=k->k<lo+n->c (So Er::O)=.ok Cw/\e (So Er::O)=.ok (f k))->
  JX 0 c e O ('仄'.map λk:Nat=>D.int k)=.ok ('仄'.map f)
 |0,lo,h=>rfl
 |n+1,lo,h=>by
  obtain⟨g,b⟩:=h lo (Zf _) Ad
  have j:=Jdv c e O f n (lo+1) λk l m=>h k Ad Ad
  have i:JT 0 (D.int lo)=.ok [So (.int lo)]:=rfl
  have:=tZ 0 c e O (.int lo) _ i (p:=To) g (λ_=>b) j
  simpa[List.range'_succ]using this
def Jlp(n:Nat):upTo 0 n='ɮ'.map λk:Nat=>D.int k:=by simp[upTo,List.range_eq_range']
def JoU(n:Nat)(b:n<=1000):(upTo 0 n).length<=lD:=by
 have h:(upTo 0 n).length=n:=by simp[upTo]
 rw[h];exact ZA b A9
def vW(U:Ae)(O:Fm)(ne e:Px)(n:Nat)(g:evD U ne O=.ok QcZ)(b:n<=1000)(f:Nat->D)(h:∀k,k<n->evD U e (So Er::O)=.ok (f k)):
  evD U (.comp 0 (.un .range ne) B4 e) O=.ok (.lst ('Ժ'.map f)):=by have:=Jdv (evD U B4) 'Ԑ' O f n 0 λk j i=>⟨rfl,h k Ad⟩;rw[List.range_eq_range',fQ,e_un,g,Rs.bo,JmJ n b,Rs.bo];show(if(upTo 0 n).length<=lD then _ else _)=_;rw[if_pos (JoU n b),Jlp,this];rfl
section
variable(U:Ae)(O:Fm)
def eA(e:Px):Jf (exD U aQ O)=evD U e O:=by rw[qK];cases evD U e O<;>rfl
def uI(e:Px)(rest:Sx)(b:evD U c O=.ok Cp):Jf (exD U (.seq (.ite c aQ .skip) rest) O)=if p then evD U e O else Jf QX:=by
 rw[sA,tK,b];cases p with
 |true=>simp only[Rs.bo,qK,if_true];cases evD U e O<;>rfl
 |false=>simp
def nB{i:Nat}{d:D}(rest:Sx)(b:evD U e O=.ok d):Jf (exD U Qz O)=Jf (exD U rest FR):=by rw[sA,uT,b];rfl
def jI{a:Sx}{env2:Fm}(rest:Sx)(h:exD U a O=.ok GK):Jf (exD U QdP O)=Jf (exD U rest env2):=by rw[sA,h];rfl
def eL{b:Px}{q:Bool}(f:evD U a O=.ok Cp)(g:p=To->evD U b O=.ok Qaz):evD U (.and a b) O=.ok (.bl (p&&q)):=by
 rw[e_and,f];cases p with
 |true=>simpa using g rfl
 |false=>rfl
def mG{b:Px}{q:Bool}(f:evD U a O=.ok Cp)(g:p=Fo->evD U b O=.ok Qaz):evD U (.or a b) O=.ok (.bl (p||q)):=by
 rw[e_or,f];cases p with
 |false=>simpa using g rfl
 |true=>rfl
def JL(b:evD U a O=.ok Cp):evD U (.un .not a) O=.ok (.bl (!p)):=by rw[e_un,b];rfl
def iA(b:evD U a O=.ok Cp):evD U (.un .truth a) O=.ok Cp:=by rw[e_un,b];rfl
def Jk{o:O2}{b:Px}{x y z:D}(g:evD U a O=.ok x)(f:evD U b O=.ok y)(ho:op2 o x y=.ok z):evD U (.bi o a b) O=.ok z:=by rw[e_bi,g,Rs.bo,f,Rs.bo,ho]
def JE{o:O1}{x z:D}(b:evD U a O=.ok x)(ho:op1 o x=.ok z):evD U (.un o a) O=.ok z:=by rw[e_un,b,Rs.bo,ho]
def Jj{f:Nat}{x:D}{r:Rs D}(g:evD U a O=.ok x)(b:U f [x]=r):evD U (.call f (.cons a .nil)) O=r:=by rw[kQ,xK,g];exact b
end
def yG(f:α->Bool):∀J:List α,xB (J.map λd=>.bl (f d))=So (J.map f)
 |[]=>rfl
 |d::J=>by simp[xB,yG f J]
mutual
def D.small:D->Bool
 |.str x=>decide (Xo<=1000)
 |.tup J=>decide (Ac<=1000)&&pU J
 |.lst J=>decide (Ac<=1000)&&pU J
 |_=>To
def pU:List D->Bool
 |[]=>To
 |d::J=>D.small d&&pU J
end
structure Nice(n:Nat)(d:D):Prop where
 s:d.small=To
 p:d.dep<=n
theorem dX:∀{J:Am}{n:Nat},(∀d∈J,d.dep<=n)->deps J<=n
 |[],_,_=>mB _
 |x::xs,n,h=>by
  have f:=h x Af
  have g:=dX (J:=xs) (n:=n) λd b=>h d aR
  simp only[deps]
  lia
def xI{n:Nat}(h:n<=1000):n<=lD:=ZA h A9
def eB(U:Ae)(O:Fm)(h:evD U as O=.ok AE)(b:Ac<=1000):evD U (.tup as) O=.ok Gr:=by rw[e_tup,h,Rs.bo,yI,Rs.bo,if_pos (xI b)]
def JpL(U:Ae)(O:Fm)(h:evD U as O=.ok AE)(b:Ac<=1000):evD U (.dis as) O=.ok AE:=by rw[e_dis,h,Rs.bo,yI,Rs.bo,if_pos (xI b)]
def Ji(U:Ae)(O:Fm){d:D}(h1:evD U a O=.ok d)(b:evD U as O=.ok AE):evD U (.cons a as) O=.ok (.lst (d::J)):=by rw[xK,h1,Rs.bo,b];rfl
def JA(U:Ae)(O:Fm){f:Nat}{r:Rs D}(h:evD U as O=.ok AE)(b:U f J=r):evD U (.call f as) O=r:=by rw[kQ,h];exact b
def vQ{xs ys:Am}(h:Ai+BU<=1000):op2 .add Bl QaU=.ok (.tup (xs++ys)):=JuT _ _ (xI h)
def JiC(x:Str):∀l:List Str,x∉l->(insS x l).length=Xv+1
 |[],_=>rfl
 |y::ys,h=>by
  simp only[Zg,not_or]at h
  unfold insS
  split
  ·next e=>exact absurd (by simpa using e) h.1
  ·split
   ·rfl
   ·simp[JiC x ys h.2]
def oB (l:Ag):Bool:=decide ((Jn l).length<Xv)
def gY:∀l:List Str,l.Nodup->(Jn l).length=Xv
 |[],_=>rfl
 |x::xs,h=>by
  obtain⟨b,f⟩:=iB.mp h
  unfold Jn
  rw[JiC x _ (λz=>b ((Ju xs x).mp z)),gY xs f]
  rfl
def Jhw{l:Ag}(h:l.Nodup):oB l=Fo:=by simp[oB,gY l h]
def Jbh(c e:Fm->Rs D)(O:Fm)(f:α->D)(p:α->Bool)(g:α->D):∀b:List α,(∀r∈b,c EI=.ok (.bl (p r))/\(p r=To->e EI=.ok (g r)))->JX 0 c e O (b.map f)=.ok ((b.filter p).map g)
 |[],_=>rfl
 |r::b,h=>by
  have l:=Jbh c e O f p g b λx j=>h x (by simp[j])
  have i:=h r Af
  have:=tZ 0 c e O (f r) (b.map f) (new:=[So (f r)]) rfl i.1 i.2 l
  rw[Zl,this]
  cases m:p r<;>simp[zD,m]
def JbZ(c e:Fm->Rs D)(O:Fm)(f1 f2:α->D)(p:α->Bool)(g:α->D):∀b:List α,(∀r∈b,c IV=.ok (.bl (p r))/\(p r=To->e IV=.ok (g r)))->JX 2 c e O Qv=.ok ((b.filter p).map g)
 |[],_=>rfl
 |r::b,h=>by
  have j:=JbZ c e O f1 f2 p g b λx i=>h x (by simp[i])
  have f:=h r Af
  have:=tZ 2 c e O (.tup Sh) Qv (new:=[So (f1 r),So (f2 r)]) rfl f.1 f.2 j
  rw[Zl,this]
  cases l:p r<;>simp[zD,l]
def xQ(U:Ae)(O:Fm){rs:List α}(f:α->D)(p:α->Bool)(g:α->D)(i:LY)(b:rs.length<=1000)
  (h:∀r∈rs,evD U c EI=.ok (.bl (p r))/\(p r=To->evD U e EI=.ok (g r))):evD U Qam O=.ok (.lst ('丅'.map g)):=by rw[fQ,i,Rs.bo,yI,Rs.bo,if_pos (by rw[Zj];exact xI b),Jbh _ _ O f p g rs h];rfl
def JoX(U:Ae)(O:Fm){rs:List α}(f1 f2:α->D)(p:α->Bool)(g:α->D)(f:evD U src O=.ok UW)(b:rs.length<=1000)
  (h:∀r∈rs,evD U c IV=.ok (.bl (p r))/\(p r=To->evD U e IV=.ok (g r))):evD U (.comp 2 src c e) O=.ok (.lst ('丅'.map g)):=by rw[fQ,f,Rs.bo,yI,Rs.bo,if_pos (by rw[Zj];exact xI b),JbZ _ _ O f1 f2 p g rs h];rfl
def JbD(rs:List α):rs.filter 'ϔ'=rs:=by simp
def mD(U:Ae)(O:Fm){rs:List α}(f:α->D)(g:α->D)(j:LY)(i:rs.length<=1000)
  (h:∀r∈rs,evD U e EI=.ok (g r)):evD U Su O=.ok Rz:=by rw[xQ U O f 'ϔ' g j i λr b=>'ώ',JbD]
def Jif(U:Ae)(O:Fm){rs:List α}(f1 f2:α->D)(g:α->D)(i:evD U src O=.ok UW)(f:rs.length<=1000)
  (h:∀r∈rs,evD U e IV=.ok (g r)):evD U (.comp 2 src B4 e) O=.ok Rz:=by rw[JoX U O f1 f2 'ϔ' g i f λr b=>'ώ',JbD]
def wQ(d:D)(h:d.dep<=20):op2 .ne d d=.ok CO:=by rw[o_ne _ _ h h,jL d 'd'];rfl
def JmS(d:D)(h:d.dep<=20):op2 .eq d d=.ok Cw:=by rw[o_eq _ _ h h,jL d 'd']
section
variable(U:Ae)(O:Fm)
def wH{i:Nat}{d:D}(rest:Sx)(b:evD U e O=.ok d):exD U Qz O=exD U rest FR:=by rw[sA,uT,b];rfl
def Juc{a:Sx}{env2:Fm}(rest:Sx)(h:exD U a O=.ok GK):exD U QdP O=exD U rest env2:=by rw[sA,h];rfl
def n_if{b:Bool}(A B:Sx)(f:evD U c O=.ok E8):exD U (.ite c A B) O=if b then exD U A O else exD U B O:=by rw[tK,f];cases b<;>rfl
def e_if{x y:Px}{b:Bool}(f:evD U c O=.ok E8):evD U (.ite c x y) O=if b then evD U x O else evD U y O:=by rw[e_ite,f];cases b<;>rfl
end
def wW(x y:Str):op2 .eq CB Gs=.ok (.bl (x==y)):=by rw[o_eq _ _ (by simp[D.dep]) (by simp[D.dep])];rfl
def JsA(x y:Str):op2 .ne CB Gs=.ok (.bl (!(x==y))):=by rw[o_ne _ _ (by simp[D.dep]) (by simp[D.dep])];rfl
def JnB(n:Nat)(h:n<=1000):op1 .range (.int (n:Int))=.ok (.lst ('ɮ'.map λk:Nat=>D.int k)):=by rw[JmJ n h,Jlp]
def runR (U:Ae) (bc:AI) (sl i:Nat) (b1 b2:Bs) (J:Am) (a:Nat):Rs D:=
 match exO Fo U bc b1 (Jx sl J)with
 |.ok .nx O=>if plE O then(match exO Fo U bc b2 (O.set i Ke)with
  |.ok (.rt d) _=>.ok d
  |.ex c _=>.ex c
  |_=>.sk)else .sk
 |.ex c _=>.ex c
 |_=>.sk
noncomputable def datD:D->Bool
 |.non=>To
 |.bl _=>To
 |.int _=>To
 |.str _=>To
 |.tup J=>dats J
 |_=>Fo
where dats:List D->Bool
 |[]=>To
 |d::J=>datD d&&dats J
def Jov{n:Nat}(h:n<=20000):n<=lD:=ZA h A9
def Jom(U:Ae)(O:Fm){rs:List α}(f:α->D)(p:α->Bool)(g:α->D)(i:LY)(b:rs.length<=20000)
  (h:∀r∈rs,evD U c EI=.ok (.bl (p r))/\(p r=To->evD U e EI=.ok (g r))):evD U Qam O=.ok (.lst ('丅'.map g)):=by rw[fQ,i,Rs.bo,yI,Rs.bo,if_pos (by rw[Zj];exact Jov b),Jbh _ _ O f p g rs h];rfl
def jM(U:Ae)(O:Fm){rs:List α}(f:α->D)(g:α->D)(j:LY)(i:rs.length<=20000)
  (h:∀r∈rs,evD U e EI=.ok (g r)):evD U Su O=.ok Rz:=by rw[Jom U O f 'ϔ' g j i λr b=>'ώ',JbD]
def Jur(U:Ae)(bc:AI)(R:List D->Nat->Rs D)(m r u:Nat)(p t:Px)(b s:Bs)(v:Sx)(O:Fm):Prop:=
 ∃a ks vs J es T z,O[m]? =So (So IU)/\Jc vs=To/\Jc J=To/\Jc es=To/\plE (O.set m No)=To/\
 evD U p O=.ok (.lst T)/\datD.dats T=To/\evD U t O=.ok z/\Jh z=To/\
 ∀o,∃l i j h g f q,R T o=.ok (.obj o nsS QdQ)/\Jc i=To/\Jc j=To/\Jc h=To/\
  exO Fo U bc b (((O.set m Ij).set r (So (.obj o nsS QdQ))).set u (So z))=.ok .nx g/\exO Fo U bc s g=.ok .nx f/\
  f[m]? =So (So (.adr a))/\exD U v (f.set m (So IU))=.ok (.rt Cw,q)
end Pu
namespace Rd
open PySem PySem.Spec PyProof.Rows L2 Pu
section
variable{X:Cx}{U:Ae}{p:Px}{pos:Pos}
theorem JsG{z:Str}{k:Nat}{vs:Cy}(h:PJV X U vs p):PJV X U (.Constant YH k pos::vs) (.cons (.con YH) p):=by
 intro Y s Z H O j Q J y I r e q v o;simp only[evD,Rs.bo]at e;cases f:evD U p O with
 |ex c=>rw[f]at e;cases e
 |sk=>rw[f]at e;cases e
 |ok u=>
  rw[f]at e;cases u with
  |lst x=>
   simp only[Pu.D.asL,Rs.bo]at e;cases e;obtain⟨a,b,g,l,rfl⟩:=Jeo q;simp only[iI]at g;split at g
   ·cases g;rw[JJ]at v;refine Calls.Constant_str ⟨z,_,rfl,?_,?_⟩
    ·rw[JJ];show _<=16777216;lia
    ·exact h Y _ Z H O (j++z) Q x b GG r f l (by rw[JJ];lia) λm w t i=>by rw[JgF];exact o m w t i
   ·cases g
  |_=>cases e
end
section
variable{X:Cx}{G:Gw}{N:Ag}{nm:A8}{M:Aq}{H0:Hp}{U:Ae}{i j:Nat}{x y:Str}{px py pos:Pos}
def addE{e:Type}{a:Str}{f:Pu.D->Rs e}:(op2 .add Mz (.str a)).bind f=if a.length<=lD then f (.str a)else .sk:=by
 show(if 0+a.length<=lD then Rs.ok (D.str (X5++a))else .sk).bind f=_;rw[qJ];have b:Str.empty++a=a:=by cases a with|mk c=>show Str.mk (#[]++c)=_;simp
 rw[b];split<;>rfl
theorem aAugK{v:Expr}{P:Px}{ps:Pos}(C:Ao)(h:Eb)(m:(chkV N nm j y&&!M.contains j)=To)(hv:PE X v (tI X U P))(h2:sepP M P=To)
  (ha:∀E A g,augStore (.Name y py) E A g=(do holding [g,E,A] (setItem E A g);release [g,E,A] [];pure .next)):
  PS X (.AugAssign (.Subscript E3 (.Name y py) ps) .Add v pos) (tS X U M H0 (.put Fo Fo i (.var j) (.bi .add (.bi .add (.con Mz) (.bi E0 Cv (.var j))) P))):=by
 obtain⟨g1,g2,g3,g4,g5⟩:=chkO.at h;obtain⟨d1,d2⟩:=plainN.d g3;simp only[chkV,Zd,ZB,kB,rO,gG]at m;obtain⟨⟨⟨k1,k2⟩,k3⟩,k4⟩:=m;obtain⟨d3,d4⟩:=plainN.d k3;have hu:=C.un;refine PS.weak (JrX Ad L8 (nE (by rw[C.hN];exact k1) (C.vis y k2) d3 d4) (mE hv) Jht ha) λD Z H L=>?_;obtain⟨O,e,h⟩:=L;simp only[exD]at h;cases q:O[i]? with
 |none=>rw[q]at h;exact h.elim
 |some o=>
  rw[q]at h;cases o with
  |none=>exact h.elim
  |some d=>
   cases d with
   |dct t z ks u=>
    cases z with
    |true=>exact h.elim
    |false=>
     simp only[evD,q]at h;obtain⟨l,s,h0,hz,xs,hl,hr⟩:=e.own i _ g4 q;cases F:O[j]? with
     |none=>rw[F]at h;exact h.elim
     |some oj=>
      rw[F]at h;cases oj with
      |none=>exact h.elim
      |some dk=>
       simp only[Rs.bo,Rs.bind_assoc]at h;rw[show op2 'Û' (.dct t Fo ks u) dk=if t=Fo/\keyD t dk=To then Rs.ofOpt (jA dk ks u)else .sk from rfl]at h;split at h
       ·rename_i m;obtain⟨rfl,m⟩:=m;obtain⟨k,rfl⟩:=lM m;obtain⟨vj,w,rj⟩:=e.read j _ k4 F;have hy:=tL rj;subst hy;obtain⟨kvs,w1,rfl,rfl⟩:=hl;have Y:=look_of iD (k:=k) hr;cases ql:jA Es (kvs.map λp=>keyV p.1) u with
        |none=>rw[ql]at h;exact h.elim
        |some d=>
         rw[ql]at h Y;obtain⟨v,ev,rv⟩:=Y;simp only[Rs.ofOpt,Rs.bo]at h;cases d with
         |str a=>
          rw[addE]at h;split at h;rotate_left
          ·exact h.elim
          refine⟨.ref l,s,_,w,l,v,rfl,.inl ⟨kvs,k,.inl w1,rfl,ev.symm⟩,JD M 0 O,Ow M O Z,e.ows,Qds,?_⟩;rw[Jv U O h2];refine(Rs.gB.mp h).mono (λdv f v2 r B kk1 r1=>?_) λc z=>z.mono Yw;cases dv with
          |str b=>
           obtain rfl:v=.str a:=rv;obtain rfl:v2=.str b:=r1;rw[show op2 .add (.str a) (.str b)=if a.length+b.length<=lD then .ok (.str (a++b))else .sk from rfl]at f;split at f
           ·rename_i J;simp only[Rs.bo]at f;split at f
            ·exact f.elim
            ·rename_i W;have W:By<1000:=by simpa[m]using W
             have w2:r l=So AM:=B _ _ w1;refine⟨a,b,rfl,rfl,wG J,_,DPut.k (k:=k) w2 (by show _<16777216;lia),?_⟩;have e1:=e.grow B;have f2:Same Di J3:=(Fz.sm B).hid;obtain⟨p1,p2⟩:=tV (K:=X.K) (H:=hid BQ r) iD (k:=k) (v:=V.str (a++b)) (d:=.str (a++b)) rfl (hr.mono f2);have I:∀ob,OwnIs X.K J3 LI l (.dct Fo Fo (putD Es (.str (a++b)) (kvs.map λp=>keyV p.1) u).1 (putD Es (.str (a++b)) (kvs.map λp=>keyV p.1) u).2)->D.nx Z LI:=λob nw=>by obtain⟨e3,f4⟩:=e1.change (o:=ob) g4 q s nw;exact f _ _ e3 ⟨(Fz.sm B).trans f4,λz=>by cases z⟩
             refine I _ ?_;exact Qcd
           ·exact f.elim
          |_=>exact f.elim
         |_=>exact h.elim
       ·exact h.elim
   |_=>exact h.elim
end
end Rd
namespace Rd
open PySem PySem.Spec PyProof.Rows L2 Pu PySem.W
variable{N:Ag}{H H1:Hp}{X:Cx}{G:Gw}{nm:A8}{pos:Pos}{x:Str}{P:Be}{w:A0}{K:Aj}{bc:AI}{mg:Bi}{base:Heap}
def tIt (X:Cx) (U:Ae) (p:Px):TI:=λZ H R=>∃O,ReadOk X.K H Z O/\(evD U p O).Good (λe=>∃t ks b,e=.dct t To ks b/\∀d o a W,Same H W->DKo W d t o ks a->Reps X.K W b a->R QbU W) BE
section
variable{U:Ae}{a:Expr}{pa:Px}{ap tp:Pos}{elts:Cy}{kk:Nat}
def JnX(M:AG)(m:'б' (attributeBase a "items" QL CH=eval a QL) Ah)(hl:'б' ((ap.endLine==Xt)=To) Ah):
  PI X Ss (.Call WJ [] [] pos) (tIt X U pa):=by
 rintro Y s Z H R I⟨O,r,h⟩;refine wpAny_Call_method m rfl hl uS PySem.F.slot_dict_items PySem.F.type_dict_items (thn (M Y s Z H (λv W=>∃(t:Bool)(ks:Fl)(d:Addr)(o:Obj)(f:Av),v=.ref d/\DKo W d t o ks f/\R QbU W) I Dl) λu s1 zz=>?_)
 ·refine h.imp λdd hd v W s1 rv=>?_;obtain⟨t,ks,vs,rfl,y⟩:=hd;obtain⟨d,f,rfl,L,q2⟩:=rv;obtain⟨o,j⟩:=DKo.of L;exact⟨t,ks,d,o,f,rfl,j,y d o f W s1 j q2⟩
 obtain⟨v,H1,l,F,t,ks,d,o,f,e1,j,y⟩:=zz;subst e1;cases(show u=Value.ref d from F);obtain⟨i,C,gd,E,A,z,B,g2,g3⟩:=fJ l j;refine⟨⟨o,i,C⟩,λb e=>by cases e;exact⟨o,i,gd⟩,?_⟩;refine wO rfl (PySem.evalArgs_none ?_);refine JoM i C E ?_;refine Jpg CK (Zc _ i) B ?_;have J:∀b ob,s1.heap.get? b=So ob->((s1.heap.push {cls:=.type "dict_items",data:=.fields #[.ref d]}).push {cls:=.type "dict_itemiterator",data:=.fields #[.none,.bool Fo,.ref d,.int 0 0,.int A.size 0,.int z 0,.none,.none]}).get? b=So ob:=λb ob q=>Zc _ (Zc _ q);refine⟨_,[_],_,_,H1,rfl,l.kept (t':=XT) J,Jnv t d _ o A z B,⟨.none,.none,Ze _ rfl⟩,λb m=>?_,y⟩;have g:AB<=b:=by
  have e:b=(s1.heap.push {cls:=.type "dict_items",data:=.fields #[.ref d]}).objs.size:=by simpa using m
  rw[e,ZO];exact yA _
 exact l.fpOk g (l.hok.fresh g)
end
section
variable{w:Bool}{U:Ae}{H0:Hp}
def JmI{body:Bs}{A:Aq}{B:Nat}{D:Ends}{Z:Bf}{O:Fm}{J:Fl}{u:It}(e:EnvOk X.K [] H0 H1 Z O)(s1:Ge)(M:mutB body=Fo)
  (wk:∀W,SameP H1 W->(∀i,i<Ac->u.go i W)/\u.stop Ac W/\∀i x s,i<Ac->u.yld i W x s->Same W s/\∃d,J[i]? =So d/\Rep X.K s d x)
  (h:(forB A B Fh J O).Good Tr LG):
  ∃Y:Nat->Nat->L2.St->Hp->Prop,(∃m,Y 0 m Z H1)/\∀i m Z H,Y i m Z H->(u.stop i H/\D.nx Z H)\/(u.go i H/\∃Nn:L2.St->Hp->Prop,(∀g W,Nn g W->∃v,v<m/\Y Bq v g W)/\
   ∀x W,u.yld i H x W->gS X [] H0 A B x Z W λj l=>tSB X w U bc [] H0 body {D with nx:=Nn,ct:=Nn,bk:=D.nx} j l):=by
 have ch:∀{W:Hp},SameP H W->ChB C5 [] H [] W:=ChB.sp;have un:∀{L L':A1}{Ha Hb:Hp},ChB C5 L Ha L' Hb->SameP Ha Hb:=λz=>z.2 M;refine⟨λi m g W=>∃a,EnvOk X.K [] H0 W g a/\SameP H1 W/\i<=Ac/\m=Ac-i/\(forB A B Fh cE a).Good Tr LG,
  ⟨Ac,O,e,Qbx,mB _,rfl,by simpa using h⟩,?_⟩
 intro i m g W zz;obtain⟨a,e',c',hi,rfl,o⟩:=zz;obtain⟨w1,w2,w3⟩:=wk _ c';by_cases b:i<Ac
 ·refine .inr ⟨w1 i b,λj l=>∃v,v<Ac-i/\∃a,EnvOk X.K [] H0 l j a/\SameP H1 l/\i+1<=Ac/\v=Ac- Bq/\(forB A B Fh G4 a).Good Tr LG,λj l q=>q,λx l hy=>?_⟩;obtain⟨s2,d,hd,rd⟩:=w3 i x l b hy;rw[sR hd]at o;simp only[forB]at o;cases F:JT B d with
  |sk=>rw[F]at o;exact o.elim
  |ex c=>exact(gM F).elim
  |ok C=>
   rw[F]at o;have c2:=c'.trans (SameP.of s2);refine⟨a,d,C,e'.grow s2,by show Rep X.K (hid [] l) _ _;rw[JH];exact rd,F,λσ3 e3 ow3=>⟨pA A C a,e3,(Rq.gB.mp o).imp (λf r I=>?_) λ_ _ z=>z⟩⟩;cases f with
   |nx=>exactλt H4 y E=>WG
   |ct=>exactλt H4 y E=>WG
   |bk=>exactλt H4 y E=>I t H4 y (ch (s1.trans (c2.trans (un E))))
   |rt d=>exact I
 ·obtain rfl:i=Ac:=Nat.le_antisymm hi (Nat.le_of_not_lt b);rw[gN]at o;exact .inl ⟨w2,o g W e' (ch (s1.trans c'))⟩
def JeF:∀{ks vs:Fl},Ay=AA->Jc '乴'=To->Jc vs=To
 |[],[],_,_=>rfl
 |k::ks,v::vs,hl,h=>by
  simp only[zipD,Jc,Jh,Zd]at h⊢
  exact⟨h.1.2.1,JeF Ry h.2⟩
def DKo.sp{W:Hp}{d:Addr}{t:Bool}{o:Obj}{ks:Fl}{xs:Av}(s:CS)(h:FJ):DKo W d t o ks xs:=by cases t<;>obtain⟨a,q,e,b⟩:=h<;>exact⟨a,s _ _ q rfl,e,b⟩
variable{tg a:Expr}{body:BH}{p:Px}{sb:Bs}{ts:Aq}{nt kk:Nat}{ap tp cp:Pos}{elts:Cy}
def JsU(C:Ao)(E:Nk)(A:PE X a E1)(u:PG X Ss (gS X [] H0 ts nt))(y:PSs X body (tSB X w U bc [] H0 sb))(b:mutB sb=Fo)
  (g:'б' (attributeBase a "items" QL CH=eval a QL) Ah) (hl:'б' ((ap.endLine==cp.line)=To) Ah)
  (hs:∀x,foldedSetIterable Pf QL x=pure x:=by intro _;rfl):PS X (.For Ss Pf body [] pos) (tSB X w U bc [] H0 (.loop ts nt (.un .items p) sb)):=by
 refine PS.weak (yV E XH (JnX A g hl) u y hs) λD Z H q=>?_;obtain⟨O,e,h⟩:=q;refine FK;simp only[exO,evD]at h;cases z:evD U p O with
 |sk=>rw[z]at h;exact h.elim
 |ex c=>rw[z]at h;exactλC W B s=>h C W Z B Nf
 |ok d=>
  rw[z]at h;cases d with
  |dct t v ks f=>
   cases v with
   |false=>exact h.elim
   |true=>
    simp only[Rs.bo,op1]at h;split at h
    ·rename_i j;simp only[Zd]at j;refine⟨t,ks,f,rfl,λd o J H1 i l m=>?_⟩;refine JmI (e.grow i) (SameP.of i) b (λW sp=>?_) h;have r:=l.len;have I:=m.length;have F:Jc f=To:=JeF (ks:=ks) (by rw[r,I]) j.1;exact Joq (l.sp sp) (Reps.plain sp f F m) W (Same.refl W)
    ·exact h.elim
  |_=>exact h.elim
end
def tRd(X:Cx)(U:Ae)(bc:AI)(e:Hp)(i:Nat)(b1 b2:Bs):L2.TS:=λD Z H=>∃O,EnvOk X.K [] e H Z O/\(exO Fo U bc b1 O).Good (λf b=>f=.nx/\plE b=To/\
 ∀a,(exO Fo U bc b2 (b.set i Ke)).Good (λf _=>∃d,f=.rt d/\∀v W,Same e W->Rep X.K W d v->D.rt v W) (EQ X [] e)) (EQ X [] e)
section
variable{U:Ae}{H0:Hp}{i:Nat}{px p pos':Pos}{s1:Stmt}{rest:BH}{b1 b2:Bs}
def Jvz(C:Ao)(h0:A3)(hM:MakeS G)(s:chkA N nm [] i x=To)(hg:gloB nm K3=To)(h1:PS X s1 (tSB X Fo U bc [] H0 b1))(a:PSs X rest (tSB X Fo U bc [] H0 b2))
  (t:'б' (swapsWith 'ƾ' Qay aA QL=pure Fo) Ah):
  PSs X (s1::.Assign bJ 'ƾ' pos'::rest) (tRd X U bc H0 i b1 b2):=by
 obtain⟨l,f,fd,ps,mk,F,B,E,y,A⟩:=hM.ex;have I:=C.g;subst I;obtain⟨g1,g2,g3⟩:=chkA.at s;obtain⟨l1,l2⟩:=C.sto x g2;refine PSs.weak (JK h1 (JK (pG (by rw[C.hN];exact C.nd) 'ō' l1 (Jjl mk F B CY E A .nil (yH (X:=X)) Ab) t l2) a)) λD Z H zz=>?_;obtain⟨O,e,h⟩:=zz;refine⟨O,e,h.imp (λf m q=>?_) λ_ _ z=>z⟩;obtain⟨rfl,L,a⟩:=q;intro J H1 e1 _ z g hz b u;refine⟨z,g,l,rfl,Jd,y,λW _ sp _ r=>Lx⟩;have s1:Same H1 (upd (upd H1 g (.own z)) z (.ins l g [])):=λc o q=>by rw[Jb (Je q hz),Jb (Je q b)];exact q
 have e2:=e1.sp Af L h0 ('七'.trans (sp.sp Jd));refine⟨_,e2.put Af (by show Rep X.K cK _ _;rw[JH];exact r),(a z).imp (λf j q=>?_) λ_ _ z=>z⟩;obtain⟨d,rfl,hd⟩:=q;exactλv M s2 Y _=>hd v M s2 Y
end
def spR(K:Aj)(mg:Bi)(R:Dv):Sp:=λb H Q E=>PlO H/\∃J,Reps K H J b/\∀a,(R J a).Good (λd=>∀v W,Same H W->Rep K W d v->Q v W) (λc=>∀C W,mg c=So AX->Same H W->E AX No W)
section
variable{defs:BW}{bdefs:Fn}{k:Nat}
def fn_rd{j i:Nat}{qual:Str}{st:Stmt}{f:Addr}{fd:A7}{ps:Ag}{b1 b2:Bs}(F:D7)(S:Ky)(hp:Aw=1)(hpN:Aw<=Xr)
  (e:∀(X:Cx)(A:Bd)(U:Hp),Ctx X An N 'Š'.names->Room j A->HX X 'Š'.names->PlO U->PSs X Df (tRd X BR BO U i b1 b2)):
  FnOk P w K mg base B8 (j+1) f fd ps (λvs H Q E=>AA=1/\spR K mg (runR BR BO Xr i b1 b2) vs H Q E):=by
 obtain⟨oc,od,kV,doc,pm,an,cdv,ct,W,rfl,Y,L⟩:=F.ex;refine pK Y L S (λvs H Q E h=>by rw[h.1,hp]) (λA B s H vs Q E O h=>?_);obtain⟨hl,h0,J,r,g⟩:=h;have ld:=Xz;refine⟨_,e _ _ H (mQ S O) O Na h0,Jx Xr J,wM (d:=ON) rfl Ad (λi hi=>by simp at hi) r,?_⟩;unfold runR at g;cases q:exO Fo BR BO b1 (Jx Xr J)with
 |sk=>rw[q]at g;exact(g 0).elim
 |ex c m=>rw[q]at g;exactλo u z t I Z s' v=>uR v (g 0 o u t I.same)
 |ok y b=>
  rw[q]at g;cases y with
  |nx=>
   by_cases l:plE b=To
   ·simp only[l,if_true]at g;refine⟨rfl,l,λa=>?_⟩;have g:=g a;cases C:exO Fo BR BO b2 (b.set i Ke)with
    |sk=>rw[C]at g;exact g.elim
    |ex c m=>rw[C]at g;exactλo u z t I Z s' v=>uR v (g o u t I.same)
    |ok y M=>
     rw[C]at g;cases y with
     |rt d=>exact⟨d,rfl,g⟩
     |_=>exact g.elim
   ·simp only[l]at g;exact(g 0).elim
  |_=>exact(g 0).elim
end
noncomputable def tpO (H:Hp):Hp:=λa=>match H a with
 |some (.tup xs)=>So Bl
 |_=>No
noncomputable def bigT (H H1:Hp):Hp:=λa=>match H a with
 |some (.tup _)=>H1 a
 |some o=>So o
 |none=>H1 a
section
variable{W:Hp}{a:Addr}{o:HO}
def Jkz(h:tpO H a=So o):∃xs,o=.tup xs/\H a=So Bl:=by
 unfold tpO at h;split at h
 ·rename_i xs e;cases h;exact⟨xs,rfl,e⟩
 ·cases h
def yT{xs:Av}(h:H a=So Bl):tpO H a=So Bl:=by unfold tpO;rw[h]
def wL(h:∀xs,H a≠So Bl):tpO H a=No:=by
 unfold tpO;split
 ·rename_i xs e;exact absurd e (h xs)
 ·rfl
def JtR:PlO E7:=λa o h=>by obtain⟨b,rfl,_⟩:=Jkz h;rfl
def yK(H H1:Hp)(a:Addr):(bigT H H1 a=H1 a/\(H a=No\/∃xs,H a=So Bl))\/∃o,H a=So o/\bigT H H1 a=So o/\∀xs,o≠.tup xs:=by
 cases q:H a with
 |none=>exact .inl ⟨by unfold bigT;rw[q],.inl rfl⟩
 |some o=>
  cases o with
  |tup xs=>exact .inl ⟨by unfold bigT;rw[q],.inr ⟨xs,rfl⟩⟩
  |_=>exact .inr ⟨_,rfl,by unfold bigT;rw[q],λ_ z=>by cases z⟩
end
def JvG{h:Heap}{a:Addr}{o:HO}(x:MF):∃ob,h.get? a=So ob:=by
 cases o with
 |lst g=>obtain⟨_,_,_,_,e⟩:=x;exact⟨_,e⟩
 |lsm _ g=>obtain⟨_,_,_,_,e⟩:=x;exact⟨_,e⟩
 |tup g=>obtain⟨_,_,_,ob,e,_⟩:=x;exact⟨_,e⟩
 |dK b=>obtain⟨_,_,_,_,o,_,_,e,_⟩:=x;exact⟨_,e⟩
 |dT b=>exact x.elim
 |set S n=>obtain⟨o,_,_,_,e,_⟩:=x;exact⟨_,e⟩
 |ins C j fs=>obtain⟨_,_,_,e,_⟩:=x;exact⟨_,e⟩
 |own y=>exact x
 |xd fs=>obtain⟨_,⟨_,_,_,e,_⟩,_⟩:=x;exact⟨_,e⟩
 |rng i q=>obtain⟨_,_,_,e⟩:=x;exact⟨_,e⟩
 |frz ob u=>obtain⟨e,_⟩:=x;exact⟨_,e⟩
 |tbl m=>obtain⟨_,_,_,_,e,_⟩:=x;exact⟨_,e⟩
 |met f y=>exact⟨_,x⟩
 |ext l=>obtain⟨_,e,_⟩:=x;exact e
section
variable{A:Bd}{outer:A5}{s s':Ak}
def JsL(e:FU):Env0 P w K mg base A outer s E7:=
 ⟨e.frames,e.mod,λb o q=>⟨(e.bs b o q).1,wL λf z=>(by rw[(e.bs b o q).2]at z;cases z)⟩,e.bsz,e.funs,λb g=>wL λf z=>(by rw[e.frf b g]at z;cases z),λa o q=>by
  obtain⟨f,rfl,h⟩:=Jkz q
  exact e.hok a _ h,e.bare⟩
def JpQ(e:FU)(un:Un (frs outer) [] E7 H1 Re XZ)(y:HOk P w H1 XZ):Un (frs outer) [] H Lq Re XZ/\HOk P w Lq XZ/\Same H1 (bigT H H1)/\Same H (bigT H H1)/\∀b o,H1 b=So o->plK o=Fo->H b=No:=by
 have f:∀b u,H b=So u->(∀a,u≠.tup a)->∃ob,s.heap.get? b=So ob/\s'.heap.get? b=So ob/\H1 b=No/\bigT H H1 b=So u:=λb u z n=>by
  obtain⟨ob,g⟩:=JvG (e.hok b u z);have E:b∉frs outer:=λF=>by rw[e.frf b F]at z;cases z
  have B:tpO H b=No:=wL λa w=>by rw[z]at w;cases w;exact n a rfl
  refine⟨ob,g,un.keep b ob g B E Af,un.free b ob g B Af,?_⟩;rcases yK H H1 b with⟨_,q|⟨a,q⟩⟩|⟨o,q,h,_⟩
  ·rw[z]at q;cases q
  ·rw[z]at q;cases q;exact absurd rfl (n a)
  ·rw[z]at q;cases q;exact h
 have i:Same H1 Lq:=λb u z=>by
  rcases yK H H1 b with⟨q,_⟩|⟨o,q,_,n⟩
  ·rw[q];exact z
  ·obtain⟨_,_,_,h,_⟩:=f b o q n;rw[z]at h;cases h
 have sm:Same H Lq:=λb u z=>by
  rcases yK H H1 b with⟨q,c|⟨a,c⟩⟩|⟨o,q,h,n⟩
  ·rw[z]at c;cases c
  ·rw[z]at c;cases c;rw[q];exact un.tups b a (yT z)
  ·rw[z]at q;cases q;exact h
 have j:∀b,H b=No->tpO H b=No/\bigT H H1 b=H1 b:=λb z=>⟨wL λa w=>(by rw[z]at w;cases w),by unfold bigT;rw[z]⟩;have L:∀b o,H1 b=So o->plK o=Fo->H b=No:=λb o z J=>by
  cases q:H b with
  |none=>rfl
  |some u=>
   by_cases n:∀a,u≠.tup a
   ·obtain⟨_,_,_,h,_⟩:=f b u q n;rw[z]at h;cases h
   ·have⟨a,e⟩:∃a,u=.tup a:=Classical.byContradiction λk=>n λa e=>k ⟨a,e⟩;subst e;rw[un.tups b a (yT q)]at z;cases z;cases J
 refine⟨⟨λb o z n=>un.keep b o z (j b n).1,λb o z n=>un.slot b o z (j b n).1,λb o z n x=>by rw[(j b n).2];exact un.free b o z (j b n).1 x,un.there,λb a z=>sm _ _ z,λb o u z=>sm _ _ z,λb M z=>⟨#[],by rw[sm _ _ z];simp⟩⟩,λb u z=>?_,i,sm,L⟩;rcases yK H H1 b with⟨q,_⟩|⟨o,q,h,n⟩
 ·rw[q]at z;exact(y b u z).stay (λ_ _ _ t=>t) (λc t=>i _ _ t) (λc a t=>i _ _ t) λc C I t=>i _ _ t
 ·rw[h]at z;obtain rfl:o=u:=yD z;refine(e.hok b o q).stay (λc v l t=>?_) (λc t=>sm _ _ t) (λc a t=>sm _ _ t) λc C I t=>sm _ _ t;rcases l with rfl|l
  ·obtain⟨ob,m,r,_⟩:=f c o q n;rw[m]at t;cases t;exact r
  ·obtain⟨ob,m,r,_⟩:=f c _ l (λ_ z=>by cases z);rw[m]at t;cases t;exact r
end
mutual
def Rep.tp{K:Aj}{H:Hp}:∀(d:Pu.D){v:V},datD d=To->Rep K H d v->Rep K E7 d v
 |.non,_,_,h=>h
 |.bl _,_,_,h=>h
 |.int _,_,_,h=>h
 |.str _,_,_,h=>h
 |.tup J,_,n,⟨a,xs,e1,h1,h2⟩=>⟨a,xs,e1,h1.imp (λz=>yT z) id,Reps.tp J (by simpa[datD]using n) h2⟩
 |.lst J,_,n,_=>by cases n
 |.dct t z ks vs,_,n,_=>by cases n
 |.exc c,_,n,_=>by cases n
 |.fn x _,_,n,_=>by cases n
 |.obj a ns fs,_,n,_=>by cases n
 |.mls t J,_,n,_=>by cases n
 |.adr b,_,n,_=>by cases n
def Reps.tp{K:Aj}{H:Hp}:∀(J:Fl){xs:Av},datD.dats J=To->Reps K H J xs->Reps K E7 J xs
 |[],_,_,h=>h
 |d::J,_,n,⟨x,r,e1,h1,h2⟩=>by
  simp only[datD.dats,Zd]at n
  exact⟨x,r,e1,Rep.tp d n.1 h1,Reps.tp J n.2 h2⟩
end
def NewO(K:Aj)(H W:Hp)(d:Pu.D):Prop:=∀a ks b J e,d=.obj a nsS (fsS ks b J e)->Jc b=To->Jc J=To->Jc e=To->∃L,Prt K W a d L/\∀l∈L,H l=No
def spQ(K:Aj)(mg:Bi)(R:Dv):Sp:=λb H Q E=>∃J,datD.dats J=To/\Reps K H J b/\∀a,(R J a).Good (λd=>∀v W,Same H W->Rep K W d v->NewO K H W d->Q v W) (λc=>∀C W,mg c=So AX->Same H W->E AX No W)
def fn_tp{j:Nat}{f:Addr}{fd:A7}{ps:Ag}{R:Dv}(h1:∀J a,Ac≠1->R J a=.sk)(F:FnOk P w K mg base B8 j f fd ps (λvs H Q E=>AA=1/\spR K mg R vs H Q E)):FnOk P w K mg base B8 j f fd ps (spQ K mg R):=by
 have len:∀{vs:Av}{H:Hp}{Q:VK}{E:XK},spQ K mg R vs H Q E->AA=1:=fun{vs H Q E}h=>by
  obtain⟨J,_,r,g⟩:=h;have g:=g 0;have:=Xz;by_cases q:Ac=1
  ·rw[this,q]
  ·rw[h1 J 0 q]at g;exact g.elim
 have sub:∀{vs:Av}{H:Hp}{Q:VK}{E:XK},spQ K mg R vs H Q E->(AA=1/\spR K mg R vs E7 (λv W=>(∃h,HOk P w W h)->(∀b o,W b=So o->plK o=Fo->H b=No)->Same W (bigT H W)->Same H (bigT H W)->Q v (bigT H W)) (λC a W=>Same W (bigT H W)->Same H (bigT H W)->E C a (bigT H W))):=fun{vs H Q E}h=>by refine⟨len h,JtR,?_⟩;obtain⟨J,hd,r,g⟩:=h;refine⟨J,Reps.tp J hd r,λa=>(g a).mono (λd hd v W _ U hk nw y sm=>hd v _ sm (U.mono y) λb ks vs J es e pv pd pe=>?_) λc hc C W hm _ y sm=>hc C _ hm sm⟩;obtain⟨h,hk⟩:=hk;subst e;obtain rfl:v=.ref b:=U.1;obtain⟨L,p⟩:=Jqn U hk pv pd pe;exact⟨L,p.mono (p.keep y) (SameP.of y),λl hl=>by obtain⟨o,Y⟩:=p.at hl;exact nw l o Y (p.npl l hl o Y)⟩
 refine⟨λvs H Q E h=>F.len vs _ _ _ (sub h),λA M s H Z us vs Q E hr O hb hv hs=>mC (F.run A M s E7 Z us vs _ _ hr (JsL O) hb hv (sub hs)) λr s' z=>?_⟩;cases r with
 |error x=>
  obtain⟨a,C,W,B,a0,e1,os,i,un,t,fl,t1,t2,q⟩:=z;obtain⟨I,m,y,sm,_⟩:=JpQ O un t;refine⟨a,C,bigT H W,B,a0,e1,os,i,I,m,fl,λb u hb=>?_,λb o Y hf=>⟨λhn=>(t2 b o Y hf).1 (wL λxs w=>(by rw[hn]at w;cases w)),(t2 b o Y hf).2⟩,q y sm⟩;rcases yK H W b with⟨q,_⟩|⟨o,q,h,n⟩
  ·rw[q]at hb;exact t1 b u hb
  ·obtain⟨ob,g⟩:=JvG (O.hok b o q);exact(t2 b ob g λhf=>by rw[O.frf b hf]at q;cases q).2
 |ok fl=>
  cases fl with
  |ret u=>obtain⟨v,W,os,i,un,t,U,q⟩:=z;obtain⟨I,m,y,sm,nw⟩:=JpQ O un t;exact⟨v,bigT H W,os,i,I,m,U,q ⟨_,t⟩ nw y sm⟩
  |_=>exact z.elim
inductive CalleeQe(G:Gw)(R:Dv)(x:Str):Prop where
 |mk (kk:Nat) (f:Addr) (fd:FuncData) (ps:List Str) (h:FnOk G.prog G.w G.K G.mg G.base (CXr G.prog G.w) kk f fd ps (spQ G.K G.mg R)/\Room kk G.A.in1.in1/\G.mg x=So (.ref f)/\PySem.W.keepIn G.K (.ref f)=To/\Binds G.K fd ps []):CalleeQe G R x
structure CalleeQ(G:Gw)(R:Dv)(x:Str):Prop where
 ex:CalleeQe G R x
def tQ(X:Cx)(U:Ae)(R:Dv)(p:Px):TE:=λZ H Q=>∃O,ReadOk X.K H Z O/\(evD U p O).Good (λb=>∃J,b=.lst J/\datD.dats J=To/\∀a,(R J a).Good (λd=>∀v W,Same H W->Rep X.K W d v->NewO X.K H W d->Q v W) BE) BE
section
variable{U:Ae}{e:Expr}{es:Cy}{p:Px}{p1 p2 p3:Pos}{y:Str}{R:Dv}
def NewO.of{W:Hp}{d:Pu.D}(n:NewO K H1 W d)(s:Iq):NewO K H W d:=λa ks h J es q i g b=>by
 obtain⟨L,p,f⟩:=n a ks h J es q i g b
 refine⟨L,p,λl j=>?_⟩
 cases z:H l with
 |none=>rfl
 |some o=>have w:=f l j;rw[s l o z]at w;cases w
def pe_rd(C:Ao)(b:CalleeQ G R x)(hg:gloB nm x=To)(m:Gi)(E:Ec)(u:Co)
  (hpl:Dd):PE X S0 (tQ X U R p):=by
 obtain⟨kk,f,fd,ps,F,i,L,B,A⟩:=b.ex;have i:=Room.out i;have M:=C.g;subst M;have hp:oZ Kx X (λt _ W=>∀C,t=.ref C->XE X C W):=λY Z H s e s' I b=>by obtain⟨a,C,W,rfl,F,hE⟩:=pM I b;exact hE C rfl a s' F
 refine PE.weak (lX F i (C.glo x hg) L B A .nil hp E m u hpl) λZ H Q zz=>?_;obtain⟨O,r,h⟩:=zz;refine⟨O,r,h.imp λd hd=>?_⟩;obtain⟨J,rfl,g,hR⟩:=hd;refine Uq;show spQ X.K X.mg R (vs++[]) W Q _;rw[xD];exact⟨J,g,rs,λa=>(hR a).mono (λd o v j q rv nw=>o v j (s.trans q) rv (nw.of s)) λc z C j l q C' e=>by cases e;exact z C j l (s.trans q)⟩
end
section
variable{U:Ae}{H0:Hp}{y h:Str}{is io ih:Nat}{p pz:Px}{b b':Bs}{sx:Sx}{st s6 s7:Stmt}{rest:BH}{e ez:Expr}{es:Cy}{R:Dv}{p1 p2 px ph pt pt2 pos':Pos}{kt k2:Nat}
def Jnj(v:PS X st Qe):PS X st (tPk X U bc H0 b):=by
 intro Y s Z H D I h;obtain⟨L,O,i,r,e,A,k⟩:=h;obtain⟨E,e1,F,B⟩:=Inv.hide I r;refine ZL (v (E++Y) s Z Bc ⟨λg H1=>EnvOk X.K [] H0 H1 g i/\SameP Bc H1,λ_ _=>False,λ_ _=>False,λ_ _=>False⟩ B Dj) (λf s1 q=>?_) λ_ _ z=>z
 ·rw[A];exactλg W J c=>⟨J,λa o e p=>c.1.keep a o e p (by simp[Ow])⟩
 ·cases f with
  |next=>obtain⟨g,H1,M,t,m⟩:=q;obtain⟨C,I2⟩:=Inv.unhide I r e1 F (λb xs w=>m b _ w rfl) M;have j:=uL (H:=H) C;exact⟨g,_,I2,k g _ (by rw[j];exact t) (λl hl=>hJ hl) (by rw[j];exact m)⟩
  |brk=>obtain⟨_,_,_,z⟩:=q;exact z.elim
  |cont=>obtain⟨_,_,_,z⟩:=q;exact z.elim
  |ret u=>obtain⟨_,_,_,_,_,z⟩:=q;exact z.elim
def ss_rd(C:Ao)(h0:A3)(hq:CalleeQ G R y)(hgy:gloB nm y=To)(hdy:(y==Xk)=Fo)(ha:Ec)(hz:PE X ez (tI X U pz))(hc:celB nm x=To)
  (hgt:PG X Oy (gS X [] H0 [io,ih] 2)) (h6:PS X s6 Qe) (h7:PS X s7 (tSB X Fo U bc [] H0 b')) (h8:PSs X rest (tS X U [] H0 sx))
  (hs1:'б' (starEach W3 QL=(Fo,eval (.Call (.Name y p1) E2 [] p2) QL)::starEach [ez] QL) Ah) (hs2:'б' (starEach [ez] QL=(Fo,eval ez QL)::starEach [] QL) Ah)
  (hs:'б' (swapsWithSole MK SM aA QL=pure Fo) Ah)
  (h1:'б' ((assignEach MK QL).map (·.2)=[assign Oy QL]) Ah)
  (he:Co) (hpl:'б' ((backTo p2 KJ).any (·.1)=Fo) Ah):
  PSs X (.Assign MK SM pos'::s6::s7::rest) (tLaw X H0 (Jur U bc R is io ih p pz b b' sx)):=by
 have hsw:swappedStores MK SM QL=pure No:=JsC λz=>by have:=C.cel x hc;rw[z]at this;rcases this with w|w<;>cases w
 intro Y s Z H D I zz;obtain⟨O,ee,⟨a,ks,vs,J,es',T,z,hsi,pv,pd,pe,L,hp,hT,hzz,pz',run⟩,hD⟩:=zz;refine JK (Jqy (JiT (Jq (pe_rd C hq hgy hdy ha he hpl) (Jq hz JP hs2) hs1)) hgt hs hsw h1) (JK (Jnj h6) (JK (Jnj h7) h8)) Y s Z H D I ?_;obtain⟨v,M,r⟩:=ee.readOk is _ hsi;obtain rfl:v=.ref a:=r.1;obtain⟨La,pa⟩:=Jqn r Xy pv pd pe;refine⟨O,ee.readOk,?_⟩;rw[hp];refine⟨T,rfl,hT,λo=>?_⟩;obtain⟨i,l,m,g,A,u,env3,hR,pv',pd',pe',hb,hb',hi2,hx⟩:=run o;rw[hR];intro v H1 s1 r1 nw;obtain⟨Lb,pb,fr⟩:=nw o i l m g rfl pv' pd' pe';obtain rfl:v=.ref o:=r1.1;refine⟨O,(ee.grow s1).readOk,?_⟩;rw[hzz];intro v2 H2 s2 r2;refine⟨by show 2<=16777216;decide,λt ht=>?_⟩;obtain⟨s3,r3⟩:=jF (K:=X.K) (J:=Qcf) (xs:=[.ref o,v2]) ht ⟨_,_,rfl,r1.mono s2,_,_,rfl,r2,rfl⟩;have E:=(s1.trans s2).trans s3;have e3:=ee.grow E;have e3':EnvOk X.K [] H0 Tu Z (O.set is Ij):=env0 e3.same (by rw[iC];exact e3.len) λj d h=>by
  rcases JB h with⟨rfl,w,_⟩|⟨_,h⟩
  ·cases w;exact⟨_,M,rfl⟩
  ·exact e3.readOk j d h
 have f:=pa.mono (pa.keep E) (SameP.of E);have pb3:=pb.mono (pb.keep QE) (SameP.of QE);have dj:∀c∈Lb,c∉La:=λc h1 h2=>by obtain⟨o,ho⟩:=pa.at h2;rw[fr c h1]at ho;cases ho
 refine⟨_,.tup Qcf,[So QbV,So z],e3',by show Rep X.K IE _ _;rw[JH];exact r3,rfl,λσ4 e4 _=>?_⟩;have e4:EnvOk X.K [] H0 Tu σ4 (((O.set is Ij).set io (So QbV)).set ih (So z)):=e4;refine⟨La,_,A,f.owc,env0 (h0.same e4.same f.hid) e4.len (λj d h=>?_),hb,λσ6 H6 e6 kL sp=>?_⟩
 ·obtain⟨v,M,F⟩:=e4.readOk j d h;refine⟨v,M,?_⟩;rcases JB h with⟨_,w,_⟩|⟨n1,h⟩
  ·cases w;exact Rep.plain f.hid _ pz' F
  ·rcases JB h with⟨_,w,_⟩|⟨n2,h⟩
   ·cases w;obtain rfl:v=.ref o:=F.1;exact pb3.rep _ (λc hc=>Jt (dj c hc)) f.hid
   ·rcases JB h with⟨_,w,_⟩|⟨n3,h⟩
    ·cases w;exact F
    ·exact Rep.plain f.hid d (jW L h n3) F
 have sp6:SameP Tu H6:=λc o ec pk=>(fH (sp c o (f.hid c o ec pk) pk)).2;have B:=f.mono kL sp6;refine⟨La,A,u,B.owc,e6,hb',λσ7 H7 e7 kL7 sp7=>?_⟩;have pa7:=B.mono kL7 λc o ec pk=>(fH (sp7 c o (B.hid c o ec pk) pk)).2;have q:=e7.grow hid_same;refine⟨u.set is (So (.obj a nsS (fsS ks vs J es'))),env0 q.same (by rw[iC];exact q.len) λj d h=>?_,?_⟩
 ·rcases JB h with⟨rfl,w,_⟩|⟨_,h⟩
  ·cases w;obtain⟨v,M,F⟩:=q.readOk _ _ hi2;obtain rfl:v=.ref a:=F;exact⟨_,M,pa7.now⟩
  ·exact q.readOk j d h
 ·rw[hx];exactλv W _ r=>by cases r;exact hD W
end
end Rd
namespace K72
open PySem Pu
variable{e O:Fm}{a i:Nat}{dn un fs' ks vs:Am}{c:Px}{bc:AI}{w:Bool}{ns':Ag}{ls:Ds}
noncomputable abbrev cl9:List Str:=[DA,Dx,Dw,Cm,Dz,Gm,Dy,Ck,Cj]
noncomputable def JcU:Sx:=(.seq (.ite V1 C1 .skip)
  (.ret (.and (.and (.bi .le E4 Eo) N3) (.un .all (.comp 0 EF B4 (.bi .isin Ap BS))))))
noncomputable def JgT:Sx:=(.ret (.call 0 (.cons Ap (.cons (.con QaV) Rw))))
noncomputable def JfF:Sx:=(.ret (.call 0 (.cons Ap (.cons (.con QaW) Hq))))
noncomputable def JaL:Sx:=(.ret (.and (.un .isTup Ap) (.and (.bi .le AW Eo) N3)))
noncomputable def JbI:Sx:=(.ret (.un .all (.comp 0 EF B4 (.call 1 E6))))
noncomputable def yZ:Sx:=(.ret (.bi .lt (.un .lset Ap) Eo))
noncomputable def JM:Sx:=(.seq (.ite VQ C1 .skip)
  (.ret (.un .all (.comp 2 Ox B4 (.bi .lt Ap AW)))))
noncomputable def zG:Sx:=(.seq (.ite (.un .not (.un .truth (.call 3 (.cons Ap (.cons Gk (.cons K6 .nil)))))) C1 .skip)
  (.seq (.ite RV (.ret (.and (.bi .eq Eo K6) (.and (.call 2 Xs) (.call 6 (.cons RU .nil))))) .skip)
  (.seq (.ite (.bi .ne Eo Gk) C1 .skip)
  (.seq (.ite (.bi .eq HB Nd) (.ret (.call 1 Xs)) .skip)
  (.ret (.and (.bi .isin HB (.con Hi)) (.call 2 Xs)))))))
noncomputable def gZ:Sx:=(.ret (.bi .ne HB Nd))
noncomputable def Jbi:Sx:=(.ret (.comp 0 EF (.un .truth (.call 8 E6)) DE))
noncomputable def JaV:Sx:=(.seq (.ite (.or (.un .not (.un .truth (.call 3 (.cons Ap (.cons HD Uy))))) (.un .not (.un .truth Wc))) C1 .skip)
  (.seq (.ite (.un .truth WK) C1 .skip)
  (.ret (.un .not (.call 5 (.cons (.call 9 E6) .nil))))))
noncomputable def dY:Sx:=(.ret (.and (.call 3 (.cons Ap (.cons Gk QbW))) (.and (.call 2 (.cons HB .nil)) (.call 10 Xs))))
noncomputable def rZ:Sx:=(.seq (.ite (.or (.un .not (.un .truth (.call 3 (.cons Ap (.cons HD Rw))))) (.un .not (.un .truth Wf))) C1 .skip)
  (.ret (.un .not (.call 5 (.cons PR .nil)))))
noncomputable def iZ:Sx:=(.seq (.set Fo 2 (.un .tuple (.comp 0 (.walk AW) B4 (.tup YJ))))
  (.seq (.ite (.un .not (.un .truth YK)) RT .skip)
  QaX))
noncomputable def qX:Sx:=(.seq (.set Fo 2 (.bi .add Ap AW))
  (.seq (.ite UC RT .skip)
  (.seq (.ite (.un .truth (.call 5 (.cons PQ .nil))) RT .skip)
  QaX)))
noncomputable def JaC:Sx:=(.seq (.loop Fo [1,2] 2 VD YQ)
  (.seq (.ite RV (.ret (.bi .add Qbg (.bi .joinS (.con (.str (oS "|"))) RU))) .skip)
  (.ret DE)))
noncomputable def Jaz:Sx:=(.ret (.bi .add IR (.bi .joinS IR Ap)))
noncomputable def vY:Sx:=(.ret (.call 16 (.cons (.comp 0 EF B4 (.call 15 E6)) .nil)))
noncomputable def JR:Sx:=(.seq (.ite (.un .not (.un .truth (.bi .strt Ap IR))) EN .skip)
  (.ret (.ite (.bi .eq Ap IR) J2 (.bi .splitS Sf IR))))
noncomputable def JbG:Sx:=(.seq (.loop Fo [1,2] 2 VD VJ)
  (.seq (.ite OV (.seq U8
  (.ret (.tup (.cons Nl (.cons Qbh (.cons (.un .tuple (.bi .splitS Qbi (.con (.str (oS "|"))))) .nil)))))) .skip)
  UK))
noncomputable def sV:Sx:=(.seq (.set Fo 1 (.un .tuple (.comp 0 (.walk (.call 18 E6)) B4 (.call 19 E6))))
  (.seq (.ite (.un .not (.un .truth (.call 10 Hv))) EN .skip)
  Lc))
noncomputable def JaO:Sx:=(.ret (.bi .add (.bi .add (.bi .add HB PP) (.call 17 Xs)) QaY))
noncomputable def Jai:Sx:=(.ret (.bi .joinS J7 (.comp 0 EF B4 (.call 21 E6))))
noncomputable def qZ:Sx:=(.seq (.ite (.bi .eq Ap J7) (.ret J2) .skip)
  (.seq (.ite (.un .not (.un .truth (.bi .ends Ap QaY))) EN .skip)
  (.ret (.bi .splitS Tz QaY))))
noncomputable def sZ:Sx:=(.seq (.set Fo 1 (.bi .partS Ap PP))
  (.ret (.tup (.cons Nc (.cons (.call 20 QbX) .nil)))))
noncomputable def JaY:Sx:=(.seq (.set Fo 1 (.un .tuple (.comp 0 M5 B4 (.call 24 E6))))
  (.seq (.ite (.un .not (.un .truth (.call 12 Hv))) EN .skip)
  Lc))
noncomputable def zZ:Sx:=(.ret (.bi .joinS J7 (.comp 0 RN B4 (.bi .add (.un .join (.cons Se (.cons Ap (.cons (.con (.str (oS "]\n"))) .nil)))) (.call 22 Wn)))))
noncomputable def JU:Sx:=(.seq (.ownD Fo 1)
  (.seq Qct
  (.seq (.loop Fo [3] 0 M5 (.ite U7 (.seq Qcu
  Qd) VV))
  (.retF 1))))
noncomputable def Jgf:Sx:=(.seq (.set Fo 1 (.sl Ap QdR V7))
  (.seq (.ite TU EN .skip)
  Lc))
noncomputable def xM:Sx:=(.seq (.ite (.bi .lt AW Eo) (.ret (.bi .idx Ap AW)) .skip)
  (.seq (.ite (.bi .eq Ap J2) (.ret HD) .skip)
  (.ret (.bi .add (.bi .mul (.bi .idx Ap (.bi .mod AW Eo)) (.con QaZ)) AW))))
noncomputable def wZ:Sx:=(.seq (.set Fo 3 (.bi .mod (.bi .mul (.bi .add (.call 29 (.cons Ap Hv)) (.bi .mul (.con (.int 6151)) Tt)) (.con (.int 40692))) (.con Qan)))
  (.ret (.bi .mod (.bi .mod (.bi .add (.bi .mul BK BK) (.bi .fdiv BK (.con QaZ))) (.con Qao)) BS)))
noncomputable def dS:Sx:=(.seq (.set Fo 3 (.dis (.cons PN (.cons PM (.cons (.con (.str (oS "7"))) (.cons (.con (.str (oS "0"))) .nil))))))
  (.seq (.set Fo 4 (.call 30 (.cons Ap (.cons AW Rw))))
  (.seq (.ite (.bi .lt BJ Hw) (.ret (.tup (.cons Nd (.cons (.bi .idx BK V0) .nil)))) .skip)
  (.seq (.ite (.bi .eq BJ Hw) (.seq (.set Fo 5 VX)
  (.ret (.tup (.cons Nl (.cons BS (.cons (.un .tuple (.un .sset Et)) .nil)))))) .skip)
  (.ret (.tup (.cons (.bi .idx (.dis (.cons (.con Hu) (.cons (.con K1) (.cons (.con Hu) .nil)))) (.bi .sub BJ (.con (.int 5)))) M4)))))))
noncomputable def jS:Sx:=(.seq (.set Fo 3 (.dis (.cons (.con (.str (oS "y"))) (.cons (.con (.str (oS "id"))) (.cons (.con (.str (oS "z"))) Vp)))))
  (.seq (.own 4 VY)
  (.seq (.ite (.bi .eq V0 HD) (.app Fo 4 (.tup (.cons (.con F6) (.cons (.con (.str (oS "r"))) .nil)))) .skip)
  (.ret (.un .tuple BJ)))))
noncomputable def JbC:Sx:=(.seq (.set Fo 4 (.dis (.cons (.con (.str (oS "t"))) (.cons (.con (.str (oS "p"))) (.cons (.con (.str (oS "v"))) (.cons (.con (.str (oS "q"))) (.cons (.con (.str (oS "u"))) (.cons (.con (.str (oS "s"))) .nil))))))))
  (.seq (.set Fo 5 (.call 30 (.cons Ap (.cons AW (.cons (.bi .add BK E4) .nil)))))
  (.ret (.un .tuple (.comp 0 (.un .range Et) B4 'ҁ')))))
noncomputable def fS:Sx:=(.seq (.set Fo 1 (.dis (.cons (.un (.isC cl9 Dz) Ap) (.cons (.un (.isC cl9 DA) Ap) (.cons (.un (.isC cl9 Cj) Ap) .nil)))))
  (.seq (.set Fo 1 (.bi .add AW (.dis (.cons (.un (.isC cl9 Dy) Ap) (.cons (.un (.isC cl9 Dx) Ap) (.cons (.un (.isC cl9 Ck) Ap) .nil))))))
  (.seq (.set Fo 1 (.bi .add AW (.dis (.cons (.un (.isC cl9 Gm) Ap) (.cons (.un (.isC cl9 Dw) Ap) (.cons (.un (.isC cl9 Cm) Ap) .nil))))))
  (.seq (.ite (.or (.bi .ne (.bi .count AW B4) E4) (.un .not (.un .truth (.un (.isC cl9 ET) Ap)))) (.ret (.con (.str (oS "wrong")))) .skip)
  (.seq (.set Fo 2 (.dis (.cons (.con (.str (oS "bad lead"))) (.cons (.con (.str (oS "bad values"))) (.cons WR (.cons (.con (.str (oS "no hole"))) (.cons (.con (.str (oS "no row"))) (.cons WQ (.cons (.con (.str (oS "no text"))) (.cons (.con (.str (oS "taken"))) V4))))))))))
  (.ret (.bi .idx BS (.bi .index AW B4))))))))
noncomputable def kZ:Sx:=(.seq (.set Fo 2 (.dis (.cons PN (.cons PM (.cons (.con (.str (oS "home"))) Vp)))))
  (.seq (.seq (.set Fo 3 (.bi .idx BS (.call 30 (.cons Ap (.cons AW Hq))))) (.set Fo 4 (.call 30 (.cons Ap (.cons Tt Uy)))))
  (.seq (.ite N2 (.seq VP
  (.seq VT
  X8)) .skip)
  (.seq VI
  (.seq VN
  VW)))))
noncomputable def Jbg:Sx:=(.seq (.ownP 2 VR)
  (.seq (.ite Ov (.seq (.put Fo Fo 2 DB Mc)
  (.retP 2 (.bi Y4 DB Ap))) .skip)
  (.seq (.ite (.bi Y6 DB Ap) Wb .skip)
  (.seq (.ite (.bi .eq Nc N1) (.retP 2 Sr) .skip)
  (.seq (.ite (.bi Y6 KZ Ap) Wb .skip)
  (.seq (.set Fo 3 VU)
  (.seq (.set Fo 4 Qbj)
  (.seq (.ite bG (.ret (.tup (.cons Ap V4))) .skip)
  (.seq (.put Fo Fo 2 DB BJ)
  (.retP 2 BJ))))))))))
noncomputable def Jbb:Sx:=(.ret (.un .dictP (.comp 0 RN B4 (.tup (.cons Ap Wn)))))
noncomputable def Jap:Sx:=(.ret (.bi .joinS J7 (.comp 0 (.walk (.un .sortD Ap)) B4 (.bi .add (.bi .add Ou (.con (.str (oS "]\n")))) (.call 22 (.cons (.bi E0 AW Ap) .nil))))))
noncomputable def kS:Sx:=(.seq (.ite (.or TU (.bi Y6 AW Ed)) N0 .skip)
  (.ret (.bi E0 Ed AW)))
noncomputable def oR:Sx:=(.ret (.un .sortD Ed))
noncomputable def JvY:Sx:=(.seq (.ite (.bi .eq (.un .len AW) HD) (.raise Cj .nil) .skip)
  PV)
noncomputable def Jlz:Sx:=(.ret (.call 41 (.cons MM (.cons Pe (.cons Pd QbW)))))
noncomputable def Jha:Sx:=(.ret (.tup (.cons (.un .len Pe) (.cons (.un .len Pd) .nil))))
def defs:List DefD:=[⟨3,3,JcU⟩,⟨1,1,JgT⟩,⟨1,1,JfF⟩,⟨3,3,JaL⟩,⟨1,1,JbI⟩,⟨1,1,yZ⟩,⟨1,1,JM⟩,⟨1,1,zG⟩,⟨1,1,gZ⟩,⟨1,1,Jbi⟩,⟨1,1,JaV⟩,⟨1,1,dY⟩,⟨1,1,rZ⟩,⟨3,2,iZ⟩,⟨3,2,qX⟩,⟨3,1,JaC⟩,⟨1,1,Jaz⟩,⟨1,1,vY⟩,⟨1,1,JR⟩,⟨4,1,JbG⟩,⟨2,1,sV⟩,⟨1,1,JaO⟩,⟨1,1,Jai⟩,⟨1,1,qZ⟩,⟨2,1,sZ⟩,⟨2,1,JaY⟩,⟨1,1,zZ⟩,⟨4,1,JU⟩,⟨2,1,Jgf⟩,⟨2,2,xM⟩,⟨4,3,wZ⟩,⟨6,3,dS⟩,⟨5,3,jS⟩,⟨6,4,JbC⟩,⟨3,1,fS⟩,⟨8,2,kZ⟩,⟨5,2,Jbg⟩,⟨1,1,Jbb⟩,⟨1,1,Jap⟩,⟨2,2,kS⟩,⟨1,1,oR⟩,⟨5,4,JvY⟩,⟨1,1,Jlz⟩,⟨1,1,Jha⟩]
def JpM(U:Nat)(f b g:D):runD defs Bg 0 aD=Jf (exD Bh JcU QcM):=rfl
def Jvk(U:Nat)(b:D):runD defs Bg 1 [b]=Jf (exD Bh JgT [So b]):=rfl
def JuI(U:Nat)(b:D):runD defs Bg 2 [b]=Jf (exD Bh JfF [So b]):=rfl
def JfD(U:Nat)(f b g:D):runD defs Bg 3 aD=Jf (exD Bh JaL QcM):=rfl
def JhW(U:Nat)(b:D):runD defs Bg 4 [b]=Jf (exD Bh JbI [So b]):=rfl
def JhO(U:Nat)(b:D):runD defs Bg 5 [b]=Jf (exD Bh yZ [So b]):=rfl
def JbP(U:Nat)(b:D):runD defs Bg 6 [b]=Jf (exD Bh JM [So b]):=rfl
def vM(U:Nat)(b:D):runD defs Bg 7 [b]=Jf (exD Bh zG [So b]):=rfl
def JlM(U:Nat)(b:D):runD defs Bg 8 [b]=Jf (exD Bh gZ [So b]):=rfl
def Jgs(U:Nat)(b:D):runD defs Bg 9 [b]=Jf (exD Bh Jbi [So b]):=rfl
def JgG(U:Nat)(b:D):runD defs Bg 10 [b]=Jf (exD Bh JaV [So b]):=rfl
def JoL(U:Nat)(b:D):runD defs Bg 11 [b]=Jf (exD Bh dY [So b]):=rfl
def Jjz(U:Nat)(b:D):runD defs Bg 12 [b]=Jf (exD Bh rZ [So b]):=rfl
def JmW(U:Nat)(f b:D):runD defs Bg 13 [f,b]=Jf (exD Bh iZ [So f,So b,No]):=rfl
def JnN(U:Nat)(f b:D):runD defs Bg 14 [f,b]=Jf (exD Bh qX [So f,So b,No]):=rfl
def Jeg(U:Nat)(b:D):runD defs Bg 15 [b]=Jf (exD Bh JaC [So b,No,No]):=rfl
def Jei(U:Nat)(b:D):runD defs Bg 16 [b]=Jf (exD Bh Jaz [So b]):=rfl
def JkW(U:Nat)(b:D):runD defs Bg 17 [b]=Jf (exD Bh vY [So b]):=rfl
def Jcr(U:Nat)(b:D):runD defs Bg 18 [b]=Jf (exD Bh JR [So b]):=rfl
def Jhf(U:Nat)(b:D):runD defs Bg 19 [b]=Jf (exD Bh JbG Qd9):=rfl
def Jtw(U:Nat)(b:D):runD defs Bg 20 [b]=Jf (exD Bh sV Z6):=rfl
def JeQ(U:Nat)(b:D):runD defs Bg 21 [b]=Jf (exD Bh JaO [So b]):=rfl
def JdO(U:Nat)(b:D):runD defs Bg 22 [b]=Jf (exD Bh Jai [So b]):=rfl
def Jjw(U:Nat)(b:D):runD defs Bg 23 [b]=Jf (exD Bh qZ [So b]):=rfl
def JjQ(U:Nat)(b:D):runD defs Bg 24 [b]=Jf (exD Bh sZ Z6):=rfl
def JgC(U:Nat)(b:D):runD defs Bg 25 [b]=Jf (exD Bh JaY Z6):=rfl
def Jia(U:Nat)(b:D):runD defs Bg 26 [b]=Jf (exD Bh zZ [So b]):=rfl
def JcN(U:Nat)(b:D):runD defs Bg 27 [b]=Jf (exD Bh JU Qd9):=rfl
def JtG(U:Nat)(b:D):runD defs Bg 28 [b]=Jf (exD Bh Jgf Z6):=rfl
def nZ(U:Nat)(f b:D):runD defs Bg 29 [f,b]=Jf (exD Bh xM [So f,So b]):=rfl
def JjD(U:Nat)(f b g:D):runD defs Bg 30 aD=Jf (exD Bh wZ [So f,So b,So g,No]):=rfl
def Jke(U:Nat)(f b g:D):runD defs Bg 31 aD=Jf (exD Bh dS [So f,So b,So g,No,No,No]):=rfl
def JbW(U:Nat)(f b g:D):runD defs Bg 32 aD=Jf (exD Bh jS [So f,So b,So g,No,No]):=rfl
def JhE(U:Nat)(f b h g:D):runD defs Bg 33 [f,b,h,g]=Jf (exD Bh JbC [So f,So b,So h,So g,No,No]):=rfl
def Jrm(U:Nat)(b:D):runD defs Bg 34 [b]=Jf (exD Bh fS [So b,No,No]):=rfl
def JjF(U:Nat)(f b:D):runD defs Bg 35 [f,b]=Jf (exD Bh kZ [So f,So b,No,No,No,No,No,No]):=rfl
def Jgh(U:Nat)(f b:D):runD defs Bg 36 [f,b]=Jf (exD Bh Jbg [So f,So b,No,No,No]):=rfl
def JfN(U:Nat)(b:D):runD defs Bg 37 [b]=Jf (exD Bh Jbb [So b]):=rfl
def Jdo(U:Nat)(b:D):runD defs Bg 38 [b]=Jf (exD Bh Jap [So b]):=rfl
noncomputable def JZ:Bs:=(.ite (.pur (.un .isN BS)) (.popK K4 AW) (.putK K4 AW BS))
def xR:Bs:=(.seq (.appF Me VS)
  (.seq (.newL MG)
  (.eff (.call To 0 0 nsS (.cons BS QbY)))))
def nQ:Bs:=(.seq (.ite (.pur TU) N0 Km)
  (.seq (.set 3 (.pur (.bi Y4 AW Ed)))
  (.seq (.eff (.call To 1 0 nsS (.cons Nb (.cons AW M4))))
  (.ret BK))))
def eR:Bs:=(.seq (.set 2 Vo)
  (.seq (.eff (.call To 1 0 nsS (.cons N1 (.cons AW (.cons Da .nil)))))
  QaX))
def vR:Bs:=(.seq (.set 4 Vo)
  (.seq (.set 5 (.pur (.call 14 (.cons BJ (.cons (.call 13 (.cons BS (.cons (.call 39 (.cons MM QbY)) .nil))) .nil)))))
  (.seq (.eff (.call To 1 0 nsS (.cons NZ (.cons AW (.cons Et .nil)))))
  (.ret Et))))
def JC:Bs:=(.seq (.ite (.pur (.bi .eq Nc NZ)) (.retB (.tolB 34 cl9 4 0 nsS V6)) Km)
  (.ite (.pur Ov) (.retB (.tolB 34 cl9 2 0 nsS (.cons DB QbX))) (.retB (.tolB 34 cl9 3 0 nsS QbZ))))
def bdefs:List DefB:=[⟨3,3,JZ⟩,⟨4,4,xR⟩,⟨4,3,nQ⟩,⟨3,2,eR⟩,⟨6,4,vR⟩,⟨2,2,JC⟩]
def JcS(U:Nat)(st:D)(b f:D):runB defs bdefs Bg 0 st [b,f]=ansB st (exO To Bh GD JZ [So st,So b,So f]):=rfl
def JjA(U:Nat)(st:D)(b g f:D):runB defs bdefs Bg 1 st [b,g,f]=ansB st (exO To Bh GD xR [So st,So b,So g,So f]):=rfl
def JtK(U:Nat)(st:D)(b f:D):runB defs bdefs Bg 2 st [b,f]=ansB st (exO To Bh GD nQ [So st,So b,So f,No]):=rfl
def JrB(U:Nat)(st:D)(b:D):runB defs bdefs Bg 3 st [b]=ansB st (exO To Bh GD eR [So st,So b,No]):=rfl
def JnG(U:Nat)(st:D)(b g f:D):runB defs bdefs Bg 4 st [b,g,f]=ansB st (exO To Bh GD vR [So st,So b,So g,So f,No,No]):=rfl
def TR(U:Nat)(st:D)(b:D):runB defs bdefs Bg 5 st [b]=ansB st (exO To Bh GD JC [So st,So b]):=rfl
noncomputable def q_law:Px:=OC
def gQ:Bs:=(.loop [3] 0 (.un .range (.call 30 (.cons Ap (.cons HD (.cons (.con (.int 11)) .nil))))) (.seq (.lift (.set Fo 4 (.call 35 (.cons Ap (.cons (.bi .add (.con (.int 1000)) Y7) .nil)))))
  (.seq (.lift (.loop Fo [2,5] 2 (.dis (.cons (.call 36 (.cons BS Ho)) .nil)) .skip))
  (.eff (.call Fo 5 1 nsS Ho)))))
noncomputable def JpD:Bs:=(.lift Wu)
noncomputable def Jqj:Bs:=(.lift (.ite (.bi .ne MQ Qc0) C1 .skip))
noncomputable def Jve:Px:=(.cons Qc0 .nil)
noncomputable def Juz:Px:=BS
noncomputable def JpV:Bs:=(.lift (.ite (.or UJ (.or WD Wh)) C1 .skip))
def oV:Bs:=(.loop [3] 0 (.un .range K6) (.seq (.lift (.set Fo 4 (.call 35 (.cons Ap (.cons (.bi .add (.con (.int 5000)) Y7) .nil)))))
  (.seq (.lift (.loop Fo [9,5] 2 (.dis (.cons (.call 36 (.cons (.var 9) Ho)) .nil)) .skip))
  (.ite (.or Wg (.pur Wz)) (.lift C1) Km))))
noncomputable def Jvh:Sx:=(.ret (.and (.bi .eq MQ Qc0) (.bi .eq Sd (.var 7))))
noncomputable def nL:Bs:=(.ite (.pur V1) EN Km)
noncomputable def pL:Bs:=(.seq (.loop [2,3] 2 Tn (.eff VO))
  (.seq (.ite (.pur NY) EN Km)
  Lc))
noncomputable abbrev nR:Nat:=4
noncomputable abbrev iR:Nat:=1
def RL(U:Ae)(bc:AI)(R:List D->Nat->Rs D)(O:Fm):Prop:=RunP U 1 2 q_law (λO=>∃b,exO Fo U bc gQ O=.ok .nx b/\(λO=>∃b,exO Fo U bc JpD O=.ok .nx b/\(λO=>∃b,exO Fo U bc Jqj O=.ok .nx b/\(Jur U bc R 1 8 9 Jve Juz JpV oV Jvh) b) b) b) O
noncomputable abbrev S (x:Ba):Str:=oS x
noncomputable abbrev ofN (ns:AR):D:=.lst Kp
theorem cell(ns:AR)(k:Int)(q:0<=k):∃v:Int,∀c,runD defs Bb 29 QN=.ok (.int v):=by
 obtain⟨k,rfl⟩:=Int.eq_ofNat_of_zero_le q;by_cases h:k<AN
 ·refine⟨ns[k],λc=>?_⟩;have l:atD DI k=So (.int ns[k]):=by have:=atN DI k (by simpa using h);rw[this];simp
  simp[nZ,xM,h,l]
 ·have j:¬((k:Int)<(AN:Int)):=by lia
  by_cases g:ns=[]
  ·subst g;have j:¬((k:Int)<0):=by lia
   have e:op2 .eq (ofN []) Fs=.ok Cw:=rfl;refine⟨0,λc=>?_⟩;simp[nZ,xM,j,e,lD]
  ·have m:0<AN:=by
    cases ns with
    |nil=>exact absurd rfl g
    |cons a t=>simp
   have r:k % AN<AN:=Nat.mod_lt _ m;refine⟨ns[k % AN]*31+k,λc=>?_⟩;have s:((k:Int) % (AN:Int))=((k % AN:Nat):Int):=by lia
   have l:atD DI ((k:Int) % (AN:Int))=So (.int ns[k % AN]):=by
    rw[s];have:=atN DI (k % AN) (by simpa using r);rw[this];simp
   have o:D.eqv (.lst DI) Fs=Fo:=by
    cases ns with
    |nil=>exact absurd rfl g
    |cons a t=>rfl
   have f:op2 .eq (.lst DI) Fs=.ok CO:=by
    rw[o_eq _ _ (by simp[D.dep,Jpw]) (by simp[D.dep,deps]),o]
   have b:op2 .mod Er (.int AN)=.ok (.int ((k:Int) % (AN:Int))):=by
    have:0<(AN:Int):=by lia
    simp[op2,m]
   simp[nZ,xM,f,lD,j,l,b,smallI]
theorem pick(ns:AR)(k m:Int)(j:0<=k)(l:0<m):∃r:Nat,(r:Int)<m/\∀c,runD defs (c+2) 30 [ofN ns,.int k,.int m]=.ok Qc1:=by
 obtain⟨v,x⟩:=cell ns k j;let d:Int:=(v+6151*A4)*40692 % 2147483399;have z:0<=d:=Int.emod_nonneg _ A9;have A:d<2147483399:=Int.emod_lt_of_pos _ A9;have o:0<=(d*d+d / 31) % 2147483629 % m:=Int.emod_nonneg _ Ad;have y:(d*d+d / 31) % 2147483629 % m<m:=Int.emod_lt_of_pos _ Ad;refine⟨((d*d+d / 31) % 2147483629 % m).toNat,by lia,λc=>?_⟩;have f:smallI d=To:=by simp only[smallI,Zd,Zv];lia
 rw[Int.toNat_of_nonneg o];have b:(v+6151*A4)*40692 % 2147483399=d:=rfl;have h:smallI 6151=To:=by decide
 have t:smallI 40692=To:=by decide
 have g:∀i:Int,op2 .mod AY Qan=.ok (.int (i % 2147483399)):=λi=>by simp[op2]
 have s:∀i:Int,op2 .mod AY Qao=.ok (.int (i % 2147483629)):=λi=>by simp[op2]
 have u:∀i:Int,op2 .mod AY (.int m)=.ok (.int (i % m)):=λi=>by simp[op2,l]
 have q:∀i:Int,op2 .fdiv AY QaZ=.ok (.int (i / 31)):=λi=>by simp[op2]
 simp[JjD,wZ,x,h,t,b,f,g,s,u,q]
def JY(a b:Ba):oS a=oS b↔a=b:=by
 constructor
 ·intro h;rw[Str.ofString_eq_toList,Str.ofString_eq_toList]at h;have j:=lA (λs:Str=>XI) h;simp only[List.toList_toArray]at j;have l:a.toList=b.toList:=by refine List.map_inj_right (f:=Char.toNat) ?_|>.mp j;intro x y g;exact Char.ext (UInt32.toNat_inj.mp g)
  exact String.toList_inj.mp l
 ·rintro rfl;rfl
@[simp]def sb(a b:Ba):(oS a==oS b)=decide (a=b):=by
 by_cases h:a=b
 ·subst h;simp
 ·have:oS a≠oS b:=λe=>h ((JY a b).mp e);simp[h,this]
noncomputable def ws9:List Str:=[S "a",S "b",S "7",S "0",S "new",S "zz",S "55",S "01",S "-"]
noncomputable def pool:List Str:=[S "a",S "b",S "7",S "0"]
def Jld:∀w∈pool,w∈ws9:=by decide+kernel
inductive Part where
 |word (x:Str)|one (n:Str) (ws:List Str)|any (n:Str)|number (n:Str)|rest (n:Str)
variable{hs:Bt}
noncomputable def Part.d:Part->D
 |.word x=>.tup PH
 |.one n ws=>.tup UO
 |.any n=>.tup O4
 |.number n=>.tup Qr
 |.rest n=>.tup QcN
def Part.ok:Part->Prop
 |.word x=>x∈ws9
 |.one _ b=>(∀w∈b,w∈ws9)/\b≠[]
 |_=>True
def Part.srt:Part->Prop
 |.word x=>x∈pool
 |.one _ b=>(b.Pairwise LtS/\∀w∈b,w∈pool)/\b.length<=3
 |_=>True
noncomputable def Part.name:Part->Str
 |.word x=>x
 |.one n _=>n
 |.any n=>n
 |.number n=>n
 |.rest n=>n
noncomputable def Part.isWord:Part->Bool
 |.word _=>To
 |_=>Fo
noncomputable def Part.hole (p:Part):List Str:=if p.isWord then[]else[p.name]
def kA (ps:Bt):List Str:=ps.flatMap Part.hole
noncomputable def Part.isRest:Part->Bool
 |.rest _=>To
 |_=>Fo
def JI:∀ws:List Str,JF Du=So ws
 |[]=>rfl
 |w::ws=>by simp[JF,JI ws]
def Jwc(ws:Ag)(h:ws.length<60):op1 .sset (.lst Du)=.ok (.lst ((Jn ws).map .str)):=by simp[op1,JI,h]
theorem JkS(r:Nat)(h:(r:Int)<4):∃w∈pool,atD Ht (r:Int)=So Qc2:=by
 match r,h with
 |0,_=>exact⟨S "a",by decide+kernel,rfl⟩
 |1,_=>exact⟨S "b",by decide+kernel,rfl⟩
 |2,_=>exact⟨S "7",by decide+kernel,rfl⟩
 |3,_=>exact⟨S "0",by decide+kernel,rfl⟩
 |n+4,h=>lia
section
variable(U:Ae)(O:Fm)
def fD{A B rest:Sx}{d:D}(b:evD U c O=.ok Cw)(f:exD U A O=.ok (.rt d,e)):Jf (exD U (.seq (.ite c A B) rest) O)=.ok d:=by rw[sA,n_if _ _ _ _ b,if_pos rfl,f];rfl
def uC{A rest:Sx}(b:evD U c O=.ok CO):Jf (exD U (.seq (.ite c A .skip) rest) O)=Jf QX:=by rw[sA,n_if _ _ _ _ b,if_neg 'E'];rfl
def tR{e:Px}{d:D}(h:evD U e O=.ok d):exD U aQ O=.ok Z2:=by simp[h]
end
def partR:Sx:=match dS with
 |.seq _ (.seq _ r)=>r
 |_=>.skip
noncomputable def JuF (ns:AR) (a:Int) (n:Str) (r:Nat):Fm:=[So Kt,So (.int a),So Bv,So Qa0,So Qc1,No]
theorem part(ns:AR)(g:Int)(I:0<=g)(name:Str):∃p:Part,p.ok/\p.isRest=Fo/\p.srt/\p.hole.Sublist [name]/\∀c,runD defs (c+3) 31 P9=.ok p.d:=by
 obtain⟨r,M,A⟩:=pick ns g 8 I A9;have h:∀c,runD defs (c+3) 31 P9=Jf (exD (runD defs (c+2)) partR (JuF ns g name r)):=λc=>by rw[Jke,dS,nB _ _ (d:=.lst Ht) _ rfl,nB _ _ _ (JA _ _ rfl (A c))];rfl
 by_cases J:(r:Int)<4
 ·obtain⟨q,v,eq⟩:=pick ns (g+1) 4 Ad A9;obtain⟨w,j,y⟩:=JkS q v;refine⟨.word w,Jld w j,rfl,j,by simp[Part.hole,Part.isWord],λc=>?_⟩;have u:op2 .idx Qa0 (.int q)=.ok Qc2:=by rw[JtS,y];rfl
  exact(h c).trans (fD _ _ (B:=.skip) (Jk _ _ (a:=.var 4) (b:=.con Gp) rfl rfl (by rw[o_lt,ZH J])) (tR _ _ (eB _ _ (Ji _ _ rfl (Ji _ _ (Jk _ _ rfl (JA _ _ rfl (eq c)) u) rfl)) (show 2<=1000 by decide))))
 ·by_cases E:r=4
  ·subst E;obtain⟨m,N,F⟩:=pick ns (g+1) 3 Ad A9;have z:∀k:Nat,∃w,w∈pool/\∃q:Nat,(∀c,runD defs (c+2) 30 [ofN ns,.int (g+2+k),.int 4]=.ok (.int q))/\atD Ht (q:Int)=So Qc2:=by intro k;obtain⟨q,v,eq⟩:=pick ns (g+2+k) 4 Ad A9;obtain⟨w,j,y⟩:=JkS q v;exact⟨w,j,q,eq,y⟩
   obtain⟨f,t⟩:=Classical.skolem.mp z;have C:∀c x,evD (runD defs (c+2)) VX
     [So Kt,So Gn,So (.str name),So Qa0,x,No]=.ok (.lst (((List.range (1+m)).map f).map .str)):=by
    intro c x;rw[Zu];refine vW _ _ _ _ (1+m) ?_ Ad (λk=>.str (f k)) ?_
    ·simp[F,Int.natCast_add]
    ·intro k z
     obtain⟨_,q,L,H⟩:=t k;simp[L,H]
   have o:((List.range (1+m)).map f).length<60:=by simp;lia
   have hs:=Jwc _ o;refine⟨.one name (Jn ((List.range (1+m)).map f)),GQ,rfl,⟨⟨Jz _,λw j=>by
    rw[Ju,Zy]at j;obtain⟨k,_,rfl⟩:=j;exact(t k).1⟩,ZA (Jmw _) Gj⟩,by simp[Part.hole,Part.isWord,Part.name],λc=>?_⟩
   ·intro w j;rw[Ju,Zy]at j;obtain⟨k,_,rfl⟩:=j;exact Jld _ (t k).1
   ·intro G;have:f 0∈Jn ((List.range (1+m)).map f):=by rw[Ju,Zy];exact⟨0,by rw[List.mem_range];lia,rfl⟩
    rw[G]at this;simp at this
   ·have s:=C c (So Gp);generalize (List.range (1+m)).map f=ws at hs s⊢;refine(h c).trans ((uC _ _ (c:=.bi .lt BJ Hw) rfl).trans (fD _ _ (B:=.skip) (c:=.bi .eq BJ Hw) rfl (e:=(JuF ns g name 4).set 5 (So (.lst Du))) ?_));exact(wH _ _ _ s).trans (tR _ _ (eB _ _ (Ji _ _ rfl (Ji _ _ rfl (Ji _ _ (JE _ _ (JE _ _ rfl hs) rfl) rfl))) (show 3<=1000 by decide)))
  ·have l:r=5\/r=6\/r=7:=by lia
   rcases l with rfl|rfl|rfl
   ·exact⟨.any name,trivial,rfl,trivial,by simp[Part.hole,Part.isWord,Part.name],λc=>(h c).trans rfl⟩
   ·exact⟨.number name,trivial,rfl,trivial,by simp[Part.hole,Part.isWord,Part.name],λc=>(h c).trans rfl⟩
   ·exact⟨.any name,trivial,rfl,trivial,by simp[Part.hole,Part.isWord,Part.name],λc=>(h c).trans rfl⟩
noncomputable def oE:List Part->Prop
 |[]=>True
 |p::ps=>(Ym=To->ps=[])/\oE ps
def Jof(p:Part):p.d.imm=To:=by cases p<;>simp[Part.d,D.imm,imms,Joe]
def JfV(ps:Bt):imms EZ=To:=by
 induction ps with
 |nil=>rfl
 |cons p ps b=>simp[imms,Jof,b]
def Jon(p:Part):p.d.dep<=2:=by cases p<;>simp[Part.d,D.dep,deps,Jph]
theorem JkJ(ps:Bt):deps EZ<=2:=by
 induction ps with
 |nil=>simp[deps]
 |cons p ps b=>have:=Jon p;simp only[Zl,deps];lia
def Jgq(l:Bt)(h:∀p∈l,Ym=Fo)(n:Str):oE (l++[.rest n]):=by
 induction l with
 |nil=>simp[oE]
 |cons p l f=>refine⟨λb=>?_,f λp b=>h p (by simp[b])⟩;rw[h p 'k']at b;cases b
def Jhh(l:Bt)(h:∀p∈l,Ym=Fo):oE l:=by
 induction l with
 |nil=>trivial
 |cons p l f=>refine⟨λb=>?_,f λp b=>h p (by simp[b])⟩;rw[h p 'k']at b;cases b
noncomputable def names4:List Str:=[S "y",S "id",S "z",S "x"]
noncomputable def nm4 (k:Nat):Str:=names4.getD k (S "")
theorem JoH(k:Nat)(h:k<4):atD Ww (k:Int)=So (.str (nm4 k)):=by
 match k,h with
 |0,_=>rfl
 |1,_=>rfl
 |2,_=>rfl
 |3,_=>rfl
 |n+4,h=>lia
theorem Jgb(f:Nat->Part)(b:∀k,(f k).hole.Sublist [nm4 k]):∀m,m<=4->(kA ('ǁ'.map f)).Sublist (names4.take m)
 |0,_=>by simp[kA]
 |m+1,h=>by
  have e:names4.take (m+1)=names4.take m++[nm4 m]:=by
   match m,h with
   |0,_=>rfl
   |1,_=>rfl
   |2,_=>rfl
   |3,_=>rfl
   |n+4,h=>lia
  rw[e,List.range_succ,gC];simp only[kA,List.flatMap_append,Zl,rJ,yF,List.flatMap_nil,xD];exact(Jgb f b m Ad).append (b m)
noncomputable def names5:List Str:=[S "y",S "id",S "z",S "x",S "r"]
theorem patQ(ns:AR)(g:Int)(H:0<=g)(M:Nat)(W:M<=4):∃(h:Bt)(b:Bool),(∀p∈h,p.ok/\p.isRest=Fo/\p.srt)/\(kA h).Sublist names4/\h.length<=M/\∀c,runD defs (c+4) 32 OM=.ok (.tup ((h++if b then[Part.rest (S "r")]else[]).map X6)):=by
 obtain⟨m,L,E⟩:=pick ns g ((M:Int)+1) H Ad;have L:m<=M:=by lia
 have r:∀k:Nat,∃p:Part,p.ok/\p.isRest=Fo/\p.srt/\p.hole.Sublist [nm4 k]/\(k<4->∀c,runD defs (c+3) 31 [ofN ns,.int (g+2+5*k),.str (nm4 k)]=.ok p.d):=by intro k;obtain⟨p,P,I,G,B,N⟩:=part ns (g+2+5*k) Ad (nm4 k);exact⟨p,P,I,G,B,λ_=>N⟩
 obtain⟨f,j⟩:=Classical.skolem.mp r;have z:smallI 5=To:=by decide
 have l:∀c,evD (runD defs (c+3)) VY
   [So Kt,So Gn,So (.int M),So (.lst Ww),No]=.ok (.lst (('ǁ'.map f).map X6)):=by
  intro c;rw[Zu];refine vW _ _ _ _ m ?_ Ad (λk=>(f k).d) ?_
  ·simp[E]
  ·intro k r
   obtain⟨_,_,_,_,F⟩:=j k;have A:=F Ad c;simp[JoH k 'd',A,z]
 have y:∀p∈(List.range m).map f,p.ok/\p.isRest=Fo/\p.srt:=by intro p x;rw[Zy]at x;obtain⟨k,_,rfl⟩:=x;exact⟨(j k).1,(j k).2.1,(j k).2.2.1⟩
 have s:(kA ('ǁ'.map f)).Sublist names4:=(Jgb f (λk=>(j k).2.2.2.1) m Ad).trans Qm;have t:('ǁ'.map f).length<=M:=by simp;lia
 generalize 'ǁ'.map f=h at l y t s;have o:h.length<16777216:=by lia
 have v:=JfV h;have J:=JnU ns;obtain⟨q,U,eq⟩:=pick ns (g+1) 4 Ad A9;refine⟨h,decide (q=0),y,s,t,λc=>?_⟩;by_cases u:q=0
 ·subst u;simp[JbW,jS,l,eq,v,J,lD,o,D.imm,imms,Part.d]
 ·have C:((q:Int)==0)=Fo:=by
   rw[Zw];lia
  simp[JbW,jS,l,eq,v,C,u,lD]
theorem patS(ns:AR)(g:Int)(q:0<=g)(M:Nat)(o:M<=4):∃ps:List Part,(∀p∈ps,p.ok)/\oE ps/\ps.length<=M+1/\(∀p∈ps,p.srt)/\(kA ps).Sublist names5/\((∀p∈ps,Ym=Fo)->Aw<=M)/\∀c,runD defs (c+4) 32 OM=.ok FA:=by
 obtain⟨s,b,h,j,m,r⟩:=patQ ns g q M o;refine⟨_,?_,?_,?_,?_,?_,?_,r⟩<;>cases b
 ·simpa using λp f=>(h p f).1
 ·simp only[if_true];intro p f;rcases ZI.mp f with f|f
  ·exact(h p f).1
  ·rw[kC.mp f];trivial
 ·simpa using Jhh _ λp f=>(h p f).2.1
 ·exact Jgq _ (λp f=>(h p f).2.1) _
 ·simp;lia
 ·simp;lia
 ·simpa using λp f=>(h p f).2.2
 ·simp only[if_true];intro p f;rcases ZI.mp f with f|f
  ·exact(h p f).2.2
  ·rw[kC.mp f];trivial
 ·simp only[Zo,ZN,xD];exact j.trans (List.sublist_append_left names4 [S "r"])
 ·simp only[if_true,kA,List.flatMap_append];exact j.append (List.Sublist.refl [S "r"])
 ·simpa using λ_=>m
 ·exactλl=>absurd (l (.rest (S "r")) Af) (by simp[Part.isRest])
def pat(ns:AR)(b:Int)(h:0<=b)(M:Nat)(q:M<=4):∃ps:List Part,(∀p∈ps,p.ok)/\oE ps/\ps.length<=M+1/\(∀p∈ps,p.srt)/\(kA ps).Sublist names5/\∀c,runD defs (c+4) 32 [ofN ns,.int b,.int M]=.ok FA:=
 let⟨ps,m,o,l,j,f,_,g⟩:=patS ns b h M q
 ⟨ps,m,o,l,j,f,g⟩
noncomputable def Part.kind:Part->Str
 |.word _=>S "word"
 |.one _ _=>S "one"
 |.any _=>S "any"
 |.number _=>S "number"
 |.rest _=>S "rest"
noncomputable def numW (w:Str):Bool:=w==S "7"||w==S "0"||w==S "55"||w==S "1"
def num (w:Str):Int:=digs w.cps.toList
def Part.fits (p:Part) (w:Str):Bool:=match p with
 |.word x=>w==x
 |.one _ b=>b.any (λv=>v==w)
 |.number _=>numW w
 |_=>To
def Part.valD (p:Part) (w:Str):D:=match p with
 |.number _=>.int (num w)
 |_=>.str w
noncomputable def Part.val (p:Part) (w:Str):List D:=if p.isWord then[]else[.tup [.str Qci,p.valD w]]
noncomputable def lawM:List Part->List Str->Option aM
 |[],a=>if a.isEmpty then So []else No
 |p::ps,a=>if p.isRest then So [.tup [.str Qci,.tup (a.map .str)]]else match a with
  |[]=>No
  |w::a=>if p.fits w then(lawM ps a).map (p.val w++·)else No
def cut1{b:Type}(x:b)(xs:List b):cutD (x::xs) (So 1) No=xs:=by simp[cutD,six]
def hole(p:Part)(c:Nat):runD defs Bb 8 [p.d]=.ok (.bl (!p.isWord)):=by cases p<;>simp[JlM,gZ,Part.d,Part.isWord]
structure Row where
 l:Str
 ps:List Part
variable{t u:AZ}{r:Row}
def Row.pd (r:Row):D:=.tup QdS
noncomputable def Row.d (r:Row):D:=.tup QM
structure Row.Ok(M:Nat)(r:Row):Prop where
 ok:∀p∈r.ps,p.ok
 rl:oE r.ps
 len:r.ps.length<=M+1
 srt:∀p∈r.ps,p.srt
 hol:(kA r.ps).Sublist names5
 fix:(∀p∈r.ps,Ym=Fo)->YO<=M
noncomputable def labs:List Str:=[S "t",S "p",S "v",S "q",S "u",S "s"]
noncomputable def lab (k:Nat):Str:=labs.getD k (S "")
theorem JvM(k:Nat)(h:k<6):atD T9 (k:Int)=So (.str (lab k)):=by
 match k,h with
 |0,_=>rfl
 |1,_=>rfl
 |2,_=>rfl
 |3,_=>rfl
 |4,_=>rfl
 |5,_=>rfl
 |n+6,h=>lia
theorem JlJ(m:Nat)(h:m<=6):'ǁ'.map lab=labs.take m:=by
 match m,h with
 |0,_=>rfl
 |1,_=>rfl
 |2,_=>rfl
 |3,_=>rfl
 |4,_=>rfl
 |5,_=>rfl
 |6,_=>rfl
 |n+7,h=>lia
theorem table(ns:AR)(b:Int)(C:0<=b)(M:Nat)(L:M<=4)(R:Nat)(N:R<=6):∃rows:List Row,(∀r∈rows,r.Ok M)/\rows.map YC=labs.take Bz/\rows.length<=R/\∀c,runD defs (c+5) 33 [ofN ns,.int b,.int M,.int R]=.ok J1:=by
 obtain⟨m,q,B⟩:=pick ns b ((R:Int)+1) C Ad;have q:m<=R:=by lia
 have j:∀k:Nat,∃r:Row,r.Ok M/\r.l=lab k/\∀c,runD defs (c+4) 32 [ofN ns,.int (b+1+30*k),.int M]=.ok r.pd:=by intro k;obtain⟨H,y,z,G,A,s,E,F⟩:=patS ns (b+1+30*k) Ad M L;exact⟨⟨lab k,H⟩,⟨y,z,G,A,s,E⟩,rfl,F⟩
 obtain⟨f,g⟩:=Classical.skolem.mp j;have h:smallI 30=To:=by decide
 refine⟨'ǁ'.map f,?_,?_,?_,λc=>?_⟩
 ·intro r o;rw[Zy]at o;obtain⟨k,_,rfl⟩:=o;exact(g k).1
 ·rw[Zu,Zj,jN,<-JlJ m 'd'];exact fG λk _=>(g k).2.1
 ·simpa using q
 ·have v:=vW (runD defs (c+4)) [So Kt,So (.int b),So (.int M),So (.int R),So (.lst T9),So (.int m)] Et
   'ҁ' m Af Ad (λk=>(f k).d) (by
    intro k j;have x:=(g k).2.2 c;have I:=JvM k Ad;refine eB _ _ (J:=[.str (f k).l,(f k).pd]) ?_ Af;rw[(g k).2.1];simp[I,x,h])
  have hs:=B (c+2);rw[JhE,JbC];rw[nB _ _ (d:=.lst T9) _ rfl,nB _ _ (d:=.int m) _ (by simp[hs]),eA];rw[Zu];exact JE _ _ v rfl
def hit (a:Ag) (r:Row):Bool:=(lawM r.ps a).isSome
def row0(r:Row)(O:Fm)(U:Ae)(i:Nat)(h:O[i]? =So (So r.d)):evD U Sn O=.ok (.str r.l):=by simp[h,Row.d]
def row1(r:Row)(O:Fm)(U:Ae)(i:Nat)(h:O[i]? =So (So r.d)):evD U Sm O=.ok r.pd:=by simp[h,Row.d]
def oG(x y:Str):op2 .eq CB Gs=.ok (.bl (x==y)):=by rw[o_eq _ _ (by simp[D.dep]) (by simp[D.dep])];rfl
noncomputable def nm9:List Str:=[S "a",S "b",S "home",S "x"]
noncomputable def lb9:List Str:=[S "at",S "ap",S "av",S "bt",S "bp",S "bv",S "ct",S "cp",S "cv"]
def names9:List Str:=names5++nm9++lb9
def words9:List Str:=ws9++names5
def is_word(w:Str)(h:w∈words9)(c:Nat):runD defs (c+2) 1 [.str w]=.ok Cw:=by simp only[words9,ws9,names5,jB,tN,Zg,ZC,fA]at h;rcases h with rfl|rfl|rfl|rfl|rfl|rfl|rfl|rfl|rfl|rfl|rfl|rfl|rfl|rfl<;>rfl
def is_name(w:Str)(h:w∈names9)(c:Nat):runD defs (c+2) 2 [.str w]=.ok Cw:=by simp only[names9,nm9,lb9,names5,jB,tN,Zg,ZC,fA]at h;rcases h with rfl|rfl|rfl|rfl|rfl|rfl|rfl|rfl|rfl|rfl|rfl|rfl|rfl|rfl|rfl|rfl|rfl|rfl<;>rfl
def Part.vp:Part->Prop
 |.word x=>x∈words9
 |.one n b=>n∈names9/\(∀w∈b,w∈words9)/\b≠[]/\b.length<=4/\b.Pairwise LtS
 |.any n=>n∈names9
 |.number n=>n∈names9
 |.rest n=>n∈names9
def pE(J:Am)(lo hi:Int)(c:Nat):runD defs Bb 3 [.tup J,.int lo,.int hi]=.ok (.bl (decide (lo<=(Ac:Int))&&decide ((Ac:Int)<=hi))):=by rw[JfD,JaL,eA];exact eL _ _ (p:=To) rfl λ_=>eL _ _ OU λ_=>Jk _ _ rfl rfl rfl
def are_words(ws:Ag)(h:∀w∈ws,w∈words9)(b:ws.length<=1000)(c:Nat):runD defs (c+3) 4 [.tup Du]=.ok Cw:=by rw[JhW,JbI,eA];have:=mD (runD defs (c+2)) Ms (src:=.walk Ap) (e:=.call 1 E6) Yn (λ_=>D.bl To) rfl b λw f=>Jj _ _ rfl (is_word w (h w f) c);refine JE _ _ this ?_;have:=yG (λ_:Str=>To) ws;simp[op1,this]
def JmD:∀a b:List Str,zipD (a.map .str) (b.map .str)=(a.zip b).map λp=>.tup [.str p.1,.str p.2]
 |[],b=>by simp[zipD]
 |x::a,[]=>by simp[zipD]
 |x::a,y::b=>by simp[zipD,JmD a b]
def Jjp:∀f:List Str,f.Pairwise LtS->∀p∈f.zip (f.drop 1),LtS p.1 p.2
 |[],_,p,b=>by simp at b
 |[x],_,p,b=>by simp at b
 |x::y::f,h,p,b=>by
  simp only[List.drop_succ_cons,List.drop_zero,zE,Zg]at b
  rw[eE]at h
  rcases b with rfl|b
  ·exact h.1 y Af
  ·exact Jjp (y::f) h.2 p (by simpa using b)
theorem JtX(ws:Ag)(h:∀w∈ws,w∈words9)(b:ws≠[])(v:ws.length<=4)(hs:ws.Pairwise LtS)(c:Nat):runD defs (c+4) 6 [.tup Du]=.ok Cw:=by
 have f:=pE Du 1 4 (c+2);have s:=are_words ws h Ad c;have g:1<=ws.length:=by
  cases ws with
  |nil=>exact absurd rfl b
  |cons a t=>simp
 have j:(decide ((1:Int)<=('Հ'.length:Int))&&decide (('Հ'.length:Int)<=4))=To:=by rw[Zj,Zd,Zv,Zv];lia
 rw[j]at f;have l:evD (runD defs (c+3)) VQ Ms=.ok CO:=
  mG _ _ (p:=Fo) (q:=Fo) U6 λ_=>JL _ _ (iA _ _ (Jj _ _ rfl s))
 rw[JbP,JM,uI _ _ _ _ l,if_neg 'E',eA];have o:evD (runD defs (c+3)) Ox Ms=.ok (.lst ('亃'.map λp=>.tup [.str p.1,.str p.2])):=by
  refine Jk _ _ (x:=.tup Du) (y:=.tup ((ws.drop 1).map .str)) rfl ?_ (by rw[JsH,JmD]);cases ws with
  |nil=>exact absurd rfl b
  |cons w t=>simp[cut1,op1]
 have:=Jif (runD defs (c+3)) Ms (e:=.bi .lt Ap AW) (λp:Str×Str=>.str p.1) (λp=>.str p.2) (λp=>.bl (ltS p.1 p.2)) o Gj λp _=>rfl;refine JE _ _ this ?_;rw[show(λp:Str×Str=>D.bl (ltS p.1 p.2))=λp=>D.bl ((λp:Str×Str=>ltS p.1 p.2) p)from rfl];have m:=yG (λp:Str×Str=>ltS p.1 p.2) '亃';simp only[op1,m];congr 2;rw[pJ,ZQ];intro p g;have:=Jjp ws hs p g;simp only[wA,id,ltS,Zv];exact this
def is_part(p:Part)(h:p.vp)(c:Nat):runD defs (c+5) 7 [p.d]=.ok Cw:=by
 cases p with
 |word x=>have b:=is_word x h (c+2);have f:=pE PH 2 3 (c+3);simp[vM,zG,Part.d,b,f,op1,oG,D.truth]
 |one n ws=>have b:=is_name n h.1 (c+2);have f:=pE UO 2 3 (c+3);have g:=JtX ws h.2.1 h.2.2.1 h.2.2.2.1 h.2.2.2.2 c;simp[vM,zG,Part.d,b,f,g,op1,oG,D.truth]
 |any n=>have b:=is_name n h (c+2);have f:=pE O4 2 3 (c+3);have g:op2 .isin (.str (S "any")) Hi=.ok Cw:=rfl;simp[vM,zG,Part.d,b,f,g,op1,oG,D.truth]
 |number n=>have b:=is_name n h (c+2);have f:=pE Qr 2 3 (c+3);have g:op2 .isin (.str (S "number")) Hi=.ok Cw:=rfl;simp[vM,zG,Part.d,b,f,g,op1,oG,D.truth]
 |rest n=>have b:=is_name n h (c+2);have f:=pE QcN 2 3 (c+3);have g:op2 .isin (.str K9) Hi=.ok Cw:=rfl;simp[vM,zG,Part.d,b,f,g,op1,oG,D.truth]
def has_twice(xs:Ag)(h:Ai<60)(c:Nat):runD defs Bb 5 [.lst (xs.map .str)]=.ok (.bl (oB xs)):=by rw[JhO,yZ,eA];refine Jk _ _ (x:=.int (Jn xs).length) (y:=.int Ai) (JE _ _ rfl (by simp[op1,JI,h])) (JE _ _ rfl (by simp[op1])) ?_;simp[op2,oB]
def Jjh:∀b:List Part,(b.filter λp=>!p.isWord).map (λp=>D.str Qci)=(kA b).map .str
 |[]=>rfl
 |p::b=>by
  have f:=Jjh b
  unfold kA at f⊢
  rw[yF,gC,<-f]
  unfold Part.hole
  cases g:p.isWord<;>simp[zD,g]
def Jvs(p:Part)(O:Fm)(U:Ae)(i:Nat)(h:O[i]? =So (So p.d)):evD U Sm O=.ok (.str Qci):=by cases p<;>simp[h,Part.d,Part.name]
def hole_names(ps:Bt)(b:Aw<=1000)(c:Nat):runD defs (c+2) 9 Lj=.ok (.lst ((kA ps).map .str)):=by rw[Jgs,Jbi,eA,<-Jjh];exact xQ _ _ X6 (λp=>!p.isWord) (λp=>.str Qci) rfl b λp f=>⟨iA _ _ (Jj _ _ rfl (hole p c)),λ_=>Jvs p _ _ 0 rfl⟩
def patB (ps:Bt):Bool:=decide (Aw<=6)&&!(ps.dropLast.any Yr)&&!(oB (kA ps))
def Jmt(p:Part)(O:Fm)(U:Ae)(i:Nat)(h:O[i]? =So (So p.d)):evD U (.bi .eq Sn (.con (.str K9))) O=.ok (.bl Ym):=by cases p<;>simp[h,Part.d,Part.isRest,oG]
theorem Jjo{f:Type}(xs:List f):cutD xs No (So (-1))=xs.dropLast:=by
 have b:(-1+(Ai:Int)).toNat=Ai-1:=by lia
 simp[cutD,six,b,List.dropLast_eq_take]
theorem JfY:∀ps:List Part,(kA ps).length<=Aw
 |[]=>by simp[kA]
 |p::ps=>by
  have:=JfY ps
  have b:p.hole.length<=1:=by
   unfold Part.hole;split<;>simp
  have e:kA (p::ps)=p.hole++kA ps:=by simp[kA]
  rw[e,Zm,Zi];lia
theorem is_pattern(ps:Bt)(h:∀p∈ps,p.vp)(o:Aw<60)(c:Nat):runD defs (c+6) 10 Lj=.ok (.bl (patB ps)):=by
 have b:=pE EZ 0 6 (c+4);rw[show(decide ((0:Int)<=((ps.map X6).length:Int))&&decide (((ps.map X6).length:Int)<=6))=decide (Aw<=6)from by
  rw[Zj,ZH 'd',Bool.true_and];exact decide_eq_decide.mpr Ad]at b
 have j:evD (runD defs (c+5)) Wc [So FA]=.ok Cw:=by refine JE _ _ (mD _ _ X6 (λ_=>D.bl To) rfl Ad λp f=>Jj _ _ rfl (is_part p (h p f) c)) ?_;have:=yG (λ_:Part=>To) ps;simp[op1,this]
 have m:evD (runD defs (c+5)) WK [So FA]=.ok (.bl (ps.dropLast.any Yr)):=by
  have hs:evD (runD defs (c+5)) (.walk Tz) [So FA]=.ok (.lst (ps.dropLast.map X6)):=by have:=Jjo EZ;simp[op1,this,D.walk,List.map_dropLast]
  refine JE _ _ (mD _ _ X6 (λp=>D.bl Ym) hs Gj λp f=>Jmt p _ _ 0 rfl) ?_;have:=yG Yr ps.dropLast;simp only[op1,this,List.any_map,wA];rfl
 have l:=hole_names ps Ad (c+3);have g:=has_twice (kA ps) (by have:=JfY ps;lia) (c+4);rw[JgG,JaV];rw[uI _ _ _ _ (mG _ _ (p:=!decide (Aw<=6)) (q:=Fo) (JL _ _ (iA _ _ (JA _ _ rfl b))) λ_=>JL _ _ (iA _ _ j))];rw[uI _ _ _ _ (iA _ _ m),eA,JL _ _ (Jj _ _ (Jj _ _ rfl l) g)];unfold patB;cases decide (Aw<=6)<;>cases ps.dropLast.any Yr<;>simp
def is_row(r:Row)(g:r.l∈names9)(h:∀p∈r.ps,p.vp)(b:r.ps.length<60)(c:Nat):runD defs (c+7) 11 [r.d]=.ok (.bl (patB r.ps)):=by have j:=pE QM 2 2 (c+5);have l:=is_name r.l g (c+4);have f:=is_pattern r.ps h b c;rw[JoL,dY,eA];show _=Rs.ok (D.bl (To&&(To&&patB r.ps)));exact eL _ _ (JA _ _ rfl j) λ_=>eL _ _ (Jj _ _ MJ l) λ_=>Jj _ _ MI f
def tabB (rows:AZ):Bool:=decide (Bz<=8)&&rows.all (λr=>patB r.ps)&&!oB 'ʚ'
def is_table(rows:AZ)(j:∀r∈rows,r.l∈names9)(h:∀r∈rows,∀p∈r.ps,p.vp)(o:∀r∈rows,YO<60)(m:Bz<60)(c:Nat):runD defs (c+8) 12 [.tup Hn]=.ok (.bl (tabB rows)):=by
 have f:=pE Hn 0 8 (c+6);rw[show(decide ((0:Int)<=((rows.map XM).length:Int))&&decide (((rows.map XM).length:Int)<=8))=decide (Bz<=8)from by
  rw[Zj,ZH 'd',Bool.true_and];exact decide_eq_decide.mpr Ad]at f
 have l:evD D4 Wf [So J1]=.ok (.bl (rows.all λr=>patB r.ps)):=by refine JE _ _ (mD _ _ XM (λr=>D.bl (patB r.ps)) rfl Ad λr b=>Jj _ _ rfl (is_row r (j r b) (h r b) (o r b) c)) ?_;have:=yG (λr:Row=>patB r.ps) rows;simp[op1,this,pJ,wA]
 have s:evD D4 PR [So J1]=.ok (.lst ('ʚ'.map .str)):=by rw[Zu];exact mD _ _ XM NX rfl Ad λr _=>row0 r _ _ 0 rfl
 have g:=has_twice 'ʚ' (by simpa using m) (c+6);rw[Jjz,rZ];rw[uI _ _ _ _ (mG _ _ (p:=!decide (Bz<=8)) (q:=!(rows.all λr=>patB r.ps)) U6 λ_=>JL _ _ (iA _ _ l))];rw[eA,JL _ _ (Jj _ _ s g)];unfold tabB;cases decide (Bz<=8)<;>cases rows.all (λr=>patB r.ps)<;>simp
def Juk(p:Part)(h1:p.ok)(h:p.srt)(b:p.isWord=Fo->p.name∈names5):p.vp:=by
 have f:∀n∈names5,n∈names9:=by decide+kernel
 have g:∀n∈ws9,n∈words9:=by decide+kernel
 cases p with
 |word x=>exact g x h1
 |one n l=>exact⟨f n QaA,λw j=>g w (h1.1 w j),h1.2,ZA h.2 A9,h.1.1⟩
 |any n=>exact f n QaA
 |number n=>exact f n QaA
 |rest n=>exact f n QaA
def JfW(ps:Bt)(p:Part)(f:p∈ps)(b:p.isWord=Fo):p.name∈kA ps:=by unfold kA;rw[List.mem_flatMap];exact⟨p,f,by simp[Part.hole,b]⟩
def Row.Ok.vp{M:Nat}(h:r.Ok M):∀p∈r.ps,p.vp:=λp b=>Juk p (h.ok p b) (h.srt p b) λf=>h.hol.subset (JfW r.ps p b f)
def JbO:∀b:List Part,oE b->b.dropLast.any Yr=Fo
 |[],_=>rfl
 |[p],_=>rfl
 |p::q::b,h=>by
  rw[List.dropLast_cons₂,qE]
  have f:oE (q::b)/\p.isRest=Fo:=by
   refine⟨h.2,?_⟩;cases g:p.isRest with
   |false=>rfl
   |true=>exact absurd (h.1 g) Af
  rw[f.2,JbO (q::b) f.1];rfl
def names5_nodup:names5.Nodup:=by decide+kernel
def Row.Ok.pat{M:Nat}(h:r.Ok M)(j:M<=5):patB r.ps=To:=by have g:=Y1;have b:=JbO r.ps h.rl;have f:=Jhw (names5_nodup.sublist h.hol);unfold patB;rw[b,f,ZH 'd'];rfl
def kR(U:Ae)(O:Fm){p:Bool}(x:Str)(rest:Sx)(b:evD U c O=.ok Cp):Jf (exD U (.seq (.ite c (.raise x .nil) .skip) rest) O)=if p then .ex x else Jf QX:=by
 rw[sA,tK,b];cases p with
 |true=>simp[xH]
 |false=>simp
noncomputable def mntR (hs:Bt) (r:Row):Row:=⟨r.l,hs++r.ps⟩
def mounted(hs:Bt)(l:∀p∈hs,p.vp)(q:hs.length<=20)(rows:AZ)(h:∀r∈rows,∀p∈r.ps,p.vp)(j:∀r∈rows,YO<=20)(f:Bz<=1000)(c:Nat):
  runD defs (c+7) 13 [.tup NC,.tup Hn]=if rows.all (λr=>patB BM)then .ok (.tup ('Ϧ'.map XM))else .ex G1:=by
 have o:=mD (runD defs (c+6)) [So DW,So J1,No] (src:=.walk AW) (e:=.tup YJ) XM (λr=>'Ɯ'.d) rfl f λr b=>by have:=j r b;refine eB _ _ (J:=[.str r.l,'Ɯ'.pd]) (Ji _ _ MJ (Ji _ _ (Jk _ _ (x:=.tup NC) rfl MI ?_) rfl)) Af;unfold Row.pd mntR;rw[vQ '>',gC]
 rw[JmW,iZ,nB _ _ (d:=.tup ('Ϧ'.map XM)) _ (JE _ _ o (by rw[Zu];rfl))];simp only[List.set];have m:evD (runD defs (c+6)) YK [So DW,So J1,So (.tup ('Ϧ'.map XM))]=.ok (.bl (rows.all λr=>patB BM)):=by
  refine JE _ _ (mD _ _ (rs:=rows) (λr=>'Ɯ'.d) (λr=>D.bl (patB BM)) (by simp[D.walk,Zu,wA]) f λr b=>?_) ?_
  ·have:=j r b;refine Jj _ _ Pc (is_pattern BM ?_ Gj c);intro p g;rw[ZI]at g;exact g.elim (l p) (h r b p)
  ·have:=yG (λr:Row=>patB BM) rows;simp only[op1,this,pJ,wA];rfl
 rw[kR _ _ _ _ (JL _ _ (iA _ _ m)),eA];cases rows.all λr=>patB BM<;>rfl
def joined(b f:AZ)(h:b.length+f.length<60)(c:Nat):runD defs (c+2) 14 [.tup (b.map XM),.tup (f.map XM)]=if decide ((b++f).length<=8)&&!oB ((b++f).map YC)then .ok (.tup ((b++f).map XM))else .ex G1:=by
 have m:op2 .add (.tup (b.map XM)) (.tup (f.map XM))=.ok (.tup ((b++f).map XM)):=by rw[vQ '>',gC]
 rw[JnN,qX,nB _ _ (d:=.tup ((b++f).map XM)) _ (Jk _ _ rfl rfl m)];simp only[List.set];have g:(b++f).length<60:=by simpa using h
 generalize b++f=rs at g;have o:evD Hc UC WN=.ok (.bl (!decide (Qdt<=8))):=by
  refine Jk _ _ (x:=.int Qdt) (y:=.int 8) (JE _ _ rfl (by simp[op1])) rfl ?_;simp only[op2,onII];congr 2;by_cases q:rs.length<=8
  ·rw[ZH q,Zx 'd'];rfl
  ·rw[Zx q,ZH 'd'];rfl
 have l:evD Hc PQ WN=.ok (.lst ((rs.map YC).map .str)):=by rw[Zu];exact mD _ _ XM NX rfl Ad λr _=>row0 r _ _ 0 rfl
 have j:=has_twice (rs.map YC) (by simpa using g) c;rw[kR _ _ _ _ o,kR _ _ _ _ (iA _ _ (Jj _ _ l j)),eA];cases decide (Qdt<=8)<;>cases oB (rs.map YC)<;>rfl
noncomputable abbrev Kn:=List (Str×List Row)
variable{A B C:Kn}
noncomputable def tD (rows:AZ):D:=.tup Hn
noncomputable def ksD (A:Kn):List D:=A.map λp=>.str p.1
def vsD (A:Kn):List D:=A.map λp=>tD p.2
noncomputable def look (n:Str):Kn->Option (List Row)
 |[]=>No
 |p::A=>if p.1==n then So p.2 else look n A
def mV(n:Str):∀A:Kn,jA Bv SF Ei='š'.map tD
 |[]=>rfl
 |p::A=>by
  have b:=mV n A
  unfold ksD vsD at b⊢
  simp only[Zl,jA,kP,look,b]
  split<;>rfl
def lK(n:Str):∀A:Kn,'ϵ'.any (λa=>a.eqv Bv)='š'.isSome
 |[]=>rfl
 |p::A=>by
  have b:=lK n A
  unfold ksD at b⊢
  simp only[Zl,qE,kP,look,b]
  cases p.1==n<;>rfl
def put (n:Str) (t:AZ) (A:Kn):Kn:=if(look n A).isSome then A.map (λp=>(p.1,if p.1==n then t else p.2))else A++[(n,t)]
def Jui(n:Str)(t:AZ):∀A:Kn,setD Bv (tD t) SF Ei=A.map λp=>tD (if p.1==n then t else p.2)
 |[]=>rfl
 |p::A=>by
  have b:=Jui n t A
  unfold ksD vsD at b⊢
  simp only[Zl,setD,kP,b]
  by_cases q:(p.1==n)=To<;>simp[q]
def JuX(n:Str)(t:AZ)(A:Kn):putD Bv (tD t) SF Ei=(ksD T3,vsD T3):=by
 unfold putD put;rw[lK];cases look n A with
 |none=>simp[ksD,vsD]
 |some x=>simp only[pN,if_true,Jui];simp[ksD,vsD,Zu,wA]
noncomputable def del (n:Str) (A:Kn):Kn:=A.filter λp=>!(p.1==n)
def JtL(n:Str):∀A:Kn,delD Bv SF Ei=(ksD CU,vsD CU)
 |[]=>rfl
 |p::A=>by
  have b:=JtL n A
  unfold ksD vsD del at b⊢
  simp only[Zl,delD,kP,b,zD]
  cases p.1==n<;>simp
def look_put(n m:Str)(t:AZ):∀A:Kn,look m T3=if n==m then So t else look m A:=by
 have o:∀A:Kn,look m (A++[(n,t)])=match look m A with|some x=>So x|none=>if n==m then So t else No:=λA=>by
  induction A with
  |nil=>simp[look]
  |cons p A b=>simp only[jB,look,b];split<;>rfl
 have l:∀A:Kn,'š'.isSome=To->look m (A.map λp=>(p.1,if p.1==n then t else p.2))=if n==m then So t else look m A:=λA=>by
  induction A with
  |nil=>intro h;cases h
  |cons p A b=>
   intro h;simp only[Zl,look]at h⊢;by_cases q:p.1=n
   ·subst q;have e:(p.1==p.1)=To:=by simp
    simp only[e,if_true];cases z:p.1==m with
    |true=>rfl
    |false=>
     simp only[Zo,ZN];cases y:(look p.1 A).isSome with
     |true=>rw[b y,z];rfl
     |false=>
      have:∀B:Kn,(look p.1 B).isSome=Fo->look m (B.map λr=>(r.1,if r.1==p.1 then t else r.2))=look m B:=λB=>by
       induction B with
       |nil=>intro _;rfl
       |cons r B f=>
        intro hB;simp only[Zl,look]at hB⊢;cases w:r.1==p.1 with
        |true=>rw[w]at hB;cases hB
        |false=>rw[w]at hB;simp only[Zo,ZN]at hB⊢;rw[f hB]
      exact this A y
   ·have e:(p.1==n)=Fo:=by rw[Zw];exact q
    simp only[e,Zo,ZN]at h⊢;rw[b h];cases z:p.1==m with
    |true=>have:n≠m:=λj=>q (by rw[j];exact eq_of_beq z);simp[this]
    |false=>simp
 intro A;unfold put;split
 ·exact l A (by assumption)
 ·rename_i g;rw[o];by_cases q:n=m
  ·subst q;cases z:look n A with
   |none=>rfl
   |some x=>rw[z]at g;exact absurd rfl g
  ·have e:(n==m)=Fo:=by rw[Zw];exact q
   rw[e];cases look m A<;>rfl
def eH(n m:Str):∀A:Kn,look m CU=if n==m then No else look m A
 |[]=>by simp[del,look]
 |p::A=>by
  have b:=eH n m A
  unfold del at b⊢
  simp only[zD]
  by_cases q:p.1=n
  ·subst q
   simp only[ZD,Bool.not_true,Zo,ZN,b,look]
   cases z:p.1==m<;>simp
  ·have e:(p.1==n)=Fo:=by rw[Zw];exact q
   simp only[e,Bool.not_false,if_true,look,b]
   cases z:p.1==m with
   |true=>
    have:n≠m:=λf=>q (by rw[f];exact eq_of_beq z)
    simp[this]
   |false=>simp
noncomputable def kys (A:Kn):List Str:=A.map (·.1)
def look_mem(n:Str):∀A:Kn,'š'.isSome=To↔n∈kys A
 |[]=>by simp[look,kys]
 |p::A=>by
  have b:=look_mem n A
  unfold kys at b⊢
  simp only[look,Zl,Zg]
  by_cases q:p.1=n
  ·simp[q]
  ·have e:(p.1==n)=Fo:=by rw[Zw];exact q
   rw[e]
   simp only[Zo,ZN,b]
   constructor
   ·exact .inr
   ·rintro(z|z)
    ·exact absurd z.symm q
    ·exact z
structure TabOk(t:AZ):Prop where
 lb:∀r∈t,r.l∈names9
 vp:∀r∈t,∀p∈r.ps,p.vp
 pt:∀r∈t,patB r.ps=To
 ln:t.length<=8
 nt:oB (t.map YC)=Fo
structure KOk(A:Kn):Prop where
 nd:'Ϸ'.Nodup
 nm:∀n∈kys A,n∈nm9
 tb:∀n t,look n A=So t->TabOk t
def Jjd(n:Str)(t:AZ)(A:Kn)(h:'Ϸ'.Nodup):(kys T3).Nodup:=by
 unfold put;split
 ·simpa[kys,Zu,wA]using h
 ·rename_i q;have g:n∉kys A:=λz=>q ((look_mem n A).mpr z);unfold kys at h g⊢;rw[gC,List.nodup_append];refine⟨h,by simp,λa j b f=>?_⟩;simp only[Zl,rJ,kC]at f;subst f;exactλz=>g (z▸j)
def zV(n:Str)(A:Kn)(h:'Ϸ'.Nodup):(kys CU).Nodup:=h.sublist (List.filter_sublist.map _)
def jQ{n:Str}(f:Br)(j:n∈nm9)(h:Yv)(g:∀m,look m B=if n==m then So t else look m A)(o:(kys B).Nodup):KOk B:=by
 refine⟨o,λm l=>?_,λm u b=>?_⟩
 ·have:=(look_mem m B).mpr l;rw[g]at this;by_cases q:n=m
  ·exact q▸j
  ·rw[show(n==m)=Fo from by rw[Zw];exact q]at this;exact f.nm m ((look_mem m A).mp (by simpa using this))
 ·rw[g]at b;split at b
  ·cases b;exact h
  ·exact f.tb m u b
def Jkw(n:Str)(f:Br):KOk CU:=by
 refine⟨zV n A f.nd,λm g=>?_,λm u b=>?_⟩
 ·have:=(look_mem m _).mpr g;rw[eH]at this;split at this
  ·cases this
  ·exact f.nm m ((look_mem m A).mp this)
 ·rw[eH]at b;split at b
  ·cases b
  ·exact f.tb m u b
theorem JmP(r:Row):r.d.dep<=4:=by have:=JkJ r.ps;simp only[Row.d,Row.pd,D.dep,deps];lia
theorem fX(t:AZ):(tD t).dep<=5:=by
 simp only[tD,D.dep];have:deps (t.map XM)<=4:=dX λd b=>by rw[Zy]at b;obtain⟨r,_,rfl⟩:=b;exact JmP r
 lia
def JrL(p:Part):Jh p.d=To:=by
 have:∀b:List Str,Jc (b.map Yn)=To:=λb=>by
  induction b with
  |nil=>rfl
  |cons w b f=>simpa[Jc,Jh]using f
 cases p<;>simp[Part.d,Jh,Jc,this]
def kM:∀ps:List Part,Jc EZ=To
 |[]=>rfl
 |p::ps=>by simp[Jc,JrL p,kM ps]
def JkT:∀t:List Row,Jc Kl=To
 |[]=>rfl
 |r::t=>by simp[Jc,Row.d,Row.pd,Jh,kM r.ps,JkT t]
def oA(t:AZ):Jh (tD t)=To:=by simp[tD,Jh,JkT]
def iE:∀A:Kn,Jc Ei=To
 |[]=>rfl
 |p::A=>by
  have b:=iE A
  unfold vsD at b⊢
  simp[Jc,oA,b]
def JkF:∀t:List Row,imms Kl=To
 |[]=>rfl
 |r::t=>by simp[imms,Row.d,Row.pd,D.imm,JfV r.ps,JkF t]
def fV(t:AZ):(tD t).imm=To:=by simp[tD,D.imm,JkF]
def Jvg:∀A:Kn,imms Ei=To
 |[]=>rfl
 |p::A=>by
  have b:=Jvg A
  unfold vsD at b⊢
  simp[imms,fV,b]
def Jsx(A:Kn):JF SF=So CL:=by have:=JI CL;simpa[kys,ksD,Zu,wA]using this
theorem Jql(z:Bool)(A:Kn)(h:'Ϸ'.Nodup)(b:A.length<60):op1 .sortD Ni=.ok (.lst ('ź'.map .str)):=by
 have e:'Ϸ'.length=A.length:=by simp[kys]
 simp only[op1,Jsx];rw[if_pos ⟨h,by lia⟩]
def gW(h:∀m,look m A=look m B):Jn CL=Jn (kys B):=
 jY _ _ (Jz _) (Jz _) λk=>by rw[Ju,Ju,<-look_mem,<-look_mem,h]
def in_D(z:Bool)(n:Str)(A:Kn):op2 Y4 Bv Ni=.ok (.bl 'š'.isSome):=by rw[<-lK];show(if Fo=Fo/\keyD Fo Bv=To then Rs.ok (D.bl _)else Rs.sk)=_;exact if_pos Dr
def ni_D(z:Bool)(n:Str)(A:Kn):op2 Y6 Bv Ni=.ok (.bl (!(look n A).isSome)):=by rw[<-lK];show(if Fo=Fo/\keyD Fo Bv=To then Rs.ok (D.bl _)else Rs.sk)=_;exact if_pos Dr
def lG(z:Bool){n:Str}(h:look n A=So t):op2 E0 Ni Bv=.ok (tD t):=by show(if Fo=Fo/\keyD Fo Bv=To then Rs.ofOpt _ else Rs.sk)=_;rw[if_pos 'Į',mV,h];rfl
section
variable{U:Ae}{s:Bs}{env1:Fm}{r:Bool}{f:Nat}{ns:Ag}{p:Px}{fs:Am}{J:Am}{d st:D}{c:Str}
def rA{b:Bs}(h:exO w U bc s O=.ok .nx env1):exO w U bc (.seq s b) O=exO w U bc b env1:=by simp only[exO,h,Rq.bind]
def xP{b:Bs}(h:exO w U bc s O=.ex c env1):exO w U bc (.seq s b) O=.ex c env1:=by simp only[exO,h,Rq.bind]
def gP(h:evD U p O=.ok d)(b:Jh d=To):exO w U bc (.set i YI) O=.ok .nx FR:=by simp only[exO,evB,h,Rx.of,Rx.next,b,if_true]
def iQ(h:evD U p O=.ex c):exO w U bc (.set i YI) O=.ex c O:=by simp only[exO,evB,h,Rx.of,Rx.next]
def jE{x y:Bs}{b:Bool}(h:evD U p O=.ok E8):exO w U bc (.ite YI x y) O=if b then exO w U bc x O else exO w U bc y O:=by simp only[exO,evB,h,Rx.of,Rx.next];cases b<;>rfl
def Jqp(h1:O[i]? =So QaB)(b:evD U p O=.ok AE)(h:(plE CZ&&Jc J)=To)(g:bc f Cn J=.ok d st):evB U bc NW O=.ok d GB:=by simp only[evB,h1,b,h,if_true,g,Rx.lay]
def zH(h1:O[i]? =So QaB)(b:evD U p O=.ok AE)(h:(plE CZ&&Jc J)=To)(g:bc f Cn J=.ok d st):exO w U bc (.eff NW) O=.ok .nx GB:=by simp only[exO,Jqp h1 b h g,Rx.next]
def a_nx{q:Rq}(h:q=.ok .nx (So G9::e)):ansB Cn q=.ok .non G9:=by simp[h,ansB,zC]
def a_rt{q:Rq}(h:q=.ok CP (So G9::e)):ansB Cn q=.ok d G9:=by simp[h,ansB,zC]
def a_ex{q:Rq}(h:q=.ex c (So G9::e)):ansB Cn q=.ex c G9:=by simp[h,ansB,zC]
end
def ob (a:Nat) (A:Kn) (dn un:Am):D:=.obj a nsS [.dct Fo Fo SF Ei,.mls cQ dn,.mls HP un]
structure Dn(dn un:Am):Prop where
 pl:Jc dn=To
 ln:dn.length<1000
 pu:Jc un=To
def plains_app:∀f b:List D,Jc (f++b)=(Jc f&&Jc b)
 |[],b=>rfl
 |x::f,b=>by simp[Jc,plains_app f b,Bool.and_assoc]
section
variable{n:Str}{d:D}
def Jsu(h:Cz)(b:plE O=To):chgM To cQ (appG cQ d) (So Az::O)=.ok .nx (So (ob a A (dn++[d]) un)::O):=by simp[chgM,ob,nsS,S,List.lookup,appG,h.pl,h.pu,h.ln,putN,othD,b,iE,Jc,Jh,JY]
def Jsm(h:Cz)(b:plE O=To):chgF HP (.mls HP []) (So Az::O)=.ok .nx (So Qcv::O):=by simp[chgF,ob,nsS,S,putN,kG,h.pl,h.pu,b,iE,Jc,Jh,JY]
def Jsh(h:Cz)(g:A.length<1000)(f:plE O=To):chgM Fo (S "tables") (putG Bv (tD t)) (So Az::O)=.ok .nx (So Qb0::O):=by
 have b:'ϵ'.length<1000:=by simpa[ksD]using g
 simp[chgM,ob,nsS,S,List.lookup,putG,h.pl,h.pu,b,putN,othD,f,iE,Jc,Jh,JuX,JY]
def Jrf(h:Cz)(hs:'š'.isSome=To)(g:plE O=To):chgM Fo (S "tables") (popG Bv) (So Az::O)=.ok .nx (So Qb1::O):=by
 have b:=lK n A;rw[hs]at b;have f:popG Bv LR=So (.dct Fo Fo (ksD CU) (vsD CU)):=by simp only[popG,iE,b,Bool.and_self,if_true,JtL]
 simp[chgM,ob,nsS,S,List.lookup,f,h.pl,h.pu,putN,othD,g,iE,Jc,Jh,JY]
def mY(h:Cz)(f:A.length<1000)(c:Nat):runB defs bdefs Bb 0 Az HE=.ok .non Qb0:=by rw[JcS];refine a_nx (e:=Rn) ?_;rw[JZ,jE (b:=Fo) rfl,if_neg ZM];have:=Jsh (a:=a) (n:=n) (t:=t) h f (O:=Rn) (by simp[plE,Jh,oA]);simp only[exO,evD,qH,tE];rw[show(Jh (tD t)&&keyD Fo Bv)=To by rw[oA];rfl,if_pos rfl];exact this
def JnK(h:Cz)(hs:'š'.isSome=To)(c:Nat):runB defs bdefs Bb 0 Az [.str n,.non]=.ok .non Qb1:=by rw[JcS];refine a_nx (e:=[So Bv,So .non]) ?_;rw[JZ,jE (b:=To) rfl,if_pos rfl];exact Jrf h hs rfl
def optT:Option (List Row)->D
 |none=>.non
 |some t=>tD t
def oU(o:ME):Jh Qc3=To:=by
 cases o
 ·rfl
 ·exact oA _
def stp (w:Str) (n:Str) (o:ME) (x:D):D:=.tup [.str w,.str n,optT o,x]
theorem do_step{A':Kn}{x:D}{w:Str}(h:Cz)(o:Gy)(b:Jh x=To)(c:Nat)(hs:∀dn,Dn dn []->runB defs bdefs Bb 0 Qcv [.str n,x]=.ok .non (ob a A' dn [])):
  runB defs bdefs (c+2) 1 Az [.str w,.str n,x]=.ok .non (ob a A' IK []):=by
 rw[JjA];have j:plE KP=To:=by simp[plE,Jh,b]
 have g:∀un,Jc un=To->Dn IK un:=λun m=>⟨by simp[plains_app,h.pl,Jc,stp,Jh,oU,b],by simp;lia,m⟩;refine a_nx (e:=KP) ?_;rw[xR,rA (env1:=So (ob a A IK un)::KP),rA (env1:=So Qcw::KP)]
 ·exact zH (O:=So Qcw::KP) (i:=0) (J:=[.str n,x]) rfl rfl (by simp[plE,Jc,Jh,b]) (hs _ (g [] rfl))
 ·exact Jsm (g un h.pu) j
 ·have l:evD Hc VS UG=.ok (stp w n CJ x):=by
   have f:evD Hc Ed UG=.ok LR:=rfl;refine eB _ _ (J:=[.str w,.str n,optT CJ,x]) (Ji _ _ rfl (Ji _ _ rfl (Ji _ _ ?_ rfl))) Af;rw[e_if _ _ (Jk _ _ rfl f QdT)];cases q:look n A with
   |none=>rfl
   |some t=>exact Jk _ _ f rfl (lG Fo q)
  simp only[exO,l];rw[show Jh (stp w n CJ x)=To by simp[stp,Jh,Jc,oU,b],if_pos rfl];exact Jsu h j
end
section
variable{n:Str}
def rR:op1 F7 Az=.ok Az:=by simp[op1,ob]
def JiI{n:Str}(h:n∈nm9):n∈names9:=by unfold names9;simp[h]
def table_of(f:n∈nm9)(c:Nat):runD defs (c+3) 39 MV=match look n A with
  |some t=>.ok (tD t)
  |none=>.ex GX:=by
 have g:runD defs (c+3) 39 MV=Jf (exD (runD defs (c+2)) kS [So Az,So Bv]):=rfl;have b:evD (runD defs (c+2)) Ed [So Az,So Bv]=.ok LR:=rfl;rw[g,kS,kR _ _ _ _ (mG _ _ (p:=Fo) (JL _ _ (iA _ _ (Jj _ _ rfl (is_name n (JiI f) c)))) λ_=>Jk _ _ rfl b (ni_D Fo n A)),eA];cases q:look n A with
 |none=>rfl
 |some t=>exact Jk _ _ b rfl (lG Fo q)
def m_put(h:Cz)(l:Gy)(f:A.length<1000)(j:n∈nm9)(c:Nat):runB defs bdefs (c+3) 2 Az HE=.ok (.bl 'š'.isSome) (ob a T3 (dn++[stp Ll n CJ (tD t)]) []):=by
 rw[JtK];have g:evD (runD defs (c+2)) Ed Ue=.ok LR:=rfl;refine a_rt (e:=[So Bv,So (tD t),So (.bl 'š'.isSome)]) ?_;rw[nQ,rA (env1:=Ue)]
 ·rw[rA (gP (Jk _ _ rfl g QdT) rfl)];simp only[List.set];rw[rA (zH (O:=[So Az,So Bv,So (tD t),So (.bl 'š'.isSome)]) (i:=0) (J:=O3) rfl rfl (by simp[plE,Jc,Jh,oA]) (do_step h l (oA t) c λdn h=>mY h f c))];rfl
 ·rw[jE (b:=Fo) (JL _ _ (iA _ _ (Jj _ _ rfl (is_name n (JiI j) c)))),if_neg ZM];rfl
def wU(f:e[0]? =So (So Az))(hi:e[i]? =So (So Bv))(b:n∈nm9)(c:Nat):evD (runD defs (c+3)) (.call 39 (.cons MM (.cons Cv .nil))) e=match look n A with
  |some t=>.ok (tD t)
  |none=>.ex GX:=
 JA _ _ (J:=MV) (Ji _ _ (JE _ _ (by rw[gE,f]) rR) (Ji _ _ (by rw[gE,hi]) rfl)) (table_of b c)
def m_take(h:Cz)(j:Gy)(g:n∈nm9)(c:Nat):runB defs bdefs (c+4) 3 Az bQ=match look n A with
  |some t=>.ok (tD t) (ob a CU (dn++[stp K8 n CJ .non]) [])
  |none=>.ex GX Az:=by
 rw[JrB,eR];have b:=wU (a:=a) (A:=A) (dn:=dn) (un:=un) (e:=[So Az,So Bv,No]) (i:=1) rfl rfl g c;cases q:look n A with
 |none=>rw[q]at b;exact a_ex (e:=[So Bv,No]) (xP (iQ b))
 |some t=>rw[q]at b;refine a_rt (e:=Rn) ?_;rw[rA (gP b (oA t))];simp only[List.set];have f:=do_step (a:=a) (A:=A) (dn:=dn) (un:=un) (A':=del n A) (n:=n) (w:=S "take") (x:=.non) h j rfl Bb λdn h=>JnK h (by rw[q];rfl) Bb;rw[q]at f;rw[rA (zH (O:=[So Az,So Bv,So (tD t)]) (i:=0) (J:=[.str K8,.str n,.non]) rfl rfl (by simp[plE,Jc,Jh,oA]) f)];rfl
variable{o:Str}
def mkT (hs:Bt) (u:AZ):List Row:=u.map (mntR hs)
def okM (hs:Bt) (t u:AZ):Bool:=u.all (λr=>patB BM)&&(decide ((t++mkT hs u).length<=8)&&!oB ((t++mkT hs u).map YC))
def rL{ps:Bt}(h:patB ps=To):Aw<=6:=by unfold patB at h;simp only[Zd,Zv]at h;exact h.1.1
theorem jm(g:∀p∈hs,p.vp)(E:hs.length<=6)(h:Yv)(f:TabOk u)(c:Nat){x y z:Px}(h1:evD D4 x e=.ok (tD t))(v:evD D4 y e=.ok DW)(s:evD D4 z e=.ok (tD u)):
  evD D4 (.call 14 (.cons x (.cons Vn .nil))) e=if okM hs t u then .ok (tD Eh)else .ex G1:=by
 have l:=mounted hs g Ad u f.vp (λr j=>ZA (rL (f.pt r j)) A9) (ZA f.ln A9) c;have b:evD D4 Vn e=if u.all (λr=>patB BM)then .ok (tD KI)else .ex G1:=JA _ _ (J:=[.tup NC,tD u]) (Ji _ _ v (Ji _ _ s rfl)) l;unfold okM;cases q:u.all λr=>patB BM with
 |false=>rw[q]at b;simp only[Zo,ZN]at b;rw[kQ,xK,h1,Rs.bo,xK,b];rfl
 |true=>rw[q]at b;have m:=joined t KI (by have:=h.ln;have:=f.ln;simp only[mkT,Zj];lia) (c+5);simp only[Bool.true_and];exact JA _ _ (J:=[tD t,tD KI]) (Ji _ _ h1 (Ji _ _ b rfl)) m
def m_mount(h:Cz)(F:Gy)(v:A.length<1000)(l:Br)(E:n∈nm9)(ho:o∈nm9)(G:∀p∈hs,p.vp)(H:hs.length<=6)(c:Nat):runB defs bdefs (c+8) 4 Az KO=match look n A with
  |some t=>match look o A with
   |some u=>if okM hs t u then .ok Ep (ob a (put n Eh A) (dn++[stp Lp n CJ Ep]) [])else .ex G1 Az
   |none=>.ex GX Az
  |none=>.ex GX Az:=by
 rw[JnG,vR];have g:=wU (a:=a) (A:=A) (dn:=dn) (un:=un) (e:=[So Az,So Bv,So DW,So Gx,No,No]) (i:=1) rfl rfl E (c+4);cases q:look n A with
 |none=>rw[q]at g;exact a_ex (e:=[So Bv,So DW,So Gx,No,No]) (xP (iQ g))
 |some t=>
  rw[q]at g;rw[rA (gP g (oA t))];simp only[List.set];have f:=wU (a:=a) (A:=A) (dn:=dn) (un:=un) (e:=Nt) (i:=3) rfl rfl ho (c+4);cases j:look o A with
  |none=>rw[j]at f;refine a_ex (e:=Vk) (xP (iQ ?_));have b:evD D4 BJ Nt=.ok (tD t):=rfl;have s:evD D4 BS Nt=.ok DW:=rfl;simp only[kQ,xK,f,b,s,Rs.bo,Rs.bind_ex]
  |some u=>
   rw[j]at f;have b:=jm G H (l.tb n t q) (l.tb o u j) c (e:=Nt) (x:=.var 4) (y:=.var 2) rfl rfl f;cases z:okM hs t u with
   |false=>simp only[z,Zo,ZN]at b⊢;exact a_ex (e:=Vk) (xP (iQ b))
   |true=>simp only[z,if_true]at b⊢;refine a_rt (e:=[So Bv,So DW,So Gx,So (tD t),So Ep]) ?_;rw[rA (gP b (oA _))];simp only[List.set];have m:=do_step (a:=a) (A:=A) (dn:=dn) (un:=un) (A':=put n Eh A) (n:=n) (w:=S "mount") (x:=tD Eh) h F (oA _) (c+5) λdn h=>mY h v (c+5);rw[q]at m;rw[rA (zH (O:=[So Az,So Bv,So DW,So Gx,So (tD t),So Ep]) (i:=0) (J:=[.str Lp,.str n,tD Eh]) rfl rfl (by simp[plE,Jc,Jh,oA,kM]) m)];rfl
end
inductive Deed where
 |put (n:Str) (t:List Row)|take (n:Str)|mount (n:Str) (hs:List Part) (o:Str)
def Deed.d:Deed->D
 |.put n t=>.tup O3
 |.take n=>.tup [.str K8,.str n]
 |.mount n hs o=>.tup [.str Lp,.str n,.tup NC,.str o]
noncomputable def Deed.n:Deed->Str
 |.put n _=>n
 |.take n=>n
 |.mount n _ _=>n
def Deed.Ok:Deed->Prop
 |.put n t=>n∈nm9/\TabOk t
 |.take n=>n∈nm9
 |.mount n hs o=>n∈nm9/\o∈nm9/\(∀p∈hs,p.vp)/\hs.length<=6
def Deed.Ok.n{b:Deed}(h:b.Ok):b.n∈nm9:=by
 cases b with
 |put n t=>exact h.1
 |take n=>exact h
 |mount n hs o=>exact h.1
def Deed.pl(b:Deed):Jh b.d=To:=by cases b<;>simp[Deed.d,Jh,Jc,oA,kM]
noncomputable def nmA (r:Nat):Str:=nm9.getD r (S "a")
theorem JvA(r:Nat)(h:r<4):atD Nu (r:Int)=So (.str (nmA r)):=by
 match r,h with
 |0,_=>rfl
 |1,_=>rfl
 |2,_=>rfl
 |3,_=>rfl
 |n+4,h=>lia
theorem jP(r:Nat)(h:r<4):nmA r∈nm9:=by
 match r,h with
 |0,_=>decide+kernel
 |1,_=>decide+kernel
 |2,_=>decide+kernel
 |3,_=>decide+kernel
 |n+4,h=>lia
noncomputable def tns:List Str:=[S "a",S "b",S "c"]
theorem tn_at(r:Nat)(h:r<3):∃x∈tns,op2 .idx (.str (S "abcdefgh")) Qc1=.ok CB:=by
 match r,h with
 |0,_=>exact⟨S "a",by decide+kernel,rfl⟩
 |1,_=>exact⟨S "b",by decide+kernel,rfl⟩
 |2,_=>exact⟨S "c",by decide+kernel,rfl⟩
 |n+3,h=>lia
def Jqd:∀x∈tns,∀l∈labs.take 3,x++l∈lb9/\x.length+l.length<=1000:=by decide+kernel
def tn_tw:∀x∈tns,∀m∈[0,1,2,3],oB ((labs.take m).map (x++·))=Fo:=by decide+kernel
noncomputable def tnR (x:Str) (r:Row):Row:=⟨x++r.l,r.ps⟩
theorem Jtr{rows:AZ}{x:Str}(g:x∈tns)(h1:∀r∈rows,r.Ok 2)(j:rows.map YC=labs.take Bz)(l:Bz<=3):TabOk RS:=by
 have m:∀r∈rows,r.l∈labs.take 3:=λr b=>by have:r.l∈labs.take Bz:=j▸eF b;exact(List.take_subset_take_left labs l) this
 refine⟨λr b=>?_,λr b=>?_,λr b=>?_,by simpa using ZA l A9,?_⟩
 ·rw[Zy]at b;obtain⟨q,f,rfl⟩:=b;have:=(Jqd x g q.l (m q f)).1;unfold names9;simp[tnR,this]
 ·rw[Zy]at b;obtain⟨q,f,rfl⟩:=b;exact(h1 q f).vp
 ·rw[Zy]at b;obtain⟨q,f,rfl⟩:=b;exact(h1 q f).pat A9
 ·rw[Zu,show(Row.l∘tnR x)=(λr:Row=>x++r.l)from rfl];rw[show rows.map (λr:Row=>x++r.l)='ʚ'.map (x++·) by rw[Zu];rfl,j];exact tn_tw x g Bz (by rcases(by lia:Bz=0\/rows.length=1\/rows.length=2\/rows.length=3)with h|h|h|h<;>rw[h]<;>decide)
theorem deed(ns:AR)(k:Int)(W:0<=k):∃y:Deed,y.Ok/\∀c,runD defs (c+6) 35 QN=.ok y.d:=by
 obtain⟨f,l0,L⟩:=pick ns k 4 W Ad;obtain⟨g,l1,p1⟩:=pick ns A4 6 Ad Ad;obtain⟨rows,X,v,s,t4⟩:=table ns (k+10) Ad 2 Ad 3 Ad;obtain⟨M,l3,I⟩:=pick ns (k+3) 3 Ad Ad;obtain⟨x,q,ex⟩:=tn_at M Ad;obtain⟨hs,E,q2,q3,P,q5,N⟩:=pat ns (k+200) Ad 2 Ad;obtain⟨o,l4,z⟩:=pick ns (k+4) 4 Ad Ad;have F:=JvA f Ad;have n4:=JvA o Ad;have b:∀c,runD defs (c+6) 35 QN=Jf (exD (runD defs (c+5)) (.seq (.ite N2 (.seq VP
  (.seq VT
  X8)) .skip)
  (.seq VI
  (.seq VN
  VW)))
   [So Kt,So Er,So (.lst Nu),So (.str YE),So Gn,No,No,No]):=λc=>by
  rw[JjF,kZ,nB _ _ (d:=.lst Nu) _ rfl];refine jI _ _ _ ?_;have U:=L (c+3);have e1:=p1 (c+3);simp[U,e1,F]
 by_cases w:g<3
 ·refine⟨.put YE RS,⟨jP f Ad,Jtr q X v s⟩,λc=>?_⟩;rw[b];refine fD _ _ (e:=[So Kt,So Er,So (.lst Nu),So (.str YE),So Gn,So (tD rows),So CB,No]) (Jk _ _ rfl rfl (by simp[op2,onII];lia)) ?_;have e3:=I (c+3);have m:=t4 c;rw[wH _ _ _ (d:=tD rows) (JA _ _ (J:=[ofN ns,.int (k+10),.int 2,.int 3]) Af m)];rw[wH _ _ _ (d:=.str x) (Jk _ _ rfl (JA _ _ (J:=[ofN ns,.int (k+3),.int 3]) Af e3) ex)];simp only[List.set];refine tR _ _ (eB _ _ (J:=[.str Ll,.str YE,tD RS]) (Ji _ _ rfl (Ji _ _ rfl (Ji _ _ ?_ rfl))) Af);refine JE _ _ (mD _ _ XM (λr=>(tnR x r).d) (rs:=rows) rfl Ad λr H=>?_) (by simp[op1,tD,Zu,wA]);have Y:r.l∈labs.take 3:=by have:r.l∈labs.take Bz:=v▸eF H;exact(List.take_subset_take_left labs s) this
  have G:=(Jqd x q r.l Y).2;refine eB _ _ (J:=[.str (x++r.l),r.pd]) (Ji _ _ (Jk _ _ (x:=.str x) rfl MJ ?_) (Ji _ _ MI rfl)) Af;simp only[op2];rw[if_pos (xI G)]
 ·have h:op2 .lt Gn (.int 3)=.ok CO:=by simp[op2,onII];lia
  by_cases w3:g=3
  ·refine⟨.take YE,jP f Ad,λc=>?_⟩;rw[b,uC _ _ '仍'];subst w3;exact fD _ _ OU Kk
  ·refine⟨.mount YE hs (nmA o),⟨jP f Ad,jP o Ad,λp l=>Juk p (E p l) (P p l) λh=>q5.subset (JfW hs p l h),by lia⟩,λc=>?_⟩;have j:op2 .eq Gn (.int 3)=.ok CO:=by rw[o_eqI];simp;lia
   have m:=z (c+3);have Z:=N Bb;rw[b,uC _ _ '仍',uC _ _ (Jk _ _ rfl rfl j)];rw[nB _ _ (d:=.tup NC) _ (JA _ _ (J:=[ofN ns,.int (k+200),.int 2]) Af Z),eA];simp only[List.set];exact eB _ _ (Ji _ _ rfl (Ji _ _ rfl (Ji _ _ rfl (Ji _ _ (Jk _ _ rfl (JA _ _ (J:=[ofN ns,.int (k+4),.int 4]) Af m) (by simp[op2,n4,Rs.ofOpt])) rfl)))) Af
def look_of(h:(kys B).Nodup):∀p∈B,look p.1 B=So p.2:=by
 induction B with
 |nil=>intro p b;cases b
 |cons q B f=>
  intro p b;unfold kys at h f;rw[Zl,iB]at h;simp only[look];rcases Zg.mp b with rfl|b
  ·simp
  ·have:q.1≠p.1:=λz=>h.1 (z▸eF b);rw[show(q.1==p.1)=Fo from by rw[Zw];exact this];exact f h.2 p b
def JqG:∀C:Kn,qT (C.map λp=>.tup [.str p.1,tD p.2])=So (ksD C,vsD C)
 |[]=>rfl
 |p::C=>by
  have b:=JqG C
  unfold qT at b⊢
  simp only[Zl,fF,keyN,if_true,b,wF]
  rfl
def pw_D:∀C:Kn,(kys C).Nodup->(ksD C).Pairwise λa b=>a.eqv b=Fo
 |[],_=>lN
 |p::C,h=>by
  unfold kys ksD at*
  rw[Zl,iB]at h
  rw[Zl,eE]
  refine⟨λd f=>?_,by have:=pw_D C;unfold kys ksD at this;exact this h.2⟩
  rw[Zy]at f
  obtain⟨q,g,rfl⟩:=f
  simp only[D.eqv]
  rw[Zw]
  exactλz=>h.1 (z▸eF g)
theorem Jqr(C:Kn)(h:(kys C).Nodup)(b:C.length<=1000):op1 .dictP (.lst (C.map λp=>.tup [.str p.1,tD p.2]))=.ok (.dct Fo To (ksD C) (vsD C)):=by
 have e:(ksD C).length=C.length:=by simp[ksD]
 simp only[op1,wK,JqG];rw[if_pos ⟨pw_D C h,by lia⟩]
section
variable(U:Ae)(O:Fm)
def Juj{e:Px}(rest:Sx)(h:evD U e O=.ok (.lst (C.map λp=>.tup [.str p.1,tD p.2])))(f:(kys C).Nodup)(b:C.length<=1000):Jf (exD U (.seq (.ownP i e) rest) O)=Jf (exD U rest (O.set i LZ)):=by
 have:exD U (.ownP i e) O=.ok (.nx,O.set i LZ):=by simp only[exD,h,Rs.bo,Jqr C f b,Jvg,if_true]
 rw[jI _ _ _ this]
def Juw{k v:Px}{n:Str}(rest:Sx)(hi:O[i]? =So LZ)(f:evD U k O=.ok Bv)(b:evD U v O=.ok (tD t))(g:C.length<1000):
  exD U (.seq (.put Fo Fo i k v) rest) O=exD U rest (O.set i (So (.dct Fo Fo (ksD (put n t C)) (vsD (put n t C))))):=by
 have e:(ksD C).length=C.length:=by simp[ksD]
 refine Juc _ _ _ ?_;simp[hi,f,b,keyD,keyB,e,g,JuX]
def qV{e:Px}{d:D}(hi:O[i]? =So LZ)(h:evD U e O=.ok d)(b:d.imm=To):exD U (.retP i e) O=.ok (.rt (.tup [.dct Fo To (ksD C) (vsD C),d]),O):=by simp only[exD,hi,h,Rs.bo,b,if_true]
end
noncomputable def noS:D:=.str (S "no site")
noncomputable def tooM:D:=.str (S "too many")
def bhd (B:Kn):Deed->Kn×D
 |.put n t=>(put n t Ee,.bl (look n B).isSome)
 |.take n=>match look n B with
  |none=>YL
  |some t=>(del n B,tD t)
 |.mount n hs o=>match look n B with
  |none=>YL
  |some t=>match look o B with
   |none=>YL
   |some u=>if okM hs t u then(put n Eh Ee,tD Eh)else(B,tooM)
section
variable{n o:Str}
def nU(q:look n B=No):bhd B IZ=YL:=by simp[bhd,q]
def hU(q:look n B=So t):bhd B IZ=(del n B,tD t):=by simp[bhd,q]
def eV(q:look n B=No):bhd B FH=YL:=by simp[bhd,q]
def lU(q:look n B=So t)(b:look o B=No):bhd B FH=YL:=by simp[bhd,q,b]
def iU(q:look n B=So t)(b:look o B=So u)(z:okM hs t u=Fo):bhd B FH=(B,tooM):=by simp[bhd,q,b,z]
def kU(q:look n B=So t)(b:look o B=So u)(z:okM hs t u=To):bhd B FH=(put n Eh Ee,tD Eh):=by simp[bhd,q,b,z]
end
def knD (B:Kn):D:=.dct Fo To (ksD B) (vsD B)
def Jsw(n:Str)(B:Kn):(del n B).length<=B.length:=List.length_filter_le _ _
def mX(m:∀p∈hs,p.vp)(j:Yv)(l:TabOk u)(h:okM hs t u=To):TabOk Eh:=by
 unfold okM at h;simp only[Zd,Zv,ZQ,kB]at h;refine⟨λr b=>?_,λr b p f=>?_,λr b=>?_,h.2.1,h.2.2⟩
 ·rcases ZI.mp b with b|b
  ·exact j.lb r b
  ·unfold mkT at b;rw[Zy]at b;obtain⟨q,g,rfl⟩:=b;exact l.lb q g
 ·rcases ZI.mp b with b|b
  ·exact j.vp r b p f
  ·unfold mkT at b;rw[Zy]at b;obtain⟨q,g,rfl⟩:=b;rcases ZI.mp f with f|f
   ·exact m p f
   ·exact l.vp q g p f
 ·rcases ZI.mp b with b|b
  ·exact j.pt r b
  ·unfold mkT at b;rw[Zy]at b;obtain⟨q,g,rfl⟩:=b;exact h.1 q g
def Jln(b:Deed)(U:Ae)(O:Fm)(i:Nat)(h:O[i]? =So CA):evD U Sm O=.ok (.str b.n):=by cases b<;>simp[h,Deed.d,Deed.n]
def pF(b:Deed)(w:Ba)(U:Ae)(O:Fm)(i:Nat)(h:O[i]? =So CA):evD U (.bi .eq Sn (.con (.str (S w)))) O=.ok (.bl (match b with|.put _ _=>decide ("put"=w)|.take _=>decide ("take"=w)|.mount _ _ _=>decide ("mount"=w))):=by cases b<;>simp[h,Deed.d,oG]
theorem Jwf{xs:Am}(h:deps xs<=10):op2 .ne AK Fs=.ok (.bl (!xs.isEmpty)):=by have:Jy AK=To:=ZH (by simp only[D.dep];lia);simp only[op2,this];cases xs<;>rfl
theorem JvJ(B:Kn)(hB:KOk B)(hl:B.length<900)(h:Deed)(v:h.Ok)(c:Nat):runD defs (c+9) 36 [knD B,h.d]=.ok (.tup [knD (bhd B h).1,(bhd B h).2]):=by
 have hn:=v.n;have nd:=zV h.n B hB.nd;have H:=Jsw h.n B;have h1:evD BD VR [So AQ,So h.d,No,No,No]=.ok (.lst ((del h.n B).map λp=>.tup [.str p.1,tD p.2])):=by refine xQ _ _ (rs:=B) (λp:Str×List Row=>D.str p.1) (λp=>!(p.1==h.n)) (λp=>.tup [.str p.1,tD p.2]) rfl Ad λp j=>⟨Jk _ _ rfl (Jln h _ _ 2 rfl) (JsA _ _),λ_=>?_⟩;exact eB _ _ (J:=[.str p.1,tD p.2]) (Ji _ _ rfl (Ji _ _ (Jk _ _ (x:=knD B) rfl rfl (lG To (look_of hB.nd p j))) rfl)) Af
 rw[Jgh,Jbg,Juj _ _ _ h1 nd 'd'];simp only[List.set];have hI:=in_D To h.n B;have l:=ni_D To h.n B;have f:∀(W Z X:Bm),evD BD DB [So AQ,So h.d,W,Z,X]=.ok (.str h.n):=λ_ _ _=>Jln h _ _ 1 rfl;cases h with
 |put n t=>refine fD _ _ (e:=[So AQ,So 'Ɍ'.d,So (.dct Fo Fo (ksD (put n t Ee)) (vsD (put n t Ee))),No,No]) 'ԁ' ?_;rw[Juw _ _ (C:=del n B) (n:=n) (t:=t) _ rfl 'ԓ' rfl (by have:(del n B).length<=B.length:=H;lia)];exact qV _ _ (C:=put n t Ee) rfl (Jk _ _ 'ԓ' rfl hI) rfl
 |take n=>
  simp only[Deed.n];rw[uC _ _ 'պ'];cases q:look n B with
  |none=>rw[show look 'Ű'.n B=No from q]at l;rw[nU q];exact fD _ _ 'Ƕ' Kk
  |some t=>rw[show look 'Ű'.n B=So t from q]at l;rw[uC _ _ 'Ƕ',hU q];exact fD _ _ (pF IZ "take" _ _ 1 rfl) (qV _ _ (C:=del n B) rfl (Jk _ _ rfl 'ԓ' (lG To q)) (fV t))
 |mount n hs o=>
  simp only[Deed.n];rw[uC _ _ (pF FH "put" _ _ 1 rfl)];cases q:look n B with
  |none=>rw[show look 'ò'.n B=No from q]at l;rw[eV q];exact fD _ _ 'Ƕ' Kk
  |some t=>
   rw[show look 'ò'.n B=So t from q]at l;rw[uC _ _ 'Ƕ',uC _ _ (pF FH "take" _ _ 1 rfl)];have U:∀(W Z X:Bm),evD BD KZ [So AQ,So 'ò'.d,W,Z,X]=.ok Gx:=λ_ _ _=>rfl;have N:=ni_D To o B;cases s:look o B with
   |none=>rw[s]at N;rw[lU q s];exact fD _ _ '专' Kk
   |some u=>
    rw[s]at N;rw[uC _ _ '专'];have I:=hB.tb n t q;have m:=hB.tb o u s;have Y:=v.2.2.1;have hl6:=v.2.2.2;have hu8:=m.ln;have ht8:=I.ln;have m1:evD BD VU [So AQ,So 'ò'.d,So FX,No,No]=.ok Iy:=by
     have L:evD BD (.walk (.un .rows (.bi E0 Ap KZ))) [So AQ,So 'ò'.d,So FX,No,No]=.ok (.lst (u.map λr=>.tup QM)):=by have hg:=Jk BD [So AQ,So 'ò'.d,So FX,No,No] (a:=.var 0) (x:=knD B) rfl (U _ _ _) (lG To s);rw[rG,JE _ _ hg (z:=tD u) rfl];rfl
     refine JE _ _ (Jif _ _ (λr:Row=>D.str r.l) (λr=>r.pd) (λr=>'Ɯ'.d) L Ad λr b=>?_) (by simp[op1,tD,mkT,Zu,wA]);have:=rL (m.pt r b);refine eB _ _ (J:=[.str r.l,'Ɯ'.pd]) (Ji _ _ rfl (Ji _ _ (Jk _ _ (x:=.tup NC) (y:=r.pd) rfl rfl ?_) rfl)) Af;unfold Row.pd mntR;rw[vQ '>',gC]
    rw[nB _ _ _ m1];simp only[List.set];have m2:evD BD Qbj [So AQ,So 'ò'.d,So FX,So Iy,No]=.ok Ep:=by refine Jk _ _ (x:=tD t) (y:=tD KI) (Jk _ _ (x:=knD B) rfl 'ԓ' (lG To q)) rfl ?_;unfold tD;rw[vQ (by simp[mkT];lia),gC]
    rw[nB _ _ _ m2];simp only[List.set];have m3:evD BD XN [So AQ,So 'ò'.d,So FX,So Iy,So Ep]=.ok (.lst ((u.filter λr=>!patB BM).map λr=>'Ɯ'.d)):=by
     refine xQ _ _ (rs:=u) (λr=>'Ɯ'.d) (λr=>!patB BM) (λr=>'Ɯ'.d) (by simp[D.walk,tD,mkT,Zu,wA]) Ad λr b=>⟨JL _ _ (iA _ _ (Jj _ _ Pc (is_pattern BM (λp j=>?_) ?_ (c+2)))),λ_=>rfl⟩
     ·rcases ZI.mp j with j|j
      ·exact Y p j
      ·exact m.vp r b p j
     ·have:=rL (m.pt r b);simp only[Zm];lia
    have m4:(!((u.filter λr=>!patB BM).map λr=>'Ɯ'.d).isEmpty)=!(u.all λr=>patB BM):=by congr 1;rw[List.isEmpty_map,Bool.eq_iff_iff,List.isEmpty_iff,List.filter_eq_nil_iff,ZQ];simp
    have E:deps ((u.filter λr=>!patB BM).map λr=>'Ɯ'.d)<=10:=dX λd hd=>by rw[Zy]at hd;obtain⟨r,_,rfl⟩:=hd;exact ZA (JmP _) A9
    have hok:okM hs t u=To->TabOk Eh:=mX Y I m;have mt:u.all (λr=>patB BM)=To->evD BD TZ [So AQ,So 'ò'.d,So FX,So Iy,So Ep]=.ok (.bl (!(decide ((t++mkT hs u).length<=8)&&!oB ((t++mkT hs u).map YC)))):=λG=>by
     have g:∀r∈t++mkT hs u,r.l∈names9/\(∀p∈r.ps,p.vp)/\patB r.ps=To:=λr b=>by
      rcases ZI.mp b with b|b
      ·exact⟨I.lb r b,I.vp r b,I.pt r b⟩
      ·unfold mkT at b;rw[Zy]at b;obtain⟨q,P,rfl⟩:=b;refine⟨m.lb q P,λp j=>?_,ZQ.mp G q P⟩;rcases ZI.mp j with j|j
       ·exact Y p j
       ·exact m.vp q P p j
     have hT:=is_table Eh (λr b=>(g r b).1) (λr b=>(g r b).2.1) (λr b=>zF (rL (g r b).2.2) A9) (by simp[mkT];lia) c;have e:tabB Eh=(decide ((t++mkT hs u).length<=8)&&!oB ((t++mkT hs u).map YC)):=by unfold tabB;rw[show(t++mkT hs u).all (λr=>patB r.ps)=To from ZQ.mpr λr b=>(g r b).2.2,Bool.and_true]
     rw[e]at hT;exact JL _ _ (iA _ _ (Jj _ _ rfl hT))
    have M:evD BD bG [So AQ,So 'ò'.d,So FX,So Iy,So Ep]=.ok (.bl (!okM hs t u)):=by have F:=Jk BD _ m3 (JpL BD _ (as:=.nil) (J:=[]) rfl Af) (Jwf E);rw[m4]at F;unfold okM;rw[Bool.not_and];exact mG _ _ F λj=>mt (by simpa using j)
    cases z:okM hs t u with
    |false=>rw[z]at M;rw[iU q s z];exact fD _ _ M Kk
    |true=>rw[z]at M;rw[uC _ _ M,kU q s z];rw[Juw _ _ (C:=del n B) (n:=n) (t:=t++mkT hs u) _ rfl 'ԓ' rfl (by have:(del n B).length<=B.length:=H;lia)];simp only[List.set];rw[qV _ _ (C:=put n Eh Ee) rfl (d:=tD Eh) rfl (fV _)];rfl
section
variable{U:Ae}{fi f:Nat}{cs ns:Ag}{p:Px}{fs:Am}{J:Am}{d st:D}{c:Str}
def o_told(h1:O[i]? =So QaB)(b:evD U p O=.ok AE)(h:(plE CZ&&Jc J)=To)(g:bc f Cn J=.ok d st):exO w U bc LH O=.ok CP ((O.set i No).set i (So st)):=by simp only[exO,evB,h1,b,h,if_true,g,rK,Rx.next]
def JkU(h1:O[i]? =So QaB)(j:evD U p O=.ok AE)(l:(plE CZ&&Jc J)=To)(g:bc f Cn J=.ex c st)(b:cs.contains c=To)(h:U fi DL=.ok d):exO w U bc LH O=.ok CP ((O.set i No).set i (So st)):=by simp only[exO,evB,h1,j,l,if_true,g,rK,b,h,Rx.next]
end
def iW(c:Nat):runD defs Bb 34 [.exc GX]=.ok noS:=rfl
def JoJ(c:Nat):runD defs Bb 34 [.exc G1]=.ok tooM:=rfl
def JmZ(h:∀m,look m A=look m B)(b:Deed):(bhd A b).2=(bhd B b).2/\∀m,look m (bhd A b).1=look m (bhd B b).1:=by
 cases b with
 |put n t=>refine⟨by simp[bhd,h],λm=>?_⟩;simp only[bhd,look_put,eH,h]
 |take n=>
  simp only[bhd,h];split
  ·exact Li
  ·exact⟨rfl,λm=>by simp only[eH,h]⟩
 |mount n hs o=>
  simp only[bhd,h];split
  ·exact Li
  ·split
   ·exact Li
   ·split
    ·exact⟨rfl,λm=>by simp only[look_put,eH,h]⟩
    ·exact Li
def put_len(n:Str)(t:AZ)(A:Kn):'Ǫ'.length<=A.length+1:=by unfold put;split<;>simp
def qQ(n m:Str)(t:AZ)(A:Kn):look m (put n t CU)=if n==m then So t else look m A:=by rw[look_put,eH];split<;>rfl
def JvO(h:KOk B){f:Deed}(b:f.Ok):KOk (bhd B f).1:=by
 cases f with
 |put n t=>exact jQ h b.1 b.2 (λm=>qQ n m t B) Ui
 |take n=>
  simp only[bhd];split
  ·exact h
  ·exact Jkw n h
 |mount n hs o=>
  simp only[bhd];split
  ·exact h
  ·rename_i t q;split
   ·exact h
   ·rename_i u g;split
    ·rename_i z;exact jQ h b.1 (mX b.2.2.1 (h.tb n t q) (h.tb o u g) z) (λm=>qQ n m _ B) Ui
    ·exact h
noncomputable abbrev clT:List Str:=cl9
def zU(h:Cz)(b:Gy)(w n:Str)(A:Kn)(o:ME):Dn (dn++[stp w n CJ Qc3]) []:=
 ⟨by rw[plains_app,h.pl];simp[stp,Jh,Jc,oU],by rw[Zm];exact b,rfl⟩
def did(h:Cz)(G:Gy)(hA:A.length<900)(s:Br){I:Deed}(f:I.Ok)(c:Nat):
  ∃H g l,runB defs bdefs (c+9) 5 Az [I.d]=.ok (bhd A I).2 (ob a H g l)/\KOk H/\Dn g l/\g.length<=dn.length+1/\∀m,look m H=look m (bhd A I).1:=by
 have pe:(plE [No,So I.d])=To:=by simp[plE,I.pl]
 have P:∀{w n:Str}{o:ME},(dn++[stp w n CJ Qc3]).length<=dn.length+1:=by intros;simp
 cases I with
 |put n t=>refine⟨put n t A,dn++[stp Ll n CJ (optT (So t))],[],?_,jQ s f.1 f.2 (λm=>look_put n m t A) (Jjd n t A s.nd),zU h G _ _ _ _,P,λm=>by simp only[bhd];rw[look_put,qQ]⟩;rw[TR,JC];refine a_rt (e:=[So 'Ɍ'.d]) ?_;rw[rA (env1:=[So Az,So 'Ɍ'.d]) ((jE (b:=Fo) (pF (.put n t) "mount" _ _ 1 rfl)).trans rfl),jE (b:=To) 'ԁ',if_pos rfl];exact o_told (O:=[So Az,So 'Ɍ'.d]) (i:=0) (J:=HE) rfl rfl (by rw[show plE (List.set [So Az,So 'Ɍ'.d] 0 No)=To from pe];simp[Jc,Jh,oA]) (m_put h G Ad f.1 (c+5))
 |take n=>
  have j:=m_take (a:=a) (A:=A) h G (show n∈nm9 from f) (c+4);have X:exO To BD IM JC [So Az,So 'Ű'.d]=exO To BD IM (.retB (.tolB 34 clT 3 0 nsS QbZ)) [So Az,So 'Ű'.d]:=by rw[JC,rA (env1:=[So Az,So 'Ű'.d]) ((jE (b:=Fo) (pF IZ "mount" _ _ 1 rfl)).trans rfl),jE (b:=Fo) 'պ',if_neg ZM]
  have M:(plE (List.set [So Az,So 'Ű'.d] 0 No)&&Jc bQ)=To:=by rw[show plE (List.set [So Az,So 'Ű'.d] 0 No)=To from pe];rfl
  cases q:look n A with
  |none=>rw[q]at j;refine⟨A,dn,un,?_,s,h,yA _,λm=>by rw[nU q]⟩;rw[TR,X,nU q];exact a_rt (e:=[So 'Ű'.d]) (JkU (O:=[So Az,So 'Ű'.d]) (i:=0) (J:=bQ) rfl rfl M j Ab (iW _))
  |some t=>rw[q]at j;refine⟨del n A,dn++[stp K8 n CJ (optT No)],[],?_,Jkw n s,zU h G _ _ _ _,P,λm=>by rw[hU q]⟩;rw[TR,X,hU q,q];exact a_rt (e:=[So 'Ű'.d]) (o_told (O:=[So Az,So 'Ű'.d]) (i:=0) (J:=bQ) rfl rfl M j)
 |mount n hs o=>
  have j:=m_mount (a:=a) (A:=A) h G Ad s f.1 f.2.1 f.2.2.1 f.2.2.2 c;have M:(plE (List.set [So Az,So 'ò'.d] 0 No)&&Jc KO)=To:=by rw[show plE (List.set [So Az,So 'ò'.d] 0 No)=To from pe];simp[Jc,Jh,kM]
  have L:∀{N:Fm}{d:D},exO To BD IM (.retB Tj) [So Az,So 'ò'.d]=.ok CP N->
    exO To BD IM JC [So Az,So 'ò'.d]=.ok CP N:=fun{N d}U=>by
   rw[JC];simp only[exO];have:=jE (w:=To) (bc:=runB defs bdefs (c+8)) (x:=.retB Tj) (y:=.lift .skip) (b:=To) (pF FH "mount" BD [So Az,So 'ò'.d] 1 rfl);rw[if_pos rfl,U]at this;simp only[exO,clT]at this;rw[this];rfl
  have F:∀{H:Kn}{g l:Am}{d:D},exO To BD IM (.retB Tj) [So Az,So 'ò'.d]=.ok CP [So (ob a H g l),So 'ò'.d]->runB defs bdefs (c+9) 5 Az ['ò'.d]=.ok d (ob a H g l):=fun{H g l d}U=>by rw[TR];exact a_rt (e:=[So 'ò'.d]) (L U)
  have v:∀{W:Str}{d:D},runB defs bdefs (c+8) 4 Az KO=.ex W Az->clT.contains W=To->runD defs (c+8) 34 [.exc W]=.ok d->runB defs bdefs (c+9) 5 Az ['ò'.d]=.ok d Az:=λZ G Y=>
   F (JkU (O:=[So Az,So 'ò'.d]) (i:=0) (J:=KO) rfl rfl M Z G Y)
  cases q:look n A with
  |none=>rw[q]at j;exact⟨A,dn,un,by rw[eV q];exact v j Ab (iW _),s,h,yA _,λm=>by rw[eV q]⟩
  |some t=>
   rw[q]at j;cases E:look o A with
   |none=>rw[E]at j;exact⟨A,dn,un,by rw[lU q E];exact v j Ab (iW _),s,h,yA _,λm=>by rw[lU q E]⟩
   |some u=>
    rw[E]at j;cases z:okM hs t u with
    |false=>simp only[z,Zo,ZN]at j;exact⟨A,dn,un,by rw[iU q E z];exact v j Ab (JoJ _),s,h,yA _,λm=>by rw[iU q E z]⟩
    |true=>simp only[z,if_true]at j;refine⟨put n Eh A,dn++[stp Lp n CJ (optT (So Eh))],[],?_,jQ s f.1 (mX f.2.2.1 (s.tb n t q) (s.tb o u E) z) (λm=>look_put n m _ A) (Jjd _ _ A s.nd),zU h G _ _ _ _,P,λm=>by rw[kU q E z,look_put,qQ]⟩;rw[kU q E z,q];exact F (o_told (O:=[So Az,So 'ò'.d]) (i:=0) (J:=KO) rfl rfl M j)
def srt (A:Kn):Kn:='ź'.map λn=>(n,'š'.getD [])
def Jub(h:'Ϸ'.Nodup)(b:A.length<60)(c:Nat):runD defs Bb 40 Md=.ok (.lst ('ź'.map .str)):=by have f:runD defs Bb 40 Md=Jf (exD Ub oR [So Az]):=rfl;rw[f,oR,eA];exact JE _ _ (x:=.dct Fo Fo SF Ei) rfl (Jql Fo A h b)
def Jwe(h:'Ϸ'.Nodup)(b:A.length<60)(c:Nat)(hi:e[i]? =So (So Az)):evD Hc (.call 40 (.cons (.un F7 Cv) .nil)) e=.ok (.lst ('ź'.map .str)):=
 Jj _ _ (JE _ _ (by rw[gE,hi]) rR) (Jub h b c)
def gR(A:Kn):kys FG=Jn CL:=by simp[kys,srt,Zu,wA]
def vI(A:Kn)(h:'Ϸ'.Nodup):'ź'.length=A.length:=by rw[gY _ h];simp[kys]
def gJ{n:Str}(h:n∈Jn CL):look n A=So ('š'.getD []):=by
 rw[Ju,<-look_mem]at h;cases q:look n A with
 |none=>rw[q]at h;cases h
 |some t=>rfl
theorem JuS(f:Br)(j:A.length<60)(c:Nat):runD defs (c+4) 37 Md=.ok K7:=by
 have hs:=vI A f.nd;rw[JfN,Jbb,eA];refine JE _ _ (x:=.lst ('ƹ'.map λp=>.tup [.str p.1,tD p.2])) ?_ (Jqr _ (by rw[gR];exact yM _ (Jz _)) (by simp only[srt,Zj];lia));rw[srt,Zu];have b:evD (runD defs (c+3)) RN [So Az]=.ok (.lst ('ź'.map .str)):=by rw[rG,Jwe f.nd j (c+2) (i:=0) (a:=a) (dn:=dn) (un:=un) rfl];rfl
 refine mD _ _ Yn (λn=>.tup [.str n,tD ('š'.getD [])]) b Ad λn h=>?_;have g:=table_of (a:=a) (A:=A) (dn:=dn) (un:=un) (f.nm n ((Ju _ _).mp h)) c;rw[gJ h]at g;exact eB _ _ (J:=[.str n,tD ('š'.getD [])]) (Ji _ _ rfl (Ji _ _ (JA _ _ (J:=MV) (Ji _ _ My Mx) g) rfl)) Af
def Jwg:∀C:Kn,(vsD C).all Jy=To
 |[]=>rfl
 |p::C=>by
  have b:=Jwg C
  unfold vsD at b⊢
  rw[Zl,pC,b,Bool.and_true]
  exact ZH (ZA (fX p.2) A9)
def Jqk(B:Kn):∀C:Kn,(∀p∈C,look p.1 B=So p.2)->iG (ksD B) (vsD B) (ksD C) (vsD C)=To
 |[],_=>rfl
 |p::C,h=>by
  have f:=Jqk B C λq g=>h q Qc4
  have b:=mV p.1 B
  rw[h p 'k']at b
  have e:=jL (tD p.2) (ZA (fX p.2) A9)
  unfold ksD vsD at f b⊢
  simp only[Zl,iG,b,wF,e,f,Bool.and_self]
def Jvo(l:Br)(hB:KOk B)(h:∀m,look m A=look m B):op2 .dNe K7 AQ=.ok CO:=by
 have g:(ksD FG).length=(ksD B).length:=by simp only[ksD,srt,Zj];rw[gW h,vI B hB.nd]
 have j:=Jqk B FG λp b=>by unfold srt at b;rw[Zy]at b;obtain⟨n,f,rfl⟩:=b;rw[<-h];exact gJ f
 have e:op2 .dNe K7 AQ=dNeD K7 AQ:=rfl;rw[e];simp only[knD,dNeD,Jwg,Bool.and_self,if_true,g,j,ZD,Bool.not_true]
def JkD(c:Nat)(l:Aq):Js c l≠[]:=by
 cases l with
 |nil=>simp[Js]
 |cons x l=>
  unfold Js;split
  ·simp
  ·cases Js c l<;>simp[oP]
def Jdm(c:Nat):∀l:List Nat,Jo [c] (Js c l)=l
 |[]=>rfl
 |x::l=>by
  have b:=Jdm c l
  have f:=JkD c l
  unfold Js
  cases h:Js c l with
  |nil=>exact absurd h f
  |cons p r=>
   rw[h]at b
   split
   ·rename_i e
    subst e
    show[]++([x]++Jo [x] (p::r))=x::l
    rw[b];rfl
   ·cases r with
    |nil=>
     have:p=l:=b
     subst this
     rfl
    |cons q r=>
     show(x::p)++([c]++Jo [c] (q::r))=x::l
     rw[<-b];rfl
def JpO{c:Nat}:∀{l:Aq},c∈l->∃a b,cutL c l=(a,So b)/\l=a++c::b
 |[],h=>by cases h
 |x::l,h=>by
  unfold cutL
  by_cases e:x=c
  ·rw[if_pos e];exact⟨[],l,rfl,by simp[e]⟩
  ·rw[if_neg e]
   obtain⟨a,b,f,g⟩:=JpO (l:=l) (by simpa[Ne.symm e]using h)
   exact⟨x::a,b,by rw[f],by rw[g];rfl⟩
def qL(x:Str):mkS Xu=x:=rfl
def Jkr(l:Aq):'ϴ'.cps.toList=l:=rfl
def JG(x:Str):x.cps.toList.length=x.length:=ZT
def len_mk(l:Aq):'ϴ'.length=l.length:=rfl
def rdP (l:Aq):Part:=match l with
 |58::r=>.any (mkS r)
 |35::r=>.number (mkS r)
 |42::r=>.rest (mkS r)
 |l=>if 61∈l then .one (mkS (cutL 61 l).1) ((Js 124 ((cutL 61 l).2.getD [])).map mkS)else .word SG
def txP:Part->List Nat
 |.word x=>Xu
 |.one n b=>X7++(61::Jo [124] (b.map (·.cps.toList)))
 |.any n=>58::n.cps.toList
 |.number n=>35::n.cps.toList
 |.rest n=>42::n.cps.toList
def fY(l:Aq)(h1:l.head? ≠So 58)(b:l.head? ≠So 35)(f:l.head? ≠So 42):rdP l=if 61∈l then .one (mkS (cutL 61 l).1) ((Js 124 ((cutL 61 l).2.getD [])).map mkS)else .word SG:=by
 unfold rdP;split
 ·simp at h1
 ·simp at b
 ·simp at f
 ·rfl
def nV(ls:Ds):'ǉ'.map (·.cps.toList)=ls:=by rw[Zu];exact(fG λl _=>rfl).trans (List.map_id ls)
def s58:oS ":"=mkS [58]:=by decide+kernel
def s35:oS "#"=mkS [35]:=by decide+kernel
def s42:oS "*"=mkS [42]:=by decide+kernel
def s61:oS "="=mkS [61]:=by decide+kernel
def s124:oS "|"=mkS [124]:=by decide+kernel
def s47:oS "/"=mkS [47]:=by decide+kernel
def Jvj(a b:Aq):mkS a++mkS b=mkS (a++b):=Str.ext' (by rw[Str.cps_append];simp[mkS])
def zA(a b:Aq)(h:a.length+b.length<=40000):op2 .add (.str Qaw) (.str (mkS b))=.ok (.str (mkS (a++b))):=by rw[<-Jvj];exact if_pos (show a.length+b.length<=lD from ZA h A9)
def Jrz(s:Nat)(ls:Ds)(h:'ϙ'.length<=20000):op2 .joinS EY (.lst FY)=.ok Qap:=by
 have e:JF FY=So W2:=by have:=JI W2;rwa[Zu]at this
 simp only[op2,e,nV];exact if_pos ⟨by show 1<=1000;decide,h⟩
def Jrx(s:Nat)(ls:Ds)(h:'ϙ'.length<=20000):op2 .joinS EY (.tup FY)=.ok Qap:=by
 have e:JF FY=So W2:=by have:=JI W2;rwa[Zu]at this
 simp only[op2,e,nV];exact if_pos ⟨by show 1<=1000;decide,h⟩
def sY(l:Aq)(s:Nat)(h:l.length<=20000):op2 .splitS Eg EY=.ok (.lst ((Js s l).map λp=>.str QaC)):=if_pos ⟨h,rfl⟩
def mL(l:Aq)(s:Nat):op2 .strt Eg EY=.ok (.bl (decide (l.head? =So s))):=by
 show Rs.ok (D.bl (decide (0+1<=Xv)&&(l.toArray.extract 0 (0+1)==#[s])))=_;cases l with
 |nil=>rfl
 |cons x l=>
  have e:((x::l).toArray.extract 0 (0+1))=#[x]:=by simp
  rw[e];by_cases h:x=s<;>simp[h]
def JtQ(l:Aq)(s:Nat):op2 .isin EY Eg=.ok (.bl (decide (s∈l))):=if_pos rfl
def Jma(U:Ae)(O:Fm)(i:Nat)(l:Aq)(h:O[i]? =So (So Eg))(f:l.length<=20000):evD U (.sl Cv QdR Da) O=.ok (.str G8):=by
 have b:cutD l (So 1) No=l.drop 1:=by
  cases l with
  |nil=>rfl
  |cons x l=>rw[cut1];rfl
 simp only[e_sl,gE,h,Rs.bo,e_un,Jwd,o_asI,JmN,JlD,Jkr,b];exact if_pos f
def sgB:Sx:=VJ
def sgD:List D:=K2
def jX(U:Ae)(l:Aq)(f:l.length<=20000)(k:D)(s:Nat)(b:Bm):exD U sgB SV=if l.head? =So s then .ok (.rt (.tup [k,.str G8]),SV)else .ok (.nx,SV):=by
 rw[sgB,tK,iA _ _ (Jk _ _ rfl rfl (mL l s))];by_cases h:l.head? =So s
 ·rw[if_pos h,ZH h];show exD U (.ret _) _=_;rw[qK,eB _ _ (J:=[k,.str G8]) (Ji _ _ rfl (Ji _ _ (Jma U _ 0 l rfl f) rfl)) 'k'];rfl
 ·rw[if_neg h,Zx h];rfl
def Jso(U:Ae)(l:Aq)(o:l.length<=20000):∃h j,forL [1,2] 2 Lo sgD QcO=.ok (if l.head? =So 58 then(.rt (Part.any G8).d,Mi)else if l.head? =So 35 then(.rt (Part.number G8).d,Mi)else if l.head? =So 42 then(.rt (Part.rest G8).d,Mi)else(.nx,Mi)):=by
 have f:∀(k s:D)(J:Am)(q v:Bm),forL [1,2] 2 Lo (.tup [k,s]::J) [So Eg,q,v,No]=(exD U sgB [So Eg,So k,So s,No]).bind λr=>match r with
  |(.nx,env2)=>forL [1,2] 2 Lo J env2
  |(.ct,env2)=>forL [1,2] 2 Lo J env2
  |(.bk,env2)=>.ok GK
  |(.rt d,env2)=>.ok LA:=λk s J q v=>rfl
 unfold sgD;rw[s58,s35,s42,f,jX U l o];by_cases b:l.head? =So 58
 ·exact⟨_,_,by rw[if_pos b,if_pos b];rfl⟩
 rw[if_neg b];simp only[Rs.bo];rw[f,jX U l o];by_cases g:l.head? =So 35
 ·exact⟨_,_,by rw[if_pos g,if_neg b,if_pos g];rfl⟩
 rw[if_neg g];simp only[Rs.bo];rw[f,jX U l o];by_cases m:l.head? =So 42
 ·exact⟨_,_,by rw[if_pos m,if_neg b,if_neg g,if_pos m];rfl⟩
 rw[if_neg m];exact⟨_,_,by rw[if_neg b,if_neg g,if_neg m];rfl⟩
noncomputable def rdT:Sx:=(.seq (.ite OV (.seq U8
  (.ret (.tup (.cons Nl (.cons Qbh (.cons (.un .tuple (.bi .splitS Qbi (.con (.str (oS "|"))))) .nil)))))) .skip)
  UK)
def Jtj:JbG=.seq (.loop Fo [1,2] 2 Vx sgB) rdT:=rfl
theorem JsB(U:Ae)(l:Aq)(x:l.length<=19000)(m q:Bm)(h1:l.head? ≠So 58)(s:l.head? ≠So 35)(v:l.head? ≠So 42):Jf (exD U rdT [So Eg,m,q,No])=.ok (rdP l).d:=by
 rw[fY l h1 s v,rdT,s61,s124];by_cases h:61∈l
 ·rw[if_pos h];obtain⟨a,b,g,j⟩:=JpO h;have f:=lA YN j;rw[Zm,Zi]at f;have o:op2 .partS Eg (.str cR)=.ok (.tup [.str Qaw,.str cR,.str (mkS b)]):=by have:op2 .partS Eg (.str cR)=.ok (gF l 61):=if_pos ⟨show l.length<=20000 by lia,rfl⟩;rw[this,gF,g]
  rw[sA,n_if _ _ (b:=To) _ _ (by rw[Jk _ _ rfl rfl (JtQ l 61),ZH h]),if_pos rfl,wH _ _ _ (Jk _ _ rfl rfl o)];simp only[List.set];rw[qK,eB _ _ (J:=[.str (S "one"),.str Qaw,.tup ((Js 124 b).map λp=>.str QaC)]) (Ji _ _ rfl (Ji _ _ rfl (Ji _ _ (JE _ _ (Jk _ _ rfl rfl (sY b 124 Ad)) rfl) rfl))) 'k'];rw[g];simp only[Rs.bo,Juh,Part.d,Option.getD_some,Zu];rfl
 ·rw[if_neg h,sA,n_if _ _ (b:=Fo) _ _ (by rw[Jk _ _ rfl rfl (JtQ l 61),Zx h]),if_neg 'E'];rfl
def read_part(l:Aq)(j:l.length<=19000)(c:Nat):runD defs Bb 19 Qdm=.ok (rdP l).d:=by
 obtain⟨h,m,e⟩:=Jso Ub l Ad;rw[Jhf,Jtj,sA,hV];show Jf (((forL [1,2] 2 (exD Ub sgB) sgD QcO)).bind _)=_;rw[e];by_cases f:l.head? =So 58
 ·rw[if_pos f];cases l with
  |nil=>cases f
  |cons x r=>cases f;rfl
 rw[if_neg f];by_cases g:l.head? =So 35
 ·rw[if_pos g];cases l with
  |nil=>cases g
  |cons x r=>cases g;rfl
 rw[if_neg g];by_cases b:l.head? =So 42
 ·rw[if_pos b];cases l with
  |nil=>cases b
  |cons x r=>cases b;rfl
 rw[if_neg b];exact JsB Ub l j h m f g b
theorem pR(s:Aq):∀(ls:Ds)(l:Aq),l∈ls->Xv<=(Jo s ls).length
 |[],l,h=>by cases h
 |[x],l,h=>by rw[kC.mp h];exact Zf _
 |x::y::r,l,h=>by
  rcases Zg.mp h with rfl|h
  ·simp[Jo]
  ·have:=pR s (y::r) l h
   simp only[Jo,Zm];lia
noncomputable def wrB:Sx:=YQ
noncomputable def wrT:Sx:=(.seq (.ite RV (.ret (.bi .add Qbg (.bi .joinS (.con (.str (oS "|"))) RU))) .skip)
  (.ret DE))
def wr_eq:JaC=.seq (.loop Fo [1,2] 2 Vx wrB) wrT:=rfl
theorem nF(U:Ae)(p:Part)(f:p.name.length<=20000)(k:Str)(s:Nat):exD U wrB Nj=if p.kind==k then .ok (.rt (.str (mkS (s::p.name.cps.toList))),Nj)else .ok (.nx,Nj):=by
 have b:evD U Rv Nj=.ok (.bl (p.kind==k)):=by refine Jk _ _ (x:=.str p.kind) ?_ rfl (wW _ _);cases p<;>rfl
 rw[wrB,tK,b];cases p.kind==k with
 |true=>show exD U (.ret _) _=_;rw[if_pos rfl,qK,Jk _ _ (x:=.str (mkS [s])) (y:=.str (mkS p.name.cps.toList)) rfl (Jvs p _ _ 0 rfl) (zA [s] _ (by rw[JG];simp;lia))];rfl
 |false=>rfl
theorem written_part(p:Part)(h:'Գ'.length<=20000)(c:Nat):runD defs Bb 15 [p.d]=.ok (.str (mkS Xc)):=by
 have b:p.name.length<=20000:=by cases p<;>simp only[txP,Part.name,Zi,Zm,JG]at h⊢<;>lia
 have f:∀(k s:D)(J:Am)(g l:Bm),forL [1,2] 2 Mf (.tup [k,s]::J) [So p.d,g,l]=(exD Ub wrB [So p.d,So k,So s]).bind λr=>match r with
  |(.nx,env2)=>forL [1,2] 2 Mf J env2
  |(.ct,env2)=>forL [1,2] 2 Mf J env2
  |(.bk,env2)=>.ok GK
  |(.rt d,env2)=>.ok LA:=λk s J g l=>rfl
 rw[Jeg,wr_eq,sA,hV];show Jf ((forL [1,2] 2 Mf sgD [So p.d,No,No]).bind _)=_;unfold sgD;rw[s58,s35,s42,f,nF _ p b];cases p with
 |any n=>rfl
 |number n=>rw[if_neg (by simp[Part.kind])];simp only[Rs.bo];rw[f,nF _ _ b];rfl
 |rest n=>rw[if_neg (by simp[Part.kind])];simp only[Rs.bo];rw[f,nF _ _ b,if_neg (by simp[Part.kind])];simp only[Rs.bo];rw[f,nF _ _ b];rfl
 |word n=>rw[if_neg (by simp[Part.kind])];simp only[Rs.bo];rw[f,nF _ _ b,if_neg (by simp[Part.kind])];simp only[Rs.bo];rw[f,nF _ _ b,if_neg (by simp[Part.kind])];rfl
 |one n ws=>rw[if_neg (by simp[Part.kind])];simp only[Rs.bo];rw[f,nF _ _ b,if_neg (by simp[Part.kind])];simp only[Rs.bo];rw[f,nF _ _ b,if_neg (by simp[Part.kind])];show Jf (exD Ub wrT [So (Part.one n ws).d,So F6,So (.str (mkS [42]))])=_;rw[wrT,uI _ _ (p:=To) _ _ rfl,if_pos rfl,s61,s124];simp only[txP,Zm,Zi,JG]at h;have j:=Jrx 124 (ws.map (·.cps.toList)) Ad;rw[Zu]at j;refine Jk _ _ (Jk _ _ (x:=.str NV) rfl rfl (zA _ _ (by rw[JG];simp;lia))) (Jk _ _ rfl (y:=.tup Du) rfl j) ?_;rw[zA _ _ (by rw[Zm,JG];simp;lia)];simp[txP]
def Joc(ls:Ds)(h:(Jo [47] ls).length<=20000)(c:Nat):runD defs Bb 16 [.lst FY]=.ok (.str (mkS (47::Jo [47] ls))):=by rw[Jei,Jaz,eA,s47];exact Jk _ _ rfl (Jk _ _ rfl rfl (Jrz 47 ls h)) (zA [47] _ Gj)
def txt (ps:Bt):List Nat:=47::Jo [47] 'ͳ'
theorem written(ps:Bt)(b:Aw<=20000)(h:'Ѣ'.length<=20000)(c:Nat):runD defs (c+2) 17 Lj=.ok Qb2:=by
 have h:(Jo [47] 'ͳ').length<=20000:=by simp only[txt,Zi]at h;lia
 rw[JkW,vY,eA];have:=Joc 'ͳ' h c;rw[Zu]at this;refine Jj _ _ (jM _ _ X6 Qu (rs:=ps) rfl b λp f=>Jj _ _ rfl (written_part p (ZA (pR _ _ _ (eF f)) h) c)) this
def btw (l:Aq):Option (List CV):=if l.head? =So 47 then So (if l=[47]then[]else Js 47 (l.drop 1))else No
def JnO{l:Aq}(h:btw l=So ls):47::Jo [47] ls=l:=by
 unfold btw at h;split at h
 ·rename_i b;cases l with
  |nil=>cases b
  |cons x r=>
   cases b;cases h;split
   ·rename_i e;cases e;rfl
   ·show 47::Jo [47] (Js 47 r)=_;rw[Jdm]
 ·cases h
theorem Jsp{l:Aq}(h:btw l=So ls):BF<=Xv/\∀p∈ls,p.length<=l.length:=by
 have b:=JnO h;refine⟨?_,λp f=>?_⟩
 ·unfold btw at h;split at h
  ·cases h;split
   ·simp
   ·have:=Rd.pZ 47 (l.drop 1);rename_i g _;cases l with
    |nil=>cases g
    |cons x r=>simpa using this
  ·cases h
 ·have:=pR [47] ls p f;rw[<-b,Zi];lia
theorem Jrq(l:Aq)(f:l.length<=20000)(c:Nat):runD defs Bb 18 Qdm=match btw l with
  |some ls=>.ok Vm
  |none=>.ex HN:=by
 rw[Jcr,JR,s47];unfold btw;by_cases h:l.head? =So 47
 ·rw[if_pos h,jI _ _ _ (env2:=[So Eg]) (by
   rw[n_if _ _ (b:=Fo) _ _ (JL _ _ (p:=To) (iA _ _ (by rw[Jk _ _ rfl rfl (mL l 47),ZH h])))];rfl),eA]
  have g:op2 .eq Eg (.str (mkS [47]))=.ok (.bl (decide (l=[47]))):=by
   rw[wW];congr 2;by_cases e:l=[47]
   ·simp[e]
   ·rw[Zx e,Zw];exactλz=>e (by have:=lA (·.cps.toList) z;exact this)
  rw[e_if _ _ (Jk _ _ rfl rfl g)];by_cases e:l=[47]
  ·simp[e]
  ·rw[Zx e,if_neg 'E',if_neg e]
   exact Jk _ _ (Jma _ _ 0 l rfl f) rfl (sY _ 47 (by rw[iN];lia))
 ·rw[if_neg h,sA,n_if _ _ (b:=To) _ _ (JL _ _ (p:=Fo) (iA _ _ (by rw[Jk _ _ rfl rfl (mL l 47),Zx h])))];rfl
theorem JmV(ps:Bt)(f:∀c,runD defs (c+6) 10 Lj=.ok Cw)(g:btw Xe=So 'ͳ')(j:∀p∈ps,rdP Xc=p)(o:'Ѣ'.length<=19000)(c:Nat):runD defs (c+7) 20 [.str (mkS Xe)]=.ok FA:=by
 have h:=Jrq Xe Ad (c+5);rw[g]at h;obtain⟨l,m⟩:=Jsp g;rw[Zj]at l;rw[Jtw,sV,nB _ _ (d:=.tup EZ) _ (by
  refine JE _ _ (jM _ _ Qu X6 (rs:=ps) (by rw[rG,Jj _ _ rfl h];show Rs.ok (D.lst ('ͳ'.map _))=_;rw[Zu];rfl) Ad λp f=>?_) rfl;have:=read_part Xc (by have:=m _ (eF f);lia) (c+5);rw[j p f]at this;exact Jj _ _ rfl this)]
 simp only[List.set];rw[jI _ _ _ (env2:=[So Qb2,So FA]) (by
  rw[n_if _ _ (b:=Fo) _ _ (JL _ _ (p:=To) (iA _ _ (Jj _ _ rfl (f c))))];rfl),eA]
 rfl
def Jpp(ls:Ds)(f:∀l∈ls,l≠[])(h:∀l∈ls,47∉l):btw (47::Jo [47] ls)=So ls:=by
 unfold btw;rw[if_pos (show(47::Jo [47] ls).head? =So 47 from rfl)];congr 1;cases ls with
 |nil=>rfl
 |cons l ls=>
  have b:Jo [47] (l::ls)≠[]:=λz=>by have:=pR [47] (l::ls) l Af;rw[z]at this;exact f l Af (qS.mp (Nat.le_zero.mp this))
  rw[if_neg (by simpa using b)];exact Rd.JS Af h
theorem wX{n:Nat}(s:Nat):∀ls:List CV,(∀l∈ls,Xv<=n)->'ϙ'.length<=BF*(n+1)
 |[],_=>by simp[Jo]
 |[x],h=>by have:=h x Af;simp only[Jo,sE];lia
 |x::y::r,h=>by
  have f:=wX s (y::r) λl b=>h l aR
  have g:=h x Af
  have e:(x::y::r).length*(n+1)=(y::r).length*(n+1)+(n+1):=Nat.succ_mul _ _
  rw[e]
  simp only[Jo,Zm,sE]
  lia
def lY{s x:Nat}:∀{ls:Ds},x∈Jo [s] ls->x=s\/∃l∈ls,x∈l
 |[],h=>by cases h
 |[y],h=>.inr ⟨y,by simp,h⟩
 |y::z::r,h=>by
  simp only[Jo,ZI,kC]at h
  rcases h with h|h|h
  ·exact .inr ⟨y,by simp,h⟩
  ·exact .inl h
  ·rcases lY h with h|⟨l,b,f⟩
   ·exact .inl h
   ·exact .inr ⟨l,Zq _ b,f⟩
def lW{c:Nat}(b:Aq):∀{a:Aq},c∉a->cutL c (a++c::b)=(a,So b)
 |[],_=>by simp[cutL]
 |x::a,h=>by
  have g:x≠c:=λe=>h (by simp[e])
  have f:=lW (c:=c) b (a:=a) λz=>h (Zq _ z)
  rw[jB,cutL,if_neg g,f]
def s0:oS ""=mkS []:=by decide+kernel
def JuB(U:Ae)(O:Fm){lo hi:Px}{l:Aq}{a b:D}{m j:BA}(h:O[i]? =So (So Eg))(s:l.length<=20000)(q:evD U lo O=.ok a)(g:a.bound=.ok m)(o:evD U hi O=.ok b)(f:b.bound=.ok j):evD U (.sl Cv lo hi) O=.ok (.str (mkS (cutD l m j))):=by simp only[e_sl,gE,h,Rs.bo,q,g,o,f,Jkr];exact if_pos s
def s32:oS " "=mkS [32]:=by decide+kernel
def s10:oS "\n"=mkS [10]:=by decide+kernel
def Jw (r:Row):List Nat:=r.l.cps.toList++32::txt r.ps
def JpB(l:Aq)(s:Nat):op2 .ends Eg EY=.ok (.bl (decide (l.getLast? =So s))):=by
 show Rs.ok (D.bl (decide (0+1<=Xv)&&(l.toArray.extract (l.length-1) (l.length-1+1)==#[s])))=_;rcases List.eq_nil_or_concat l with rfl|⟨b,x,rfl⟩
 ·rfl
 ·rw[List.concat_eq_append];have e:((b++[x]).toArray.extract ((b++[x]).length-1) ((b++[x]).length-1+1))=#[x]:=by simp
  rw[e];by_cases h:x=s<;>simp[h]
def lnO (l:Aq):Option (List CV):=if l=[]then So []else if l.getLast? =So 10 then So (Js 10 l.dropLast)else No
def mk_eq(x y:Aq):op2 .eq Qcx Qcy=.ok (.bl (decide (x=y))):=by
 rw[wW];congr 2;by_cases e:x=y
 ·simp[e]
 ·rw[Zx e,Zw];exactλz=>e (by have:=lA (·.cps.toList) z;exact this)
theorem lines_of(l:Aq)(g:l.length<=20000)(c:Nat):runD defs Bb 23 Qdm=match lnO l with
  |some ls=>.ok Vm
  |none=>.ex HN:=by
 rw[Jjw,qZ,s10,s0,uI _ _ _ _ (Jk _ _ rfl rfl (mk_eq l []))];unfold lnO;by_cases f:l=[]
 ·rw[if_pos f,ZH f,if_pos rfl];rfl
 ·rw[if_neg f,Zx f,if_neg 'E'];by_cases h:l.getLast? =So 10
  ·rw[if_pos h,jI _ _ _ (env2:=[So Eg]) (by
    rw[n_if _ _ (b:=Fo) _ _ (JL _ _ (p:=To) (iA _ _ (by rw[Jk _ _ rfl rfl (JpB l 10),ZH h])))];rfl),eA]
   exact Jk _ _ (by
    rw[JuB 'ŕ' [So Eg] (i:=0) (l:=l) rfl g rfl rfl (JE _ _ (JE _ _ rfl rfl) rfl) rfl];show Rs.ok (D.str (mkS (cutD l No (So (-1)))))=_;rw[Jjo]) rfl (sY _ 10 (by rw[List.length_dropLast];lia))
  ·rw[if_neg h,sA,n_if _ _ (b:=To) _ _ (JL _ _ (p:=Fo) (iA _ _ (by rw[Jk _ _ rfl rfl (JpB l 10),Zx h])))];rfl
def eZ(s:Nat):∀ls:List CV,ls≠[]->Jo [s] ls++[s]=ls.flatMap (·++[s])
 |[],h=>absurd rfl h
 |[x],_=>by simp[Jo]
 |x::y::r,_=>by
  have b:=eZ s (y::r) Af
  rw[yF,<-b]
  simp[Jo]
theorem Jow:∀x∈ls,Xo+1<=(ls.flatMap (·++[10])).length:=by
 induction ls with
 |nil=>intro x h;cases h
 |cons y r b=>
  intro x h;rw[yF,Zm,Zm,sE];rcases Zg.mp h with rfl|h
  ·lia
  ·have:=b x h;lia
def tabT (rows:AZ):List Nat:=(rows.map Jw).flatMap (·++[10])
def fZ:∀ls:List CV,Jo [] ls=ls.flatten
 |[]=>rfl
 |[x]=>by simp[Jo]
 |x::y::r=>by
  have b:=fZ (y::r)
  show x++([]++Jo [] (y::r))=_
  rw[b];simp
theorem written_row(r:Row)(b:r.ps.length<=20000)(h:(Jw r).length<=19999)(c:Nat):runD defs (c+3) 21 [r.d]=.ok (.str (mkS GM)):=by simp only[Jw,Zm,Zi,JG]at h;have f:=written r.ps b Ad c;rw[JeQ,JaO,eA,s32,s10,Jk _ _ (Jk _ _ (Jk _ _ (x:=.str (mkS r.l.cps.toList)) MJ rfl (zA _ _ (by rw[JG];simp;lia))) (Jj _ _ MI f) (zA _ _ (by simp only[Zm,sE,JG];lia))) rfl (zA _ _ (by simp only[Zm,sE,JG];lia))];simp[Jw]
theorem written_table(rows:AZ)(j:Bz<=20000)(g:∀r∈rows,YO<=20000)(h:'Ϛ'.length<=19999)(c:Nat):runD defs (c+4) 22 [.tup Hn]=.ok Qaq:=by
 have l:op2 .joinS Qa1 (.lst U5)=.ok Qaq:=by
  have e:JF U5=So 'ɼ':=by have:=JI 'ɼ';rwa[Zu]at this
  have f:Jo 'ɾ'.cps.toList ('ɼ'.map (·.cps.toList))=tabT rows:=by show Jo [] _=_;rw[fZ,Zu,tabT,List.flatMap_def,Zu];rfl
  simp only[op2,e,f];exact if_pos ⟨by show 0<=1000;decide,by lia⟩
 rw[JdO,Jai,eA,s0];exact Jk _ _ rfl (jM _ _ XM (λr=>.str (mkS GM)) (rs:=rows) rfl j λr b=>Jj _ _ rfl (written_row r (g r b) (by
  have:=Jow (ls:=rows.map Jw) (Jw r) (eF b);unfold tabT at h;lia) c)) l
noncomputable def txV (w:Str):Bool:=decide (w.cps.toList.head? ≠So 58/\w.cps.toList.head? ≠So 35/\w.cps.toList.head? ≠So 42/\61∉w.cps.toList/\47∉w.cps.toList/\124∉w.cps.toList/\w.cps.toList≠[]/\w.cps.toList.length<=4/\10∉w.cps.toList)
def w_tx:∀w∈words9,txV w=To:=by decide+kernel
def n_tx:∀w∈names9,txV w=To:=by decide+kernel
def l_tx:∀w∈names9,32∉w.cps.toList/\w.cps.toList.head? ≠So 91:=by decide+kernel
def rd_vp(p:Part)(h:p.vp):rdP Xc=p:=by
 cases p with
 |word x=>obtain⟨g,f,m,b,_⟩:=ZW (w_tx x h);rw[txP,fY _ g f m,if_neg b,qL]
 |one n o=>
  obtain⟨s,y,z,G,_⟩:=h;obtain⟨g,f,m,b,H,F,E,_⟩:=ZW (n_tx n s);have j:(txP (.one n o)).head? =n.cps.toList.head?:=by
   show(X7++_).head? =_;cases e:n.cps.toList with
   |nil=>exact absurd e E
   |cons x r=>rfl
  rw[fY _ (by rw[j];exact g) (by rw[j];exact f) (by rw[j];exact m),if_pos (by simp[txP]),txP,lW _ b];simp only[Option.getD_some];rw[Rd.JS (by simpa using z) (λl v=>by
   obtain⟨w,q,rfl⟩:=Zy.mp v;exact(ZW (w_tx w (y w q))).2.2.2.2.2.1),qL,Zu]
  congr 1;exact(fG λw _=>rfl).trans (List.map_id o)
 |any n=>rfl
 |number n=>rfl
 |rest n=>rfl
theorem jR(p:Part)(h:p.vp):txP p≠[]/\47∉txP p/\(txP p).length<=28/\10∉txP p:=by
 have one:∀(x:Nat)(n:Str),n∈names9->x≠47->x≠10->(x::n.cps.toList)≠[]/\47∉(x::n.cps.toList)/\(x::n.cps.toList).length<=28/\10∉(x::n.cps.toList):=λx n L M I=>by
  obtain⟨v,s,E,q,b,o,m,y,f⟩:=ZW (n_tx n L);refine⟨by simp,?_,by simp only[Zi];lia,?_⟩
  ·simp only[Zg,not_or];exact⟨Ne.symm M,b⟩
  ·simp only[Zg,not_or];exact⟨Ne.symm I,f⟩
 cases p with
 |word x=>obtain⟨v,s,E,q,b,o,m,y,f⟩:=ZW (w_tx x h);exact⟨m,b,by show x.cps.toList.length<=28;lia,f⟩
 |one n F=>
  obtain⟨J,H,P,N,_⟩:=h;obtain⟨v,s,E,q,b,o,m,y,f⟩:=ZW (n_tx n J);have no:∀x,x=47\/x=10->x∉Jo [124] (F.map (·.cps.toList)):=λx G z=>by
   rcases lY z with z|⟨l,j,z⟩
   ·rcases G with rfl|rfl<;>exact absurd z (by decide)
   ·obtain⟨w,g,rfl⟩:=Zy.mp j;have:=ZW Qbk;rcases G with rfl|rfl
    ·exact this.2.2.2.2.1 z
    ·exact this.2.2.2.2.2.2.2.2 z
  refine⟨by simp[txP],?_,?_,?_⟩
  ·simp only[txP,ZI,Zg,not_or];exact⟨b,by decide,no _ BB⟩
  ·have:=wX (n:=4) 124 (F.map (·.cps.toList)) λl j=>by
    obtain⟨w,g,rfl⟩:=Zy.mp j;exact(ZW Qbk).2.2.2.2.2.2.2.1
   rw[Zj]at this;simp only[txP,Zm,Zi];lia
  ·simp only[txP,ZI,Zg,not_or];exact⟨f,by decide,no _ (.inr rfl)⟩
 |any n=>exact one 58 n h A9 A9
 |number n=>exact one 35 n h A9 A9
 |rest n=>exact one 42 n h A9 A9
structure RowG(r:Row):Prop where
 l:r.l∈names9
 vp:∀p∈r.ps,p.vp
 pt:patB r.ps=To
def RowG.n(h:YA):r.ps.length<=6:=rL h.pt
theorem RowG.tlen(h:YA):(txt r.ps).length<=175:=by
 have:=wX (n:=28) 47 (r.ps.map txP) λl b=>by obtain⟨p,f,rfl⟩:=Zy.mp b;exact(jR p (h.vp p f)).2.2.1
 have:=h.n;rw[Zj]at*;simp only[txt,Zi];lia
theorem RowG.len(h:YA):(Jw r).length<=180:=by have:=h.tlen;have:=(ZW QW).2.2.2.2.2.2.2.1;simp only[Jw,Zm,Zi];lia
def RowG.t10(h:YA):10∉txt r.ps:=λz=>by
 rcases Zg.mp z with z|z
 ·revert z;decide
 ·rcases lY z with z|⟨l,b,z⟩
  ·revert z;decide
  ·obtain⟨p,f,rfl⟩:=Zy.mp b
   exact(jR p (h.vp p f)).2.2.2 z
def RowG.no10(h:YA):10∉Jw r:=λz=>by
 rcases ZI.mp z with z|z
 ·exact(ZW QW).2.2.2.2.2.2.2.2 z
 ·rcases Zg.mp z with z|z
  ·revert z;decide
  ·exact h.t10 z
def RowG.no91(h:YA):(Jw r).head? ≠So 91:=by
 have b:=(l_tx r.l h.l).2;have f:=(ZW QW).2.2.2.2.2.2.1;unfold Jw;cases e:r.l.cps.toList with
 |nil=>exact absurd e f
 |cons x g=>rw[e]at b;exact b
theorem RowG.read(h:YA)(c:Nat):runD defs (c+8) 24 [.str F2]=.ok r.d:=by
 have f:=Y1;have b:op2 .partS G6 Qar=.ok (.tup WE):=by have:op2 .partS G6 Qar=.ok (gF (Jw r) 32):=if_pos ⟨show(Jw r).length<=20000 by lia,rfl⟩;rw[this,gF,Jw,lW _ (l_tx r.l h.l).1]
 have g:runD defs (c+7) 20 [.str Qbl]=.ok (.tup QdS):=JmV r.ps (λc=>by rw[is_pattern r.ps h.vp (by have:=h.n;lia),h.pt]) (Jpp _ (λl f=>by
  obtain⟨p,b,rfl⟩:=Zy.mp f;exact(jR p cS).1) λl f=>by
  obtain⟨p,b,rfl⟩:=Zy.mp f;exact(jR p cS).2.1) (λp b=>rd_vp p cS) (by have:=h.tlen;lia) c
 rw[JjQ,sZ,s32,nB _ _ _ (Jk _ _ rfl rfl b),eA];simp only[List.set];exact eB _ _ (Ji _ _ (Jk _ _ (x:=.tup WE) (y:=.int 0) rfl rfl rfl) (Ji _ _ (Jj _ _ (x:=.str Qbl) rfl g) rfl)) Af
theorem Jlu:∀{rows:AZ},(∀r∈rows,RowG r)->'Ϛ'.length<=181*Bz
 |[],_=>by simp[tabT]
 |r::rows,h=>by
  have b:=Jlu (rows:=rows) λq f=>h q Qc5
  have:=(h r Af).len
  simp only[tabT,Zl,yF,Zm,Zi,wD]at b⊢
  lia
def Jpn{rows:AZ}(h:∀r∈rows,RowG r):lnO 'Ϛ'=So (rows.map Jw):=by
 unfold lnO;cases rows with
 |nil=>rfl
 |cons r f=>
  have e:=eZ 10 ((r::f).map Jw) Af;have b:tabT (r::f)≠[]:=by unfold tabT;rw[<-e];simp
  rw[if_neg b];unfold tabT;rw[<-e,if_pos 'k',List.dropLast_concat,Rd.JS 'k' λl g=>by
   obtain⟨q,j,rfl⟩:=Zy.mp g;exact(h q j).no10]
def TabOk.row(h:Yv):∀r∈t,RowG r:=λr b=>⟨h.lb r b,h.vp r b,h.pt r b⟩
theorem TabOk.len(h:Yv):(tabT t).length<=1448:=by have:=Jlu h.row;have:=h.ln;lia
theorem TabOk.wrt(h:Yv)(c:Nat):runD defs (c+4) 22 [tD t]=.ok (.str QV):=written_table t (by have:=h.ln;lia) (λr b=>by have:=(h.row r b).n;lia) (by have:=Y1;lia) c
theorem read_table(h:Yv)(c:Nat):runD defs (c+9) 25 [.str QV]=.ok (tD t):=by
 have g:=lines_of (tabT t) (by have:=Y1;lia) (c+7);rw[Jpn h.row]at g;have l:=h.ln;have j:∀c,runD defs (c+8) 12 [.tup Kl]=.ok Cw:=λc=>by
  rw[is_table t h.lb h.vp (λr f=>by have:=(h.row r f).n;lia) 'd'];have:tabB t=To:=by unfold tabB;rw[h.nt,ZH h.ln,ZQ.mpr λr f=>h.pt r f];rfl
  rw[this]
 rw[JgC,JaY,nB _ _ (d:=.tup Kl) _ (by
  refine JE _ _ (jM _ _ (λr=>.str F2) XM (rs:=t) (by rw[rG,Jj _ _ rfl g];show Rs.ok (D.lst ((t.map Jw).map _))=_;rw[Zu];rfl) Ad λr f=>Jj _ _ rfl ((h.row r f).read c)) rfl)]
 simp only[List.set];rw[jI _ _ _ (env2:=[So (.str QV),So (.tup Kl)]) (by
  rw[n_if _ _ (b:=Fo) _ _ (JL _ _ (p:=To) (iA _ _ (Jj _ _ rfl (j c))))];rfl),eA]
 rfl
section
variable{k v w:D}
def JgN(f:k.eqv k=To):∀{ks vs:Am},Ay=AA->(∀a∈ks,a.eqv k=Fo)->jA k (ks++[k]) (vs++[v])=So v
 |[],[],_,_=>by simp[jA,f]
 |a::ks,u::vs,hl,h=>by
  have g:=JgN f (ks:=ks) (vs:=vs) Ry λb j=>h b (Zq _ j)
  simp only[jB,jA,h a 'k',Zo,ZN,g]
def JiF(f:k.eqv k=To):∀{ks vs:Am},Ay=AA->(∀a∈ks,a.eqv k=Fo)->setD k w (ks++[k]) (vs++[v])=vs++[w]
 |[],[],_,_=>by simp[setD,f]
 |a::ks,u::vs,hl,h=>by
  have g:=JiF f (ks:=ks) (vs:=vs) Ry λb j=>h b (Zq _ j)
  simp only[jB,setD,h a 'k',Zo,ZN,g]
def JnI(b:k.eqv k=To)(f:Ay=AA)(h:∀a∈ks,a.eqv k=Fo):putD k w (ks++[k]) (vs++[v])=(ks++[k],vs++[w]):=by unfold putD;rw[JiF b f h,if_pos (by simp[b])]
def JlK(h:∀a∈ks,a.eqv k=Fo):putD k w ks vs=(ks++[k],vs++[w]):=by unfold putD;rw[if_neg];rw[fN];rintro⟨a,b,e⟩;rw[h a b]at e;cases e
end
def tbl (A:Kn) (n:Str):List Row:='š'.getD []
noncomputable def hdL (n:Str):List Nat:=91::(X7++[93])
def stL (A:Kn) (n:Str):List Nat:=91::(X7++[93,10])++tabT WY
def stx (A:Kn):List Nat:=('ź'.map (stL A)).flatten
def lns (A:Kn):List CV:='ź'.flatMap λn=>hdL n::'ǹ'.map Jw
def kD (n:Str):D:=.str 'ɷ'
def vD (A:Kn) (n:Str):D:=.str (mkS (tabT WY))
def mF(h:Br){n:Str}(b:n∈Jn CL):TabOk WY:=h.tb n _ (gJ b)
def nm_9(h:Br){n:Str}(b:n∈Jn CL):n∈nm9:=h.nm n ((Ju _ n).mp b)
def iP:∀n∈nm9,10∉n.cps.toList/\n.length<=4:=by decide+kernel
def Jlc(A:Kn):stx A=(lns A).flatMap (·++[10]):=by unfold stx lns;rw[List.flatMap_assoc,<-List.flatMap_def];congr 1;funext n;rw[yF];show stL A n=_;rw[stL,hdL,tabT];simp
def JvQ(h:Br):∀l∈lns A,10∉l:=λl b=>by
 obtain⟨n,f,b⟩:=List.mem_flatMap.mp b
 rcases Zg.mp b with rfl|b
 ·have:=(iP n (nm_9 h f)).1
  simp only[hdL,Zg,ZI,not_or]
  exact⟨by decide,this,by decide,by simp⟩
 ·obtain⟨r,g,rfl⟩:=Zy.mp b
  exact((mF h f).row r g).no10
def Jno:∀ls:List CV,(∀l∈ls,10∉l)->lnO (ls.flatMap (·++[10]))=So ls
 |[],_=>rfl
 |r::rs,h=>by
  have e:=eZ 10 (r::rs) Af
  have b:(r::rs).flatMap (·++[10])≠[]:=by rw[<-e];simp
  unfold lnO
  rw[if_neg b,<-e,if_pos 'k',List.dropLast_concat,Rd.JS 'k' h]
theorem JpH{f:Str->Nat}{b:Nat}:∀{xs:Ag},(∀x∈xs,f x<=b)->(xs.map f).sum<=Ai*b
 |[],_=>by simp
 |x::xs,h=>by
  have:=JpH (xs:=xs) λy g=>h y Qc4
  have:=h x Af
  simp only[Zl,List.sum_cons,Zi,Nat.succ_mul]at*
  lia
theorem JiG{b:Type}[DecidableEq b]:∀{xs ys:List b},xs.Nodup->(∀x∈xs,x∈ys)->Ai<=BU
 |[],_,_,_=>mB _
 |x::xs,ys,h,hs=>by
  have f:=hs x Af
  obtain⟨l,j⟩:=iB.mp h
  have m:=JiG (ys:=ys.erase x) j λy g=>(List.mem_erase_of_ne (λe:y=x=>l (e▸g))).mpr (hs y Qc4)
  rw[List.length_erase_of_mem f]at m
  have o:=List.length_pos_of_mem f
  simp only[Zi]
  lia
def KOk.len(h:Br):A.length<=4:=by have:=JiG h.nd h.nm;simpa[kys,nm9]using this
theorem JqW(b:Br){n:Str}(f:n∈Jn CL):(stL A n).length<=1460:=by have g:=(mF b f).len;have h:=(iP n (nm_9 b f)).2;simp only[stL,Zi,Zm,wD,JG];lia
theorem Jqz(f:Br):(stx A).length<=5840:=by unfold stx;rw[List.length_flatten,Zu];refine ZA (JpH (b:=1460) λn g=>JqW f g) ?_;have:=f.len;rw[vI A f.nd];lia
def s91:oS "["=mkS [91]:=by decide+kernel
def s93:oS "]\n"=mkS [93,10]:=by decide+kernel
def Jsg(ls:Ds)(h:ls.flatten.length<=20000):op2 .joinS Qa1 (.lst FY)=.ok (.str (mkS ls.flatten)):=by
 have e:JF FY=So W2:=by have:=JI W2;rwa[Zu]at this
 have b:Jo 'ɾ'.cps.toList ('ǉ'.map (·.cps.toList))=ls.flatten:=by show Jo [] _=_;rw[nV,fZ]
 simp only[op2,e,b];exact if_pos ⟨by show 0<=1000;decide,h⟩
theorem Jlt{U:Ae}(b:Br){src e:Px}(hs:evD U src O=.ok (.lst ('ź'.map .str)))(g:∀n∈Jn 'Ϸ',evD U e (So Bv::O)=.ok (.str Qb3)):
  evD U (.bi .joinS (.con Qa1) Su) O=.ok Nx:=by have f:=Jsg ('ź'.map (stL A)) (by have:=Jqz b;unfold stx at this;lia);rw[Zu]at f;have:=vI A b.nd;have:=b.len;exact Jk _ _ rfl (jM _ _ Yn (λn=>.str Qb3) hs Ad g) f
def JvP:∀n∈nm9,op1 .join (.lst [.str (oS "["),.str n,.str (oS "]\n")])=.ok (.str (mkS (91::(X7++[93,10])))):=λn h=>by
 simp only[nm9,Zg,ZC,fA]at h
 rcases h with rfl|rfl|rfl|rfl<;>rfl
theorem site_text(h:Br)(c:Nat):runD defs (c+6) 26 Md=.ok Nx:=by have g:=Y1;rw[Jia,zZ,eA,s0];refine Jlt h (by rw[rG,Jwe h.nd 'd' (c+4) rfl];rfl) λn b=>?_;have f:=table_of (a:=a) (A:=A) (dn:=dn) (un:=un) cT (c+2);rw[gJ b]at f;have:=(mF h b).len;have:=(iP n cT).2;exact Jk _ _ (JE _ _ (Ji _ _ rfl (Ji _ _ rfl Mx)) (JvP n cT)) (Jj _ _ (JA _ _ (Ji _ _ (JE _ _ (x:=ob a A dn un) rfl rR) (Ji _ _ (d:=.str n) (J:=[]) rfl rfl)) f) ((mF h b).wrt Bb)) (zA _ _ (by simp only[Zi,Zm,wD,JG];lia))
theorem JiK(h:KOk B)(c:Nat):runD defs (c+6) 38 [knD B]=.ok KM:=by
 have m:=Y1;rw[Jdo,Jap,eA,s0];refine Jlt h (by rw[rG,JE _ _ (x:=knD B) rfl (Jql To B h.nd Ad)];rfl) λn f=>?_;have:=(mF h f).len;have l:=(iP n (nm_9 h f)).2;rw[<-JG]at l;have g:evD (runD defs (c+5)) Ou [So Bv,So AQ]=.ok (.str (mkS ([91]++n.cps.toList))):=
  Jk _ _ (x:=.str (mkS [91])) (y:=.str NV) (by rw[s91];rfl) (by rw[qL];rfl) (zA [91] X7 (by simp only[Zi,wD];lia))
 have j:=Jk (runD defs (c+5)) _ g (b:=.con (.str (oS "]\n"))) (y:=.str (mkS [93,10])) (by rw[s93];rfl) (zA _ _ (by simp only[Zm,Zi,wD];lia));exact Jk _ _ j (Jj _ _ (Jk _ _ (x:=knD B) rfl rfl (lG To (gJ f))) ((mF h f).wrt Bb)) (zA _ _ (by simp only[Zm,Zi,wD];lia))
noncomputable def hB:Sx:=(.ite U7 (.seq Qcu
  Qd) VV)
noncomputable def hE (T:D) (ks vs:Am) (h:D) (y:Bm):Fm:=[So T,So NU,So h,y]
section
variable{U:Ae}{T:D}{n:Str}
def Jva{y:Bm}{h:Str}{v:D}{b:Px}(g:evD U b 'ͽ'=.ok v)(f:Ay<1000):exD U (.put Fo Fo 1 BS b) 'ͽ'=.ok (.nx,hE T (putD aS v ks vs).1 (putD aS v ks vs).2 aS y):=by
 have j:(hE T ks vs aS y)[1]? =So (So NU):=rfl;rw[x_put,j];dsimp only;rw[g,Rs.bo,show evD U 'W' 'ͽ'=.ok (.str h)from rfl,Rs.bo];have:(Fo&&!v.imm||!(Fo==Fo)||!keyD Fo (D.str h)||!decide (Ay<1000))=Fo:=by rw[ZH f];rfl
 rw[this];rfl
def JvS:(kD n).eqv (kD n)=To:=ZD _
def Jsc{d:D}(h:Ay<1000)(g:∀a∈ks,a.eqv (kD n)=Fo):exD U hB Ot=.ok (.nx,hE T Fj (vs++[.str Td]) (kD n) Kq):=by have f:evD U BK Ot=.ok (.str 'ɷ'):=rfl;rw[hB,n_if _ _ (b:=To) _ _ (iA _ _ (by rw[s91];exact Jk _ _ f rfl (mL _ 91))),if_pos rfl,wH _ _ _ f];show exD U _ (hE T ks vs (.str 'ɷ') Kq)=_;rw[Jva (v:=.str Td) (by rw[s0];rfl) h];rw[show D.str 'ɷ'=kD n from rfl,JlK g]
def JtZ(l:YA){acc:Aq}(o:acc.length<=9000)(s:Ay<999)(hs:Ay=AA)(j:∀a∈ks,a.eqv (kD n)=Fo):
  exD U hB TB=.ok (.nx,hE T Fj (vs++[.str (mkS (acc++GM))]) (kD n) (So G6)):=by
 have f:evD U BK TB=.ok G6:=rfl;rw[hB,n_if _ _ _ _ (iA _ _ (by rw[s91];exact Jk _ _ f rfl (mL _ 91))),Zx l.no91,if_neg 'E',n_if _ _ (b:=Fo) _ _ rfl,if_neg 'E'];have g:op2 E0 (.dct Fo Fo Fj Mb) (kD n)=.ok Rj:=by show(if Fo=Fo/\keyD Fo (kD n)=To then Rs.ofOpt (jA (kD n) Fj Mb)else .sk)=_;rw[if_pos 'Į',JgN JvS hs j];rfl
 have q:=l.len;have m:op2 .add Mz Rj=.ok Rj:=zA [] acc Gj;have p:=Jva (U:=U) (T:=T) (h:=mkS (hdL n)) (Jk U TB (Jk _ _ (a:=.con Mz) rfl (Jk _ _ (a:=.var 1) (b:=.var 2) rfl rfl g) m) (Jk _ _ f (b:=.con Xg) (by rw[s10];rfl) (zA (Jw r) [10] Gj)) (zA _ _ Gj)) Gj;rw[show D.str 'ɷ'=kD n from rfl,JnI JvS hs j]at p;exact p
def Jgg{f:Fm->Rs (Fw×Fm)}{l:D}{ls:Am}{b:Fm}(h:f (pA [3] [So l] e)=.ok (.nx,b)):forL [3] 0 f (l::ls) e=forL [3] 0 f ls b:=by simp only[forL,JT,if_true,Rs.bo,h]
def Jmo(rest:Am)(j:Ay<999)(hs:Ay=AA)(f:∀a∈ks,a.eqv (kD n)=Fo):∀(rows:AZ)(acc:Aq)(y:Bm),(∀r∈rows,RowG r)->acc.length+181*Bz<=9000->
  ∃b,forL [3] 0 cU ((rows.map λr=>.str F2)++rest) (hE T Fj Mb (kD n) y)=forL [3] 0 cU rest (hE T Fj (vs++[.str (mkS (acc++tabT rows))]) (kD n) b)
 |[],acc,y,_,_=>⟨y,by simp[tabT]⟩
 |r::rows,acc,y,h,ha=>by
  have g:=h r Af
  have m:=g.len
  rw[Zi]at ha
  obtain⟨b,e⟩:=Jmo rest j hs f rows (acc++GM) (So G6) (λq l=>h q (Zq _ l)) Gj
  refine⟨b,?_⟩
  rw[Zl,jB,Jgg (JtZ g Ad j hs f),e]
  simp[tabT]
def kD_ne{m:Str}(h:n≠m):(kD n).eqv (kD m)=Fo:=by show(mkS (hdL n)==mkS (hdL m))=Fo;rw[Zw];intro z;have e:hdL n=hdL m:=lA (·.cps.toList) z;simp only[hdL,lH,true_and]at e;have:=List.append_cancel_right e;exact h (by rw[<-qL n,this,qL])
def Jkt(j:Br):∀(ns:Ag){ks vs:Am}(d:D)(y:Bm),ns.Nodup->(∀n∈ns,n∈Jn CL)->(∀n∈ns,∀a∈ks,a.eqv (kD n)=Fo)->Ay+AN<900->Ay=AA->
  ∃s g,forL [3] 0 cU (ns.flatMap λn=>kD n::'ǹ'.map λr=>.str F2) (hE T ks vs d y)=.ok (.nx,hE T (ks++ns.map kD) (vs++ns.map (vD A)) s g)
 |[],ks,vs,d,y,_,_,_,_,_=>⟨d,y,by simp[forL]⟩
 |n::ns,ks,vs,d,y,nd,hs,hk,hl,hv=>by
  rw[iB]at nd
  rw[Zi]at hl
  have h:=mF j (hs n Af)
  have x:=h.ln
  have k0:=hk n Af
  obtain⟨g,v⟩:=Jmo (U:=U) (T:=T) (ns.flatMap λn=>kD n::'ǹ'.map λr=>.str F2) Ad hv k0 WY [] Kq h.row Gj
  obtain⟨o,q,l⟩:=Jkt j ns (ks:=ks++[kD n]) (vs:=vs++[vD A n]) (kD n) g nd.2 (λm f=>hs m Qc5) (λm f a b=>by
   rcases ZI.mp b with b|b
   ·exact hk m Qc5 a b
   ·rw[kC.mp b];exact kD_ne λz=>nd.1 (z▸f)) Gj Gj
  refine⟨o,q,?_⟩
  rw[yF,jB,Jgg (Jsc Ad k0),v,tN]
  rw[show D.str (mkS (tabT WY))=vD A n from rfl,l]
  simp
end
def Jpm:JU=(.seq (.ownD Fo 1) (.seq Qct (.seq (.loop Fo [3] 0 M5 hB) (.retF 1)))):=rfl
theorem tbh(h:Br)(c:Nat):runD defs (c+2) 27 Qdn=.ok (.dct Fo To ('ź'.map kD) ('ź'.map (vD A))):=by
 have f:=lines_of (stx A) (by have:=Jqz h;lia) c;rw[Jlc,Jno _ (JvQ h),<-Jlc]at f;have j:(lns A).map (λp=>D.str QaC)='ź'.flatMap λn=>kD n::'ǹ'.map λr=>.str F2:=by unfold lns;rw[List.map_flatMap];simp[kD,Zu,wA]
 have g:evD Hc M5 'Ҋ'=.ok (.lst ((lns A).map λp=>.str QaC)):=by rw[rG,Jj _ _ rfl f];rfl
 obtain⟨l,m,b⟩:=Jkt (U:=runD defs Bb) (T:=.str Hx) h 'ź' (ks:=[]) (vs:=[]) .non No QdU Kd (λ_ _ _ z=>(by cases z)) (by have:=vI A h.nd;have:=Y1;simp;lia) rfl;rw[show hE 'Ň' [] [] .non No='Ҋ' from rfl,<-j]at b;rw[JcN,Jpm];simp only[sA,Jud,List.set,Rs.bo,uT,Jwd,uB,Zo,ZN,hV,g,yI,b];rfl
def name_in:∀n∈nm9,∀c,runD defs (c+3) 28 [kD n]=.ok Bv:=λn h c=>by
 simp only[nm9,Zg,ZC,fA]at h
 rcases h with rfl|rfl|rfl|rfl<;>rfl
noncomputable def rdB:Bs:=.eff VO
def dn0:Dn [] []:=⟨rfl,by simp,rfl⟩
noncomputable abbrev R1:CallD:=runD defs 11
noncomputable abbrev Q1:CallB:=runB defs bdefs 11
def JqY{n:Str}(h:n∉kys A):put n t A=A++[(n,t)]:=by unfold put;rw[if_neg λz=>h ((look_mem n A).mp z)]
def JmT(a:Nat)(T:D)(q:Jh T=To)(h:Br):∀(ns:Ag)(B:Kn)(g f:Bm),ns.Nodup->(∀n∈ns,n∈Jn CL)->(∀n∈ns,n∉kys B)->B.length+AN<1000->
  ∃l j,forB [2,3] 2 NT LQ [So T,So (ob a B [] []),g,f]=.ok .nx [So T,So (ob a (B++ns.map λn=>(n,tbl A n)) [] []),l,j]
 |[],B,g,f,_,_,_,_=>⟨g,f,by simp[zipD,forB]⟩
 |n::ns,B,g,f,nd,hs,hn,hl=>by
  rw[iB]at nd
  rw[Zi]at hl
  have s:=hs n Af
  obtain⟨l,j,e⟩:=JmT a T q h ns (B++[(n,tbl A n)]) Kq (So (vD A n)) nd.2 (λm b=>hs m aR) (λm b z=>by
   unfold kys at z
   rw[gC,ZI]at z
   rcases z with z|z
   ·exact hn m aR z
   ·simp only[Zl,rJ,kC]at z
    exact nd.1 (z▸b)) Gj
  have o:exO Fo R1 Q1 rdB We=.ok .nx [So T,So (ob a (put n WY B) [] []),So (kD n),So (vD A n)]:=
   zH (a:=a) (ns:=nsS) rfl (Ji _ _ (Jj _ _ rfl (name_in n (nm_9 h s) 8)) (Ji _ _ (Jj _ _ rfl (read_table (mF h s) 2)) rfl)) (by simp[plE,Jh,Jc,q,oA,kD,vD]) (mY dn0 Ad 10)
  rw[JqY (hn n Af)]at o
  refine⟨l,j,?_⟩
  show(exO Fo R1 Q1 rdB We).bind _=_
  rw[o]
  show forB [2,3] 2 NT LQ _=_
  rw[e]
  simp
def Jqc{A:Kn}:∀ns:List Str,(Jc LQ&&imms LQ)=To
 |[]=>rfl
 |n::ns=>by
  have h:=Jqc (A:=A) ns
  simp only[Zd]at h
  simp only[Zl,zipD,Jc,Jh,imms,D.imm,h.1,h.2,kD,vD];rfl
def Rr (J:Am) (a:Nat):Rs D:=if Ac=1 then runR R1 Q1 nR iR nL pL J a else .sk
def qU{x y:Aq}(h:x=y):op2 .ne Qcx Qcy=.ok CO:=by subst h;exact wQ _ (by simp[D.dep])
def dW(h:Br):KOk (srt A)/\(∀n,look n FG=look n A)/\stx FG=stx A:=by
 have b:(kys FG).Nodup:=by rw[gR];exact yM _ (Jz _)
 have e:∀n,look n FG=look n A:=λn=>by
  have m:=λB=>look_mem n B;by_cases q:n∈Jn CL
  ·rw[look_of b (n,'š'.getD []) (Zy.mpr ⟨n,q,rfl⟩),<-gJ q]
  ·have f:=mt (m FG).mp (by rw[gR];exact q);have g:=mt (m A).mp λz=>q ((Ju _ n).mpr z);rw[Option.not_isSome_iff_eq_none]at f g;rw[f,g]
 refine⟨⟨b,λn j=>h.nm n ((Ju _ n).mp (by rw[<-gR];exact j)),λn t z=>h.tb n t (by rw[<-e];exact z)⟩,e,?_⟩;unfold stx;rw[gW e];congr 2;funext n;unfold stL tbl;rw[e]
theorem JuO(h:Br)(a:Nat):Rr Qdn a=.ok TX:=by
 have v:exO Fo R1 Q1 nL (Jx nR Qdn)=.ok .nx [So Nx,No,No,No]:=rfl;obtain⟨f,b,q⟩:=JmT a Nx rfl h 'ź' [] No No QdU Kd (λ_ _ z=>(by cases z)) (by have:=vI A h.nd;have:=Y1;simp;lia);have g:exO Fo R1 Q1 (.loop [2,3] 2 Tn rdB) US=.ok .nx SH:=by
  have j:evD R1 Tn US=.ok (.lst (zipD ('ź'.map kD) ('ź'.map (vD A)))):=by rw[e_un,Jj _ _ rfl (tbh h 9)];rfl
  simp only[exO,j];rw[Jqc];exact q
 obtain⟨o,_,m⟩:=dW h;have l:evD R1 NY SH=.ok CO:=Jk _ _ (Jj _ _ (x:=ob a FG [] []) rfl (site_text o 5)) rfl (qU m);have s:exO Fo R1 Q1 pL ([So Nx,No,No,No].set iR Ke)=.ok (.rt TX) SH:=
  (rA g).trans ((rA ((jE (w:=Fo) (bc:=Q1) (x:=.raise HN .nil) (y:=.lift .skip) l).trans rfl)).trans rfl)
 unfold Rr;rw[if_pos (show[D.str Hx].length=1 from rfl)];unfold runR;rw[v];dsimp only;rw[if_pos (by rfl),s]
def k0:KOk []:=⟨by simp[kys],by simp[kys],λn t h=>by cases h⟩
def plN:∀b:List Int,Jc (b.map .int)=To
 |[]=>rfl
 |n::b=>by simp only[Zl,Jc,plN b,Jh,Bool.and_self]
noncomputable abbrev R:CallD:=runD defs 12
noncomputable abbrev Q:CallB:=runB defs bdefs 12
def Jqf(B:Kn)(b:Deed):Jh (bhd B b).2=To:=by
 cases b with
 |put n t=>rfl
 |take n=>
  simp only[bhd];split
  ·rfl
  ·exact oA _
 |mount n hs o=>
  simp only[bhd];split
  ·rfl
  ·split
   ·rfl
   ·split
    ·exact oA _
    ·rfl
def Jrv(B:Kn)(b:Deed):(bhd B b).2.dep<=20:=by
 have h:∀t,(tD t).dep<=20:=λt=>ZA (fX t) A9;cases b with
 |put n t=>simp[bhd,D.dep]
 |take n=>
  simp only[bhd];split
  ·simp[noS,D.dep]
  ·exact h _
 |mount n hs o=>
  simp only[bhd];split
  ·simp[noS,D.dep]
  ·split
   ·simp[noS,D.dep]
   ·split
    ·exact h _
    ·simp[tooM,D.dep]
def JfS(h:∀n,look n A=look n B):stx A=stx B:=by unfold stx;rw[gW h];congr 2;funext n;unfold stL tbl;rw[h]
noncomputable def En (ns:AR) (st l:D) (j b f x6 x7 h g:Bm):Fm:=[So Kt,So st,So l,j,b,f,x6,x7,h,g]
structure Inv(A B:Kn)(dn un:Am)(m:Nat):Prop where
 a:KOk A
 b:KOk B
 e:∀n,look n A=look n B
 d:Dn dn un
 l:dn.length<=m
def vK{U:Ae}{p:Sx}{env1:Fm}(h:exD U p O=.ok (.nx,env1)):exO w U bc (.lift p) O=.ok .nx env1:=by simp only[exO,h,mT]
def kK(B:Kn):Jh AQ=To:=by simp[knD,Jh,iE]
theorem JgJ(ns:AR)(b:Int)(hb:0<=b)(k:Nat){m:Nat}(P:Inv A B dn un m)(hm:m<100)(a i:Nat):∃(f:Deed)(A':Kn)(h g:Am),Inv A' (bhd B f).1 h g (m+1)/\Q 5 Az [f.d]=.ok (bhd B f).2 (ob a A' h g)/\
  ∀(e:Fm)(y:Bs),e[0]? =So (So Kt)->e[3]? =So B3->e[i]? =So (So AQ)->i≠4->4<e.length->
   exO Fo R Q (.seq (.lift (.set Fo 4 VM)) (.seq (.lift (.loop Fo [i,5] 2 Wp .skip)) y)) e=exO Fo R Q y (pA [i,5] [So (knD (bhd B f).1),So (bhd B f).2] RK):=by obtain⟨f,l,hd⟩:=deed ns (b+300*(k:Int)) Ad;obtain⟨o,j,v,q,G⟩:=P;have U:=j.len;have E:=o.len;have s:=JvJ B j Ad f l 3;obtain⟨A',h,g,e1,Y,Z,e4,N⟩:=did (a:=a) q Ad Ad o l 3;obtain⟨W,X⟩:=JmZ v f;refine⟨f,A',h,g,⟨Y,JvO j l,λn=>(N n).trans (X n),Z,by lia⟩,by rw[<-W];exact e1,λe y L z H I M=>?_⟩;have x:evD R VM e=.ok f.d:=JA _ _ (J:=[ofN ns,.int (b+300*(k:Int))]) (Ji _ _ (by rw[gE,L]) (Ji _ _ (Jk _ _ rfl (Jk _ _ rfl (by rw[gE,z]) (o_mul _ _ (by rw[show smallI 300=To by decide+kernel];rfl))) (o_add _ _)) rfl)) (hd 6);have F:evD R Wp RK=.ok (.lst [.tup [knD (bhd B f).1,(bhd B f).2]]):=JpL _ _ (Ji _ _ (JA _ _ (J:=[knD B,f.d]) (Ji _ _ (by rw[gE,Zr (Ne.symm I),H]) (Ji _ _ (by rw[gE,ZU M]) rfl)) s) rfl) Af;rw[rA (vK (env1:=e.set 4 (So f.d)) (by simp only[exD,x,Rs.bo,uB,Zo,ZN])),rA (vK (env1:=pA [i,5] [So (knD (bhd B f).1),So (bhd B f).2] RK) (by simp only[exD,F,Rs.bo,D.asL,uB,Zo,ZN];rfl))]
def n_if'(h:evD R c e=.ok CO):exD R (.ite c C1 .skip) e=.ok (.nx,e):=by simp only[exD,h,Rs.bo]
noncomputable def uP:Bs->Bs
 |.loop _ _ _ b=>b
 |_=>.lift .skip
def gU(ns:AR){d1 h:D}{g b f:Bm}(h1:Jh d1=To)(j:Jh h=To)(m:plE [g,b,f]=To)(l:plE e=To):plE (So Kt::So d1::So h::g::b::f::e)=To:=by
 have q:plE (g::b::f::e)=To:=by cases g<;>cases b<;>cases f<;>simp_all [plE]
 show(Jh (ofN ns)&&(Jh d1&&(Jh h&&plE (g::b::f::e))))=To;rw[show Jh 'ɇ'=To from plN ns,h1,j,q];rfl
def JsN(k:Nat)(B:Kn)(b:Deed):plE [So Er,So b.d,So (bhd B b).2]=To:=by show(Jh (.int k)&&(Jh b.d&&(Jh (bhd B b).2&&To)))=To;rw[b.pl,Jqf];rfl
def JtO(b:Deed):Jc [b.d]=To:=by show(Jh b.d&&To)=To;rw[b.pl];rfl
theorem JtF(ns:AR)(a:Nat):∀(ks:Aq){A B:Kn}{dn un:Am}{m:Nat}(j g h:Bm),Inv A B dn un m->m+Ay<100->plE [j,g,h]=To->
  ∃G H o l E F z,forB [3] 0 (exO Fo R Q (uP gQ)) (ks.map λk:Nat=>D.int k) Vh=.ok .nx (En ns (ob a G o l) (knD H) E F z No No No No)/\Inv G H o l (m+Ay)/\plE [E,F,z]=To
 |[],A,B,dn,un,m,j,g,h,hI,_,h3=>⟨A,B,dn,un,j,g,h,rfl,hI,h3⟩
 |k::ks,A,B,dn,un,m,j,g,h,hI,hm,_=>by
  rw[Zi]at hm
  obtain⟨b,L,y,un1,x,N,hs⟩:=JgJ ns 1000 Ad k hI Ad a 2
  obtain⟨Y,J,q,s,X,z4,W,Z,v,I⟩:=JtF ns a ks B3 CA (So (bhd B b).2) x Ad bB
  refine⟨Y,J,q,s,X,z4,W,?_,by rw[Zi,show m+(Ay+1)=m+1+'ƈ' by lia];exact v,I⟩
  have P:exO Fo R Q (uP gQ) Vw=.ok .nx (En ns (ob a L y un1) (knD (bhd B b).1) B3 CA (So (bhd B b).2) No No No No):=
   (hs Vw _ rfl rfl rfl A9 (show 4<10 by decide)).trans (zH (w:=Fo) (U:=R) (bc:=Q) (r:=Fo) (f:=5) (i:=1) (p:=.cons BJ .nil) (O:=En ns Az (knD (bhd B b).1) B3 CA (So (bhd B b).2) No No No No) rfl Mx (by
    rw[JtO,Bool.and_true]
    exact gU ns (d1:=.non) rfl (kK _) bB (e:=[No,No,No,No]) rfl) N)
  have M:pA [3] [So (D.int k)] Vh=En ns Az AQ B3 g h No No No No:=rfl
  simp only[Zl,forB,JT,if_true,M,P,Rq.bind]
  exact Z
section
variable{x6 x7:D}{x3 x4 x5:Bm}
def Ea (ns:AR) (a0:Nat) (C:Kn) (x3 x4 x5:Bm) (x6 x7 st:D) (B:Kn):Fm:=En ns (.adr a0) (knD C) x3 x4 x5 (So x6) (So x7) (So st) (So AQ)
def Jvw(ns:AR)(a a0:Nat)(v:Jh x6=To)(y:Jh x7=To):∀(ks:Aq){A B:Kn}{dn un:Am}{m:Nat}(x3 x4 x5:Bm),Inv A B dn un m->m+Ay<100->
  ∃X Y s l F W z,forB [3] 0 (exO Fo R Q (uP oV)) (ks.map λk:Nat=>D.int k) U4=.ok .nx (Ea ns a0 C F W z x6 x7 (ob a X s l) Y)
 |[],A,B,dn,un,m,x3,x4,x5,hI,_=>⟨A,B,dn,un,x3,x4,x5,rfl⟩
 |k::ks,A,B,dn,un,m,x3,x4,x5,hI,hm=>by
  rw[Zi]at hm
  obtain⟨b,j,h,un1,g,I,hs⟩:=JgJ ns 5000 Ad k hI Ad a 9
  obtain⟨Z,G,o,q,P,z4,N,h2⟩:=Jvw ns a a0 v y ks B3 CA (So (bhd B b).2) g Ad
  refine⟨Z,G,o,q,P,z4,N,?_⟩
  have L:evB R Q Wg (Ea ns a0 C B3 CA (So (bhd B b).2) x6 x7 Az (bhd B b).1)=.ok CO (Ea ns a0 C B3 CA (So (bhd B b).2) x6 x7 QU (bhd B b).1):=by
   have E:=Jqp (U:=R) (bc:=Q) (r:=Fo) (f:=5) (i:=8) (p:=.cons BJ .nil) (O:=Ea ns a0 C B3 CA (So (bhd B b).2) x6 x7 Az (bhd B b).1) rfl Mx (by
    rw[JtO,Bool.and_true];refine gU ns (d1:=.adr a0) rfl (kK C) bB (e:=[So x6,So x7,No,So (knD (bhd B b).1)]) ?_;show(Jh x6&&(Jh x7&&(Jh (knD _)&&To)))=To;rw[v,y,kK];rfl) I
   rw[evB,E];simp only[Rx.bind,evB,Rx.of,Jqf,if_true];show Rx.of _ (op2 .ne (bhd B b).2 (bhd B b).2)=_;rw[wQ _ (Jrv B b)];rfl
  have J:evD R Wz (Ea ns a0 C B3 CA (So (bhd B b).2) x6 x7 QU (bhd B b).1)=.ok CO:=
   Jk _ _ (Jj _ _ (x:=ob a j h un1) rfl (site_text g.a 6)) (Jj _ _ (x:=knD (bhd B b).1) rfl (JiK g.b 6)) (qU (JfS g.e))
  have M:exO Fo R Q (uP oV) Vl=.ok .nx (Ea ns a0 C B3 CA (So (bhd B b).2) x6 x7 QU (bhd B b).1):=by
   refine(hs Vl _ rfl rfl rfl A9 (show 4<10 by decide)).trans ?_;show exO Fo R Q (.ite (.or _ _) _ _) (Ea ns a0 C B3 CA (So (bhd B b).2) x6 x7 Az (bhd B b).1)=_;rw[exO,evB,L];simp only[Rx.bind,evB,J,Rx.of,Rx.next,exO,exD,mT]
  have H:pA [3] [So (D.int k)] U4=Ea ns a0 C B3 x4 x5 x6 x7 Az B:=rfl;simp only[Zl,forB,JT,if_true,H,M,Rq.bind];exact h2
def b6_ok(ns:AR)(a o:Nat)(hB:KOk B):exO Fo R Q JpV Hm=.ok .nx Hm:=by
 obtain⟨hs,f,_⟩:=dW hB;have l:=hs.len;have g:evD R UJ Hm=.ok CO:=
  Jk _ _ (Jj _ _ (x:=ob o QaD [] []) rfl (JuS hs Ad 8)) rfl (Jvo hs hB f)
 have h:evD R WD Hm=.ok CO:=
  Jk _ _ (x:=.tup [.int 0,.int 0]) (Jj _ _ My rfl) rfl (wQ _ Ab)
 have b:evD R (.call 42 Sg) Hm=.ex (S "NoBack"):=Jj _ _ My rfl;have j:evD R Wh Hm=.ok CO:=by refine Jk _ _ (x:=.str (S "no back")) ?_ rfl (wQ _ (by simp[D.dep]));simp only[evD]at b⊢;rw[b];exact if_pos Ab
 exact vK (n_if' (mG _ _ g λ_=>mG _ _ h λ_=>j))
end
def JqB{U:Ae}{b:Bs}{env2:Fm}{p:Px}{n:Nat}(l:evD U p O=.ok QcZ)(g:n<=1000)(h:forB [3] 0 (exO Fo U bc b) ('ɮ'.map λk:Nat=>D.int k) O=.ok .nx env2):exO Fo U bc (.loop [3] 0 QZ b) O=.ok .nx env2:=by
 have j:evD U QZ O=.ok (.lst ('ɮ'.map λk:Nat=>D.int k)):=JE _ _ l (JnB n g);have m:∀ks:List Nat,(Jc (ks.map λk:Nat=>D.int k)&&imms (ks.map λk:Nat=>D.int k))=To:=λks=>by
  induction ks with
  |nil=>rfl
  |cons k ks f=>simp only[Zd]at f⊢;exact⟨by simp[Jc,Jh,f.1],by simp[imms,D.imm,f.2]⟩
 simp only[exO,j];rw[m,if_pos rfl];exact h
def Jny(ns:AR)(hl:AN<=63):RL R Q Rr (Jx 10 Qdl):=by
 refine⟨?_,knD [],rfl,rfl,λa=>?_⟩
 ·show(Jc (ns.map .int)&&To)=To;rw[plN];rfl
 have Y:Inv [] [] [] [] 0:=⟨k0,k0,λ_=>rfl,⟨rfl,by decide,rfl⟩,Zf _⟩;obtain⟨r,hr,hp⟩:=pick ns 0 11 A9 A9;obtain⟨A,B,dn,un,j,l,g,h1,f,N⟩:=JtF ns a (List.range' 0 r) No No No Y Gj rfl;have Z:=JfS f.e;refine⟨_,JqB (O:=En ns (ob a [] [] []) (knD []) No No No No No No No) (n:=r) (JA _ _ (J:=[ofN ns,.int 0,.int 11]) rfl (hp 10)) Ad h1,?_⟩;have W:evD R (.call 38 M4) Vg=.ok KM:=Jj _ _ (x:=knD B) rfl (JiK f.b 6);have P:∀H z E x6 x7 I F,evD R Sd (En ns Az AQ H z E x6 x7 I F)=.ok GT:=λ_ _ _ _ _ _ _=>Jj _ _ My rfl;have m:∀H z E x7 I F,evD R MQ (En ns Az AQ H z E Iw x7 I F)=.ok KM:=λ_ _ _ _ _ _=>(Jj _ _ (x:=ob a A dn un) rfl (site_text f.a 6)).trans (by rw[Z]);have M:exD R Wu Vg=.ok (.nx,En ns Az AQ j l g Iw QaE No No):=by rw[wH _ _ _ W];show exD R (.set Fo 7 _) (En ns Az AQ j l g Iw No No No)=_;simp only[exD,P,Rs.bo,uB,Zo,ZN];rfl
 refine⟨_,vK M,_,vK (env1:=En ns Az AQ j l g Iw QaE No No) ?_,?_⟩
 ·have h:=Jk _ _ (m j l g QaE No No) (b:=.var 6) (y:=.str K0) rfl (qU rfl);simp only[exD,h,Rs.bo]
 refine⟨a,ksD A,vsD A,dn,un,[.str K0],knD B,rfl,iE A,f.d.pl,f.d.pu,gU ns (d1:=.non) rfl (kK B) N (e:=[So KM,So GT,No,No]) rfl,rfl,rfl,rfl,kK B,λo=>?_⟩;obtain⟨hs,X,_⟩:=dW f.b;obtain⟨A2,U,s,v,G,L,q,g1⟩:=Jvw (C:=B) (x6:=.str K0) (x7:=.tup Ud) ns o a rfl rfl (List.range' 0 3) j l g (⟨hs,f.b,X,⟨rfl,by decide,rfl⟩,Zf _⟩:Inv QaD B [] [] 0) Af;refine⟨ksD QaD,vsD QaD,[],[],_,_,En ns Az AQ G L q Iw QaE (So (ob o A2 s v)) (So (knD U)),JuO f.b o,iE _,rfl,rfl,b6_ok ns a o f.b,JqB (n:=3) rfl A9 g1,rfl,?_⟩;exact tR _ _ (eL _ _ (Jk _ _ (m G L q _ _ _) (y:=.str K0) rfl (JmS _ (by simp[D.dep]))) λ_=>Jk _ _ (P G L q _ _ _ _) (y:=.tup Ud) rfl (JmS _ (by simp[D.dep,deps])))
end K72
namespace K72
open PySem PySem.Spec PyProof.Rows L2 Pu Rd
variable{mg:Bi}{w:A0}{K:Aj}{k:Nat}{base:Heap}
noncomputable abbrev row:Program:=PySem.Challenge.pw_routeboard_k72_whole_site_texts
noncomputable def stAt (i:Nat):Stmt:=row.main.body.getD i Pq
noncomputable abbrev sM:Stmt:=stAt 72
noncomputable abbrev JdA:List Str:=Wq
noncomputable abbrev JcT:Stmt:=sC CT 1
noncomputable abbrev Jex:Stmt:=sC CT 2
noncomputable abbrev JpW:Stmt:=sC CT 3
noncomputable abbrev JlB:Stmt:=sC CT 5
noncomputable abbrev JiV:Stmt:=sC CT 6
noncomputable abbrev JhV:Stmt:=sC CT 4
noncomputable abbrev JnR:Stmt:=sC CT 8
noncomputable abbrev sm_go:Stmt:=sC CT 9
noncomputable abbrev JqS:Stmt:=sC CT 10
noncomputable abbrev JmX:Stmt:=sC CT 12
noncomputable abbrev zR:Stmt:=stAt 76
noncomputable abbrev JeC:List Str:=[Kw,FS]
noncomputable abbrev uW:Stmt:=sC CT 0
noncomputable abbrev pP:Stmt:=stAt 79
noncomputable abbrev JuG:List Str:=[BP,Kw,KA,Kj,FS,(oS "_law_due"),(oS "_law_text"),Mw,(oS "_law_other"),(oS "_law_here")]
noncomputable abbrev Jeu:Stmt:=stAt 73
noncomputable abbrev T:List DefE:=[((oS "is_text_of"),stAt 22,PF),
 ((oS "is_word"),stAt 23,[DD]),
 ((oS "is_name"),stAt 24,[DD]),
 ((oS "is_tuple_of"),stAt 25,PD),
 ((oS "are_words"),stAt 26,[QdV]),
 ((oS "has_twice"),stAt 27,[LF]),
 ((oS "are_rising_words"),stAt 28,[DD]),
 ((oS "is_part"),stAt 29,[DD]),
 ((oS "is_hole"),stAt 30,[Ln]),
 ((oS "hole_names"),stAt 31,[Kr]),
 ((oS "is_pattern"),stAt 32,[DD]),
 ((oS "is_row"),stAt 33,[DD]),
 ((oS "is_table"),stAt 34,[DD]),
 ((oS "mounted"),stAt 45,[Mu,Ef]),
 ((oS "joined"),stAt 46,[Nv,Mt]),
 ((oS "written_part"),stAt 49,[Ln]),
 ((oS "with_slashes"),stAt 50,[(oS "texts")]),
 ((oS "written"),stAt 51,[Kr]),
 ((oS "between_slashes"),stAt 52,[B2]),
 ((oS "read_part"),stAt 53,[B2]),
 ((oS "read"),stAt 54,[B2]),
 ((oS "written_row"),stAt 55,[(oS "row")]),
 ((oS "written_table"),stAt 56,[Ef]),
 ((oS "lines_of"),stAt 57,[B2]),
 ((oS "read_row"),stAt 58,[bC]),
 ((oS "read_table"),stAt 59,[B2]),
 ((oS "site_text"),stAt 62,[bD]),
 ((oS "tables_by_heads"),stAt 63,[B2]),
 ((oS "name_in"),stAt 64,[Lm]),
 ((oS "_law_cell"),stAt 67,[BP,Kj]),
 ((oS "_law_pick"),stAt 68,[BP,Kj,Mw]),
 ((oS "_law_part"),stAt 69,[BP,EK,Ri]),
 ((oS "_law_pattern"),stAt 70,[BP,EK,Mv]),
 ((oS "_law_table"),stAt 71,[BP,EK,Mv,Rh]),
 (Qas,stAt 72,[(oS "_law_kept")]),
 ((oS "_law_deed"),stAt 74,[BP,EK]),
 ((oS "_law_behind"),stAt 75,[KA,FS]),
 ((oS "_law_all_of"),stAt 77,[Kw]),
 ((oS "_law_site_text"),stAt 78,[KA])]
noncomputable abbrev B_:List Str:=[ET,(oS "all"),Hy,(oS "dict"),Qat,(oS "len"),(oS "range"),(oS "set"),(oS "sorted"),(oS "str"),(oS "tuple"),(oS "zip")]
structure Env(G:Gw)(U:Ae):Prop where
 f:∀i{n},T[i]?.map (·.1)=So n->Callee G U i n
 b:BlN G.mg B_
 c_LETTERS:rC G QT QaW
 c_MOST_CHOICES:rC G Sl Gp
 c_MOST_LETTERS:rC G Sk Gp
 c_MOST_PARTS:rC G Ru (.int 6)
 c_MOST_ROWS:rC G Rg aT
 c_MOST_SIGNS:rC G Rt aT
 c_NAME_ONLY_HOLES:rC G SX Hi
 c_SIGNS:rC G HM (.tup K2)
 c_WORD_SIGNS:rC G Rp QaV
 x_NoBack:ExcC G Cj
 x_NoSite:ExcC G Ck
 x_NoText:ExcC G Gm
 x_TooMany:ExcC G Cm
 t_RouteError:Takes G Kz cl9
 i_BadLead:IsaC G Dz cl9
 i_BadValues:IsaC G DA cl9
 i_NoBack:IsaC G Cj cl9
 i_NoHole:IsaC G Dy cl9
 i_NoRow:IsaC G Dx cl9
 i_NoSite:IsaC G Ck cl9
 i_NoText:IsaC G Gm cl9
 i_Taken:IsaC G Dw cl9
 i_TooMany:IsaC G Cm cl9
 i_ValueError:IsaC G ET cl9
 F_done:FldC G Me
 F_tables:FldC G K4
 F_undone:FldC G MG
 p_table_of:CalleeP G U 39 Ce Qb4
 p_names:CalleeP G U 40 Ce LF
 p_go:CalleeP G U 41 Ce (oS "go")
 p_back:CalleeP G U 42 Ce (oS "back")
 p_counts:CalleeP G U 43 Ce QdW
 o_told:Told G U Rf 34 cl9
def blm{x:Str}:∀{T:Ag},BlN mg T->x∈T->mg x=No
 |_::_,b,.head _=>b.1
 |_::_,b,.tail _ h=>blm b.2 h
noncomputable abbrev NL:List NM:=[(PF,[]),
 Fy,
 Fy,
 (PD,[]),
 ([QdV],[]),
 ([LF],[]),
 Fy,
 Fy,
 ([Ln],[]),
 ([Kr],[]),
 Fy,
 Fy,
 Fy,
 ([Mu,Ef,bE],[]),
 ([Nv,Mt,bE],[]),
 ([Ln,(oS "kind"),(oS "sign")],[]),
 ([(oS "texts")],[]),
 ([Kr],[]),
 ([B2],[]),
 ([B2,(oS "kind"),(oS "sign"),QdX],[]),
 ([B2,Kr],[]),
 ([(oS "row")],[]),
 ([Ef],[]),
 ([B2],[]),
 ([bC,QdX],[]),
 ([B2,Ef],[]),
 ([bD],[]),
 ([B2,(oS "found"),Lm,bC],[1]),
 ([Lm,F9],[]),
 ([BP,Kj],[]),
 ([BP,Kj,Mw,(oS "_law_drawn")],[]),
 ([BP,EK,Ri,(oS "_law_pool"),Qb5,(oS "_law_some")],[]),
 ([BP,EK,Mv,Qau,Qbm],[4]),
 ([BP,EK,Mv,Rh,(oS "_law_labels"),Mw],[]),
 (Wq,[]),
 ([BP,EK,Qau,Ri,Qb5,(oS "_law_table_here"),(oS "_law_turn"),(oS "_law_ahead")],[]),
 ([KA,FS,(oS "_law_rest"),Rh,Qbm],[2]),
 ([Kw],[]),
 ([KA],[])]
structure EnvN(G:Gw):Prop where
 b_isinstance:G.mg Qat=No
 i_BadLead:IsaC G Dz cl9
 i_BadValues:IsaC G DA cl9
 i_NoBack:IsaC G Cj cl9
 i_NoHole:IsaC G Dy cl9
 i_NoRow:IsaC G Dx cl9
 i_NoSite:IsaC G Ck cl9
 i_NoText:IsaC G Gm cl9
 i_Taken:IsaC G Dw cl9
 i_TooMany:IsaC G Cm cl9
 i_ValueError:IsaC G ET cl9
structure EnvB(G:Gw)(U:Ae)(bc:AI):Prop extends Env G U where
 m_set_table:CalleeB G bc 0 Ce Rb
 m_do_step:CalleeB G bc 1 Ce QS
 m_put:CalleeB G bc 2 Ce KS
 m_take:CalleeB G bc 3 Ce GN
 m_mount:CalleeB G bc 4 Ce Hj
structure EnvL(G:Gw)(U:Ae)(bc:AI)(R:Dv)(Pt:Addr)(q0:Str):Prop extends EnvB G U bc where
 mkS:MakeS G
 q_rs:CalleeQ G R Qbn
 o_law_did:CalleeOL G bc 5 Qb6 Pt q0
noncomputable abbrev TM5:List MethE:=[(Rb,Pb,JcT,G5),(QS,Os,Jex,R7),(KS,Qb7,JpW,G5),(GN,Qbo,JlB,Gc),(Hj,Qav,JiV,ND)]
noncomputable abbrev TM:List MethE:=[(Rb,Pb,JcT,G5),(QS,Os,Jex,R7),(KS,Qb7,JpW,G5),(GN,Qbo,JlB,Gc),(Hj,Qav,JiV,ND)]
noncomputable abbrev TP:List MethE:=[(Qb4,(oS "Site.table_of"),JhV,Gc),(LF,(oS "Site.names"),JnR,[Gb]),((oS "go"),(oS "Site.go"),sm_go,[Gb,(oS "steps"),QdY,(oS "at")]),((oS "back"),(oS "Site.back"),JqS,[Gb]),(QdW,(oS "Site.counts"),JmX,[Gb])]
noncomputable abbrev NM_:List b0:=[G5,R7,[Gb,F9,Ef,(oS "had_one")],G5,[Gb,F9,Mu,Mt,Nv,Ef]]
noncomputable abbrev NP:List b0:=[Gc,[Gb],[Gb,(oS "steps"),QdY,(oS "at"),(oS "step")],[Gb],[Gb]]
section
variable{X:Cx}{G:Gw}{U:Ae}{H0:Hp}
def JcR(E:EnvN G)(C:CtxN X G JdA (Ja sM).names):PSs X (Jl sM) NS:=by refine@eJ _ _ _ _ _ _ _ _ ?_ ?_;refine lP C Ab ?_;refine@qM _ _ _ _ ?_ rfl;refine@zK _ _ _ _ _ ?_;refine@Jg _ _ _ _ _ _ ?_ ?_ rfl;refine xC C Xx E.i_BadLead ?_ Ab Ab;exact vVN C Ab;refine@Jg _ _ _ _ _ _ ?_ ?_ rfl;refine xC C Xx E.i_BadValues ?_ Ab Ab;exact vVN C Ab;refine@Jg _ _ _ _ _ _ ?_ Jp rfl;refine xC C Xx E.i_NoBack ?_ Ab Ab;exact vVN C Ab;refine@eJ _ _ _ _ _ _ _ _ ?_ ?_;refine lP C Ab ?_;refine@eAdd _ _ _ _ _ _ _ ?_ ?_;exact vVN C Ab;refine@qM _ _ _ _ ?_ rfl;refine@zK _ _ _ _ _ ?_;refine@Jg _ _ _ _ _ _ ?_ ?_ rfl;refine xC C Xx E.i_NoHole ?_ Ab Ab;exact vVN C Ab;refine@Jg _ _ _ _ _ _ ?_ ?_ rfl;refine xC C Xx E.i_NoRow ?_ Ab Ab;exact vVN C Ab;refine@Jg _ _ _ _ _ _ ?_ Jp rfl;refine xC C Xx E.i_NoSite ?_ Ab Ab;exact vVN C Ab;refine@eJ _ _ _ _ _ _ _ _ ?_ ?_;refine lP C Ab ?_;refine@eAdd _ _ _ _ _ _ _ ?_ ?_;exact vVN C Ab;refine@qM _ _ _ _ ?_ rfl;refine@zK _ _ _ _ _ ?_;refine@Jg _ _ _ _ _ _ ?_ ?_ rfl;refine xC C Xx E.i_NoText ?_ Ab Ab;exact vVN C Ab;refine@Jg _ _ _ _ _ _ ?_ ?_ rfl;refine xC C Xx E.i_Taken ?_ Ab Ab;exact vVN C Ab;refine@Jg _ _ _ _ _ _ ?_ Jp rfl;refine xC C Xx E.i_TooMany ?_ Ab Ab;exact vVN C Ab;refine@eJ _ _ _ _ _ _ _ _ ?_ ?_;refine@vP _ _ _ _ _ _ _ _ _ _ _ ?_ ?_ kF;refine@PW.pt _ _ _ ?_;refine@sP _ _ _ _ _ _ _ _ ?_ ?_;refine tNeN C ?_ JO;refine JrF C ?_ uH rfl rfl;exact vVN C Ab;refine@uU _ _ _ _ _ _ ?_;refine@jU _ _ _ _ _ ?_;refine@yU _ _ _ _ ?_ HL;refine xC C Xx E.i_ValueError ?_ Ab Ab;exact vVN C Ab;exact@nI _ _ _ _ _ _ (@tG _ _ _ _ _ _ _ vA);refine@eJ _ _ _ _ _ _ _ _ ?_ ?_;refine lP C Ab ?_;refine@qM _ _ _ _ ?_ rfl;refine@zK _ _ _ _ _ ?_;refine@Jg _ _ _ _ _ _ vA ?_ rfl;refine@Jg _ _ _ _ _ _ vA ?_ rfl;refine@Jg _ _ _ _ _ _ vA ?_ rfl;refine@Jg _ _ _ _ _ _ vA ?_ rfl;refine@Jg _ _ _ _ _ _ vA ?_ rfl;refine@Jg _ _ _ _ _ _ vA ?_ rfl;refine@Jg _ _ _ _ _ _ vA ?_ rfl;exact@Jg _ _ _ _ _ _ vA (@Jg _ _ _ _ _ _ vA Jp rfl) rfl;refine@nI _ _ _ _ _ _ ?_;refine@tG _ _ _ _ _ _ _ ?_;refine@eIx _ _ _ _ _ _ _ ?_ ?_ Cg;exact vVN C Ab;refine JrP C ?_ uH rfl rfl;exact vVN C Ab
def JhN(E:Env G U)(C:Ctx X G JdA (Ja sM).names)(a:HX X (Ja sM).names):PSs X (Jl sM) NS:=JcR ⟨LN,E.i_BadLead,E.i_BadValues,E.i_NoBack,E.i_NoHole,E.i_NoRow,E.i_NoSite,E.i_NoText,E.i_Taken,E.i_TooMany,E.i_ValueError⟩ C.n
end
def dAll{X:Cx}{G:Gw}{U:Ae}{a:Hp}:(∀E:Env G U,DAll X G U a T NL defs/\Jvi X G U a TP NP (defs.drop 39))/\∀{bc:AI}(E:EnvB G U bc)(e:PlO a),Jvt X G U bc a TM5 NM_ bdefs:=by
 refine⟨λE=>GQ,λE e=>?_⟩;all_goals repeat' (refine fB (λC b=>?_) ?_)
 rotate_left 34;exact JhN E C b;all_goals try exact gA
 all_goals conv=>(arg 2;whnf)
 all_goals first|conv=>(arg 3;arg 7;whnf)|conv=>(arg 3;arg 5;whnf)
 repeat' (first
  |with_reducible assumption
  |((with_reducible show _=_);first|exact(by decide+kernel)|exact rfl|exact blm E.b (by decide+kernel))
  |((with_reducible show PE _ _ _);with_reducible (first|refine@vV _ _ _ _ _ _ _ C _ ?_|refine@JO _ _ _ _ _|refine@vA _ _ _ _ _|refine@cF _ _ _ _ _ _ _ _ _ _ _ C _ ?_ ?_ ?_ ?_ ?_|refine@eIx _ _ _ _ _ _ _ ?_ ?_ ?_|refine@eAdd _ _ _ _ _ _ _ ?_ ?_|refine@fComp _ _ _ _ _ _ _ _ _ _ _ _ _ _ _ C ?_ ?_ ?_ ?_ ?_ ?_|refine@JqJ _ _ _ _ _ _ ?_|refine@zK _ _ _ _ _ ?_|refine@fU _ _ _ _ _|refine@cLen _ _ _ _ _ _ _ _ _ C ?_ ?_ ?_ ?_|refine@vG _ _ _ _ _ _ _ C _ ?_ ?_|refine@uH _ _ _ _ _|refine@JtY _ _ _ _ _ _ _ _ _ C ?_ ?_ ?_|refine@JuM _ _ _ _ _ _ _ _ _ C ?_ ?_ ?_ ?_|refine@JpY _ _ _ _ _ _ _ _ ?_ ?_|refine@Joy _ _ _ _ ?_ _ _ _ _ _ ?_ ?_ ?_|refine@eMul _ _ _ _ _ _ _ ?_ ?_|refine@cAll _ _ _ _ _ _ _ _ _ C ?_ ?_ ?_ ?_|refine@eDGet _ _ _ _ _ _ _ _ _ _ C _ ?_ ?_ ?_ ?_|refine@cP _ _ _ _ _ _ _ _ _ _ _ _ _ _ _ _ ?_ C ?_ ?_ ?_ ?_ ?_ ?_ ?_|refine@cJoin _ _ _ _ _ _ _ _ _ ?_ ?_ ?_ ?_|refine@Jqs _ _ _ _ _ _ ?_|refine@eMod _ _ _ _ _ _ _ ?_ ?_|refine@JqE _ _ _ _ _ _ _ ?_|refine@cM _ _ _ _ _ _ _ _ _ _ _ _ _ _ _ _ _ _ ?_ C ?_ ?_ ?_ ?_ ?_ ?_ ?_ ?_|refine@Jwb _ _ _ _ _ _ _ _ ?_ ?_ ?_ ?_ ?_ ?_|refine@cStrt _ _ _ _ _ _ _ _ ?_ ?_ ?_ ?_ ?_ ?_|refine@JvN _ _ _ _ _ ?_|refine@JuU _ _ _ _|refine@cPart _ _ _ _ _ _ _ _ ?_ ?_ ?_ ?_ ?_ ?_|refine@cIsi _ _ _ _ _ _ _ _ _ _ _ _ _ Jmq C ?_ ?_ PyProof.Rows.boot_str ?_ ?_ ?_ ?_ ?_ ?_|refine@cIsi _ _ _ _ _ _ _ _ _ _ _ _ _ JsT C ?_ ?_ PyProof.Rows.boot_tuple ?_ ?_ ?_ ?_ ?_ ?_|refine@eEq _ _ _ _ _ _ _ _ _ _ C ?_ ?_|refine@eIn _ _ _ _ _ _ _ _ _ _ C ?_ ?_ ?_|refine@eLt _ _ _ _ _ _ _ ?_ ?_|refine@JnM _ _ _ _ _ _ _ _ _ _ _ _ _ ?_ ?_ ?_ ?_ ?_ ?_|refine@Juf _ _ _ _ _ ?_|refine@eDIn _ _ _ _ _ _ _ _ _ _ C _ ?_ ?_ ?_ ?_|refine@cP0 _ _ _ _ _ _ _ _ _ _ _ _ _ ?_ C ?_ ?_ ?_ ?_|refine@cSrtD _ _ _ _ _ _ _ _ _ C ?_ ?_ ?_ ?_|refine@eSub _ _ _ _ _ _ _ ?_ ?_|refine@eDiv _ _ _ _ _ _ _ ?_ ?_|refine@cEnds _ _ _ _ _ _ _ _ ?_ ?_ ?_ ?_ ?_ ?_|refine@cAny _ _ _ _ _ _ _ _ _ C ?_ ?_ ?_ ?_|refine@eNe _ _ _ _ _ _ _ _ _ _ C ?_ ?_|refine@pI_if _ _ _ _ _ _ _ _ _ ?_ ?_ ?_|refine@Jsj _ _ _ _ _ _ _ _ _ _ _ C ?_ ?_ ?_ ?_ ?_ ?_|refine@Jtm _ _ _ _ _ _ _ _ _ _ _ C ?_ ?_ ?_ ?_ ?_ ?_|refine@cDict _ _ _ _ _ _ _ _ _ C ?_ ?_ ?_ ?_|refine@eFst _ _ _ _ _ _ _ ?_ ?_|refine@eGetN _ _ _ _ _ _ _ _ _ _ _ C ?_ ?_ ?_ ?_|refine@qM _ _ _ _ ?_ ?_))
  |((with_reducible show PA _ _ _);with_reducible (first|refine@Jg _ _ _ _ _ _ ?_ ?_ ?_|refine@Jp _ _))
  |((with_reducible show PSs _ _ _);with_reducible (first|refine@nI _ _ _ _ _ _ ?_|refine@eJ _ _ _ _ _ _ _ _ ?_ ?_|refine@kF _ _ _ _|refine@rF _ _ _ _ _ _ _ _ _ _ ?_ ?_|refine@eD _ _ _ _ _ _ _ _ ?_|refine@zL _ _ _ _ _ _ _ _ ?_|refine@Jnw _ _ _ _ _))
  |((with_reducible show PS _ _ _);with_reducible (first|refine@tG _ _ _ _ _ _ _ ?_|refine@vP _ _ _ _ _ _ _ _ _ _ _ ?_ ?_ ?_|refine@aSetC _ _ _ _ _ _ _ _ _ _ _ _ _ _ _ _ _ _ _ _ _ C ?_ ?_ ?_ ?_ ?_ ?_ ?_ ?_|refine@aSet _ _ _ _ _ _ _ _ _ _ _ _ _ C ?_ ?_ ?_ ?_|refine@JiB _ _ _ _ _ _ _ _ _ _ _ _ _ C ?_ ?_ ?_ ?_|refine@bSet _ _ _ _ _ _ _ _ _ _ _ _ _ _ C ?_ ?_ ?_|refine@gV _ _ _ _ _ _ _ _ _ ?_ ?_|refine@JqH _ _ _ _ _ _ _ _ _ ?_|refine@Jts _ _ _ _ _ _ _ _ _ _ _ _ _ _ _ C ?_ ?_ ?_ ?_ ?_ ?_|refine@aPut _ _ _ _ _ _ _ _ _ _ _ _ _ _ _ _ C _ ?_ ?_ ?_ ?_ ?_ ?_ ?_|refine@aRetP _ _ _ _ _ _ _ _ _ _ _ _ _ _ _ C ?_ ?_ ?_ ?_|refine@mK _ _ _ _ _ _ _ _ _ _ _ _ _ ?_ ?_ ?_|refine@xV _ _ _ _ _ _ _ _ _ _ _ _ _ _ C ?_ ?_ ?_ ?_|refine@aPr _ _ _ _ _ _ _ _ _ _ _ _ _ _ _ _ _ _ _ _ _ _ C b ?_ ?_ ?_ ?_ ?_ ?_ ?_ ?_ ?_ ?_ ?_|refine@aApp _ _ _ _ _ _ _ _ _ _ _ _ _ _ _ C ?_ ?_ ?_ ?_ ?_|refine@aOwnC _ _ _ _ _ _ _ _ _ _ _ _ _ _ _ _ _ _ _ _ _ C ?_ ?_ ?_ ?_ ?_ ?_ ?_|refine@Jwa _ _ _ _ _ _ _ _ _ _ _ _ C ?_ ?_|refine@aRetF _ _ _ _ _ _ _ _ _ _ _ C ?_|refine@aOwnP _ _ _ _ _ _ _ _ _ _ _ _ _ _ _ C ?_ ?_ ?_ ?_ ?_ ?_|refine@bAppF _ _ _ _ _ _ _ _ _ _ _ _ _ _ _ _ _ C ?_ ?_ ?_ ?_ ?_ ?_ ?_ ?_|refine@bNewL _ _ _ _ _ _ _ _ _ _ _ _ _ _ C ?_ ?_ ?_ ?_|refine@bPutK _ _ _ _ _ _ _ _ _ _ _ _ _ _ _ _ _ _ C ?_ ?_ ?_ ?_ ?_ ?_ ?_|refine@bPopK _ _ _ _ _ _ _ _ _ _ _ _ _ _ _ _ _ C ?_ ?_ ?_ ?_ ?_ ?_|refine@aAugK _ _ _ _ _ _ _ _ _ _ _ _ _ _ _ _ _ C ?_ ?_ ?_ ?_ ?_))
  |((with_reducible show PT _ _ _);with_reducible (first|refine@jU _ _ _ _ _ ?_|refine@tEq _ _ _ _ _ _ _ _ _ _ C ?_ ?_|refine@tLt _ _ _ _ _ _ _ ?_ ?_|refine@tNe _ _ _ _ _ _ _ _ _ _ C ?_ ?_|refine@tDNi _ _ _ _ _ _ _ _ _ _ C _ ?_ ?_ ?_ ?_|refine@vL _ _ _ _ _ _ _ ?_|refine@JuW _ _ _ _ _ _ _ ?_|refine@tGt _ _ _ _ _ _ _ ?_ ?_|refine@tIn _ _ _ _ _ _ _ _ _ _ C ?_ ?_ ?_|refine@yU _ _ _ _ ?_ ?_|refine@PW.pt _ _ _ ?_))
  |((with_reducible show PI _ _ _ _);with_reducible (first|refine@JuE _ _ _ _ _ _ ?_|refine@JkK _ _ _ _ _ _ _ _ _ _ C ?_ ?_ ?_ ?_|refine@JqT _ _ _ _ _ _ _ ?_|refine@Jsi _ _ _ _ _ _ ?_|refine@JuJ _ _ _ _ _ _ _ _ _ _ _ _ _ _ C ?_ ?_ ?_ ?_ ?_ ?_))
  |((with_reducible show PW _ _ _);with_reducible (first|refine@uU _ _ _ _ _ _ ?_|refine@sP _ _ _ _ _ _ _ _ ?_ ?_))
  |((with_reducible show True);exact gA)
  |((with_reducible show _=To->NoKT _);(intro z;cases z))
  |((with_reducible show CalleeP _ _ _ _ _);first|exact E.p_table_of|exact E.p_names|exact E.p_go|exact E.p_back|exact E.p_counts)
  |((with_reducible show FldC _ _);first|exact E.F_done|exact E.F_tables|exact E.F_undone)
  |((with_reducible show CalleeB _ _ _ _ _);first|exact E.m_set_table|exact E.m_do_step|exact E.m_put|exact E.m_take|exact E.m_mount)
  |((with_reducible show CalleeOL _ _ _ _ _ _);exact E.o_law_did)
  |((with_reducible show M1 _ _ _ _ _ _);exact⟨rfl,rfl,rfl,rfl⟩)
  |((with_reducible show ExcC _ _);first|exact E.x_NoBack|exact E.x_NoSite|exact E.x_NoText|exact E.x_TooMany)
  |((with_reducible show Takes _ _ _);first|exact E.t_RouteError)
  |((with_reducible show IsaC _ _ _);first|exact E.i_BadLead|exact E.i_BadValues|exact E.i_NoBack|exact E.i_NoHole|exact E.i_NoRow|exact E.i_NoSite|exact E.i_NoText|exact E.i_Taken|exact E.i_TooMany|exact E.i_ValueError)
  |with_reducible intro _ C
  |((with_reducible intro _);exact rfl)
  |((with_reducible show _≠_);exact(by decide+kernel))
  |((with_reducible show _<=_);exact(by decide+kernel))
  |((with_reducible show zQ _);intro _ _;exact rfl)
  |((with_reducible show NoSl _);intro _ _;exact rfl)
  |((with_reducible show M2 _ _ _ _ _ _ _);exact⟨rfl,rfl,rfl,rfl⟩)
  |((with_reducible show OpR _ _ _);first|exact JvF|exact iV|exact JtB|exact JpG)
  |((with_reducible show Callee _ _ _ _);exact E.f _ rfl)
  |((with_reducible show rC _ _ _);first|exact E.c_LETTERS|exact E.c_MOST_CHOICES|exact E.c_MOST_LETTERS|exact E.c_MOST_PARTS|exact E.c_MOST_ROWS|exact E.c_MOST_SIGNS|exact E.c_NAME_ONLY_HOLES|exact E.c_SIGNS|exact E.c_WORD_SIGNS)
  |((with_reducible show TgOk _ _ _ _);first|exact gOne C (by decide+kernel)|exact gTwo C (by decide+kernel) (by decide+kernel))
  |((with_reducible show PG _ _ _);first|exact lOne C (by decide+kernel)|exact lTwo C (by decide+kernel) (by decide+kernel)|exact lThree C (by decide+kernel) (by decide+kernel) (by decide+kernel))
  |with_reducible exact b.pass|with_reducible (first|refine@Jsy _ _|refine@Jrs _ _ _ _ ?_|refine@Jse _ _|refine@Jrt _ _ _ _ ?_|refine@Jsd _ _|refine@JnW _ _ _ _ _ _ _ ?_ ?_ ?_|refine@JsG _ _ _ _ _ _ _ ?_))
section
variable{X:Cx}{G:Gw}{U:Ae}{bc:AI}{H0:Hp}
def Jkh{P:Be}{A:Bd}(b:∀A,Room Dp A->EnvB An U bc)(f:Room (3*k+5) A)(C:Ctx X An JeC (Ja zR).names)(h:HX X (Ja zR).names)(L:Y8)(g:A3):PSs X (Jl zR) (tSB X To U bc [] H0 JC):=by have E:=b A (f.mono Ad);refine@rF _ _ _ _ _ _ _ _ _ _ ?_ ?_;refine@mK _ _ _ _ _ _ _ _ _ _ _ _ _ ?_ ?_ (@zL _ _ _ _ _ _ _ _ kF);refine@vL _ _ _ _ _ _ _ ?_;refine@tEq _ _ _ _ _ _ _ _ _ _ C ?_ vA;refine@eIx _ _ _ _ _ _ _ ?_ JO Cg;exact vV C Ab;refine@eD _ _ _ _ _ _ _ _ ?_;refine JsJ ?_;refine JsD (m:=Hj) ?_ g Ab;refine Jtb (M:=[]) C L E.o_told f Ab Ab Ab Ab ?_ SL rfl rfl;intro _ _ a e;refine cMt a ?_ Ab ?_;exact EnvB.m_mount (b _ e);refine@Jg _ _ _ _ _ _ ?_ ?_ rfl;refine@eIx _ _ _ _ _ _ _ ?_ JO Cg;exact vV a Ab;refine@Jg _ _ _ _ _ _ ?_ ?_ rfl;refine@eIx _ _ _ _ _ _ _ ?_ JO Cg;exact vV a Ab;refine@Jg _ _ _ _ _ _ ?_ Jp rfl;refine@eIx _ _ _ _ _ _ _ ?_ JO Cg;exact vV a Ab;refine@eD _ _ _ _ _ _ _ _ ?_;refine JoB (m:=KS) (m2:=GN) (M:=[]) ?_ g Ab Ab Ab Ab Ab Ab Joi;refine zW C L E.o_told f Ab Ab ?_ SL rfl rfl;intro _ _ a e;refine JiE ?_ ?_ ?_;refine@tEq _ _ _ _ _ _ _ _ _ _ a ?_ vA;refine@eIx _ _ _ _ _ _ _ ?_ JO Cg;exact vV a Ab;refine cMt a ?_ Ab ?_;exact EnvB.m_put (b _ e);refine@Jg _ _ _ _ _ _ ?_ ?_ rfl;refine@eIx _ _ _ _ _ _ _ ?_ JO Cg;exact vV a Ab;refine@Jg _ _ _ _ _ _ ?_ Jp rfl;refine@eIx _ _ _ _ _ _ _ ?_ JO Cg;exact vV a Ab;refine cMt a ?_ Ab ?_;exact EnvB.m_take (b _ e);refine@Jg _ _ _ _ _ _ ?_ Jp rfl;refine@eIx _ _ _ _ _ _ _ ?_ JO Cg;exact vV a Ab
noncomputable abbrev wR:Stmt:=stAt 65
noncomputable abbrev Jjt:List Str:=[B2,bD,Lm,bE]
def Jpq(E:EnvB G U bc)(e:MakeS G)(C:Ctx X G Jjt (Ja wR).names)(b:HX X (Ja wR).names)(a:A3):PSs X (Jl wR) (tRd X U bc H0 iR nL pL):=by refine Jvz C a e Ab Ab ?_ ?_;refine@mK _ _ _ _ _ _ _ _ _ _ _ _ _ ?_ ?_ (@zL _ _ _ _ _ _ _ _ kF);refine@vL _ _ _ _ _ _ _ ?_;refine@jU _ _ _ _ _ ?_;refine@yU _ _ _ _ ?_ HL;refine@cIsi _ _ _ _ _ _ _ _ _ _ _ _ _ Jmq C LN LN PyProof.Rows.boot_str ?_ Ab Ab Ab Ab rfl;exact vV C Ab;refine@eD _ _ _ _ _ _ _ _ ?_;exact@xV _ _ _ _ _ _ _ _ _ _ _ _ _ _ C E.x_NoText Ab (@fU _ _ _ _ _) rfl;refine@rF _ _ _ _ _ _ _ _ _ _ ?_ ?_;refine JsU C b.pass ?_ ?_ ?_ rfl;refine@cF _ _ _ _ _ _ _ _ _ _ _ C _ (E.f 27 rfl) Ab ?_ rfl rfl;refine@Jg _ _ _ _ _ _ ?_ Jp rfl;exact vV C Ab;exact@lTwo _ _ _ _ _ _ _ _ _ _ _ _ _ _ C Ab Ab;refine@eD _ _ _ _ _ _ _ _ ?_;refine@gV _ _ _ _ _ _ _ _ _ ?_ rfl;refine@cM _ _ _ _ _ _ _ _ _ _ _ _ _ _ _ _ _ _ _ C a E.m_set_table Ab Ab ?_ rfl rfl rfl;refine@Jg _ _ _ _ _ _ ?_ ?_ rfl;refine@cF _ _ _ _ _ _ _ _ _ _ _ C _ (E.f 28 rfl) Ab ?_ rfl rfl;refine@Jg _ _ _ _ _ _ ?_ Jp rfl;exact vV C Ab;refine@Jg _ _ _ _ _ _ ?_ Jp rfl;refine@cF _ _ _ _ _ _ _ _ _ _ _ C _ (E.f 25 rfl) Ab ?_ rfl rfl;refine@Jg _ _ _ _ _ _ ?_ Jp rfl;exact vV C Ab;refine@rF _ _ _ _ _ _ _ _ _ _ ?_ ?_;refine@mK _ _ _ _ _ _ _ _ _ _ _ _ _ ?_ ?_ (@zL _ _ _ _ _ _ _ _ kF);refine@vL _ _ _ _ _ _ _ ?_;refine@tNe _ _ _ _ _ _ _ _ _ _ C ?_ ?_;refine@cF _ _ _ _ _ _ _ _ _ _ _ C _ LC Ab ?_ rfl rfl;refine@Jg _ _ _ _ _ _ ?_ Jp rfl;exact vV C Ab;exact vV C Ab;refine@eD _ _ _ _ _ _ _ _ ?_;exact@xV _ _ _ _ _ _ _ _ _ _ _ _ _ _ C E.x_NoText Ab (@fU _ _ _ _ _) rfl;refine@eD _ _ _ _ _ _ _ _ ?_;refine@JqH _ _ _ _ _ _ _ _ _ ?_;exact vV C Ab
def d_law{P:Be}{A:Bd}{h:Addr}{f:Str}{R:Dv}(l:∀A,Room Dp A->EnvB An U bc)(j:Room (3*k+5) A)(E:EnvL An U bc R h f)(C:Ctx X An JuG (Ja pP).names)(b:HX X (Ja pP).names)(L:Y8)(g:TbH X.H₀ h f)(e:A3):PSs X (Jl pP) (tLaw X H0 (RL U bc R)):=by refine Jtk C b e Ab Ab Ab E.mkS Ab (@JtP _ _ _) ?_;refine mW (a:=gQ) ?_ ?_;refine@JkV _ _ _ _ _ _ _ _ _ _ _ _ _ _ _ _ _ _ C b.pass ?_ Ab LN ?_ ?_ _ rfl HL;refine@cF _ _ _ _ _ _ _ _ _ _ _ C _ (E.f 30 rfl) Ab ?_ rfl rfl;refine@Jg _ _ _ _ _ _ ?_ ?_ rfl;exact vV C Ab;exact@Jg _ _ _ _ _ _ JO (@Jg _ _ _ _ _ _ JO Jp rfl) rfl;exact@lOne _ _ _ _ _ _ _ _ _ C Ab;refine@rF _ _ _ _ _ _ _ _ _ _ ?_ ?_;refine@qF _ _ _ _ _ _ _ _ ?_;refine@aSet _ _ _ _ _ _ _ _ _ _ _ _ _ C Ab ?_ rfl rfl;refine@cF _ _ _ _ _ _ _ _ _ _ _ C _ (E.f 35 rfl) Ab ?_ rfl rfl;refine@Jg _ _ _ _ _ _ ?_ ?_ rfl;exact vV C Ab;refine@Jg _ _ _ _ _ _ ?_ Jp rfl;refine@eAdd _ _ _ _ _ _ _ JO ?_;refine@eMul _ _ _ _ _ _ _ JO ?_;exact vV C Ab;refine@rF _ _ _ _ _ _ _ _ _ _ ?_ ?_;refine@qF _ _ _ _ _ _ _ _ ?_;refine@aTup _ _ _ _ _ _ _ _ _ _ _ _ _ C ?_ ?_ rfl rfl rfl rfl;refine@cF _ _ _ _ _ _ _ _ _ _ _ C _ (E.f 36 rfl) Ab ?_ rfl rfl;refine@Jg _ _ _ _ _ _ ?_ ?_ rfl;exact vV C Ab;refine@Jg _ _ _ _ _ _ ?_ Jp rfl;exact vV C Ab;exact@lTwo _ _ _ _ _ _ _ _ _ _ _ _ _ _ C Ab Ab;refine@eD _ _ _ _ _ _ _ _ ?_;refine@gV _ _ _ _ _ _ _ _ _ ?_ rfl;refine@cOHL _ _ _ _ _ _ _ _ _ _ _ _ (oS "add") _ _ _ _ _ _ _ _ C e E.o_law_did g Ab Ab Ab ?_ rfl rfl rfl;refine@Jg _ _ _ _ _ _ ?_ ?_ rfl;exact vV C Ab;refine@Jg _ _ _ _ _ _ ?_ Jp rfl;exact vV C Ab;refine mW (a:=JpD) ?_ ?_;refine@qF _ _ _ _ _ _ _ _ ?_;refine@aPr _ _ _ _ _ _ _ _ _ _ _ _ _ _ _ _ _ _ _ _ _ _ C b Ab Ab Ab rfl ?_ ?_ rfl rfl rfl rfl rfl;refine@cF _ _ _ _ _ _ _ _ _ _ _ C _ (E.f 38 rfl) Ab ?_ rfl rfl;refine@Jg _ _ _ _ _ _ ?_ Jp rfl;exact vV C Ab;exact@cP0 _ _ _ _ _ _ _ _ _ _ _ _ _ _ C Qby Ab Ab rfl;refine mW (a:=Jqj) ?_ ?_;refine@qF _ _ _ _ _ _ _ _ ?_;refine@vP _ _ _ _ _ _ _ _ _ _ _ ?_ ?_ kF;refine@tNe _ _ _ _ _ _ _ _ _ _ C ?_ ?_;refine@cF _ _ _ _ _ _ _ _ _ _ _ C _ LC Ab ?_ rfl rfl;refine@Jg _ _ _ _ _ _ ?_ Jp rfl;exact vV C Ab;exact vV C Ab;exact@nI _ _ _ _ _ _ (@tG _ _ _ _ _ _ _ uH);refine ss_rd C e E.q_rs Ab Ab ?_ ?_ Ab ?_ ?_ ?_ ?_;refine@Jg _ _ _ _ _ _ ?_ Jp rfl;exact vV C Ab;exact vV C Ab;exact@lTwo _ _ _ _ _ _ _ _ _ _ _ _ _ _ C Ab Ab;refine@qF _ _ _ _ _ _ _ _ ?_;refine@vP _ _ _ _ _ _ _ _ _ _ _ ?_ ?_ kF;refine@PW.pt _ _ _ ?_;refine@sP _ _ _ _ _ _ _ _ ?_ ?_;refine@tDNe _ _ _ _ _ _ _ _ _ _ C ?_ ?_;refine@cF _ _ _ _ _ _ _ _ _ _ _ C _ (E.f 37 rfl) Ab ?_ rfl rfl;refine@Jg _ _ _ _ _ _ ?_ Jp rfl;exact vV C Ab;exact vV C Ab;refine@sP _ _ _ _ _ _ _ _ ?_ ?_;refine@tNe _ _ _ _ _ _ _ _ _ _ C ?_ ?_;exact@cP0 _ _ _ _ _ _ _ _ _ _ _ _ _ _ C Qby Ab Ab rfl;refine@JqJ _ _ _ _ _ _ ?_;exact@Jg _ _ _ _ _ _ JO (@Jg _ _ _ _ _ _ JO Jp rfl) rfl;refine@uU _ _ _ _ _ _ ?_;refine@tNe _ _ _ _ _ _ _ _ _ _ C ?_ vA;refine@cTold _ _ _ _ _ _ _ _ _ _ _ _ _ _ [0,1,2,3,4,5,6,7,9] _ _ C L E.o_told j Ab Ab Ab ?_ SL rfl rfl;intro _ _ i m;refine@cP0 _ _ _ _ _ _ _ _ _ _ _ _ _ _ i ?_ Ab Ab rfl;refine Env.p_back ?_;exact EnvB.toEnv (l _ m);exact@nI _ _ _ _ _ _ (@tG _ _ _ _ _ _ _ uH);refine@JkV _ _ _ _ _ _ _ _ _ _ _ _ _ _ _ _ _ _ C b.pass JO Ab (blm E.b Ab) ?_ ?_ _ rfl (λ_=>rfl);exact@lOne _ _ _ _ _ _ _ _ _ C Ab;refine@rF _ _ _ _ _ _ _ _ _ _ ?_ ?_;refine@qF _ _ _ _ _ _ _ _ ?_;refine@aSet _ _ _ _ _ _ _ _ _ _ _ _ _ C Ab ?_ rfl rfl;refine@cF _ _ _ _ _ _ _ _ _ _ _ C _ (E.f 35 rfl) Ab ?_ rfl rfl;refine@Jg _ _ _ _ _ _ ?_ ?_ rfl;exact vV C Ab;refine@Jg _ _ _ _ _ _ ?_ Jp rfl;refine@eAdd _ _ _ _ _ _ _ JO ?_;refine@eMul _ _ _ _ _ _ _ JO ?_;exact vV C Ab;refine@rF _ _ _ _ _ _ _ _ _ _ ?_ ?_;refine@qF _ _ _ _ _ _ _ _ ?_;refine@aTup _ _ _ _ _ _ _ _ _ _ _ _ _ C ?_ ?_ rfl rfl rfl rfl;refine@cF _ _ _ _ _ _ _ _ _ _ _ C _ (E.f 36 rfl) Ab ?_ rfl rfl;refine@Jg _ _ _ _ _ _ ?_ ?_ rfl;exact vV C Ab;refine@Jg _ _ _ _ _ _ ?_ Jp rfl;exact vV C Ab;exact@lTwo _ _ _ _ _ _ _ _ _ _ _ _ _ _ C Ab Ab;refine@eD _ _ _ _ _ _ _ _ ?_;refine@mK _ _ _ _ _ _ _ _ _ _ _ _ _ ?_ ?_ (@zL _ _ _ _ _ _ _ _ kF);refine@PW.pt _ _ _ ?_;refine@JtD _ _ _ _ _ _ _ _ _ _ _ ?_ ?_;refine@tbNe _ _ _ _ _ _ _ _ _ _ _ _ _ C ?_ ?_;refine@cOHL _ _ _ _ _ _ _ _ _ _ _ _ (oS "add") _ _ _ _ _ _ _ _ C e E.o_law_did g Ab Ab Ab ?_ rfl rfl rfl;refine@Jg _ _ _ _ _ _ ?_ ?_ rfl;exact vV C Ab;refine@Jg _ _ _ _ _ _ ?_ Jp rfl;exact vV C Ab;refine@JqE _ _ _ _ _ _ _ ?_;exact vV C Ab;refine@Jrj _ _ _ _ _ _ _ _ _ ?_;refine@vL _ _ _ _ _ _ _ ?_;refine@tNe _ _ _ _ _ _ _ _ _ _ C ?_ ?_;refine@cF _ _ _ _ _ _ _ _ _ _ _ C _ LC Ab ?_ rfl rfl;refine@Jg _ _ _ _ _ _ ?_ Jp rfl;exact vV C Ab;refine@cF _ _ _ _ _ _ _ _ _ _ _ C _ (E.f 38 rfl) Ab ?_ rfl rfl;refine@Jg _ _ _ _ _ _ ?_ Jp rfl;exact vV C Ab;refine@eD _ _ _ _ _ _ _ _ ?_;exact@qF _ _ _ _ _ _ _ _ (@tG _ _ _ _ _ _ _ uH);refine@nI _ _ _ _ _ _ ?_;refine@tG _ _ _ _ _ _ _ ?_;refine@JpY _ _ _ _ _ _ _ _ ?_ ?_;refine@eEq _ _ _ _ _ _ _ _ _ _ C ?_ ?_;refine@cF _ _ _ _ _ _ _ _ _ _ _ C _ LC Ab ?_ rfl rfl;refine@Jg _ _ _ _ _ _ ?_ Jp rfl;exact vV C Ab;exact vV C Ab;refine@Jqs _ _ _ _ _ _ ?_;refine@eEq _ _ _ _ _ _ _ _ _ _ C ?_ ?_;exact@cP0 _ _ _ _ _ _ _ _ _ _ _ _ _ _ C Qby Ab Ab rfl;exact vV C Ab
def Jun(C:Ctx X G [Gb] (Ja uW).names):PSs X (Jl uW) (JpI X.K):=JK (zP ((sG Ab).pe C) rY rfl) (JK (zP ((sG Ab).pe C) (hX _) rfl) (qI (zP ((sG Ab).pe C) (hX _) rfl)))
end
noncomputable abbrev TT:List DefE:=[(Rf,Jeu,[FS])]
noncomputable abbrev TL:List DefE:=[((oS "law"),pP,[BP])]
noncomputable abbrev TO:List DefE:=[(Qb6,zR,[Kw,FS])]
noncomputable abbrev TR_:List DefE:=[(Qbn,wR,[B2])]
def lu1{α}{u:List α}(h:u.length=1):∃a,u=[a]:=match u,h with|[a],_=>⟨a,rfl⟩
def lu2{α}{u:List α}(h:u.length=2):∃a b,u=[a,b]:=match u,h with|[a,b],_=>⟨a,b,rfl⟩
def lu3{α}{u:List α}(h:u.length=3):∃a b c,u=[a,b,c]:=match u,h with|[a,b,c],_=>⟨a,b,c,rfl⟩
def lu4{α}{u:List α}(h:u.length=4):∃a b c d,u=[a,b,c,d]:=match u,h with|[a,b,c,d],_=>⟨a,b,c,d,rfl⟩
def bndR:BsOk TR_:=⟨λ_ _ _ _ _ _ b a=>match b,a with|[_],_=>rfl,trivial⟩
def bndO:BsOk TO:=⟨λ_ _ _ _ _ _ b a=>match b,a with|[_,_],_=>rfl,trivial⟩
def tolS:ToldS Jeu FS (oS "e") Kz Qas:=⟨⟨_,_,_,_,_,_,_,_,_,_,rfl⟩,fE Ab,by decide+kernel,by decide+kernel,by decide+kernel,by decide+kernel,by decide+kernel⟩
def bndT:BsOk TT:=⟨λ_ _ _ _ _ _ b a=>match b,a with|[_],_=>rfl,trivial⟩
def bnd:BsOk T:=by
 repeat' apply fB
 all_goals first|exact gA|(intro _ _ _ _ _ _ b a;obtain⟨_,rfl⟩:=lu1 a;rfl)|(intro _ _ _ _ _ _ b a;obtain⟨_,_,rfl⟩:=lu2 a;rfl)|(intro _ _ _ _ _ _ b a;obtain⟨_,_,_,rfl⟩:=lu3 a;rfl)|(intro _ _ _ _ _ _ b a;obtain⟨_,_,_,_,rfl⟩:=lu4 a;rfl)
section
variable{P:Be}
noncomputable abbrev cl:List Str:=cl9
def bndM:BmOk TM:=by
 repeat' apply fB
 all_goals first|exact gA|(intro _ _ _ _ _ _ b a;obtain⟨_,rfl⟩:=lu1 a;rfl)|(intro _ _ _ _ _ _ b a;obtain⟨_,_,rfl⟩:=lu2 a;rfl)|(intro _ _ _ _ _ _ b a;obtain⟨_,_,_,rfl⟩:=lu3 a;rfl)|(intro _ _ _ _ _ _ b a;obtain⟨_,_,_,_,rfl⟩:=lu4 a;rfl)
def bndP:BmOk TP:=by
 repeat' apply fB
 all_goals first|exact gA|(intro _ _ _ _ _ _ b a;obtain⟨_,rfl⟩:=lu1 a;rfl)|(intro _ _ _ _ _ _ b a;obtain⟨_,_,rfl⟩:=lu2 a;rfl)|(intro _ _ _ _ _ _ b a;obtain⟨_,_,_,rfl⟩:=lu3 a;rfl)|(intro _ _ _ _ _ _ b a;obtain⟨_,_,_,_,rfl⟩:=lu4 a;rfl)
variable(hT:HasD K mg T)(hB:BlN mg B_)
 (y0:∃u,mg QT=So u/\∃v,RelV v u/\∀H,Rep K H QaW v)
 (y1:∃u,mg Sl=So u/\∃v,RelV v u/\∀H,Rep K H Gp v)
 (y2:∃u,mg Sk=So u/\∃v,RelV v u/\∀H,Rep K H Gp v)
 (y3:∃u,mg Ru=So u/\∃v,RelV v u/\∀H,Rep K H (.int 6) v)
 (y4:∃u,mg Rg=So u/\∃v,RelV v u/\∀H,Rep K H aT v)
 (y5:∃u,mg Rt=So u/\∃v,RelV v u/\∀H,Rep K H aT v)
 (y6:∃u,mg SX=So u/\∃v,RelV v u/\∀H,Rep K H Hi v)
 (y7:∃u,mg HM=So u/\∃v,RelV v u/\∀H,Rep K H (.tup K2) v)
 (y8:∃u,mg Rp=So u/\∃v,RelV v u/\∀H,Rep K H QaV v)
 (xx0:∀A,ExcC An Cj)
 (xx1:∀A,ExcC An Ck)
 (xx2:∀A,ExcC An Gm)
 (xx3:∀A,ExcC An Cm)
 (xt0:∀A,Takes An Kz cl)
 (xi0:∀A,IsaC An Dz cl)
 (xi1:∀A,IsaC An DA cl)
 (xi2:∀A,IsaC An Cj cl)
 (xi3:∀A,IsaC An Dy cl)
 (xi4:∀A,IsaC An Dx cl)
 (xi5:∀A,IsaC An Ck cl)
 (xi6:∀A,IsaC An Gm cl)
 (xi7:∀A,IsaC An Dw cl)
 (xi8:∀A,IsaC An Cm cl)
 (xi9:∀A,IsaC An ET cl)
 (hD:HasD K mg TT)
 {C:Addr} (cl_:aB) (hC:PySem.W.nsIn K mainGlobals (oS "Site")=So Bo) (hM:HasM K C TM) (hP:HasM K C TP) (hF:∀A,∀f∈nsS,FldC An f)
include hT hB y0 y1 y2 y3 y4 y5 y6 y7 y8 xx0 xx1 xx2 xx3 xt0 xi0 xi1 xi2 xi3 xi4 xi5 xi6 xi7 xi8 xi9 hD cl_ hC hM hP hF
theorem Jrh:∀k A,Told An BR Rf 34 cl:=by
 intro k A;obtain⟨f,g,D⟩:=hD.1;obtain⟨e,h,a⟩:=yX hT (j:=34) rfl;refine JrW D tolS (xt0 A) a ?_;cases k with
 |zero=>exact JnT
 |succ k=>exact foN (b:=fS) a λC=>JcR ⟨pV 4 hB rfl,xi0 _,xi1 _,xi2 _,xi3 _,xi4 _,xi5 _,xi6 _,xi7 _,xi8 _,xi9 _⟩ C
structure AllOk(P:Be)(w:A0)(K:Aj)(mg:Bi)(base:Heap)(C:Addr)(k:Nat):Prop where
 d:OkD P w K mg base defs k 0 T
 p:OkP P w K mg base defs C k 39 TP
 m:OkM P w K mg base defs bdefs C k 0 TM
theorem Jtu(o:O8)(A:Bd)(a:IY):Env An BR:=by have p:∀j e,TP[j]? =So e->CalleeP An BR (39+j) Ce e.1:=λj e h=>JeD cl_ (by rw[clS];exact hC) a hP o.p h;exact⟨λi _ h=>(by obtain⟨e,b,rfl⟩:=Option.map_eq_some_iff.mp h;exact Jll hT o.d a i b),hB,(by obtain⟨u,e,v,r,g⟩:=y0;exact DZ),(by obtain⟨u,e,v,r,g⟩:=y1;exact DZ),(by obtain⟨u,e,v,r,g⟩:=y2;exact DZ),(by obtain⟨u,e,v,r,g⟩:=y3;exact DZ),(by obtain⟨u,e,v,r,g⟩:=y4;exact DZ),(by obtain⟨u,e,v,r,g⟩:=y5;exact DZ),(by obtain⟨u,e,v,r,g⟩:=y6;exact DZ),(by obtain⟨u,e,v,r,g⟩:=y7;exact DZ),(by obtain⟨u,e,v,r,g⟩:=y8;exact DZ),xx0 A,xx1 A,xx2 A,xx3 A,xt0 A,xi0 A,xi1 A,xi2 A,xi3 A,xi4 A,xi5 A,xi6 A,xi7 A,xi8 A,xi9 A,hF A _ (by simp[nsS]),hF A _ (by simp[nsS]),hF A _ (by simp[nsS]),p 0 _ rfl,p 1 _ rfl,p 2 _ rfl,p 3 _ rfl,p 4 _ rfl,Jrh (base:=base) hT hB y0 y1 y2 y3 y4 y5 y6 y7 y8 xx0 xx1 xx2 xx3 xt0 xi0 xi1 xi2 xi3 xi4 xi5 xi6 xi7 xi8 xi9 hD cl_ hC hM hP hF k A⟩
theorem JpZ(o:O8)(A:Bd)(a:IY):EnvB An BR BO:=by
 have b:PySem.W.nsIn K mainGlobals Ce=So Bo:=by rw[clS];exact hC
 have m:∀j e,TM[j]? =So e->CalleeB An BO (0+j) Ce e.1:=λj e h=>Jew cl_ b a hM o.m h;exact⟨Jtu hT hB y0 y1 y2 y3 y4 y5 y6 y7 y8 xx0 xx1 xx2 xx3 xt0 xi0 xi1 xi2 xi3 xi4 xi5 xi6 xi7 xi8 xi9 hD cl_ hC hM hP hF o A a,m 0 _ rfl,m 1 _ rfl,m 2 _ rfl,m 3 _ rfl,m 4 _ rfl⟩
theorem JtU:∀k,AllOk P w K mg base C k:=by
 intro k;induction k with
 |zero=>exact⟨JiN _ _,JiX _ _,Jig _ _⟩
 |succ k i=>have g:=JpZ hT hB y0 y1 y2 y3 y4 y5 y6 y7 y8 xx0 xx1 xx2 xx3 xt0 xi0 xi1 xi2 xi3 xi4 xi5 xi6 xi7 xi8 xi9 hD cl_ hC hM hP hF i;have E:∀A,Room Dp A->Env An BR:=λA h=>(g A h).toEnv;exact⟨foAll E T NL 0 (λe=>(dAll.1 e).1) Ab,⟨foP (N:=NP.getD 0 []) (M:=[]) (b:=kS) E λe=>(dAll.1 e).2.1,foP (N:=NP.getD 1 []) (M:=[]) (b:=oR) E λe=>(dAll.1 e).2.2.1,foP (N:=NP.getD 2 []) (M:=[]) (b:=JvY) E λe=>(dAll.1 e).2.2.2.1,foP (N:=NP.getD 3 []) (M:=[]) (b:=Jlz) E λe=>(dAll.1 e).2.2.2.2.1,foP (N:=NP.getD 4 []) (M:=[]) (b:=Jha) E λe=>(dAll.1 e).2.2.2.2.2.1,trivial⟩,⟨foB (N:=NM_.getD 0 []) (b:=JZ) g λe C a f=>(dAll.2 e f).1 C a,foB (N:=NM_.getD 1 []) (b:=xR) g λe C a f=>(dAll.2 e f).2.1 C a,foB (N:=NM_.getD 2 []) (b:=nQ) g λe C a f=>(dAll.2 e f).2.2.1 C a,foB (N:=NM_.getD 3 []) (b:=eR) g λe C a f=>(dAll.2 e f).2.2.2.1 C a,foB (N:=NM_.getD 4 []) (b:=vR) g λe C a f=>(dAll.2 e f).2.2.2.2.1 C a,trivial⟩⟩
theorem all2(k:Nat):∀A,Room Dp A->EnvB An BR BO:=JpZ hT hB y0 y1 y2 y3 y4 y5 y6 y7 y8 xx0 xx1 xx2 xx3 xt0 xi0 xi1 xi2 xi3 xi4 xi5 xi6 xi7 xi8 xi9 hD cl_ hC hM hP hF (JtU hT hB y0 y1 y2 y3 y4 y5 y6 y7 y8 xx0 xx1 xx2 xx3 xt0 xi0 xi1 xi2 xi3 xi4 xi5 xi6 xi7 xi8 xi9 hD cl_ hC hM hP hF k)
end
noncomputable abbrev csP:List (Addr×Addr):=[Qda,Qdb]
noncomputable def tqs:Addr->Option Str:=λp=>if p=556 then So ((oS "law")++".<locals>."++"<lambda>")else if p=539 then So ((oS "_law_did")++".<locals>."++"<lambda>")else No
theorem JvV:∀p q,tqs p=So q->∃c,(c,p)∈csP:=λp q z=>by
 unfold tqs at z
 split at z
 ·rename_i e;subst e;exact⟨560,by simp⟩
 ·split at z
  ·rename_i e;subst e;exact⟨543,by simp⟩
  ·cases z
theorem Jtv{l:Qd4}{h:Heap}{fa:Addr}(X:K.In h)(G:RG)(hfa:mg "law"=So (.ref fa))(dT:DsIn K T)(dL:DsIn K TL)(dD:DsIn K TT)(dO:DsIn K TO)(dR:DsIn K TR_)(ht:PySem.W.tabIn K "_law_did"=So Qda)(ht2:PySem.W.tabIn K "law"=So Qdb)(dB:BlIn K B_)
  {t0:Tok} (y0:PySem.W.nsIn K mainGlobals QT=So (So (.str IX t0)))
  {t1:Tok} (y1:PySem.W.nsIn K mainGlobals Sl=So (So (.int 4 t1)))
  {t2:Tok} (y2:PySem.W.nsIn K mainGlobals Sk=So (So (.int 4 t2)))
  {t3:Tok} (y3:PySem.W.nsIn K mainGlobals Ru=So (So (.int 6 t3)))
  {t4:Tok} (y4:PySem.W.nsIn K mainGlobals Rg=So (So (.int 8 t4)))
  {t5:Tok} (y5:PySem.W.nsIn K mainGlobals Rt=So (So (.int 8 t5)))
  {ya6:Addr} {yn6:Nat} {ys6:EJ} {t6_0 t6_1 t6_2:Tok} (y6:PySem.W.nsIn K mainGlobals SX=So (So (.ref ya6))) (v6:K.lookup ya6=So ⟨.type "tuple",No,.seq #[.str Hy t6_0,.str K5 t6_1,.str W8 t6_2] yn6,ys6⟩)
  {ya7 ya7_0 ya7_1 ya7_2:Addr} {yn7 yn7_0 yn7_1 yn7_2:Nat} {ys7 ys7_0 ys7_1 ys7_2:EJ} {t7_0_0 t7_0_1 t7_1_0 t7_1_1 t7_2_0 t7_2_1:Tok} (y7:PySem.W.nsIn K mainGlobals HM=So (So (.ref ya7))) (v7:K.lookup ya7=So ⟨.type "tuple",No,.seq #[.ref ya7_0,.ref ya7_1,.ref ya7_2] yn7,ys7⟩) (v7_0:K.lookup ya7_0=So ⟨.type "tuple",No,.seq #[.str Hy t7_0_0,.str Qc6 t7_0_1] yn7_0,ys7_0⟩) (v7_1:K.lookup ya7_1=So ⟨.type "tuple",No,.seq #[.str K5 t7_1_0,.str Qc7 t7_1_1] yn7_1,ys7_1⟩) (v7_2:K.lookup ya7_2=So ⟨.type "tuple",No,.seq #[.str W8 t7_2_0,.str Qc8 t7_2_1] yn7_2,ys7_2⟩)
  {t8:Tok} (y8:PySem.W.nsIn K mainGlobals Rp=So (So (.str J8 t8)))
  {y o x B I u q U F m:Addr}
  (ec_BadLead:PySem.W.nsIn K mainGlobals Dz=So QdN)
  (ec_BadValues:PySem.W.nsIn K mainGlobals DA=So (So (.ref o)))
  (W:PySem.W.nsIn K mainGlobals Cj=So (So Ca))
  (ec_NoHole:PySem.W.nsIn K mainGlobals Dy=So (So (.ref B)))
  (ec_NoRow:PySem.W.nsIn K mainGlobals Dx=So (So (.ref I)))
  (ec_NoSite:PySem.W.nsIn K mainGlobals Ck=So (So (.ref u)))
  (Y:PySem.W.nsIn K mainGlobals Gm=So (So (.ref q)))
  (ec_RouteError:PySem.W.nsIn K mainGlobals Kz=So (So (.ref U)))
  (ec_Taken:PySem.W.nsIn K mainGlobals Dw=So (So (.ref F)))
  (O:PySem.W.nsIn K mainGlobals Cm=So (So (.ref m)))
  (xc_NoBack:PySem.W.excIn K x Ny "ValueError.__new__"=To)
  (xc_NoSite:PySem.W.excIn K u Ny "ValueError.__new__"=To)
  (xc_NoText:PySem.W.excIn K q Ny "ValueError.__new__"=To)
  (xc_TooMany:PySem.W.excIn K m Ny "ValueError.__new__"=To)
  (gX:exB K T8=To)
  (gR_RouteError:takB K U T8=To)
  (gI:kitB K [(Dz,.ref y),(DA,.ref o),(Cj,.ref x),(Dy,.ref B),(Dx,.ref I),(Ck,.ref u),(Gm,.ref q),(Dw,.ref F),(Cm,.ref m),(ET,.type "ValueError")] T8=To)
  {C:Addr} (aC:PySem.W.nsIn K mainGlobals (oS "Site")=So Bo) (pg:PySem.W.plainGet K C X5=To) (hd:PySem.W.hasDictIn K C=To) (po:PySem.W.plainOver K C=To) (sa:PySem.W.findIn K AX "__setattr__"=So TQ) (mk:PySem.W.makesIn K C=To) (kc:PySem.W.keepIn K AX=To)
  (n1:PySem.W.findIn K AX K4=So No) (n2:PySem.W.findIn K AX Me=So No) (n3:PySem.W.findIn K AX MG=So No) (zB:PySem.W.nsIn K mainGlobals (oS "Board")=So No)
  (mI:∃f g,Fun K Qb8 (oS "Site.__init__") uW f g/\Meth K C Qb8 f) (mM:MsIn K C TM) (mP:MsIn K C TP)
  :∃fd:FuncData,(∀(s:Ak)(v:Al),BindsTo s fd ⟨[v],[]⟩ [(BP,v)])/\∀base:Heap,K.In base->base.Ns mainGlobals mg->(∀c∈csP,LamB mg base c.1 c.2)->FnOk Z0 w K mg base QR 42 fa fd [BP] (sU K tqs):=by
 have X0:∀base A,ExcC AL Cj:=λbase A=>⟨⟨x,W,ZG X G W,_,_,_,_,xc_NoBack,xO⟩⟩;have X1:∀base A,ExcC AL Ck:=λbase A=>⟨⟨u,ec_NoSite,ZG X G ec_NoSite,_,_,_,_,xc_NoSite,xO⟩⟩;have X2:∀base A,ExcC AL Gm:=λbase A=>⟨⟨q,Y,ZG X G Y,_,_,_,_,xc_NoText,xO⟩⟩;have X3:∀base A,ExcC AL Cm:=λbase A=>⟨⟨m,O,ZG X G O,_,_,_,_,xc_TooMany,xO⟩⟩;have T0:∀base A,Takes AL Kz cl:=λbase A=>by have z:=JoR (G:=AL) X G gX gR_RouteError (ZG X G ec_RouteError);exact z
 have I0:∀base A,IsaC AL Dz cl:=λbase A=>by have z:=gD (G:=AL) (t:=Dz) (v:=.ref y) gI gX rfl (.inl (ZG X G ec_BadLead)) QaP;exact z
 have I1:∀base A,IsaC AL DA cl:=λbase A=>by have z:=gD (G:=AL) (t:=DA) (v:=.ref o) gI gX rfl (.inl (ZG X G ec_BadValues)) (.tail _ QaP);exact z
 have I2:∀base A,IsaC AL Cj cl:=λbase A=>by have z:=gD (G:=AL) (t:=Cj) (v:=.ref x) gI gX rfl (.inl (ZG X G W)) Uc;exact z
 have I3:∀base A,IsaC AL Dy cl:=λbase A=>by have z:=gD (G:=AL) (t:=Dy) (v:=.ref B) gI gX rfl (.inl (ZG X G ec_NoHole)) (.tail _ Uc);exact z
 have I4:∀base A,IsaC AL Dx cl:=λbase A=>by have z:=gD (G:=AL) (t:=Dx) (v:=.ref I) gI gX rfl (.inl (ZG X G ec_NoRow)) Sj;exact z
 have I5:∀base A,IsaC AL Ck cl:=λbase A=>by have z:=gD (G:=AL) (t:=Ck) (v:=.ref u) gI gX rfl (.inl (ZG X G ec_NoSite)) (.tail _ Sj);exact z
 have I6:∀base A,IsaC AL Gm cl:=λbase A=>by have z:=gD (G:=AL) (t:=Gm) (v:=.ref q) gI gX rfl (.inl (ZG X G Y)) WZ;exact z
 have I7:∀base A,IsaC AL Dw cl:=λbase A=>by have z:=gD (G:=AL) (t:=Dw) (v:=.ref F) gI gX rfl (.inl (ZG X G ec_Taken)) QQ;exact z
 have I8:∀base A,IsaC AL Cm cl:=λbase A=>by have z:=gD (G:=AL) (t:=Cm) (v:=.ref m) gI gX rfl (.inl (ZG X G O)) (.tail _ QQ);exact z
 have I9:∀base A,IsaC AL ET cl:=λbase A=>by have z:=gD (G:=AL) (t:=ET) (v:=.ty "ValueError") gI gX rfl (.inr ⟨pV 0 (xT X G dB) rfl,by decide+kernel,by decide+kernel⟩) (.tail _ (.tail _ QQ));exact z
 have cl_:Cls K C:=⟨pg,hd,po,sa⟩;have hF:∀base A,∀f∈nsS,FldC AL f:=λbase A f hf=>by
  simp only[nsS,Zg,ZC,fA]at hf;rcases hf with rfl|rfl|rfl
  ·exact tX zB aC cl_ n1 A
  ·exact tX zB aC cl_ n2 A
  ·exact tX zB aC cl_ n3 A
 have hM:=oW mM bndM;have hP:=oW mP bndP;have hT:=sL X G dT bnd;have hD:=sL X G dD bndT;obtain⟨⟨fL,gL,L⟩,_⟩:=dL;have e:=hfa.symm.trans (ZG X G L.a);cases e;obtain⟨⟨fO,gO,DO⟩,_⟩:=sL X G dO bndO;have hcode:gO.code=.ref 543:=by obtain⟨_,_,_,_,_,_,_,_,_,_,lk,_⟩:=DO.F.ex;exact PySem.W.law_code X G ht DO.g (X _ _ lk) rfl
 have hcodeL:gL.code=.ref 560:=by obtain⟨_,_,_,_,_,_,_,_,_,_,lk,_⟩:=L.F.ex;exact PySem.W.law_code X G ht2 hfa (X _ _ lk) rfl
 refine⟨gL,?_,λbase _ _ LBs=>?_⟩
 ·obtain⟨_,_,kV,doc,pm,an,cdv,ct,_,e,_⟩:=L.F.ex;subst e;exactλs v=>.of_eq rfl
 ·have LB:=LBs Qda Af;have LB2:=LBs Qdb Af;have Z9:=all2 (P:=Z0) (w:=w) (base:=base) hT (xT X G dB) ⟨_,ZG X G y0,.str IX,AJ,λH=>rfl⟩ ⟨_,ZG X G y1,.int 4,AJ,λH=>rfl⟩ ⟨_,ZG X G y2,.int 4,AJ,λH=>rfl⟩ ⟨_,ZG X G y3,.int 6,AJ,λH=>rfl⟩ ⟨_,ZG X G y4,.int 8,AJ,λH=>rfl⟩ ⟨_,ZG X G y5,.int 8,AJ,λH=>rfl⟩ ⟨_,ZG X G y6,.ref ya6,rfl,λH=>Rd.nK (.inl y6) (J:=[Hu,K1,F6]) (xs:=[.str Hy,.str K5,.str W8]) v6 Af (.cons AJ KC) (λH=>⟨_,_,rfl,rfl,W4⟩) H⟩ ⟨_,ZG X G y7,.ref ya7,rfl,λH=>Rd.nK (.inl y7) (J:=K2) (xs:=[.ref ya7_0,.ref ya7_1,.ref ya7_2]) v7 Af (.cons rfl (.cons rfl MC)) (λH=>⟨_,_,rfl,(Rd.nK (.inr ⟨ya7,_,_,_,y7,v7,rfl,rfl,by simp⟩) (J:=[Hu,(.str Qc6)]) (xs:=[.str Hy,.str Qc6]) v7_0 Af KC Ii H),⟨_,_,rfl,(Rd.nK (.inr ⟨ya7,_,_,_,y7,v7,rfl,rfl,by simp⟩) (J:=[K1,(.str Qc7)]) (xs:=[.str K5,.str Qc7]) v7_1 Af KC Ii H),⟨_,_,rfl,(Rd.nK (.inr ⟨ya7,_,_,_,y7,v7,rfl,rfl,by simp⟩) (J:=[F6,(.str Qc8)]) (xs:=[.str W8,.str Qc8]) v7_2 Af KC Ii H),rfl⟩⟩⟩) H⟩ ⟨_,ZG X G y8,.str J8,AJ,λH=>rfl⟩ (X0 base) (X1 base) (X2 base) (X3 base) (T0 base) (I0 base) (I1 base) (I2 base) (I3 base) (I4 base) (I5 base) (I6 base) (I7 base) (I8 base) (I9 base) hD cl_ aC hM hP (hF base);have EB:=Z9 12;have EB2:=Z9 11;have hO:=foBL (k:=11) EB2 DO hcode LB (N:=JeC) (b:=JC) (i:=5) λhr C hx La h0=>Jkh EB2 hr C hx La h0;obtain⟨fI,gI_,FI,mt_⟩:=mI;have hi:FnOk Z0 w K mg base QR 1 fI gI_ [oS "self"] (spNS K):=JoE FI (fE Ab) rfl (hF base) λX A C=>by have:=Jun C;rw[C.K]at this;exact this
  have MS:∀A,Room 2 A->MakeS AL:=λA hr=>⟨⟨C,fI,gI_,_,⟨mk,mt_.at_,mt_.fn,kc⟩,hi,hr,ZG X G aC,aC,FI.binds λ_ _ _ _ _ _ us hl=>match us,hl with|[_],_=>rfl⟩⟩;obtain⟨⟨fR,gR_,DR⟩,_⟩:=sL X G dR bndR;have hR:FnOk Z0 w K mg base QR 36 fR gR_ [B2] (spQ K mg Rr):=fn_tp (λJ a h=>if_neg h) ((fn_rd (j:=35) (i:=iR) (b1:=nL) (b2:=pL) (k:=11) DR.F (fE (N:=Jjt) Ab) rfl A9 λY9 A H0 C hr hx h0=>Jpq (EB2 A Ko) (MS A Ko) C hx h0).imp λvs H Q E h=>by
   obtain⟨hl,h0,J,r,g⟩:=h;have hz:=Xz;refine⟨hl,h0,J,r,λa=>?_⟩;have g:=g a;rw[show Rr J a=runR R1 Q1 nR iR nL pL J a from if_pos 'd']at g;exact g)
  have EL:∀A,Room (3*12+5) A->EnvL AL Qcz OT Rr 539 ((oS "_law_did")++".<locals>."++"<lambda>"):=λA hr=>⟨EB A Ko,MS A Ko,⟨⟨36,fR,gR_,_,hR,(hr.mono (show 3*12+2<=3*12+5 by lia)).in1.in1,DR.g,DR.F.kp,DR.b⟩⟩,⟨⟨3*13,fO,gO,_,hO,hr.in1.in1,DO.g,DO.F.kp,DO.b⟩⟩⟩;exact JqZ (j:=3*12+5) (t:=λX H0=>tLaw X H0 (RL Qcz OT Rr)) (P2:=539) L.F hcodeL LB2 rfl rfl (fE (N:=JuG) Ab) (M:=[]) A9 A9 (λX A H0 C hr hx La tb h0=>d_law (k:=12) EB hr (EL A hr) C hx La tb h0) λX H0 H Z D ns hK hl e hQ=>by subst hK;exact⟨_,e,Jny ns hl,hQ⟩
end K72
end _r
namespace PySem.W.Fast
theorem tw16928829428482097469:0=0:=rfl
theorem tw14754814319754600769:0=0:=rfl
theorem tw3892815638158997782:0=0:=rfl
theorem tw8282911200403893922:0=0:=rfl
theorem tw6258727982398180283:0=0:=rfl
theorem tw2373683461258837683:0=0:=rfl
theorem tw16944949130984880981:0=0:=rfl
theorem tw16069716207944119913:0=0:=rfl
theorem tw12777901197773374420:0=0:=rfl
theorem tw8064959546606425271:0=0:=rfl
theorem tw15693259412762649936:0=0:=rfl
theorem tw17687292372352224801:0=0:=rfl
theorem tw11762706638485849684:0=0:=rfl
theorem tw5570525287563756830:0=0:=rfl
theorem tw9822257513974641142:0=0:=rfl
theorem tw10434746947146232195:0=0:=rfl
theorem tw4531222617826882492:0=0:=rfl
theorem tw12952378284074402227:0=0:=rfl
theorem tw10476870363193249872:0=0:=rfl
theorem tw9959175046855002284:0=0:=rfl
theorem tw7586120913711175320:0=0:=rfl
theorem tw7718987335731202042:0=0:=rfl
theorem tw8574864358182909583:0=0:=rfl
theorem tw12883488433831673689:0=0:=rfl
theorem tw2843802514354401219:0=0:=rfl
theorem tw7920731922342995249:0=0:=rfl
theorem tw8144875125041507707:0=0:=rfl
theorem tw11830579605499676260:0=0:=rfl
theorem tw18386159526004562261:0=0:=rfl
theorem tw12589470805709692529:0=0:=rfl
theorem tw1804095973916338831:0=0:=rfl
theorem tw1864217074014967104:0=0:=rfl
theorem tw7960719027657190714:0=0:=rfl
theorem tw2594365872788671987:0=0:=rfl
theorem tw11085204639260942769:0=0:=rfl
theorem tw11018503429744380381:0=0:=rfl
theorem tw9887330522366150306:0=0:=rfl
theorem tw4421236719592279950:0=0:=rfl
theorem tw15675204092614036995:0=0:=rfl
theorem tw10422364934394967412:0=0:=rfl
theorem tw15845934941496515087:0=0:=rfl
theorem tw14687089719213515906:0=0:=rfl
theorem tw10644683978917456119:0=0:=rfl
theorem tw15209985291240361988:0=0:=rfl
theorem tw2125203408523660516:0=0:=rfl
theorem tw10269061491314202653:0=0:=rfl
theorem tw3448959519176039292:0=0:=rfl
theorem tw4587695076224390585:0=0:=rfl
theorem tw16612169731475627431:0=0:=rfl
theorem tw5627077429296576921:0=0:=rfl
theorem tw17283965874643965828:0=0:=rfl
theorem tw8159666584734761154:0=0:=rfl
theorem tw8508319875124923767:0=0:=rfl
theorem tw12447695910612330851:0=0:=rfl
theorem tw1317379608680123676:0=0:=rfl
theorem tw3540550644253008167:0=0:=rfl
theorem tw2643245010094379804:0=0:=rfl
theorem tw3555924309473722968:0=0:=rfl
theorem tw8330169030507275393:0=0:=rfl
theorem tw12339155619431536520:0=0:=rfl
theorem tw11611340528682557104:0=0:=rfl
theorem tw1978402185022216366:0=0:=rfl
theorem tw11453644405031131708:0=0:=rfl
theorem tw9970707438231268293:0=0:=rfl
theorem tw12185327575696877361:0=0:=rfl
theorem tw10298991461290219368:0=0:=rfl
theorem tw12682646578264599001:0=0:=rfl
theorem tw12511304131380219966:0=0:=rfl
theorem tw3002319224358542618:0=0:=rfl
theorem tw8634903665034795679:0=0:=rfl
theorem tw4091703273585842886:0=0:=rfl
theorem tw10914504829905190222:0=0:=rfl
theorem tw14238240546862649509:0=0:=rfl
theorem tw13704059386400023939:0=0:=rfl
theorem tw7393823069958488490:0=0:=rfl
theorem tw1607671785110630310:0=0:=rfl
theorem tw10266399310990440241:0=0:=rfl
theorem tw5611394920683383339:0=0:=rfl
theorem tw5982825880446229291:0=0:=rfl
theorem tw390090741010495946:0=0:=rfl
theorem tw17622101856928483647:0=0:=rfl
theorem tw4073151312811818936:0=0:=rfl
theorem tw6134309898841892889:0=0:=rfl
theorem tw13904655843362693374:0=0:=rfl
theorem tw13797621609310468616:0=0:=rfl
theorem tw12439961689919381736:0=0:=rfl
theorem tw17070939399196676925:0=0:=rfl
theorem tw4579972451009951637:0=0:=rfl
theorem tw15306436207422091194:0=0:=rfl
theorem tw13483339964704023523:0=0:=rfl
theorem tw14604471517255002664:0=0:=rfl
theorem tw14766374806747462813:0=0:=rfl
theorem tw11297032514054370196:0=0:=rfl
theorem tw17833782665662451988:0=0:=rfl
theorem tw8383654646670522375:0=0:=rfl
theorem tw7937590528295951318:0=0:=rfl
theorem tw15316420670568248265:0=0:=rfl
theorem tw14602304698309566987:0=0:=rfl
theorem tw5841384600772258968:0=0:=rfl
theorem tw2918422837255704901:0=0:=rfl
theorem tw8329109827267038200:0=0:=rfl
theorem tw6977320010484122715:0=0:=rfl
theorem tw10356051212145373323:0=0:=rfl
theorem tw3460344876706738788:0=0:=rfl
theorem tw1884309316147359756:0=0:=rfl
theorem tw6918979202852736137:0=0:=rfl
theorem tw6796428932176936438:0=0:=rfl
theorem tw5602373915939081715:0=0:=rfl
theorem tw2956678908498081417:0=0:=rfl
theorem tw10288241931109561549:0=0:=rfl
theorem tw14497375422954182963:0=0:=rfl
theorem tw2590806128520230590:0=0:=rfl
theorem tw17072792461428265060:0=0:=rfl
theorem tw17086398504720597453:0=0:=rfl
theorem tw3203281307778804860:0=0:=rfl
theorem tw11622633475422330857:0=0:=rfl
theorem tw7204544424916968029:0=0:=rfl
theorem tw1138473742630258831:0=0:=rfl
theorem tw11249052727404549892:0=0:=rfl
theorem tw11537101913509734844:0=0:=rfl
theorem tw15571423413510805138:0=0:=rfl
theorem tw11749805850934818336:0=0:=rfl
theorem tw3507725290624577390:0=0:=rfl
theorem tw16722042421854495420:0=0:=rfl
theorem tw9758158056011084481:0=0:=rfl
theorem tw12167789008604077836:0=0:=rfl
theorem tw2566759604015464221:0=0:=rfl
theorem tw9428544244126622156:0=0:=rfl
theorem tw2134528433300534363:0=0:=rfl
theorem tw1111186290323191507:0=0:=rfl
theorem tw1921010684420016319:0=0:=rfl
theorem tw13278317913523921862:0=0:=rfl
theorem tw10558655375034541959:0=0:=rfl
theorem tw13265238954943200377:0=0:=rfl
theorem tw3509380480122164877:0=0:=rfl
theorem tw8430643029227722916:0=0:=rfl
theorem tw13697159058800579884:0=0:=rfl
theorem tw1055724810538801005:0=0:=rfl
theorem tw16690386295767273896:0=0:=rfl
theorem tw17315029470135580967:0=0:=rfl
theorem tw1452543374230053147:0=0:=rfl
theorem tw2086109296715226417:0=0:=rfl
theorem tw18073542592367130906:0=0:=rfl
theorem tw14223746631699140454:0=0:=rfl
theorem tw7412449882372475968:0=0:=rfl
theorem tw4389166750542762135:0=0:=rfl
theorem tw15242182638616001794:0=0:=rfl
theorem tw3581595192801626305:0=0:=rfl
theorem tw542028857978534270:0=0:=rfl
theorem tw2453047607873216458:0=0:=rfl
theorem tw9230227588836583272:0=0:=rfl
theorem tw14531374391126892189:0=0:=rfl
theorem tw8740762446295235597:0=0:=rfl
theorem tw6826464907201768394:0=0:=rfl
theorem tw12982660054527945000:0=0:=rfl
theorem tw4918710118188769938:0=0:=rfl
theorem tw1545425606468765540:0=0:=rfl
theorem tw14921887624412850088:0=0:=rfl
theorem tw17570569853358695228:0=0:=rfl
theorem tw3030245351629752236:0=0:=rfl
theorem tw18231271549967644096:0=0:=rfl
theorem tw1059944146967048783:0=0:=rfl
theorem tw7750080748239323156:0=0:=rfl
theorem tw18255812973170173196:0=0:=rfl
theorem tw8178955393764674339:0=0:=rfl
theorem tw9035629856372763308:0=0:=rfl
theorem tw11801792060150725456:0=0:=rfl
theorem tw6146813491956503361:0=0:=rfl
theorem tw10126262183896180235:0=0:=rfl
theorem tw5277867640759152398:0=0:=rfl
theorem tw12512389290914983656:0=0:=rfl
end PySem.W.Fast
open PySem PySem.W PyProof.Rows _r
theorem PySem.Challenge.cw_routeboard_k72_whole_site_texts_holds : PySem.Challenge.rw_routeboard_k72_whole_site_texts.Holds := by
 w_on;o_law;k_head;(case hw=>w_witness2)
 k_fill
 refine Rd.Jpr (l:=PySem.Challenge.rw_routeboard_k72_whole_site_texts) (n:=63) (k:=42) (x:=(oS "_law_script")) (tq:=K72.tqs) (cs:=[(543,539),(560,556)]) (CX:=fun w=>Rd.CXr PySem.Challenge.rw_routeboard_k72_whole_site_texts.prog w) (sp:=fun w=>Rd.sU _ K72.tqs) rfl 'E' rfl ⟨rfl,by decide,by decide⟩ K72.JvV (fun w h Y=>⟨PySem.W.km_in_of Y,hH.mpr ⟨PySem.W.km_tabs_of Y 539 'k',hH.mpr ⟨PySem.W.km_tabs_of Y 556 'k',fun _ h=>nomatch h⟩⟩⟩) (fun _=>hH.mpr ⟨by kernel_rfl,hH.mpr ⟨by kernel_rfl,fun _ h=>nomatch h⟩⟩) (fun _=>hH.mpr ⟨by kernel_rfl,hH.mpr ⟨by kernel_rfl,fun _ h=>nomatch h⟩⟩) ?F (fun w H a ns hl hT hS=>⟨hT,a,ns,rfl,hS,hl,fun _=>rfl⟩) fun _ _ _ _ _ z=>Rd.noCX z
 case F=>
  intro w mg fa h KX G hmg
  refine' K72.Jtv KX G hmg ?dT ?dL ?dD ?dO ?dR ?ht ?ht2 ?dB ?y0 ?y1 ?y2 ?y3 ?y4 ?y5 ?y6 ?v6 ?y7 ?v7 ?v7_0 ?v7_1 ?v7_2 ?y8 ?ec_BadLead ?ec_BadValues ?ec_NoBack ?ec_NoHole ?ec_NoRow ?ec_NoSite ?ec_NoText ?ec_RouteError ?ec_Taken ?ec_TooMany ?xc_NoBack ?xc_NoSite ?xc_NoText ?xc_TooMany ?gX ?gR_RouteError ?gI ?aC ?pg ?hd ?po ?sa ?mk ?kc ?n1 ?n2 ?n3 ?zB ?mI ?mM ?mP
  (case dT=>(repeat' refine fB ⟨_,_,Rd.def_mk '[' '[' '[' '['⟩ ?_);exact gA)
  (case dL=>(repeat' refine fB ⟨_,_,Rd.def_mk '[' '[' '[' '['⟩ ?_);exact gA)
  (case dD=>(repeat' refine fB ⟨_,_,Rd.def_mk '[' '[' '[' '['⟩ ?_);exact gA)
  (case dO=>(repeat' refine fB ⟨_,_,Rd.def_mk '[' '[' '[' '['⟩ ?_);exact gA)
  (case dR=>(repeat' refine fB ⟨_,_,Rd.def_mk '[' '[' '[' '['⟩ ?_);exact gA)
  (case ht=>kernel_rfl)
  (case ht2=>kernel_rfl)
  (case dB=>(repeat' refine fB '[' ?_);exact gA)
  (case y0=>k_is)
  (case y1=>k_is)
  (case y2=>k_is)
  (case y3=>k_is)
  (case y4=>k_is)
  (case y5=>k_is)
  (case y6=>k_is)
  (case v6=>k_is)
  (case y7=>k_is)
  (case v7=>k_is)
  (case v7_0=>k_is)
  (case v7_1=>k_is)
  (case v7_2=>k_is)
  (case y8=>k_is)
  (case ec_BadLead=>k_is)
  (case ec_BadValues=>k_is)
  (case ec_NoBack=>k_is)
  (case ec_NoHole=>k_is)
  (case ec_NoRow=>k_is)
  (case ec_NoSite=>k_is)
  (case ec_NoText=>k_is)
  (case ec_RouteError=>k_is)
  (case ec_Taken=>k_is)
  (case ec_TooMany=>k_is)
  (case xc_NoBack=>k_exc)
  (case xc_NoSite=>k_exc)
  (case xc_NoText=>k_exc)
  (case xc_TooMany=>k_exc)
  (case gX=>kernel_rfl)
  (case gR_RouteError=>kernel_rfl)
  (case gI=>kernel_rfl)
  (case aC=>k_is)
  (case pg=>k_is)
  (case hd=>k_is)
  (case po=>k_is)
  (case sa=>k_is)
  (case mk=>k_is)
  (case kc=>k_is)
  (case n1=>k_is)
  (case n2=>k_is)
  (case n3=>k_is)
  (case zB=>k_is)
  (case mI=>exact Rd.meth_mk '[' '[' '[' '[' '[')
  (case mM=>(repeat' refine fB (Rd.meth_mk '[' '[' '[' '[' '[') ?_);exact gA)
  (case mP=>(repeat' refine fB (Rd.meth_mk '[' '[' '[' '[' '[') ?_);exact gA)
