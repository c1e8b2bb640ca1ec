import PyProof.Rows.All
import Wide.All
import OpenK.AllK
import Wide.FinOn
import Lean
import PyProof.EqAt
import PyProof.EqKinds
import PyProof.TupleCall
import PyProof.DictRoadsH
import PyProof.NeKinds
import PyProof.StrBlockI
import PyProof.SliceStr2
import PyProof.StrLaws
import PyProof.ListMulRoad
import PyProof.FactsAll.tuple
import PyProof.SetKind
import PyProof.DictKinds
import PyProof.Rows.SetFrom
import PyProof.Rows.SortStr
import PyProof.FactsAll.set
import KE.KDictOf
import PyProof.AttrMissHeap
import PyProof.WalksMore
import PyProof.ListRange
import PyProof.TupleOfSeq
import PyProof.Rows.TupDisplay
import PyProof.DictItems
import KE.KMinBuiltin
import KE.KTupSum
import PyProof.DictWalks
import KE.KSortTup
import PyProof.StrLawsTight
import PyProof.StrLawsChain
import PyProof.StrLawsJoin
import PyProof.StrLawsFirst
import PyProof.StrBlockH
import PyProof.StrCalls2
import PyProof.MeetsStr2
import PyProof.Rows.StrNews2
import PyProof.Conv_int_bool
import KE.KEqDict
import PySem.Challenge.RW_routeboard_k75_whole_sites_and_tables
set_option Elab.async false
set_option linter.all false
set_option maxRecDepth 100000
set_option maxHeartbeats 0
set_option bootstrap.genMatcherCode false
set_option compiler.extract_closed false
set_option backward.eqns.nonrecursive false
open Option renaming some→So,none→No
open Bool renaming true→To,false→Fo
open PySem.Str renaming ofString→oS
section
open Lean
def sgM(a:Array Syntax):Syntax:=if a.size==1 then a[0]! else mkNode `Lean.Parser.Term.app #[a[0]!,mkNullNode (a.extract 1 a.size)]
def sgA(k:Name)(s:String)(c:List Char):Syntax:=mkNode k #[mkAtom s,mkIdent (((String.ofList c).splitOn ".").foldl .str .anonymous)]
def sgI(c:Char):Bool:=c.isAlphanum||"_.'₀₁₂σκ".toList.contains c
def sgO(a b:Syntax)(k:Name)(s:String):Syntax:=mkNode k #[a,mkAtom s,b]
mutual
def sgP:Nat->Array Syntax->List Char->Syntax×List Char
|n+1,a,r=>match r with
 |' '::r=>sgP n a r
 |'('::r=>let p:=sgP n #[] r
  if p.2.head?==So ',' then let q:=sgP n #[] (p.2.drop 1);sgP n (a.push (mkNode `Lean.Parser.Term.tuple #[mkNode `Lean.Parser.Term.hygienicLParen #[mkAtom "(",mkNode `hygieneInfo #[mkIdent .anonymous]],mkNullNode #[p.1,mkAtom ",",mkNullNode #[q.1]],mkAtom ")"])) (q.2.drop 1)
  else sgP n (a.push p.1) (p.2.drop 1)
 |'['::']'::r=>sgP n (a.push (sgO (mkAtom "[") (mkAtom "]") `«term[_]» ""|>.setArg 1 (mkNullNode #[]))) r
 |'['::r=>let p:=sgL n #[] r;sgP n (a.push (sgO (mkAtom "[") (mkAtom "]") `«term[_]» ""|>.setArg 1 (mkNullNode p.1))) p.2
 |'⟨'::r=>let p:=sgL n #[] r;sgP n (a.push (mkNode `Lean.Parser.Term.anonymousCtor #[mkAtom "⟨",mkNullNode p.1,mkAtom "⟩"])) p.2
 |'?'::'_'::r=>sgP n (a.push (mkNode `Lean.Parser.Term.syntheticHole #[mkAtom "?",mkNode `Lean.Parser.Term.hole #[mkAtom "_"]])) r
 |'"'::r=>let p:=r.span (·!='"');sgP n (a.push (Syntax.mkStrLit (String.ofList p.1))) (p.2.drop 1)
 |'\''::c::r=>sgP n (a.push (Syntax.mkCharLit c)) (r.drop 1)
 |'.'::r=>let p:=r.span sgI;sgP n (a.push (sgA `Lean.Parser.Term.dotIdent "." p.1)) p.2
 |c::r=>if c==')'||c==','||c==']'||c=='⟩' then(sgM a,c::r)else
  if c.isDigit then let p:=(c::r).span Char.isDigit;sgP n (a.push (Syntax.mkNumLit (String.ofList p.1))) p.2 else
  if sgI c then let p:=(c::r).span sgI;let s:=String.ofList p.1
   if s=="fun" then let q:=p.2.span (·!='=');let b:=sgP n #[] (q.2.drop 2);let v:=((String.ofList q.1).splitOn " ").filter (·!="");(sgM (a.push (mkNode `Lean.Parser.Term.fun #[mkAtom "fun",mkNode `Lean.Parser.Term.basicFun #[mkNullNode (v.map fun x=>(sgP n #[] x.toList).1).toArray,mkNullNode #[],mkAtom "=>",b.1]])),b.2)else
   sgP n (a.push (if s=="_" then mkNode `Lean.Parser.Term.hole #[mkAtom s]else if s=="Prop" then mkNode `Lean.Parser.Term.prop #[mkAtom s]else(sgA .anonymous "" p.1).getArg 1)) p.2
  else let o:=(c::r).span (fun c=>!sgI c&&!" ([⟨?\"'".toList.contains c);let p:=sgP n #[] o.2;let s:=String.ofList o.1;(sgO (sgM a) p.1 (if s=="->" then `Lean.Parser.Term.arrow else .mkSimple ("term_"++s++"_")) s,p.2)
 |[]=>(sgM a,[])
|_,a,r=>(sgM a,r)
def sgL:Nat->Array Syntax->List Char->Array Syntax×List Char
|n+1,a,r=>let p:=sgP n #[] r;if p.2.head?==So ',' then sgL n (a++#[p.1,mkAtom ","]) (p.2.drop 1)else(a.push p.1,p.2.drop 1)
|_,a,r=>(a,r)
end
end
def sgT:List String:="вautoParam¦J.bl To¦O.var 2¦2So (tD Eo)¦4.ref C¦..ref s.heap.objs.size¦{i + 1¦Ð.inl rfl¦çofN ns¦ðc + 1¦Ć.dGet Fo¦ĮrunD defs c¦Ś.str HN¦νbackTo pos (starEach Gk X.env)¦еbackTo pos (starEach [] X.env)¦Ҝ.tup (.cons (.bi .idx CA Ap) (.cons (.call 45 (.cons A1 (.cons (.bi .add (.bi .add BK DU) (.bi .mul (.con (.int 30)) Ap)) HE))) .nil))¦Ɓs.heap.objs.size¦ƃJ.length¦Ɔits.toArray¦Ɖits.toArray.size¦ƚrs.length¦úPySem.strKind prog w¦ħRs.gB.mp h¦Ĩ⟨rfl,rfl⟩¦ķbackTo pos LI¦ŉlook n A¦ŐPySem.W.hideAll B [Cd]¦ŒvA X.env.cells sc.names []¦ŞJn Co¦ŷs.heap.push PySem.W.emptyDict¦ƀevD U a O¦ƜJa st¦ƞcxE A0 P w K mg base N O fn cm A outer s H E¦ƣcntT ws T n¦ƤevD U e O¦ƧList.range m¦ƨjC tD (fun w=>belw rs w) (fun _=>cn) b f¦Ƴ[S \"one\",S \"two\"]¦Ƹs.heap.push (jS To l)¦ƹns.zip xs¦ƺNe.symm q¦ǃzh5 s.heap t1 t2 f q¦ǇputK kvs k v¦ǉevD U p O¦ǊksOf g dd¦ǐevD U as O¦ǒls.map mkS¦ǚ['r','o','t','a','r','e','t','i','_','t','e','s']¦ǝ[.str a u,.str b l,.str d m]¦Ǡo c _ _ _ _¦ǡO.set i (So ND)¦ǥJ.getD j .non¦ǵrelabel sc X.env¦ǽtbl A n¦ȏs.heap.push (newS w)¦Ȓrows.filter (canB w)¦ȗitems.toList.drop (sIx Aw 0 lo)¦ȘksD A¦ȟe.grow s¦Ƞstq ws b¦ȰcutV xs lo hi¦ȱhidT f.heap H¦ȳps.map Part.d¦Ɉws.map D.str¦ɕoO X ls sc Cd s2 H2 fp E'¦ɣns.zip fs¦ɧbelw rs w¦ɪzh1 s.heap t1 f¦ɵsO _ _ rfl¦ɸmkS (hdL n)¦ɼrows.map fun r=>mkS GS¦ɽmkS []¦ʢF.args_str_split_2 _ _¦ʧevD U c¦ʫK w.params¦ʮSameP.of s¦ͱps.map txP¦ͽhE T ks vs (.str h) y¦ΚJT _ _ (pA _ _ (Jl _ _ rfl (is_name n (Jjy g) c)))¦ΜJi q g¦ΠcutR r¦Ρzh4 s.heap t1 t2 f q¦ηassignEach es X.env¦μg b _ this fun z=>z¦ϕList.range n¦ϖevB U bc a O¦ϗevB U bc e O¦ϘList.range i¦Ϝ⟨rfl,fun _=>h r b⟩¦ϠJA prog w¦ϧJr [s] ls¦ϨtabT rows¦ϲrows.map (mntR hs)¦ϵBuiltin.Str.strSliceIndices lo hi 1 x.length¦ϽcxOf A0 P w K mg base N e b f i A g s H E¦ЁmkS l¦ЉpickOrder KM es¦Ћf.toList.map banV¦УJex P w¦ШmetS ws¦яevD U src O¦љZO _ _ E2¦ѢcntT ws T k¦ѮJA P w¦ѰtgN tg¦ѳtxt ps¦Ҁm b _ q fun z=>z¦җJh _ _ rfl rfl o¦ҢPu.Jn ws¦Ҩ[So NI,So (.dct Fo Fo [] []),So .non,No]¦Ұ[.str s.n,optT s.b]¦һEn ns A B HD Es g b m l j LH No¦ӃatKey xs k¦ӄJ.map banC¦ӈNe.symm n1¦ӉNe.symm n2¦ӌFz.sm FL¦ӕrelabel scope O¦әjC g b c xs dd¦Ӹif_neg (sW f)¦Ӽrows.map Row.l¦ԓZm _ j¦ԟevD U c O¦ԣfun _=>To¦ԥmntR hs r¦ԩevD U e¦ԷzipD DW DN¦ԿList.replicate j.toNat i.cps¦ՒvB _¦Քkys A¦ՖtxP p¦դJh _ _ rfl f (in_D Fo n A)¦ըs02.trans sm¦ծps.getLast b¦ձJn (kys Ep)¦ֆhidT h H¦ևkC N vs¦一r.bind f¦丨JZ nt KO KN O Lb¦乊rs.filter p¦乍l.map D.str¦乏T.map Row.l¦乐B.map Row.l¦乧List.range bs.length¦乨zh3 s.heap t1 t2 f q¦乩s.heap.update a TV¦乹envOfC l g Aa f O¦亃its.toList.map banV¦互valV kvs k¦亓zipD xs ys¦井eU J its d¦些yC rows i¦亝zipD ks vs¦产oth b (Y b o hb f)¦亩I.base.tups b xs q¦亰ws.zip (ws.drop 1)¦亲rs.filter (canB w)¦仜[ob a K dn un,.str n]¦令f b _ q fun z=>z¦以g b _ q fun z=>z¦仨ws.foldl addS ks¦仫List.range' lo n".splitOn "¦"
def sgU:List String:="Aiaz._auto_1¦Eyaz._auto_2¦Kpaz._auto_3¦Xvaz._auto_4¦CG'в' LL Ai¦DZ'в' Q8 Ey¦Kj'в' NK Ai¦MB'в' Uu Xv¦MA'в' NJ Ai¦SI'в' DP Ai¦SH'в' NG Ai¦Wd'в' V0 Ai¦AjPySem.W.Frag¦AcList Str¦Ap.var 0¦AyValue -> Shared -> Prop¦BjList (Str × NameKind)¦A8List (Addr × Obj)¦EomkM A B¦AmCtx X G N nm¦Asmodel prog w¦AlShared¦BkStr -> Option Value¦ADmodel X.prog X.w¦DU.con (.int 1)¦AuList Nat¦AOPE X a (tI X U pa)¦Er.con (.int 0)¦A1.var 1¦AHInv X Y Z H s¦BaProgram¦Dp.Name x px¦AqList Row¦AkList D¦CW'J'¦AEList Value¦AXrunD defs U¦AgCallD¦Ar.ref a¦BK'O'¦BvAround¦AvList V¦BJPE X b (tI X U pb)¦Epkn2 Eo B¦CBOw M O Z¦Gke :: es¦AWU + 1¦A9List Addr¦AQWorld¦BUL2.Inv X Y Z H s¦HVws.map .str¦Fj.con (.int 2)¦BV.con CW¦Es'2'¦DWps.map Part.d¦BL'4'¦DV.bi .idx Ap Er¦B8ob a A dn un¦AnValue¦Fh.Name x p1¦Bb.tup xs¦CFList Expr¦FkSo (ob a Ep dn un)¦Xq(Fo,eval e X.env)¦C4.bl Fo¦DY.cons Ap .nil¦EmS \"one\"¦EloS \"self\"¦EtoS \"table\"¦Fi'.'¦CZ.var 3¦CY.var 4¦Uw.con (.int 3)¦BlL2.St¦B7.ref it¦LM.con (.str (oS \"one\"))¦B6Array Value¦HU.bi .idx Ap DU¦DrrunB defs bdefs k¦BS.str n¦CD.obj a ns fs¦Bw'{'¦DqoS \"word\"¦XpoS \"rest\"¦Ek.con .non¦DXs.heap.objs.size + 1¦CCrunD defs k¦BirunD defs (c + 3)¦AA.lst xs¦LLstarEach Gk X.env = (Xq :: starEach es X.env)¦CA.var 5¦Bu.str (mkS l)¦BhA.handled = No¦LKoS \"number\"¦BIoS \"_law_script\"¦Xo.Attribute Fh m apos¦Cz.Attribute Dp f apos¦AGList Part¦BH.ref l¦HSoS \"any\"¦CVS \"mount\"¦Be'Ð'¦BQ.int k¦LJ.bi .add A1 (.bi .mul Uw CY)¦B4List (Str × Addr)¦AN.dK kvs¦AzXW X H¦A3.int n¦A7.tup HV¦A0CXr P w¦DToS \"thing\"¦HR(Fo,eval a X.env)¦AUList Int¦LIstarEach es X.env¦HQoS \"tables\"¦DS.isO nsS¦BdSo d¦DQ.cons A1 .nil¦Ejrows.map Row.d¦DPstarEach [a] X.env = (HR :: starEach [] X.env)¦Cp'ç'¦BGFuncData¦LGkeywordEach [] X.env¦GjtI X U p¦BtList (κ × V)¦LFhs.map Part.d¦ALOption D¦BPEP X Y Z Q¦A6'ð'¦CToS \"pattern\"¦BFList Stmt¦BY.ret (.con C4)¦Cokys A¦CS.int at_¦HP.cons (.con (.str (oS \"new\"))) .nil¦HNmkS (stx A)¦B3oS \"text\"¦FgoS \"name\"¦AZk + 1¦Bc.lst J¦CySo BH¦CnrunD defs (c + 5)¦Br.ref f¦NN.lst (made.map .str)¦CmList (κ × Value)¦Ei'Ć'¦DNa.map .str¦A2.int i¦BqList Env¦Bpmodel P w¦DoOption Value -> Shared -> Prop¦LCoS \"NoText\"¦Ff.bi .idx CA Er¦HM.str Xp¦DMtD Eo¦HLS \"put\"¦CQha Y s Z H _ I h¦DLList Pu.D -> Nat -> Rs Pu.D¦Eh.cons BK .nil¦BEHOk P w H h¦COEnvOk K M H0 H Z O¦DJ(apos.endLine == pos.line) = To¦B2.var i¦Boc + 2¦CNgetMethod ov m pl¦BD.str w¦Fe.str (mkS [s])¦DmUnit -> Shared -> Prop¦DlchkO N nm M i x = To¦CwO :: outer¦Gi.un .asI DU¦BCSo BL¦BBOption Int¦Eg.un (.fld HQ) Ap¦Djns.contains m = Fo¦Uvdn ++ [stp CV Em (So A) DM]¦Di.walk Ap¦Gg.str HS¦Fd.str LK¦Ck.Name x pos¦HK'Į'¦CjfsD A dn un¦CiX.calm = To¦DIKTr Key¦Bmhid L H¦DhbackToKw pos LG¦DH.Call Xo Gk [] pos¦Xn.con (.str (oS \"two\"))¦Dg.un .len Ap¦NKstarEach [e] X.env = (Xq :: starEach [] X.env)¦BOSo v¦BA.dT kvs¦LA.cons (.var 7) .nil¦CuS \"undone\"¦GfmkS (Jx r)¦DGStr -> Prop¦DFList (List Nat)¦Dfls ++ hidN ls N¦BXclsN nsS¦B1S \"done\"¦GeoS \"address\"¦DEoS \"_law_at\"¦CgList DefD¦GcsIx items.size items.size hi - sIx items.size 0 lo¦DD.tup LF¦CfPE X e Gj¦NJswapsWith e (So Dp) pos.line X.env = pure Fo¦EfPA X Gk (tA X U p)¦Fc.con (.int 4)¦DesepP M p = To¦DC.builtin id¦Eeod.data = .dict es ep¦FbValue.ref d == Value.none¦EdArray (Option Value)¦E9O.set i Bd¦DBrunD defs Bo¦CtOut X H Q¦E8(3 * k) + 2¦NI'Ś'¦EcrunD defs (c + 4)¦EbrunD defs (c + 7)¦HHstarEach [b] X.env = ((Fo,eval b X.env) :: starEach [] X.env)¦E7.raise LC .nil¦DAt ++ mkT hs u¦NGattributeBase Dp f X.env (eval Dp X.env) = eval Dp X.env¦Uu(X.fn x = To) ∨ (X.env.scope.names.lookup x = So .local)¦E6.Call Xo [] [] pos¦E5Bool -> Shared -> Prop¦EaStr -> Fm -> Prop¦E4I1.hok.fresh (Zh _)¦LzoS \"Site\"¦E3eval a X.env¦NF.un DS CZ¦Lyob a (kn2 A B) dn [stp CV Em (So A) DM]¦Ga.Assign [.Name x px] e pos¦Lx.con (.str (oS \"0\"))¦HGFnOk X.prog X.w X.K X.mg X.base CX k f fd ps sp¦E2Ne.symm hb¦HF.Name x p2¦E1I.hok.fresh (Zh _)¦E0Fun K x qual st f fd¦HE.cons CZ .nil¦F7behindInMarks op b = Fo¦ND.dct t To ks vs¦EZSo (f r) :: O¦F6.Compare a [op] [b] pos¦F4SetTable.grown es1.size¦HDSo (ob a Ep Uv [])¦FLs1.trans s2¦GTArray DictEntry¦KMw.params.setOrder a ep¦FKoS \"undone\"¦MMupd H s.heap.objs.size (.dT [])¦EDa == sysModules¦KL.cons Xn .nil¦FJhe Y s Z H _ I h¦FHho Y s Z H _ I h¦FG(X.A.units + 60) < cLine¦FFchkA N nm M i x = To¦D1.ins C dx fs¦D0ns.map D.int¦ECrs.map Row.d¦GSJx r ++ [10]¦FEks ++ [kD n]¦Wi.bi .mul (.con (.int 60)) CA¦FDoS \"done\"¦XxList (List DI × V)¦FC(t' = To) -> NoKT G.K¦FA.cons HU .nil¦KyoS \"TooMany\"¦Fy(A.units + 60) < cLine¦KxArray (Int × Value)¦SO.con (.str (oS \"=\"))¦KwoS \"abcdefghijklmnopqrstuvwxyz0123456789-\"¦MG.con (.str (oS \"\"))¦GLPI X tg iter (tW X U ps)¦Kv.comp nt ps pc pe¦SL.bi .idx CA Fj¦FxNat -> Heap -> Prop¦KuList (Str × Value)¦FvBool -> Hp -> Prop¦GJList (L2.Key × V)¦MFvs ++ [.str (mkS acc)]¦KsResult -> Shared -> Prop¦GISetAt s.heap a o es ep t¦KroS \"abcdefghijklmnopqrstuvwxyz\"¦GHtB X U bc M H0 pb¦GGrunB defs bdefs U¦KqSo (f1 r) :: So (f2 r) :: O¦Wh.call 47 (.cons A1 (.cons (.bi .add (.bi .add BK (.con (.int 40))) Ap) .nil))¦KoV -> List V -> Hp -> VK -> Prop¦MDBool -> Hp -> Prop¦GFchkV N nm i x = To¦Wg.call 43 (.cons Ap (.cons (.bi .add A1 (.con (.int 39))) (.cons Uw .nil)))¦Km.dct Fo z (ksD A) (vsD A)¦Kldn ++ [stp w n (look n A) x]¦MC.app Fo 3 (.call 47 (.cons Ap (.cons (.bi .add LJ DU) .nil)))¦Kk.con (.str (oS \"/\"))¦SJ.con (.str (oS \"7\"))¦Wf.cons (.con (.int 9)) .nil¦KiValue -> Value -> Sem Value¦We.un .asI (.un .neg DU)¦Mzob a [(S \"one\",A)] [stp HL Em No (tD A)] []¦MySo (.obj a ns (putN f d' ns fs)) :: env'¦Mx(b ∈ X.ex) ∨ (X.s₀.heap.objs.size ≤ b)¦MwEn ns A B Fk Es y5 y6 y7 y8 y9 x10 x11¦Wc.call 43 (.cons Ap (.cons LJ Wf))¦Wb.call 49 (.cons NF (.cons LM .nil))¦MuevD U src O = .ok (.lst (rs.map f))¦MtOption (Value × Nat) -> Shared -> Prop¦MsPySem.W.instObj C s.heap.objs.size¦Mrupd W s2.heap.objs.size (.lst ys)¦Mq.BoolOp .Or (a :: b :: rest) pos¦MozipD (ns.map kD) (ns.map (vD A))¦Mn(mpos.endLine == cpos.line) = To¦XuList (List DI × Addr × Value)¦V9.bi .idx (.dis (.cons SJ (.cons Lx (.cons (.con (.str (oS \"55\"))) .nil)))) (.call 43 (.cons Ap (.cons (.bi .add LJ Fj) (.cons Uw .nil))))¦Mm.Call (.Name Lz p) [] [] pos¦V8.cons (.bi .add (.con (.int 700)) Wi) (.cons (.call 45 (.cons Ap (.cons (.bi .add (.con (.int 720)) Wi) (.cons Fj .nil)))) .nil)¦V7.bi .idx SL (.call 43 (.cons Ap (.cons (.bi .add LJ Fj) (.cons (.un .len SL) .nil))))¦SFEn ns A B Fk Es x5 x6 (So (aD here)) (So (.lst (inn B here))) x9 x10 x11¦SE.walk (.tup (.cons (.var 6) (.cons (.bi .add (.tup HP) (.var 6)) .nil)))¦SDPySem.W.fnOf x qual (vE st) (Jo st) (Ja st) .none kV doc pm an cdv ct¦SC.ext Fo 3 (.walk (.un .rows (.comp 0 (.un .range Wg) BV Wh)))¦SA.Raise (So (.Call (.Name cx np) [ma] [] cpos)) No pos¦SycxOf CX P w K mg base N qual scope f cdv A outer s H E¦SwHT.sIx xs.length xs.length hi - HT.sIx xs.length 0 lo¦Sv.or (.bi .eq (.var 6) Er) (.bi .eq Ff (.con Gg))¦SsEn ns A B Fk Es (So BQ) x6 x7 x8 x9 x10 x11¦SrV -> Option Int -> Option Int -> Hp -> VK -> Prop¦V0attributeBase a \"items\" X.env E3 = eval a X.env¦Sm.call 19 (.cons CY (.cons (.tup .nil) .nil))¦Sl.walk (.call 51 (.cons (.un DS Ap) .nil))¦SktypeOf DC = pure (.type \"method_descriptor\")¦VZ.bi .eq (.sl (.var 7) Ek Gi) (.tup HP)¦Sgupd H a (.ins C dx (putF f v (ns.zip xs)))¦VY.comp 0 (.un .range (.call 43 (.cons Ap (.cons A1 (.cons (.bi .add BK DU) .nil))))) BV (.call 44 (.cons A1 (.cons (.bi .add (.bi .add BK Fj) (.bi .mul (.con (.int 5)) Ap)) (.cons (.bi .idx CY Ap) .nil))))¦VX.comp 0 (.un .range (.bi .add DU (.call 43 (.cons Ap (.cons (.bi .add A1 DU) (.cons Uw .nil)))))) BV (.bi .idx CY (.call 43 (.cons A1 (.cons (.bi .add (.bi .add BK Fj) Ap) (.cons Fc .nil)))))¦VW.un .tuple (.comp 2 (.walk (.un .rows (.call 46 (.cons Ap (.cons (.con (.int 400)) (.cons Fj (.cons Uw .nil))))))) BV (.tup (.cons (.bi .add (.con (.str (oS \"o\"))) Ap) DQ)))¦VV.or (.bi .ne (.call 18 (.cons CY LA)) (.bi .add (.call 18 (.cons A1 LA)) (.var 8))) (.bi .ne (.call 25 (.cons CY LA)) (.call 19 (.cons CY LA)))¦VT.comp 0 (.walk (.tup (.cons LM KL))) BV (.tup (.cons Ap (.cons (.call 19 (.cons (.call 49 (.cons (.un DS CY) DY)) (.cons (.var 8) .nil))) .nil)))¦VS.or (.bi .ne (.call 51 (.cons (.un DS (.var 11)) .nil)) (.dis (.cons LM KL))) (.bi .ne (.call 49 (.cons (.un DS (.var 11)) (.cons LM .nil))) CY)¦VR.ite (.un .isN BK) E7 (.put Fo Fo 1 BK (.bi .add (.bi .add (.con (.str Str.empty)) (.bi Ei A1 BK)) (.bi .add CZ (.con Xw))))¦VQ.or (.un .not (.un .truth (.call 3 (.cons Ap (.cons DU (.cons Fc .nil)))))) (.un .not (.un .truth (.call 4 DY)))¦VP.ite (.un .truth (.bi .strt Ap BK)) (.ret (.tup (.cons A1 (.cons (.sl Ap Gi Ek) .nil)))) .skip¦VO.tup (.cons A1 (.cons BK (.cons (.ite (.bi (.dIn Fo) BK Eg) (.bi Ei Eg BK) Ek) HE)))¦VM.cons Ap (.cons (.call 19 (.cons (.bi Ei (.un (.fld HQ) A1) Ap) Eh)) .nil)¦VL.bi .ne (.call 50 (.cons NF LA)) (.comp 0 (.walk (.var 9)) (.un .notN HU) Ap)¦VJ.ite VZ (.call 18 (.cons BK (.cons (.sl (.var 7) Gi Ek) .nil))) (.dis .nil)¦Aa'Ɓ'¦Axs1.heap.objs.size¦Ae'ƃ'¦Ahxs.length¦ARs2.heap.objs.size¦AF'Ɔ'¦Aops.length¦Awitems.size¦CL'Ɖ'¦A5X.env.locals¦ACks.length¦AKns.length¦AVkvs.length¦AJvs.length¦AYws.length¦BNrows.length¦Bzh.objs.size¦Ceh'.objs.size¦EYits2.toArray.size¦EWX.env.scope¦Csvs.toArray¦Byys.length¦B0its.length¦BMls.length¦NCX.s₀.heap.objs.size¦F3'ƚ'¦AM⟨P,w,K,mg,base,A⟩¦DO[So Cp,So CS,So P,So NN,So BQ,So p.d,So (.int r)]¦AS⟨_,rfl⟩¦LD[(.tup [Gg,(.str (oS \":\"))]),(.tup [Fd,(.str (oS \"#\"))]),(.tup [HM,(.str (oS \"*\"))])]¦CP⟨_,Ze _ rfl,rfl,rfl⟩¦LB[stp HL Em No (tD A),stp HL (S \"two\") No (tD B)]¦Cv'Ĩ'¦Gh.ListComp elt [⟨tg,iter,ifs,0⟩] sc pos¦HJ[D.str (S \"a\"),D.str (S \"b\"),D.str (S \"7\"),D.str (S \"0\")]¦HInotedBy As A O fun e i=>R (.error e) i¦XD'ŉ'¦Gbls.map fun l=>.str (mkS l)¦NH[.type \"ValueError\",.type \"Exception\",.type \"BaseException\",.type \"object\"]¦CMfun _ _=>rfl¦F9⟨l.prog,w,K,mg,base,A⟩¦Ut[.Attribute Fh f fpos,.Attribute HF g gpos,.Constant A3 j kpos]¦F8⟨_,Ze _ rfl,rfl⟩¦Dz⟨v,u,e,r,g⟩¦Us'Ɯ'¦HB⟨_,_,g,b,Out.now h rfl⟩¦NBpA _ _ (Jk _ _ rfl f)¦EV⟨_,_,rfl,rfl⟩¦NA[So B8,So BS,So DD,So (.str o),So (tD t),No]¦Lw⟨rfl,_,⟨_,Je,p1,rfl⟩,p2⟩¦XC'ƣ'¦Dd⟨O,r,?_⟩¦Ur[D.str (S \"t\"),D.str (S \"p\"),D.str (S \"v\"),D.str (S \"q\"),D.str (S \"u\"),D.str (S \"s\")]¦D9clsN ns¦BZS \"new\"¦HA[.str f,.str g,.int n]¦Nz[.ref T,.ref p,.ref q]¦DypyNext B7¦Dchid CB H¦D8Same.refl H¦EUScOk N nm ls sc¦Dx⟨O,e,?_⟩¦Xm⟨_,_,rfl,rfl,⟨_,_,rfl,rfl,rfl⟩⟩¦XB'Ƴ'¦CbPE X a ta¦HyZ.set i Cy¦F2runD defs A6¦Lv⟨rfl,Zck,rfl,rfl,rfl⟩¦Xl'ƹ'¦Cr[.ref a]¦DaList Nat¦DwOption Addr¦DvRep K H d v¦Lu.bi o pa pb¦Lsad.map .str¦ETblm E.b Ab¦F1Reps X.K H J xs¦LrrunB defs bdefs AZ¦C9I.tok _¦LqcompareOp op¦ESupd H a o¦XA'Ǌ'¦HxBinds X.K fd ps J¦HwDKo H d t o ks xs¦Hv⟨rfl,rfl,rfl⟩¦Hu⟨_,g,trivial⟩¦Du.tup DW¦ERC.glo _ hg¦Xk'ǒ'¦Lp[So BD,So BS,So x]¦Ht.obj a ns' fs'¦HsmkS (l.drop 1)¦CaSem Bool¦B9Same H W¦Xj.un (.isO ns) B2¦Uqob a (srt A) [] []¦Hr[.Name x px]¦C8stAt 60¦Ny[So p.d,So (.str k),So Fe]¦CK.ref b¦Up[.Attribute HF g gpos,.Constant A3 j kpos]¦Nx.Compare a [.In] [b] pos¦HqI.freeC x c e¦Hobump g k c dd¦C7SameP H W¦A4PlO H0¦FZList (KTr κ)¦FYReps K H J xs¦FX⟨_,rfl,h⟩¦Lo⟨O,e.readOk,?_⟩¦Nw[labO o,.int (N o)]¦Nv[.str n,labD (fnd A ad n)]¦Xi.Attribute a \"items\" ap¦FWZe _ rfl¦Ln.con HM¦Hn.walk A1¦EO.tup Ej¦Hm.str Gf¦Lmrow0 r _ _ 0 rfl¦Llrow1 r _ _ 0 rfl¦Uo⟨lC M 0 O,Ow M O Z,e.ows,e.readHid,?_⟩¦Hl[S \"a\",S \"new\"]¦Lk.cons AS (.cons AS .nil)¦BWTwo A B¦Nu.Constant (.str z) j f¦Xh'ǽ'¦EN[So f,So b]¦FVupd H l ob¦HkJD d.slots J¦Um.set Fo 0 (.call 24 (.cons Ap Eh))¦Lj.dK (yI kvs k)¦LioS \"0123456789\"¦Nt.type \"StopIteration\"¦Ul.Tuple [.Name x p1,.Name y p2] k pos¦Uk.un .not (.un .truth (.call 2 DQ))¦BgString¦CJRelV y u¦Xg⟨fun b o e n U G=>?_,fun b o e n U G=>?_,I.base.free,fun b o e G=>?_,I.base.tups,I.base.frzs,I.base.tbls⟩¦HjList (KTr Key)¦UjZu (ZB (Zj e) (I.ok.cab x c hfn F))¦Ui[So Cp,So CS,P,L,So BQ,So p.d,g]¦LhFnScope N ps Us¦NrZB (Zj e) I.ok.above¦Uh.comp 0 Di BV DV¦Nq.walk (.call 34 DY)¦UgSo (.builtin \"object.__setattr__\")¦UdEn ns A B Fk Es m l j q o LH b¦Lgfun _ _ _ q=>q¦Uc.cons Ap DQ¦Lf'Ș'¦Hifrs X.stack¦Hgns.map .int¦LeoS \"NoSite\"¦HeoS \"NoBack\"¦HdoS \"_law_k\"¦D7mutS g¦Ub'ȟ'¦Xf'Ƞ'¦Np[.str a,.str b,.str d]¦Nl.UnaryOp .Not a pos¦Xe.Attribute o m apos¦NktSB X w U bc M H0 a¦Njupd H1 A (.lsm f o)¦Ua.cons (.var 10) (.cons Fj .nil)¦FU.str x tk¦NitI X U pk¦D6cN tg N¦LdDGet X.K H a y o¦T9hE T FE MF (kD n) (So Hm)¦NhCalleeP G U fi D9 m¦Ng.Return (So e) pos¦Nf.Subscript a b pos¦LcJA X.prog X.w¦Xd.con (.int 8)¦T8OutQ X w [] H0 [] H (mutB a) D¦FT([DT],[])¦Cq.bl p¦T7.app Fo 3 (.bi .idx CA DU)¦LbJ.drop Bw¦Hcuni L H H1¦G9r1.mono s2¦G8upd H T o'¦LaoS \"mount\"¦G7fun _=>rfl¦Ndfun _ _ q=>Zd _ q¦NcsetNext a sl i ep¦Nb.builtin \"sorted\"¦Na.Tuple elts kk tp¦M9tB X U bc M H0 pa¦D5.str x¦Dt.int j¦T6.Call (.Name x p) Gk [] pos¦K9Z.set i BO¦K8.type \"dict\"¦T5Obj.mapSeq fun x=>x.push u8¦T4.obj a nsS (fsS ks vs J es)¦Xc.ite (.bi .ge BK Er) (.dsp To DY (.cons DU .nil)) (.dsp Fo .nil .nil)¦FS.bool To¦FRprD A ad¦Xb.bi .eq (.call 52 (.cons NF .nil)) (.tup (.cons Fj (.cons DU .nil)))¦T3.sl Ap Gi Ek¦M8.bi .idx Ap Fj¦TZ.sl Ap Ek We¦EMSo Br¦EK.type T¦FQS \"two\"¦Xa.put To To 5 (.var 9) (.bi .add (.bi (.dGz To) CA (.var 9)) (.var 7))¦W8Jh _ _ (G c _ _ _) rfl rfl¦DsFldC G f¦CHvQ _¦D4vsD A¦W7.call To 0 1 nsS (.cons (.call 39 Eh) (.cons (.call 36 HE) .nil))¦W6⟨.ref l,σ',_,I2,rv,F _ ⟨l,_,rfl,⟨g,⟨o,Je⟩,rfl,rfl⟩,rr _⟩⟩¦K7[El,Fg,Et]¦TY.un .items (.call 38 DY)¦TXPassesOwn AD X.A X.env X.xe¦G6tI X U pa¦G5hid CB f¦G4wM _ _ _¦W5.put To Fo 3 (.var 6) (.bi .add (.bi (.dGz Fo) CZ (.var 6)) CA)¦G3put n t A¦K6So (kD n)¦Xz'ɧ'¦G2oS \"part\"¦G1oS \"many\"¦TVObj.putSet f t'¦M7.bi .eq DV LM¦W4.call 43 (.cons Ap (.cons (.bi .add A1 DU) (.cons Fc .nil)))¦W3.ite (.bi .eq Ff (.con Fd)) (.app Fo 3 V9) (.app Fo 3 V7)¦W2.or (.bi .ne CY Wb) (.bi .ne (.call 49 (.cons NF KL)) BK)¦EJKV kvs vs¦EIPE X o td¦EHList DefB¦K5Same.refl _¦K4oS \"undone\"¦K3S \"TooMany\"¦K2t.map Row.d¦TUassign (.Name y B) X.env¦TQOutS X M H0 CB H D7 D¦TN.Compare a [.Eq] [b] pos¦TK'ɽ'¦EGZd _ e¦D3.ref d¦TJPE X e (tB X U bc [] H0 pb)¦TH⟨l,o,I,g,Out.now q rfl⟩¦W1.sl (.call 48 (.cons Ap V8)) Ek (.un .asI (.con (.int 7)))¦W0.Expr (.Call (.Attribute Cz \"append\" mpos) [e] [] cpos) pos¦TFfun b o j e=>eb b o j e¦TCf (.int i t) (.int j u)¦TB.call fi (.cons Xj p)¦Tz.loop Fo [8] 0 Hn tbW¦WZ.Assign Hr (.ListComp elt [⟨tg,iter,ifs,0⟩] sc p1) pos¦WY⟨_,Nat.sub_lt_sub_left g (ZaU i),r,E,c2.trans (un F),g,rfl,M⟩¦WX[.str (mkS r.l.cps.toList),.str (mkS [32]),.str (mkS (txt r.ps))]¦WW[So (tD T),So A7,So A3,So (dcT To [(T,1)]),No,No,No,No,No,No]¦M6ObjOk P w H h a o¦M5List (KTr L2.Key)¦M4List (Option Str)¦D2g i j¦C6Jbg _¦G0Vals xs its¦GZRoom E8 A¦GY⟨t,rfl⟩¦GX⟨?_,?_⟩¦Tx[So B8,So (.tup Ls),No]¦Tw[stp CV Em (So A) DM]¦WVPySem.W.fnOf n n (vE s) (Jo s) (Ja s) .none kV h pm g e ct¦WU.Expr (.Call (.Attribute Cz \"pop\" mpos) [ek] [] cpos) pos¦WT.set Fo 9 (.call 24 (.cons (.var 6) (.cons (.var 8) .nil)))¦WS[So (.tup (f.map Row.d)),So (.tup (b.map Row.d)),So (.tup EC)]¦M3.builtin \"len\"¦Tv.Dict [] [] p1¦M0.str Str.empty¦MZdcL Fo (lcn b)¦MYoS \"_law_most\"¦K1⟨_,e,rfl⟩¦AICallB¦Tuob a (kn2 A B) LB []¦WR.Expr (.Call (.Attribute Dp \"append\" apos) [e] [] pos) f¦WQ⟨O,r.mono s,g.mono (fun d o=>o.mono s) fun c x=>x.mono s⟩¦FP.lst ys¦Xy'ʧ'¦K0rD2 X o¦FOSo BQ¦KZI.ok.hd hc¦KYhr.mono f2¦KS.Name y py¦KQSo (JkX a)¦KPEQ X [] H0¦MXoS \"ahead\"¦MWoS \"other\"¦WO.un .any (.comp 0 (.walk TZ) BV (.bi .eq DV Ln))¦WN.ite (.bi .eq DV A1) (.ret (.bi .add BK HU)) .skip¦TtI.base.free b o e n g¦WM.frz q (.dT [(ks,y)])¦Ts.dK (L2.putK kvs k v)¦Tr.tup [Gg,Fd,HM]¦WL[j,So A7,l,o,m,So (dcT Fo f),So (tD rs),So (.int cn),s,v]¦MV[So Bu,h,m,No]¦C5[g,f,b]¦WKPySem.W.fnOf name qual g j scope dV kV L pm an cdv ct¦WJ[D.str (S \"y\"),D.str (S \"id\"),D.str (S \"z\"),D.str (S \"x\")]¦KOevD U pc¦KNevD U pe¦GWhid [] _¦GVChB.of l¦Tq⟨[.type \"set\",a],[]⟩¦Tp[So Bu,So k,So Fe,b]¦MUbinaryOp .Add¦MT.type \"tuple\"¦MRM p C y m w h¦MQtS X U M H0 a¦MPfun _=>.inr g¦Tnob a [] [] []¦WI.Raise (So (.Call (.Name x np) [e] [] cpos)) No pos¦WHEn ns A B Fk Es x5 x6 (So (aD here)) j x9 x10 x11¦EF.ref p¦GU.ref t¦EEkeyV k¦Tjfun b xs q=>sm b _ q¦Ti.Call Fh Gk [] pos¦ThseqObj \"list\" Cs 0¦TgseqObj \"list\" AF 0¦WG.con (.str (oS \"[\"))¦Tf.con (.str (oS \"a\"))¦Te.dct Fo Fo Lf D4¦TdoS \"NAME_ONLY_HOLES\"¦WE.un .all (.comp 0 (.walk BK) BV (.call 10 FA))¦WD.un .items (.call 40 (.cons Ap (.cons A1 Eh)))¦FNPE X b tb¦FMPE X e te¦WC[El,(oS \"steps\"),(oS \"others\"),(oS \"at\"),(oS \"step\")]¦MOSq X.K t H a xs¦MNChg m L H L1 H1¦Tcfun _ j=>NP X Y Q j¦TaenvOfC j g Aa f m¦WB.walk (.un .rows p)¦WA.bi (.dGz t) B2 b¦GR(.nx,env2)¦GQLoc EW x¦GPVals dvs J¦GOJcf CX X E¦GNSlf N nm x¦GMOption Str¦Wz.Call (.Attribute Dp \"extend\" apos) [e] [] pos¦Wy[l,So A7,m,So (dcT To f),o,So (dcT Fo []),v,y,u,x]¦MLeval e X.env¦MKeval o X.env¦MJexD HK wrB¦MIprD Ep here¦S9CalleeB G bc fi D9 m¦S8[tD T,.tup HV,.int n]¦Wx⟨_,rfl,\"set_iterator\",_,F8,at_next.lookup,?_⟩¦Ww[So (tD T),So A7,So A3,So (dcL Fo []),No,No,No]¦KJ.lsm t xs¦KItT X U pa¦KGupd H l o¦KF.dis .nil¦KCoS \"done\"¦KA.tup DN¦KzoS \"rows\"¦EASetTable¦Ez[.ref p]¦Wv⟨I',fp,wr,_,Pz,F,_,e1,W9,st,tt,fun h' C k=>?_⟩¦S7.BoolOp op [a] pos¦S6.Attribute e f pos¦Wu.Slice lo hi No p2¦S5fun b ob q=>Zd _ q¦S4Sq.same hid_same q¦Wt[So Cp,So (tD A),No,No,No,No,No,No,No,No,No,No]¦Ws.ListComp elt [⟨b,iter,ifs,0⟩] scope pos¦Wr.Call (.Attribute Dp \"pop\" mpos) [] [] cpos¦S3ObjM s.heap x dx C mA¦S2[.tup Ej,.tup DN]¦S1[ob a A dn un,.str n]¦S0[So NI,So Uq,f,b]¦Wq[.dct Fo Fo Lf D4,.mls B1 dn,.mls Cu un]¦Wp.Call (.Attribute Dp m apos) Ut [] cpos¦Wo.un .all (.comp 0 Di BV (.call 11 DY))¦MH[So f,So b,No]¦SZ'Ё'¦Wn[So T,So (ob a B [] []),So (kD n),So (vD A n)]¦Wm.un .all (.comp 0 Di BV (.call 7 DY))¦Wl.cons DV (.cons (.bi .add A1 HU) .nil)¦WkEn ns A B (So Ly) Es g b m l j LH No¦SYfun b o e=>Zd _ e¦SXForInStep.yield r¦SWtI X U (.un o pa)¦SVSetO X l (metS f)¦Wjuni [Aa] MM f¦SU.comp 0 src BV e¦SS.bi .eq Ff Ln¦SR.bi .idx B2 Er¦SQ.lst (inn B here)¦SNoS \"MOST_CHOICES\"¦SMoS \"MOST_LETTERS\"¦Kt.ref sl¦GK.lst []¦SK[f1 r,f2 r]¦MEtOp r ta tb¦MvtI X U Lu¦Wa.set Fo i p¦Mp.obj a l fs¦MloS \"counts\"¦Mjhr.mono Af¦SG⟨So (.int r),?_⟩¦V6.Assign [.Subscript Cz ek spos] ev pos¦V5'Ѯ'¦Fu.ref z¦FtSo Dp¦KhS.pe C¦Xt'ѳ'¦V4[D.str (S \"7\"),D.str (S \"0\"),D.str (S \"55\")]¦V3.comp 2 (.walk (.un .rows CZ)) BV Ap¦V2[So Ar,So (.ref I),So (.ref u),So A3,No]¦V1.un .not (.un .truth (.un .isStr Ap))¦Su.ext fun _=>True¦SnHT.sIx Ah 0 lo¦Sjfun _ _ _=>False¦Si.Tuple elts k tp¦Shh0.same e.same s¦Sf.raise Ky .nil¦Sefun r=>D.str r.l¦KgList Str¦KftF X U p¦Ke.seq a b¦Kdhid [] W¦Kchid [] H¦KbList Row¦Ka.seq _ _¦VN[El,(oS \"steps\"),(oS \"others\"),(oS \"at\")]¦SdHOk X.prog X.w W h'¦SbApart z TI TO i1 i2¦Sah.Ns mainGlobals mg¦VI.bi .add Uh (.dis (.cons Ek .nil))¦Mi⟨_,rfl,r⟩¦Mh[Value.ref a]¦R9⟨Cr,[]⟩¦VHIsSI s.heap it (.int sl 0) i a es.size ep¦VGIsItemIter s.heap it d i es.size ep ok ov¦VF[So BS,So DD,So (.str o),So (tD t),No]¦VE[.str Em,.tup (hN.map Part.d),.str FQ]¦VDtB X U bc [] H0 (.call To fi i ns p)¦VC.walk (.un .rows (.con (.tup LD)))¦GEX.N.Nodup¦GDList Pu.D¦GCList DefE¦VB⟨.bl _,H,I.kept k,rfl,Out.now h rfl⟩¦VA⟨jF lW _,qF F.entry_list_iadd ?_⟩¦Mgfun _ q=>q¦MfTP X Y Z Q¦MecutD J l h¦MdO.set i No¦Vzhl1.stay fun o e=>C.extBut _ _ m1 e¦Vy.Assign [.Subscript Dp b ps] v pos¦McC.vis x g5¦Mbupd f l ob¦VxtB X U bc M H0 (.call Fo fi i ns p)¦VwtI X U (.call fi (.cons Xj .nil))¦MaS \"NoSite\"¦Vv.walk (.un .rows (.con (.tup sgD)))¦L9oS \"names\"¦L8oS \"words\"¦R8.Dict [] [] pos¦R7p1 _ _ _ _ FW¦R6O.set i (So d')¦R5.lst (rs.map g)¦R4Nat.succ.inj hl¦R3.cons Xd .nil¦R0oS \"MOST_PARTS\"¦RZoS \"MOST_SIGNS\"¦RYoS \"WORD_SIGNS\"¦FsRelV v u¦FqDn dn un¦VuIsSI s.heap it (.ref tp) i a es.size ep¦RXPE X v (tI X U pv)¦RV[El,Dq,Fg,Et]¦Vth1.stay fun o e=>C.extBut _ _ d3 e¦ExJeB i¦EwJo st¦Euhit a¦Vs⟨Ze _ rfl,sa.stay fun o e=>Zd _ e⟩¦VrF.args_dict_itemiterator_next_1 _¦VqtSB X w U bc [] H0 (.putK f pk p)¦Vp.call 20 (.cons y (.cons z .nil))¦Vo.lst (ls.map fun p=>.str (mkS p))¦J8PA X Gk t¦J7List MethE¦J6[.tup DW]¦VngetattributeRaised _ _ _ _ _ _ _¦VmF.args_dict_keyiterator_next_1 _¦RU.cons rfl .nil¦RTJex X.prog X.w¦RSOw M E9 Hy¦RQCXr X.prog X.w¦ROrunD defs AZ¦Vl.Name \"set\" p2¦RNputN f d ns fs¦RM.un .items CZ¦RK.set Fo 6 Wc¦RJ.str (mkS acc)¦RIoS \"_law_made\"¦RHoS \"_law_many\"¦RGoS \"MOST_ROWS\"¦RFoS \"set_table\"¦Vk(.nx,O.set i (So (.dct t Fo [] [])))¦VjIsPair s.heap TI (.ref i1) (.ref i2)¦Vi⟨a,xs,i,w,rfl,l,g,C,Out.now h f⟩¦Vh⟨rfl,[],⟨[],Je,rfl,rfl⟩,rfl⟩¦BfScope¦VgPySem.W.methodObj Br (.ref y)¦VftSB X w U bc [] H0 (.popK f pk)¦Ve.set Fo 3 (.bi .partS Ap SO)¦Vd.un .truth (.bi .strt CZ WG)¦Vcrows.map fun r=>.str (mkS GS)¦L7(.rt d,env2)¦L6Option Value¦L5PE X ek Ni¦L4⟨rfl,?_⟩¦Vb⟨joinFit_length f,fun t' k=>?_⟩¦GB.ref x¦GA.own x¦Gz.tup J¦J5.ref e¦Gy.int 4¦J4Zm _ f¦Vafun f g v e=>j its i m f g v e¦U8F.args_tuple_iterator_next_1 _¦U7tSB X w U bc [] H0 (.set i pb)¦U6tSB X w U bc [] H0 (.appF f p)¦U5.lst (rs.map fun r=>.tup SK)¦L3G b o e g¦L0ps.zip us¦LZO.set i s¦LYg Z H Q f¦LXtI X U pb¦LWbigT H H1¦LVexD U sgB¦U4oS \"most\"¦LUoS \"head\"¦J0hid L W¦I0XW X H0¦IZvsOf dd¦IYkn2 X b¦U3s.heap.IsKeyIter it d i es.size ep¦U2PySem.F.args_dict_get_3 _ _ _¦U0Builtin.SmallTypes.nextOf B7¦REcompareOp .Lt¦RDtS X U M H0 b¦RC.bi .eq pa pb¦RB.call 15 Uc¦RA.con (.int 5)¦UZ⟨.bl _,H,I,rfl,Out.now b rfl⟩¦UY⟨.bl _,H,I,rfl,Out.now h rfl⟩¦Rz(AR,uE its k)¦RyDK H a t z ks xs¦RwReadOk X.K H Z O¦Rv⟨B,fun _=>s⟩¦Ru[tD Eo,aD here]¦UXtS X U M H0 (.ext Fo i WB)¦UWupd H l (.lst (f.map V.str))¦UVtSB X w U bc [] H0 (.newL f)¦UUSo (.Subscript Cz ek spos)¦UT.Call (.Name y p1) Gk [] p2¦USJg _ _ rfl (Jg _ _ W8 rfl)¦URPE X e (tC X U bc fi i D9 m p)¦UQ⟨.int D2,H,I.tok _,AS,q⟩¦UPPySem.F.args_dict_get_2 _ _¦UOmkS (cutD x.cps.toList l h)¦UN.Compare a [.NotEq] [b] pos¦UMtSB X w U bc M H0 (.lift q)¦UL.bl (xs.any fun d=>d.eqv a)¦UK.bi .idx Ap (.un .neg DU)¦UJ.bi .gt (.un .len BK) Xd¦UI.comp 0 (.walk BK) BV DV¦UH.bi .ne (.call 37 DQ) Ap¦Fp.t ks¦Xs'Ւ'¦FntpO H¦Flsrt A¦Xr'Ֆ'¦UG(tSB X To CC Dr [] H0 d.body)¦UFPu.cutD x.cps.toList lo hi¦UE.bi .eq (.un .len A1) Er¦UD.cons Fj (.cons Uw .nil)¦UCnames5_nodup.sublist h.hol¦Rt.type \"list\"¦Rpns.map V.int¦Roupd H a AA¦Rnws.map V.str¦RmnsS.zip Nz¦RlexD U rest O¦RkexO w U bc a¦Rj.un DS Ap¦Rin_tx r.l h.l¦RhmkS (tabT t)¦RgoS \"FIGURES\"¦RfoS \"LETTERS\"¦ReoS \"do_step\"¦RbCXr l.prog w¦LS([CT],[])¦LRK.In s.heap¦LQKT H kvs xs¦LPEnvB G U bc¦LO⟨us,[]⟩¦UBEnv0 P w K mg base A outer s H¦RaOpR X Lq K0¦Q9⟨v,H,I,r,h⟩¦IXCls X.K C¦IWPE X i ty¦IVSame H H1¦UAtS X U M H0 (.app Fo i p)¦Uz.Compare a [.GtE] [b] pos¦UyStrLaws.glued_eq_join z _¦Ux.call 24 (.cons CY HP)¦LN.frz o u¦IU.mls f J¦GxothD m f¦Gv.ret A1¦GuoS \"put\"¦ITS \"rest\"¦Gsh.vp p b¦Grlcn XC¦Q7JpV B Cw e cls a0 fl s.heap¦Q6IsSI s.heap it first i a n ep¦Q5⟨_,i.mapOf,h _ _ C9 ?_⟩¦Q4⟨i,j,l,e,m,Out.now b rfl⟩¦Q3⟨g,⟨o,e _ _ q rfl⟩,l⟩¦Q2letOwnedTupleGo tg B7 u¦Q0F.args_list_append_2 _ _¦QZ.Compare a [.Lt] [b] pos¦QY.Compare a [.Gt] [b] pos¦QXSo (.Subscript Dp b ps)¦QWenvOfC qual sc Aa f cd¦QVObjOk X.prog X.w ES h' a o¦QUM1 X Cz \"pop\" mpos ek cpos¦QT⟨f.typeIs,fun b q=>?_,g⟩¦QS[So g,So f,So b,No,No,No,No]¦QR[So B8,So BD,So BS,So x]¦QQ[So B8,So BS,So (tD t),No]¦QPI.base.keep b o e n U G¦QO.ins C dx (putF f y fs)¦QNbinaryOp .Add GU CK¦QM.Attribute o \"get\" apos¦QLoO X ls sc Cd s H fp E¦QKupd H l (frzO f o AN)¦QJ.Attribute a \"get\" apos¦QIputN f (.mls f F) ns fs¦QH.seq (.set Fo i e) rest¦QGb.map fun o=>D.tup Nw¦QF[ofN ns,.int at_,.str name]¦QE.Constant .none j pos'¦QDargs_tuple_getitem _ _¦QC.Attribute o name apos¦QBkey_of I.hok (F I.noH)¦QAZP _ (ZP _ (Jbx hb e))¦QztS X U M H0 (.own i p)¦Qyb.map fun r=>.tup SK¦Qxfun p=>.str (mkS Xr)¦QwoS \"_law_pattern_here\"¦QvIsZip s.heap z TI TO .none¦Qu⟨z,g,n,r,k _ _ Be e⟩¦Qt⟨.none,.none,Ze _ rfl⟩¦Qs[.str Em,.str n,.tup HV]¦Qr.Constant .none j pos¦QqZP _ (ZP _ (Jbx J e))¦Qpfun b z=>absurd z Ad¦Qo.Call Xe Gk [] pos¦QnList.take_sublist _ _¦Qm.Subscript e Wu pos¦QlI.base.free b o q n x¦Qk.builtin \"isinstance\"¦Qj.Assign Hr Tv pos¦QiF.args_str_join_2 _ _¦QhI.hok.fresh (Zh Aa)¦Qgbump g (b x) (c x) dd¦Qf.put Fo Fo 1 BK MG¦Qe.ret (.un .tuple CZ)¦ISfs.lookup f¦IRtF X U Kv¦IQ.ite pc a b¦IPL2.kC N vs¦IM.type \"set\"¦ILl b o u C q¦IKIti K t d o¦IJ.ite pb a b¦IIJeZ Kh hb¦IHoS \"tables\"¦IG.lift .skip¦IFJT _ _ NB¦IEdcT Fo 'ƨ'¦IDfun H=>Xm¦QdIsTup s.heap b ws.toArray¦QcPSs X rest (tLaw X H0 R')¦Qb⟨r,y,fun j l e i=>?_⟩¦Qa[So CD,No,No,So A3,No]¦IC(0,Value.none)¦IBKeyKind P w κ¦IASqL X.K H a xs¦IzSqT X.K H a xs¦Iy⟨_,rfl,?_⟩¦Iw[ob a A dn un]¦GqC.map oR¦P9.Constant A2 j pos¦P8.Constant D5 j pos¦P7PySem.W.instObj C dx¦P6.Call Xe [] [] pos¦P5.call (.ref fa) R9¦P4starEach [e,f] X.env¦P3J.any fun d=>d.eqv a¦P2JeN (h.cells C I.ok)¦P1J.any fun d=>d.eqv b¦P0.Call Fh [a] [] pos¦PZfun b o e=>Zd _ EG¦PY.Call Xi [] [] pos¦PXtGo X bc H0 ks cn ns¦PV.con (.str (oS \" \"))¦PU.con (.str (oS \"b\"))¦PRPSs X rest (tLaw X H0 R)¦PQ⟨[.ref l,.ref b],[]⟩¦PP⟨kvs,⟨o,Je⟩,F,m⟩¦PN[.str (S \"word\"),.str x]¦PM[ob a A dn un,.tup Ls]¦PL[stp HL Em No (tD A)]¦PK[DT,(oS \"signs\"),U4]¦PJ[DT,(oS \"least\"),U4]¦PHstoreName X.env x u¦PFh pos Y s Z H _ I m¦PDx.above y c (oQ h)¦PBg pos Y s Z H _ I h¦Py.Pass ⟨0,0,0,0⟩¦Pw.builtin \"dict.get\"¦Pvfun i=>bs.getD i Fo¦PrF.args_zip_next_1 _¦Pqfun f=>absurd f AB¦Ppfun f=>absurd Ab f¦Po.bi (.dIn t') pa pb¦PntSB X w U bc M H0 b¦Pmupd H l (.lsm t [])¦Pl.Call Xi [] [] cp¦PkJh _ _ rfl 'җ' rfl¦PjoS \"Site.set_table\"¦Pi(.nx,O.set i (So Bc))¦PhtI X U (.un o pa) Z H Q¦PgAllOk P w K mg base C k¦Pf⟨b,rfl,fun W s=>?_⟩¦Pe⟨_,_,_,rfl,rfl,rfl⟩¦Pd[.Attribute Dp f apos]¦Pc[.Constant A3 j kpos]¦Pb⟨5,4,.goB ks cn ns⟩¦Pa[So NI,So Tn,No,No]¦Ivfun _ z=>z¦IupyIter Ar¦IrNe.symm d9¦IqNe.symm d2¦IpNe.symm d3¦Iohid CB H1¦ImJfS rows i¦IlJnd B.same¦IkJpS B u r1¦IjS \"NoText\"¦IiS \"NoBack\"¦IgSo (aD ad)¦IeoS \"SIGNS\"¦IcE.f 18 rfl¦O9binaryOp .FloorDiv¦O8starEach [e] X.env¦O7fun g C' _=>z g C'¦O6.Tuple elts k tpos¦O5rawInt g.objs.size¦O4JO (jO he) jD hs¦O3upd Wj Aa WM¦O0.bi .isin SO Ap¦OZJh _ _ rfl rfl rfl¦OYfun m f=>hs m J4¦OXrunB defs bdefs 12¦IbPE X value tv¦IaRep X.K H d v¦HZPrt K H a d L¦HY⟨_,f,rfl⟩¦HW[(S \"one\",A)]¦OWIsIt t1 s.heap i1 l1 k¦OVIsIt t2 s.heap i2 l2 k¦OUtS X U M H0 Wa D Z H¦OT[So x,So y,So z,No,No]¦OS⟨.bl _,H,I,rfl,?_⟩¦OR[.Constant .none j p']¦OQ[.Call Vl [a] [] p3]¦OP⟨N.length,1,.skip⟩¦OO[No,So IU,No,No,No]¦GpRoom k X.A¦Gnr.Good P E¦Gm[Et,Ge]¦ON.BinOp a op b pos¦OMintBits_le_64 l g¦OLfun b u q=>Zd _ q¦OKfun b u e=>Zd _ e¦OJgetItem GU Kt¦OIfun _ o=>o.mono s¦OHgS X M H0 [i,j] 2¦OG.Name \"sorted\" p1¦OFevalEach vs X.env¦OErunB defs bdefs 0¦OD.bi .zip Ap T3¦OC.bi .add HU SO¦OB.bi .idx B2 DU¦OA.con (.str IT)¦OzhE T ks vs d K6¦OyrunB defs bdefs c¦OxoS \"Site.do_step\"¦Ovs.heap.IsList l items¦OuIsSq t s.heap a items¦Ot⟨f3',f1',f4',f5'⟩¦Os⟨.inl z,.inl rfl⟩¦Oq⟨.inr z,.inl rfl⟩¦Oo⟨o,G _ _ l,X,m,j⟩¦Onfun _ _ _ _ n=>n¦Om.IfExp c a b pos¦Ol.int D2 s.toks¦Ojhi Y s Z H _ I h¦OiJkr s.heap I.big¦Ohfun i q=>h i '?'¦OgnoteFrame J5 O¦Offun a ha=>zI ha¦OetS X U M H0 Wa¦Od.ok (.ret .none)¦Ocargs_list_sort _¦Ob.bi .add WA vp¦Oa.bi .le Dg BK¦N9.bi .gt Dg Er¦N8.bi .eq Ap MG¦N7.bi .idx DV Er¦N6.bi .idx CZ Er¦N5.bi .idx CZ Fj¦N4.raise Le .nil¦N3.con (.str La)¦N2.bi .eq Wb A1¦N1.call r f i ns p¦N0.dct Fo Fo ks vs¦NZexO Fo R1 Q1 rdB¦NYfun w=>belw rs w¦NXIsTup s.heap t items¦NWIsIt t s.heap it a i¦NVIsPair s.heap TO a b¦NUIsSq t1 s.heap l1 xs¦NTIsSq t2 s.heap l2 ys¦NSCalleeB G bc fi cn m¦NR⟨z,its,n,r,tr q⟩¦NQ⟨rfl,fun _=>rfl⟩¦NO[El,Fg,MX,MW]¦CU'Ô'¦AB'y'¦BR'Â'¦Ab'b'¦Ad'j'¦LH'æ'¦Xw'а'¦Q8'&'¦Af'h'¦UeX.env¦VUs.heap¦XFs.toks¦XGes.size¦XHValue.none¦XIx.length¦XJX.prog¦XMN.length¦XNX.stack¦XO.con (.str Dq)¦XQI.hok¦XRr.length¦XSx.cps.toList¦XTpos.line¦XUA.in1¦XXRow.d¦XYapos.atName¦XZl.length¦X4D.str¦X5sc.names¦X6Row.l¦X7s.cps.toList¦X8Hh.objs.size¦X9hit.typeIs¦Yag.length¦Ybp.isRest¦YcNameKind.cell¦YdPart.isRest¦Yez.cps.toList¦Yfs'.heap¦Ygs1.toks¦YhX.base¦YiI.bare¦Yjd.body¦YkPart.d¦Ylscope.names¦YmKOk A¦Yni.length¦Yopl.isList¦YpStr.empty¦YqC.calm¦Yrn.cps.toList¦YsI.loc¦Yte.val¦YuL2.Key¦YvI.free¦Ywy.length¦Yxa.length¦Yyd.slots¦YzA.in1.in1¦YAe.key¦YBGl X x¦YCp.kind¦YDE.p_table_of¦YEp.isList¦YFe.readOk¦YGI.kIn¦YHA.units¦YIs.drawn¦YJI.ok.kind¦YKes.toList¦YLo.data¦YMList.length¦YN(.nx,O)¦YOTabOk t¦YQX.A.in1¦YR.ite SS SC (.ite Sv MC (.ite (.bi .eq Ff XO) T7 W3))¦YSg.toList¦YTb.typeIs¦YUb.length¦YVNameKind.free¦YWRowG r¦YXe.same¦YY.cons (.tup (.cons (.tup (.cons XO HP)) .nil)) KL¦YZV.str¦Y0.bl b¦Y1ZaU _¦Y2.rt d¦Y3tD rs¦Y4apos.endLine¦Y5.str y¦Y6List D¦Y7.inl z¦Y8.str z¦Z0.pur p¦Z1Cls K C¦Z2s5.heap¦Z3e.same0¦Z4r.ps.length¦Z5KTr κ¦Z6s.gens¦Z7PySem.W.emptyDict¦Z8F.entry_str_split¦aAd.params¦aBa.heap.objs.size¦aEPyProof.Rows.slot_tuple_getitem.lookup¦aFF.slot_dict_itemiterator_next.lookup¦aGF.slot_str_join¦aHMethE¦aIhs.ho¦aJhs.hd¦aKhs.hf¦aLh.len¦aMJqS _ _¦aN.int cn¦aOoS \"go\"¦aPList.nodup_nil¦aQl.prog¦aRp.name¦aSr.Fine¦aT(.rt d,O)¦aUPT X a tA¦aVPA X es t¦aW[So b,No]¦aXfs.length¦aYcpos.line¦aZe.readHid¦a7NoH K H¦a8X.outer¦a9s2.heap¦bAF.entry_dict_itemiterator_next¦bB.ret (.tup (.cons XO DY))¦bCKTr κ¦bD.own a¦bE.dK []¦bF.dT []¦bG.int 0¦bHzC ks¦bIrelk O¦bJ.inr z¦bK.ret e¦bLvsOf b¦bM.int r¦bNSo p.d¦bO.str o¦bP.str h¦bQ.int 8¦bRF.slot_dict_itemiterator_iter¦bSF.entry_dict_keyiterator_next¦bTCmpOp¦bUInj g¦bVd.dep¦bWupd H x o¦bX.or pa pb¦bYs.trans g¦bZf.trans g¦b0tT f U pc¦b5tI f U pe¦b6upd g T l¦b7goT ks ns¦b8oS \"line\"¦b9oS \"site\"¦cAF.entry_tuple_iterator_next¦cBSqL K H a xs¦cCSqT K H a xs¦cD⟨[a],[]⟩¦cE[p.d,.str w]¦cGl.row.toRowW¦cIOperator¦cJOption V¦cKNameKind¦cL[.str w]¦cOI.ok.mod¦cQz.length¦cRo.isSome¦cSi.typeIs¦cTe.length¦cUf.length¦cVB.length¦cWfun z=>Bool.noConfusion z¦cX.int i t¦cYsN kd k¦cZItr lo n¦c0truthy v¦c5eval e O¦c6.inr rfl¦c7List Int¦c8tT X U p¦c9i b o hb¦dAhid CB W¦dCJnL C.un¦dDOw M O g¦dEJhl S hr¦dFmkT hs u¦dGmkS [61]¦dHnm_9 h b¦dIexD U hB¦dJdcT To f¦dM.str s.w¦dNprB A ad¦dOhit here¦dPoS \"one\"¦dQF.slot_tuple_hash.lookup¦dSslot_list_getitem.lookup¦dUAutoSeq1.sub_tuple_tuple¦dWOption Expr¦dXOut X H Q d¦dY⟨H,I,q⟩¦dZI.ok.frames¦eAg.objs.size¦eBE.objs.size¦eCmade.length¦eDAutoSeq1.sub_tuple_list¦eEAutoSeq1.sub_list_tuple¦eFF.entry_set_update_loop¦eGPySem.F.slot_dict_items¦eIPySem.F.type_dict_items¦eJAutoSeq1.sub_list_list¦eKF.slot_dict_items_iter¦eLPySem.F.slot_dict_pop¦eMPySem.F.type_dict_get¦eNF.entry_proto_collect¦eOF.slot_str_startswith¦ePF.slot_str_partition¦QaaI.ok.noex b o e¦Qabh Y s Z H Q I g¦Qac.Tuple es k pos¦QadF Y m Z l _ G j¦QaetI X U (.con d)¦Qafmem_of_lookup q¦Qag.If c sa sb pos¦QahgS X M H0 [i] 0¦Qai.bi .isin pa pb¦Qaj.comp 0 src c e¦Qak.int 2147483399¦Qal.int 2147483629¦QamO.set i (So st)¦Qan.str (mkS 'ϧ')¦Qao.str (mkS 'Ϩ')¦Qap.str (mkS [32])¦QaqoS \"Site.mount\"¦QarmkS a¦Qasval i¦Qat.bl q¦Qaub rfl¦QavtD DA¦QawmkS p¦QaxTS prog w lb h a ks¦Qay⟨_,_,rfl,rfl,h⟩¦QazF.entry_list_append¦QaAF.slot_str_endswith¦QaBtrk h H¦QaCItl K a¦QaDItt K a¦QaE.bool g¦QaF.int Ae¦QaGrC1 X o¦QaHexD U g¦QaI.dIn Fo¦QaJ.tup ts¦QaK.tup ys¦QaL.str Kw¦QaM.str Kr¦QaN.str Li¦QaO.con Fd¦QaP.con Xw¦QaQ.ret CZ¦QaR.int 31¦QaS.lst HJ¦QaT.str TK¦QaUPIE X Y Z tg R¦QaVbinaryOp .Mult¦QaWcompareOp .LtE¦QaXcompareOp .GtE¦QaYNe.symm (Zu b)¦QaZy.cps.getD 0 0¦Qa0e.same.trans s¦Qa1args_sorted1 _¦Qa2.Name \"len\" p1¦Qa3e2.mono (sm _)¦Qa4O.set i (So g)¦Qa5.lst (Jw 0 xs)¦Qa6w_tx w (q w j)¦Qa7mkS (txt r.ps)¦Qa8Jg _ _ rfl rfl¦Qa9oS \"_law_name\"¦QbaoS \"_law_rows\"¦QbboS \"read_site\"¦Qbcfun _=>rfl¦QbdVals xs us¦QbeOpR X Lq r¦QbfVals vs us¦QbgSameP H H1¦Qbhits.toList¦Qbiy.unpinned¦Qbjws.toArray¦QbkX.env.qual¦Qblx.cps.size¦Qbmap.endLine¦QbnPT X c (tT X U pc)¦QboPA X es (tA X U p)¦Qbp⟨kvs,.inl f,g⟩¦Qbq⟨kvs,.inr f,g⟩¦Qbr⟨rfl,rfl,vB _⟩¦QbsF.slot_list_append¦QbtI.hok.fresh g¦QbubinaryOp .Sub¦QbvbinaryOp .Mod¦QbwcompareOp .Gt¦QbxcompareOp .In¦QbyOut.now g rfl¦Qbzi.getD j .non¦QbAp1 _ _ _ _ R7¦QbBstrIterType x¦QbC.bi .ne pa pb¦QbD.bi .lt pa pb¦QbE.bi .gt pa pb¦QbF.bi .ge pa pb¦QbGdictSet d O N¦QbHif_neg (sW g)¦QbIspI K mg CC i¦QbJspI K mg RO i¦QbKtS X U M H0 q¦QbL.List [] dpos¦QbMIti X.K t d o¦QbN.bi .eq DV XO¦QbO.un .range BK¦QbP.con (.str s)¦QbQob a G3 dn un¦QbR.str (mkS Xt)¦QbSmkS (stL A n)¦QbTZq (JiU t) AB¦QbUJC _ _ rfl nK¦QbVoS \"table_of\"¦QbWoS \"_law_way\"¦QbXoS \"Site.put\"¦QbYoS \"__init__\"¦QbZ⟨H,I.tok _,q⟩¦Qb0⟨[.ref z],[]⟩¦Qb1⟨CP,U.push _⟩¦Qb2⟨_,Je,p1,rfl⟩¦Qb3[So BS,So (tD t)]¦Qb4F.slot_tuple_hash¦Qb5List.Pairwise.nil¦Qb6I.ok.frf b g¦Qb7.List es pos¦Qb8.ins C dx []¦Qb9JdG xs lo hi¦QcaObj.mapSeq f¦QcbputK kvs k y¦Qcceval iter Ue¦QcdValue.ref Aa¦Qce.type (vK d)¦Qcfr _ _ _ hD f¦Qcg.raise cx pm¦Qch.obj a ns RN¦Qci.raise cn pm¦Qcj.set Fo 2 Ek¦Qck.set Fo 2 CZ¦Qcl.set Fo 6 Sm¦Qcm.un .enum BK¦Qcn.un .notN HU¦QcoJl _ _ rfl b¦Qcpob a A dn []¦Qcqob a A Kl []¦Qcr.str (mkS x)¦Qcs.str (mkS y)¦QctSo (aD here)¦QcuoS \"Site.go\"¦QcvrunD defs 12¦QcwList DI¦QcxOws L H¦QcyOwC L H¦Qczi ∈ M¦QcA[So Du]¦QcB[So A7]¦QcCI.freeC¦QcDv.toNat¦QcEO.cells¦QcFs4.heap¦QcGt.place¦QcH(.nx,O.set i Bd)¦QcI⟨[],rfl,rfl⟩¦QcJ⟨jF pV _,?_⟩¦QcK[So g,So f,So b]¦QcL[So Bu,No,No,No]¦QcM[.tup Ej,.str w]¦QcNX.env.scope.kind¦QcOpl.isList.typeIs¦QcQAutoSeq1.idx_int¦QcRF.entry_zip_next¦QcSF.slot_dict_iter¦QcTF.entry_str_join¦QcU.inl i¦QcV.inr x¦QcWtVar i¦QcX.inl h¦QcY.inl e¦QcZyV _ _¦Qc0.inr h¦Qc1newS w¦Qc2Zd _ q¦Qc3tVar 0¦Qc4.rt CW¦Qc5.int 6¦Qc6mL _ _¦Qc7labO o¦Qc8oS \":\"¦Qc9oS \"#\"¦QdaoS \"*\"¦Qdbfun _=>No¦Qdc(0,.none)¦QddMut (H x)¦QdePS X st t¦QdfPE X o ta¦QdgRoom AZ A¦QdhArguments¦QdiPE X e ty¦QdjE BL No W¦QdkPT X a KI¦QdlPE X e Kf¦QdmPE X a M9¦QdnSameN H W¦QdoofM m f o¦Qdp[V.ref l]¦Qdq[.lst Hg]¦Qdr[.str SZ]¦Qds[.str HN]¦Qdt[.word w]¦Qdu[a,b,c,d]¦Qdvus.length¦Qdwbs.length¦Qdxrv.length¦Qdya.in1.in1¦Qdzpos'.line¦QdAh.tM.fine¦QdBI.cne x c e¦QdC.Expr e pos¦QdDbinaryOp op¦QdEJrR I q rfl¦QdFgetItem o i¦QdGo.getD .non¦QdH.un .not pa¦QdJReps.one ry¦QdKNe.symm d10¦QdL.ins C b fs¦QdMa3.trans hl¦QdNkF g (Zb h)¦QdOJsl Af u hb¦QdPdefs.drop i¦QdQs _ _ h rfl¦QdRInv.asL I B¦QdS.ins C L Rm¦QdT.seq a rest¦QdU.cons HU Eh¦QdV.app Fo 3 e¦QdWr.ps.map Yk¦QdXoV _ (JJ _)¦QdYoS \"things\"¦QdZoS \"pieces\"¦Qd0List (Option V)¦Qd1PySem.W.OpenLaw¦Qd2IsIt t h it a i¦Qd3ChB m L H L1 H1¦Qd4⟨its,r,p,z⟩¦Qd5⟨b,e _ f,g⟩¦Qd6⟨x,g,d,m,z⟩¦Qd7⟨_,hit,rfl⟩¦Qd8⟨_,rfl,rfl⟩¦Qd9⟨_,_,A,r,q⟩¦Qea[So b,No,No,No]¦Qeb[ofN ns,.int k]¦Qec[.str r.l,r.pd]¦Qed[.str k,.str n]¦QeeF.slot_tuple_eq¦QefF.slot_set_iter¦Qeg⟨fun h0=>?_,?_⟩".splitOn "¦"
def sgS(c:Char):String:=match sgT.find? fun s=>s.front==c with
|some s=>String.ofList (s.toList.drop 1)
|none=>""
set_option hygiene false in
local macro_rules
|`($c:char)=>match c.getChar with
|'b'=>`((by decide +kernel))
|'h'=>`((by lia))
|'j'=>`((by simp))
|'y'=>`((by decide))
|'&'=>`((x == ("__debug__" : Str)) = Fo)
|'?'=>`((by simp [usesP,q]))
|'À'=>`((by simp [Part.kind]))
|'Â'=>`((by simp; lia))
|'Ô'=>`((by rw [C.hN]; exact C.nd))
|'â'=>`((by k_is))
|'æ'=>`((So (aD [S "a",S "new"])))
|'а'=>`((.str (oS "\n")))
|c=>match sgS c with
 |""=>Lean.Macro.throwUnsupported
 |s=>pure (sgP 999 #[] s.toList).1
set_option hygiene false in
local macro_rules
|`($x:ident)=>match x.getId with
 |.str .anonymous k=>if k.utf8ByteSize==2||(k.utf8ByteSize==3&&k.front=='Q') then match sgU.find? fun s=>s.startsWith k with
  |some s=>pure (sgP 999 #[] (s.toList.drop k.length)).1
  |none=>Lean.Macro.throwUnsupported
  else Lean.Macro.throwUnsupported
 |_=>Lean.Macro.throwUnsupported
theorem azn{G:Prop}:((G->False)->False)->G:=Classical.byContradiction
section
open Lean
def azr(p:Syntax):Bool:=(p.find? fun s=>s.isIdent&&s.getId==`rfl).isSome&&((p.reprint.getD "").splitOn ",").length<5
local macro_rules
|`(tactic|obtain $p:rcasesPatMed:=$e:term)=>if azr p then Macro.throwUnsupported else`(tactic|(refine azn fun N=>?_;obtain $p:rcasesPatMed:_:=$e:term<;>(refine N ?_;clear N)))
local macro_rules
|`(tactic|show $t:term)=>`(tactic|refine (?_:$t))
end
noncomputable section
def az(h:Nat:=by rfl)(i:Nat:=by decide)(j:Nat:=by decide+kernel)(k:Nat:=by first|exact .inl rfl|exact .inr rfl|assumption):=h
section
open PySem PySem.Spec PyProof.Rows
abbrev Za:=@wpAny_bind
abbrev Zb:=@wpAny_pure
abbrev Zc:=@Bool.and_eq_true
abbrev Zd:=@Heap.get?_push_of_some
abbrev Ze:=@Heap.get?_push_size
abbrev Zf:=@List.mem_cons
abbrev Zg:=@List.map_cons
abbrev Zh:=@Nat.le_refl
abbrev Zi:=@List.length_map
abbrev Zj:=@Heap.lt_size
abbrev Zk:=@List.length_cons
abbrev Zl:=@Bool.false_eq_true
abbrev Zm:=@List.mem_cons_of_mem
abbrev Zn:=@List.length_append
abbrev Zo:=@List.size_toArray
abbrev Zp:=@List.lookup_cons
abbrev Zq:=@Nat.le_trans
abbrev Zr:=@List.getElem?_set_ne
abbrev Zs:=@decide_eq_false
abbrev Zt:=@List.map_map
abbrev Zu:=@Nat.ne_of_lt
abbrev Zv:=@List.mem_map
abbrev Zw:=@decide_eq_true_eq
abbrev Zx:=@decide_eq_true
abbrev Zy:=@List.not_mem_nil
abbrev Zz:=@List.getElem?_eq_some_iff
abbrev ZA:=@beq_eq_false_iff_ne
abbrev ZB:=@Nat.lt_of_lt_of_le
abbrev ZC:=@List.getElem?_eq_getElem
abbrev ZD:=@wpAny_call_entry
abbrev ZE:=@beq_self_eq_true
abbrev ZF:=@if_false
abbrev ZG:=@sizeLine_eq
abbrev ZH:=@Bool.false_ne_true
abbrev ZI:=@beq_iff_eq
abbrev ZJ:=@wpAny_newObj_type
abbrev ZK:=@List.mem_append
abbrev ZL:=@Heap.size_push
abbrev ZM:=@wpAny_callSpecial?_slot
abbrev ZN:=@Bool.or_eq_false_iff
abbrev ZO:=@Heap.get?_update_other
abbrev ZP:=@List.mem_append_right
abbrev ZQ:=@Array.length_toList
abbrev ZR:=@List.getElem?_set_self
abbrev ZS:=@wpAny_field
abbrev ZT:=@True.intro
abbrev ZU:=@Option.some.injEq
abbrev ZV:=@Bool.not_eq_true'
abbrev ZW:=@List.map_append
abbrev ZX:=@Heap.get?_update_self
abbrev ZY:=@wpAny_mono
abbrev ZZ:=@of_decide_eq_true
abbrev fC:=@List.mem_cons_self
abbrev yB:=@List.mem_singleton
abbrev oE:=@decide_eq_false_iff_not
abbrev xB:=@List.getElem?_map
abbrev wB:=@Nat.lt_succ_of_lt
abbrev qA:=@PySem.W.mg_of
abbrev fA:=@or_false
abbrev qC:=@wpAny_setField_rec
abbrev vB:=@Nat.zero_le
abbrev qD:=@List.mem_map_of_mem
abbrev vQ:=@Nat.lt_irrefl
abbrev rG:=@List.getElem?_append_right
abbrev uB:=@List.all_eq_true
abbrev rB:=@List.cons_append
abbrev mF:=@List.getElem?_cons_succ
abbrev lF:=@List.getElem?_cons_zero
abbrev pC:=@Function.comp_def
abbrev qG:=@List.getElem?_append_left
abbrev pG:=@Array.getElem?_eq_getElem
abbrev pD:=@List.mem_filterMap
abbrev wA:=@wpAny_holding
abbrev qB:=@List.cons.injEq
abbrev oB:=@List.nodup_cons
abbrev nB:=@Bool.or_eq_true
abbrev mB:=@List.length_set
abbrev nD:=@wpAny_truthy_bool
abbrev gC:=@Bool.false_and
abbrev iB:=@List.sum_cons
abbrev vF:=@Around.under_plainId
abbrev kA:=@congrArg
abbrev uF:=@Heap.SameBut.update
abbrev uC:=@wpAny_seqItems
abbrev uG:=@List.length_singleton
abbrev sC:=@wpAny_setField
abbrev wD:=@Option.some.inj
abbrev uD:=@List.length_nil
abbrev sF:=@List.zip_cons_cons
abbrev lI:=@Calls.callWith_builtin
abbrev rF:=@Int.toNat_natCast
abbrev tG:=@List.map_congr_left
abbrev pE:=@List.append_nil
abbrev qF:=@codeAny_builtin
abbrev kI:=@Array.getElem?_toList
abbrev pF:=@decide_eq_decide
abbrev oF:=@wpAny_isInstance
abbrev rC:=@Nat.ne_of_gt
abbrev ZaU:=@Nat.lt_succ_self
abbrev nF:=@List.filter_cons
abbrev sG:=@List.pairwise_cons
abbrev sD:=@Bool.not_true
abbrev rD:=@List.any_cons
abbrev fB:=@call_meets
abbrev kG:=@List.flatMap_cons
abbrev gI:=@wpAny_loadPart'
abbrev zH:=@List.filterMap_cons
abbrev mC:=@Nat.le_succ
abbrev kB:=@wpAny_rule
abbrev pM:=@List.getD_eq_getElem?_getD
abbrev nE:=@wpAny_attempt
abbrev jF:=@plainId_quiet
abbrev vJ:=@List.length_replicate
abbrev uJ:=@PySem.F.slot_dict_get
abbrev yH:=@Nat.lt_of_le_of_lt
abbrev nQ:=@PyProof.Rows.slot_tuple_getitem
abbrev tJ:=@List.mem_append_left
abbrev sJ:=@List.contains_eq_mem
abbrev jG:=@List.foldl_cons
abbrev mQ:=@wpAny_typeNameOfWhole_itemiter
abbrev rJ:=@List.dropLast_concat
abbrev xH:=@List.length_range
abbrev wH:=@List.nodup_append
abbrev iF:=@Bool.false_or
abbrev gF:=@List.all_cons
abbrev lQ:=@F.slot_dict_itemiterator_next
abbrev kQ:=@wpAny_typeNameOfWhole_keyiter
abbrev oM:=@PySem.F.plainAttrs_dict
abbrev nM:=@PySem.F.plainAttrs_list
abbrev vH:=@List.any_eq_true
abbrev oG:=@wpAny_fieldsOf
abbrev uQ:=@F.slot_dict_keyiterator_next
abbrev wM:=@typeIs_str
abbrev sQ:=@PyProof.Rows.callWith_type1
abbrev kF:=@wpAny_typeOf
abbrev fK:=@Obj.data_mapFields
abbrev rQ:=@List.take_sublist_take_left
abbrev jI:=@List.find?_cons
abbrev vM:=@List.length_filter_le
abbrev iI:=@wpAny_ite_split
abbrev qQ:=@F.slot_tuple_iterator_next
abbrev nG:=@Bool.true_and
abbrev pQ:=@PySem.F.excBase_ValueError
abbrev zJ:=@wpAny_pyIter_list
abbrev yJ:=@wpAny_setState_of
abbrev xJ:=@wpAny_dictEntries
abbrev uM:=@List.mem_of_getElem?
abbrev sM:=@Calls.evalArgs_plain
abbrev mD:=@And.intro
abbrev mG:=@codeAny_mono
abbrev lG:=@List.map_nil
abbrev wJ:=@wpAny_askSetting
abbrev rM:=@PySem.W.hideAll_get
abbrev oQ:=@PySem.mem_of_lookup
abbrev qM:=@wpAny_setEntries_of
abbrev sW:=@ne_true_of_eq_false
abbrev uH:=@Paired.length
abbrev rH:=@Bool.or_false
abbrev qJ:=@wpAny_specialOf
abbrev gM:=@Calls.spliced_cons
abbrev pJ:=@wpAny_updateSeq
abbrev oJ:=@PySem.W.kia_one
abbrev nJ:=@wpAny_dictEpoch
abbrev mJ:=@List.nil_append
abbrev tP:=@PySem.F.entry_dict_get
abbrev fM:=@wpAny_Call_method
abbrev Zck:=@PassesOwn.leaving
abbrev zL:=@wpAny_pyIter_slot
abbrev yL:=@List.take_add_one
abbrev sP:=@List.getElem?_eq_none
abbrev rP:=@builtinLookup_eq_fast
abbrev fF:=@eq_of_beq
abbrev qP:=@List.getElem?_of_mem
abbrev eW:=@Array.getElem?_eq_some_iff
abbrev pP:=@F.plain_extend_loop
abbrev wL:=@List.mem_filter
abbrev vL:=@wpAny_passesOwn
abbrev oP:=@wpAny_Call_Name_kw
abbrev zV:=@Option.isSome_iff_exists
abbrev yV:=@PySem.F.args_tuple_add_2
abbrev nP:=@Option.isSome_some
abbrev lP:=@wpAny_pyIter_tuple
abbrev rW:=@PySem.F.slot_list_append
abbrev qW:=@PySem.F.type_list_append
abbrev jQ:=@List.contains_cons
abbrev lM:=@Bool.and_false
abbrev kM:=@isSubtype_stop
abbrev pW:=@List.getElem?_replicate
abbrev oW:=@PySem.F.entry_tuple_add
abbrev nW:=@F.plain_set_update_loop
abbrev mW:=@List.length_eq_zero_iff
abbrev iQ:=@Calls.spliced_nil
abbrev gQ:=@Nat.le_of_succ_le
abbrev fQ:=@List.foldl_append
abbrev lW:=@F.plain_list_iadd
abbrev kW:=@PySem.F.slot_tuple_add
abbrev jW:=@List.range_succ_eq_map
abbrev iW:=@wpAny_isOneOf_itemiter
abbrev eQ:=@List.length_drop
abbrev zP:=@List.getElem_mem
abbrev yP:=@Bool.not_eq_true
abbrev xP:=@F.slot_str_split
abbrev vP:=@Classical.skolem
abbrev gW:=@Obj.isFreed_of_fields
abbrev fW:=@wpAny_notOrdered_dict
abbrev jM:=@call_meetsIn
abbrev iM:=@Nat.zero_add
abbrev uP:=@List.forIn_cons
abbrev kP:=@pushCells_keeps
abbrev xV:=@Bool.and_eq_true_iff
abbrev uL:=@List.all_map
abbrev tL:=@List.any_map
abbrev wV:=@wpAny_updateSeq_pair
abbrev jP:=@F.slot_zip_next
abbrev iP:=@typeLookup_type
abbrev uV:=@List.range_eq_range'
abbrev gP:=@List.forIn_nil
abbrev fP:=@List.Perm.refl
abbrev zO:=@isSubtype_type
end
set_option genSizeOf false
namespace _r
namespace L2
open PySem PySem.Spec PyProof.Rows
variable{s:Al}{pos p:Pos}{A:Bv}{Y:A8}{x:Str}{a b C f dx:Addr}{w:AQ}{h h' base:Heap}{E:Ay}{K:Aj}{P prog:Ba}{u:An}{k t' i:Nat}{e tg c:Expr}{op:bT}{us:AE}{es:CF}{ps:Ac}{M:Model}{mg mA:Bk}{fd:BG}{ch fp:A9}{kw:Ku}
inductive Key where
 |inl (i:Int)|inr (x:Str)|non
noncomputable instance:DecidableEq Key:=λ_ _=>Classical.propDecidable _
noncomputable def iK:Key->Value->Bool
 |.inl k,v=>Value.isInt k v
 |.inr x,v=>Value.isStrOf x v
 |.non,.none=>To
 |.non,_=>Fo
noncomputable def keyH (w:AQ):Key->Int
 |.inl k=>hashInt k
 |.inr x=>hashStr w x
 |.non=>reduceHash 0xFCA86420
def Js:∀{k:Key}{v:An},iK k v=To->(∃i t,k=.inl i/\v=Value.int i t)\/(∃x t,k=.inr x/\v=Value.str x t)\/(k=.non/\v=.none)
 |.inl i,v,h=>by
  obtain⟨t,e⟩:=Value.isInt_shape (k:=i) (v:=v) h
  exact .inl ⟨i,t,rfl,e⟩
 |.inr x,v,h=>by
  obtain⟨t,e⟩:=Value.isStrOf_shape (x:=x) (v:=v) h
  exact .inr (.inl ⟨x,t,rfl,e⟩)
 |.non,v,h=>by cases v<;>first|exact .inr (.inr Cv)|cases h
def JnM(i:Int)(t:Tok):iK QcU cX=To:=by simp[iK,Value.isInt]
def Joa(x:Str)(t:Tok):iK QcV (.str x t)=To:=by simp[iK,Value.isStrOf]
def JrF(a b:Int):decide (Key.inl a=.inl b)=(a==b):=by
 by_cases e:a=b
 ·subst e;simp
 ·rw[Zs λq=>e (by injection q)];exact(ZA.mpr e).symm
def Jry(a b:Str):decide (Key.inr a=.inr b)=decide (a=b):=pF.mpr ⟨λq=>by injection q,λq=>by rw[q]⟩
def Jpr{Q:Int->Shared->Prop}(h:Q (reduceHash 0xFCA86420) {s with toks:=XF+1}):wpAny As A (pyHash .none) Q E s:=
 PySem.W.pyHash_slot (T:="NoneType") rfl F.slot_NoneType_hash F.entry_NoneType_hash (F.args_NoneType_hash_1 _) (beq_builtin_none _) Be (Za (Zb (Za (wpAny_mkInt (Zb ⟨_,_,rfl,h⟩)))))
def JA (prog:Ba) (w:AQ):PySem.KeyKind prog w Key where
 is:=iK
 hash:=keyH w
 inj:=λv a b l r=>by
  rcases Js l with⟨i,t,rfl,rfl⟩|⟨x,t,rfl,rfl⟩|⟨rfl,rfl⟩<;>rcases Js r with⟨j,u,rfl,e⟩|⟨y,u,rfl,e⟩|⟨rfl,e⟩<;>first|rfl|(cases e;done)|(cases e;rfl)
 byValue:=λk v h=>by
  rcases Js h with⟨i,t,rfl,rfl⟩|⟨x,t,rfl,rfl⟩|⟨rfl,rfl⟩<;>rfl
 pyHash:=λg h=>by
  rcases Js g with⟨i,t,rfl,rfl⟩|⟨x,t,rfl,rfl⟩|⟨rfl,rfl⟩
  ·exact wpAny_pyHash_int h
  ·exact wpAny_pyHash_str h
  ·exact Jpr h
 eqBool:=λo g h=>by
  rcases Js o with⟨i,t,rfl,rfl⟩|⟨x,t,rfl,rfl⟩|⟨rfl,rfl⟩
  ·rcases Js g with⟨j,u,rfl,rfl⟩|⟨y,u,rfl,rfl⟩|⟨rfl,rfl⟩
   ·rw[JrF]at h;exact wpAny_eqBool_int h
   ·exact SeqAt.EqAt.int_str i t y u _ _ _ _ (by rw[Zs (λq=>nomatch q)]at h;exact h)
   ·exact SeqAt.EqAt.int_none i t _ _ _ _ (by rw[Zs (λq=>nomatch q)]at h;exact h)
  ·rcases Js g with⟨j,u,rfl,rfl⟩|⟨y,u,rfl,rfl⟩|⟨rfl,rfl⟩
   ·exact SeqAt.EqAt.str_int x t j u _ _ _ _ (by rw[Zs (λq=>nomatch q)]at h;exact h)
   ·rw[Jry]at h;exact wpAny_eqBool_str h
   ·exact SeqAt.EqAt.str_none x t _ _ _ _ (by rw[Zs (λq=>nomatch q)]at h;exact h)
  ·rcases Js g with⟨j,u,rfl,rfl⟩|⟨y,u,rfl,rfl⟩|⟨rfl,rfl⟩
   ·exact SeqAt.EqAt.none_int j u _ _ _ _ (by rw[Zs (λq=>nomatch q)]at h;exact h)
   ·exact SeqAt.EqAt.none_str y u _ _ _ _ (by rw[Zs (λq=>nomatch q)]at h;exact h)
   ·exact SeqAt.EqAt.same _ _ _ _ _ (by rw[Zx rfl]at h;exact h)
 «strs»:=λk x t v h=>by
  rcases Js h with⟨i,u,rfl,e⟩|⟨y,u,rfl,e⟩|⟨rfl,e⟩
  ·exact nomatch e
  ·injection e with m _
   subst m
   cases v<;>rfl
  ·exact nomatch e
def Jil(prog:Ba)(w:AQ)(i:Int)(t:Tok):'Ϡ'.is QcU cX=To:=JnM i t
def Jei(prog:Ba)(w:AQ)(x:Str)(t:Tok):'Ϡ'.is QcV (.str x t)=To:=Joa x t
inductive KTr(κ:Type)where
 |a (k:κ)|t (ks:List (KTr κ))
noncomputable instance {κ:Type}:DecidableEq bC:=λ_ _=>Classical.propDecidable _
section
variable{P:Ba}{w:AQ}{κ:Type}[DecidableEq κ](kd:IB)
mutual
def kDep:KTr κ->Nat
 |.a _=>0
 |.t ks=>rE ks+1
def rE:List (KTr κ)->Nat
 |[]=>0
 |k::ks=>max (kDep k) (rE ks)
end
mutual
def sN:KTr κ->Int
 |.a k=>kd.hash k
 |.t ks=>reduceHash (Builtin.Tuple.tupleHashOf (gE ks))
def gE:List (KTr κ)->List Int
 |[]=>[]
 |k::ks=>sN k::gE ks
end
mutual
def kDrw:KTr κ->Nat
 |.a _=>1
 |.t ks=>yF ks+1
def yF:List (KTr κ)->Nat
 |[]=>0
 |k::ks=>kDrw k+yF ks
end
mutual
def KAt(h:Heap):KTr κ->Value->Prop
 |.a k,v=>kd.is k v=To
 |.t ks,v=>∃a o g n,v=.ref a/\h.get? a=So o/\o.cls=.type "tuple"/\o.data=.seq g n/\KAts h ks YS
def KAts(h:Heap):List (KTr κ)->List Value->Prop
 |[],vs=>vs=[]
 |k::ks,vs=>∃v r,vs=v::r/\KAt h k v/\KAts h ks r
end
variable{kd}
def KAt.ref{ks:FZ}(x:KAt kd h Fp Ar):∃o g n,h.get? a=So o/\o.cls=.type "tuple"/\o.data=.seq g n/\KAts kd h ks YS:=by obtain⟨b,o,g,n,e,x⟩:=x;cases e;exact⟨o,g,n,x⟩
mutual
theorem KAt.inj{h:Heap}:∀(x:Z5){y:Z5}{v:An},KAt kd h x v->KAt kd h y v->x=y
 |.a k,.a j,v,hx,hy=>by rw[kd.inj _ _ _ hx hy]
 |.a k,.t js,v,hx,hy=>by
  obtain⟨a,o,g,n,rfl,_⟩:=hy
  have:=kd.byValue _ _ hx
  simp[carriedByValue]at this
 |.t ks,.a j,v,hx,hy=>by
  obtain⟨a,o,g,n,rfl,_⟩:=hx
  have:=kd.byValue _ _ hy
  simp[carriedByValue]at this
 |.t ks,.t js,v,hx,hy=>by
  obtain⟨a,o,g,n,rfl,z,G,F,r⟩:=hx
  obtain⟨H,l,J,m,I,q,B⟩:=hy.ref
  rw[z]at m;cases m
  rw[F]at q
  cases q
  rw[KAts.inj ks r B]
theorem KAts.inj{h:Heap}:∀(x:FZ){y:FZ}{vs:AE},KAts kd h x vs->KAts kd h y vs->x=y
 |[],[],_,_,_=>rfl
 |[],k::ks,_,hx,⟨_,_,e,_⟩=>by cases hx;cases e
 |k::ks,[],_,⟨_,_,e,_⟩,hy=>by cases hy;cases e
 |k::ks,j::js,vs,⟨v,r,e,h1,h2⟩,⟨u,q,e',g1,g2⟩=>by
  subst e
  injection e' with l g
  subst l;subst g
  rw[KAt.inj k h1 g1,KAts.inj ks h2 g2]
end
mutual
theorem KAt.keep{h h':Heap}(j:∀a o g n,h.get? a=So o->YL=.seq g n->h'.get? a=So o):∀(x:Z5){v:An},KAt kd h x v->KAt kd h' x v
 |.a k,_,x=>x
 |.t ks,_,⟨a,o,g,n,e,h1,h2,h3,h4⟩=>⟨a,o,g,n,e,j _ _ _ _ h1 h3,h2,h3,KAts.keep j ks h4⟩
theorem KAts.keep{h h':Heap}(j:∀a o g n,h.get? a=So o->YL=.seq g n->h'.get? a=So o):∀(x:FZ){vs:AE},KAts kd h x vs->KAts kd h' x vs
 |[],_,x=>x
 |k::ks,_,⟨v,r,e,h1,h2⟩=>⟨v,r,e,KAt.keep j k h1,KAts.keep j ks h2⟩
end
def JhK{d:Addr}{o:Obj}{es:GT}{m:Nat}(v:h.get? d=So o)(r:o.data=.dict es m)(hs:Heap.SameBut d h h'):∀a o g n,h.get? a=So o->YL=.seq g n->h'.get? a=So o:=λa q g n j l=>by
 have:a≠d:=λz=>by subst z;rw[v]at j;cases j;rw[r]at l;cases l
 exact(hs.2 a this).trans j
section
variable{A:Bv}{E:Ay}
def Jvf{ks:FZ}{Q:Int->Shared->Prop}(hu:A.units<cLine)(x:KAt kd VU Fp Ar)(h:Q (sN kd Fp) {s with toks:=XF+kDrw (.t ks)})
  (B:∀k∈ks,∀v m O,KAt kd m.heap k v->O cY {m with toks:=m.toks+kDrw k}->wpAny Bp XU (pyHash v) O E m):wpAny Bp A (pyHash Ar) Q E s:=by
 obtain⟨o,Z,n,N,hc,W,hi⟩:=x.ref;have H:s.TypeIs Ar "tuple":=⟨o,N,hc⟩;(unfold pyHash);(first|unfold pyHashByItsType|skip);(first|refine Za (wpAny_cRoomFor_or (.inr hu) ?_)|skip);(refine Za (qJ H dQ ?_));(show wpAny _ _ (if(So (Value.builtin "tuple.__hash__")==So XH)=To then _ else _) Q E s);(rw[if_neg (by rw[beq_builtin_none];exact ZH)]);(refine Za (qJ H dQ ?_));(show wpAny _ _ (callSpecialIfBoundUnlessNone? Ar "__hash__" _>>=_) Q E s);(refine Za (wpAny_callSpecialIfBoundUnlessNone?_slot H Qb4 (ZD Qb4 H F.entry_tuple_hash ?_ (F.args_tuple_hash_1 _))));(show wpAny _ _ (Builtin.Tuple.tupleItemsOf Ar>>=_) _ _ s);(refine Za (wpAny_tupleItemsOf N W (Za ?_)));rw[<-Array.forIn_toList];refine wpAny_forIn_list _ (λrest(b:Array Int)m=>∃done left,ks=done++left/\KAts kd VU left rest/\b.toList=gE kd done/\m={s with toks:=XF+yF done}) _ ?_ ?_ _ _ ⟨[],ks,rfl,hi,rfl,rfl⟩
 ·rintro y rest b m⟨done,left,e,G,J,rfl⟩;cases left with
  |nil=>cases G
  |cons k left=>
   obtain⟨v,r,L,h1,h2⟩:=G;cases L;have X:∀l:List bC,gE kd (l++[k])=gE kd l++[sN kd k]:=λl=>by induction l with
    |nil=>rfl
    |cons z l B=>simp[gE,B]
   have U:∀l:List bC,yF (l++[k])=yF l+kDrw k:=λl=>by induction l with
    |nil=>simp[yF]
    |cons z l B=>simp[yF,B,Nat.add_assoc]
   refine Za (B k (by rw[e];simp) _ _ _ h1 ?_);have q:∃g j,ks=g++j/\KAts kd VU j rest/\(b.push cY).toList=gE kd g/\({s with toks:=XF+yF done+kDrw k}:Shared)={s with toks:=XF+yF g}:=⟨done++[k],left,by simp[e],h2,by simp[J,X],by rw[U,Nat.add_assoc]⟩;first
    |exact Zb q
    |exact Za (Zb (Zb q))
 ·rintro b m⟨done,left,e,G,J,rfl⟩;cases left with
  |cons k left=>obtain⟨_,_,L,_⟩:=G;cases L
  |nil=>
   rw[pE]at e;subst e;show wpAny _ _ (retInt (Builtin.Tuple.tupleHashOf b.toList)) _ _ _;(rw[J]);(refine wpAny_ret_mkInt ?_);show wpAny _ _ (if(decide (-(2:Int)^63<=Builtin.Tuple.tupleHashOf (gE kd ks))&&decide (Builtin.Tuple.tupleHashOf (gE kd ks)<2^63))=To then _ else _) Q E _;simp only[sN,kDrw]at h;unfold reduceHash at h;by_cases I:(decide (-(2:Int)^63<=Builtin.Tuple.tupleHashOf (gE kd ks))&&decide (Builtin.Tuple.tupleHashOf (gE kd ks)<2^63))=To
   ·(rw[if_pos I]);(rw[if_pos I]at h);(exact Zb (by simpa[Nat.add_assoc]using h))
   ·(rw[if_neg I]);(rw[if_neg I]at h);(exact Za (kB (Zb (by simpa[Nat.add_assoc]using h))))
theorem JmD{ks:FZ}{k:Z5}(h:k∈ks):kDep k<=rE ks:=by
 induction ks with
 |nil=>cases h
 |cons z ks g=>
  simp only[rE];rcases Zf.mp h with rfl|h
  ·lia
  ·have:=g h;lia
theorem Jst:∀(n:Nat)(k:Z5)(A:Bv)(v:An)(s:Al)(Q:Int->Shared->Prop),kDep k<=n->YH+4*n<cLine->KAt kd VU k v->Q cY {s with toks:=XF+kDrw k}->wpAny Bp A (pyHash v) Q E s
 |n,.a k,A,v,s,Q,_,_,x,h=>kd.pyHash x h
 |0,.t ks,A,v,s,Q,hn,_,_,_=>by simp[kDep]at hn
 |n+1,.t ks,A,v,s,Q,hn,hu,x,h=>by
  obtain⟨a,_,_,_,rfl,_⟩:=id x
  simp only[kDep]at hn
  exact Jvf Af x h λk l m g o j h'=>Jst n k XU m g o (by have:=JmD l;lia) (by have:A.in1.units=YH+1:=rfl;lia) j h'
def Jtx{xs ys:FZ}{Q:E5}(hu:A.units<cLine)(hx:KAt kd VU (.t xs) Ar)(hy:KAt kd VU (.t ys) CK)(h:Q (decide ((KTr.t xs:KTr κ)=.t ys)) s)
  (ih:∀k∈xs,∀j v u Q',KAt kd VU k v->KAt kd VU j u->Q' (decide (k=j)) s->wpAny Bp XU (eqBool v u) Q' E s):wpAny Bp A (eqBool Ar CK) Q E s:=by
 have e0:decide ((KTr.t xs:KTr κ)=.t ys)=decide (xs=ys):=pF.mpr ⟨λz=>by injection z,λz=>by rw[z]⟩;rw[e0]at h;obtain⟨oa,Z,na,U,hca,hda,hia⟩:=hx.ref;obtain⟨ob,bs,nb,N,hcb,hdb,hib⟩:=hy.ref;have O:s.TypeIs Ar "tuple":=⟨oa,U,hca⟩;have L:s.TypeIs CK "tuple":=⟨ob,N,hcb⟩;(unfold eqBool);(try with_reducible refine wA ?_);(show wpAny _ _ (if(Value.ref a==Value.ref b)=To then _ else _) Q E s);by_cases I:(Value.ref a==Value.ref b)=To
 ·rw[if_pos I];have e:a=b:=by have:=fF I;injection this
  subst e;have:=KAt.inj _ hx hy;injection this with e1;rw[Zx e1]at h;exact Za (kB (Zb (by simpa using h)))
 ·rw[if_neg I];refine Za (wpAny_richCompare_same_room (op:=.Eq) O L Qee (ZD Qee O F.entry_tuple_eq ?_ (F.args_tuple_eq_2 _ _)) hu);(show wpAny _ _ (isInstance CK (.type "tuple")>>=_) _ _ s);(refine Za (oF L isSubtype_tuple_tuple ?_));(simp only[sD,Zl,ZF]);(refine Za (wpAny_tupleItemsOf U hda (Za (wpAny_tupleItemsOf N hdb (Za ?_)))));refine wpAny_forIn_list _ (λrest r s'=>r.1=No/\s'=s/\∃G B m y,rest=List.zip m y/\(∀k∈G,k∈xs)/\KAts kd VU G m/\KAts kd VU B y/\decide (G=B)=decide (xs=ys)/\(m.length==Yw)=(Z.size==bs.size)) _ ?_ ?_ _ _ ⟨rfl,rfl,xs,ys,Z.toList,bs.toList,rfl,λ_ z=>z,hia,hib,rfl,by simp⟩
  ·rintro⟨u,v⟩rest r s'⟨hr,rfl,G,B,m,y,J,hm,o,g,l,q⟩;cases G with
   |nil=>cases o;simp at J
   |cons k1 G=>
    obtain⟨u',X,rfl,p1,p2⟩:=o;cases B with
    |nil=>cases g;simp at J
    |cons k2 B=>
     obtain⟨v',H,rfl,q1,q2⟩:=g;simp only[sF,qB,Prod.mk.injEq]at J;obtain⟨⟨rfl,rfl⟩,rfl⟩:=J;refine Za (ih k1 (hm _ Ad) k2 _ _ _ p1 q1 ?_);by_cases hk:k1=k2
     ·subst hk;rw[Zx rfl];simp only[sD,Zl,ZF];refine Zb ⟨rfl,rfl,G,B,X,H,rfl,λk z=>hm k (by simp[z]),p2,q2,?_,by simpa using q⟩;rw[<-l];exact pF.mpr ⟨λz=>by rw[z],λz=>by injection z⟩
     ·have hf:decide (xs=ys)=Fo:=by rw[<-l];exact Zs λz=>hk (by injection z)
      rw[hf]at h;(rw[Zs hk]);(simp only[Bool.not_false,if_true]);exact Za (Zb (Zb (Zb ⟨_,rfl,(λe=>nomatch e),nD h⟩)))
  ·rintro⟨r1,r2⟩s'⟨hr,rfl,G,B,m,y,J,hm,o,g,l,q⟩;simp only at hr;subst hr;refine Zb ?_;have W:(Z.size==bs.size)=decide (xs=ys):=by
    rw[<-l,<-q];cases G with
    |nil=>
     cases o;cases B with
     |nil=>cases g;simp
     |cons k2 B=>obtain⟨v',H,rfl,q1,q2⟩:=g;simp
    |cons k1 G=>
     obtain⟨u',X,rfl,p1,p2⟩:=o;cases B with
     |nil=>cases g;simp
     |cons k2 B=>obtain⟨v',H,rfl,q1,q2⟩:=g;simp at J
   refine⟨.bool (Z.size==bs.size),rfl,(λe=>nomatch e),nD ?_⟩;rw[W];exact h
def Apart(kd:IB):Prop:=∀(A:Bv)(E:Ay)(s:Al)(k:κ)(v:An)(a:Addr)(o:Obj)(g:B6)(n:Nat)(Q:E5),YH<cLine->kd.is k v=To->s.heap.get? a=So o->o.cls=.type "tuple"->YL=.seq g n->Q Fo s->wpAny Bp A (eqBool v Ar) Q E s/\wpAny Bp A (eqBool Ar v) Q E s
theorem JrS(l:Apart kd):∀(n:Nat)(k j:Z5)(A:Bv)(v u:An)(s:Al)(Q:E5),kDep k<=n->YH+4*n+1<cLine->KAt kd VU k v->KAt kd VU j u->Q (decide (k=j)) s->wpAny Bp A (eqBool v u) Q E s
 |n,.a k,.a j,A,v,u,s,Q,_,_,x,y,h=>kd.eqBool x y (by rw[show decide ((KTr.a k:KTr κ)=.a j)=decide (k=j)from pF.mpr ⟨λz=>by injection z,λz=>by rw[z]⟩]at h;exact h)
 |n,.a k,.t js,A,v,u,s,Q,_,hu,x,y,h=>by
  obtain⟨a,o,g,m,rfl,q,B,r,_⟩:=y
  rw[Zs (λz=>nomatch z)]at h
  exact(l A E s k v a o g m Q Af x q B r h).1
 |n,.t ks,.a j,A,v,u,s,Q,_,hu,x,y,h=>by
  obtain⟨a,o,g,m,rfl,q,B,r,_⟩:=x
  rw[Zs (λz=>nomatch z)]at h
  exact(l A E s j u a o g m Q Af y q B r h).2
 |0,.t ks,.t js,A,v,u,s,Q,hn,_,_,_,_=>by simp[kDep]at hn
 |n+1,.t ks,.t js,A,v,u,s,Q,hn,hu,x,y,h=>by
  obtain⟨a,_,_,_,rfl,_⟩:=id x
  obtain⟨b,_,_,_,rfl,_⟩:=id y
  simp only[kDep]at hn
  exact Jtx Af x y h λk I j J H F G L h'=>JrS l n k j XU J H s F (by have:=JmD I;lia) (by have:A.in1.units=YH+1:=rfl;lia) G L h'
theorem JrP:∀(n:Nat)(k:Z5)(A:Bv)(v:An)(s:Al)(Q:E5),kDep k<=n->KAt kd VU k v->Q To s->wpAny Bp A (eqIsQuiet n v) Q E s
 |n,.a k,A,v,s,Q,_,x,h=>by rw[eqIsQuiet_byValue n (kd.byValue _ _ x)];exact Zb h
 |0,.t ks,A,v,s,Q,hn,_,_=>by simp[kDep]at hn
 |n+1,.t ks,A,v,s,Q,hn,x,h=>by
  obtain⟨a,o,l,m,rfl,z,J,I,B⟩:=x
  simp only[kDep]at hn
  have q:s.TypeIs Ar "tuple":=⟨o,z,J⟩
  (unfold eqIsQuiet);(refine Za (qJ q F.slot_tuple_eq.lookup ?_));(show wpAny _ _ (isInstance Ar (.type "tuple")>>=_) _ _ s)
  (refine Za (oF q isSubtype_tuple_tuple ?_));(simp only[sD,Zl,ZF]);(refine Za (uC z I (Za ?_)))
  (show wpAny _ _ (forIn l _ _) _ _ s);(rw[<-Array.forIn_toList])
  refine wpAny_forIn_list _ (λrest r j=>r.1=No/\j=s/\∃left,rE left<=n/\KAts kd VU left rest) _ ?_ ?_ _ _ ⟨rfl,rfl,ks,by lia,B⟩
  ·rintro v rest r j⟨g,rfl,left,H,y⟩
   cases left with
   |nil=>cases y
   |cons k left=>
    obtain⟨W,U,e,G,L⟩:=y
    cases e
    simp only[rE]at H
    refine Za (JrP n k _ _ _ _ Af G ?_)
    (simp only[sD,Zl,ZF]);(exact Zb ⟨rfl,rfl,left,by lia,L⟩)
  ·rintro⟨O,N⟩j⟨g,rfl,_⟩
   simp only at g
   subst g
   exact Zb h
end
noncomputable def Jpu (kd:IB) (o:Apart kd):HeapKind P w (List bC)where
 is:=λh ks a=>KAt kd h Fp Ar/\rE ks<=7
 hash:=λks=>sN kd Fp
 draws:=λks=>kDrw Fp
 room:=λA=>YH+50<cLine
 inj:=λj l=>by
  have:=KAt.inj _ j.1 l.1
  injection this
 keeps:=λx r m v=>⟨KAt.keep (JhK r m v) _ x.1,x.2⟩
 pyHash:=λq g h=>Jst 8 _ _ _ _ _ (by simp only[kDep];have:=g.2;lia) Af g.1 h
 eqBool:=λq j l h=>JrS o 8 _ _ _ _ _ _ _ (by simp only[kDep];have:=j.2;lia) Af j.1 l.1 (by rw[show decide ((KTr.t _:KTr κ)=.t _)=decide (_=_)from pF.mpr ⟨λz=>by injection z,λz=>by rw[z]⟩];exact h)
 quiet:=λg h=>JrP 8 _ _ _ _ _ (by simp only[kDep];have:=g.2;lia) g.1 h
end
def JpA(prog:Ba)(w:AQ):Apart 'Ϡ':=λA E s k v a o l n Q j r m y q g=>by
 have p:s.heap.IsTuple a l:=⟨o,m,y,n,q⟩
 rcases Js r with⟨i,t,rfl,rfl⟩|⟨x,t,rfl,rfl⟩|⟨rfl,rfl⟩
 ·exact⟨SeqAt.EqAt.int_tuple i t p j _ _ _ _ g,SeqAt.EqAt.tuple_int i t p j _ _ _ _ g⟩
 ·exact⟨SeqAt.EqAt.str_tuple x t p j _ _ _ _ g,SeqAt.EqAt.tuple_str x t p j _ _ _ _ g⟩
 ·exact⟨SeqAt.EqAt.none_tuple p j _ _ _ _ g,SeqAt.EqAt.tuple_none p j _ _ _ _ g⟩
def Jex (prog:Ba) (w:AQ):HeapKind prog w (List DI):=Jpu 'Ϡ' (JpA prog w)
inductive V where
 |non|bl (b:Bool)|int (i:Int)|str (x:Str)|byt (b:Array UInt8)|flt (b:UInt64)|ref (a:Addr)|ty (n:String)
noncomputable instance:DecidableEq V:=λ_ _=>Classical.propDecidable _
variable{v:V}{vs:Av}
noncomputable def RelV:V->Value->Prop
 |.non,u=>u=XH
 |.bl b,u=>u=Value.bool b
 |.int i,u=>∃t,u=Value.int i t
 |.str x,u=>∃t,u=Value.str x t
 |.byt b,u=>∃t,u=Value.bytes b t
 |.flt b,u=>∃t,u=Value.float b t
 |.ref a,u=>u=Value.ref a
 |.ty n,u=>u=Value.type n
noncomputable abbrev Vals:List V->List Value->Prop:=Paired RelV
def Vals.length{xs:Av}{us:AE}(r:Qbd):Ah=us.length:=uH r
theorem Vals.get:∀{xs:Av}{us:AE}{i:Nat}{x:V},Vals xs us->xs[i]? =So x->∃u,us[i]? =So u/\RelV x u
 |_,_,_,_,.nil,e=>by simp at e
 |_,_,0,_,.cons r _,e=>by simp at e;subst e;exact Mi
 |_,_,i+1,x,.cons _ t,e=>by
  obtain⟨u,j,g⟩:=Vals.get (i:=i) (x:=x) t (by simpa using e)
  exact⟨u,by simpa using j,g⟩
theorem Vals.append:∀{xs ys:Av}{us ws:AE},Vals xs us->Vals ys ws->Vals (xs++ys) (us++ws)
 |_,_,_,_,.nil,s=>s
 |_,_,_,_,.cons r t,s=>.cons r (Vals.append t s)
theorem Vals.take:∀{xs:Av}{us:AE}(n:Nat),Vals xs us->Vals (xs.take n) (us.take n)
 |_,_,0,_=>.nil
 |_,_,_+1,.nil=>.nil
 |_,_,n+1,.cons r t=>.cons r (Vals.take n t)
theorem Vals.drop:∀{xs:Av}{us:AE}(n:Nat),Vals xs us->Vals (xs.drop n) (us.drop n)
 |_,_,0,r=>r
 |_,_,_+1,.nil=>.nil
 |_,_,n+1,.cons _ t=>Vals.drop n t
def Vals.none_of:∀{xs:Av}{us:AE}{i:Nat},Vals xs us->xs[i]? =No->us[i]? =No:=fun{xs us i}r e=>by
 have g:=XR
 have j:Ah<=i:=List.getElem?_eq_none_iff.mp e
 exact List.getElem?_eq_none_iff.mpr Af
def RelO:Option V->Option Value->Prop
 |some v,So u=>RelV v u
 |none,No=>True
 |_,_=>False
def KV {κ:Type}:List (κ×V)->List (κ×Value)->Prop:=Paired fun(p:κ×V)(q:κ×Value)=>p.1=q.1/\RelV p.2 q.2
noncomputable def kV:Key->V
 |.inl i=>.int i
 |.inr x=>.str x
 |.non=>.non
inductive HO where
 | lst (xs:List V)
 | lsm (t:Str) (xs:List V)
 | tup (xs:List V)
 | dK (kvs:List (Key × V)) | dT (kvs:List (List (KTr Key) × V))
 | set (S:Int -> Bool) (n:Nat)
 | ins (C dx:Addr) (fs:List (Str × V))
 | own (x:Addr)
 | xd (fs:List (Str × V))
 | met (f x:Addr)
 | rng (lo hi:Int)
 | frz (o:Obj) (u:HO)
 | tbl (ps:Array Value)
 | ext (φ:Heap -> Prop)
variable{o:HO}
noncomputable abbrev Hp:=Addr->Option HO
variable{H W:Hp}
noncomputable def upd (H:Hp) (a:Addr) (o:HO):Hp:=λb=>if b=a then So o else H b
def Je:upd H a o a=So o:=by unfold upd;rw[if_pos rfl]
def Jc(h:b≠a):upd H a o b=H b:=by unfold upd;rw[if_neg h]
def upd_upd{u:HO}:upd ES a u=upd H a u:=by funext b;unfold upd;split<;>rfl
def uW{u:HO}(h:H a=So o)(h':H b=So u)(d:o≠u):a≠b:=by intro e;subst e;rw[h]at h';exact d (wD h')
def Ji(h:H a=So o)(h':H b=No):a≠b:=by intro e;subst e;rw[h]at h';cases h'
mutual
def KH(H:Hp):KTr Key->V->Prop
 |.a k,v=>v=kV k
 |.t ks,v=>∃a xs,v=.ref a/\H a=So Bb/\KHs H ks xs
def KHs(H:Hp):List DI->List V->Prop
 |[],xs=>xs=[]
 |k::ks,xs=>∃x r,xs=x::r/\KH H k x/\KHs H ks r
end
mutual
theorem KH.keep{H W:Hp}(g:∀b xs,H b=So Bb->W b=So Bb):∀(k:KTr Key){v:V},KH H k v->KH W k v
 |.a _,_,x=>x
 |.t ks,_,⟨a,xs,e,h1,h2⟩=>⟨a,xs,e,g _ _ h1,KHs.keep g ks h2⟩
theorem KHs.keep{H W:Hp}(g:∀b xs,H b=So Bb->W b=So Bb):∀(ks:Hj){xs:Av},KHs H ks xs->KHs W ks xs
 |[],_,x=>x
 |k::ks,_,⟨v,r,e,h1,h2⟩=>⟨v,r,e,KH.keep g k h1,KHs.keep g ks h2⟩
end
def KB(H:Hp)(k:Qcw)(b:Addr):Prop:=KH H (.t k) (.ref b)/\rE k<=7
def KB.keep{k:Hj}(x:KB H k b)(g:∀b xs,H b=So Bb->W b=So Bb):KB W k b:=⟨KH.keep g _ x.1,x.2⟩
def KB.tup{k:Hj}(x:KB H k b):∃xs,H b=So Bb:=by obtain⟨⟨a,xs,e,h,_⟩,_⟩:=x;cases e;exact⟨xs,h⟩
section
variable(P:Ba)(w:AQ)
def ObjOk (H:Hp) (h:Heap) (a:Addr):HO->Prop
 |.lst xs=>Ah<=sizeLine/\∃(its:AE)(n:Nat),Vals xs its/\h.get? a=So {cls:=.type "list",data:=.seq AF n}
 |.lsm _ xs=>Ah<=sizeLine/\∃(its:AE)(n:Nat),Vals xs its/\h.get? a=So {cls:=.type "list",data:=.seq AF n}
 |.tup xs=>(Ah<=sizeLine/\∀o,h.get? a=So o->o.dict=No)/\∃its:List Value,Vals xs its/\IsTup h a AF
 |.dK kvs=>AV<=sizeLine/\ED=Fo/\∃vs,KV kvs vs/\h.DictOf V5 a vs
 |.dT kvs=>AV<=sizeLine/\ED=Fo/\∃xs:List (List (KTr Key)×Addr×Value),
   Paired (fun(p:List (KTr Key)×V)(q:List (KTr Key)×Addr×Value)=>p.1=q.1/\KB H p.1 q.2.1/\RelV p.2 q.2.2) kvs xs/\
   ∃o es z,h.get? a=So o/\o.ExactDict/\o.data=.dict es z/\es.toList=xs.map (entryOfKey 'У')/\(xs.map (·.1)).Nodup
 |.set S n=>h.SetOf (intKind P w) a S n
 |.ins C dx fs=>H dx=So (.own a)/\fs.length<=1000/\dx≠a/\h.get? a=So (PySem.W.instObj C dx)/\
   ∃mA,h.Ns1 dx mA/\(∀f,RelO IS (mA f))/\PySem.Within mA (fs.map (·.1))
 |.own _=>∃o,h.get? a=So o
 |.xd fs=>∃mA,h.Ns1 a mA/\∀f,RelO IS (mA f)
 |.rng F B=>∃t u v,h.get? a=So {cls:=.type "range",data:=.fields #[.int F t,.int B u,.int 1 v]}
 |.frz o u=>h.get? a=So o/\ObjOk H h a u
 |.tbl ps=>∃q G j,ps[0]? =So (.str q G)/\h.get? a=So {cls:=.none,data:=.fields j}/\TriplesOk j.toList/\∀pos l,codeAmong pos j.toList=So l->∃(c:Addr)(r:Obj)(vs:B6)(t:Tok),l=.ref c/\H c=So (.frz r Su)/\r.data=.fields vs/\vs[1]? =So (.str q t)
 |.met f x=>h.get? a=So (PySem.W.methodObj Br GB)
 |.ext g=>g h/\(∃o,h.get? a=So o)/\∀m y:Heap,g m->(∀o,m.get? a=So o->y.get? a=So o)->g y
def iS{z:B6}{n:Nat}(o:Obj)(q:(h.push {cls:=.type "tuple",data:=.seq z n}).get? Bz=So o):o.dict=No:=by rw[Ze _ rfl]at q;cases q;rfl
def HOk(H:Hp)(h:Heap):Prop:=∀a o,H a=So o->ObjOk P w H h a o
end
def ObjOk.lt(x:M6):a<Bz:=by
 cases o with
 |lst j=>obtain⟨_,_,_,_,e⟩:=x;exact Zj e
 |lsm _ j=>obtain⟨_,_,_,_,e⟩:=x;exact Zj e
 |tup j=>obtain⟨_,_,_,p⟩:=x;exact p.lt
 |dK g=>obtain⟨_,_,_,_,o,_,_,e,_⟩:=x;exact Zj e
 |dT g=>obtain⟨_,_,_,_,o,_,_,e,_⟩:=x;exact Zj e
 |set S n=>obtain⟨o,_,_,_,e,_⟩:=x;exact Zj e
 |ins C dx fs=>obtain⟨_,_,_,e,_⟩:=x;exact Zj e
 |own y=>obtain⟨_,e⟩:=x;exact Zj e
 |xd fs=>obtain⟨_,⟨_,_,_,e,_⟩,_⟩:=x;exact Zj e
 |rng q l=>obtain⟨_,_,_,e⟩:=x;exact Zj e
 |frz ob u=>obtain⟨e,_⟩:=x;exact Zj e
 |tbl ps=>obtain⟨_,_,_,_,e,_⟩:=x;exact Zj e
 |met f y=>exact Zj (show h.get? a=So _ from x)
 |ext m=>obtain⟨_,⟨_,e⟩,_⟩:=x;exact Zj e
theorem Paired.mapP{l m:Type}{F G:l->m->Prop}:∀{g:List l}{j:List m},Paired F g j->(∀a b,F a b->G a b)->Paired G g j
 |_,_,.nil,_=>.nil
 |_,_,.cons r t,f=>.cons (f _ _ r) (Paired.mapP t f)
def ObjOk.stay(x:M6)(k:∀b u,(b=a\/H b=So bD)->h.get? b=So u->h'.get? b=So u)
  (ho:∀b,H b=So (.own a)->W b=So bD) (L:∀b xs,H b=So Bb->W b=So Bb)
  (G:∀b o u,H b=So (.frz o (.ext u))->W b=So (.frz o (.ext u)):=by exactλ_ _ _ q=>q):ObjOk P w W h' a o:=by
 induction o with
 |lst xs=>obtain⟨z,g,n,r,e⟩:=x;exact Qu
 |lsm _ xs=>obtain⟨z,g,n,r,e⟩:=x;exact Qu
 |tup xs=>obtain⟨⟨z,X⟩,g,r,ob,e,c⟩:=x;exact⟨⟨z,λo q=>by rw[k _ _ 'Ð' e]at q;cases q;exact X _ e⟩,g,r,ob,k _ _ Be e,c⟩
 |dK l=>obtain⟨z,y,vs,r,ob,es,j,e,c⟩:=x;exact⟨z,y,vs,r,ob,es,j,k _ _ Be e,c⟩
 |dT l=>obtain⟨z,y,xs,r,ob,es,j,e,c⟩:=x;exact⟨z,y,xs,Paired.mapP r λp q z=>⟨z.1,z.2.1.keep L,z.2.2⟩,ob,es,j,k _ _ Be e,c⟩
 |set S n=>obtain⟨ob,es,j,t,e,c⟩:=x;exact⟨ob,es,j,t,k _ _ Be e,c⟩
 |ins C dx fs=>obtain⟨d,z,ne,e,mA,⟨m,es,j,B,c⟩,r⟩:=x;exact⟨ho _ d,z,ne,k _ _ Be e,mA,⟨m,es,j,k _ _ (.inr d) B,c⟩,r⟩
 |own y=>obtain⟨ob,e⟩:=x;exact⟨ob,k _ _ Be e⟩
 |xd fs=>obtain⟨mA,⟨m,es,j,e,c⟩,r⟩:=x;exact⟨mA,⟨m,es,j,k _ _ Be e,c⟩,r⟩
 |rng lo hi=>obtain⟨t,u,v,e⟩:=x;exact⟨t,u,v,k _ _ Be e⟩
 |frz ob u ih=>obtain⟨e,q⟩:=x;exact⟨k _ _ Be e,ih q⟩
 |tbl ps=>obtain⟨q,O,U,J,e,t,c⟩:=x;exact⟨q,O,U,J,k _ _ Be e,t,λpos Z z=>let⟨b,oc,vs,N,I,B,e3⟩:=c pos Z z;⟨b,oc,vs,N,I,G _ _ _ B,e3⟩⟩
 |met f y=>have e:h.get? a=So Vg:=x;show h'.get? a=So Vg;exact k a _ Be e
 |ext φ=>obtain⟨p,⟨o,e⟩,F⟩:=x;exact⟨F _ _ p λo q=>k _ _ Be q,⟨o,k _ _ Be e⟩,F⟩
def HOk.lt(x:BE)(e:H a=So o):a<Bz:=(x a o e).lt
def HOk.fresh(x:BE)(e:Bz<=a):H a=No:=by
 cases q:H a with
 |none=>rfl
 |some u=>exact absurd (ZB (x.lt q) e) CH
def HOk.kept(x:BE)(k:∀b u,h.get? b=So u->h'.get? b=So u):HOk P w H h':=λa o e=>
 (x a o e).stay (λb u _ q=>k b u q) Mg λ_ _ q=>q
def HOk.laid(x:BE)(k:∀b u,h.get? b=So u->h'.get? b=So u)(l:Bz<=a)(new:ObjOk P w ES h' a o):HOk P w ES h':=λb u e=>by
 have g:=x.fresh l
 by_cases j:b=a
 ·subst j;rw[Je]at e;cases e;exact new
 ·rw[Jc j]at e
  exact(x b u e).stay (λc v _ q=>k c v q) (λc q=>by rw[Jc 'Μ'];exact q) (λc y q=>by rw[Jc 'Μ'];exact q) λc m r q=>by rw[Jc 'Μ'];exact q
def Rd(H:Hp)(a:Addr)(u:HO):Prop:=H a=So u\/∃o,H a=So LN
def Rd.ok{u:HO}(r:Rd H a u)(x:BE):ObjOk P w H h a u:=by
 rcases r with r|⟨o,r⟩
 ·exact x a u r
 ·obtain⟨_,q⟩:=x a _ r;exact q
noncomputable def Mut:Option HO->Prop
 |some (.lst _)=>True
 |some (.lsm _ _)=>True
 |some (.dK _)=>True
 |some (.dT _)=>True
 |some (.set _ _)=>True
 |some (.ins _ _ _)=>True
 |some (.ext _)=>True
 |_=>False
section
variable{x e:Addr}{o':HO}
def HOk.write(ok:BE)(l:Qdd)(I:e=x\/H e=So GA)(k:∀b u,b≠e->h.get? b=So u->h'.get? b=So u)(G:∃u,h'.get? e=So u)
  (new:ObjOk P w (upd H x o') h' x o'):HOk P w (upd H x o') h':=λb u q=>by
 have j:∀c y,H c=So (.own y)->c≠x:=λc y r z=>by subst z;rw[r]at l;exact l
 have m:∀c xs,H c=So Bb->c≠x:=λc xs r z=>by subst z;rw[r]at l;exact l
 by_cases F:b=x
 ·subst F;rw[Je]at q;cases q;exact new
 ·rw[Jc F]at q
  by_cases g:b=e
  ·have J:H b=So GA:=by
    rcases I with z|z
    ·exact absurd (g.trans z) F
    ·rw[g];exact z
   rw[q]at J;cases J;obtain⟨v,L⟩:=G;exact⟨v,by rw[g];exact L⟩
  ·refine(ok b u q).stay (λc v B r=>k c v ?_ r) (λc r=>by rw[Jc (j c b r)];exact r) (λc xs r=>by rw[Jc (m c xs r)];exact r) λc o' N r=>by rw[Jc (λz=>by subst z;rw[r]at l;exact l)];exact r
   rcases B with rfl|B
   ·exact g
   ·rintro rfl
    rcases I with z|z
    ·exact j c b B z
    ·rw[B]at z;cases z;exact F rfl
end
structure Un(fs ex:A9)(H W:Hp)(h h':Heap):Prop where
 keep:∀b o,h.get? b=So o->H b=No->b∉fs->b∉ex->h'.get? b=So o
 slot:∀b o,h.get? b=So o->H b=No->b∈fs->b∉ex->∃sl,h'.get? b=So {o with slots:=sl}
 free:∀b o,h.get? b=So o->H b=No->b∉ex->W b=No
 there:∀b o,h.get? b=So o->b∉ex->∃o',h'.get? b=So o'
 tups:∀b xs,H b=So Bb->W b=So Bb
 frzs:∀b o u,H b=So (.frz o u)->W b=So LN
 tbls:∀b ps,H b=So (.tbl ps)->∃more,W b=So (.tbl (ps++more))
section
variable{fs fs' ex ex':A9}{H H1 H2:Hp}{h h1 h2 h':Heap}{a x e:Addr}{o:HO}
def Un.any(u:Un fs ex H H1 h h1){ob:Obj}(q:h.get? b=So ob)(n:H b=No)(g:b∉ex):∃sl,h1.get? b=So {ob with slots:=sl}:=by
 by_cases j:b∈fs
 ·exact u.slot b ob q n j g
 ·exact⟨ob.slots,u.keep b ob q n j g⟩
def Un.kept(k:∀b u,h.get? b=So u->h'.get? b=So u):Un fs ex H H h h':=
 ⟨λb ob q _ _ _=>k b ob q,λb ob q _ _ _=>⟨ob.slots,k b ob q⟩,λ_ _ _ n _=>n,λb ob q _=>⟨ob,k b ob q⟩,λ_ _ q=>q,λ_ _ _ q=>q,λ_ ps q=>⟨#[],by rw[q];simp⟩⟩
def Un.refl:Un fs ex H H h h:=Un.kept λ_ _ q=>q
def Un.laid(k:∀b u,h.get? b=So u->h'.get? b=So u)(j:Bz<=a)(g:H a=No):Un fs ex H ES h h' where
 keep:=λb u q _ _ _=>k b u q
 slot:=λb u q _ _ _=>⟨u.slots,k b u q⟩
 free:=λb u q n _=>by rw[Jc (Zu (ZB (Zj q) j))];exact n
 there:=λb u q _=>⟨u,k b u q⟩
 tups:=λb l q=>by rw[Jc 'Μ'];exact q
 frzs:=λb u l q=>by rw[Jc 'Μ'];exact q
 tbls:=λb ps q=>⟨#[],by rw[Jc 'Μ',q];simp⟩
def Un.write(j:Qdd)(G:e=x\/H e=So GA)(k:∀b u,b≠e->h.get? b=So u->h'.get? b=So u)(l:∃u,h'.get? e=So u):Un fs ex H bW h h':=by
 have y:∀b,H b=No->b≠x:=λb n z=>by subst z;rw[n]at j;exact j
 have B:∀b,H b=No->b≠e:=λb n z=>by
  subst z;rcases G with r|r
  ·exact y b n r
  ·rw[n]at r;cases r
 have m:∀b u,H b=So u->¬Mut (So u)->b≠x:=λb u q I z=>by subst z;rw[q]at j;exact I j
 refine⟨λb u q n _ _=>k b u (B b n) q,λb u q n _ _=>⟨u.slots,k b u (B b n) q⟩,λb u q n _=>by rw[Jc (y b n)];exact n,λb u q _=>?_,
  λb F q=>by rw[Jc 'Ҁ'];exact q,λb u F q=>by rw[Jc 'Ҁ'];exact q,λb ps q=>⟨#[],by rw[Jc 'Ҁ',q];simp⟩⟩
 by_cases g:b=e
 ·subst g;exact l
 ·exact⟨u,k b u g q⟩
end
noncomputable def trk (h:Heap) (H:Hp):List Addr:=(List.range Bz).filter λa=>(H a).isSome
def hidT (h:Heap) (H:Hp):Heap:=PySem.W.hideAll h QaB
def JlU(h:Heap)(H:Hp):'ֆ'.objs.size=Bz:=PySem.W.hideAll_size _ _
def JpF{o:Obj}(e:h.get? b=So o)(n:H b=No):'ֆ'.get? b=So o:=
 rM _ e λg=>by
  have q:(H b).isSome=To:=(wL.mp g).2
  rw[n]at q;simp at q
def Juv{o:Obj}(e:'ֆ'.get? b=So o):h.get? b=So o/\H b=No:=by
 have g:h.get? b=So o:=PySem.W.of_hideAll QaB e;refine⟨g,?_⟩;cases q:H b with
 |none=>rfl
 |some x=>have j:b∈trk h H:=wL.mpr ⟨List.mem_range.mpr (Zj g),by simp[q]⟩;have z:'ֆ'.get? b=No:=PySem.W.hideAll_none QaB j;rw[z]at e;cases e
noncomputable def JtD (g h:Heap) (L:Addr):List (Addr×Obj):=(List.range Bz).filterMap λa=>if a=L\/(g.get? a).isSome=To then No else(h.get? a).map λo=>(a,o)
def rest (g h:Heap) (L d:Addr):List (Addr×Obj):=(JtD g h L).filter λp=>decide (p.1≠d)
structure Mod(K:Aj)(mg:Bk)(base:Heap):Prop where
 kin:K.In base
 glob:base.Ns mainGlobals mg
 blt:∃mb,base.Ns builtinsNs mb/\∀x:Str,x≠"__name__"->mb x=bootBuiltins x
 nolimit:base.NoLimit
structure Cx where
 prog:Program
 w:World
 K:PySem.W.Frag
 mg:Str->Option Value
 base:Heap
 A:Around
 N:List Str
 s₀:Shared
 H₀:Hp
 env:Env
 outer:List Env
 stack:List Env
 ex:List Addr
 fn:Str->Bool
 calm:Bool
 pn:List (Addr×Obj)
 xe:Value->Shared->Prop
variable{X:Cx}
noncomputable def frs (l:Bq):List Addr:=l.filterMap (·.frame)
noncomputable abbrev Cx.fs (X:Cx):List Addr:=frs a8
def Vis(g:Bf)(x:Str):Prop:=g.names.lookup x=So .local\/g.names.lookup x=So .cell\/g.names.lookup x=So .free
def Loc(g:Bf)(x:Str):Prop:=g.names.lookup x=So .local\/g.names.lookup x=So .cell
def Look(O:Env)(h:Heap)(m:Bk)(x:Str)(u:An):Prop:=
 (O.kindOf x=So .local/\m x=So u)\/((O.kindOf x=So .cell\/O.kindOf x=So .free)/\∃c,O.cells.lookup x=So c/\h.IsCell c (So u))
structure Cx.Ok(X:Cx):Prop where
 mod:Mod X.K X.mg Yh
 kind:X.env.scope.kind=.function
 glob:X.env.globals=mainGlobals
 blt:X.env.builtins=builtinsNs
 above:NC<=A5
 inj:∀x y c,X.env.cells.lookup x=So c->X.env.cells.lookup y=So c->x=y
 has:∀x,(X.env.kindOf x=So .cell\/X.env.kindOf x=So .free)->∃c,X.env.cells.lookup x=So c
 cab:∀x c,X.fn x=To->X.env.cells.lookup x=So c->NC<=c
 hd:X.calm=To->X.A.handled=No
 frames:X.A.frames=So XN
 stk:X.stack=a8\/(XN=Ue::X.outer/\X.env.frame=So A5)
 exf:∀b∈X.ex,b≠A5/\∀x c,X.env.cells.lookup x=So c->c≠b
 bs:∀b o,X.base.get? b=So o->X.s₀.heap.get? b=So o/\X.H₀ b=No
 bsz:X.base.objs.size<=NC
 noex:∀b o,X.base.get? b=So o->b∉X.ex
 exfs:∀b∈X.ex,b∉X.fs
 funs:X.s₀.heap.FunFrames Yh a8
 frf:∀b∈X.fs,X.H₀ b=No
structure Inv(X:Cx)(Y:A8)(Z:Qd0)(H:Hp)(s:Al):Prop where
 ok:X.Ok
 os:s.os=X.s₀.os
 bare:AllBare Z6
 base:Un X.fs X.ex X.H₀ H X.s₀.heap VU
 loc:∃m,s.heap.Ns A5 m/\∀(i:Nat)(x:Str)(v:V),X.N[i]? =So x->Z[i]? =So BO->Vis EW x->∃u,RelV v u/\Look Ue VU m x u
 cell:∀x c,X.env.cells.lookup x=So c->∃v,s.heap.IsCell c v
 free:H A5=No
 freeC:∀x c,X.env.cells.lookup x=So c->H c=No
 pin:∀p∈X.pn++Y,s.heap.get? p.1=So p.2/\H p.1=No/\p.1≠A5/\p.1∉X.fs/\∀v,p.2.data≠.cell v
 hok:HOk XJ X.w H VU
 len:Z.length=X.N.length
section
variable{Z:Qd0}
def Cx.Ok.nofr(ok:X.Ok){o:Obj}(e:X.base.get? b=So o):b∉X.fs:=λg=>by
 have:=(ok.funs.mem g).1
 rw[e]at this;cases this
def Inv.bs(I:AH):∀b o,X.base.get? b=So o->s.heap.get? b=So o/\H b=No:=λb o e=>
 ⟨I.base.keep b o (I.ok.bs b o e).1 (I.ok.bs b o e).2 (I.ok.nofr e) Qaa,I.base.free b o (I.ok.bs b o e).1 (I.ok.bs b o e).2 Qaa⟩
def Inv.bk(I:AH):∀b o,X.base.get? b=So o->s.heap.get? b=So o:=λb o e=>(I.bs b o e).1
def Inv.mod(I:AH):Mod X.K X.mg Yh:=cO
def Inv.kIn(I:AH):X.K.In VU:=I.ok.mod.kin.keeps I.bk
def Inv.lt(I:AH):A5<Aa:=let⟨_,g,_⟩:=Ys;g.lt
def Inv.sz(I:AH):NC<=Aa:=Zq I.ok.above (Nat.le_of_lt I.lt)
def Inv.nofs(I:AH)(h:Aa<=a):a∉X.fs:=λj=>by
 obtain⟨_,o,g,_⟩:=I.ok.funs.mem j
 exact absurd (ZB (Zj g) (Zq I.sz h)) CH
def Inv.cne(I:AH):∀x c,X.env.cells.lookup x=So c->c≠A5:=λx c e z=>by
 obtain⟨v,o,q,l⟩:=I.cell x c e
 obtain⟨m,⟨y,es,r,g,j,_⟩,_⟩:=Ys
 rw[z,g]at q;cases q;rw[j]at l;cases l
def Inv.funs(I:AH):s.heap.FunFrames Yh a8:=by
 have all:∀(l:Bq),(∀b∈frs l,b∈X.fs)->X.s₀.heap.FunFrames Yh l->s.heap.FunFrames Yh l:=by
  intro l;induction l with
  |nil=>intro _ _;trivial
  |cons O r B=>intro q F;obtain⟨N,⟨L,o,g,J,U,G⟩,y⟩:=F;have j:L∈X.fs:=q L (by unfold frs;rw[zH,g];exact fC);obtain⟨sl,e⟩:=I.base.slot L o U (I.ok.frf L j) j λz=>I.ok.exfs L z j;exact⟨N,⟨L,_,g,J,e,G⟩,B (λb m=>q b (by unfold frs;rw[zH,g];exact Zm _ m)) y⟩
 exact all a8 (λ_ m=>m) I.ok.funs
def Inv.stack(I:AH):s.heap.FunFrames Yh XN:=by
 rcases I.ok.stk with e|⟨e,j⟩
 ·rw[e];exact I.funs
 ·rw[e];obtain⟨m,g,_⟩:=Ys;refine .cons (by rw[I.ok.kind];decide) j g ?_ I.funs;exact Heap.get?_none_of_le (Zq I.ok.bsz I.ok.above)
def Inv.stkSub(I:AH):∀b∈frs XN,b∈A5::X.fs:=λb g=>by
 rcases I.ok.stk with e|⟨e,j⟩
 ·rw[e]at g;exact Zm _ g
 ·rw[e]at g
  unfold frs at g
  rw[zH,j]at g
  exact g
def Inv.stkFree(I:AH):∀b∈frs XN,H b=No:=λb g=>by
 rcases Zf.mp (I.stkSub b g)with e|g
 ·rw[e];exact I.free
 ·obtain⟨_,o,j,_⟩:=I.ok.funs.mem g
  exact I.base.free b o j Qb6 λz=>I.ok.exfs b z g
def Inv.step{g':Array GenState}{d':Drawn}(I:AH)
  (j:∀b∈ch,Mx/\b≠A5/\(∀x c,X.env.cells.lookup x=So c->c≠b)/\∀p∈X.pn++Y,p.1≠b)
  (keep:∀b o,b≠A5->b∉X.fs->b∉ch->s.heap.get? b=So o->H b=No->h'.get? b=So o)
  (J:∀b o,b≠A5->b∈X.fs->b∉ch->s.heap.get? b=So o->H b=No->∃sl,h'.get? b=So {o with slots:=sl}) (free:∀b o,b∉ch->s.heap.get? b=So o->H b=No->W b=No)
  (there:∀b o,b∉ch->s.heap.get? b=So o->∃O,h'.get? b=So O)
  (tups:∀b xs,H b=So Bb->W b=So Bb) (frzs:∀b o u,H b=So (.frz o u)->W b=So LN) (tbls:∀b ps,H b=So (.tbl ps)->∃more,W b=So (.tbl (ps++more)))
  (ns:∀m,s.heap.Ns A5 m->h'.Ns A5 m) (hok:Sd) (hg:AllBare g'):
  Inv X Y Z W {s with heap:=h',gens:=g',drawn:=d',toks:=t'}:=by
 have U:∀b o,X.s₀.heap.get? b=So o->b≠A5:=λb o e=>Zu Nr;have G:∀b o,X.s₀.heap.get? b=So o->b∉X.ex->b∉ch:=λb o e g L=>by
  rcases(j b L).1 with z|z
  ·exact g z
  ·exact absurd (ZB (Zj e) z) CH
 have B:∀x c,X.env.cells.lookup x=So c->∀v,s.heap.IsCell c v->h'.IsCell c v:=λx c e v⟨o,N,hd⟩=>by
  have y:c∉ch:=λz=>(j c z).2.2.1 x c e rfl;by_cases hc:c∈X.fs
  ·obtain⟨sl,q⟩:=J c o QdB hc y N Hq;exact⟨_,q,hd⟩
  ·exact⟨o,keep c o QdB hc y N Hq,hd⟩
 refine⟨I.ok,I.os,hg,⟨λb o e n L g=>?_,λb o e n L g=>?_,λb o e n g=>?_,λb o e g=>?_,λb xs e=>tups b xs (I.base.tups b xs e),λb o xs e=>frzs b o xs (I.base.frzs b o xs e),λb ps e=>?_⟩,?_,λx c e=>?_,?_,λx c e=>?_,λp hp=>?_,hok,I.len⟩
 ·exact keep b o (U b o e) L L3 (I.base.keep b o e n L g) Tt
 ·obtain⟨sl,F⟩:=I.base.slot b o e n L g;obtain⟨sl',e2⟩:=J b _ (U b o e) L L3 F Tt;exact⟨sl',e2⟩
 ·obtain⟨O,F⟩:=I.base.there b o e g;exact free b O L3 F Tt
 ·obtain⟨O,F⟩:=I.base.there b o e g;exact there b O L3 F
 ·obtain⟨m1,F⟩:=I.base.tbls b ps e;obtain⟨m2,e2⟩:=tbls b _ F;exact⟨m1++m2,by rw[e2,Array.append_assoc]⟩
 ·obtain⟨m,hn,hl⟩:=Ys;refine⟨m,ns m hn,λi x v F e2 e3=>?_⟩;obtain⟨u,r,l⟩:=hl i x v F e2 e3;refine⟨u,r,?_⟩;rcases l with l|⟨k,c,e,z⟩
  ·exact .inl l
  ·exact .inr ⟨k,c,e,B x c e _ z⟩
 ·obtain⟨v,z⟩:=I.cell x c e;exact⟨v,B x c e v z⟩
 ·obtain⟨m,⟨o,_,_,N,_⟩,_⟩:=Ys;exact free _ o (λz=>(j _ z).2.1 rfl) N Yv
 ·obtain⟨v,o,N,hd⟩:=I.cell x c e;exact free c o (λz=>(j c z).2.2.1 x c e rfl) N Hq
 ·obtain⟨e,n,ne,nf,d⟩:=I.pin p hp;have y:p.1∉ch:=λz=>(j p.1 z).2.2.2 p hp rfl;exact⟨keep p.1 p.2 ne nf y e n,free p.1 p.2 y e n,ne,nf,d⟩
def Inv.un(I:AH)(u:Un X.fs [] H W VU h')(q:Sd):Inv X Y Z W {s with heap:=h',toks:=t'}:=by
 obtain⟨m,⟨o,es,L,B,r⟩,_⟩:=id Ys;obtain⟨sl,F⟩:=u.any B Yv Ad;exact I.step (g':=Z6) (d':=YI) (ch:=[]) (λ_ z=>nomatch z) (λb o _ y _ e n=>u.keep b o e n y Ad) (λb o _ y _ e n=>u.slot b o e n y Ad) (λb o _ e n=>u.free b o e n Ad) (λb o _ e=>u.there b o e Ad) u.tups u.frzs u.tbls (λN G=>by
  obtain⟨O,l,j,g,J⟩:=G;rw[B]at g;cases g;exact⟨_,l,j,F,J⟩) q Yi
def Inv.call{g':Array GenState}{d':Drawn}(I:AH)(u:Un Hi ch H W VU h')(F:Sd)(O:AllBare g')
  (l:∀b∈ch,Mx/\b≠A5/\(∀x c,X.env.cells.lookup x=So c->c≠b)/\∀p∈X.pn++Y,p.1≠b):
  Inv X Y Z W {s with heap:=h',gens:=g',drawn:=d',toks:=t'}:=by
 obtain⟨m,⟨o,es,U,G,r⟩,_⟩:=id Ys;obtain⟨sl,q⟩:=u.any G Yv λz=>(l _ z).2.1 rfl;exact I.step (ch:=ch) l (λb o q L g e n=>u.keep b o e n (λz=>(Zf.mp (I.stkSub b z)).elim q L) g) (λb o _ _ g e n=>u.any e n g) (λb o g e n=>u.free b o e n g) (λb o g e=>u.there b o e g) u.tups u.frzs u.tbls (λm' J=>by
  obtain⟨o',B,y,j,N⟩:=J;rw[G]at j;cases j;exact⟨_,B,y,q,N⟩) F O
def Inv.turned{it:Addr}(I:AH)(k:∀b o,b≠it->s.heap.get? b=So o->h'.get? b=So o)(J:H it=No)(l:it≠A5)
  (h1:it∈X.ex\/X.s₀.heap.objs.size<=it) (B:∀x c,X.env.cells.lookup x=So c->c≠it) (G:∀p∈X.pn++Y,p.1≠it):Inv X Y Z H {s with heap:=h',toks:=t'}:=by
 have j:∀b u,H b=So u->b≠it:=λb u e z=>by rw[z,J]at e;cases e
 refine I.step (g':=Z6) (d':=YI) (ch:=[it]) (λb N=>?_) (λb o _ _ g e _=>k b o (λz=>g (by simp[z])) e) (λb o _ _ g e _=>⟨o.slots,k b o (λz=>g (by simp[z])) e⟩) On
  (λb o g e=>⟨o,k b o (λz=>g (by simp[z])) e⟩) (λ_ _ e=>e) (λ_ _ _ e=>e) (λb ps e=>⟨#[],by rw[e];simp⟩) (λm F=>?_) (λb u e=>?_) Yi
 ·have e:b=it:=by simpa using N
  subst e;exact⟨h1,l,B,G⟩
 ·obtain⟨o,es,y,L,r⟩:=F;exact⟨o,es,y,k _ o (Ne.symm l) L,r⟩
 ·refine(I.hok b u e).stay (λc v g q=>k c v ?_ q) Mg λ_ _ q=>q;rcases g with z|z
  ·rw[z];exact j b u e
  ·exact j c _ z
def Inv.tok(I:AH)(t:Nat):Inv X Y Z H {s with toks:=t}:=I.un (h':=VU) (t':=t) Un.refl XQ
def Inv.kept(I:AH)(k:∀b u,s.heap.get? b=So u->h'.get? b=So u):Inv X Y Z H {s with heap:=h',toks:=t'}:=I.un (Un.kept k) (I.hok.kept k)
def Inv.laid(I:AH)(k:∀b u,s.heap.get? b=So u->h'.get? b=So u)(g:Aa<=a)(new:QV):
  Inv X Y Z ES {s with heap:=h',toks:=t'}:=I.un (Un.laid k g Qbt) (I.hok.laid k g new)
def Inv.write{x e:Addr}(I:AH)(j:Qdd)(l:e=x\/H e=So GA)(k:∀b u,b≠e->s.heap.get? b=So u->h'.get? b=So u)(g:∃u,h'.get? e=So u)
  (new:ObjOk XJ X.w bW h' x o):Inv X Y Z bW {s with heap:=h',toks:=t'}:=I.un (Un.write j l k g) (I.hok.write j l k g new)
def Inv.pins_of{g:A8}(I:AH)(h:∀p∈g,s.heap.get? p.1=So p.2/\H p.1=No/\p.1≠A5/\p.1∉X.fs/\∀v,p.2.data≠.cell v):Inv X g Z H s:=
 ⟨I.ok,I.os,Yi,I.base,Ys,I.cell,Yv,QcC,λp j=>(ZK.mp j).elim (λz=>I.pin p (tJ _ z)) (h p),XQ,I.len⟩
def JjP{N:Ac}(hN:N.Nodup){j:Nat}(a:N[i]? =So x)(b:N[j]? =So x):i=j:=by obtain⟨m,g⟩:=Zz.mp a;obtain⟨q,l⟩:=Zz.mp b;exact(List.getElem_inj hN).mp (g.trans l.symm)
def JgI{Q:Dm}(I:AH)(hN:GE)(hi:X.N[i]? =So x)(G:GQ)(r:Fs)
  (h:∀s',Inv X Y K9 H s'->(∃a,Heap.SameBut a VU Yf/\(a=A5\/X.env.cells.lookup x=So a))->Q () s') (hf:MB):wpAny M A PH Q E s:=by
 obtain⟨m,hn,hl⟩:=id Ys;have hcls:(QcN==.class||(QcN==.module&&X.env.locals !=X.env.globals))=Fo:=by rw[I.ok.kind];rfl
 have N:i<Z.length:=by rw[I.len];exact(Zz.mp hi).1
 have cne:=I.cne;have B:∀{a:Addr}{h':Heap},(∃o,s.heap.get? a=So o/\H a=No)->Heap.SameBut a VU h'->HOk XJ X.w H h':=fun{a h'}ha g b ob e=>by
  obtain⟨_,_,J⟩:=ha;refine(I.hok b ob e).stay (λc w' F q=>(g.2 c ?_).trans q) Mg λ_ _ q=>q;rintro rfl;rcases F with rfl|F
  ·rw[J]at e;cases e
  ·rw[J]at F;cases F
 rcases G with O|O
 ·refine wpAny_storeName_local O hn (λh' hn' g=>?_) hcls;obtain⟨oL,_,_,hoL,_⟩:=id hn;refine h _ ⟨I.ok,I.os,Yi,Xg,⟨_,hn',λj y v' l L e3=>?_⟩,λy c e=>?_,Yv,QcC,λp hp=>?_,B ⟨oL,hoL,Yv⟩ g,by simpa using I.len⟩ ⟨_,g,.inl rfl⟩
  ·exact(g.2 b (Zu Nr)).trans QP
  ·obtain⟨sl,l⟩:=I.base.slot b o e n U G;exact⟨sl,(g.2 b (Zu Nr)).trans l⟩
  ·obtain⟨o',l⟩:=I.base.there b o e G;exact⟨o',(g.2 b (Zu Nr)).trans l⟩
  ·by_cases hj:j=i
   ·subst hj;rw[hi]at l;cases l;rw[ZR N]at L;cases L;exact⟨u,r,.inl ⟨O,by simp⟩⟩
   ·rw[Zr (Ne.symm hj)]at L;obtain⟨u',r',q⟩:=hl j y v' l L e3;refine⟨u',r',?_⟩;rcases q with⟨k,e⟩|⟨k,c,e,z⟩
    ·refine .inl ⟨k,?_⟩;have:y≠x:=λe=>hj (JjP hN l (e▸hi));simp[this,e]
    ·exact .inr ⟨k,c,e,z.sameBut g (cne y c e)⟩
  ·obtain⟨w',z⟩:=I.cell y c e;exact⟨w',z.sameBut g (cne y c e)⟩
  ·obtain⟨e,n,ne,nf,d⟩:=I.pin p hp;exact⟨(g.2 p.1 ne).trans e,n,ne,nf,d⟩
 ·have hfn:X.fn x=To:=by
   rcases hf with z|z
   ·exact z
   ·rw[z]at O;cases O
  obtain⟨c,F⟩:=I.ok.has x (.inl O);obtain⟨w',z⟩:=I.cell x c F;refine wpAny_storeName_cell YJ O F z (λh' hc' g=>?_);obtain⟨oc,hoc,hocd⟩:=id z;refine h {s with heap:=h'} ⟨I.ok,I.os,Yi,Xg,⟨m,hn.sameBut g (Ne.symm (cne x c F)),λj y v' l L e3=>?_⟩,λy c' e=>?_,Yv,QcC,λp hp=>?_,B ⟨oc,hoc,I.freeC x c F⟩ g,by simpa using I.len⟩ ⟨c,g,.inr F⟩
  ·exact(g.2 b Uj).trans QP
  ·obtain⟨sl,l⟩:=I.base.slot b o e n U G
   exact⟨sl,(g.2 b Uj).trans l⟩
  ·obtain⟨o',l⟩:=I.base.there b o e G
   exact⟨o',(g.2 b Uj).trans l⟩
  ·by_cases hj:j=i
   ·subst hj;rw[hi]at l;cases l;rw[ZR N]at L;cases L;exact⟨u,r,.inr ⟨.inl O,c,F,hc'⟩⟩
   ·rw[Zr (Ne.symm hj)]at L;obtain⟨u',r',q⟩:=hl j y v' l L e3;refine⟨u',r',?_⟩;rcases q with q|⟨k,c',e,z'⟩
    ·exact .inl q
    ·refine .inr ⟨k,c',e,z'.sameBut g ?_⟩;rintro rfl;exact hj (JjP hN l (I.ok.inj _ _ _ e F▸hi))
  ·by_cases hcc:c'=c
   ·subst hcc;exact⟨_,hc'⟩
   ·obtain⟨w2,z2⟩:=I.cell y c' e;exact⟨w2,z2.sameBut g hcc⟩
  ·obtain⟨e,n,ne,nf,d⟩:=I.pin p hp
   refine⟨(g.2 p.1 ?_).trans e,n,ne,nf,d⟩;intro q;rw[q,hoc]at e;have q':oc=p.2:=wD e;exact d w' (by rw[<-q'];exact hocd)
def JjH{Q:Dm}(I:AH)(hN:GE)(hi:X.N[i]? =So x)(l:GQ)(r:Fs)
  (h:∀g,Inv X Y K9 H g->Q () g) (j:MB):wpAny M A PH Q E s:=
 JgI I hN hi l r (λg m _=>h g m) j
def Inv.call'{g:Al}(I:AH)(q:g.os=s.os)(u:Un Hi ch H W VU g.heap)(l:HOk XJ X.w W g.heap)(r:AllBare g.gens)
  (j:∀b∈ch,Mx/\b≠A5/\(∀x c,X.env.cells.lookup x=So c->c≠b)/\∀p∈X.pn++Y,p.1≠b):Inv X Y Z W g:=by obtain⟨h',g',d',t',m⟩:=g;have e:m=s.os:=q;subst e;exact I.call (g':=g') (t':=t') (d':=d') u l r j
end
noncomputable abbrev XK:=Value->Option Addr->Hp->Prop
noncomputable abbrev St:=List (Option V)
variable{Z:St}
noncomputable abbrev VK:=V->Hp->Prop
noncomputable abbrev TE:=St->Hp->VK->Prop
variable{ta te:TE}
noncomputable abbrev TT:=St->Hp->MD->Prop
noncomputable abbrev TA:=St->Hp->(List V->Hp->Prop)->Prop
structure Ends where
 nx:St->Hp->Prop
 rt:VK
 bk:St->Hp->Prop:=λ_ _=>False
 ct:St->Hp->Prop:=λ_ _=>False
variable{t:TA}
noncomputable abbrev TS:=Ends->St->Hp->Prop
inductive EP(X:Cx)(pins:A8)(σ:St)(Q:VK)(u:An)(s':Al):Prop where
 |mk (v:V) (H':Hp) (I:Inv X pins σ H' s') (r:RelV v u) (q:Q v H'):EP X pins σ Q u s'
inductive TP(X:Cx)(pins:A8)(σ:St)(Q:Fv)(b:Bool)(s':Al):Prop where
 |mk (H':Hp) (I:Inv X pins σ H' s') (q:Q b H'):TP X pins σ Q b s'
inductive AP(X:Cx)(pins:A8)(σ:St)(Q:List V->Hp->Prop)(us:AE)(s':Al):Prop where
 |mk (vs:List V) (H':Hp) (I:Inv X pins σ H' s') (r:Vals vs us) (q:Q vs H'):AP X pins σ Q us s'
inductive NP(X:Cx)(pins:A8)(nx:St->Hp->Prop)(s':Al):Prop where
 |mk (σ':St) (H':Hp) (I:Inv X pins σ' H' s') (q:nx σ' H'):NP X pins nx s'
inductive RP(X:Cx)(pins:A8)(rt:VK)(u:An)(s':Al):Prop where
 |mk (v:V) (σ':St) (H':Hp) (I:Inv X pins σ' H' s') (r:RelV v u) (q:rt v H'):RP X pins rt u s'
def SP(X:Cx)(Y:A8)(D:Ends)(f:Flow)(g:Al):Prop:=
 match f with
 |.next=>NP X Y D.nx g
 |.brk=>NP X Y D.bk g
 |.cont=>NP X Y D.ct g
 |.ret u=>RP X Y D.rt u g
def PE(X:Cx)(e:Expr)(t:TE):Prop:=
 ∀(Y:A8)(s:Al)(Z:St)(H:Hp)(Q:VK),Inv X Y Z H s->t Z H Q->wpAny AD X.A ML BP X.xe s
def PT(X:Cx)(e:Expr)(t:TT):Prop:=
 ∀(Y:A8)(s:Al)(Z:St)(H:Hp)(Q:Fv),Inv X Y Z H s->t Z H Q->wpAny AD X.A (isTrue e Ue ML) Mf X.xe s
def PW(X:Cx)(e:Expr)(t:TT):Prop:=
 ∀(g:Sem Value)(Y:A8)(s:Al)(Z:St)(H:Hp)(Q:Fv),Inv X Y Z H s->t Z H Q->wpAny AD X.A (isTrue e Ue g) Mf X.xe s
def PW.pt{t:TT}(h:PW X e t):PT X e t:=h _
def PA(X:Cx)(es:CF)(t:TA):Prop:=
 ∀(pos:Pos)(Y:A8)(s:Al)(Z:St)(H:Hp)(Q:List V->Hp->Prop),Inv X Y Z H s->t Z H Q->wpAny AD X.A (spliced 'ķ') (AP X Y Z Q) X.xe s
def PS(X:Cx)(st:Stmt)(t:TS):Prop:=
 ∀(Y:A8)(s:Al)(Z:St)(H:Hp)(D:Ends),Inv X Y Z H s->t D Z H->wpAny AD X.A (exec st Ue) (SP X Y D) X.xe s
def PSs(X:Cx)(st:BF)(t:TS):Prop:=
 ∀(Y:A8)(s:Al)(Z:St)(H:Hp)(D:Ends),Inv X Y Z H s->t D Z H->wpAny AD X.A (execs st Ue) (SP X Y D) X.xe s
def thn{g:Type}{t:Sem g}{Q j:g->Shared->Prop}(h:wpAny M A t Q E s)(l:∀a s,Q a s->j a s):wpAny M A t j E s:=ZY h l λ_ _ x=>x
section
def tVar(i:Nat):TE:=λZ H Q=>∃v,Z[i]? =So BO/\Q v H
def tC(v:V):TE:=λ_ H Q=>Q v H
def rA(hN:X.N[i]? =So x)(F:Vis EW x)(y:DZ)(hcd:'в' ((x==("__classdict__":Str))=Fo) Ey):PE X Ck QcW:=by
 intro Y s Z H Q I h;obtain⟨v,e,h⟩:=h;obtain⟨m,J,G⟩:=Ys;obtain⟨u,r,l⟩:=G i x v hN e F;have j:EP X Y Z Q u s:=Q9;rcases l with⟨q,B⟩|⟨q,c,z,g⟩
 ·exact wpAny_Name (wpAny_loadName_local YJ q J B j) y
 ·rcases q with q|q
  ·exact wpAny_Name (wpAny_loadName_cell YJ q z g j) y
  ·exact wpAny_Name (wpAny_loadName_free YJ q z g j hcd) y
def qY{i j pos}:PE X P9 (tC A2):=λ_ _ _ H _ I h=>wpAny_Constant_int ⟨.int i,H,I.tok _,AS,h⟩
def pe_bl{b j pos}:PE X (.Constant (.bool b) j pos) (tC Y0):=λ_ _ _ H _ I h=>Constant_bool ⟨.bl b,H,I,rfl,h⟩
def JxA{j pos}:PE X Qr (tC .non):=λ_ _ _ H _ I h=>Constant_none ⟨.non,H,I,rfl,h⟩
def Jrs{x j pos}:PE X P8 (tC D5):=λ_ _ _ H _ I h=>Calls.Constant_str ⟨.str x,H,I.tok _,AS,h⟩
def Gl(X:Cx)(x:Str):Prop:=X.env.kindOf x=So .globalImplicit
def rS{Q:Ay}(I:AH)(l:YB)(j:X.mg x=So u)(h:Q u s)
  (g:DZ):wpAny AD X.A (eval Ck Ue) Q E s:=
 Calls.Name_function_global YJ l (Calls.loadGlobal_global (by rw[I.ok.glob];exact I.mod.glob.keeps I.bk) j h) g
def pK{Q:Ay}(I:AH)(r:YB)(l:X.mg x=No)(m:bootBuiltins x=So u)(h:Q u s)
  (j:'в' (x≠"__name__") Ey) (hd:DZ):wpAny AD X.A (eval Ck Ue) Q E s:=by obtain⟨y,g,q⟩:=I.mod.blt;exact Calls.Name_function_global YJ r (Calls.loadGlobal_builtin (by rw[I.ok.glob];exact I.mod.glob.keeps I.bk) l (by rw[I.ok.blt];exact g.keeps I.bk) ((q x j).trans m) h) hd
def Jta(l:YB)(j:X.mg x=So u)(r:Fs)(g:DZ):PE X Ck (tC v):=
 λ_ _ _ H _ I h=>rS I l j Q9 g
def JuZ(m:YB)(j:X.mg x=No)(l:bootBuiltins x=So u)(r:Fs)(g:'в' (x≠"__name__") Ey)(hd:DZ):PE X Ck (tC v):=
 λ_ _ _ H _ I h=>pK I m j l Q9 g hd
noncomputable def t2I (ta tb:TE) (k:Int->Int->Hp->Prop):St->Hp->Prop:=λZ H=>ta Z H λx l=>tb Z l λy g=>∃i j,x=.int i/\y=.int j/\k i j g
variable{a b:Expr}{tb:TE}
def PC(X:Cx)(op:bT)(a b:Expr)(t:TE):Prop:=
 ∀(Y:A8)(s:Al)(Z:St)(H:Hp)(Q:VK),Inv X Y Z H s->t Z H Q->
  wpAny AD X.A E3 (λv g=>wpAny AD X.A (eval b Ue) (λu j=>wpAny AD X.A (compareOp op v u) BP X.xe j) X.xe g) X.xe s
def JjM(b:Expr)(h:op≠.In)(l:op≠.NotIn):behindInMarks op b=Fo:=by
 have g:(op==CmpOp.In)=Fo:=by cases op<;>first|rfl|exact absurd rfl h
 have j:(op==CmpOp.NotIn)=Fo:=by cases op<;>first|rfl|exact absurd rfl l
 cases b<;>first|rfl|(show(_&&(_||_)&&_)=Fo;rw[g,j,rH,lM,gC])
def tCmp(p:Int->Int->Bool)(ta tb:TE):TE:=λZ H Q=>t2I ta tb (λi j g=>Q (.bl (p i j)) g) Z H
noncomputable abbrev tLt:TE->TE->TE:=tCmp λi j=>decide (i<j)
noncomputable abbrev tGt:TE->TE->TE:=tCmp λi j=>decide (j<i)
noncomputable abbrev tGe:TE->TE->TE:=tCmp λi j=>decide (j<=i)
def tIsN(ta:TE):TE:=λZ H Q=>ta Z H λx g=>Q (.bl (decide (x=.non))) g
def tNotN(ta:TE):TE:=λZ H Q=>ta Z H λx g=>Q (.bl (!decide (x=.non))) g
def RelV.none_iff{x:V}{v:An}(r:RelV x v):(v==XH)=decide (x=.non):=by
 cases x with
 |non=>cases r;exact(Zx rfl).symm
 |_=>rw[Zs nofun];first|(cases r;rfl)|(obtain⟨t,rfl⟩:=r;rfl)
def Jxz{j pos'}(ha:Cb):PC X .Is a QE (tIsN ta):=by intro Y s Z H Q I h;refine thn CQ λv y g=>?_;obtain⟨x,m,r,q,l⟩:=g;exact Constant_none (is_none_gen ⟨.bl _,m,r,by rw[q.none_iff];rfl,l⟩)
def JtU{j pos'}(ha:Cb):PC X .IsNot a QE (tNotN ta):=by intro Y s Z H Q I h;refine thn CQ λv y g=>?_;obtain⟨x,m,r,q,l⟩:=g;exact Constant_none (isnot_none_gen ⟨.bl _,m,r,by rw[q.none_iff];rfl,l⟩)
def tB(t:TE):TT:=λZ H Q=>t Z H λx g=>∃c,x=.bl c/\Q c g
def Jxr{t:TE}(h:PC X op a b t)(h1:F7:=by first|exact JjM _ AB AB|rfl):PE X F6 t:=λY s Z H Q I g=>wpAny_Compare1 Qab h1
def vR{t:TE}(h:PC X op a b t)(h1:F7:=by first|exact JjM _ AB AB|rfl):PT X F6 (tB t):=by intro Y s Z H Q I l;refine wpAny_isTrue_Compare1 (thn (h Y s Z H _ I l) λv z h1=>thn h1 λu B m=>thn m λc F⟨x,j,y,r,g⟩=>?_) h1;obtain⟨d,rfl,q⟩:=g;cases r;exact nD ⟨j,y,q⟩
variable{tA tB':TT}{rest:CF}
def tOr(t u:TT):TT:=λZ H Q=>t Z H λc g=>if c=To then Q To g else u Z g Q
def tNot(t:TT):TT:=λZ H Q=>t Z H λc g=>Q (!c) g
def Jts(g:aU):PW X (.BoolOp .And [a] pos) tA:=by
 intro l Y s Z H Q I h;refine isTrue_and (thn (g Y s Z H Q I h) λc j e=>?_);cases c with
 |true=>exact isTrue_and_nil e
 |false=>exact e
def JxW(g:aU):PW X (.BoolOp .Or [a] pos) tA:=by
 intro l Y s Z H Q I h;refine isTrue_or (thn (g Y s Z H Q I h) λc j e=>?_);cases c with
 |false=>exact isTrue_or_nil e
 |true=>exact e
def pw_or(ha:aU)(r:PW X (.BoolOp .Or (b::rest) pos) tB'):PW X Mq (tOr tA tB'):=by
 intro y Y s Z H Q I h;refine isTrue_or (thn CQ λc q g=>?_);obtain⟨l,m,j⟩:=g;cases c with
 |true=>exact⟨l,m,j⟩
 |false=>exact r y Y q Z l Q m j
def Jwq(j:aU):PT X Nl (tNot tA):=by intro Y s Z H Q I h;exact isTrue_not (thn (j Y s Z H (λc g=>Q (!c) g) I h) λc m⟨g,l,q⟩=>⟨g,l,q⟩)
def tAndV(ta tb:TE):TE:=λZ H Q=>ta Z H λx g=>∃c,x=.bl c/\if c=To then tb Z g Q else Q C4 g
def tOrV(ta tb:TE):TE:=λZ H Q=>ta Z H λx g=>∃c,x=.bl c/\if c=To then Q CW g else tb Z g Q
def tNotV(ta:TE):TE:=λZ H Q=>ta Z H λx g=>∃c,x=.bl c/\Q (.bl (!c)) g
def Jrt{op}{t:TE}(h:PE X a t):PE X S7 t:=λY s Z H Q I g=>BoolOp_one Qab
def JrL(ha:Cb)(y:PE X (.BoolOp .And (b::rest) pos) tb):PE X (.BoolOp .And (a::b::rest) pos) (tAndV ta tb):=by
 intro Y s Z H Q I h;refine BoolOp_and (thn CQ λv q j=>?_);obtain⟨x,l,m,r,g⟩:=j;obtain⟨c,rfl,g⟩:=g;cases r;refine nD ?_;cases c with
 |true=>exact y Y q Z l Q m g
 |false=>exact⟨.bl Fo,l,m,rfl,g⟩
def pe_or(ha:Cb)(y:PE X (.BoolOp .Or (b::rest) pos) tb):PE X Mq (tOrV ta tb):=by
 intro Y s Z H Q I h;refine BoolOp_or (thn CQ λv q j=>?_);obtain⟨x,l,m,r,g⟩:=j;obtain⟨c,rfl,g⟩:=g;cases r;refine nD ?_;cases c with
 |false=>exact y Y q Z l Q m g
 |true=>exact⟨.bl To,l,m,rfl,g⟩
def Jxy(ha:Cb):PE X Nl (tNotV ta):=by intro Y s Z H Q I h;refine UnaryOp_ (thn CQ λv r j=>?_);obtain⟨x,l,q,m,g⟩:=j;obtain⟨c,rfl,g⟩:=g;cases m;exact not_of (nD ⟨.bl (!c),l,q,rfl,g⟩)
def tIf(t:TT)(ta tb:TE):TE:=λZ H Q=>t Z H λc g=>if c=To then ta Z g Q else tb Z g Q
def Jqu(y:PT X c tA)(r:Cb)(z:FN):PE X Om (tIf tA ta tb):=by
 intro Y s Z H Q I h;refine wpAny_IfExp (thn (y Y s Z H _ I h) λd m g=>?_);obtain⟨l,q,j⟩:=g;cases d with
 |true=>exact r Y m Z l Q q j
 |false=>exact z Y m Z l Q q j
end
def SqL(K:Aj)(H:Hp)(a:Addr)(xs:Av):Prop:=
 Rd H a AA\/
  ∃(o:Obj)(g:B6)(n:Nat),K.lookup a=So o/\o.cls=.type "list"/\o.dict=No/\o.data=.seq g n/\g.size<=sizeLine/\Vals xs YS
def ModT(K:Aj)(y:Str)(a:Addr):Prop:=PySem.W.nsIn K mainGlobals y=So (So Ar)\/
 ∃(b:Addr)(o:Obj)(g:B6)(n:Nat),PySem.W.nsIn K mainGlobals y=So (So CK)/\K.lookup b=So o/\o.cls=.type "tuple"/\o.data=.seq g n/\Value.ref a∈g.toList
def SqT(K:Aj)(H:Hp)(a:Addr)(xs:Av):Prop:=
 H a=So Bb\/
  ∃(y:Str)(o:Obj)(g:B6)(n:Nat),ModT K y a/\K.lookup a=So o/\o.cls=.type "tuple"/\o.dict=No/\o.data=.seq g n/\g.size<=sizeLine/\Vals xs YS
noncomputable def absV:Value->Option V
 |.none=>So .non
 |.bool b=>So Y0
 |.int i _=>So A2
 |.str x _=>So D5
 |.bytes b _=>So (.byt b)
 |.float b _=>So (.flt b)
 |.ref a=>So Ar
 |.type n=>So (.ty n)
 |_=>No
def RelV.abs{x:V}(r:RelV x u):absV u=So x:=by
 cases x with
 |non=>cases r;rfl
 |bl _=>cases r;rfl
 |int _=>obtain⟨t,rfl⟩:=r;rfl
 |str _=>obtain⟨t,rfl⟩:=r;rfl
 |byt _=>obtain⟨t,rfl⟩:=r;rfl
 |flt _=>obtain⟨t,rfl⟩:=r;rfl
 |ref _=>cases r;rfl
 |ty _=>cases r;rfl
def RelV.inj{x y:V}{u:An}(r:RelV x u)(q:CJ):x=y:=wD (r.abs.symm.trans q.abs)
theorem Vals.inj:∀{xs ys:Av}{us:AE},Vals xs us->Vals ys us->xs=ys
 |_,_,_,.nil,.nil=>rfl
 |_,_,_,.cons r t,.cons r' t'=>by rw[r.inj r',Vals.inj t t']
section
variable{xs ys:Av}
def SqL.of(h:H a=So AA):SqL K H a xs:=.inl QcX
def SqT.of(h:H a=So Bb):SqT K H a xs:=.inl h
theorem Inv.list(I:AH)(h:IA):∃its:List Value,Vals xs its/\PlainL VU a AF/\xs.length<=sizeLine:=by
 rcases h with h|⟨o,its,n,l,j,g,m,q,r⟩
 ·obtain⟨z,its,n,r,e⟩:=h.ok XQ;exact⟨its,r,⟨_,n,e,rfl,rfl,rfl⟩,z⟩
 ·refine⟨Qbh,r,⟨o,n,I.kIn a o l,j,g,by simpa using m⟩,?_⟩;have e:=XR;simp only[ZQ]at e;lia
theorem Inv.tuple(I:AH)(h:Iz):∃its:List Value,Vals xs its/\IsTup VU a AF/\xs.length<=sizeLine:=by
 rcases h with h|⟨_,o,its,n,_,j,g,_,l,m,r⟩
 ·obtain⟨⟨z,_⟩,its,r,p⟩:=I.hok a _ h;exact Qd4
 ·refine⟨Qbh,r,⟨o,I.kIn a o j,g,n,by simpa using l⟩,?_⟩;have e:=XR;simp only[ZQ]at e;lia
theorem Inv.tupleD(I:AH)(h:Iz):∃(its:AE)(o:Obj)(n:Nat),Vals xs its/\s.heap.get? a=So o/\o.cls=.type "tuple"/\o.dict=No/\o.data=.seq AF n/\xs.length<=sizeLine:=by
 rcases h with h|⟨_,o,its,n,_,m,l,j,g,y,r⟩
 ·obtain⟨⟨z,q⟩,its,r,o,e,c,n,d⟩:=I.hok a _ h;exact⟨its,o,n,r,e,c,q _ e,d,z⟩
 ·refine⟨Qbh,o,n,r,I.kIn a o m,l,j,by simpa using g,?_⟩;have e:=XR;simp only[ZQ]at e;lia
def Inv.list_inj(I:AH)(h:IA)(h':SqL X.K H a ys):xs=ys:=by
 obtain⟨j,r,⟨o,n,e,_,_,d⟩,_⟩:=I.list h;obtain⟨g,y,⟨z,B,m,_,_,l⟩,_⟩:=I.list h';rw[e]at m;cases m;rw[d]at l;injection l with q _;have:j=g:=by simpa using kA Array.toList q
 subst this;exact r.inj y
def Inv.tuple_inj(I:AH)(h:Iz)(h':SqT X.K H a ys):xs=ys:=by
 obtain⟨j,r,⟨o,e,_,n,d⟩,_⟩:=I.tuple h;obtain⟨g,y,⟨z,m,_,B,l⟩,_⟩:=I.tuple h';rw[e]at m;cases m;rw[d]at l;injection l with q _;have:j=g:=by simpa using kA Array.toList q
 subst this;exact r.inj y
end
section
variable{st:Stmt}{rest:BF}{t u:TS}
def tNext:TS:=λD Z H=>D.nx Z H
def tSeq(t u:TS):TS:=λD Z H=>t {D with nx:=u D} Z H
def Jno:PSs X [] tNext:=λ_ _ Z H _ I h=>wpAny_execs_nil ⟨Z,H,I,h⟩
def JN(h1:Qde)(m:PSs X rest u):PSs X (st::rest) (tSeq t u):=by
 intro Y s Z H D I h;refine wpAny_execs_cons (thn (h1 Y s Z H {D with nx:=u D} I h) λf j q=>?_);cases f with
 |next=>obtain⟨g,W,l,q⟩:=q;exact m Y j g W D l q
 |ret v=>exact q
 |brk=>exact q
 |cont=>exact q
def JiW(h1:Qde):PSs X [st] t:=by
 intro Y s Z H D I h;refine wpAny_execs_cons (thn (h1 Y s Z H D I h) λf g q=>?_);cases f with
 |next=>exact wpAny_execs_nil q
 |ret v=>exact q
 |brk=>exact q
 |cont=>exact q
def Inv.quiet(I:AH):interactive Ue=Fo:=by simp[interactive,I.ok.kind]
def kX(te:TE):TS:=λD Z H=>te Z H λ_ g=>D.nx Z g
def nL(he:FM)(hs:'в' (swapsWith e No XT Ue=pure Fo) Ai):PS X QdC (kX te):=by intro Y s Z H D I h;exact wpAny_Expr_any (thn FJ λv m⟨x,j,l,q,g⟩=>⟨Z,j,l,g⟩) I.quiet hs
def tRet(te:TE):TS:=λD Z H=>te Z H D.rt
def pN(he:FM):PS X Ng (tRet te):=by intro Y s Z H D I h;exact wpAny_Return_some (thn FJ λv q⟨x,j,m,l,g⟩=>⟨x,Z,j,m,l,g⟩)
def tIfS(c:TT)(t u:TS):TS:=λD Z H=>c Z H λb g=>if b=To then t D Z g else u D Z g
def hX{a b:BF}{q:TT}(z:PT X c q)(y:PSs X a t)(B:PSs X b u):PS X (.If c a b pos) (tIfS q t u):=by
 intro Y s Z H D I h;refine wpAny_If (thn (z Y s Z H _ I h) λd m g=>?_);obtain⟨l,r,j⟩:=g;cases d with
 |true=>exact y Y m Z l D r j
 |false=>exact B Y m Z l D r j
end
noncomputable abbrev TG:=V->St->Hp->(St->Hp->Prop)->Prop
noncomputable abbrev TGs:=List V->St->Hp->(St->Hp->Prop)->Prop
def PG(X:Cx)(g:Expr)(t:TG):Prop:=
 ∀(Y:A8)(s:Al)(Z:St)(H:Hp)(v:V)(u:An)(Q:St->Hp->Prop),Inv X Y Z H s->RelV v u->t v Z H Q->
  wpAny AD X.A (assign g Ue u) Tc X.xe s
def PGs(X:Cx)(g:CF)(t:TGs):Prop:=
 ∀(Y:A8)(s:Al)(Z:St)(H:Hp)(vs:Av)(us:AE)(Q:St->Hp->Prop),Inv X Y Z H s->Vals vs us->t vs Z H Q->
  wpAny AD X.A (assignInOrder ((assignEach g Ue).map (·.2)) us) Tc X.xe s
def JeB(i:Nat):TG:=λv Z H Q=>Q K9 H
def lL(hN:GE)(hi:X.N[i]? =So x)(j:GQ)(g:MB):PG X Ck Ex:=by intro Y s Z H v u Q I r h;exact wpAny_assign_Name (JjH I hN hi j r (λm l=>⟨_,H,l,h⟩) g)
def gNil:TGs:=λvs Z H Q=>vs=[]/\Q Z H
def gCons(t:TG)(u:TGs):TGs:=λvs Z H Q=>∃v r,vs=v::r/\t v Z H λg W=>u r g W Q
def Jnb:PGs X [] gNil:=by intro Y s Z H vs us Q I r h;obtain⟨e,h⟩:=h;subst e;cases r;exact assignInOrder_nil ⟨Z,H,I,h⟩
def oU{t:TG}{u:TGs}(h1:PG X e t)(F:PGs X es u)
  (hs:'в' ((assignEach Gk Ue).map (·.2)=assign e Ue::'η'.map (·.2)) Ai):PGs X Gk (gCons t u):=by
 intro Y s Z H vs us Q I r h;obtain⟨v,G,y,h⟩:=h;subst y;cases r with
 |cons r z=>rw[hs];refine assignInOrder_cons (thn (h1 Y s Z H _ _ _ I r h) λ_ q g=>?_);obtain⟨j,m,B,l⟩:=g;exact F Y q j m _ _ Q B z l
def gTup(K:Aj)(n:Nat)(t:TGs):TG:=λv Z H Q=>∃a g,v=.ref a/\SqT K H a g/\g.length=n/\t g Z H Q
def Jrm{t:TGs}{n:Nat}(z:Ci)(h:PGs X es t)
  (J:'в' ('η'.length=n) Ai) (hst:'в' ('η'.findIdx? (·.1)=No) Ai):PG X Qac (gTup X.K n t):=by intro Y s Z H v u Q I r g;obtain⟨a,G,l,B,m,g⟩:=g;subst l;cases r;obtain⟨F,j,y,N⟩:=I.tuple B;refine assign_Tuple_tuple (I.ok.hd z) y (by simp[J,<-m,j.length]) hst λh' q=>?_;have L:Inv X Y Z H {s with heap:=h'}:=I.kept (t':=XF) λb o e=>q b o (Zu (Zj e)) e;exact h Y _ Z H G _ Q L (by simpa using j) g
def tAsg(te:TE)(g:TG):TS:=λD Z H=>te Z H λx j=>g x Z j D.nx
def iD{g:Pos}(hN:GE)(hi:X.N[i]? =So x)(q:GQ)(he:FM)(hs:'в' (swapsWith e (So (.Name x g)) XT Ue=pure Fo) Ai)(hf:MB):
  PS X (.Assign [.Name x g] e pos) (tAsg te Ex):=by intro Y s Z H D I h;refine wpAny_Assign_Name (thn FJ λv B⟨y,l,z,r,j⟩=>?_) hs;exact JjH z hN hi q r (λF m=>⟨_,l,m,j⟩) hf
structure It where
 go:Nat->Hp->Prop
 yld:Nat->Hp->V->Hp->Prop
 stop:Nat->Hp->Prop
def FpOk(X:Cx)(Y:A8)(H:Hp)(b:Addr):Prop:=
 H b=No/\b≠A5/\b∉X.fs/\Mx/\(∀x c,X.env.cells.lookup x=So c->c≠b)/\∀p∈X.pn++Y,p.1≠b
def Inv.fpOk(I:AH)(g:Aa<=b)(l:W b=No):FpOk X Y W b:=by
 refine⟨l,rC (ZB I.lt g),I.nofs g,.inr (Zq I.sz g),λx c e z=>?_,λp j z=>?_⟩
 ·obtain⟨v,q⟩:=I.cell x c e;exact absurd (ZB q.lt (by rw[z];exact g)) CH
 ·exact absurd (ZB (Zj (I.pin p j).1) (by rw[z];exact g)) CH
structure Turn(P:Ba)(w:AQ)(K:Aj)(tg:Expr)(J9:It)(fp:A9)(it:Addr)(tn:Fx):Prop where
 mem:it∈fp
 obj:∀i h,tn i h->∀b∈fp,∃o,h.get? b=So o/\∀v,o.data≠.cell v
 keep:∀i h h',tn i h->(∀b∈fp,∀o,h.get? b=So o->h'.get? b=So o)->tn i h'
 item:∀(X:Cx),XJ=P->X.w=w->X.K=K->X.calm=To->∀(i:Nat)(Y:A8)(s:Al)(Z:St)(H:Hp)(E:Ay),Inv X Y Z H s->(∀b∈fp,FpOk X Y H b)->tn i s.heap->J9.go i H->
  wpAny Bp X.A Dy (λr s1=>∃u,r=So u/\
   wpAny Bp X.A Q2 (λ_ s2=>∃x W,Inv X Y Z W s2/\RelV x u/\J9.yld i H x W/\tn Bw a9/\∀b∈fp,W b=No) E s1) E s
 done:∀(X:Cx),XJ=P->X.w=w->X.K=K->X.calm=To->∀(i:Nat)(Y:A8)(s:Al)(Z:St)(H:Hp)(E:Ay),Inv X Y Z H s->(∀b∈fp,FpOk X Y H b)->tn i s.heap->J9.stop i H->
  wpAny Bp X.A Dy (λr s1=>r=No/\Inv X Y Z H s1) E s
 self:∀(A:Bv)(i:Nat)(s:Al)(Q:Ay)(E:Ay),tn i s.heap->Q B7 s->wpAny Bp A (pyIter B7) Q E s
noncomputable abbrev TI:=St->Hp->(It->Hp->Prop)->Prop
def PIE(X:Cx)(Y:A8)(Z:St)(tg:Expr)(R:It->Hp->Prop)(g:An)(m:Al):Prop:=
 ∃(q:Addr)(fp:A9)(j:Fx)(l:It)(W:Hp),g=.ref q/\Inv X Y Z W m/\Turn XJ X.w X.K tg l fp q j/\j 0 m.heap/\(∀b∈fp,FpOk X Y W b)/\R l W
def PI(X:Cx)(tg g:Expr)(j:TI):Prop:=
 ∀(Y:A8)(s:Al)(Z:St)(H:Hp)(R:It->Hp->Prop),Inv X Y Z H s->j Z H R->
  wpAny AD X.A (eval g Ue) (λv l=>wpAny AD X.A (pyIter v) QaU X.xe l) X.xe s
def oX{it:Addr}{o:Obj}{n:Bg}{vs:B6}{Q:Dm}(q:s.heap.get? it=So o)(l:o.cls=.type n)(j:o.data=.fields vs)
  (m:["enumerate","zip","dict_itemiterator","dict_reverseitemiterator","odict_iterator","itertools.zip_longest","itertools.pairwise"].contains n=Fo) (g:Q () s):wpAny M A Q2 Q E s:=by
 unfold letOwnedTupleGo;cases tg<;>first
  |exact Zb g
  |(cases u<;>first
    |exact Zb g
    |(refine Za (wpAny_load q ?_);rw[l,j];show wpAny M A (if(["enumerate","zip","dict_itemiterator","dict_reverseitemiterator","odict_iterator","itertools.zip_longest","itertools.pairwise"].contains n&&vs[0]? ==So (rawInt _))=To then _ else _) Q E s;rw[if_neg (by intro h;rw[m,gC]at h;cases h)];exact Zb g))
noncomputable def Itl (K:Aj) (a:Addr):It:=
 ⟨λi H=>∃g x,SqL K H a g/\g[i]? =So x,λi H x W=>W=H/\∀g,SqL K H a g->g[i]? =So x,λi H=>∃g,SqL K H a g/\g.length<=i⟩
noncomputable def Itt (K:Aj) (a:Addr):It:=
 ⟨λi H=>∃g x,SqT K H a g/\g[i]? =So x,λi H x W=>W=H/\∀g,SqT K H a g->g[i]? =So x,λi H=>∃g,SqT K H a g/\g.length<=i⟩
noncomputable def Itr (lo:Int) (n:Nat):It:=⟨λi _=>i<n,λi H x W=>W=H/\x=.int (lo+i),λi _=>n<=i⟩
def Jhk(a it:Addr):Turn P w K tg QaC [it] it (λi h=>h.IsListIter it a i)where
 mem:=by simp
 obj:=λi h g b j=>by
  have e:b=it:=by simpa using j
  subst e
  obtain⟨o,e,c,d⟩:=g
  exact⟨o,e,λv z=>by rw[d]at z;cases z⟩
 keep:=λi h h' g k=>g.at λo e=>k it Ad o e
 item:=by
  intro X r y U hc i Y s Z H E I m g hg;subst r y U;obtain⟨xs,x,q,G⟩:=hg;obtain⟨O,L,p,hz⟩:=I.list q;obtain⟨u,hu,ru⟩:=L.get G;obtain⟨B,f1,f2,N,F,J⟩:=m it Ad;refine wpAny_pyNext_list_item g YE (x:=u) (by simpa using hu) λh' l sb=>?_;have I1:Inv X Y Z H {s with heap:=h'}:=I.turned (t':=XF) (λb o j e=>(sb.2 b j).trans e) B f1 N F J;obtain⟨o,e,c,d⟩:=id l;exact⟨u,rfl,oX (s:={s with heap:=h'}) e c d AB ⟨x,H,I1,ru,⟨rfl,λys hy=>by rw[I.list_inj hy q];exact G⟩,l,λb j=>(m b j).1⟩⟩
 done:=by
  intro X r y U hc i Y s Z H E I m g hg;subst r y U;obtain⟨xs,q,G⟩:=hg;obtain⟨O,L,p,hz⟩:=I.list q;obtain⟨B,f1,f2,N,F,J⟩:=m it Ad;have hl:=L.length;exact wpAny_pyNext_list_end KZ g YE BR λh' eb=>⟨rfl,I.turned (t':=XF) TF B f1 N F J⟩
 self:=λ_ _ _ _ _ g h=>wpAny_pyIter_listiter g h
def JeU(a it:Addr):Turn P w K tg QaD [it] it (λi h=>h.IsTupleIter it a i)where
 mem:=by simp
 obj:=λi h g b j=>by
  have e:b=it:=by simpa using j
  subst e
  obtain⟨o,e,c,d⟩:=g
  exact⟨o,e,λv z=>by rw[d]at z;cases z⟩
 keep:=λi h h' g k=>g.at λo e=>k it Ad o e
 item:=by
  intro X r y O hc i Y s Z H E I m g hg;subst r y O;obtain⟨xs,x,q,G⟩:=hg;obtain⟨its,L,p,hz⟩:=I.tuple q;obtain⟨u,hu,ru⟩:=L.get G;obtain⟨B,U,f2,N,F,J⟩:=m it Ad;refine wpAny_pyNext_tuple_item g (show s.heap.IsTuple a AF from p) (x:=u) (by simpa using hu) λh' l sb=>?_;have I1:Inv X Y Z H {s with heap:=h'}:=I.turned (t':=XF) (λb o j e=>(sb.2 b j).trans e) B U N F J;obtain⟨o,e,c,d⟩:=id l;exact⟨u,rfl,oX (s:={s with heap:=h'}) e c d AB ⟨x,H,I1,ru,⟨rfl,λys hy=>by rw[I.tuple_inj hy q];exact G⟩,l,λb j=>(m b j).1⟩⟩
 done:=by
  intro X r y O hc i Y s Z H E I m g hg;subst r y O;obtain⟨xs,q,G⟩:=hg;obtain⟨its,L,p,hz⟩:=I.tuple q;obtain⟨B,U,f2,N,F,J⟩:=m it Ad;have hl:=L.length;exact wpAny_pyNext_tuple_end KZ g (show s.heap.IsTuple a its.toArray from p) BR λh' eb=>⟨rfl,I.turned (t':=XF) TF B U N F J⟩
 self:=λ_ _ _ _ _ g h=>wpAny_pyIter_tupleiter g h
theorem JkP(it:Addr)(lo:Int)(n:Nat):Turn P w K tg cZ [it] it (λi h=>IsRangeIter h it (lo+(i:Nat)*1) ((n:Int)-(i:Nat)) 1)where
 mem:=by simp
 obj:=λi h g b j=>by
  have e:b=it:=by simpa using j
  subst e
  exact⟨_,g,λv z=>by
   have z':Data.fields _=Data.cell v:=z
   cases z'⟩
 keep:=λi h h' g k=>k it Ad _ g
 item:=by
  intro X q r L J i Y s Z H E I m g O;subst q r L;obtain⟨y,N,f2,G,B,F⟩:=m it Ad;have W9:=Walks.range (prog:=XJ) (w:=X.w) (I.ok.hd J) it lo 1 n;refine W9.item i s _ _ O g λv h' U hv l kk=>?_;obtain⟨t,rfl⟩:=hv;have I1:Inv X Y Z H {s with heap:=h',toks:=U}:=I.turned (λb o j e=>kk b o (by simpa using j) e) y N G B F;refine⟨_,rfl,oX (s:={s with heap:=h',toks:=U}) (n:="range_iterator") l rfl rfl AB ⟨.int (lo+i),H,I1,⟨t,?_⟩,Cv,l,λb j=>(m b j).1⟩⟩;rw[Int.mul_one]
 done:=by
  intro X q r L J i Y s Z H E I m g O;subst q r L;obtain⟨y,N,f2,G,B,F⟩:=m it Ad;exact wpAny_pyNext_range_end (I.ok.hd J) g (by have:n<=i:=O;lia) λh' eb=>⟨rfl,I.turned (t':=XF) TF y N G B F⟩
 self:=λ_ _ _ _ _ g h=>wpAny_pyIter_rangeiter g h
theorem JpN{R:It->Hp->Prop}{lo hi:Int}{t u v:Tok}{tk:Nat}(I:AH)(h1:-(2^62)<=lo)(y:lo<2^62)(m:-(2^62)<=hi)(g:hi<2^62)
  (q:R (Itr lo (hi-lo).toNat) H):wpAny AD X.A (pyIter Fi) QaU E {s with heap:=s.heap.push {cls:=.type "range",data:=.fields #[.int lo t,.int hi u,.int 1 v]},toks:=tk}:=by
 refine wpAny_pyIter_range (IsRange.new ..) (small_one h1 y m g) ?_;have I1:Inv X Y Z H {s with heap:=s.heap.push {cls:=.type "range",data:=.fields #[.int lo t,.int hi u,.int 1 v]},toks:=tk}:=I.kept λb o e=>Zd _ e;refine⟨(s.heap.push {cls:=.type "range",data:=.fields #[.int lo t,.int hi u,.int 1 v]}).objs.size,[(s.heap.push {cls:=.type "range",data:=.fields #[.int lo t,.int hi u,.int 1 v]}).objs.size],_,_,H,rfl,
  I1.kept (t':=tk) λb o e=>Zd _ e,JkP _ lo (hi-lo).toNat,?_,λb r=>?_,q⟩
 ·have j:lo+((0:Nat):Int)*1=lo:=by simp
  have l:(((hi-lo).toNat:Nat):Int)-((0:Nat):Int)=Builtin.Range.rangeSize lo hi 1:=by rw[rangeSize_one];split<;>lia
  show IsRangeIter _ _ (lo+((0:Nat):Int)*1) ((((hi-lo).toNat:Nat):Int)-((0:Nat):Int)) 1;rw[j,l];exact Ze _ rfl
 ·have e:b=(s.heap.push {cls:=.type "range",data:=.fields #[.int lo t,.int hi u,.int 1 v]}).objs.size:=by simpa using r
  subst e;exact I1.fpOk (Zh _) E4
def iRng1 (ta:TA):TI:=λZ H R=>ta Z H λvs g=>∃j:Int,vs=[.int j]/\ -(2^62)<=j/\j<2^62/\R (Itr 0 j.toNat) g
def JlE{a:Expr}{ta:TA}(G:Gl X "range")(m:X.mg "range"=No)(l:PA X [a] ta)(hs:'в' (starEach [a] Ue=[HR]) Ai):PI X tg (.Call (.Name "range" p) [a] [] pos) (iRng1 ta):=by
 intro Y s Z H R I h;refine Call_ (pK I G m boot_range (sQ (thn (l pos Y s Z H _ I h) λus L⟨vs,J,B,y,g⟩=>?_) hs rfl));obtain⟨j,e,g,F,q⟩:=g;subst e;cases y with
 |cons r z=>cases z;obtain⟨t,rfl⟩:=r;exact call_range_1 (JpN B Af Af g F (by simpa using q))
def tFor(B:TI)(g:TG)(G:TS):TS:=λD Z H=>B Z H λq F=>∃l:Nat->Nat->St->Hp->Prop,(∃m,l 0 m Z F)/\∀i m Z H,l i m Z H->
 (q.stop i H/\D.nx Z H)\/(q.go i H/\∃N:St->Hp->Prop,(∀j W,N j W->∃y,y<m/\l Bw y j W)/\∀x W,q.yld i H x W->g x Z W λr z=>G {D with nx:=N,ct:=N,bk:=D.nx} r z)
noncomputable def fG (fp:A9) (h:Heap):List (Addr×Obj):=fp.filterMap λb=>(h.get? b).map λo=>(b,o)
def Jbx{o:Obj}(g:b∈fp)(e:h.get? b=So o):(b,o)∈fG fp h:=pD.mpr ⟨b,g,by rw[e];rfl⟩
def JgX{p:Addr×Obj}(l:p∈fG fp h):p.1∈fp/\h.get? p.1=So p.2:=by
 obtain⟨b,g,e⟩:=pD.mp l;cases q:h.get? b with
 |none=>rw[q]at e;cases e
 |some o=>rw[q]at e;have j:(b,o)=p:=wD e;subst j;exact⟨g,q⟩
def Inv.pinned(I:AH)(l:∀b∈fp,FpOk X Y H b)(y:∀b∈fp,∃o,s.heap.get? b=So o/\∀v,o.data≠.cell v):Inv X (Y++fG fp VU) Z H s:=
 I.pins_of λp q=>(ZK.mp q).elim (λz=>I.pin p (ZP _ z)) λz=>by
  obtain⟨j,e⟩:=JgX z
  obtain⟨m,r,B,_⟩:=l p.1 j
  obtain⟨o,g,d⟩:=y p.1 j
  rw[e]at g;cases g
  exact⟨e,m,r,B,d⟩
def Inv.unpinned{pl:A8}(I:Inv X (Y++pl) Z H s):Inv X Y Z H s:=I.pins_of λp g=>I.pin p (ZP _ (tJ _ g))
def Jss{F:Expr}{L:BF}{wi:TI}{g:TG}{tb:TS}(hp:TX)(hc:Ci)(hi:PI X tg F wi)(hg:PG X tg g)(J:PSs X L tb)
  (hs:∀x,foldedSetIterable F Ue x=pure x:=by intro _;rfl):PS X (.For tg F L [] pos) (tFor wi g tb):=by
 intro Y s Z H D I h;refine wpAny_For (thn (hi Y s Z H _ I h) λv s1 h1=>thn h1 λitv s2 h2=>?_) hs;obtain⟨it,fp,tn,J9,H2,e,I2,T,st2,f2,W9,⟨m0,w0⟩,turn⟩:=h2;subst e;have q:∀{W:Hp},(∀b∈fp,W b=No)->∀b∈fp,FpOk X Y W b:=λhn b J=>⟨hn b J,(f2 b J).2⟩;refine codeAny_forLoop_any (λn s'=>∃i B W,Inv X Y B W s'/\tn i Yf/\(∀b∈fp,W b=No)/\W9 i n B W) ?_ m0 ⟨0,Z,H2,I2,st2,λb J=>(f2 b J).1,w0⟩;rintro n s3⟨i,G,H3,I3,st3,fr3,w3⟩;rcases turn i n G H3 w3 with⟨stop,qn⟩|⟨go,N,hN,step⟩
 ·refine vL hp (thn (T.done X rfl rfl rfl hc i Y s3 G H3 X.xe I3 (q fr3) st3 stop) λr s4 l=>?_);obtain⟨hr,I4⟩:=l;subst hr;exact wpAny_execs_nil ⟨G,H3,I4,qn⟩
 ·refine vL hp (thn (T.item X rfl rfl rfl hc i Y s3 G H3 X.xe I3 (q fr3) st3 go) λr s4 l=>?_);obtain⟨u,hr,h4⟩:=l;subst hr;refine vL hp (thn h4 λ_ s5 l=>?_);obtain⟨x,H5,I5,r5,y5,U,fr5⟩:=l;have I5':=I5.pinned (q fr5) (T.obj _ _ U);refine vL hp (thn (hg _ s5 G H5 x u _ I5' r5 (step x H5 y5)) λ_ s6 l=>?_);obtain⟨σ6,H6,I6,q6⟩:=l;refine vL hp (thn (J _ s6 σ6 H6 _ I6 q6) λf s7 O=>?_);have again:∀{j:St}{z:Hp},Inv X (Y++fG fp Z2) j z s7->N j z->∃m,m<n/\∃i B W,Inv X Y B W s7/\tn i s7.heap/\(∀b∈fp,W b=No)/\W9 i m B W:=fun{j z}y n7=>by obtain⟨m',hm,w7⟩:=hN j z n7;refine⟨m',hm,i+1,j,z,Qbi,T.keep _ _ _ U λb J o e=>(y.pin (b,o) Qq).1,λb J=>?_,w7⟩;obtain⟨o,e,d⟩:=T.obj _ _ U b J;exact(y.pin (b,o) Qq).2.1
  cases f with
  |next=>obtain⟨j,z,y,n7⟩:=O;exact again y n7
  |cont=>obtain⟨j,z,y,n7⟩:=O;exact again y n7
  |brk=>obtain⟨j,z,y,O⟩:=O;exact⟨j,z,Qbi,O⟩
  |ret v=>obtain⟨x7,j,z,y,r7,O⟩:=O;exact⟨x7,j,z,Qbi,r7,O⟩
noncomputable abbrev R2:=V->V->Hp->VK->Prop
variable{r:R2}
def OpR(X:Cx)(f:Ki)(r:R2):Prop:=
 ∀(Y:A8)(s:Al)(Z:St)(H:Hp)(x y:V)(v u:An)(Q:VK),Inv X Y Z H s->RelV x v->RelV y u->r x y H Q->
  wpAny AD X.A (f v u) BP X.xe s
def UnR(X:Cx)(f:Value->Sem Value)(r:V->Hp->VK->Prop):Prop:=
 ∀(Y:A8)(s:Al)(Z:St)(H:Hp)(x:V)(v:An)(Q:VK),Inv X Y Z H s->RelV x v->r x H Q->
  wpAny AD X.A (f v) BP X.xe s
def oA(X:Cx)(f:An)(r:List V->Hp->VK->Prop):Prop:=
 ∀(Y:A8)(s:Al)(Z:St)(H:Hp)(g:Av)(us:AE)(Q:VK),Inv X Y Z H s->Vals g us->r g H Q->
  wpAny AD X.A (call f us) BP X.xe s
def TruR(X:Cx)(r:V->Hp->MD->Prop):Prop:=
 ∀(Y:A8)(s:Al)(Z:St)(H:Hp)(x:V)(v:An)(Q:Fv),Inv X Y Z H s->RelV x v->r x H Q->
  wpAny AD X.A c0 Mf X.xe s
def tOp(r:R2)(ta l:TE):TE:=λZ H Q=>ta Z H λx j=>l Z j λy g=>r x y g Q
def tUn(r:V->Hp->VK->Prop)(ta:TE):TE:=λZ H Q=>ta Z H λx g=>r x g Q
def rI(C:Int->Int->Prop)(g:Int->Int->V):R2:=λx y H Q=>∃i j,x=.int i/\y=.int j/\C i j/\Q D2 H
def rI0(g:Int->Int->V):R2:=λx y H Q=>∃i j,x=.int i/\y=.int j/\Q D2 H
noncomputable def rU (g:Int->V):V->Hp->VK->Prop:=λx H Q=>∃i,x=.int i/\Q (g i) H
section
variable{a b:Expr}{tb tc:TE}
def binT(ha:Cb)(hb:FN){R:V->V->Hp->Prop}(I:AH)
  (h:ta Z H λx z=>tb Z z λy j=>R x y j) {Q:Ay} {f:Ki}
  (B:∀v u q x y j,Inv X Y Z j q->RelV x v->RelV y u->R x y j->wpAny AD X.A (f v u) Q X.xe q):
  wpAny AD X.A E3 (λv l=>wpAny AD X.A (eval b Ue) (λu m=>wpAny AD X.A (f v u) Q X.xe m) X.xe l) X.xe s:=by refine thn CQ λv G g=>?_;obtain⟨x,z,O,N,F⟩:=g;refine thn (hb Y G Z z _ O F) λu q g=>?_;obtain⟨y,j,J,L,U⟩:=g;exact B v u q x y j J N L U
def pe_op{op:cI}(F:OpR X QdD r)(g:Cb)(G:FN):PE X ON ME:=by intro Y s Z H Q I h;exact wpAny_BinOp (binT g G I h λv u j x y B l z m q=>F Y j Z B x y v u Q l z m q)
def pe_un{op:UnaryOp}{r:V->Hp->VK->Prop}(q:UnR X (unaryOp op) r)(ha:Cb):PE X (.UnaryOp op a pos) (tUn r ta):=by intro Y s Z H Q I h;exact UnaryOp_ (thn CQ λv l⟨x,j,y,m,g⟩=>q Y l Z j x v Q y m g)
def opI{f:Ki}{C:Int->Int->Prop}{g:Int->Int->Int}
  (l:∀(i j:Int)(t u:Tok)(s:Al)(Q:Ay)(E:Ay),C i j->Q Ol {s with toks:=XF+1}->wpAny AD X.A TC Q E s):
  OpR X f (rI C λi j=>.int D2):=by intro Y s Z H x y v u Q I z m h;obtain⟨i,j,rfl,rfl,B,q⟩:=h;obtain⟨t,rfl⟩:=z;obtain⟨t',rfl⟩:=m;exact l i j t t' s _ _ B UQ
def opI0{f:Ki}{g:Int->Int->Int}
  (l:∀(i j:Int)(t u:Tok)(s:Al)(Q:Ay)(E:Ay),Q Ol {s with toks:=XF+1}->wpAny AD X.A TC Q E s):
  OpR X f (rI0 λi j=>.int D2):=by intro Y s Z H x y v u Q I z m h;obtain⟨i,j,rfl,rfl,q⟩:=h;obtain⟨t,rfl⟩:=z;obtain⟨t',rfl⟩:=m;exact l i j t t' s _ _ UQ
def opB0{f:Ki}{g:Int->Int->Bool}
  (l:∀(i j:Int)(t u:Tok)(s:Al)(Q:Ay)(E:Ay),Q (.bool D2) s->wpAny AD X.A TC Q E s):
  OpR X f (rI0 λi j=>.bl D2):=by intro Y s Z H x y v u Q I z m h;obtain⟨i,j,rfl,rfl,q⟩:=h;obtain⟨t,rfl⟩:=z;obtain⟨t',rfl⟩:=m;exact l i j t t' s _ _ ⟨.bl D2,H,I,rfl,q⟩
def CDiv(i j:Int):Prop:=0<j/\j<1073741824
def CMul(i j:Int):Prop:=(-(2^64)<i/\i<2^64)\/(-(2^64)<j/\j<2^64)
def CMul.ok{i j:Int}(h:CMul i j):IntMulOk i j:=by
 rcases h with⟨l,g⟩|⟨l,g⟩
 ·exact .of_left OM
 ·exact .of_right OM
def Jyd:OpR X MU (rI0 λi j=>.int (i+j)):=opI0 λ_ _ _ _ _ _ _ q=>add_int q
def JwT:OpR X Qbu (rI0 λi j=>.int (i-j)):=opI0 λ_ _ _ _ _ _ _ q=>sub_int q
def JxX:OpR X QaV (rI CMul λi j=>.int (i*j)):=opI λ_ _ _ _ _ _ _ g q=>mul_int q g.ok
def JtA:OpR X O9 (rI CDiv λi j=>.int (i / j)):=opI λi j _ _ _ _ _ g q=>by
 have l:(0:Int)<j:=g.1
 have m:j<1073741824:=g.2
 exact floordiv_int Af (by rw[Int.fdiv_eq_ediv_of_nonneg i 'h'];exact q) (.inl (PyProof.noPylong_small Af))
def Jxf:OpR X Qbv (rI (λ_ j=>0<j) λi j=>.int (i % j)):=opI λi j _ _ _ _ _ g q=>by
 have l:(0:Int)<j:=g
 exact mod_int' Af (by rw[Int.fmod_eq_emod_of_nonneg i 'h'];exact q)
def unI{f:Value->Sem Value}{g:Int->Int}
  (j:∀(i:Int)(t:Tok)(s:Al)(Q:Ay)(E:Ay),Q (.int (g i) XF) {s with toks:=XF+1}->wpAny AD X.A (f cX) Q E s):
  UnR X f (rU λi=>.int (g i)):=by intro Y s Z H x v Q I l h;obtain⟨i,rfl,q⟩:=h;obtain⟨t,rfl⟩:=l;exact j i t s _ _ ⟨.int (g i),H,I.tok _,AS,q⟩
def Jwx:UnR X (unaryOp .USub) (rU λi=>.int (-i)):=unI λ_ _ _ _ _ q=>neg_int q
end
section
variable{a b:Expr}{tb tc:TE}
def JrR{Q:VK}{k g:Bool}(I:AH)(q:Q (.bl k) H)(e:k=g):EP X Y Z Q QaE s:=by subst e;exact⟨.bl k,H,I,rfl,q⟩
def op_lt:OpR X RE (rI0 λi j=>.bl (decide (i<j))):=opB0 λ_ _ _ _ _ _ _ q=>lt_int q
def op_le:OpR X QaW (rI0 λi j=>.bl (decide (i<=j))):=opB0 λ_ _ _ _ _ _ _ q=>le_int q
def op_gt:OpR X Qbw (rI0 λi j=>.bl (decide (j<i))):=opB0 λ_ _ _ _ _ _ _ q=>gt_int q
def op_ge:OpR X QaX (rI0 λi j=>.bl (decide (j<=i))):=opB0 λ_ _ _ _ _ _ _ q=>ge_int q
def JoL:OpR X RE (λx y H Q=>∃i j,x=.str i/\y=.str j/\Q (.bl (decide (i.cps.toList<j.cps.toList))) H):=by intro Y s Z H x y v u Q I l g h;obtain⟨i,j,rfl,rfl,q⟩:=h;obtain⟨t,rfl⟩:=l;obtain⟨t',rfl⟩:=g;exact lt_str QdE
def JoK:OpR X Qbx (λx y H Q=>∃i j,x=.str i/\y=.str j/\Q (.bl (!(Builtin.Str.occurrences j i 0 j.length 1).isEmpty)) H):=by intro Y s Z H x y v u Q I l g h;obtain⟨i,j,rfl,rfl,q⟩:=h;obtain⟨t,rfl⟩:=l;obtain⟨t',rfl⟩:=g;exact in_str QdE
def Jbg(b:Expr)(h:'в' (op≠.In) Ey)(h2:'в' (op≠.NotIn) Ey):behindInMarks op b=Fo:=by
 have g:(op==CmpOp.In)=Fo:=by cases op<;>first|rfl|exact absurd rfl h
 have j:(op==CmpOp.NotIn)=Fo:=by cases op<;>first|rfl|exact absurd rfl h2
 cases b<;>first|rfl|(show(_&&(_||_)&&_)=Fo;rw[g,j,rH,lM,gC])
def Jnm(G:Qbe)(g:Cb)(J:FN)(l:F7):PE X F6 ME:=by intro Y s Z H Q I h;exact wpAny_Compare1 (binT g J I h λv u j x y F m B z q=>G Y j Z F x y v u Q m B z q) l
def tTest(t:TE):TT:=λZ H Q=>t Z H λx W=>∃k,x=.bl k/\Q k W
def JsS(ho:Qbe)(ha:Cb)(hb:FN)(B:F7):PT X F6 (tTest ME):=by
 intro Y s Z H Q I h;refine wpAny_isTrue_Compare1 (thn CQ λv m⟨x,j,I1,U,g⟩=>thn (hb Y m Z j _ I1 g) λu q⟨y,L,F,G,q2⟩=>
  thn (ho Y q Z L x y v u _ F U G q2) λc s3⟨z,N,J,l,k,e,O⟩=>?_) B
 subst e;cases l;exact nD ⟨N,J,O⟩
def Jrl(r B:R2)(ta tb tc:TE):TE:=λZ H Q=>ta Z H λx m=>tb Z m λy j=>r x y j λz g=>∃k,z=.bl k/\
 (if k=To then tc Z g λq l=>B y q l Q else Q C4 g)
def JqM{g:bT}{l:R2}(ho:Qbe)(j:OpR X (compareOp g) l)(ha:Cb)(hb:FN)(hc:PE X c tc)
  (N:lastMarks [op,g] [b,c]=Fo:=by with_unfolding_all rfl):PE X (.Compare a [op,g] [b,c] pos) (Jrl r l ta tb tc):=by
 intro Y s Z H Q I h;refine Compare_chain (thn CQ λv s1⟨x,J,I1,r1,G⟩=>chain_link (thn (hb Y s1 Z J _ I1 G) λu L⟨y,U,I2,m,q2⟩=>
  thn (ho Y L Z U x y v u _ I2 r1 m q2) λd O⟨z,B,q,r3,k,e,F⟩=>?_)) N
 subst e;cases r3;refine nD ?_;cases k with
 |false=>exact ite_ff ⟨.bl Fo,B,q,rfl,F⟩
 |true=>exact ite_tt (chain_last (thn (hc Y O Z B _ q F) λw' s4⟨z',H4,I4,r4,q4⟩=>j Y s4 Z H4 y z' u w' Q I4 m r4 q4))
def TruV(K:Aj)(x:V)(H:Hp)(k:Bool):Prop:=
 match x with
 |.non=>k=Fo
 |.bl b=>k=b
 |.int i=>k=(i !=0)
 |.str y=>Yw<=sizeLine/\k=((Yw:Int)!=0)
 |.byt y=>y.size<=sizeLine/\k=((y.size:Int)!=0)
 |.ref p=>(∃g,SqL K H p g/\k=!g.isEmpty)\/(∃g,SqT K H p g/\k=!g.isEmpty)\/∃kvs,H p=So AN/\k=!kvs.isEmpty
 |_=>False
def JkV{κ:Type}{g:Bt}{vs:Cm}(r:KV g vs):(!vs.isEmpty)=!g.isEmpty:=by cases r<;>rfl
def JeI{xs:Av}{g:AE}(r:Vals xs g):(!g.toArray.isEmpty)=!xs.isEmpty:=by cases r<;>simp
def jL:(sizeLine:Nat)<2^63:=by rw[ZG];decide
theorem Jyj:TruR X (λx H Q=>∃k,TruV X.K x H k/\Q k H):=by
 intro Y s Z H x v Q I z h;obtain⟨k,e,q⟩:=h;have N:=jL;have O:sizeLine=16777216:=ZG;cases x with
 |non=>cases z;have g:k=Fo:=e;subst g;exact truthy_none dY
 |bl b=>cases z;have g:k=b:=e;subst g;exact nD dY
 |int i=>obtain⟨t,rfl⟩:=z;have g:k=(i !=0):=e;subst g;exact PySem.P.truthy_int dY
 |str y=>obtain⟨t,rfl⟩:=z;obtain⟨J,g⟩:y.length<=sizeLine/\k=((Yw:Int)!=0):=e;subst g;exact PySem.P.truthy_str Af QbZ
 |byt y=>obtain⟨t,rfl⟩:=z;obtain⟨J,g⟩:y.size<=sizeLine/\k=((y.size:Int)!=0):=e;subst g;exact PySem.W.truthy_bytes Af QbZ
 |ref p=>
  cases z;have g:(∃l,SqL X.K H p l/\k=!l.isEmpty)\/(∃l,SqT X.K H p l/\k=!l.isEmpty)\/∃kvs,H p=So AN/\k=!kvs.isEmpty:=e;rcases g with⟨l,B,g⟩|⟨l,B,g⟩|⟨kvs,B,g⟩
  ·subst g;obtain⟨F,r,pl,G⟩:=I.list B;have j:=XR;exact wpAny_truthy_list Yo (by simp only[Zo];lia) ⟨H,I.tok _,by rw[JeI r];exact q⟩
  ·subst g;obtain⟨F,r,pl,G⟩:=I.tuple B;have j:=XR;exact truthy_tuple pl (by simp only[Zo];lia) ⟨H,I.tok _,by rw[JeI r];exact q⟩
  ·subst g;obtain⟨G,L,vs,r,m⟩:AV<=sizeLine/\(p==sysModules)=Fo/\∃vs,KV kvs vs/\s.heap.DictOf Lc p vs:=I.hok p _ B;have j:AV=AJ:=uH r;exact wpAny_truthy_dict L m Af ⟨H,I.tok _,by rw[JkV r];exact q⟩
 |_=>exact(show False from e).elim
def JqC(ha:Cb)(q:∀g,isTrue a Ue g=(do let v<-g;standAt a.pos;holding [v] c0)):
  PT X a (λZ H Q=>ta Z H λx W=>∃k,TruV X.K x W k/\Q k W):=by intro Y s Z H Q I h;exact isTrue_plain (thn CQ λv m⟨x,l,z,y,j⟩=>Jyj Y m Z l x v Q z y j) (q _)
def Jlb:OpR X MU (λx y H Q=>∃i j,x=.str i/\y=.str j/\i.length+j.length<=sizeLine/\Q (.str (i++j)) H):=by intro Y s Z H x y v u Q I l g h;obtain⟨i,j,rfl,rfl,m,q⟩:=h;obtain⟨t,rfl⟩:=l;obtain⟨t',rfl⟩:=g;exact add_str (λt' z=>⟨.str (i++j),H,I.tok _,AS,q⟩) m
def Jis:OpR X (inplaceOp .Add) (λx y H Q=>∃i j,x=.str i/\y=.str j/\i.length+j.length<=sizeLine/\Q (.str (i++j)) H):=by intro Y s Z H x y v u Q I l g h;obtain⟨i,j,rfl,rfl,m,q⟩:=h;obtain⟨t,rfl⟩:=l;obtain⟨t',rfl⟩:=g;exact iadd_str (λt' z=>⟨.str (i++j),H,I.tok _,AS,q⟩) m
def xA{x:V}(r:Vals [x] us):∃u,us=[u]/\RelV x u:=by
 cases r with
 |cons g j=>cases j;exact⟨_,rfl,g⟩
def JxS{x y:V}(r:Vals [x,y] us):∃u g,us=[u,g]/\RelV x u/\RelV y g:=by
 cases r with
 |cons m q=>
  cases q with
  |cons j l=>cases l;exact⟨_,_,rfl,m,j⟩
end
structure ObjM(h:Heap)(x dx C:Addr)(mA:Bk):Prop where
 obj:h.get? x=So P7
 ns:h.Ns1 dx mA
 ne:dx≠x
def JmI(n:h.Ns1 dx mA):∃j,h.get? dx=So j/\∀name,PySem.W.lookIn name j=So (mA name):=by
 obtain⟨o,es,J,G,B,I,_,l⟩:=n;refine⟨o,G,λname=>?_⟩;have e:=l name;unfold nsFind findBy at e;rw[<-Array.find?_toList]at e;unfold PySem.W.lookIn;rw[B];dsimp only;split
 ·rename_i y q;rw[q]at e;exact kA So e
 ·rename_i q;rw[q]at e;have a:es.toList.any (·.refKey)=Fo:=by rw[List.any_eq_false];intro y m;obtain⟨z,t,g⟩:=I y (Array.mem_toList_iff.mp m);simp[DictEntry.refKey,g]
  have F:¬es.toList.any (·.refKey)=To:=by rw[a];exact ZH
  rw[if_neg F];exact kA So e
def ObjM.look{x:Addr}(I:ObjM h x dx C mA):∃g,PySem.W.InstAt h x P7 C (So g)/\∀name,PySem.W.lookIn name g=So (mA name):=
 let⟨g,j,l⟩:=JmI I.ns
 ⟨g,⟨I.obj,rfl,rfl,j⟩,l⟩
section
variable{x:Addr}{name:Str}{v:An}
def JsJ{g:Bool}{Q:Ay}(X:LR)(I:S3)(B:PySem.W.plainGet K C name=To)(y:PySem.W.hasDictIn K C=To)
  (l:PySem.W.findIn K BL name=So No) (z:mA name=So v) (j:PySem.W.handedIn v=To) (h:Q v {s with toks:=XF+1}):
  wpAny As A (getAttr GB name g) Q E s:=by obtain⟨F,m,q⟩:=I.look;exact PySem.W.get_value X m (PySem.W.plainGet_of B).1 (PySem.W.findObj_own y l rfl (by rw[q,z])) j h
def Jrd{pl:Ca}{Q:Value×List Value->Shared->Prop}(X:LR)(I:S3)(g:PySem.W.plainGet K C name=To)
  (j:PySem.W.findIn K BL name=So EM) (l:PySem.W.isFn K Br=To) (z:mA name=No) (h:Q (.ref f,[.ref x]) s):
  wpAny As A (getMethod GB name pl) Q E s:=by obtain⟨y,m,q⟩:=I.look;exact PySem.W.method_fn X m (PySem.W.plainGet_of g).1 (PySem.W.plainGet_of g).2 j (ZI.mp l) (by show(PySem.W.lookIn name y).map (·.isSome)=So Fo;rw[q,z];rfl) h
theorem Jvh{ns:Ac}{Q:Dm}(X:LR)(I:S3)
  (hs:PySem.W.findIn K BL "__setattr__"=So Ug) (J:PySem.W.plainOver K C=To) (O:PySem.W.takerIn K C name=So No) (L:PySem.W.hasDictIn K C=To)
  (G:PySem.Within mA ns) (hsz:AK<=sizeLine)
  (h:∀h',ObjM h' x dx C (λy=>if y=name then So v else mA y)->Heap.SameBut dx VU h'->Q () {s with heap:=h',toks:=XF+2}):
  wpAny As A (setAttr GB name v) Q E s:=by obtain⟨od,B,hl⟩:=I.look;refine PySem.W.set_plain X B hs (PySem.W.osa_open (s:={s with toks:=XF+1}) (r:=No) X B J O λb=>?_);obtain⟨cd,U,z⟩:=PySem.W.any_some L;have N:s.heap.get? x=So ⟨.ref C,So dx,.plain,#[]⟩:=I.obj;refine Za (Zb (Za (Za (wpAny_loadPart N (Za (PySem.W.Looks.here (s:={s with toks:=XF+1}) (PySem.W.looks_clsIn X U) ?_))))));rw[z];refine Zb (a:=So dx) (Za (Zb (Za ?_)));refine wpAny_nsSet1 (s:={s with toks:=XF+1}) I.ns λh' g j=>?_;obtain⟨oD,F,epD,m,l,q⟩:=g.count (PySem.Within.cons name v G);refine Za (wpAny_lookBehind m (by rw[l];exact pastItsLine_dict (Zq q (by rw[Zk];lia))) ?_);exact Zb (h _ ⟨(j.2 _ (Ne.symm I.ne)).trans I.obj,g,I.ne⟩ j)
def Jpt{R:Ks}{vs:AE}(X:LR)(m:PySem.W.makesIn K C=To)
  (hi:PySem.W.findIn K BL "__init__"=So EM) (l:PySem.W.typeIn K Br=So (.type "function"))
  (h:codeAny As (A.under (.builtin "type.__call__" ⟨.ref C::vs,kw⟩)) (.call Br ⟨.ref DX::vs,kw⟩) (PySem.W.InitBack DX R)
   {s with heap:='ŷ'.push Ms}):
  codeAny As A (.call BL ⟨vs,kw⟩) R s:=by obtain⟨q,g,d,t,y⟩:=s;exact PySem.W.make_core (PySem.W.makes_of X m) (PySem.W.looks_findIn X hi) (λj=>PySem.W.bind_fn X j l) Be h
end
noncomputable def putF (f:Str) (v:V):List (Str×V)->List (Str×V)
 |[]=>[(f,v)]
 |(g,x)::r=>if g=f then(g,v)::r else(g,x)::putF f v r
theorem Jef(f g:Str)(v:V):∀fs:List (Str×V),(putF f v fs).lookup g=if g=f then So v else fs.lookup g
 |[]=>by
  show List.lookup g [(f,v)]=_
  by_cases h:g=f
  ·have j:(g==f)=To:=ZI.mpr h
   simp only[List.lookup,j,if_pos h]
  ·have j:(g==f)=Fo:=ZA.mpr h
   simp only[List.lookup,j,if_neg h]
 |(k,x)::r=>by
  have m:=Jef f g v r
  rw[show putF f v ((k,x)::r)=(if k=f then(k,v)::r else(k,x)::putF f v r)from rfl]
  by_cases l:k=f
  ·rw[if_pos l]
   by_cases h:g=k
   ·have j:(g==k)=To:=ZI.mpr h
    simp only[List.lookup,j,if_pos (h.trans l)]
   ·have j:(g==k)=Fo:=ZA.mpr h
    simp only[List.lookup,j,if_neg (λe:g=f=>h (e.trans l.symm))]
  ·rw[if_neg l]
   by_cases h:g=k
   ·have j:(g==k)=To:=ZI.mpr h
    simp only[List.lookup,j,if_neg (λe:g=f=>l (h.symm.trans e))]
   ·have j:(g==k)=Fo:=ZA.mpr h
    simp only[List.lookup,j]
    exact m
theorem JdF(f:Str)(v:V):∀fs:List (Str×V),f∈(putF f v fs).map (·.1)/\∀g,g∈fs.map (·.1)->g∈(putF f v fs).map (·.1)
 |[]=>⟨by simp[putF],λg h=>by simp at h⟩
 |(k,x)::r=>by
  obtain⟨l,m⟩:=JdF f v r
  rw[show putF f v ((k,x)::r)=(if k=f then(k,v)::r else(k,x)::putF f v r)from rfl]
  by_cases j:k=f
  ·rw[if_pos j]
   subst j
   exact⟨by simp,λg h=>by simpa using h⟩
  ·rw[if_neg j]
   refine⟨?_,λg h=>?_⟩
   ·rw[Zg]
    exact Zm _ l
   ·rw[Zg]at h⊢
    rcases Zf.mp h with e|e
    ·exact Zf.mpr QcY
    ·exact Zm _ (m g e)
theorem JbQ(f:Str)(v:V):∀fs:List (Str×V),(putF f v fs).length<=aX+1
 |[]=>by simp[putF]
 |(k,x)::r=>by
  have j:=JbQ f v r
  rw[show putF f v ((k,x)::r)=(if k=f then(k,v)::r else(k,x)::putF f v r)from rfl]
  by_cases g:k=f
  ·rw[if_pos g,Zk,Zk];lia
  ·rw[if_neg g,Zk,Zk];lia
def RelO.some_of{o:L6}(r:RelO BO o):∃u,o=So u/\RelV v u:=by
 cases o with
 |none=>exact(show False from r).elim
 |some u=>exact⟨u,rfl,r⟩
def RelO.none_of{o:L6}(r:RelO No o):o=No:=by
 cases o with
 |none=>rfl
 |some u=>exact(show False from r).elim
def Jmt(r:Fs):PySem.W.handedIn u=To:=by
 cases v with
 |non=>cases(show u=XH from r);rfl
 |bl b=>cases(show u=Value.bool b from r);rfl
 |int i=>obtain⟨t,e⟩:=(show∃t,u=Value.int i t from r);cases e;rfl
 |str x=>obtain⟨t,e⟩:=(show∃t,u=Value.str x t from r);cases e;rfl
 |byt b=>obtain⟨t,e⟩:=(show∃t,u=Value.bytes b t from r);cases e;rfl
 |flt b=>obtain⟨t,e⟩:=(show∃t,u=Value.float b t from r);cases e;rfl
 |ref a=>cases(show u=Value.ref a from r);rfl
 |ty n=>cases(show u=Value.type n from r);rfl
section
variable{fs fs':List (Str×V)}
def JiD(g:BE)(e:H a=So D1):∃mA,ObjM h a dx C mA/\(∀f,RelO IS (mA f))/\PySem.Within mA (fs.map (·.1))/\fs.length<=1000/\H dx=So bD:=by obtain⟨d,z,ne,ob,mA,n,r,q⟩:=(show ObjOk P w H h a D1 from g a _ e);exact⟨mA,⟨ob,n,ne⟩,r,q,z,d⟩
end
structure Cls(K:Aj)(C:Addr):Prop where
 pg:PySem.W.plainGet K C Yp=To
 hd:PySem.W.hasDictIn K C=To
 po:PySem.W.plainOver K C=To
 sa:PySem.W.findIn K BL "__setattr__"=So Ug
def Cls.get{K:Aj}{C:Addr}(c:Z1)(f:Str):PySem.W.plainGet K C f=To:=c.pg
def NoAttr(K:Aj)(C:Addr)(f:Str):Prop:=PySem.W.findIn K BL f=So No
def NoAttr.taker{f:Str}(n:NoAttr K C f):PySem.W.takerIn K C f=So No:=by unfold PySem.W.takerIn;rw[show PySem.W.findIn K '4' f=So No from n];rfl
structure Meth(K:Aj)(C:Addr)(m:Str)(f:Addr):Prop where
 at_:PySem.W.findIn K BL m=So EM
 fn:PySem.W.isFn K Br=To
 kp:PySem.W.keepIn K Br=To
section
variable{fs:List (Str×V)}{f:Str}
def Jlu{b:Bool}{Q:Ay}(I:AH)(e:H a=So D1)(c:IX)(n:NoAttr X.K C f)(l:fs.lookup f=So v)
  (h:∀u j,Inv X Y Z H j->RelV v u->Q u j):wpAny AD A (getAttr Ar f b) Q E s:=by obtain⟨mA,m,r,_,_,_⟩:=JiD XQ e;obtain⟨u,q,g⟩:=RelO.some_of (v:=v) (o:=mA f) (by rw[<-l];exact r f);exact JsJ YG m (c.get f) c.hd n q (Jmt g) (h u _ C9 g)
def Jfj{m:Str}{g:Addr}{pl:Ca}{Q:Value×List Value->Shared->Prop}(I:AH)(e:H a=So D1)(c:IX)(k:Meth X.K C m g)(l:fs.lookup m=No)
  (h:Q (.ref g,Cr) s):wpAny AD A (getMethod Ar m pl) Q E s:=by obtain⟨mA,j,r,_,_,_⟩:=JiD XQ e;have q:mA m=No:=RelO.none_of (by rw[<-l];exact r m);exact Jrd YG j (c.get m) k.at_ k.fn q h
theorem Jls{y:V}{Q:Dm}(I:AH)(e:H a=So D1)(c:IX)(n:NoAttr X.K C f)(hl:fs.length<1000)(J:CJ)
  (h:∀m,Inv X Y Z (upd H a QO) m->Q () m):wpAny AD A (setAttr Ar f u) Q E s:=by
 obtain⟨mA,j,r,B,_,F⟩:=JiD XQ e;have N:(fs.map (·.1)).length<=sizeLine:=by rw[Zi,ZG];lia
 refine Jvh YG j c.sa c.po n.taker c.hd B N λh' l sb=>h _ ?_;have L:∃o,h'.get? dx=So o:=let⟨o,_,_,G,_⟩:=l.ns;⟨o,G⟩;refine I.write (x:=a) (e:=dx) (by rw[e];exact ZT) (.inr F) (λb q O z=>(sb.2 b O).trans z) L ?_;refine⟨by rw[Jc j.ne];exact F,?_,j.ne,l.obj,_,l.ns,λg=>?_,λg U=>?_⟩
 ·have:=JbQ f y fs;lia
 ·show RelO ((putF f y fs).lookup g) (if g=f then So u else mA g);rw[Jef];by_cases q:g=f
  ·rw[if_pos q,if_pos q];exact J
  ·rw[if_neg q,if_neg q];exact r g
 ·by_cases q:g=f
  ·rw[q];exact(JdF f y fs).1
  ·refine(JdF f y fs).2 g (B g λz=>U ?_);show(if g=f then So u else mA g)=No;rw[if_neg q];exact z
def Inv.made(I:AH):Inv X Y Z (upd (upd H Aa (.own DX)) DX (.ins C Aa []))
  {s with heap:='ŷ'.push Ms}:=by
 have g:'ŷ'.get? Aa=So Z7:=Ze VU rfl;have m:('ŷ'.push Ms).get? DX=So Ms:=by have:=Ze 'ŷ' (o:=PySem.W.instObj C Aa) rfl;rwa[ZL]at this
 have B:'ŷ'.Ns Aa Qdb:=⟨Z7,#[],_,g,rfl,(λe j=>absurd j Ad),λ_=>rfl⟩;have l:=I.laid (a:=Aa) (o:=.own DX) (h':=s.heap.push Z7) (t':=XF) OL (Zh _) ⟨_,g⟩;refine l.laid (a:=Aa+1) (o:=.ins C Aa []) (t':=XF) OL (Nat.le_of_eq (ZL _ _)) ?_;have ne:Aa≠Aa+1:=Zu Y1;refine⟨by rw[Jc ne,Je],vB _,ne,m,λ_=>No,(Heap.Ns1.of_empty B).at λo q=>Zd _ q,λ_=>ZT,λy z=>absurd rfl z⟩
def Jvx{O:Env}{f:Str}{Q:Ay}(j:attributeBase e f O c5=eval e O)
  (h:wpAny As A c5 (λo g=>wpAny As A (getAttr o f To) Q E g) E s):wpAny As A (eval S6 O) Q E s:=
 Attribute_any_ h (by rw[arm_eval_Attribute,j])
end
def tFld(K:Aj)(ta:TE)(f:Str):TE:=λZ H Q=>ta Z H λx g=>∃a C dx fs v,x=.ref a/\g a=So D1/\Cls K C/\NoAttr K C f/\fs.lookup f=So v/\Q v g
def sFld(K:Aj)(ta l:TE)(f:Str):TS:=λD Z H=>l Z H λy j=>ta Z j λx g=>∃a C dx fs,x=.ref a/\g a=So D1/\Cls K C/\NoAttr K C f/\fs.length<1000/\
 D.nx Z (upd g a QO)
def InOp(X:Cx)(op:cI)(g:V->V->Hp->VK->Prop):Prop:=
 ∀(Y:A8)(s:Al)(Z:St)(H:Hp)(x y:V)(u v:An)(Q:VK),Inv X Y Z H s->RelV x u->RelV y v->g x y H Q->wpAny AD X.A (inplaceOp op u v) BP X.xe s
section
variable{o value:Expr}{f:Str}{pos' tpos:Pos}{tv:TE}
def JeZ(he:PE X e ta)(G:attributeBase e f Ue ML=eval e Ue):PE X S6 (tFld X.K ta f):=by intro Y s Z H Q I h;refine Jvx G (thn FJ λu J g=>?_);obtain⟨x,m,F,z,a,C,dx,fs,v,ex,j,c,n,l,q⟩:=g;subst ex;obtain rfl:u=Value.ref a:=z;exact Jlu F j c n l λN L y B=>⟨v,m,y,B,q⟩
def tR(j:Qdf)(J:Ib)(hs:swapsWith value (So (.Attribute o f pos')) XT Ue=pure Fo):PS X (.Assign [.Attribute o f pos'] value pos) (sFld X.K ta tv f):=by intro Y s Z H D I h;refine plainObj_wpAny_Assign_Attribute (thn (J Y s Z H _ I h) λu B⟨y,z,O,G,q⟩=>thn (j Y B Z z _ O q) λm s2⟨x,H2,F,L,a,C,dx,fs,ex,g,c,n,l,U⟩=>?_) hs;subst ex;obtain rfl:m=Value.ref a:=L;exact Jls F g c n l G λs3 N=>⟨Z,_,N,U⟩
end
structure Room(k:Nat)(A:Bv):Prop where
 hd:A.handled=No
 dp:A.depth+3*k+5<recursionLimit
 un:A.units+16*k+200<cLine
theorem Room.mono{j:Nat}(r:Room k A)(h:j<=k):Room j A:=⟨r.hd,by have:=r.dp;lia,by have:=r.un;lia⟩
theorem Room.deeper(r:Qdg)(O:Env):Room k (A.deeper O):=
 ⟨r.hd,by have:=r.dp;show A.depth+1+3*k+5<_;lia,by have:=r.un;show A.units+3+16*k+200<_;lia⟩
theorem Room.in1(r:Qdg):Room k XU:=
 ⟨r.hd,by have:=r.dp;show A.depth+3*k+5<_;lia,by have:=r.un;show A.units+1+16*k+200<_;lia⟩
def JkY:(A.under (.builtin "type.__call__" ⟨.ref C::us,kw⟩)).depth=A.depth+1:=by first|rfl|simp[Around.under,Code.weight,Code.isCreation,Code.isGuard,Code.isCaller,Code.frames,Code.isFrame,guardIds]
def Jlo:(A.under (.builtin "type.__call__" ⟨.ref C::us,kw⟩)).units=YH+1:=by first|rfl|simp[Around.under,Code.cUnits,Code.frames,Code.isFrame]
theorem Room.make(r:Qdg)(C:Addr)(us:AE)(kw:Ku):Room k (A.under (.builtin "type.__call__" ⟨.ref C::us,kw⟩)):=
 ⟨r.hd,by have:=r.dp;rw[JkY];lia,by have:=r.un;rw[Jlo];lia⟩
theorem Room.depth(r:Room k A):A.depth<recursionLimit:=by have:=r.dp;lia
theorem Room.units(r:Room k A):A.units+64<cLine:=by have:=r.un;lia
def tNil:TA:=λ_ H Q=>Q [] H
def zQ(ta:TE)(tr:TA):TA:=λZ H Q=>ta Z H λx j=>tr Z j λl g=>Q (x::l) g
def jD:PA X [] tNil:=λ_ _ _ _ H Q I h=>iQ ⟨[],H,I,.nil,h⟩
def JO(ha:FM)(j:aV)(hs:CG):PA X Gk (zQ te t):=by intro pos Y s Z H Q I h;rw[hs];show wpAny _ _ (spliced (Xq::backTo pos LI)) _ _ s;refine gM (thn CQ λu q g=>?_);obtain⟨x,m,J,G,l⟩:=g;exact thn (j pos Y q Z m _ J l) λus N⟨F,B,y,z,L⟩=>⟨x::F,B,y,.cons G z,L⟩
def tTup(t:TA):TE:=λZ H Q=>t Z H λxs g=>Ah<=sizeLine/\∀p,g p=No->Q EF (upd g p Bb)
def tLst(t:TA):TE:=λZ H Q=>t Z H λxs g=>Ah<=sizeLine/\∀p,g p=No->Q EF (upd g p AA)
def Jwb{x1}(h:aV):PE X (.Tuple es x1 pos) (tTup t):=by intro Y s Z H Q I m;refine wpAny_Tuple_spliced (thn PF λus s1⟨xs,g,j,r,z,q⟩=>⟨by rw[<-r.length];exact z,?_⟩);have l:g Ax=No:=j.hok.fresh (Zh _);refine⟨.ref Ax,upd g Ax Bb,j.laid (t':=Yg) OK (Zh _) ?_,rfl,q _ l⟩;exact⟨⟨z,iS⟩,us,r,⟨_,Ze _ rfl,rfl,_,rfl⟩⟩
def JrW(h:aV):PE X Qb7 (tLst t):=by intro Y s Z H Q I m;refine wpAny_List_spliced (thn PF λus s1⟨xs,g,j,r,z,q⟩=>⟨by rw[<-r.length];exact z,?_⟩);have l:g Ax=No:=j.hok.fresh (Zh _);refine⟨.ref Ax,upd g Ax AA,j.laid (t':=Yg) OK (Zh _) ?_,rfl,q _ l⟩;exact⟨z,us,0,r,Ze _ rfl⟩
noncomputable abbrev Sp:=List V->Hp->VK->XK->Prop
noncomputable abbrev CXT:=List Env->Hp->Shared->XK->Value->Shared->Prop
structure Env0(P:Ba)(w:AQ)(K:Aj)(mg:Bk)(base:Heap)(A:Bv)(outer:Bq)(s:Al)(H:Hp):Prop where
 frames:A.frames=So outer
 mod:Mod K mg base
 bs:∀b o,base.get? b=So o->s.heap.get? b=So o/\H b=No
 bsz:base.objs.size<=Aa
 funs:s.heap.FunFrames base outer
 frf:∀b∈frs outer,H b=No
 hok:HOk P w H VU
 bare:AllBare Z6
inductive CE(outer:Bq)(P:Ba)(w:AQ)(H:Hp)(s:Al)(Q:VK)(u:An)(s':Al):Prop where
 |mk (v:V) (H':Hp):s'.os=s.os->AllBare s'.gens->Un (frs outer) [] H H' s.heap s'.heap->HOk P w H' s'.heap->RelV v u->Q v H'->CE outer P w H s Q u s'
variable{CX:CXT}
def CR(CX:CXT)(g:Bq)(P:Ba)(w:AQ)(H:Hp)(s:Al)(Q:VK)(E:XK)(r:Result)(j:Al):Prop:=
 match r with
 |.ok (.ret u)=>CE g P w H s Q u j
 |.ok _=>False
 |.error e=>CX g H s E e j
structure FnOk(P:Ba)(w:AQ)(K:Aj)(mg:Bk)(base:Heap)(CX:CXT)(k:Nat)(f:Addr)(fd:BG)(ps:Ac)(sp:Sp):Prop where
 len:∀vs H Q E,sp vs H Q E->AJ=Ao
 run:∀(A:Bv)(outer:Bq)(s:Al)(H:Hp)(args:Args)(us:AE)(vs:Av)(Q:VK)(E:XK),Room k A->Env0 P w K mg base A outer s H->BindsTo s fd args (ps.zip us)->Vals vs us->sp vs H Q E->
  codeAny Bp A (.call Br args) (CR CX outer P w H s Q E) s
def FnOk.imp{sp j:Sp}(F:FnOk P w K mg base CX k f fd ps sp)
  (h:∀vs H Q E,j vs H Q E->sp vs H Q E):FnOk P w K mg base CX k f fd ps j:=
 ⟨λvs H Q E q=>F.len vs H Q E (h _ _ _ _ q),λA g s H l us vs Q E m y G z B=>F.run A g s H l us vs Q E m y G z (h _ _ _ _ B)⟩
def Env0.make{g:Bq}(e:Env0 P w K mg base A g s H)(C:Addr)(us:AE)(kw:Ku):
  Env0 P w K mg base (A.under (.builtin "type.__call__" ⟨.ref C::us,kw⟩)) g s H:=⟨by first|exact e.frames|(simpa[Around.under,Code.envs,Code.isFrame,pushEnvs]using e.frames),e.mod,e.bs,e.bsz,e.funs,e.frf,e.hok,e.bare⟩
section
variable{s':Al}
def Inv.env0(I:AH):Env0 XJ X.w X.K X.mg Yh X.A XN s H:=
 ⟨dZ,cO,I.bs,Zq I.ok.bsz I.sz,I.stack,I.stkFree,XQ,Yi⟩
def Inv.after{Q:VK}(I:AH)(h:CE XN XJ X.w H s Q u s'):EP X Y Z Q u s':=by obtain⟨v,W,B,j,un,l,r,q⟩:=h;obtain⟨y,g,d,t,m⟩:=s';obtain rfl:m=s.os:=B;exact⟨v,W,I.call (h':=y) (g':=g) (d':=d) (t':=t) (ch:=[]) un l j Qp,r,q⟩
end
def tCall(sp:Sp)(g:Av)(E:XK)(t:TA):TE:=λZ H Q=>t Z H λvs j=>sp (vs++g) j Q E
def gR(C:Addr)(m:Str)(sp:Sp)(g:Av)(E:XK)(ta:TE)(t:TA):TE:=λZ H Q=>ta Z H λx j=>∃a dx fs,x=.ref a/\j a=So D1/\fs.lookup m=No/\
 t Z j λvs l=>sp (x::(vs++g)) l Q E
def tMake(C:Addr)(sp:Sp)(g:Av)(E:XK)(t:TA):TE:=λZ H Q=>t Z H λvs j=>∀x dx,j x=No->j dx=No->dx≠x->
 sp (.ref x::(vs++g)) (upd (upd j dx GA) x Qb8) (λv l=>v=.non/\Q GB l) E
def Binds(K:Aj)(fd:BG)(ps:Ac)(J:AE):Prop:=
 ∀(s:Al)(us:AE),K.In s.heap->(us++J).length=Ao->BindsTo s fd LO (ps.zip (us++J))
def Binds.all(h:∀us:List Value,Qdv=Ao->bindArgs fd LO=pure L0):Binds K fd ps []:=λs us _ g=>by
 rw[pE]at g⊢
 exact .of_eq (h us g)
def Jcf(CX:CXT)(X:Cx)(E:XK):Prop:=∀(Y:A8)(Z:St)(H:Hp)(s:Al)(e:An)(g:Al),Inv X Y Z H s->CX XN H s E e g->X.xe e g
section
variable{sp:Sp}{dvs:Av}{J:AE}{E:XK}{m:Str}{apos:Pos}{o:Expr}
def kY{Q:VK}(F:HG)(l:Gp)(G:Hx)(q:GP)(y:GO)
  (I:AH) (r:Qbf) (h:sp (vs++dvs) H Q E):wpAny AD X.A (call Br us) BP X.xe s:=by
 have j:Vals (vs++dvs) (us++J):=r.append q;have z:(us++J).length=Ao:=by rw[<-j.length];exact F.len _ _ _ _ h
 refine wpAny_call (mG (F.run X.A XN s H LO (us++J) (vs++dvs) Q E l I.env0 (G s us YG z) j h) λr B g=>?_);cases r with
 |error e=>exact y Y Z H s e B I g
 |ok fl=>
  cases fl with
  |ret u=>exact I.after g
  |next=>exact False.elim g
  |brk=>exact False.elim g
  |cont=>exact False.elim g
def Jos(F:HG)(l:Gp)(O:YB)(z:X.mg x=So Br)(L:PySem.W.keepIn X.K Br=To)(N:Hx)(B:GP)(G:GO)
  (y:J8) (g:DZ) (he:CG) (hpl:'в' ('ķ'.any (·.1)=Fo) Ai):
  PE X T6 (tCall sp dvs E t):=by intro Y s Z H Q I h;refine oP (rS I O z ?_ g);refine PySem.W.callWith_K (h₀:=Yh) I.ok.mod.kin L (thn (y pos Y s Z H _ I h) λus s1⟨vs,U,j,r,q⟩=>⟨j.kIn,?_⟩) he hpl;exact kY F l N B G j r q
def JiX{pl:Ca}(he:Qdf)(c:IX)(j:Meth X.K C m f)(F:HG)(O:Gp)(hb:Hx)(hd:GP)(N:GO)(G:J8)
  (g:CG) (hpl:'в' ('ķ'.any (·.1)=Fo) Ai)
  (ht:'в' (eval Qo Ue=(do
   let ov<-eval o Ue
   standAt XY
   let(f,first)<-holding [ov] CN
   callWith pos f first 'ν' Dh)) Ai):
  PE X Qo (gR C m sp dvs E ta t):=by intro Y s Z H Q I h;refine PySem.W.methodCall_KW (pl:=pl) (thn FJ λu U⟨x,L,y,rx,a,dx,fs,ex,B,l,q⟩=>?_) ht;subst ex;obtain rfl:u=Value.ref a:=rx;refine Jfj y B c j l ?_;refine PySem.W.callWith_K (first:=Cr) (h₀:=Yh) I.ok.mod.kin j.kp (thn (G pos Y U Z L _ y q) λus s2⟨vs,H2,z,r,q2⟩=>⟨z.kIn,?_⟩) g hpl;exact kY (us:=.ref a::us) (vs:=.ref a::vs) F O hb hd N z (.cons rfl r) q2
def Jkb{pl:Ca}(he:Qdf)(c:IX)(j:Meth X.K C m f)(F:HG)(z:Gp)(O:Hx)(G:GP)(L:GO)
  (N:'в' (eval P6 Ue=(do
   let ov<-eval o Ue
   standAt XY
   let(f,first)<-holding [ov] CN
   callWith pos f first 'е' Dh)) Ai):
  PE X P6 (gR C m sp dvs E ta tNil):=by intro Y s Z H Q I h;refine PySem.W.methodCall_KW (pl:=pl) (thn FJ λu s1⟨x,U,g,B,a,dx,fs,ex,y,l,q⟩=>?_) N;subst ex;obtain rfl:u=Value.ref a:=B;refine Jfj g y c j l ?_;exact PySem.W.callWith_K0 (first:=Cr) g.kIn j.kp (kY (us:=Cr) (vs:=Cr) F z O G L g RU q)
structure Mk(K:Aj)(C f:Addr):Prop where
 makes:PySem.W.makesIn K C=To
 init:PySem.W.findIn K BL "__init__"=So EM
 fn:PySem.W.isFn K Br=To
 kp:PySem.W.keepIn K BL=To
def Jqn{Q:VK}(M:Mk X.K C f)(F:HG)(y:Room AZ X.A)(hb:Hx)(O:GP)
  (U:GO) (I:AH) (r:Qbf)
  (h:∀x dx,H x=No->H dx=No->dx≠x->sp (.ref x::(vs++dvs)) (upd (upd H dx GA) x Qb8) (λv N=>v=.non/\Q GB N) E):
  wpAny AD X.A (call BL us) BP X.xe s:=by
 have q:=h DX Aa (I.hok.fresh (mC _)) E1 (Zu Y1);have j:=Inv.made (C:=C) I;have l:Vals (V.ref DX::(vs++dvs)) (Value.ref DX::(us++J)):=.cons rfl (r.append O);have z:(Value.ref DX::us++J).length=Ao:=by have e:=XZ;rw[F.len _ _ _ _ q]at e;exact e.symm
 refine wpAny_call (Jpt (f:=f) YG M.makes M.init (ZI.mp M.fn) (mG (F.run _ XN _ _ ⟨Value.ref DX::us,[]⟩ (Value.ref DX::(us++J)) _ _ E (y.make C us [])
  (j.env0.make C us []) (hb _ (Value.ref DX::us) j.kIn z) l q) λr G g=>?_))
 cases r with
 |error e=>exact U Y Z _ _ e G j g
 |ok fl=>
  cases fl with
  |ret u=>obtain⟨v,W,L,B,ev,q3⟩:=j.after g;subst ev;exact⟨B,⟨V.ref DX,W,L,rfl,q3⟩⟩
  |next=>exact False.elim g
  |brk=>exact False.elim g
  |cont=>exact False.elim g
def Jko(M:Mk X.K C f)(F:HG)(j:Room AZ X.A)(B:YB)(y:X.mg x=So BL)(z:Hx)(l:GP)(q:GO)
  (g:DZ):PE X (.Call (.Name x p) [] [] pos) (tMake C sp dvs E tNil):=by intro Y s Z H Q I h;refine oP (rS I B y ?_ g);exact PySem.W.callWith_K0 YG M.kp (Jqn (us:=[]) M F j z l q I .nil h)
end
structure FnScope(N P:Ac)(sc:Bf):Prop where
 kind:sc.kind=.function
 co:sc.isCoroutine=Fo
 gen:sc.isGenerator=Fo
 nd:N.Nodup
 pre:N.take P.length=P
 par:∀x∈P,sc.names.lookup x=So .local\/sc.names.lookup x=So .cell
 nofree:∀y∈sc.names,y.2≠.free
theorem Jha{g:Str->Option NameKind}:∀{binds:Ku}{m:Bk},(∀v,(x,v)∉binds)->bindL g binds m x=m x
 |[],_,_=>rfl
 |(n,v)::r,m,h=>by
  unfold bindL
  rw[Jha λw j=>h w 'ԓ']
  split
  ·have:x≠n:=by rintro rfl;exact h v fC
   simp[this]
  ·rfl
theorem JgO{g:Str->Option NameKind}:∀{binds:Ku}{m:Bk},(∀v,(x,v)∉binds)->bindC g binds m x=m x
 |[],_,_=>rfl
 |(n,v)::r,m,h=>by
  unfold bindC
  rw[JgO λw j=>h w 'ԓ']
  split
  ·rfl
  ·have:x≠n:=by rintro rfl;exact h v fC
   simp[this]
theorem Jhz{g:Str->Option NameKind}{x:Str}{v:An}:∀{P:Ac}{vs:AE}{i:Nat}{m:Bk},P.Nodup->P[i]? =So x->vs[i]? =So v->g x=So .local->
  bindL g (P.zip vs) m x=So v
 |[],_,_,_,_,h,_,_=>by simp at h
 |_::_,[],_,_,_,_,h,_=>by simp at h
 |p::P,w::vs,0,m,nd,h1,h2,hk=>by
  simp at h1 h2;subst h1;subst h2
  show bindL g ((p,w)::P.zip vs) m p=_
  unfold bindL
  rw[Jha λv j=>(oB.mp nd).1 (List.of_mem_zip j).1,if_pos hk]
  simp
 |p::P,w::vs,i+1,m,nd,h1,h2,hk=>by
  show bindL g ((p,w)::P.zip vs) m x=_
  unfold bindL
  exact Jhz (i:=i) (oB.mp nd).2 (by simpa using h1) (by simpa using h2) hk
theorem JhA{g:Str->Option NameKind}{x:Str}{v:An}:∀{P:Ac}{vs:AE}{i:Nat}{m:Bk},P.Nodup->P[i]? =So x->vs[i]? =So v->g x≠So .local->
  bindC g (P.zip vs) m x=So v
 |[],_,_,_,_,h,_,_=>by simp at h
 |_::_,[],_,_,_,_,h,_=>by simp at h
 |p::P,w::vs,0,m,nd,h1,h2,hk=>by
  simp at h1 h2;subst h1;subst h2
  show bindC g ((p,w)::P.zip vs) m p=_
  unfold bindC
  rw[JgO λv j=>(oB.mp nd).1 (List.of_mem_zip j).1,if_neg hk]
  simp
 |p::P,w::vs,i+1,m,nd,h1,h2,hk=>by
  show bindC g ((p,w)::P.zip vs) m x=_
  unfold bindC
  exact JhA (i:=i) (oB.mp nd).2 (by simpa using h1) (by simpa using h2) hk
noncomputable def kC (N:Ac) (vs:Av):St:=vs.map So++List.replicate (N.length-AJ) No
noncomputable def cxOf (CX:CXT) (P:Ba) (w:AQ) (K:Aj) (mg:Bk) (base:Heap) (N:Ac) (j:Str) (g:Bf) (f:Addr) (m:An) (A:Bv) (outer:Bq) (s:Al) (H:Hp) (E:XK):Cx where
 prog:=P
 w:=w
 K:=K
 mg:=mg
 base:=base
 A:=A.deeper Ta
 N:=N
 s₀:=s
 H₀:=H
 env:=envOfC j g Aa f m
 outer:=outer
 stack:=envOfC j g Aa f m::outer
 ex:=[]
 calm:=To
 fn:=λ_=>To
 pn:=[]
 xe:=λe y=>wpAny Bp (A.deeper Ta) (leaving Ta e) (λ_ l=>CX outer H s E e l) (λq l=>CX outer H s E q l) y
def JjA{g:Bf}{n:Nat}(h:g.names.lookup x=So .cell):∃c,(cellsFrom n g.names []).lookup x=So c:=by have q:=PySem.W.cellsFrom_some g.names n [] QcX;exact zV.mp q
theorem JoE{N:Ac}{l:Str}{g:Bf}{O:An}{j:Bq}{s1:Al}{E:XK}
  (S:FnScope N ps g) (hd:Bh) (B:Env0 P w K mg base A j s H) (hl:AJ=Ao) (r:Qbf)
  (x:InCallC s Aa (bindL '乹'.kindOf L0 λ_=>No) (cellsFrom DX g.names []) (bindC '乹'.kindOf L0 λ_=>No) s1):
  Inv (cxOf CX P w K mg base N l g f O A j s H E) [] 'և' H s1:=by
 have hpl:Ao<=N.length:=by have:=kA YM S.pre;rw[List.length_take]at this;lia
 obtain⟨L,tk,rfl,hk⟩:=x.done;have F:∀b:Addr,b∉(cxOf CX P w K mg base N l g f O A j s H E).ex:=λb z=>absurd (show b∈([]:List Addr)from z) Ad;refine⟨⟨B.mod,S.kind,rfl,rfl,Zh _,λy z c L m=>?_,λy G=>?_,λy c _ h=>?_,λ_=>hd,Around.frames_deeper B.frames,.inr Cv,λb z=>absurd z (F b),B.bs,B.bsz,λb _ _=>F b,λb z=>absurd z (F b),B.funs,B.frf⟩,
  rfl,B.bare,Un.kept hk,⟨_,x.toInCall.ns,λi y v L m h3=>?_⟩,λy c h=>⟨_,x.cell y c h⟩,B.hok.fresh (Zh _),λy c h=>?_,λp I=>absurd (show p∈([]:List (Addr×Obj))from I) Ad,B.hok.kept hk,?_⟩
 ·exact name_of_addr x.apart (oQ L) (oQ m)
 ·have G:g.names.lookup y=So .cell\/g.names.lookup y=So .free:=G;rcases G with G|G
  ·exact JjA G
  ·exact absurd rfl (S.nofree _ (oQ G))
 ·exact Nat.le_of_lt PD
 ·have U:i<AJ:=by
   unfold kC at m;by_cases U:i<AJ
   ·exact U
   ·rw[rG (by simpa using U)]at m;rw[pW]at m;split at m<;>cases m
  have ha:vs[i]? =So v:=by
   unfold kC at m;rw[qG (by simpa using U),xB]at m;cases e:vs[i]? with
   |none=>rw[e]at m;cases m
   |some a=>rw[e]at m;cases m;rfl
  obtain⟨u,hu,rv⟩:=r.get ha;have I:ps[i]? =So y:=by
   rw[<-S.pre,List.getElem?_take_of_lt 'h'];exact L
  have J:ps.Nodup:=by rw[<-S.pre];exact S.nd.sublist Qn
  refine⟨u,rv,?_⟩;rcases S.par y (uM I)with k|k
  ·exact .inl ⟨k,Jhz J I hu k⟩
  ·obtain⟨c,e⟩:=JjA (n:=Aa+1) k
   refine .inr ⟨.inl k,c,e,?_⟩;have q:=x.cell y c e;rw[JhA J I hu (by show g.names.lookup y≠_;rw[k];decide)]at q;exact q
 ·exact B.hok.fresh (Nat.le_of_lt PD)
 ·unfold kC;show _=XM;rw[Zn,Zi,vJ];lia
def jK{name qual:Str}{g:Qdh}{j:BF}{scope:Bf}{dV kV L pm cdv ct oc:An}{an od:Dw}
  {osl:Ed} {N ps:Ac} {sp:Sp} (lk:K.lookup f=So ⟨oc,od,.func WK,osl⟩) (hcd:PySem.W.codeIn K cdv qual=To) (S:FnScope N ps scope)
  (len:∀vs H Q E,sp vs H Q E->AJ=Ao)
  (z:∀(A:Bv)(outer:Bq)(s:Al)(H:Hp)(vs:Av)(Q:VK)(E:XK),Room k (A.deeper (envOfC qual scope Aa f cdv))->sp vs H Q E->
   ∃t,PSs Sy j t/\t {nx:=λ_ W=>Q .non W,rt:=Q} 'և' H):
  FnOk P w K mg base CX AZ f WK ps sp:=by
 refine⟨len,λA outer s H args us vs Q E hr J hb r U=>?_⟩;have hl:=len _ _ _ _ U;have KX:K.In VU:=J.mod.kin.keeps λb o e=>(J.bs b o e).1;have lim:s.heap.NoLimit:=J.mod.nolimit.keeps λb o e=>(J.bs b o e).1;have B:∀y∈ps.zip us,scope.names.lookup y.1=So .local\/(scope.names.lookup y.1=So .cell/\((cellsFrom DX Yl []).lookup y.1).isSome=To):=λ⟨n,v⟩hy=>by
  rcases S.par n (List.of_mem_zip hy).1 with q|q
  ·exact .inl q
  ·exact .inr ⟨q,PySem.W.cellsFrom_some _ _ _ (.inl q)⟩
 refine codeAny_call_function hr.depth (KX _ _ lk) rfl S.co S.gen rfl (PySem.W.codeRec_of KX hcd) (hb _ _ _ _ ?_);refine wpAny_newFunctionEnv_cells S.kind B λO he s1 x=>?_;subst he;refine⟨lim.keeps x.toInCall.keep,codeAny_func ?_⟩;obtain⟨t,ht,hq⟩:=z A outer s H vs Q E (hr.deeper _) U;have I:Inv Sy [] 'և' H s1:=JoE S hr.hd J hl r x;refine ZY (ht [] s1 'և' H _ I hq) (λfl s' F=>?_) λe s' F=>F;have G:∀{l:St}{W:Hp}{v:V}{u:An},Inv Sy [] l W s'->RelV v u->Q v W->CE outer P w H s Q u s':=
  fun{l W v u}m rv q=>⟨v,W,m.os,m.bare,m.base,m.hok,rv,q⟩
 cases fl with
 |ret u=>obtain⟨v,l,W,m,rv,q⟩:=F;exact G m rv q
 |next=>obtain⟨l,W,m,q⟩:=F;exact G (v:=V.non) (u:=XH) m rfl q
 |brk=>obtain⟨_,_,_,q⟩:=F;exact False.elim q
 |cont=>obtain⟨_,_,_,q⟩:=F;exact False.elim q
section
variable{id T:Bg}{r:List V->Hp->VK->Prop}
def tCB(r:List V->Hp->VK->Prop)(t:TA):TE:=λZ H Q=>t Z H λvs g=>r vs g Q
def zT(z:oA X DC r)(J:YB)(q:X.mg x=No)(y:bootBuiltins x=So DC)(g:J8)(B:'в' (x≠"__name__") Ey)(hdb:DZ)
  (he:CG) (hpl:'в' ('ķ'.any (·.1)=Fo) Ai):PE X T6 (tCB r t):=by intro Y s Z H Q I h;refine oP (pK I J q y ?_ B hdb);exact PyProof.Rows.callWith_builtin1 (thn PB λus m⟨vs,l,G,F,j⟩=>z Y m Z l vs us Q G F j) he hpl
def JgD(z:oA X EK r)(J:YB)(q:X.mg x=No)(y:bootBuiltins x=So EK)(g:J8)(B:'в' (x≠"__name__") Ey)(hdb:DZ)
  (he:CG) (hpl:'в' ('ķ'.any (·.1)=Fo) Ai):PE X T6 (tCB r t):=by intro Y s Z H Q I h;refine oP (pK I J q y ?_ B hdb);exact sQ (thn PB λus m⟨vs,l,G,F,j⟩=>z Y m Z l vs us Q G F j) he hpl
end
end L2
namespace HT
open PySem PyProof.Rows
section
variable{prog:Ba}{w:AQ}{A:Bv}{E:Ay}{s:Al}
def Jvn{t b:Addr}{vs ws:AE}{Q:Ay}(x:IsTup VU t Cs)(y:Qd)(q:vs≠[])
  (h1:ws=[]->Q GU s) (z:ws≠[]->Q Fi {s with heap:=s.heap.push {cls:=.type "tuple",data:=.seq (vs++ws).toArray}})
  (hsz:AJ+AY<=sizeLine):wpAny As A QN Q E s:=by
 obtain⟨⟨cls,o,data,sl⟩,l,u,n,r⟩:=id x;obtain⟨⟨v,g,m,i⟩,a,f,n2,h⟩:=id y;simp only at u r f h;subst u r f h;have e:Cs++ws.toArray=(vs++ws).toArray:=by simp
 by_cases j:ws=[]
 ·exact concat_meets ⟨_,l,rfl⟩ ⟨_,a,rfl⟩ noFill_tuple_add seq_tuple_add kW oW QcZ
   (tuple_addW1 t b Cs Qbj n n2 o g sl i (by simpa using q) (by simp[j])) ⟨l,a,h1 j⟩
 ·refine concat_meets ⟨_,l,rfl⟩ ⟨_,a,rfl⟩ noFill_tuple_add seq_tuple_add kW oW QcZ
   (tuple_addW2 t b Cs Qbj n n2 o g sl i (by simpa using q) (by simpa using j) (by rw[Zo,Zo];exact hsz)) ⟨l,a,?_⟩
  rw[e];exact z j
noncomputable def sIx (n d:Nat):Option Int->Nat
 |none=>d
 |some v=>if v<0 then(v+(n:Int)).toNat else min QcD n
theorem JvI(n d:Nat)(b:d<=n)(o:BB):sIx n d o<=n:=by
 cases o with
 |none=>exact b
 |some v=>
  show(if v<0 then(v+(n:Int)).toNat else min QcD n)<=n;by_cases a:v<0
  ·rw[if_pos a];lia
  ·rw[if_neg a];exact Nat.min_le_right _ _
theorem Jmm(v:Int)(n d:Nat):(if v<0 then max (v+(n:Int)) 0 else min v (n:Int))=((sIx n d BO:Nat):Int):=by
 show(if v<0 then max (v+(n:Int)) 0 else min v (n:Int))=(((if v<0 then(v+(n:Int)).toNat else min QcD n):Nat):Int);by_cases a:v<0
 ·simp only[if_pos a];lia
 ·simp only[if_neg a];lia
theorem Jln(lo hi:BB)(n:Nat):Builtin.Slice.sliceAdjust lo hi 1 (n:Int)=(((sIx n 0 lo:Nat):Int),((sIx n n hi:Nat):Int)):=by
 have a:¬((1:Int)<0):=by lia
 unfold Builtin.Slice.sliceAdjust;simp only[a,ZF];refine Prod.ext ?_ ?_
 ·cases lo with
  |none=>rfl
  |some v=>exact Jmm v n 0
 ·cases hi with
  |none=>rfl
  |some v=>exact Jmm v n n
theorem Jlg(i j:Nat):Builtin.Slice.slicePlaces (i:Int) (j:Int) 1=j-i:=by
 unfold Builtin.Slice.slicePlaces;have a:(1:Int)>0:=by lia
 simp only[a,if_true,Int.ediv_one];split<;>lia
def JeS{v:An}{o:BB}{Q:Option Int->Shared->Prop}(p:IsPart v o)(h:Q o s):wpAny As A (Builtin.Slice.slicePartIndex v) Q E s:=by
 cases p with
 |none=>exact slicePart_none h
 |int i t=>exact slicePart_int h
def Jba{sl:Addr}{e f:An}{lo hi:BB}{n:Nat}{Q:Int×Int×Nat->Shared->Prop}(hs:s.heap.IsSliceOf sl e f .none)(pl:IsPart e lo)(i:IsPart f hi)
  (h:Q (((sIx n 0 lo:Nat):Int),1,sIx n n hi-sIx n 0 lo) s):wpAny As A (Builtin.Slice.sliceApplied Kt (pure (n:Int))) Q E s:=by obtain⟨j,a,g,b⟩:=id hs;unfold Builtin.Slice.sliceApplied Builtin.Slice.sliceFields;refine Za (Za (ZS a b (x:=e) rfl (Za (ZS a b (x:=f) rfl (Za (ZS a b (x:=.none) rfl (Zb ?_)))))));refine Za (slicePart_none ?_);show wpAny _ _ (if((1:Int)==0)=To then _ else _) _ _ s;rw[if_neg 'y'];refine Za (JeS pl (Za (JeS i (Za (Zb ?_)))));show wpAny _ _ (match Builtin.Slice.sliceAdjust lo hi 1 (n:Int)with|(lo,hi)=>pure (lo,(1:Int),Builtin.Slice.slicePlaces lo hi 1)) _ _ s;rw[Jln lo hi n];show wpAny _ _ (pure (((sIx n 0 lo:Nat):Int),(1:Int),Builtin.Slice.slicePlaces ((sIx n 0 lo:Nat):Int) ((sIx n n hi:Nat):Int) 1)) _ _ s;rw[Jlg];exact Zb h
theorem Jpl(xs:B6)(i k:Nat):((List.range k).filterMap fun(m:Nat)=>xs[((i:Int)+(m:Int)*1).toNat]?).toArray=((xs.toList.drop i).take k).toArray:=by
 have e:(fun(m:Nat)=>xs[((i:Int)+(m:Int)*1).toNat]?)=λm=>xs[i+m]?:=by
  funext m;have:((i:Int)+(m:Int)*1).toNat=i+m:=by lia
  rw[this]
 rw[e];have:=pick_run xs i k;rw[List.filterMap_map]at this;have a:((λx=>xs[x]?)∘λx=>i+x)=λm=>xs[i+m]?:=rfl;rw[a]at this;rw[this]
theorem JcE{t sl:Addr}{items:B6}{j l:An}{lo hi:BB}{Q:Ay}(b:NX)(hs:s.heap.IsSliceOf sl j l .none)(pl:IsPart j lo)(r:IsPart l hi)
  (o:¬(sIx Aw 0 lo=0/\sIx Aw Aw hi=Aw))
  (h:Q Fi {s with heap:=s.heap.push {cls:=.type "tuple",data:=.seq ('ȗ'.take Gc).toArray}})
  (hsz:Aw<=sizeLine):wpAny As A OJ Q E s:=by
 have a:sizeOk (.seq ('ȗ'.take Gc).toArray):=by show('ȗ'.take Gc).toArray.size<=sizeLine;rw[Zo,List.length_take,eQ,ZQ];lia
 have y:sIx Aw Aw hi<=Aw:=JvI _ _ (Zh _) hi;obtain⟨v,i,e,u⟩:=id hs;have f:s.TypeIs Kt "slice":=⟨v,i,e⟩;unfold getItem;try with_reducible refine wA ?_
 first|refine Za (Zb ?_)|skip
 refine Za (wpAny_sequenceKey YT AB ?_);refine Za (ZM (name:=oS "__getitem__") YT nQ
  (ZD nQ YT entry_tuple_getitem ?_ QD))
 show wpAny _ _ (Builtin.Tuple.tupleItemsOf (.ref t)>>=_) _ _ s;refine Za (tupleItemsOf_ b ?_);refine Za (kF f ?_);rw[if_pos 'y'];refine Za (Jba hs pl r ?_);have g:¬((((sIx Aw 0 lo:Nat):Int)==0&&(1:Int)==1&& Gc==Aw)=To):=by intro q;rw[Zc,Zc]at q;have x:((sIx Aw 0 lo:Nat):Int)=0:=fF q.1.1;have z:sIx Aw Aw hi-sIx Aw 0 lo=Aw:=fF q.2;exact o ⟨by lia,by lia⟩
 show wpAny _ _ (if(((sIx Aw 0 lo:Nat):Int)==0&&(1:Int)==1&& Gc==Aw)=To then _ else _) _ _ s;rw[if_neg g,Jpl];first
  |exact Za (m:=Builtin.Tuple.tupleExact _) (ZJ (Zb ⟨_,rfl,Zb h⟩) a)
  |exact Za (m:=Builtin.Tuple.tupleExact _) (ZJ (Za (Zb (Zb ⟨_,rfl,Zb h⟩))) a)
  |exact Za (Za (m:=Builtin.Tuple.tupleExact _) (ZJ (Zb (Zb ⟨_,rfl,Zb h⟩)) a))
  |exact Za (Za (m:=Builtin.Tuple.tupleExact _) (ZJ (Zb ⟨_,rfl,Zb h⟩) a))
end
end HT
namespace L2
open PySem PySem.Spec PyProof.Rows
variable{X:Cx}{xs:Av}{α:Type}
noncomputable abbrev TO:=St->Hp->(Option Int->Hp->Prop)->Prop
def PO(X:Cx)(e:dW)(t:TO):Prop:=
 ∀(Y:A8)(s:Al)(Z:St)(H:Hp)(Q:Option Int->Hp->Prop),Inv X Y Z H s->t Z H Q->
  wpAny AD X.A (evalPart e Ue) (λu a=>∃o W,Inv X Y Z W a/\IsPart u o/\Q o W) X.xe s
noncomputable def tNoPart:TO:=λ_ H Q=>Q No H
noncomputable def tPart (t:TE):TO:=λZ H Q=>t Z H λx a=>∃i,x=.int i/\Q (So i) a
section
variable{e:Expr}{te:TE}{lo hi:dW}{tl th:TO}{pos p2:Pos}
def JtL:PO X No tNoPart:=by intro Y s Z H Q I h;rw[evalPart_none];exact Zb ⟨No,H,I,.none,h⟩
def JsI(h:FM):PO X (So e) (tPart te):=by intro Y s Z H Q I f;rw[evalPart_some];refine thn (h Y s Z H _ I f) λu m a=>?_;obtain⟨x,g,l,j,b⟩:=a;obtain⟨i,rfl,q⟩:=b;obtain⟨t,rfl⟩:=j;exact⟨So i,g,l,.int i t,q⟩
def SlR(X:Cx)(r:Sr):Prop:=
 ∀(Y:A8)(s:Al)(Z:St)(H:Hp)(x:V)(v a b:An)(lo hi:BB)(sl:Addr)(Q:VK),Inv X Y Z H s->RelV x v->s.heap.IsSliceOf sl a b .none->IsPart a lo->IsPart b hi->r x lo hi H Q->
  ∃T id,typeLookup EK "__getitem__"=pure (So DC)/\s.TypeIs v T/\wpAny AD X.A (getItem v Kt) BP X.xe s
def tSl(r:Sr)(te:TE)(tl th:TO):TE:=λZ H Q=>te Z H λx b=>tl Z b λl a=>th Z a λu f=>r x l u f Q
def JpE{r:Sr}(F:SlR X r)(he:FM)(G:PO X lo tl)(C:PO X hi th):PE X Qm (tSl r te tl th):=by intro Y s Z H Q I h;refine Subscript_ (thn FJ λv J f=>?_);obtain⟨x,o,E,O,m⟩:=f;refine wpAny_Slice (thn (G Y J Z o _ E m) λg w⟨l,A,L,pl,U⟩=>thn (C Y w Z A _ L U) λi a f=>?_);obtain⟨u,j,M,y,N⟩:=f;rw[evalPart_none];refine Zb ?_;have P:Inv X Y Z j {a with heap:=a.heap.push {cls:=.type "slice",data:=.fields #[g,i,.none]}}:=M.kept (t':=a.toks) λb ob q=>Zd _ q;obtain⟨T,id,z,B,W⟩:=F Y {a with heap:=a.heap.push {cls:=.type "slice",data:=.fields #[g,i,.none]}} Z j x v g i l u aB Q P O (Heap.IsSliceOf.new ..) pl y N;show wpAny AD X.A (subscriptTail e Wu v (.ref aB)) BP X.xe {a with heap:=a.heap.push {cls:=.type "slice",data:=.fields #[g,i,.none]}};exact tail_any (ops:=[.ref aB,v]) B z W (by with_unfolding_all rfl)
noncomputable def cutV (xs:Av) (lo hi:BB):List V:=(xs.drop Sn).take Sw
theorem JdG(xs:Av)(lo hi:BB):'Ȱ'.length<=Ah:=by unfold cutV;rw[List.length_take,eQ];lia
def rSlT (K:Aj):V->Option Int->Option Int->Hp->VK->Prop:=λx lo hi H Q=>∃a xs,x=.ref a/\SqT K H a xs/\
 ¬(HT.sIx Ah 0 lo=0/\HT.sIx Ah Ah hi=Ah)/\∀p,H p=No->Q EF (upd H p (.tup 'Ȱ'))
def Jxe:SlR X (rSlT X.K):=by
 intro Y s Z H x v y z lo hi sl Q I m u pl l h;obtain⟨a,xs,rfl,w,j,q⟩:=h;cases m;obtain⟨its,r,g,i⟩:=I.tuple w;have f:CL=Ah:=by rw[Zo];exact r.length.symm
 refine⟨"tuple",_,aE,g.typeIs,?_⟩;refine HT.JcE g u pl l (by rw[f];exact j) ?_ (by rw[f];exact i);rw[f];refine⟨.ref Aa,_,I.laid (t':=XF) (o:=.tup 'Ȱ') S5 (Zh _) ?_,rfl,q _ E1⟩;exact⟨⟨Zq Qb9 i,iS⟩,_,(r.drop Sn).take Sw,IsTup.new _ _⟩
def rCatT(K:Aj):R2:=λx y H Q=>∃a b xs ys,x=.ref a/\y=.ref b/\SqT K H a xs/\SqT K H b ys/\xs≠[]/\xs.length+By<=sizeLine/\
 (ys=[]->Q Ar H)/\(ys≠[]->∀p,H p=No->Q EF (upd H p (.tup (xs++ys))))
def Vals.nil_iff{us:AE}(r:Qbd):us=[]↔xs=[]:=by
 cases r with
 |nil=>simp
 |cons _ _=>simp
def Jua:OpR X MU (rCatT X.K):=by intro Y s Z H x y v u Q I C B h;obtain⟨a,b,xs,r,rfl,rfl,l,J,E,j,m,G⟩:=h;cases C;cases B;obtain⟨F,g,A,_⟩:=I.tuple l;obtain⟨i,f,p2,_⟩:=I.tuple J;refine HT.Jvn A p2 (λz=>E (g.nil_iff.mp z)) (λz=>⟨.ref a,H,I,rfl,m (f.nil_iff.mp z)⟩) (λz=>?_) (by rw[<-g.length,<-f.length];exact j);refine⟨.ref Aa,_,I.laid (t':=XF) (o:=.tup (xs++r)) S5 (Zh _) ?_,rfl,G (λw=>z (f.nil_iff.mpr w)) _ E1⟩;exact⟨⟨by rw[Zn];exact j,iS⟩,_,g.append f,IsTup.new _ _⟩
end
noncomputable def ixN (n:Nat) (i:Int):Option Nat:=if 0<=i then(if i<n then So i.toNat else No)else if -(n:Int)<=i then So (i+n).toNat else No
def atI  (xs:List α) (i:Int):Option α:=(ixN Ah i).bind λj=>xs[j]?
theorem JsG{n:Nat}{i:Int}{j:Nat}(h:ixN n i=So j):seqIndex? i n=So j/\j<n/\ -(n:Int)<=i/\i<n:=by
 unfold ixN at h;by_cases b:0<=i
 ·rw[if_pos b]at h;by_cases a:i<n
  ·rw[if_pos a]at h;have e:i.toNat=j:=wD h;exact⟨by rw[seqIndex_of b a,e],by lia,by lia,a⟩
  ·rw[if_neg a]at h;cases h
 ·rw[if_neg b]at h;by_cases a:-(n:Int)<=i
  ·rw[if_pos a]at h;have e:(i+n).toNat=j:=wD h;exact⟨by rw[seqIndex_neg 'h' a,e],by lia,a,by lia⟩
  ·rw[if_neg a]at h;cases h
def JiV{xs:List α}{i:Int}{v:α}(h:atI xs i=So v):∃j,seqIndex? i Ah=So j/\xs[j]? =So v/\j<Ah/\ -(Ah:Int)<=i/\i<Ah:=by
 unfold atI at h;cases e:ixN Ah i with
 |none=>rw[e]at h;cases h
 |some j=>rw[e]at h;obtain⟨b,g,f,a⟩:=JsG e;exact⟨j,b,h,g,f,a⟩
def nT(b:Expr):Prop:=∀o i,subscripted b Fo o i=operate [o,i] QdF
def IxR(X:Cx)(r:R2):Prop:=
 ∀(b a:Expr)(Y:A8)(s:Al)(Z:St)(H:Hp)(x y:V)(v u:An)(Q:VK),Inv X Y Z H s->RelV x v->RelV y u->r x y H Q->
  subscripted a Fo v u=operate [v,u] (getItem v u)->wpAny AD X.A (subscriptTail b a v u) BP X.xe s
def MtR(X:Cx)(id:Bg)(r:Ko):Prop:=
 ∀(Y:A8)(s:Al)(Z:St)(H:Hp)(x:V)(xs:Av)(v:An)(a:AE)(Q:VK),Inv X Y Z H s->RelV x v->Vals xs a->r x xs H Q->
  wpAny AD X.A (call DC (v::a)) BP X.xe s
section
variable{a b:Expr}{ta tb:TE}{pos:Pos}
def pe_ix{r:R2}(e:IxR X r)(f:Cb)(o:FN)(hs:nT b):PE X Nf ME:=by intro Y s Z H Q I h;exact Subscript_ (binT f o I h λv u g x y m i l j q=>e a b Y g Z m x y v u Q i l j q (hs _ _))
def rIxL(K:Aj):R2:=λx y H Q=>∃p xs i v,x=.ref p/\y=.int i/\SqL K H p xs/\atI xs i=So v/\Q v H
def rIxT(K:Aj):R2:=λx y H Q=>∃p xs i v,x=.ref p/\y=.int i/\SqT K H p xs/\atI xs i=So v/\Q v H
def rIxS:R2:=λx y H Q=>∃z i c,x=.str z/\y=.int i/\z.length<=sizeLine/\atI Ye i=So c/\Q (.str ⟨#[c]⟩) H
theorem JuX:IxR X (rIxL X.K):=by
 intro o g Y s Z H x y v u Q I N G h A;obtain⟨p,xs,i,z,rfl,rfl,O,L,q⟩:=h;cases N;obtain⟨t,rfl⟩:=G;obtain⟨its,r,pl,U⟩:=I.list O;obtain⟨j,f,P,W,E,F⟩:=JiV L;obtain⟨w,C,m⟩:=r.get P;have J:=XR;have hn:=jL;have e:EP X Y Z Q w s:=⟨z,H,I,m,q⟩;by_cases B:0<=i
 ·have l:i.toNat=j:=by
   rw[seqIndex_of B F]at f;exact wD f
  exact item_listR Yo B Af (by rw[l];simpa using C) e A
 ·have l:(i+(CL:Int)).toNat=j:=by
   rw[seqIndex_neg 'h' E]at f;rw[Zo,<-J];exact wD f
  exact subscriptTail_builtinR (x:=w) QcO dS
   (wpAny_getItem_list_neg (Q:=λr M=>r=w/\EP X Y Z Q r M) Yo Af (by rw[Zo]<;>lia) Af (by rw[l];simpa using C) ⟨rfl,e⟩) A
def Jxh:IxR X (rIxT X.K):=by
 intro l f Y s Z H x y v u Q I F o h A;obtain⟨p,xs,i,z,rfl,rfl,J,C,q⟩:=h;cases F;obtain⟨t,rfl⟩:=o;obtain⟨G,r,pl,P⟩:=I.tuple J;obtain⟨j,m,M,U,N,O⟩:=JiV C;obtain⟨w,L,g⟩:=r.get M;have B:=XR;have W:=jL;have e:EP X Y Z Q w s:=⟨z,H,I,g,q⟩;exact subscriptTail_builtinR (x:=w) pl.typeIs slot_tuple_getitem.lookup
  (getItem_tuple (j:=j) (Q:=λr E=>r=w/\EP X Y Z Q r E) pl Af Af (by rw[Zo,<-B];exact m) (by simpa using L) ⟨rfl,e⟩) A
def Jxv:IxR X rIxS:=by
 intro f e Y s Z H x y v u Q I C B h E;obtain⟨z,i,c,rfl,rfl,L,r,q⟩:=h;obtain⟨t,rfl⟩:=C;obtain⟨M,rfl⟩:=B;obtain⟨j,g,w,G,l,A⟩:=JiV r;have m:z.cps.toList.length=z.length:=by simp[Str.length]
 rw[m]at g l A;have J:=jL;exact tail_any (wM s z t) slot_str_getitem.lookup (getItem_str (c:=c) (by
  have o:decide (i< -(2^63:Int))=Fo:=Zs Af;have F:decide (i≥2^63)=Fo:=Zs Af;rw[o,F,rH]) (by rw[g];simpa using w) ⟨.str ⟨#[c]⟩,H,I.tok _,AS,q⟩) E
theorem JhI(lo hi:BB)(n:Nat):(sliceBounds lo hi No n).1=((HT.sIx n 0 lo:Nat):Int)/\(sliceBounds lo hi No n).2.1=((HT.sIx n n hi:Nat):Int)/\(sliceBounds lo hi No n).2.2=1:=by
 refine⟨?_,?_,rfl⟩
 ·cases lo with
  |none=>simp[sliceBounds,HT.sIx]
  |some i=>
   simp only[sliceBounds,HT.sIx,Option.getD_none,show(1:Int)>0 by decide,if_true];by_cases h:i<0
   ·simp only[h,if_true]<;>lia
   ·simp only[h,ZF]<;>lia
 ·cases hi with
  |none=>simp[sliceBounds,HT.sIx]
  |some i=>
   simp only[sliceBounds,HT.sIx,Option.getD_none,show(1:Int)>0 by decide,if_true];by_cases h:i<0
   ·simp only[h,if_true]<;>lia
   ·simp only[h,ZF]<;>lia
def JfE(its:AE)(lo hi:BB):slicePick AF lo hi No=((its.drop (HT.sIx B0 0 lo)).take (HT.sIx B0 B0 hi-HT.sIx B0 0 lo)).toArray:=by obtain⟨f,g,e⟩:=JhI lo hi CL;unfold slicePick;rw[f,g,e];simp only[sliceRange_one,pick_run,Zo]<;>rfl
def rSlL (K:Aj):V->Option Int->Option Int->Hp->VK->Prop:=λx f e H Q=>∃a xs,x=.ref a/\SqL K H a xs/\∀p,H p=No->Q EF (upd H p (.lst (cutV xs f e)))
theorem JuE:SlR X (rSlL X.K):=by intro Y s Z H x v w y lo hi sl Q I i j pl g h;obtain⟨a,xs,rfl,l,q⟩:=h;cases i;obtain⟨m,r,f,u⟩:=I.list l;have e:=XR;refine⟨"list",_,dS,f.isList.typeIs,?_⟩;refine wpAny_getItem_list_slice f.isList j pl g .none Ad ?_ (by rw[Zo]<;>lia);rw[JfE,<-e];refine⟨.ref Aa,_,I.laid (t':=XF) (o:=.lst 'Ȱ') S5 (Zh _) ?_,rfl,q _ E1⟩;exact⟨Zq Qb9 u,_,0,(r.drop Sn).take Sw,Ze _ rfl⟩
theorem Jbi:oA X M3 (λxs H Q=>∃p ys,xs=Ez/\(SqL X.K H p ys\/SqT X.K H p ys)/\Q (.int By) H):=by
 intro Y s Z H xs m Q I r h;obtain⟨p,ys,rfl,f,q⟩:=h;obtain⟨u,rfl,j⟩:=xA r;cases j;have o:=jL;rcases f with f|f
 ·obtain⟨g,i,pl,l⟩:=I.list f;have e:=Yn;exact Calls.call_len_list Yo (by simp only[Zo]<;>lia) ⟨.int By,H,I.tok _,⟨XF+1,by rw[Zo,e]⟩,q⟩
 ·obtain⟨g,i,pl,l⟩:=I.tuple f;have e:=Yn;exact len_tuple pl (by simp only[Zo]<;>lia) ⟨.int By,H,I.tok _,⟨XF+1,by rw[Zo,e]⟩,q⟩
def JhB:oA X M3 (λxs H Q=>∃z,xs=[.str z]/\z.length<=sizeLine/\Q (.int cQ) H):=by intro Y s Z H xs g Q I r h;obtain⟨z,rfl,e,q⟩:=h;obtain⟨u,rfl,t,rfl⟩:=xA r;have f:=jL;exact len_str Af ⟨.int cQ,H,I.tok _,AS,q⟩
theorem Jdc:oA X Rt (λxs H Q=>∃p ys,xs=Ez/\(SqL X.K H p ys\/SqT X.K H p ys)/\∀l,H l=No->Q BH (upd H l FP)):=by
 intro Y s Z H xs E Q I r h;obtain⟨p,ys,rfl,w,q⟩:=h;obtain⟨u,rfl,C⟩:=xA r;cases C;have j:∀(its:AE),Vals ys its->By<=sizeLine->∀(f:Heap)(g:Nat),(∀b B,s.heap.get? b=So B->f.get? b=So B)->
   f.get? Aa=So {cls:=.type "list",dict:=No,data:=.seq AF g,slots:=#[]}->EP X Y Z Q Fi {s with heap:=f}:=λits i m f g v e=>
  ⟨.ref Aa,_,I.laid (t':=XF) v (Zh _) (show ObjOk XJ X.w _ f _ (.lst ys)from⟨m,its,g,i,e⟩),rfl,q _ E1⟩
 rcases w with w|w
 ·obtain⟨its,i,pl,m⟩:=I.list w;have x:=Yn;obtain⟨o,A,z,n,y⟩:=Yo;exact call_list_seq p Be A z y Va (by simp only[Zo]<;>lia)
 ·obtain⟨its,i,pl,m⟩:=I.tuple w;have x:=Yn;obtain⟨o,A,z,n,y⟩:=pl;exact call_list_seq p c6 A z y Va (by simp only[Zo]<;>lia)
theorem Jcq:oA X MT (λxs H Q=>∃p f,xs=Ez/\((SqL X.K H p f/\∀l,H l=No->Q BH (upd H l (.tup f)))\/(SqT X.K H p f/\Q EF H))):=by
 intro Y s Z H xs y Q I r h;obtain⟨p,f,rfl,h⟩:=h;obtain⟨u,rfl,x⟩:=xA r;cases x;rcases h with⟨g,q⟩|⟨g,q⟩
 ·obtain⟨its,i,pl,j⟩:=I.list g;have m:=Yn;refine call_tuple_list Yo (λh' v=>?_) (by simp only[Zo]<;>lia);have I1:Inv X Y Z H {s with heap:=h'}:=I.kept (t':=XF) v;have w:Inv X Y Z (upd H Ce (.tup f)) {s with heap:=h'.push {cls:=.type "tuple",data:=.seq AF}}:=
   I1.laid (t':=XF) SY (Zh _) (show ObjOk XJ X.w _ _ _ (.tup f)from⟨⟨j,iS⟩,its,i,IsTup.new _ _⟩)
  exact⟨.ref Ce,_,w,rfl,q _ E4⟩
 ·obtain⟨its,i,pl,j⟩:=I.tuple g;exact call_tuple_same pl ⟨.ref p,H,I,rfl,q⟩
def tyV(K:Aj)(T:Bg)(x:V)(H:Hp):Prop:=match x with
 |.str _=>T="str"
 |.int _=>T="int"
 |.ref p=>(T="list"/\∃xs,SqL K H p xs)\/(T="tuple"/\∃o,K.lookup p=So o/\o.cls=.type "tuple"/\o.dict=No)\/
   (T="dict"/\((∃kvs,H p=So AN)\/∃kvs,H p=So BA))\/(T="set"/\∃S n,H p=So (.set S n))\/(T="list"/\∃t xs,H p=So KJ)
 |_=>False
def JrB{Y:A8}{Z:St}{H:Hp}{s:Al}{T:Bg}{x:V}{v:An}(I:AH)(r:RelV x v)(ty:tyV X.K T x H):
  s.TypeIs v T/\∀a,v=.ref a->∃ob,s.heap.get? a=So ob/\ob.dict=No:=by
 cases x with
 |str z=>obtain⟨t,rfl⟩:=r;cases(show T="str" from ty);exact⟨wM s z t,λ_ e=>nomatch e⟩
 |int i=>obtain⟨t,rfl⟩:=r;cases(show T="int" from ty);exact⟨typeIs_int s i t,λ_ e=>nomatch e⟩
 |ref p=>
  cases r;rcases ty with⟨rfl,xs,q⟩|⟨rfl,o,f,m,j⟩|⟨rfl,f⟩|⟨rfl,S,n,f⟩|⟨rfl,t,xs,f⟩
  ·obtain⟨l,_,pl,_⟩:=I.list q;refine⟨QcO,λa e=>?_⟩;cases e;obtain⟨o,n,e,c,j,_⟩:=pl;exact⟨o,e,j⟩
  ·refine⟨⟨o,I.kIn p o f,m⟩,λa e=>?_⟩;cases e;exact⟨o,I.kIn _ o f,j⟩
  ·have z:∃o,s.heap.get? p=So o/\o.ExactDict:=by
    rcases f with⟨h,f⟩|⟨h,f⟩
    ·obtain⟨_,_,_,_,o,_,_,e,ex,_⟩:=I.hok p _ f;exact⟨o,e,ex⟩
    ·obtain⟨_,_,_,_,o,_,_,e,ex,_⟩:=I.hok p _ f;exact⟨o,e,ex⟩
   obtain⟨o,e,ex⟩:=z;refine⟨⟨o,e,ex.1⟩,λa g=>?_⟩;cases g;exact⟨o,e,ex.2.1⟩
  ·obtain⟨o,_,_,_,e,ex,_⟩:=I.hok p _ f;refine⟨⟨o,e,ex.1⟩,λa g=>?_⟩;cases g;exact⟨o,e,ex.2.1⟩
  ·obtain⟨_,l,n,_,e⟩:=I.hok p _ f;refine⟨K1,λa g=>?_⟩;cases g;exact K1
 |_=>exact False.elim ty
def tBM0(K:Aj)(T:Bg)(r:Ko)(f:TE):TE:=λZ H Q=>f Z H λx e=>tyV K T x e/\r x [] e Q
def tBM(K:Aj)(T:Bg)(r:Ko)(f:TE)(t:TA):TE:=λZ H Q=>f Z H λx e=>tyV K T x e/\t Z e λxs g=>r x xs g Q
variable{o e:Expr}{es:CF}{to:TE}{t:TA}{name:Str}{apos cpos:Pos}{T id:Bg}{r:Ko}
def JxG(u:PlainAttrs T)(g:Slot T name id)(j:Sk)(A:MtR X id r)(ho:PE X o to)
  (f:'в' (attributeBase o name Ue MK=eval o Ue) Ai) (hline:'в' ((Y4==aY)=To) Ai):PE X (.Call QC [] [] cpos) (tBM0 X.K T r to):=by intro Y s Z H Q I h;refine wpAny_Call_method0_late f hline (thn FH λv z i=>?_);obtain⟨x,w,m,l,ty,q⟩:=i;obtain⟨y,B⟩:=JrB m l ty;exact⟨T,id,u,g,j,y,B,lI rfl (PySem.evalArgs_none (A Y z Z w x [] v [] Q m l .nil q))⟩
def iN(y:PlainAttrs T)(g:Slot T name id)(j:Sk)(E:MtR X id r)(ho:PE X o to)(u:J8)
  (f:'в' (attributeBase o name Ue MK=eval o Ue) Ai)
  (hfew:'в' (((backTo cpos (starEach Gk Ue)).all (λx=>!x.1)&&(backToKw cpos LG).all (λx=>x.1.isSome)
   &&decide ((e::es).length+([]:List Keyword).length+(if([]:List Keyword).isEmpty then 0 else 1)<30))=To) Ai)
  (hline:'в' ((Y4==aY)=To) Ai) (hs:CG) (hplain:'в' ((backTo cpos LI).any (·.1)=Fo) Ai):
  PE X (.Call QC Gk [] cpos) (tBM X.K T r to t):=by intro Y s Z H Q I h;refine wpAny_Call_method_late f hfew hline rfl (thn FH λv B i=>?_);obtain⟨x,z,q,m,ty,w⟩:=i;obtain⟨A,L⟩:=JrB q m ty;refine⟨T,id,y,g,j,A,L,?_⟩;have l:=u cpos Y B Z z _ q w;rw[hs]at l⊢;refine lI (by show(Fo||(backTo cpos LI).any (·.1))=Fo;rw[hplain]<;>rfl) (sM ?_);exact thn l λF C⟨M,N,G,J,O⟩=>E Y C Z N x M v F Q G m J O
end
def MtM(X:Cx)(id:Bg)(r:Ko):Prop:=
 ∀(Y:A8)(s:Al)(Z:St)(H:Hp)(x:V)(xs:Av)(v:An)(a:AE)(Q:VK),Inv X Y Z H s->RelV x v->Vals xs a->r x xs H Q->
  wpAny AD X.A (call DC (v::a)) BP X.xe s
def Vals.one:∀{x:V}{us:AE},Vals [x] us->∃u,us=[u]/\RelV x u
 |_,_,.cons r .nil=>Mi
def Vals.zero:∀{us:AE},Vals [] us->us=[]
 |_,.nil=>rfl
def Vals.dropLast{us:AE}(h:Qbd):Vals xs.dropLast us.dropLast:=by
 induction h with
 |nil=>exact .nil
 |cons r t a=>
  cases t with
  |nil=>exact .nil
  |cons q b=>exact .cons r a
theorem Jll(l:List α):l.eraseIdx (l.length-1)=l.dropLast:=by
 induction l with
 |nil=>rfl
 |cons a r f=>
  cases r with
  |nil=>rfl
  |cons b r=>
   have e:(a::b::r).length-1=((b::r).length-1)+1:=by have g:(a::b::r).length=XR+2:=rfl;have h:(b::r).length=XR+1:=rfl;lia
   rw[e,List.eraseIdx_cons_succ,f];all_goals rfl
section
variable{Y:A8}{Z:St}{H:Hp}{s:Al}{l b:Addr}{ys zs:Av}
def Inv.lset{its its':AE}{n:Nat}{f:Array Value->Array Value}{t':Nat}(I:AH)(g:H l=So AA)
  (e:s.heap.get? l=So {cls:=.type "list",data:=.seq AF n}) (hf:f AF=its'.toArray) (hv:Vals ys its') (hz:By<=sizeLine):
  Inv X Y Z (upd H l FP) {s with heap:=s.heap.update l Qca,toks:=t'}:=by have q:=PySem.IsL.update e f;rw[hf]at q;refine I.write (x:=l) (e:=l) (by rw[g];exact trivial) Be (λh u hb a=>(ZO VU Qca E2).trans a) ⟨_,q⟩ ?_;exact⟨hz,its',_,hv,q⟩
def Inv.lnew{its:AE}{t':Nat}(I:AH)(a:Vals ys its)(hz:By<=sizeLine):
  Inv X Y Z (upd H Aa FP) {s with heap:=s.heap.push {cls:=.type "list",data:=.seq AF},toks:=t'}:=
 I.laid Nd (Zh _) ⟨hz,its,0,a,Ze _ rfl⟩
def Inv.fresh(I:AH):H Aa=No:=I.hok.fresh (Zh _)
def Inv.lstM(I:AH)(a:H l=So AA):Ah<=sizeLine/\∃(its:AE)(n:Nat),Vals xs its/\xs.length=B0/\s.heap.get? l=So {cls:=.type "list",data:=.seq AF n}:=by obtain⟨z,its,n,r,e⟩:=I.hok l _ a;exact⟨z,its,n,r,XR,e⟩
def JpJ{n:Nat}(h:n<=sizeLine):Builtin.List.listTooLong n=Fo:=by unfold Builtin.List.listTooLong;exact Zs Af
end
def rAppend:V->List V->Hp->VK->Prop:=λx a H Q=>∃l xs y,x=.ref l/\a=[y]/\H l=So AA/\xs.length<sizeLine/\Q .non (upd H l (.lst (xs++[y])))
theorem JgE:MtM X "list.append" rAppend:=by intro Y s Z H x o v m Q I g f h;obtain⟨l,xs,y,rfl,rfl,b,w,q⟩:=h;cases g;obtain⟨u,rfl,i⟩:=f.one;obtain⟨z,a,n,r,j,e⟩:=I.lstM b;refine fB Qbs K1 Qaz Q0 (PySem.list_append l a.toArray n u (by rw[Zo];lia)) ⟨e,?_⟩;refine⟨.non,_,I.lset (its':=a++[u]) b e Ad (r.append (.cons i .nil)) ?_,rfl,q⟩;rw[Zn,uG];lia
def rPop:V->List V->Hp->VK->Prop:=λx a H Q=>∃l xs y,x=.ref l/\a=[]/\H l=So AA/\xs[Ah-1]? =So y/\Q y (upd H l (.lst xs.dropLast))
theorem JvT:MtM X "list.pop" rPop:=by
 intro Y s Z H x B v A Q I j g h;obtain⟨l,xs,y,rfl,rfl,f,m,q⟩:=h;cases j;have a:=g.zero;subst a;obtain⟨z,its,n,r,i,e⟩:=I.lstM f;obtain⟨u,w,o⟩:=r.get m;have b:AF[CL-1]? =So u:=by show AF[B0-1]? =So u;rw[<-kI,<-i];exact w
 refine fB F.slot_list_pop K1 F.entry_list_pop (F.args_list_pop_1 _) (MeetsSeq.list_pop_last l AF n u b (by rw[Zo];lia)) ⟨e,?_⟩;refine⟨y,_,I.lset (its':=its.dropLast) f e ?_ r.dropLast ?_,o,q⟩
 ·show its.toArray.eraseIdxIfInBounds (CL-1)=its.dropLast.toArray;rw[Zo,List.eraseIdxIfInBounds_toArray,Jll]
 ·rw[List.length_dropLast];lia
end L2
namespace Att
open PySem PySem.W PySem.Calls PyProof.Rows
def JdZ{P:Params}{h:Heap}:∀(ns:AU)(vs:AE),WellAll P h vs (ns.map WData.int)->IntsAre vs ns:=by
 intro ns;induction ns with
 |nil=>intro vs w;rw[lG]at w;cases w;exact .nil
 |cons n ns e=>
  intro vs w;rw[Zg]at w;cases w with
  |cons a b=>cases a;exact .cons _ _ (e _ b)
theorem JoO{l:OpenLaw}{n:Nat}(x:l.most=So n){P:Params}{h:Heap}{args:List WData}{e:AE}
  (b:l.row.toRowW.claim.pre args=To) (m:WellAll P h e args):
  ∃a vs ns,e=Mh/\args=[WData.list (ns.map WData.int)]/\h.get? a=So {cls:=.type "list",data:=.seq Cs}/\IntsAre vs ns/\ns.length<=n:=by
 have o:WShape.hasAll [] args [.list .int]=To:=(pre_splitW b).1;have s:l.pre.holds [] {args:=args}=To:=(pre_splitW b).2;obtain⟨d,r,rfl,u,A⟩:=hasAllW_cons o;obtain rfl:=hasAllW_nil A;obtain⟨C,rfl,w⟩:=hasW_list u;obtain⟨ns,rfl⟩:=items_int w;have g:AK<=n:=by
  unfold OpenLaw.pre at s;have i:(WTm.not (.lt (.lit (.int (n:Int))) (.len (.arg 0)))).holds [] {args:=[.list Hg]}=To:=by have i:=(holds_andW s).1;rw[x]at i;exact i
  have j:=condW_of i (w_not (w_lt w_lit (w_len_list (w_arg rfl))));rw[Zi]at j;refine Nat.le_of_not_lt λq=>?_;have B:(n:Int)<((AK:Nat):Int):=by lia
  first
   |(rw[Zx B]at j;exact absurd j (by decide))
   |(simp at j;lia)
 cases m with
 |cons v z=>
  cases z;cases v with
  |list y f=>exact⟨_,_,ns,rfl,rfl,y,JdZ ns _ f,g⟩
def JlT(l:OpenLaw)(args:List WData):l.row.toRowW.claim.post args FS args=To:=
 postW_of (r:=cG) (X:=(To==To))
  (show WShape.has [] FS .bool=To by first|rfl|decide|simp[WShape.has,WShape.arms,WShape.armsAll])
  (show(WTm.eq .res (.lit FS)).value [] {args:=args,res:=So FS,after:=args}=So (.bool (To==To))from w_eq_bool (w_res rfl) w_lit) rfl
def Jir{l:OpenLaw}{n:Nat}{q:Ba}{loose:Ac}{B:(Str->Option Value)->Heap->Prop}{I:World->Heap->Prop}{d:DefRec}
  (hn:l.most=So n) (x:d.params.defaults=[])
  (U:∀(w:AQ)(e b:Al)(mg mb:Bk)(j:Addr)(o:Obj)(pm u g:An)(a:Addr)(vs:AE)(ns:AU),
   Ground q loose [] B w e mg mb b.heap->I w b.heap->
   b.heap.get? j=So o->YL=.func (docDef d.name aA Yj d.scope pm u g)->b.heap.CodeRec u d.name->mg d.name=So (.ref j)->
   b.heap.get? a=So {cls:=.type "list",data:=.seq Cs}->IntsAre vs ns->AK<=n->b.gens=#[]->
   codeAny (model aQ w) callerA (.call (.ref j) R9) (λr v=>r=.ok (.ret FS)/\OldK b.heap v.heap/\v.os=b.os/\AllBare v.gens) b):
  WalkO q loose B I cG d [] (λf vs=>PySem.call f vs):=by intro w e b mg mb G P j o pm u g J kV ho W A F z hg E H as i C M y X;obtain rfl:J=.none:=Dflts.none F x;obtain rfl:kV=.none:=Dflts.noKw F;obtain⟨a,vs,ns,rfl,rfl,m,h,s⟩:=JoO hn i y;refine enter_call (mG (U w e b mg mb j o pm u g a vs ns G P ho (fd_plain W) A z m h s hg) λr v Z=>?_);obtain⟨rfl,O,Y,L⟩:=Z;exact⟨.inl ⟨.bool To,.bool To,[],rfl,λ_=>rfl,.bool To,JlT l _,λ_=>⟨Qb5,λ_ N=>(nomatch N)⟩⟩,O,Y,L⟩
end Att
namespace L2
open PySem PySem.Spec PyProof.Rows
variable{H W:Hp}{X:Cx}{a:Addr}{w:AQ}{u:An}{s:Al}{P:Ba}{y:V}{Y:A8}{Z:St}{kvs:Xx}{A:Bv}{E:Ay}{K:Aj}{o:cJ}{x:Str}{xs:Xu}{pos:Pos}
theorem JhQ:∀{vs:AE}{ns:AU},IntsAre vs ns->Vals Rp vs
 |_,_,.nil=>.nil
 |_,_,.cons n t h=>.cons GY (JhQ h)
def Only(H:Hp):Prop:=∀b,H b=No\/∃o xs,H b=So (.frz o AA)
def JqI{mg mb:Bk}{CX:CXT}{k:Nat}{fa:Addr}{fd:BG}{sp:Sp}{f:Al}{vs:AE}{ns:AU}
  (KX:K.In f.heap) (O:f.heap.Ns mainGlobals mg) (i:f.heap.Ns builtinsNs mb) (hbb:∀x:Str,x≠"__name__"->mb x=bootBuiltins x) (hlim:f.heap.NoLimit) (hg:f.gens=#[])
  (ha:f.heap.get? a=So {cls:=.type "list",data:=.seq Cs}) (hi:IntsAre vs ns) (hl:AK<=sizeLine) (hr:Room k callerA)
  (F:∀j:Heap,K.In j->j.Ns mainGlobals mg->FnOk P w K mg j CX k fa fd [x] sp) (hbind:∀(s:Al)(u:An),BindsTo s fd ⟨[u],[]⟩ [(x,u)])
  (hsp:∀H:Hp,Only H->SqL K H a (ns.map V.int)->sp Cr H (λv _=>v=.bl To) λ_ _ _=>False)
  (hCX:∀H e l,CX [] H f Sj e l->False):
  codeAny Bp callerA P5 (λr l=>r=.ok (.ret FS)/\OldK f.heap l.heap/\l.os=f.os/\AllBare l.gens) f:=by
 have rv:=JhQ hi;have M:=hi.length;have C:∀H:Hp,Only H->SqL K H a (ns.map V.int)->HOk P w H f.heap->(∀b,H b≠No->b=a)->(H a≠No->K.lookup a=No)->
   codeAny Bp callerA P5 (λr l=>r=.ok (.ret FS)/\OldK f.heap l.heap/\l.os=f.os/\AllBare l.gens) f:=by
  intro H hO hS L hA hK;have g:∀{b:Addr}{o:Obj},f.heap.get? b=So o->H b=No->'ȱ'.get? b=So o:=λe n=>JpF e n;have noA:∀{b:Addr}{o:Obj}{es:GT}{G:Nat},f.heap.get? b=So o->YL=.dict es G->H b=No:=fun{b o es G}e d=>by
   cases q:H b with
   |none=>rfl
   |some u=>have e':b=a:=hA b (by rw[q];simp);subst e';rw[ha]at e;cases e;have d':Data.seq Cs _=Data.dict es G:=d;cases d'
  have B:∀{b:Addr}{m:Bk},f.heap.Ns b m->'ȱ'.Ns b m:=fun{b m}⟨o,es,G,e,d,r⟩=>⟨o,es,G,g e (noA e d),d,r⟩;have I:K.In 'ȱ':=λb o e=>g (KX b o e) (by
   cases q:H b with
   |none=>rfl
   |some u=>
    have e':b=a:=hA b (by rw[q];simp);subst e';rw[hK (by rw[q];simp)]at e;cases e)
  have hM:Mod K mg 'ȱ':=⟨I,B O,⟨mb,B i,hbb⟩,let⟨mc,h1,h2⟩:=hlim;⟨mc,B h1,h2⟩⟩;have e0:Env0 P w K mg 'ȱ' callerA [] f H:=⟨rfl,hM,λb o e=>Juv e,Nat.le_of_eq (JlU _ _),trivial,λb i=>absurd (show b∈([]:List Addr)from i) Ad,L,.of_eq hg⟩;refine mG ((F _ I (B O)).run callerA [] f H R9 Cr Cr _ _ hr e0 (hbind f Ar) RU (hsp H hO hS)) λr l h=>?_;cases r with
  |error e=>exact(hCX H e l h).elim
  |ok fl=>
   cases fl with
   |next=>exact False.elim h
   |brk=>exact False.elim h
   |cont=>exact False.elim h
   |ret u=>
    obtain⟨v,W,os,N,un,J,r',q⟩:=h;have q':v=.bl To:=q;subst q';obtain rfl:u=Value.bool To:=r';refine⟨rfl,OldK.of_keep λb o e=>?_,os,N⟩;cases q:H b with
    |none=>exact un.keep b o e q (by intro z;exact absurd (show b∈([]:List Addr)from z) Ad) Ad
    |some u=>
     rcases hO b with z|⟨ob,xs,z⟩
     ·rw[q]at z;cases z
     ·have z2:=un.frzs b ob _ z;obtain⟨e1,_⟩:=L b _ z;obtain⟨e2,_⟩:=J b _ z2;rw[e]at e1;cases e1;exact e2
 cases hk:K.lookup a with
 |some o=>have e:=KX a o hk;rw[ha]at e;cases e;refine C Qdb (λ_=>.inl rfl) (.inr ⟨_,Cs,_,hk,rfl,rfl,rfl,by rw[Zo,M];exact hl,by simpa using rv⟩) (λb u z=>by have U:(No:Option HO)=So u:=z;cases U) (λb z=>absurd rfl z) λz=>absurd rfl z
 |none=>
  refine C (λb=>if b=a then So (.frz {cls:=.type "list",data:=.seq Cs} (.lst Rp))else No) (λb=>?_) (.inl (.inr ⟨{cls:=.type "list",data:=.seq Cs},if_pos rfl⟩)) (λb u z=>?_) (λb z=>?_) λ_=>hk
  ·by_cases i:b=a
   ·exact .inr ⟨_,_,if_pos i⟩
   ·exact .inl (if_neg i)
  ·by_cases i:b=a
   ·have U:=(if_pos i).symm.trans z;cases U;subst i;exact⟨ha,by rw[Zi];exact hl,vs,_,rv,ha⟩
   ·have U:=(if_neg i).symm.trans z;cases U
  ·by_cases i:b=a
   ·exact i
   ·exact absurd (if_neg i) z
def Juk{l:Qd1}{n k:Nat}{q:Ba}{loose:Ac}{XP:(Str->Option Value)->Heap->Prop}{YP:World->Heap->Prop}{d:DefRec}{K:Params->PySem.W.Frag}{CX:World->CXT}{sp:World->Sp}
  (hn:l.most=So n) (M:n<=sizeLine) (B:d.params.defaults=[]) (hr:Room k callerA)
  (hY:∀(w:AQ)(h:Heap),YP w h->'ʫ'.In h)
  (F:∀(w:AQ)(mg:Bk)(r:Addr)(h:Heap),'ʫ'.In h->h.Ns mainGlobals mg->mg d.name=So (.ref r)->
   ∃I:FuncData,(∀(s:Al)(u:An),BindsTo s I ⟨[u],[]⟩ [(x,u)])/\
    ∀b:Heap,'ʫ'.In b->b.Ns mainGlobals mg->FnOk aQ w 'ʫ' mg b (CX w) k r I [x] (sp w))
  (C:∀(w:AQ)(H:Hp)(a:Addr)(ns:AU),AK<=n->Only H->SqL 'ʫ' H a (ns.map V.int)->sp w Cr H (λv _=>v=.bl To) λ_ _ _=>False)
  (z:∀(w:AQ)(H:Hp)(s:Al)(e:An)(L:Al),CX w [] H s Sj e L->False):
  PySem.W.WalkO q loose XP YP cG d [] (λf N=>PySem.call f N):=by refine Att.Jir hn B λw U j mg mb r o pm cd doc a N ns G Y9 ho hd hcd J m i g hg=>?_;have O:=hY w _ Y9;obtain⟨I,hb,hF⟩:=F w mg r _ O G.T.g J;exact JqI O G.T.g G.T.b G.T.builtins G.T.nolimit hg m i (Zq g M) hr hF hb (λH hO hS=>C w H a ns g hO hS) λH e L=>z w H j e L
noncomputable def lE (s:Stmt) (j:Nat):Stmt:=match s with
 |.ClassDef _ _ _ b _ _ _ _ _ _ _=>b.getD j Py
 |_=>.Pass ⟨0,0,0,0⟩
noncomputable def vE (s:Stmt):Arguments:=match s with
 |.FunctionDef _ a _ _ _ _ _ _ _ _=>a
 |_=>{posonlyargs:=[],args:=[],vararg:=No,kwonlyargs:=[],kw_defaults:=[],kwarg:=No,defaults:=[]}
noncomputable def Jo (s:Stmt):List Stmt:=match s with
 |.FunctionDef _ _ b _ _ _ _ _ _ _=>b
 |_=>[]
noncomputable def Ja (s:Stmt):Scope:=match s with
 |.FunctionDef _ _ _ _ _ _ b _ _ _=>b
 |_=>{kind:=.function,names:=[],isGenerator:=Fo,isCoroutine:=Fo}
inductive Fune(K:Aj)(x qual:Str)(st:Stmt)(f:Addr)(fd:BG):Prop where
 |mk (oc:Value) (od:Option Addr) (kV doc pm:Value) (an:Option Addr) (cdv ct:Value) (osl:Array (Option Value)) (h:fd=PySem.W.fnOf x qual (vE st) (Jo st) (Ja st) .none kV doc pm an cdv ct/\K.lookup f=So ⟨oc,od,.func fd,osl⟩/\PySem.W.codeIn K cdv qual=To):Fune K x qual st f fd
structure Fun(K:Aj)(x qual:Str)(st:Stmt)(f:Addr)(fd:BG):Prop where
 ex:Fune K x qual st f fd
 kp:PySem.W.keepIn K Br=To
section
variable{mg:Bk}{base:Heap}
def Fun.binds{qual:Str}{st:Stmt}{f:Addr}{fd:BG}{ps:Ac}(F:E0)
  (h:∀(kV doc pm:An)(an:Dw)(cdv ct:An)(us:AE),Qdv=Ao->bindArgs SD LO=pure L0):Binds K fd ps []:=by obtain⟨g,i,kV,doc,pm,an,cdv,ct,e,rfl,j,b⟩:=F.ex;exact .all (h kV doc pm an cdv ct)
def Jrq{qual:Str}{st:Stmt}{f:Addr}{e:An}{g an:Dw}{b:Ed}{kV doc pm cdv ct:An}(l:K.lookup f=So ⟨e,g,.func SD,b⟩)
  (c:PySem.W.codeIn K cdv qual=To) (k:PySem.W.keepIn K Br=To):Fun K x qual st f SD:=⟨⟨e,g,kV,doc,pm,an,cdv,ct,b,rfl,l,c⟩,k⟩
end
def iteF{A B:Prop}(h:B):if Fo=To then A else B:=by rw[if_neg ZH];exact h
def iteT{A B:Prop}(h:A):if To=To then A else B:=by rw[if_pos rfl];exact h
def Same(H W:Hp):Prop:=∀b o,H b=So o->W b=So o
def Same.refl(H:Hp):Same H H:=λ_ _ h=>h
def Same.trans{f e:Hp}(a:Same H f)(b:Same f e):Same H e:=λc o h=>b c o (a c o h)
def Same.free(e:B9){l:Addr}(h:W l=Option.none):H l=Option.none:=by
 cases q:H l with
 |none=>rfl
 |some o=>rw[e l o q]at h;cases h
def Same.seq{xs:Av}(e:B9)(h:cB):SqL K W a xs:=by
 rcases h with(h|⟨o,h⟩)|h
 ·exact .inl (.inl (e _ _ h))
 ·exact .inl (.inr ⟨o,e _ _ h⟩)
 ·exact .inr h
section
variable{κ:Type}[DecidableEq κ]
noncomputable def valV (kvs:Bt) (k:κ):Option V:=(kvs.find? λb=>decide (b.1=k)).map (·.2)
noncomputable def putK (kvs:Bt) (k:κ) (v:V):List (κ×V):=
 if(kvs.any λb=>decide (b.1=k))=To then kvs.map (λb=>if b.1=k then(b.1,v)else b)else kvs++[(k,v)]
noncomputable def yI (kvs:Bt) (k:κ):List (κ×V):=kvs.filter λb=>decide (b.1≠k)
def pU{p:κ×V}{r:Bt}{k:κ}(e:p.1=k):valV (p::r) k=So p.2:=by simp[valV,jI,e]
def sT{p:κ×V}{r:Bt}{k:κ}(e:¬p.1=k):valV (p::r) k=valV r k:=by simp[valV,jI,e]
theorem yT(k:κ):∀kvs:List (κ×V),(kvs.any λb=>decide (b.1=k))='互'.isSome
 |[]=>rfl
 |p::r=>by
  rw[rD]
  by_cases e:p.1=k
  ·simp only[pU e,Zx e,Bool.true_or,nP]
  ·rw[sT e,Zs e,iF];exact yT k r
theorem Jec(kvs:Bt)(k:κ)(v:V):'Ǉ'.length<=AV+1:=by
 unfold putK;split
 ·rw[Zi];lia
 ·rw[Zn,Zk,uD];lia
def RelO.isSome_eq{u:L6}(r:RelO o u):o.isSome=u.isSome:=by
 cases o with
 |none=>cases u with
  |none=>rfl
  |some _=>exact(show False from r).elim
 |some _=>cases u with
  |none=>exact(show False from r).elim
  |some _=>rfl
def RelO.getD{u:L6}{d:V}{d':An}(r:RelO o u)(b:RelV d d'):RelV (o.getD d) (u.getD d'):=by
 cases o with
 |none=>cases u with
  |none=>exact b
  |some _=>exact(show False from r).elim
 |some _=>cases u with
  |none=>exact(show False from r).elim
  |some _=>exact r
def KV.val{kvs:Bt}{vs:Cm}(r:EJ)(k:κ):RelO '互' (valueAt vs k):=by
 unfold KV at r;induction r with
 |nil=>exact ZT
 |@cons p q m g h t j=>
  obtain⟨i,l⟩:=h;by_cases e:p.1=k
  ·have f:q.1=k:=i.symm.trans e;have b:valueAt (q::g) k=So q.2:=by simp[valueAt,jI,f]
   rw[pU e,b];exact l
  ·have f:¬q.1=k:=λz=>e (i.trans z);have b:valueAt (q::g) k=valueAt g k:=by simp[valueAt,jI,f]
   rw[sT e,b];exact j
def KV.any{kvs:Bt}{vs:Cm}(r:EJ)(k:κ):(kvs.any λb=>decide (b.1=k))=vs.any λb=>decide (b.1=k):=by
 unfold KV at r;induction r with
 |nil=>rfl
 |cons h t e=>rw[rD,rD,e,h.1]
def KV.repl{kvs:Bt}{vs:Cm}(r:EJ)(k:κ)(i:CJ):
  KV (kvs.map λb=>if b.1=k then(b.1,y)else b) (vs.map λb=>if b.1=k then(b.1,u)else b):=by
 unfold KV at r⊢;induction r with
 |nil=>exact .nil
 |@cons p q l m h t g=>
  rw[Zg,Zg];refine .cons ?_ g;obtain⟨f,j⟩:=h;by_cases e:p.1=k
  ·rw[if_pos e,if_pos (f.symm.trans e)];exact⟨f,i⟩
  ·rw[if_neg e,if_neg (λz=>e (f.trans z))];exact⟨f,j⟩
def KV.put{kvs:Bt}{vs:Cm}(r:EJ)(k:κ)(b:CJ):KV Qcb (stored vs k u):=by
 unfold putK stored;rw[r.any k];by_cases e:(vs.any λf=>decide (f.1=k))=To
 ·rw[if_pos e,if_pos e];exact r.repl k b
 ·rw[if_neg e,if_neg e];exact Paired.snoc r ⟨rfl,b⟩
def KV.drop{kvs:Bt}{vs:Cm}(r:EJ)(k:κ):KV (yI kvs k) (without vs k):=by
 unfold KV at r⊢;unfold yI without;induction r with
 |nil=>exact .nil
 |@cons p q l m h t g=>
  obtain⟨f,j⟩:=h;rw[nF,nF];by_cases e:p.1=k
  ·have a:¬decide (p.1≠k)=To:=by simp[e]
   have b:¬decide (q.1≠k)=To:=by simp[f.symm.trans e]
   rw[if_neg a,if_neg b];exact g
  ·have i:¬q.1=k:=λz=>e (f.trans z);have a:decide (p.1≠k)=To:=by simp[e]
   have b:decide (q.1≠k)=To:=by simp[i]
   rw[if_pos a,if_pos b];exact .cons ⟨f,j⟩ g
def KV.keys{kvs:Bt}{vs:Cm}(r:EJ):kvs.map (·.1)=vs.map (·.1):=by
 unfold KV at r;induction r with
 |nil=>rfl
 |cons h t b=>rw[Zg,Zg,b,h.1]
def KV.length{kvs:Bt}{vs:Cm}(r:EJ):AV=AJ:=uH r
def Jrg(kvs:Bt)(k:κ):(yI kvs k).length<=AV:=vM _ _
end
def xG{k:Key}(r:RelV (kV k) u):'Ѯ'.is k u=To:=by
 cases k with
 |inl i=>obtain⟨t,e⟩:=(show∃t,u=Value.int i t from r);subst e;exact Jil P w i t
 |inr x=>obtain⟨t,e⟩:=(show∃t,u=Value.str x t from r);subst e;exact Jei P w x t
 |non=>cases(show u=XH from r);rfl
mutual
theorem JvD{P:Ba}{w:AQ}{H:Hp}{h:Heap}(ok:BE):∀(k:KTr Key){v:V}{u:An},KH H k v->RelV v u->KAt V5 h k u
 |.a k,v,u,x,r=>by cases(show v=kV k from x);exact xG r
 |.t ks,v,u,⟨a,xs,e,h1,h2⟩,r=>by
  subst e
  cases(show u=Value.ref a from r)
  obtain⟨_,f,i,o,b,j,n,g⟩:=(show ObjOk P w H h a Bb from ok a _ h1)
  exact⟨a,o,_,n,rfl,b,j,g,by simpa using Jsp ok ks h2 i⟩
theorem Jsp{P:Ba}{w:AQ}{H:Hp}{h:Heap}(ok:BE):∀(ks:Hj){xs:Av}{us:AE},KHs H ks xs->Vals xs us->KAts V5 h ks us
 |[],_,_,x,r=>by cases x;cases r;rfl
 |k::ks,_,_,⟨v,q,e,h1,h2⟩,r=>by
  subst e
  cases r with
  |cons b f=>exact⟨_,_,rfl,JvD ok k h1 b,Jsp ok ks h2 f⟩
end
noncomputable abbrev KT (H:Hp):List (List DI×V)->List (List DI×Addr×Value)->Prop:=Paired λp q=>p.1=q.1/\KB H p.1 q.2.1/\RelV p.2 q.2.2
def KT.val(r:LQ)(k:Qcw):RelO '互' ('Ӄ'.map (·.2)):=by
 induction r with
 |nil=>exact ZT
 |@cons p q m g h t j=>
  obtain⟨i,_,l⟩:=h;by_cases e:p.1=k
  ·have f:q.1=k:=i.symm.trans e;have b:atKey (q::g) k=So q.2:=by simp[atKey,jI,f]
   rw[pU e,b];exact l
  ·have f:¬q.1=k:=λz=>e (i.trans z);have b:atKey (q::g) k=atKey g k:=by simp[atKey,jI,f]
   rw[sT e,b];exact j
def KT.repl(r:LQ)(k:Qcw)(j:CJ):
  KT H (kvs.map λf=>if f.1=k then(f.1,y)else f) (xs.map (putAt k u)):=by
 induction r with
 |nil=>exact .nil
 |@cons p q m v h t i=>
  rw[Zg,Zg];refine .cons ?_ i;obtain⟨b,g,l⟩:=h;unfold putAt;by_cases e:p.1=k
  ·rw[if_pos e,if_pos (b.symm.trans e)];exact⟨b,g,j⟩
  ·rw[if_neg e,if_neg (λz=>e (b.trans z))];exact⟨b,g,l⟩
def KT.put(r:LQ)(k:Qcw){b:Addr}(g:KB H k b)(f:CJ):
  KT H Qcb (storedH xs k b u):=by
 have e:(kvs.any λh=>decide (h.1=k))='Ӄ'.isSome:=by rw[yT,(r.val k).isSome_eq,Option.isSome_map]
 unfold putK storedH;rw[e];by_cases q:'Ӄ'.isSome=To
 ·rw[if_pos q,if_pos q];exact r.repl k f
 ·rw[if_neg q,if_neg q];exact Paired.snoc r ⟨rfl,g,f⟩
def KT.keeps(r:LQ)(f:∀b e,H b=So (.tup e)->W b=So (.tup e)):KT W kvs xs:=
 Paired.mapP r λ_ _ z=>⟨z.1,z.2.1.keep f,z.2.2⟩
section
variable{h:Heap}
def JvZ{u:HO}(ok:BE)(e:Rd H a u):ObjOk P w H h a u:=e.ok ok
def xF{kvs:List (Key×V)}(ok:BE)(e:Rd H a AN):AV<=sizeLine/\ED=Fo/\∃b,KV kvs b/\h.DictOf V5 a b:=
 show ObjOk P w H h a AN from JvZ ok e
def qX{kvs:List (Key×V)}(ok:BE)(e:H a=So AN):AV<=sizeLine/\ED=Fo/\∃b,KV kvs b/\h.DictOf V5 a b:=xF ok QcY
def key_of{ks:Hj}(ok:BE)(e:KB H ks a):'У'.is h ks a:=⟨JvD ok _ e.1 rfl,e.2⟩
def gH(ok:BE)(e:Rd H a BA):AV<=sizeLine/\ED=Fo/\
  ∃xs,KT H kvs xs/\h.DictOfH 'У' a xs:=by
 obtain⟨z,y,xs,r,o,G,g,v,B,F,j,C⟩:=(show ObjOk P w H h a BA from JvZ ok e);refine⟨z,y,xs,r,o,G,g,v,B,F,j,λx b=>?_,C⟩;have all:∀{l:List (List (KTr Key)×V)}{m:List (List (KTr Key)×Addr×Value)},KT H l m->∀x∈m,'У'.is h x.1 x.2.1:=by
  intro l m q;induction q with
  |nil=>intro x b;exact nomatch b
  |@cons p q I J f t i=>
   intro x b;rcases Zf.mp b with e|b
   ·subst e;exact key_of ok (by rw[<-f.1];exact f.2.1)
   ·exact i x b
 exact all r x b
def Jwk(ok:BE)(e:H a=So BA):AV<=sizeLine/\ED=Fo/\
  ∃xs,KT H kvs xs/\h.DictOfH 'У' a xs:=gH ok QcY
end
theorem gK(b:Fy):'У'.room XU:=show A.units+1+50<cLine by lia
def NoH(K:Aj)(H:Hp):Prop:=∀b o,K.lookup b=So o->H b=No
def Inv.noH(I:AH):NoH X.K H:=λb o e=>(I.bs b o (I.mod.kin b o e)).2
def DGet(K:Aj)(H:Hp)(a:Addr)(y:V)(r:cJ):Prop:=
 (∃kvs k,Rd H a AN/\y=kV k/\r=valV kvs k)\/∃kvs k b,Rd H a BA/\y=.ref b/\(NoH K H->KB H k b)/\r=valV kvs k
def DPut(K:Aj)(H:Hp)(a:Addr)(y v:V)(W:Hp):Prop:=
 (∃kvs k,H a=So AN/\y=kV k/\kvs.length<sizeLine/\W=upd H a (.dK 'Ǉ'))\/
 ∃kvs k b,H a=So BA/\y=.ref b/\(NoH K H->KB H k b)/\kvs.length<sizeLine/\W=upd H a (.dT 'Ǉ')
def DPut.k{kvs:List (Key×V)}{k:Key}{v:V}(e:H a=So AN)(b:AV<sizeLine):DPut K H a (kV k) v (upd H a (.dK 'Ǉ')):=.inl ⟨kvs,k,e,rfl,b,rfl⟩
def DPut.t{b:Addr}{k:Hj}{v:V}(e:H a=So BA)(f:NoH K H->KB H k b)(g:AV<sizeLine):
  DPut K H a CK v (upd H a (.dT 'Ǉ')):=.inr ⟨kvs,k,b,e,rfl,f,g,rfl⟩
section
variable{v:V}{r:An}
def Inv.big(I:AH):sysModules<Aa:=by have h:mainGlobals<Aa:=(I.mod.glob.keeps I.bk).lt;exact Nat.lt_trans AB h
def JgB{Q:Ay}(O:Fy)(I:AH)(g:DGet X.K H a y BO)(G:CJ)(h:∀j F,Inv X Y Z H F->RelV v j->Q j F):
  wpAny AD A (getItem Ar u) Q E s:=by
 rcases g with⟨kvs,k,e,C,l⟩|⟨kvs,k,b,e,C,L,l⟩
 ·subst C;obtain⟨z,N,M,f,q⟩:=xF XQ e;obtain⟨j,m,i⟩:=RelO.some_of (v:=v) (o:=valueAt M k) (by rw[l];exact f.val k);exact wpAny_getItem_of (xG G) q.mapOf m (h j _ C9 i)
 ·subst C;cases(show u=Value.ref b from G);obtain⟨z,N,xs,f,q⟩:=gH XQ e;obtain⟨j,m,i⟩:=RelO.some_of (v:=v) (o:='Ӄ'.map (·.2)) (by rw[l];exact f.val k);obtain⟨p,J,B⟩:=Option.map_eq_some_iff.mp m;refine wpAny_getItem_heap (gK O) (key_of XQ (L I.noH)) q J ?_;rw[B];exact h j _ C9 i
def d_in{Q:Ay}(G:Fy)(I:AH)(g:Ld)(C:CJ)(h:∀B,Inv X Y Z H B->Q (.bool cR) B):
  wpAny AD A (compareOp .In u Ar) Q E s:=by
 rcases g with⟨kvs,k,e,m,l⟩|⟨kvs,k,b,e,m,F,l⟩
 ·subst m;obtain⟨z,j,J,f,i⟩:=xF XQ e;refine wpAny_in_of (xG C) j i.mapOf ?_;rw[<-(f.val k).isSome_eq,<-l];exact h _ C9
 ·subst m;cases(show u=Value.ref b from C);obtain⟨z,j,xs,f,i⟩:=gH XQ e;refine wpAny_in_heap (gK G) QB j i ?_;have q:=(f.val k).isSome_eq;rw[Option.isSome_map]at q;rw[<-q,<-l];exact h _ C9
def Jvd{Q:Ay}(G:Fy)(I:AH)(g:Ld)(C:CJ)(h:∀B,Inv X Y Z H B->Q (.bool (!o.isSome)) B):
  wpAny AD A (compareOp .NotIn u Ar) Q E s:=by
 rcases g with⟨kvs,k,e,m,l⟩|⟨kvs,k,b,e,m,F,l⟩
 ·subst m;obtain⟨z,j,J,f,i⟩:=xF XQ e;refine wpAny_notIn_of (xG C) j i.mapOf ?_;rw[<-(f.val k).isSome_eq,<-l];exact h _ C9
 ·subst m;cases(show u=Value.ref b from C);obtain⟨z,j,xs,f,i⟩:=gH XQ e;refine wpAny_notIn_heap (gK G) QB j i ?_;have q:=(f.val k).isSome_eq;rw[Option.isSome_map]at q;rw[<-q,<-l];exact h _ C9
def mT{h':Heap}{t':Nat}{ob:HO}(I:AH)(f:Mut (H a))(hs:Heap.SameBut a VU h')(g:∃q,h'.get? a=So q)(new:ObjOk XJ X.w (upd H a ob) h' a ob):
  Inv X Y Z (upd H a ob) {s with heap:=h',toks:=t'}:=
 I.write (x:=a) (e:=a) f Be (λb q h z=>(hs.2 b h).trans z) g new
def JrU{h':Heap}{kvs:List (Key×V)}{vs:List (Key×Value)}(z:AV<=sizeLine)(e:ED=Fo)(b:EJ)(dd:h'.DictOf V5 a vs):
  ObjOk P w W h' a AN:=⟨z,e,vs,b,dd⟩
theorem Jhr{Q:Dm}(hu:Fy)(I:AH)(g:DPut X.K H a y v W)(M:CJ)(U:RelV v r)(h:∀s',Inv X Y Z W s'->Q () s'):
  wpAny AD A (setItem Ar u r) Q E s:=by
 rcases g with⟨kvs,k,e,F,l,B⟩|⟨kvs,k,b,e,F,O,l,B⟩
 ·subst F B;obtain⟨z,L,vs,f,J⟩:=qX XQ e;have C:AJ<=sizeLine:=by rw[<-f.length];exact z
  have G:'Ǉ'.length<=sizeLine:=by have:=Jec kvs k v;lia
  refine wpAny_setItem_pairs (hsz:=C) (xG M) J λN i m=>h _ ?_;have he:∃q,N.get? a=So q:=let⟨q,_,_,j,_⟩:=i;⟨q,j⟩;exact mT I (by rw[e];exact ZT) m he (JrU G L (f.put k U) i)
 ·subst F B;cases(show u=Value.ref b from M);obtain⟨z,L,xs,f,J⟩:=Jwk XQ e;have C:Ah<=sizeLine:=by rw[<-uH f];exact z
  have G:'Ǉ'.length<=sizeLine:=by have:=Jec kvs k v;lia
  refine wpAny_setItem_heap (hsz:=C) (gK hu) (key_of XQ (O I.noH)) J λN i m=>h _ ?_;obtain⟨q,es,ep,j,h2,h3,h4,_,h5⟩:=i;refine mT I (by rw[e];exact ZT) m ⟨q,j⟩ ⟨G,L,_,(f.put k (O I.noH) U).keeps λc ys ec=>?_,q,es,ep,j,h2,h3,h4,h5⟩;rw[Jc (uW ec e (λz=>nomatch z))];exact ec
end
section
variable{kvs:List (Key×V)}{k:Key}
def d_pop{v:V}{b:AE}{Q:Ay}(I:AH)(e:H a=So AN)(m:RelV (kV k) u)(l:valV kvs k=So v)(B:b=[]\/∃x,b=[x])
  (h:∀g F,Inv X Y Z (upd H a Lj) F->RelV v g->Q g F):wpAny AD A (call (.builtin "dict.pop") (.ref a::u::b)) Q E s:=by
 obtain⟨z,hd,G,f,C⟩:=qX XQ e;obtain⟨g,L,r⟩:=RelO.some_of (v:=v) (o:=valueAt G k) (by rw[<-l];exact f.val k);have M:(keyPart u).isSome=To:=by
  cases k with
  |inl i=>obtain⟨t,q⟩:=(show∃t,u=Value.int i t from m);subst q;rfl
  |inr x=>obtain⟨t,q⟩:=(show∃t,u=Value.str x t from m);subst q;rfl
  |non=>cases(show u=XH from m);rfl
 have J:argsOk "dict.pop" ⟨.ref a::u::b,[]⟩:=by
  rcases B with q|⟨x,q⟩
  ·subst q;exact PySem.F.args_dict_pop_2 _ _
  ·subst q;exact PySem.F.args_dict_pop_3 _ _ _
 refine jM eL C.typeIs PySem.F.entry_dict_pop J (meets_dict_pop_there Lc a (xG m) b B M)
  ⟨G,g,C,by rw[<-f.length];exact z,L,λO j U=>h g _ ?_ r⟩
 have N:∃q,O.get? a=So q:=let⟨q,_,_,hq,_⟩:=j;⟨q,hq⟩;exact mT I (by rw[e];exact ZT) U N (JrU (Zq (Jrg kvs k) z) hd (f.drop k) j)
end
def NoSl(i:Expr):Prop:=∀b e,subscripted i Fo b e=operate [b,e] (getItem b e)
def Jty{prog:Ba}{O:Env}{e b:Expr}{T id:Bg}{Q:Ay}
  (B:typeLookup EK "__getitem__"=pure (So DC)) (hs:NoSl b)
  (h:wpAny As A c5 (λo j=>wpAny As A (eval b O) (λi f=>f.TypeIs o T/\wpAny As A QdF Q E f) E j) E s):
  wpAny As A (eval (.Subscript e b pos) O) Q E s:=by
 refine Subscript_ (ZY h (λo j q=>ZY q (λi f g=>?_) λ_ _ x=>x) λ_ _ x=>x);obtain⟨z,g⟩:=g;unfold subscriptTail;refine Za ?_;rw[getitemInPython_of_ne z.not_modules];refine Za (qJ z B ?_);have m:wpAny As A (subscripted b Fo o i) (λr l=>wpAny As A (letTemporaryGo e o r>>=λ_=>pure r) Q E l) E f:=by rw[hs o i];exact wpAny_operating (ZY g (λr l v=>Za (wpAny_letTemporaryGo (Zb v))) λ_ _ x=>x)
 first
  |exact Zb (Za m)
  |exact Za (Zb (Za m))
  |exact Za m
def Jip(I:AH)(g:Ld):s.TypeIs Ar "dict":=by
 rcases g with⟨kvs,k,e,_,_⟩|⟨kvs,k,b,e,_,_,_⟩
 ·obtain⟨_,_,h,_,f⟩:=xF XQ e;exact f.typeIs
 ·obtain⟨_,_,xs,_,f⟩:=gH XQ e;exact f.typeIs
def tDGet(K:Aj)(e ty:TE):TE:=λZ H Q=>e Z H λx f=>ty Z f λy b=>∃a v,x=.ref a/\DGet K b a y BO/\Q v b
def tDIn(K:Aj)(ty e:TE):TE:=λZ H Q=>ty Z H λy f=>e Z f λx b=>∃a o,x=.ref a/\DGet K b a y o/\Q (.bl cR) b
def Jvt(K:Aj)(ty e:TE):TE:=λZ H Q=>ty Z H λy f=>e Z f λx b=>∃a o,x=.ref a/\DGet K b a y o/\Q (.bl (!o.isSome)) b
def sDPut(K:Aj)(f ty i:TE):TS:=λD Z H=>i Z H λv g=>f Z g λx e=>ty Z e λy h=>∃a b,x=.ref a/\DPut K h a y v b/\D.nx Z b
def sDAug(K:Aj)(f ty i:TE)(g:V->V->Hp->VK->Prop):TS:=λD Z H=>f Z H λx h=>ty Z h λy b=>∃a v,x=.ref a/\DGet K b a y BO/\
 i Z b λj m=>g v j m λz l=>∃e,DPut K l a y z e/\D.nx Z e
section
variable{o i e value:Expr}{pos' tpos:Pos}{td ty tv:TE}
def Jvq(F:FG)(ho:EI)(hi:IW)(hs:NoSl i):PE X (.Subscript o i pos) (tDGet X.K td ty):=by intro Y s Z H Q I h;refine Jty PySem.F.slot_dict_getitem.lookup hs (thn FH λu q⟨x,m,G,z,l⟩=>thn (hi Y q Z m _ G l) λO M f=>?_);obtain⟨y,C,j,r,a,v,ex,g,J⟩:=f;subst ex;obtain rfl:u=Value.ref a:=z;exact⟨Jip j g,JgB F j g r λL N B b=>⟨v,C,B,b,J⟩⟩
def Jsl(C:FG)(hi:IW)(F:EI):PC X .In i o (tDIn X.K ty td):=by intro Y s Z H Q I h;refine thn Oj λN m⟨y,l,G,r,j⟩=>thn Qad λu L b=>?_;obtain⟨x,B,q,v,a,f,ex,g,J⟩:=b;subst ex;obtain rfl:u=Value.ref a:=v;exact d_in C q g r λM z=>⟨.bl f.isSome,B,z,rfl,J⟩
def JoB(C:FG)(hi:IW)(F:EI):PC X .NotIn i o (Jvt X.K ty td):=by intro Y s Z H Q I h;refine thn Oj λN m⟨y,l,G,r,j⟩=>thn Qad λu L b=>?_;obtain⟨x,B,q,v,a,f,ex,g,J⟩:=b;subst ex;obtain rfl:u=Value.ref a:=v;exact Jvd C q g r λM z=>⟨.bl (!f.isSome),B,z,rfl,J⟩
def JiC(B:FG)(U:EI)(hi:IW)(l:Ib)(hs:swapsWith value (So (.Subscript o i pos')) XT Ue=pure Fo):
  PS X (.Assign [.Subscript o i pos'] value pos) (sDPut X.K td ty tv):=by intro Y s Z H D I h;refine wpAny_Assign_Subscript (thn (l Y s Z H _ I h) λr G⟨v,f,C,F,b⟩=>thn (U Y G Z f _ C b) λu j⟨x,q,J,L,q2⟩=>thn (hi Y j Z q _ J q2) λiv s3⟨y,H3,M,m,a,z,ex,g,N⟩=>?_) hs;subst ex;obtain rfl:u=Value.ref a:=L;exact Jhr B M g m F λs4 O=>⟨Z,z,O,N⟩
def Jup{op:cI}{F:V->V->Hp->VK->Prop}(C:FG)(ho:EI)(hi:IW)(O:Ib)(m:InOp X op F)
  (J:∀j f b,augStore i j f b=(do holding [b,j,f] (setItem j f b);release [b,j,f] [];pure .next)):PS X (.AugAssign (.Subscript o i tpos) op value pos) (sDAug X.K td ty tv F):=by intro Y s Z H D I h;refine wpAny_AugAssign_SubscriptAny (thn FH λu s1⟨x,M,I1,rx,L⟩=>thn (hi Y s1 Z M _ I1 L) λf s2⟨y,H2,I2,B,a,v,ex,g,q2⟩=>?_) J;subst ex;obtain rfl:u=Value.ref a:=rx;refine JgB C I2 g B λw' N I3 q=>thn (O Y N Z H2 _ I3 q2) λw2 s4⟨U,H3,I4,r,q3⟩=>thn (m Y s4 Z H3 v U w' w2 _ I4 q r q3) λw3 s5 l=>?_;obtain⟨z,H4,I5,rz,H5,g5,q4⟩:=l;exact Jhr C I5 g5 B rz λs6 G=>⟨Z,H5,G,q4⟩
end
def JpP(h:Heap)(b:sysModules<Bz):ObjOk P w H (h.push {cls:=.type "dict",data:=.dict #[]}) Bz bE:=
 ⟨vB _,ZA.mpr QaY,[],.nil,Heap.DictOf.new h⟩
def Jkr(h:Heap)(b:sysModules<Bz):ObjOk P w H (h.push {cls:=.type "dict",data:=.dict #[]}) Bz bF:=
 ⟨vB _,ZA.mpr QaY,[],.nil,_,#[],0,Ze _ rfl,Hv,rfl,rfl,aP⟩
def tDNewK:TE:=λ_ H Q=>∀p,H p=No->Q EF (upd H p bE)
def tDNewT:TE:=λ_ H Q=>∀p,H p=No->Q EF (upd H p bF)
def Jfs:PE X R8 tDNewK:=λY s Z H Q I h=>
 wpAny_Dict_empty ⟨.ref Aa,_,I.laid (a:=Aa) (o:=.dK []) (t':=XF) Nd (Zh _) (JpP VU I.big),rfl,h _ E1⟩
def JqX:PE X R8 tDNewT:=λY s Z H Q I h=>
 wpAny_Dict_empty ⟨.ref Aa,_,I.laid (a:=Aa) (o:=.dT []) (t':=XF) Nd (Zh _) Oi,rfl,h _ E1⟩
structure M1(X:Cx)(o:Expr)(m:Str)(apos:Pos)(e:Expr)(cpos:Pos):Prop where
 base:attributeBase o m Ue MK=eval o Ue
 few:((backTo cpos O8).all (λx=>!x.1)&&(backToKw cpos LG).all (λx=>x.1.isSome)
  &&decide (([e]:List Expr).length+([]:List Keyword).length+(if([]:List Keyword).isEmpty then 0 else 1)<30))=To
 line:(Y4==aY)=To
 trees:backTo cpos O8=[Xq]
structure M2(X:Cx)(o:Expr)(m:Str)(apos:Pos)(e f:Expr)(cpos:Pos):Prop where
 base:attributeBase o m Ue MK=eval o Ue
 few:((backTo cpos P4).all (λx=>!x.1)&&(backToKw cpos LG).all (λx=>x.1.isSome)
  &&decide (([e,f]:List Expr).length+([]:List Keyword).length+(if([]:List Keyword).isEmpty then 0 else 1)<30))=To
 line:(Y4==aY)=To
 trees:backTo cpos P4=[Xq,(Fo,eval f Ue)]
def IsD(H:Hp)(a:Addr):Prop:=(∃kvs,Rd H a AN)\/∃kvs,Rd H a BA
def xX(I:AH)(d:IsD H a):
  s.TypeIs Ar "dict"/\(∀b,Value.ref a=.ref b->∃ob,s.heap.get? b=So ob/\ob.dict=No)/\ED=Fo:=by
 rcases d with⟨kvs,e⟩|⟨kvs,e⟩
 ·obtain⟨_,g,j,_,f⟩:=xF XQ e;refine QT;cases q;obtain⟨ob,_,_,h,i,_⟩:=f;exact⟨ob,h,i.2.1⟩
 ·obtain⟨_,g,xs,_,f⟩:=gH XQ e;refine QT;cases q;obtain⟨ob,_,_,h,i,_⟩:=f;exact⟨ob,h,i.2.1⟩
section
variable{d:V}{r:An}
def JwM{Q:Ay}(F:Fy)(I:AH)(g:Ld)(B:CJ)(h:∀q v,Inv X Y Z H v->RelV QdG q->Q q v):
  wpAny AD A (call Pw [.ref a,u]) Q E s:=by
 rcases g with⟨kvs,k,e,m,l⟩|⟨kvs,k,b,e,m,C,l⟩
 ·subst m;obtain⟨z,j,G,f,i⟩:=xF XQ e;refine jM uJ cS tP UP (meets_dict_get Lc a (xG B) j) Q5;rw[l];exact(f.val k).getD rfl
 ·subst m;cases(show u=Value.ref b from B);obtain⟨z,j,xs,f,i⟩:=gH XQ e;refine jM uJ cS tP UP (meetsH_dict_get RT a b j) ⟨gK F,k,xs,key_of XQ (C I.noH),i,h _ _ C9 ?_⟩;rw[l];exact(f.val k).getD rfl
def Jyp{Q:Ay}(G:Fy)(I:AH)(g:Ld)(C:CJ)(q:RelV d r)(h:∀v B,Inv X Y Z H B->RelV (o.getD d) v->Q v B):
  wpAny AD A (call Pw [.ref a,u,r]) Q E s:=by
 rcases g with⟨kvs,k,e,m,l⟩|⟨kvs,k,b,e,m,F,l⟩
 ·subst m;obtain⟨z,j,J,f,i⟩:=xF XQ e;refine jM uJ cS tP U2 (meets_dict_get_default Lc a (xG C) j r) Q5;rw[l];exact(f.val k).getD q
 ·subst m;cases(show u=Value.ref b from C);obtain⟨z,j,xs,f,i⟩:=gH XQ e;refine jM uJ cS tP U2 (meetsH_dict_get_default RT a b j r) ⟨gK G,k,xs,key_of XQ (F I.noH),i,h _ _ C9 ?_⟩;rw[l];exact(f.val k).getD q
end
def JwU(K:Aj)(f ty:TE):TE:=λZ H Q=>f Z H λx e=>∃a,x=.ref a/\IsD e a/\ty Z e λy b=>∃o,DGet K b a y o/\Q QdG b
def Jyx(K:Aj)(g ty h:TE):TE:=λZ H Q=>g Z H λx b=>∃a,x=.ref a/\IsD b a/\ty Z b λy f=>h Z f λz e=>∃o,DGet K e a y o/\Q (o.getD z) e
def Jwe(f ty:TE):TE:=λZ H Q=>f Z H λx e=>∃a,x=.ref a/\IsD e a/\ty Z e λy b=>∃kvs k v,b a=So AN/\y=kV k/\valV kvs k=So v/\Q v (upd b a Lj)
section
variable{o e f:Expr}{apos cpos:Pos}{td ty tx:TE}
def Jpj(B:FG)(ho:EI)(G:Qdi)(m:M1 X o "get" apos e cpos):PE X (.Call QM [e] [] cpos) (JwU X.K td ty):=by intro Y s Z H Q I h;refine fM m.base m.few m.line oM uJ eM (thn FH λu F b=>?_);obtain⟨x,q,j,L,a,ex,d,l⟩:=b;subst ex;obtain rfl:u=Value.ref a:=L;obtain⟨C,r,_⟩:=xX j d;refine⟨C,r,?_⟩;rw[m.trees];refine lI rfl (sM (gM (thn (G Y F Z q _ j l) λiv U⟨y,z,J,v,O,g,N⟩=>iQ ?_)));exact JwM B J g v λw' s3 M i=>⟨_,z,M,i,N⟩
def Jrc(J:FG)(ho:EI)(N:Qdi)(l:PE X f tx)(m:M2 X o "get" apos e f cpos):PE X (.Call QM [e,f] [] cpos) (Jyx X.K td ty tx):=by
 intro Y s Z H Q I h;refine fM m.base m.few m.line oM uJ eM (thn FH λu M b=>?_);obtain⟨x,r,j,U,a,ex,d,q⟩:=b;subst ex;obtain rfl:u=Value.ref a:=U;obtain⟨L,B,_⟩:=xX j d;refine⟨L,B,?_⟩;rw[m.trees];refine lI rfl (sM (gM (thn (N Y M Z r _ j q) λiv v⟨y,F,O,C,q2⟩=>
  gM (thn (l Y v Z F _ O q2) λfv s3⟨z,H3,I3,G,ov,g,q3⟩=>iQ ?_))))
 exact Jyp J I3 g C G λw' s4 I4 i=>⟨_,H3,I4,i,q3⟩
def Jpf(ho:EI)(J:Qdi)(m:M1 X o "pop" apos e cpos):PE X (.Call (.Attribute o "pop" apos) [e] [] cpos) (Jwe td ty):=by intro Y s Z H Q I h;refine fM m.base m.few m.line oM eL PySem.F.type_dict_pop (thn FH λu G b=>?_);obtain⟨x,r,i,M,a,ex,d,q⟩:=b;subst ex;obtain rfl:u=Value.ref a:=M;obtain⟨C,z,_⟩:=xX i d;refine⟨C,z,?_⟩;rw[m.trees];refine lI rfl (sM (gM (thn (J Y G Z r _ i q) λiv U⟨y,H2,L,B,kvs,k,v,j,F,l,O⟩=>iQ ?_)));subst F;exact d_pop L j B l Be λw' s3 N g=>⟨v,_,N,g,O⟩
end
end L2
namespace Pu
open PySem
variable{α β:Type}{E:DG}{nt:Nat}
inductive D where
 | non | bl (b:Bool) | int (i:Int) | str (x:Str) | tup (ds:List D) | lst (ds:List D)
 | dct (t z:Bool) (ks vs:List D) | exc (c:Str) | fn (x:Str) (i:Nat)
 | obj (a:Nat) (ns:List Str) (fs:List D)
 | mls (t:Str) (ds:List D) | adr (b:Nat)
 deriving Inhabited
inductive Rs(α:Type)where
 |ok (a:α)|ex (c:Str)|sk
variable{P:D->Prop}
noncomputable def Rs.bind :Rs α->(α->Rs β)->Rs β
 |.ok a,f=>f a
 |.ex c,_=>.ex c
 |.sk,_=>.sk
noncomputable def Rs.calm :Rs α->Rs α
 |.ok a=>.ok a
 |.ex _=>.sk
 |.sk=>.sk
@[simp]def Rs.calm_ok(a:α):(Rs.ok a).calm=.ok a:=rfl
def Rs.Good(r:Rs α)(P:α->Prop)(E:DG):Prop:=
 match r with
 |.ok a=>P a
 |.ex c=>E c
 |.sk=>False
@[simp]def Rs.bo(a:α)(f:α->Rs β):(Rs.ok a).bind f=f a:=rfl
@[simp]def Rs.bind_ex(c:Str)(f:α->Rs β):(Rs.ex c:Rs α).bind f=.ex c:=rfl
@[simp]def Rs.bind_stuck(f:α->Rs β):(Rs.sk:Rs α).bind f=.sk:=rfl
def Rs.bind_assoc{b:Type}(r:Rs α)(f:α->Rs β)(g:β->Rs b):'一'.bind g=r.bind λa=>(f a).bind g:=by cases r<;>rfl
def Rs.gB{r:Rs α}{f:α->Rs β}{P:β->Prop}:'一'.Good P E↔r.Good (λa=>(f a).Good P E) E:=by cases r<;>rfl
def Rs.good_calm{r:Rs α}{P:α->Prop}{b:DG}(h:r.calm.Good P E):r.Good P b:=by
 cases r with
 |ok a=>exact h
 |ex c=>exact h.elim
 |sk=>exact h
def Rs.Good.mono{r:Rs α}{P b:α->Prop}{e:DG}(h:Gn)(f:∀a,P a->b a)(g:∀c,E c->e c):r.Good b e:=by
 cases r with
 |ok a=>exact f a h
 |ex c=>exact g c h
 |sk=>exact h
def Rs.Good.imp{r:Rs α}{P b:α->Prop}(h:Gn)(e:∀a,P a->b a):r.Good b E:=h.mono e λ_ x=>x
mutual
def D.eqv:D->D->Bool
 |.non,.non=>To
 |.bl a,.bl b=>a==b
 |.bl a,.int b=>(if a then 1 else 0)==b
 |.int a,.bl b=>a==(if b then 1 else 0)
 |.int a,.int b=>a==b
 |.str a,.str b=>a==b
 |.tup as,.tup bs=>eqvs as bs
 |.lst as,.lst bs=>eqvs as bs
 |_,_=>Fo
def eqvs:List D->List D->Bool
 |[],[]=>To
 |a::as,b::bs=>D.eqv a b&&eqvs as bs
 |_,_=>Fo
end
mutual
def D.imm:D->Bool
 |.non=>To
 |.bl _=>To
 |.int _=>To
 |.str _=>To
 |.exc _=>To
 |.fn _ _=>To
 |.tup J=>imms J
 |.lst _=>Fo
 |.dct _ z _ a=>z&&imms a
 |.obj _ _ _=>Fo
 |.mls _ _=>Fo
 |.adr _=>Fo
def imms:List D->Bool
 |[]=>To
 |d::J=>D.imm d&&imms J
end
mutual
def D.dep:D->Nat
 |.non=>0
 |.bl _=>0
 |.int _=>0
 |.str _=>0
 |.tup J=>deps J+1
 |.lst J=>deps J+1
 |.dct _ _ _ _=>1000
 |.exc _=>1000
 |.fn _ _=>1000
 |.obj _ _ _=>1000
 |.mls _ _=>1000
 |.adr _=>1000
def deps:List D->Nat
 |[]=>0
 |d::J=>max (D.dep d) (deps J)
end
mutual
theorem fS:∀d:D,bV<=900->d.eqv d=To
 |.non,_=>rfl
 |.bl b,_=>ZE b
 |.int i,_=>ZE i
 |.str x,_=>ZE x
 |.tup J,h=>JiY J (gQ h)
 |.lst J,h=>JiY J (gQ h)
 |.dct _ _ _ _,h=>by simp only[D.dep]at h;lia
 |.exc _,h=>by simp only[D.dep]at h;lia
 |.fn _ _,h=>by simp only[D.dep]at h;lia
 |.obj _ _ _,h=>by simp only[D.dep]at h;lia
 |.mls _ _,h=>by simp only[D.dep]at h;lia
 |.adr _,h=>by simp only[D.dep]at h;lia
theorem JiY:∀J:List D,deps J<=900->eqvs J J=To
 |[],_=>rfl
 |d::J,h=>by rw[show eqvs (d::J) (d::J)=(d.eqv d&&eqvs J J)from rfl,fS d (Zq (Nat.le_max_left _ _) h),JiY J (Zq (Nat.le_max_right _ _) h)];rfl
end
def lX(x y:Str):(D.str x).eqv Y5=(x==y):=rfl
def Jwz(a b:D)(as bs:Ak):eqvs (a::as) (b::bs)=(a.eqv b&&eqvs as bs):=rfl
noncomputable def ixn (n:Nat) (i:Int):Option Nat:=if 0<=i then(if i<n then So i.toNat else No)else if -(n:Int)<=i then So (i+n).toNat else No
def atD  (xs:List α) (i:Int):Option α:=(ixn Ah i).bind λj=>xs[j]?
noncomputable def six (n d:Nat):Option Int->Nat
 |none=>d
 |some v=>if v<0 then(v+(n:Int)).toNat else min QcD n
def cutD  (xs:List α) (lo hi:BB):List α:=(xs.drop (six Ah 0 lo)).take (six Ah Ah hi-six Ah 0 lo)
noncomputable def lD:Nat:=16777216
noncomputable def Rs.ofOpt :Option α->Rs α
 |some a=>.ok a
 |none=>.sk
noncomputable def fN (x:Str):List D:=x.cps.toList.map λc=>.str ⟨#[c]⟩
def D.walk:D->Rs Y6
 |.tup J=>.ok J
 |.lst J=>.ok J
 |.str x=>.ok (fN x)
 |_=>.sk
def D.truth:D->Rs Bool
 |.non=>.ok Fo
 |.bl b=>.ok b
 |.int i=>.ok (i !=0)
 |.str x=>if x.length<=lD then .ok ((XI:Int)!=0)else .sk
 |.tup J=>.ok (!J.isEmpty)
 |.lst J=>.ok (!J.isEmpty)
 |_=>.sk
noncomputable def D.bound:D->Rs (Option Int)
 |.non=>.ok No
 |.int i=>.ok (So i)
 |_=>.sk
noncomputable def ltS (a b:Str):Bool:=decide (a.cps.toList<b.cps.toList)
def insS (x:Str):List Str->List Str
 |[]=>[x]
 |y::ys=>if x==y then y::ys else if ltS x y then x::y::ys else y::insS x ys
def Jn:List Str->List Str
 |[]=>[]
 |x::xs=>insS x (Jn xs)
noncomputable def mkS (l:Au):Str:=⟨l.toArray⟩
noncomputable def Jr (sep:Au):List (List Nat)->List Nat
 |[]=>[]
 |[x]=>x
 |x::y::r=>x++(sep++Jr sep (y::r))
noncomputable def jR (x:Nat):List (List Nat)->List Da
 |[]=>[[x]]
 |p::r=>(x::p)::r
def Jv (c:Nat):List Nat->List Da
 |[]=>[[]]
 |x::l=>if x=c then[]::Jv c l else jR x (Jv c l)
noncomputable def cutL (c:Nat):List Nat->List Nat×Option Da
 |[]=>([],No)
 |x::l=>if x=c then([],So l)else(x::(cutL c l).1,(cutL c l).2)
def yG (x:Au) (c:Nat):D:=match cutL c x with
 |(a,So b)=>.tup [.str Qar,.str (mkS [c]),.str (mkS b)]
 |(_,No)=>.tup [.str (mkS x),.str TK,.str TK]
noncomputable def JM:List D->Option Kg
 |[]=>So []
 |.str x::J=>(JM J).map (x::·)
 |_::_=>No
inductive O1 where
 |neg|not|isN|notN|len|all|any|tuple|list|sset|lset|truth|isStr|isTup|range|enum|asI|rows|items|dictP|join|fld (f:Str)|sortD|isO (ns:List Str)
inductive O2 where
 |add|sub|mul|fdiv|mod|eq|ne|lt|le|gt|ge|isin|idx|zip|rep|dIn (t:Bool)|dNi (t:Bool)|dGet (t:Bool)|joinS|splitS|partS|ends|strt|dGz (t:Bool)
noncomputable def smallI (i:Int):Bool:=decide (-(2^64)<i)&&decide (i<2^64)
noncomputable def midI (i:Int):Bool:=decide (-(2^62)<=i)&&decide (i<2^62)
noncomputable def JP (a:D):Bool:=decide (a.dep<=20)
noncomputable def upTo (lo:Int) (n:Nat):List D:='ϕ'.map fun(k:Nat)=>D.int (lo+(k:Int))
noncomputable def Jw (k:Nat):List D->List D
 |[]=>[]
 |d::J=>.tup [.int k,d]::Jw AZ J
noncomputable def zipD:List D->List D->List D
 |a::as,b::bs=>.tup [a,b]::zipD as bs
 |_,_=>[]
noncomputable def jB:List D->Option (List Bool)
 |[]=>So []
 |.bl b::J=>(jB J).map (b::·)
 |_::_=>No
noncomputable def digs (cs:Au):Nat:=cs.foldl (λa c=>a*10+(c-48)) 0
noncomputable def yK:D->Option Str
 |.str x=>if x.length<=1000 then So x else No
 |.int i=>if i.natAbs<2^64 then So (toString i:Bg)else No
 |_=>No
def zG:List D->Option Str
 |[]=>So Yp
 |d::J=>match yK d,zG J with
  |some x,So y=>if x.length+y.length<=2000 then So (x++y)else No
  |_,_=>No
noncomputable def zD (kp:D->Bool):List D->Option (List D×List D)
 |[]=>So ([],[])
 |d::J=>match d with
  |.tup [k,v]=>if kp k then(zD kp J).map λp=>(k::p.1,v::p.2)else No
  |_=>No
noncomputable def keyN:D->Bool
 |.str _=>To
 |.non=>To
 |_=>Fo
noncomputable abbrev Jyq:List D->Option (List D×List D):=zD keyN
noncomputable def banD (x:Str):Bool:=x==oS "any"||x==oS "number"||x==oS "one"||x==oS "rest"||x==oS "word"||x==oS ":"||x==oS "#"||x==oS "*"
noncomputable def keyB:D->Bool
 |.int _=>To
 |.str _=>To
 |.non=>To
 |_=>Fo
noncomputable def keyI:D->Bool
 |.int _=>To
 |_=>Fo
def keyS:D->Bool
 |.str x=>!banD x
 |_=>Fo
def banC:D->Nat
 |.str x=>if banD x then 1 else 0
 |_=>0
mutual
def JG:D->Bool
 |.int _=>To
 |.str _=>To
 |.non=>To
 |.tup J=>decide ('ӄ'.sum<=1)&&Jz J
 |_=>Fo
def Jz:List D->Bool
 |[]=>To
 |d::J=>JG d&&Jz J
end
def keyD (t:Bool):D->Bool
 |.tup J=>t&&(J.all keyI||J.all keyS||(JG (.tup J)&&decide (deps J<=7)))
 |d=>!t&&keyB d
noncomputable def iA (k:D):List D->List D->Option D
 |a::ks,v::vs=>if a.eqv k then So v else iA k ks vs
 |_,_=>No
noncomputable def setD (k v:D):List D->List D->List D
 |a::ks,u::vs=>(if a.eqv k then v else u)::setD k v ks vs
 |_,vs=>vs
def putD (k v:D) (ks vs:Ak):List D×List D:=if ks.any λa=>a.eqv k then(ks,setD k v ks vs)else(ks++[k],vs++[v])
noncomputable def Jrn:List D->Option c7
 |[]=>So []
 |.int i::J=>(Jrn J).map (i::·)
 |_::_=>No
noncomputable def lexI:List Int->List Int->Bool
 |[],[]=>Fo
 |[],_::_=>To
 |_::_,[]=>Fo
 |i::is,j::js=>if i=j then lexI is js else decide (i<j)
def keysOf:List D->Option (List c7)
 |[]=>So []
 |.tup ks::J=>match Jrn ks,keysOf J with
  |some k,So r=>So (k::r)
  |_,_=>No
 |_::_=>No
noncomputable def xN (J:Ak):Rs D:=match Jyq J with
 |some (ks,vs)=>if ks.Pairwise (λa b=>a.eqv b=Fo)/\ks.length<=1000 then .ok (.dct Fo To ks vs)else .sk
 |none=>.sk
def dspD (t:Bool) (ks vs:Ak):Rs D:=match t with
 |true=>match ks,vs with
  |[],[]=>.ok (.dct To To [] [])
  |[k],[v]=>if keyD To k then .ok (.dct To To [k] [v])else .sk
  |_,_=>.sk
 |false=>if ks.all keyB&&decide (ks.Pairwise λa b=>a.eqv b=Fo)&&decide (AC=AJ)&&decide (AC<=15)then .ok (.dct Fo To ks vs)else .sk
noncomputable def isiD (f:D->Bool):D->Rs D
 |.dct _ _ _ _=>.sk
 |.exc _=>.sk
 |.fn _ _=>.sk
 |.obj _ _ _=>.sk
 |.mls _ _=>.sk
 |.adr _=>.sk
 |d=>.ok (.bl (f d))
noncomputable def onII (a b:D) (k:Int->Int->Rs D):Rs D:=match a with
 |.int i=>match b with
  |.int j=>k i j
  |_=>.sk
 |_=>.sk
noncomputable def onSS (a b:D) (k:Str->Str->Rs D):Rs D:=match a with
 |.str i=>match b with
  |.str j=>k i j
  |_=>.sk
 |_=>.sk
def Jhf{a b:D}{k:Str->Str->Rs D}(h:(onSS a b k).Good P E):∃i j,a=.str i/\b=.str j/\(k i j).Good P E:=by
 cases a<;>first|exact(show False from h).elim|skip
 cases b<;>first|exact(show False from h).elim|exact Qay
noncomputable def onQ (a:D) (k:List D->Rs D):Rs D:=match a with
 |.tup J=>k J
 |.lst J=>k J
 |_=>.sk
def Jgc{a:D}{k:List D->Rs D}(h:(onQ a k).Good P E):∃J,(a=.tup J\/a=.lst J)/\(k J).Good P E:=by cases a<;>first|exact(show False from h).elim|exact⟨_,.inl rfl,h⟩|exact⟨_,.inr rfl,h⟩
noncomputable def onD (a:D) (k:Bool->List D->List D->Rs D):Rs D:=match a with
 |.dct t _ ks b=>k t ks b
 |_=>.sk
def JjL{a:D}{k:Bool->List D->List D->Rs D}(h:(onD a k).Good P E):∃t z ks b,a=.dct t z ks b/\(k t ks b).Good P E:=by cases a<;>first|exact(show False from h).elim|exact⟨_,_,_,_,rfl,h⟩
def sL{a b:D}{k:Int->Int->Rs D}(h:(onII a b k).Good P E):∃i j,a=.int i/\b=.int j/\(k i j).Good P E:=by
 cases a<;>first|exact(show False from h).elim|skip
 cases b<;>first|exact(show False from h).elim|exact Qay
def op1 (o:O1) (d:D):Rs D:=
 match o with
 |.neg=>match d with
  |.int i=>.ok (.int (-i))
  |_=>.sk
 |.not=>match d with
  |.bl b=>.ok (.bl !b)
  |_=>.sk
 |.isN=>match d with
  |.non=>.ok CW
  |_=>.ok C4
 |.notN=>match d with
  |.non=>.ok C4
  |_=>.ok CW
 |.len=>match d with
  |.tup J=>.ok QaF
  |.lst J=>.ok QaF
  |.mls _ J=>.ok QaF
  |.str x=>if x.length<=lD then .ok (.int XI)else .sk
  |_=>.sk
 |.all=>match d with
  |.lst J=>match jB J with
   |some bs=>.ok (.bl (bs.all id))
   |none=>.sk
  |_=>.sk
 |.any=>match d with
  |.lst J=>match jB J with
   |some bs=>.ok (.bl (bs.any id))
   |none=>.sk
  |_=>.sk
 |.tuple=>match d with
  |.tup J=>.ok Gz
  |.lst J=>.ok Gz
  |_=>.sk
 |.list=>match d with
  |.tup J=>.ok Bc
  |.lst J=>.ok Bc
  |_=>.sk
 |.sset=>match d with
  |.lst J=>match JM J with
   |some e=>if e.length<60 then .ok (.lst ((Jn e).map .str))else .sk
   |none=>.sk
  |_=>.sk
 |.lset=>match d with
  |.lst J=>match JM J with
   |some e=>if e.length<60 then .ok (.int (Jn e).length)else .sk
   |none=>.sk
  |_=>.sk
 |.truth=>d.truth.bind λb=>.ok Y0
 |.isStr=>isiD (λd=>match d with
   |.str _=>To
   |_=>Fo) d
 |.isTup=>isiD (λd=>match d with
   |.tup _=>To
   |_=>Fo) d
 |.range=>match d with
  |.int i=>if midI i then .ok (.lst (upTo 0 i.toNat))else .sk
  |_=>.sk
 |.enum=>onQ d λJ=>.ok (.lst (Jw 0 J))
 |.asI=>match d with
  |.int i=>.ok A2
  |_=>.sk
 |.rows=>match d with
  |.tup J=>.ok Gz
  |.lst J=>.ok Bc
  |_=>.sk
 |.fld f=>match d with
  |.obj _ h fs=>match(h.zip fs).lookup f with
   |some v=>.ok v
   |none=>.sk
  |_=>.sk
 |.items=>match d with
  |.dct _ To ks j=>.ok (.lst (zipD ks j))
  |_=>.sk
 |.dictP=>match d with
  |.tup J=>xN J
  |.lst J=>xN J
  |_=>.sk
 |.join=>match d with
  |.lst J=>match zG J with
   |some x=>.ok D5
   |none=>.sk
  |_=>.sk
 |.isO h=>match d with
  |.obj a g fs=>if g=h then .ok (.obj a g fs)else .sk
  |_=>.sk
 |.sortD=>match d with
  |.dct Fo _ ks _=>match JM ks with
   |some e=>if e.Nodup/\e.length<60 then .ok (.lst ((Jn e).map .str))else .sk
   |none=>.sk
  |_=>.sk
noncomputable def repS (x:Str) (k:Int):Str:=⟨(List.replicate k.toNat x.cps).foldl (·++·) #[]⟩
noncomputable def JsH (x:Str) (c:Nat):Bool:=decide (c∈x.cps.toList)
def op2 (o:O2) (a b:D):Rs D:=
 match o with
 |.add=>match a,b with
  |.int i,.int j=>.ok (.int (i+j))
  |.str x,.str y=>if x.length+y.length<=lD then .ok (.str (x++y))else .sk
  |.tup xs,.tup ys=>if Ah+By<=lD then .ok (.tup (xs++ys))else .sk
  |.lst xs,.lst ys=>if Ah+By<=lD then .ok (.lst (xs++ys))else .sk
  |_,_=>.sk
 |.sub=>onII a b λi j=>.ok (.int (i-j))
 |.mul=>match a,b with
  |.int i,.int j=>if smallI i||smallI j then .ok (.int (i*j))else .sk
  |.str x,.int k=>if 2<=k/\k<=1000/\1<=XI/\x.length<=1000 then .ok (.str (repS x k))else .sk
  |_,_=>.sk
 |.fdiv=>onII a b λi j=>if 0<j/\j<1073741824 then .ok (.int (i / j))else .sk
 |.mod=>onII a b λi j=>if 0<j then .ok (.int (i % j))else .sk
 |.eq=>if JP a&&JP b then .ok (.bl (a.eqv b))else .sk
 |.ne=>if JP a&&JP b then .ok (.bl (!a.eqv b))else .sk
 |.lt=>match a with
  |.int i=>match b with
   |.int j=>.ok (.bl (decide (i<j)))
   |_=>.sk
  |.str x=>match b with
   |.str y=>.ok (.bl (ltS x y))
   |_=>.sk
  |_=>.sk
 |.le=>onII a b λi j=>.ok (.bl (decide (i<=j)))
 |.gt=>onII a b λi j=>.ok (.bl (decide (j<i)))
 |.ge=>onII a b λi j=>.ok (.bl (decide (j<=i)))
 |.isin=>match a,b with
  |.str x,.str y=>if x.cps=#[x.cps.getD 0 0]then .ok (.bl (JsH y (x.cps.getD 0 0)))else .sk
  |a,.tup J=>if JP (.tup J)&&JP a then .ok (.bl P3)else .sk
  |a,.lst J=>if JP Bc&&JP a then .ok (.bl P3)else .sk
  |_,_=>.sk
 |.idx=>match a,b with
  |.tup J,.int i=>Rs.ofOpt (atD J i)
  |.lst J,.int i=>Rs.ofOpt (atD J i)
  |.str x,.int i=>if x.length<=lD then Rs.ofOpt ((atD XS i).map λc=>.str ⟨#[c]⟩)else .sk
  |_,_=>.sk
 |.zip=>onQ a λxs=>onQ b λys=>.ok (.lst '亓')
 |.rep=>match a,b with
  |.lst J,.int k=>if midI k&&decide (Ae*k.toNat<=lD)then .ok (.lst (List.replicate k.toNat J).flatten)else .sk
  |_,_=>.sk
 |.dIn e=>onD b λt ks _=>if t=e/\keyD t a=To then .ok (.bl (ks.any λd=>d.eqv a))else .sk
 |.dNi e=>onD b λt ks _=>if t=e/\keyD t a=To then .ok (.bl (!ks.any λd=>d.eqv a))else .sk
 |.dGet e=>onD a λt ks f=>if t=e/\keyD t b=To then Rs.ofOpt (iA b ks f)else .sk
 |.dGz e=>onD a λt ks f=>if t=e/\keyD t b=To then .ok ((iA b ks f).getD bG)else .sk
 |.joinS=>match a,b with
  |.str s,.lst J=>match JM J with
   |some xs=>if s.length<=1000/\(Jr X7 (xs.map (·.cps.toList))).length<=20000 then .ok (.str (mkS (Jr X7 (xs.map (·.cps.toList)))))else .sk
   |none=>.sk
  |.str s,.tup J=>match JM J with
   |some xs=>if s.length<=1000/\(Jr X7 (xs.map (·.cps.toList))).length<=20000 then .ok (.str (mkS (Jr X7 (xs.map (·.cps.toList)))))else .sk
   |none=>.sk
  |_,_=>.sk
 |.splitS=>onSS a b λx y=>if x.length<=20000/\y.cps=#[y.cps.getD 0 0]then .ok (.lst ((Jv QaZ XS).map λl=>.str SZ))else .sk
 |.partS=>onSS a b λx y=>if x.length<=20000/\y.cps=#[y.cps.getD 0 0]then .ok (yG XS QaZ)else .sk
 |.ends=>onSS a b λx y=>.ok (.bl (decide (0+y.length<=XI)&&(x.cps.extract (x.length-y.length) (x.length-y.length+y.length)==y.cps)))
 |.strt=>onSS a b λx y=>.ok (.bl (decide (0+y.length<=XI)&&(x.cps.extract 0 (0+y.length)==y.cps)))
inductive Px where
 |var (i:Nat)|con (d:D)|un (o:O1) (a:Px)|bi (o:O2) (a b:Px)|and (a b:Px)|or (a b:Px)|ite (c a b:Px)|nil|cons (a as:Px)|tup (as:Px)|dis (as:Px)|call (f:Nat) (as:Px)|sl (a lo hi:Px)|walk (a:Px)|comp (nt:Nat) (src c e:Px)|dsp (t:Bool) (ks vs:Px)
 deriving Inhabited
noncomputable def usesP:Px->Nat->Bool
 |.var j,i=>j==i
 |.con _,_=>Fo
 |.un _ a,i=>usesP a i
 |.bi _ a b,i=>usesP a i||usesP b i
 |.and a b,i=>usesP a i||usesP b i
 |.or a b,i=>usesP a i||usesP b i
 |.ite c a b,i=>usesP c i||usesP a i||usesP b i
 |.nil,_=>Fo
 |.cons a b,i=>usesP a i||usesP b i
 |.tup a,i=>usesP a i
 |.dis a,i=>usesP a i
 |.call _ a,i=>usesP a i
 |.sl a b c,i=>usesP a i||usesP b i||usesP c i
 |.walk a,i=>usesP a i
 |.comp nt s c e,i=>usesP s i||usesP c (i+(if nt=0 then 1 else nt))||usesP e (i+(if nt=0 then 1 else nt))
 |.dsp _ a b,i=>usesP a i||usesP b i
def sepP (M:Au) (p:Px):Bool:=M.all λi=>!usesP p i
mutual
def D.noL:D->Bool
 |.lst _=>Fo
 |.tup J=>noLs J
 |.dct _ _ _ a=>noLs a
 |.obj _ _ fs=>noLs fs
 |.mls _ J=>noLs J
 |_=>To
def noLs:List D->Bool
 |[]=>To
 |d::J=>D.noL d&&noLs J
end
noncomputable def noLI:Option (Option D)->Bool
 |some (So d)=>d.noL
 |_=>To
noncomputable abbrev Fm:=List (Option D)
variable{O:Fm}
noncomputable def pX:List D->Rs Fm
 |[x,.tup [y,z]]=>.ok OT
 |_=>.sk
def gA (nt:Nat) (d:D):Rs Fm:=
 if nt=0 then .ok [So d]else match d with
  |.tup J=>if nt=5 then pX J else if Ae=nt then .ok (J.map So)else .sk
  |_=>.sk
def JkD{J:Ak}{r:Rs Fm}(h:pX J=r):r=.sk\/∃x y z,J=[x,.tup [y,z]]/\r=.ok OT:=by
 unfold pX at h;split at h
 ·exact .inr ⟨_,_,_,rfl,h.symm⟩
 ·exact .inl h.symm
def Jgi{d:D}{c:Str}(h:gA nt d=.ex c):False:=by
 unfold gA at h;split at h
 ·cases h
 ·split at h
  ·split at h
   ·rcases JkD h with z|⟨_,_,_,_,z⟩<;>cases z
   ·split at h<;>cases h
  ·cases h
def JZ (nt:Nat) (c e:Fm->Rs D) (O:Fm):List D->Rs Y6
 |[]=>.ok []
 |d::J=>(gA nt d).bind λa=>(c (a++O)).calm.bind λb=>match b with
  |.bl To=>(e (a++O)).bind λy=>(JZ nt c e O J).bind λf=>.ok (y::f)
  |.bl Fo=>JZ nt c e O J
  |_=>.sk
noncomputable abbrev CallD:=Nat->List D->Rs D
noncomputable def D.asL:D->Rs Y6
 |.lst J=>.ok J
 |_=>.sk
def evD (U:Ag):Px->Fm->Rs D
 |.var i,O=>match O[i]? with
  |some (So d)=>.ok d
  |_=>.sk
 |.con d,_=>.ok d
 |.un o a,O=>'ƀ'.bind (op1 o)
 |.bi o a b,O=>'ƀ'.bind λx=>(evD U b O).bind λy=>op2 o x y
 |.and a b,O=>'ƀ'.bind λx=>match x with
  |.bl To=>evD U b O
  |.bl Fo=>.ok C4
  |_=>.sk
 |.or a b,O=>'ƀ'.bind λx=>match x with
  |.bl To=>.ok CW
  |.bl Fo=>evD U b O
  |_=>.sk
 |.ite c a b,O=>'ԟ'.bind λx=>match x with
  |.bl To=>evD U a O
  |.bl Fo=>evD U b O
  |_=>.sk
 |.nil,_=>.ok GK
 |.cons a as,O=>'ƀ'.bind λx=>'ǐ'.bind λy=>y.asL.bind λJ=>.ok (.lst (x::J))
 |.tup as,O=>'ǐ'.bind λy=>y.asL.bind λJ=>if Ae<=lD then .ok (.tup J)else .sk
 |.dis as,O=>'ǐ'.bind λy=>y.asL.bind λJ=>if Ae<=lD then .ok Bc else .sk
 |.call f as,O=>'ǐ'.bind λy=>y.asL.bind λJ=>U f J
 |.sl a lo hi,O=>'ƀ'.bind λx=>(evD U lo O).bind λl=>l.bound.bind λl=>(evD U hi O).bind λh=>h.bound.bind λh=>match x with
  |.tup J=>.ok (.tup Me)
  |.lst J=>.ok (.lst Me)
  |.str x=>if x.length<=20000 then .ok (.str UO)else .sk
  |_=>.sk
 |.walk a,O=>'ƀ'.bind λx=>x.walk.bind λJ=>.ok Bc
 |.comp nt src c e,O=>'я'.bind λs=>s.asL.bind λJ=>if Ae<=lD then(JZ nt Xy 'ԩ' O J).bind λj=>.ok (.lst j)else .sk
 |.dsp t k v,O=>(evD U k O).bind λx=>(evD U v O).bind λy=>x.asL.bind λks=>y.asL.bind λg=>dspD t ks g
inductive Sx where
 |skip|seq (a b:Sx)|set (m:Bool) (i:Nat) (e:Px)|own (i:Nat) (e:Px)|app (m:Bool) (i:Nat) (e:Px)|ext (m:Bool) (i:Nat) (e:Px)|eff (e:Px)|ret (e:Px)|ite (c:Px) (a b:Sx)|loop (m:Bool) (ts:List Nat) (nt:Nat) (src:Px) (body:Sx)|brk|raise (c:Str) (p:Px)|whl (n:Nat) (c:Px) (body:Sx)|put (m t:Bool) (i:Nat) (k v:Px)|ownD (t:Bool) (i:Nat)|retF (i:Nat)|movF (i j:Nat)
 deriving Inhabited
inductive Fw where
 |nx|rt (d:D)|bk|ct
noncomputable def zA:List Nat->List (Option D)->Fm->Fm
 |i::is,s::ss,O=>zA is ss LZ
 |_,_,O=>O
def forL (ts:Au) (nt:Nat) (a:Fm->Rs (Fw×Fm)):List D->Fm->Rs (Fw×Fm)
 |[],O=>.ok YN
 |d::J,O=>(gA nt d).bind λb=>(a (zA ts b O)).bind λr=>match r with
  |(.nx,env2)=>forL ts nt a J env2
  |(.ct,env2)=>forL ts nt a J env2
  |(.bk,env2)=>.ok GR
  |(.rt d,env2)=>.ok L7
noncomputable def whlL (c:Fm->Rs D) (a:Fm->Rs (Fw×Fm)):Nat->Fm->Rs (Fw×Fm)
 |0,_=>.sk
 |n+1,O=>(c O).bind λb=>match b with
  |.bl To=>(a O).bind λr=>match r with
   |(.nx,env2)=>whlL c a n env2
   |(.ct,env2)=>whlL c a n env2
   |(.bk,env2)=>.ok GR
   |(.rt d,env2)=>.ok L7
  |.bl Fo=>.ok YN
  |_=>.sk
noncomputable def txtOk:D->Bool
 |.str x=>decide (XI<=1000)&&x.cps.toList.all λc=>decide (c<256)
 |_=>Fo
def lK:D->Bool
 |.lst J=>J.all txtOk
 |_=>Fo
noncomputable def mutS:Sx->Bool
 |.seq a b=>mutS a||mutS b
 |.app _ _ _=>To
 |.ext _ _ _=>To
 |.ite _ a b=>mutS a||mutS b
 |.loop _ _ _ _ b=>mutS b
 |.whl _ _ b=>mutS b
 |.put _ _ _ _ _=>To
 |.movF _ _=>To
 |_=>Fo
noncomputable def lC (M:Au):Nat->Fm->Fm
 |_,[]=>[]
 |j,s::O=>(if j∈M then No else s)::lC M (j+1) O
def exD (U:Ag):Sx->Fm->Rs (Fw×Fm)
 |.skip,O=>.ok YN
 |.seq a b,O=>(exD U a O).bind λr=>match r with
  |(.nx,env2)=>exD U b env2
  |r=>.ok r
 |.set m i e,O=>'Ƥ'.bind λd=>if m&&!d.imm then .sk else .ok QcH
 |.own i e,O=>'Ƥ'.bind λd=>match d with
  |.lst J=>if !imms J then .sk else .ok Pi
  |_=>.sk
 |.ownD t i,O=>.ok Vk
 |.retF i,O=>match O[i]? with
  |some (So (.dct t Fo ks vs))=>.ok (.rt ND,O)
  |_=>.sk
 |.app m i e,O=>match O[i]? with
  |some (So (.lst J))=>'Ƥ'.bind λd=>if(m&&!d.imm)||!decide (Ae<lD)then .sk else .ok (.nx,O.set i (So (.lst (J++[d]))))
  |_=>.sk
 |.ext m i e,O=>match O[i]? with
  |some (So (.lst J))=>'Ƥ'.bind λy=>y.asL.bind λf=>if(m&&!imms f)||!decide (Ae+f.length<=lD)then .sk else .ok (.nx,O.set i (So (.lst (J++f))))
  |_=>.sk
 |.eff e,O=>'Ƥ'.bind λ_=>.ok YN
 |.ret e,O=>'Ƥ'.bind λd=>.ok aT
 |.ite c a b,O=>'ԟ'.bind λx=>match x with
  |.bl To=>exD U a O
  |.bl Fo=>exD U b O
  |_=>.sk
 |.loop m ts nt src body,O=>'я'.bind λs=>s.asL.bind λJ=>if m&&(mutS body||!imms J)then .sk else forL ts nt (exD U body) J O
 |.brk,O=>.ok (.bk,O)
 |.raise c p,O=>'ǉ'.bind λd=>if lK d then .ex c else .sk
 |.whl n c body,O=>whlL Xy (exD U body) n O
 |.put m t' i k v,O=>match O[i]? with
  |some (So (.dct t Fo ks vs))=>(evD U v O).bind λy=>(evD U k O).bind λx=>if(m&&!y.imm)||!(t==t')||!keyD t x||!decide (AC<1000)then .sk else .ok (.nx,O.set i (So (.dct t Fo (putD x y ks vs).1 (putD x y ks vs).2)))
  |_=>.sk
 |.movF i j,O=>match O[j]? with
  |some (So (.dct t Fo ks vs))=>.ok (.nx,'ǡ'.set j No)
  |_=>.sk
theorem zU{M:Au}:∀(O:Fm)(j i:Nat),(lC M j O)[i]? =(O[i]?).map λs=>if j+i∈M then No else s
 |[],_,_=>by simp[lC]
 |s::O,j,0=>by simp[lC]
 |s::O,j,i+1=>by
  have:=zU (M:=M) O (j+1) i
  simp only[lC,mF,this]
  rw[show j+1+i=j+'{' by lia]
def Jmo{d:D}{new:Fm}(h:gA nt d=.ok new):new.length=if nt=0 then 1 else nt:=by
 unfold gA at h;split at h
 ·rename_i q;cases h;simp[q]
 ·rename_i q;split at h
  ·split at h
   ·rename_i e;subst e;rcases JkD h with z|⟨_,_,_,_,z⟩
    ·cases z
    ·cases z;rfl
   ·split at h
    ·rename_i e;cases h;simp[q,e]
    ·cases h
  ·cases h
theorem Jeo{c e b i:Fm->Rs D}{env':Fm}(f:∀a:Fm,Yx=(if nt=0 then 1 else nt)->c (a++O)=b (a++env'))(h:∀a:Fm,Yx=(if nt=0 then 1 else nt)->e (a++O)=i (a++env')):
  ∀J,JZ nt c e O J=JZ nt b i env' J
 |[]=>rfl
 |d::J=>by
  have j:=Jeo f h J
  unfold JZ
  cases l:gA nt d with
  |ok a=>
   have g:=Jmo l
   simp only[Rs.bo,f a g,h a g,j]
  |ex x=>rfl
  |sk=>rfl
theorem JoR(U:Ag):∀(p:Px)(O env':Fm),(∀i,usesP p i=To->O[i]? =env'[i]?)->evD U p O=evD U p env':=by
 intro p;induction p with
 |var j=>intro O env' h;simp only[evD,h j (by simp[usesP])]
 |con d=>intro O env' h;rfl
 |un o a g=>intro O env' h;simp only[evD,g O env' λi q=>h i '?']
 |bi o a b g l=>intro O env' h;simp only[evD,g O env' λi q=>h i '?',l O env' λi q=>h i '?']
 |and a b g l=>intro O env' h;simp only[evD,g O env' λi q=>h i '?',l O env' λi q=>h i '?']
 |or a b g l=>intro O env' h;simp only[evD,g O env' λi q=>h i '?',l O env' λi q=>h i '?']
 |ite c a b r g l=>intro O env' h;simp only[evD,r O env' λi q=>h i '?',g O env' λi q=>h i '?',l O env' λi q=>h i '?']
 |nil=>intro O env' h;rfl
 |cons a b g l=>intro O env' h;simp only[evD,g O env' λi q=>h i '?',l O env' λi q=>h i '?']
 |tup a g=>intro O env' h;simp only[evD,g O env' λi q=>h i '?']
 |dis a g=>intro O env' h;simp only[evD,g O env' λi q=>h i '?']
 |call f a g=>intro O env' h;simp only[evD,g O env' λi q=>h i '?']
 |sl a b c g l r=>intro O env' h;simp only[evD,g O env' λi q=>h i '?',l O env' λi q=>h i '?',r O env' λi q=>h i '?']
 |walk a g=>intro O env' h;simp only[evD,g O env' λi q=>h i '?']
 |dsp t a b g l=>intro O env' h;simp only[evD,g O env' λi q=>h i '?',l O env' λi q=>h i '?']
 |comp nt s c e x r w=>
  intro O env' h;have app:∀(u:Px),(∀i,usesP u (i+(if nt=0 then 1 else nt))=To->O[i]? =env'[i]?)->∀m:Fm,m.length=(if nt=0 then 1 else nt)->∀i,usesP u i=To->(m++O)[i]? =(m++env')[i]?:=λu z m v i y=>by
   by_cases q:i<m.length
   ·rw[qG q,qG q]
   ·rw[rG 'h',rG 'h'];refine z _ ?_;rw[show i-m.length+(if nt=0 then 1 else nt)=i by lia];exact y
  simp only[evD,x O env' λi q=>h i '?'];rw[show JZ nt 'ʧ' 'ԩ' O=JZ nt 'ʧ' 'ԩ' env' from funext λJ=>Jeo (λm v=>r _ _ (app c Oh m v)) (λm v=>w _ _ (app e Oh m v)) J]
def qH(U:Ag){M:Au}{p:Px}(O:Fm)(h:De):evD U p (lC M 0 O)=evD U p O:=by
 refine JoR U p _ _ λi a=>?_;have e:i∉M:=λb=>by have:=uB.mp h i b;rw[a]at this;simp at this
 rw[zU];simp only[iM,if_neg e];cases O[i]? <;>rfl
noncomputable def Jf:Rs (Fw×Fm)->Rs D
 |.ok (.nx,_)=>.ok .non
 |.ok (.rt d,_)=>.ok d
 |.ok _=>.sk
 |.ex c=>.ex c
 |.sk=>.sk
structure DefD where
 slots:Nat
 params:Nat
 body:Sx
noncomputable def JD (n:Nat) (J:Ak):Fm:=J.map So++List.replicate (n-Ae) No
def runD (defs:Cg):Nat->CallD
 |0=>λ_ _=>.sk
 |k+1=>λf J=>match defs[f]? with
  |some d=>if Ae=aA then Jf (exD CC Yj Hk)else .sk
  |none=>.sk
def Rs.ofOpt_ex{o:Option α}{c:Str}:Rs.ofOpt o≠.ex c:=by cases o<;>simp[Rs.ofOpt]
noncomputable def pI:Px->Bool
 |.var _=>To
 |.con _=>To
 |_=>Fo
def nO(U:Ag){p:Px}(h:pI p=To):evD U p O=.sk\/∃d,evD U p O=.ok d:=by
 cases p with
 |var i=>
  simp only[evD];cases O[i]? with
  |none=>exact .inl rfl
  |some o=>cases o with
   |none=>exact .inl rfl
   |some d=>exact .inr ⟨d,rfl⟩
 |con d=>exact .inr ⟨d,rfl⟩
 |_=>cases h
def rK:Px->Bool
 |.nil=>To
 |.cons a p=>pI a&&rK p
 |_=>Fo
def Jhy(U:Ag){p:Px}:rK p=To->evD U p O=.sk\/∃J,evD U p O=.ok Bc:=by
 induction p with
 |nil=>exactλ_=>.inr ⟨[],rfl⟩
 |cons a p _ e=>
  intro h;simp only[rK,Zc]at h;simp only[evD];rcases nO U (O:=O) h.1 with q|⟨d,q⟩
  ·rw[q];exact .inl rfl
  ·rcases e h.2 with b|⟨J,b⟩
   ·rw[q,b];exact .inl rfl
   ·rw[q,b];exact .inr ⟨d::J,rfl⟩
 |_=>exactλh=>Bool.noConfusion h
def JyC(a b:D)(c:Str):op2 .idx a b≠.ex c:=by intro h;cases a<;>first|(cases h;done)|(cases b<;>first|(cases h;done)|exact Rs.ofOpt_ex h|(simp only[op2]at h;split at h;exact Rs.ofOpt_ex h;cases h))
noncomputable def isIdx:O2->Bool
 |.idx=>To
 |_=>Fo
def noEx:Px->Bool
 |.tup a=>rK a
 |.bi o a b=>isIdx o&&(pI a&&pI b)
 |p=>pI p
def vZ(U:Ag)(p:Px)(O:Fm)(c:Str)(h:noEx p=To):evD U p O≠.ex c:=by
 have f:∀{p:Px},pI p=To->evD U p O≠.ex c:=λh e=>by rcases nO U (O:=O) h with q|⟨d,q⟩<;>(rw[q]at e;cases e)
 cases p with
 |tup a=>
  intro e;simp only[evD]at e;rcases Jhy U (O:=O) (show rK a=To from h)with q|⟨J,q⟩
  ·rw[q]at e;cases e
  ·rw[q]at e;simp only[Rs.bo,D.asL]at e;split at e<;>cases e
 |bi o a b=>
  simp only[noEx,Zc]at h;obtain⟨m,i,r⟩:=h;have j:o=.idx:=by cases o<;>first|rfl|cases m
  subst j;intro e;simp only[evD]at e;rcases nO U (O:=O) i with q|⟨d,q⟩
  ·rw[q]at e;cases e
  ·rw[q]at e;simp only[Rs.bo]at e;rcases nO U (O:=O) r with g|⟨l,g⟩
   ·rw[g]at e;cases e
   ·rw[g]at e;exact JyC d l c e
 |_=>exact f h
theorem Jgl(x:Str):∀(l:Ac)(w:Str),w∈insS x l↔w=x\/w∈l
 |[],w=>by simp[insS]
 |y::ys,w=>by
  unfold insS
  split
  ·next h=>
   have:x=y:=by simpa using h
   subst this
   simp
  ·split
   ·simp
   ·simp only[Zf,Jgl x ys w]
    constructor
    ·rintro(h|h|h)<;>simp[h]
    ·rintro(h|h|h)<;>simp[h]
theorem Jy:∀(l:Ac)(w:Str),w∈Jn l↔w∈l
 |[],w=>Iff.rfl
 |y::ys,w=>by
  unfold Jn
  rw[Jgl,Jy ys w]
  simp
def LtS(a b:Str):Prop:=a.cps.toList<b.cps.toList
def LtS.irrefl(a:Str):¬LtS a a:=List.lt_irrefl _
def LtS.trans{a b c:Str}(h:LtS a b)(h':LtS b c):LtS a c:=List.lt_trans h h'
def LtS.asymm{a b:Str}(h:LtS a b)(h':LtS b a):False:=LtS.irrefl a (h.trans h')
def LtS.total{a b:Str}(h:¬LtS a b)(f:a≠b):LtS b a:=by
 by_cases z:LtS b a
 ·exact z
 ·exfalso;apply f;have e:a.cps.toList=b.cps.toList:=List.le_antisymm (List.not_lt.mp z) (List.not_lt.mp h);cases a with
  |mk x=>cases b with
   |mk y=>have:x=y:=Array.toList_inj.mp e;rw[this]
theorem JhL(x:Str):∀l:List Str,l.Pairwise LtS->(insS x l).Pairwise LtS
 |[],_=>by simp[insS]
 |y::ys,h=>by
  obtain⟨f,g⟩:=sG.mp h
  unfold insS
  split
  ·exact h
  ·next e=>
   have e:x≠y:=by simpa using e
   split
   ·next a=>
    have a:LtS x y:=ZZ (p:=XS<y.cps.toList) a
    refine sG.mpr ⟨λz b=>?_,h⟩
    rcases Zf.mp b with rfl|b
    ·exact a
    ·exact a.trans (f z b)
   ·next a=>
    have a:¬LtS x y:=λz=>a (Zx (p:=XS<y.cps.toList) z)
    refine sG.mpr ⟨λz b=>?_,JhL x ys g⟩
    rcases(Jgl x ys z).mp b with rfl|b
    ·exact LtS.total a e
    ·exact f z b
theorem JJ:∀l:List Str,(Jn l).Pairwise LtS
 |[]=>Qb5
 |x::xs=>JhL x _ (JJ xs)
theorem Jer:∀b a:List Str,b.Pairwise LtS->a.Pairwise LtS->(∀k,k∈b↔k∈a)->b=a
 |[],[],_,_,_=>rfl
 |[],y::a,_,_,h=>by
  have:=(h y).mpr Ad
  simp at this
 |x::b,[],_,_,h=>by
  have:=(h x).mp Ad
  simp at this
 |x::b,y::a,hx,hy,h=>by
  obtain⟨j,l⟩:=sG.mp hx
  obtain⟨i,m⟩:=sG.mp hy
  have e:x=y:=by
   rcases Zf.mp ((h x).mp Ad)with e|e
   ·exact e
   ·rcases Zf.mp ((h y).mpr Ad)with g|g
    ·exact g.symm
    ·exact((i x e).asymm (j y g)).elim
  subst e;rw[Jer b a l m λk=>?_];constructor
  ·intro f
   rcases Zf.mp ((h k).mp (by simp[f]))with e|e
   ·subst e;exact((LtS.irrefl _) (j _ f)).elim
   ·exact e
  ·intro f
   rcases Zf.mp ((h k).mpr (by simp[f]))with e|e
   ·subst e;exact((LtS.irrefl _) (i _ f)).elim
   ·exact e
theorem Jmv:∀l:List Str,(Jn l).length<=l.length:=by
 have ins:∀(x:Str)(l:Ac),(insS x l).length<=XZ+1:=by
  intro x l;induction l with
  |nil=>simp[insS]
  |cons y e a=>
   unfold insS;split
   ·simp
   ·split
    ·simp
    ·simp only[Zk];lia
 intro l;induction l with
 |nil=>simp[Jn]
 |cons x b a=>unfold Jn;have:=ins x (Jn b);simp only[Zk];lia
def oV(l:Ac)(h:l.Pairwise LtS):l.Nodup:=h.imp fun{a b}z e=>by
 subst e
 exact LtS.irrefl _ z
mutual
def Jj:D->Bool
 |.non=>To
 |.bl _=>To
 |.int _=>To
 |.str _=>To
 |.exc _=>To
 |.fn _ _=>To
 |.adr _=>To
 |.tup J=>Jb J
 |.lst J=>Jb J
 |.dct _ z _ a=>z&&Jb a
 |.obj _ _ _=>Fo
 |.mls _ _=>Fo
def Jb:List D->Bool
 |[]=>To
 |d::J=>Jj d&&Jb J
end
noncomputable def plE:Fm->Bool
 |[]=>To
 |none::O=>plE O
 |some d::O=>Jj d&&plE O
theorem uS:∀{O:Fm}{i:Nat}{d:D},plE O=To->O[i]? =So Bd->Jj d=To
 |[],_,_,_,h=>by simp at h
 |none::O,0,d,_,h=>by simp at h
 |some x::O,0,d,p,h=>by simp at h;subst h;simp only[plE,Zc]at p;exact p.1
 |none::O,i+1,d,p,h=>uS (O:=O) (i:=i) p (by simpa using h)
 |some x::O,i+1,d,p,h=>by simp only[plE,Zc]at p;exact uS (i:=i) p.2 (by simpa using h)
def Jnu{i j:Nat}{d:D}(p:plE Md=To)(h:O[j]? =So Bd)(n:j≠i):Jj d=To:=uS p (by rw[Zr (Ne.symm n)];exact h)
theorem Jfh:∀{J:Ak}{i:Nat}{d:D},Jb J=To->J[i]? =So d->Jj d=To
 |[],_,_,_,h=>by simp at h
 |x::J,0,d,p,h=>by simp at h;subst h;simp only[Jb,Zc]at p;exact p.1
 |x::J,i+1,d,p,h=>by simp only[Jb,Zc]at p;exact Jfh (i:=i) p.2 (by simpa using h)
inductive Rc where
 |ok (d st:D)|ex (c:Str) (st:D)|sk
def Rc.Good(r:Rc)(P:D->D->Prop)(E:Str->D->Prop):Prop:=match r with
 |.ok d a=>P d a
 |.ex c a=>E c a
 |.sk=>False
noncomputable abbrev CallB:=Nat->D->List D->Rc
inductive Rx where
 |ok (d:D) (env:Fm)|ex (c:Str) (env:Fm)|sk
def Rx.Good(r:Rx)(P:D->Fm->Prop)(E:Ea):Prop:=match r with
 |.ok d O=>P d O
 |.ex c O=>E c O
 |.sk=>False
noncomputable def Rx.bind (r:Rx) (f:D->Fm->Rx):Rx:=match r with
 |.ok d O=>f d O
 |.ex c O=>.ex c O
 |.sk=>.sk
def Rx.gB{r:Rx}{f:D->Fm->Rx}{P:D->Fm->Prop}{E:Ea}:'一'.Good P E↔r.Good (λd O=>(f d O).Good P E) E:=by cases r<;>rfl
def Rx.Good.imp{r:Rx}{P a:D->Fm->Prop}{E b:Ea}(h:Gn)(f:∀d e,P d e->a d e)(g:∀c e,E c e->b c e):r.Good a b:=by
 cases r with
 |ok d e=>exact f d e h
 |ex c e=>exact g c e h
 |sk=>exact h
inductive Bx where
 |pur (p:Px)|call (r:Bool) (f i:Nat) (ns:List Str) (as:Px)|bi (o:O2) (a b:Bx)|isN (a:Bx)|or (a b:Bx)|and (a b:Bx)
noncomputable def Rx.of (O:Fm):Rs D->Rx
 |.ok d=>.ok d O
 |.ex c=>.ex c O
 |.sk=>.sk
noncomputable def Rx.lay (r:Bool) (O:Fm) (i:Nat):Rc->Rx
 |.ok d a=>.ok d (O.set i (So a))
 |.ex c a=>if r then .ex c (O.set i (So a))else .sk
 |.sk=>.sk
def evB (U:Ag) (bc:AI):Bx->Fm->Rx
 |.pur p,O=>.of O 'ǉ'
 |.call r f i ns as,O=>match O[i]? with
  |some (So (.obj a ns' fs))=>if ns'=ns then match evD U as O with
   |.ok (.lst J)=>if plE (O.set i No)&&Jb J then .lay r O i (bc f CD J)else .sk
   |.ex c=>if r then .ex c O else .sk
   |_=>.sk else .sk
  |_=>.sk
 |.bi o a b,O=>'ϖ'.bind λx e=>(evB U bc b e).bind λy g=>if Jj x then .of g (op2 o x y)else .sk
 |.isN a,O=>'ϖ'.bind λx e=>.of e (op1 .isN x)
 |.or a b,O=>'ϖ'.bind λx e=>match x with
  |.bl To=>.ok CW e
  |.bl Fo=>evB U bc b e
  |_=>.sk
 |.and a b,O=>'ϖ'.bind λx e=>match x with
  |.bl To=>evB U bc b e
  |.bl Fo=>.ok C4 e
  |_=>.sk
inductive Bs where
 |lift (p:Sx)|seq (a b:Bs)|ite (t:Bx) (a b:Bs)|eff (e:Bx)|set (i:Nat) (e:Bx)|ret (p:Px)|loop (ts:List Nat) (nt:Nat) (src:Px) (body:Bs)|raise (c:Str) (p:Px)|newL (f:Str)|appF (f:Str) (p:Px)|putK (f:Str) (k p:Px)|popK (f:Str) (k:Px)|retB (e:Bx)|setI (i:Nat) (e:Bx)|goB (k:Nat) (c:Str) (ns:List Str)|retG (i:Nat) (ns:List Str) (f g:Str) (n:Int)
inductive Rq where
 |ok (f:Fw) (env:Fm)|ex (c:Str) (env:Fm)|sk
def Rq.Good(r:Rq)(P:Fw->Fm->Prop)(E:Ea):Prop:=match r with
 |.ok d O=>P d O
 |.ex c O=>E c O
 |.sk=>False
noncomputable def Rq.bind (r:Rq) (f:Fw->Fm->Rq):Rq:=match r with
 |.ok d O=>f d O
 |.ex c O=>.ex c O
 |.sk=>.sk
noncomputable def Rx.next (r:Rx) (f:D->Fm->Rq):Rq:=match r with
 |.ok d O=>f d O
 |.ex c O=>.ex c O
 |.sk=>.sk
def Rq.gB{r:Rq}{f:Fw->Fm->Rq}{P:Fw->Fm->Prop}{E:Ea}:'一'.Good P E↔r.Good (λd O=>(f d O).Good P E) E:=by cases r<;>rfl
def Rx.good_next{r:Rx}{f:D->Fm->Rq}{P:Fw->Fm->Prop}{E:Ea}:(r.next f).Good P E↔r.Good (λd O=>(f d O).Good P E) E:=by cases r<;>rfl
def Rq.Good.imp{r:Rq}{P a:Fw->Fm->Prop}{E b:Ea}(h:Gn)(f:∀d e,P d e->a d e)(g:∀c e,E c e->b c e):r.Good a b:=by
 cases r with
 |ok d e=>exact f d e h
 |ex c e=>exact g c e h
 |sk=>exact h
noncomputable def Jxb (w:Bool):Rs (Fw×Fm)->Rq
 |.ok (.rt d,O)=>if w then .sk else .ok Y2 O
 |.ok (f,O)=>.ok f O
 |_=>.sk
def forB (ts:Au) (nt:Nat) (b:Fm->Rq):List D->Fm->Rq
 |[],O=>.ok .nx O
 |d::J,O=>match gA nt d with
  |.ok e=>(b (zA ts e O)).bind λf a=>match f with
   |.nx=>forB ts nt b J a
   |.ct=>forB ts nt b J a
   |.bk=>.ok .nx a
   |.rt d=>.ok Y2 a
  |_=>.sk
noncomputable def putN  (f:Str) (v:α):List Str->List α->List α
 |n::ns,x::xs=>if n=f then v::xs else x::putN f v ns xs
 |_,xs=>xs
noncomputable def wI:D->Bool
 |.dct _ _ _ a=>Jb a
 |.mls _ J=>Jb J
 |d=>Jj d
def chgF (f:Str) (d':D) (O:Fm):Rq:=match O with
 |some (.obj a ns fs)::env'=>if ns.contains f&&fs.all wI&&plE env'&&decide (AK<1000)then .ok .nx My else .sk
 |_=>.sk
noncomputable def othD (m:Bool) (f:Str):D->Bool
 |.mls t J=>(!m||!(t==f))&&Jb J
 |.dct _ _ _ a=>m&&Jb a
 |d=>Jj d
def chgM (m:Bool) (f:Str) (g:D->Option D) (O:Fm):Rq:=match O with
 |some (.obj a ns fs)::env'=>match(ns.zip fs).lookup f with
  |some d=>match g d with
   |some d'=>if plE env'&&(putN f D.non ns fs).all (othD m f)then .ok .nx My else .sk
   |none=>.sk
  |none=>.sk
 |_=>.sk
noncomputable def delD (k:D):List D->List D->List D×List D
 |a::ks,v::vs=>if a.eqv k then delD k ks vs else(a::(delD k ks vs).1,v::(delD k ks vs).2)
 |ks,vs=>(ks,vs)
noncomputable def appG (f:Str) (d:D):D->Option D
 |.mls t J=>if t==f&&Jb J&&decide (Ae<1000)then So (.mls t (J++[d]))else No
 |_=>No
def putG (x y:D):D->Option D
 |.dct Fo Fo ks a=>if Jb a&&decide (AC<1000)then So (.dct Fo Fo (putD x y ks a).1 (putD x y ks a).2)else No
 |_=>No
def popG (x:D):D->Option D
 |.dct Fo Fo ks b=>if Jb b&&ks.any (λa=>a.eqv x)then So (.dct Fo Fo (delD x ks b).1 (delD x ks b).2)else No
 |_=>No
noncomputable def sA (f:Str) (ns:Ac) (fs:Ak):Option Y6:=match(ns.zip fs).lookup f with
 |some (.mls t J)=>if t==f then So J else No
 |_=>No
def goS (bc:AI) (k:Nat) (n:Int) (f g:Str) (a:Nat) (ns:Ac) (fs:Ak) (J es:Ak):Option D->Rc
 |none=>.sk
 |some b=>match b with
  |.tup e=>match atD e 0,atD e 1,atD e n with
   |some w,So x,So y=>match bc k (.obj a ns (putN g (.mls g (es++[b])) ns (putN f IU ns fs))) [x,y]with
    |.ok _ b=>.ok w b
    |_=>.sk
   |_,_,_=>.sk
  |_=>.sk
def goD (bc:AI) (k:Nat) (c:Str) (n:Int) (f g:Str) (a:Nat) (ns:Ac) (fs:Ak):Rc:=match sA f ns fs with
 |none=>.sk
 |some J=>match sA g ns fs with
  |none=>.sk
  |some b=>
   if !(f==g)&&Jb J&&Jb b&&decide (YU<1000)&&(putN f .non ns fs).all (othD To f)&&(putN g .non ns (putN f (.mls f J.dropLast) ns fs)).all (othD To g)then
    if J.isEmpty then .ex c CD else goS bc k n f g a ns fs J.dropLast b J.getLast?
   else .sk
noncomputable def Rc.at (O:Fm):Rc->Rq
 |.ok d st=>.ok Y2 (So st::O)
 |.ex c st=>.ex c (So st::O)
 |.sk=>.sk
def exO (w:Bool) (U:Ag) (bc:AI):Bs -> Fm -> Rq
 | .lift p,O=>Jxb w (exD U p O)
 | .seq a b,O=>(exO w U bc a O).bind λf j=>match f with
  | .nx=>exO w U bc b j
  | f=>.ok f j
 | .ite t a b,O=>(evB U bc t O).next λx h=>match x with
  | .bl To=>exO w U bc a h
  | .bl Fo=>exO w U bc b h
  | _=>.sk
 | .eff e,O=>'ϗ'.next λ_ h=>.ok .nx h
 | .set i e,O=>'ϗ'.next λd h=>if Jj d then .ok .nx (h.set i Bd) else .sk
 | .ret p,O=>match evD U p O with
  | .ok d=>.ok Y2 O
  | .ex c=>.ex c O
  | .sk=>.sk
 | .loop ts nt src body,O=>match evD U src O with
  | .ok (.lst J)=>if Jb J && imms J then forB ts nt (exO w U bc body) J O else .sk
  | .ex c=>.ex c O
  | _=>.sk
 | .raise c p,O=>match evD U p O with
  | .ok d=>if lK d then .ex c O else .sk
  | _=>.sk
 | .newL f,O=>chgF f (.mls f []) O
 | .appF f p,O=>match evD U p O with
  | .ok d=>if Jj d then chgM To f (appG f d) O else .sk
  | _=>.sk
 | .putK f k p,O=>match evD U p O with
  | .ok y=>match evD U k O with
   | .ok x=>if Jj y && keyD Fo x then chgM Fo f (putG x y) O else .sk
   | _=>.sk
  | _=>.sk
 | .popK f k,O=>match evD U k O with
  | .ok x=>if keyD Fo x then chgM Fo f (popG x) O else .sk
  | _=>.sk
 | .retB e,O=>'ϗ'.next λd h=>.ok Y2 h
 | .setI i e,O=>'ϗ'.next λd h=>if Jj d && d.imm then .ok .nx (h.set i Bd) else .sk
 | .goB k c ns,O=>match O with
  | some (.obj a ns' fs) :: So (.str f) :: So (.str g) :: So (.int n) :: _=>if ns' = ns then (goD bc k c n f g a ns fs).at [] else .sk
  | _=>.sk
 | .retG i ns f g n,O=>match O with
  | some (.obj a ns' fs) :: env'=>if ns' = ns then if plE env' && (sA f ns fs).isSome && (sA g ns fs).isSome then (bc i CD HA).at env' else .sk else .sk
  | _=>.sk
structure DefB where
 slots:Nat
 params:Nat
 body:Bs
noncomputable def xC:D->D->Bool
 |.obj a _ _,.obj b _ _=>a==b
 |_,_=>Fo
def ansB (s0:D):Rq->Rc
 |.ok .nx (So st::_)=>if xC s0 st then .ok .non st else .sk
 |.ok (.rt d) (So st::_)=>if xC s0 st then .ok d st else .sk
 |.ex c (So st::_)=>if xC s0 st then .ex c st else .sk
 |_=>.sk
def runB (defs:Cg) (bdefs:EH):Nat->CallB
 |0=>λ_ _ _=>.sk
 |k+1=>λf st J=>match bdefs[f]? with
  |some b=>if Ae+1=b.params then ansB st (exO To CC Dr b.body (JD b.slots (st::J)))else .sk
  |none=>.sk
noncomputable def nsS:List Str:=[oS "tables",oS "done",oS "undone"]
def JkX (a:Nat):D:=.obj a nsS [.dct Fo Fo [] [],.mls FD [],.mls FK []]
def mutB:Bs->Bool
 |.lift p=>mutS p
 |.seq a b=>mutB a||mutB b
 |.ite _ a b=>mutB a||mutB b
 |.loop _ _ _ b=>mutB b
 |_=>Fo
noncomputable def fsS (ks vs J es:Ak):List D:=[.dct Fo Fo ks vs,.mls FD J,.mls FK es]
end Pu
namespace Rd
open PySem PySem.Spec PyProof.Rows L2 PySem.W
variable{H:Hp}{P:Ba}{w:AQ}{s s':Al}{h base B:Heap}{A:Bv}{C a:Addr}{mg:Bk}
def HOk.onB{h':Heap}(ok:BE)(tr:∀b u,H b=So u->∃o,B.get? b=So o)(k1:B.StaysIn h)(k2:B.StaysIn h'):HOk P w H h':=λa o e=>
 ObjOk.stay (ok a o e) (λb u g q=>by
  have j:∃o,B.get? b=So o:=by
   rcases g with rfl|g
   ·exact tr _ _ e
   ·exact tr _ _ g
  obtain⟨ob,f⟩:=j;have i:=k1 b ob f;rw[q]at i;cases i;exact k2 b _ f) Iv (λ_ _ z=>z)
def ObjOk.has{o:HO}(x:M6):∃ob,h.get? a=So ob:=by
 cases o with
 |lst g=>obtain⟨_,_,_,_,e⟩:=x;exact⟨_,e⟩
 |lsm _ g=>obtain⟨_,_,_,_,e⟩:=x;exact⟨_,e⟩
 |tup g=>obtain⟨_,_,_,ob,e,_⟩:=x;exact⟨_,e⟩
 |dK b=>obtain⟨_,_,_,_,ob,_,_,e,_⟩:=x;exact⟨_,e⟩
 |dT b=>obtain⟨_,_,_,_,ob,_,_,e,_⟩:=x;exact⟨_,e⟩
 |set S n=>obtain⟨ob,_,_,_,e,_⟩:=x;exact⟨_,e⟩
 |ins C m fs=>obtain⟨_,_,_,e,_⟩:=x;exact⟨_,e⟩
 |own y=>obtain⟨_,e⟩:=x;exact⟨_,e⟩
 |xd fs=>obtain⟨_,⟨_,_,_,e,_⟩,_⟩:=x;exact⟨_,e⟩
 |rng q i=>obtain⟨_,_,_,e⟩:=x;exact⟨_,e⟩
 |frz ob u=>obtain⟨e,_⟩:=x;exact⟨_,e⟩
 |tbl l=>obtain⟨_,_,_,_,e,_⟩:=x;exact⟨_,e⟩
 |met f y=>exact⟨_,(show h.get? a=So _ from x)⟩
 |ext j=>obtain⟨_,⟨_,e⟩,_⟩:=x;exact⟨_,e⟩
def HOk.has(ok:BE){b:Addr}{u:HO}(e:H b=So u):∃o,h.get? b=So o:=ObjOk.has (ok b u e)
inductive CXi(P:Ba)(w:AQ)(outer:Bq)(H:Hp)(s:Al)(E:XK)(e:An)(s':Al):Prop where
 |mk (a C:Addr) (H':Hp) (B:Heap) (a0:Value):e=.ref a->s'.os=s.os->AllBare s'.gens->Un (frs outer) [] H H' s.heap s'.heap->HOk P w H' s'.heap->Heap.FlyingW B outer a (.ref C) a0 s'.heap->(∀b u,H' b=So u->∃o,B.get? b=So o)->(∀b o,s.heap.get? b=So o->b∉frs outer->(H b=No->B.get? b=So o)/\∃o',B.get? b=So o')->E (.ref C) No H'->CXi P w outer H s E e s'
noncomputable def CXr (P:Ba) (w:AQ):CXT:=CXi P w
def JpV(B:Heap)(l:Bq)(e:Addr)(b a0 fl:An)(h:Heap):Prop:=B.StaysIn h/\B.get? e=No/\h.FunFrames B l/\h.TracedAtW B e b a0 fl
section
variable{M:Model}{E:Ay}{O:Env}{outer:Bq}{L e:Addr}{cls a0 fl:An}{Q:Dm}
def JgP(r:A.frames=So Cw)(l:O.frame=So L)(x:Q7)(J:∀j,Heap.HeldW B Cw e cls a0 L j->s.heap.UpToSlots j->Q () {s with heap:=j}):wpAny M A Og Q E s:=by
 obtain⟨Z,u,U,y⟩:=x;by_cases G:fl=rawInt L
 ·subst G;exact wpAny_noteFrame_againW l y (J VU ⟨Z,u,U,y⟩ (Heap.UpToSlots.refl _))
 ·obtain⟨oe,I,T,oT,ts,N,⟨hc,h0⟩,W,F,m,z,v,i,X⟩:=y;subst hc;unfold noteFrame;simp only[l];refine Za (ZS N W F ?_);rw[if_pos 'j'];refine Za (ZS v i X ?_);rw[if_neg (by simpa using G)];refine Za (sC v i (eW.mp X).1 ?_);have oth:∀b,b≠T->(s.heap.update T (Obj.mapFields (·.setIfInBounds 3 XH))).get? b=s.heap.get? b:=λb hb=>ZO _ _ E2;have Y:∀b o,s.heap.get? b=So o->(∀I,o.data≠.fields I)->b≠T:=λb o hb f q=>by rw[q,v]at hb;injection hb with hb;subst hb;exact f ts i
  refine wpAny_entryW r (U.of_keeps λb o hb f=>⟨o,'产'.trans hb,rfl⟩) l ((oth e (Ne.symm z)).trans N) (λb o g=>(oth b λq=>by
   rw[q,m]at g;cases g).trans (Z b o g)) u W (eW.mp F).1 h0 λj hN=>?_
  obtain⟨x1,x2,x3,x4⟩:=hN;exact J j ⟨x1,u,x2,x3⟩ λb o hb f=>x4 b o ('产'.trans hb) f
def Jlm(i:A.frames=So Cw)(l:O.frame=So L)(x:Q7)(y:∀j,Heap.FlyingW B outer e cls a0 j->s.heap.UpToSlots j->Q () {s with heap:=j}):wpAny M A (leaving O J5) Q E s:=by unfold leaving;refine Za (JgP i l x λz b u=>?_);refine wpAny_landsW b λv f g=>?_;obtain⟨r,o,⟨_,_,m⟩,q⟩:=f;exact y v ⟨r,o,m,q⟩ (u.trans g)
end
structure FlyIn(X:Cx)(C a:Addr)(W:Hp)(s':Al):Prop where
 inv:∃Y Z,Inv X Y Z W s'/\((∃h vs,Heap.MadeExcOf h Yf a BL vs/\Inv X Y Z W {s' with heap:=h})\/
  ∃B a0 fl,JpV B XN a BL a0 fl Yf/\(∀b u,W b=So u->∃o,B.get? b=So o)/\(∀b o,X.s₀.heap.get? b=So o->b∉frs X.stack->b∉X.ex->(X.H₀ b=No->B.get? b=So o)/\∃o',B.get? b=So o')/\∀p∈X.pn,B.get? p.1=So p.2)
noncomputable def cxE (CX:CXT) (P:Ba) (w:AQ) (K:Aj) (mg:Bk) (base:Heap) (N:Ac) (O:Env) (fn:Str->Bool) (cm:Bool) (A:Bv) (outer:Bq) (s:Al) (H:Hp) (E:XK):Cx where
 prog:=P
 w:=w
 K:=K
 mg:=mg
 base:=base
 A:=A.deeper O
 N:=N
 s₀:=s
 H₀:=H
 env:=O
 outer:=outer
 stack:=O::outer
 ex:=[]
 calm:=cm
 fn:=fn
 pn:=[]
 xe:=λe s'=>wpAny Bp (A.deeper O) (leaving O e) (λ_ b=>CX outer H s E e b) (λf b=>CX outer H s E f b) s'
section
variable{K:Aj}{N:Ac}{O:Env}{fn:Str->Bool}{cm:Bool}{outer:Bq}{W:Hp}{E:XK}
def JjT(g:O.frame=So Aa){Y:A8}{Z:Bl}{h1 h':Heap}{a0:An}(I:Inv 'ƞ' Y Z W {s' with heap:=h1})
  (fl:Heap.FlyingW B outer a BL a0 h') (k1:B.StaysIn h1) (up:h1.UpToSlots h') (tr:∀b u,W b=So u->∃o,B.get? b=So o)
  (kp:∀b o,s.heap.get? b=So o->b∉frs Cw->(H b=No->B.get? b=So o)/\∃r,B.get? b=So r) (hE:Qdj):CXr P w outer H s E Ar {s' with heap:=h'}:=by
 have j:∀b o,s.heap.get? b=So o->b∉frs outer->b∉frs Cw:=λb o f l m=>by
  unfold frs at m;rw[zH,g]at m;rcases Zf.mp m with e|m
  ·have:=Zj f;rw[e]at this;exact absurd this CH
  ·exact l m
 have u:=I.base;refine⟨a,C,W,B,a0,rfl,I.os,Yi,⟨?_,?_,?_,?_,u.tups,u.frzs,u.tbls⟩,HOk.onB XQ tr k1 fl.1,fl,tr,λb o f l=>kp b o f (j b o f l),hE⟩
 ·intro b o f l g _;exact fl.1 b o ((kp b o f (j b o f g)).1 l)
 ·intro b o f l g _;obtain⟨sl,v⟩:=u.slot b o f l g (by show b∉([]:List Addr);simp);obtain⟨_,z,i,x⟩:=(show s.heap.FunFrames base outer from I.ok.funs).mem g;rw[f]at i;cases i;obtain⟨q,y⟩:=up b _ v x;exact⟨q,y⟩
 ·intro b o f l _;exact u.free b o f l (by show b∉([]:List Addr);simp)
 ·intro b o f _;by_cases g:b∈frs outer
  ·obtain⟨_,z,i,x⟩:=(show s.heap.FunFrames base outer from I.ok.funs).mem g;rw[f]at i;cases i;obtain⟨sl,v⟩:=u.slot b o f Qb6 g (by show b∉([]:List Addr);simp);obtain⟨q,y⟩:=up b _ v x;exact⟨_,y⟩
  ·obtain⟨r,e⟩:=(kp b o f (j b o f g)).2;exact⟨r,fl.1 b r e⟩
def JmZ(f:O.frame=So Aa)(F:FlyIn 'ƞ' C a W s')(hE:Qdj):'ƞ'.xe Ar s':=by
 obtain⟨Y,Z,I,M⟩:=F.inv;have X:'ƞ'.stack=O::outer:=rfl;show wpAny Bp (A.deeper (O)) (leaving (O) Ar) _ _ s';have j:(A.deeper (O)).frames=So Cw:=dZ;rcases M with⟨h,vs,G,g⟩|⟨B,a0,flv,fl,tr,kp,_⟩
 ·have x:∀m∈(O::outer),∀b,m.frame=So b->b∈frs Cw:=λm y b i=>pD.mpr ⟨m,y,i⟩;have J:(hideAll h (frs Cw)).StaysIn h:=λb o q=>of_hideAll _ q;refine wpAny_leaves_madeW j f J (funFrames_hide g.stack x) G λL t fl _ _ r=>?_;refine JjT f (B:=hideAll h (frs Cw)) (h1:=h) g fl J ((Heap.UpToSlots.of_keeps G.keeps).trans r) (λb u e=>?_) (λb o i l=>Qeg) hE
  ·obtain⟨o,ho⟩:=HOk.has g.hok e;exact⟨o,hideAll_get _ ho λz=>by rw[g.stkFree b z]at e;cases e⟩
  ·refine hideAll_get _ (g.base.keep b o i h0 (λz=>l ?_) (by show b∉([]:List Addr);simp)) l;exact pD.mpr (by obtain⟨e,y,f⟩:=pD.mp z;exact⟨e,.tail _ y,f⟩)
  ·obtain⟨U,e⟩:=g.base.there b o i (by show b∉([]:List Addr);simp);exact⟨U,hideAll_get _ e l⟩
 ·refine Jlm j f fl λL v r=>?_;exact JjT f (h1:=Yf) I v fl.1 r tr (λb o i l=>kp b o i l (by show b∉([]:List Addr);simp)) hE
end
def mO{K:Aj}{N:Ac}{e:Str}{b:Bf}{f:Addr}{i:An}{g:Bq}{W:Hp}{E:XK}(F:FlyIn 'Ͻ' C a W s')(hE:Qdj):'Ͻ'.xe Ar s':=
 JmZ (O:=envOfC e b Aa f i) (fn:=λ_=>To) (cm:=To) rfl F hE
def Jgd{X:Cx}{Y:A8}{Z:Bl}{E:XK}{e:An}(I:AH)(h:CXr XJ X.w XN H s E e s'):∃a C W,e=.ref a/\FlyIn X C a W s'/\E BL No W:=by
 obtain⟨a,C,W,B,O,rfl,ho,hg,u,l,fl,M,m,hE⟩:=h;have I':Inv X Y Z W s':=I.call' ho u l hg Qp;have g:∀b,b∉X.fs->b≠A5->b∉frs XN:=λb F h2 J=>by
  rcases Zf.mp (I.stkSub b J)with e|e
  ·exact h2 e
  ·exact F e
 refine⟨a,C,W,rfl,⟨Y,Z,I',.inr ⟨B,O,.none,fl,M,λb o r q f=>?_,λp G=>?_⟩⟩,hE⟩;rotate_left
 ·obtain⟨y,q2,q3,q4,_⟩:=I.pin p (tJ _ G);exact(m p.1 p.2 y (g p.1 q4 q3)).1 q2
 have i:b∉X.fs:=λz=>q (by
  rcases I.ok.stk with e|⟨e,_⟩
  ·rw[e];exact z
  ·rw[e];obtain⟨L,U,x⟩:=pD.mp z;exact pD.mpr ⟨L,.tail _ U,x⟩)
 constructor
 ·intro v;have j:=I.base.keep b o r v i f;exact(m b o j q).1 (I.base.free b o r v f)
 ·obtain⟨N,j⟩:=I.base.there b o r f;exact(m b N j q).2
def Jif{M:Model}{E:Ay}{O:Env}{outer:Bq}{L e:Addr}{l:An}{g:AE}{Q:Dm}
  (q:A.frames=So Cw) (r:O.frame=So L) (f:base.StaysIn h) (z:h.FunFrames base Cw) (j:Heap.MadeExcOf h VU e l g)
  (U:∀i a0,Heap.HeldW base Cw e l a0 L i->s.heap.UpToSlots i->Q () {s with heap:=i}):wpAny M A Og Q E s:=by
 obtain⟨t,u,y,W⟩:=j.there;have fresh:∀b,h.get? b=No->base.get? b=No:=λb m=>by
  cases N:base.get? b with
  |none=>rfl
  |some G=>have:=f b G N;rw[m]at this;cases this
 unfold noteFrame;simp only[r];refine Za (ZS (x:=XH) u rfl rfl ?_);rw[if_neg (show¬((Value.none !=Value.none)=To) by decide)];refine wpAny_entryW (a0:=.ref t) q (z.of_keeps λb o m _=>⟨o,j.keeps b o m,rfl⟩) r u (λb o m=>j.keeps b o (f b o m)) (fresh e j.new) rfl (by show 1<6;decide) rfl λi hN=>?_;obtain⟨J,v,F,I⟩:=hN;exact U i GU ⟨J,fresh e j.new,v,F⟩ I
noncomputable def nmK:Value->Str
 |.str n _=>n
 |_=>Yp
def Jux(P:Ba){K:Aj}{x:Str}{f:AE}{b:Bg}(M:Mod K mg base)(r:PySem.W.nsIn K mainGlobals x=So BC)(q:excIn K C f b=To):OwnCls x C f b mg base:=by obtain⟨mb,m,l⟩:=M.blt;obtain⟨o,u,v,F,E,k,i⟩:=id M.glob;refine PySem.W.own_of_in (p:=P) (loose:=u.toList.map λe=>nmK YA) (mb:=mb) M.kin ⟨M.glob,m,M.nolimit,l,λy _ h _ _ _=>?_⟩ r q;rw[<-i];refine Option.map_eq_none_iff.mpr (Array.find?_eq_none.mpr λe g z=>h (Zv.mpr ⟨e,by simpa using g,?_⟩));obtain⟨n,t,j⟩:=k e g;rw[j]at z⊢;exact fF z
section
variable{X:Cx}{x:Str}{e:Expr}{te:TE}{np cpos pos:Pos}{bs0:AE}{Bn nid iid:Bg}
def JqJ(f:Ci)(hg:YB)(hn:PySem.W.nsIn X.K mainGlobals x=So BC)(E:X.mg x=So BL)(hq:excIn X.K C bs0 nid=To)(l:ExcBaseFacts Bn nid iid bs0)(u:FM)(i:Q8)
  (hs:Kj):PS X WI (λD Z H=>te Z H λv W=>([v]:List V).length=1/\∀a s',FlyIn X C a W s'->X.xe Ar s'):=by
 intro Y s Z H D I h;obtain⟨J,N,nm,qn,bs,U,sn,sub,ab,col,dd,k0,k1,k2,k3,k5,mN,O,hN,j,T⟩:=(Jux XJ cO hn hq).obj;refine wpAny_Raise_call_subT (C:=C) (nm:=nm) (q:=qn) (N:=N) (bs:=bs) (bm:=J) (hdct:=U) (sn:=sn) (sub:=sub) (ab:=ab) (col:=col) (dd:=dd) (k0:=k0) (k1:=k1) (k2:=k2) (k3:=k3) (k5:=k5)
  l (mN:=mN) (T.hasType l.hasBase) (I.ok.hd f) (by rw[hs];rfl) j (rS I hg E L4 i)
 have o:=(JO u jD hs) cpos Y s Z H (λvs W=>AJ=1/\∀a s',FlyIn X C a W s'->X.xe Ar s') I h;rw[hs]at o⊢;refine sM (ZY o (λr m y=>?_) λ_ _ z=>z);obtain⟨vs,H2,g,M,F,G⟩:=y;have L:r.length<=sizeLine:=by rw[<-M.length,F];decide
 refine⟨rfl,L,g.bk _ _ O,hN.keeps g.bk,T.keeps g.bk,λh' a b=>?_⟩;exact G a _ ⟨Y,Z,g.kept (t':=m.toks) b.keeps,.inl ⟨m.heap,r,b,g⟩⟩
end
end Rd
namespace Rd
open PySem PySem.Spec PyProof.Rows L2 Pu
variable{H W:Hp}{d:D}{Z:Bl}{xs:Av}{s:Al}{X:Cx}{x:Str}{J:Ak}{a Cd:Addr}{Y:A8}{pos:Pos}{v:V}{pc ps pe:Px}{o:O2}{scope:Bf}{A:Bv}{E:Ay}{N:Ac}{nm:Bj}{elt iter tg:Expr}{ifs:CF}{its:AE}{nt:Nat}{cs:B4}{prog:Ba}{fp:A9}{α:Type}{P:D->Prop}
noncomputable def keyV:L2.Key->D
 |.inl n=>.int n
 |.inr x=>.str x
 |.non=>.non
mutual
def iC:KTr L2.Key->D
 |.a k=>keyV k
 |.t ks=>.tup bH
def zC:List (KTr Yu)->List D
 |[]=>[]
 |k::ks=>iC k::zC ks
end
def DK(H:Hp)(a:Addr)(t z:Bool)(ks:Ak)(xs:Av):Prop:=match t with
 |true=>∃kvs:List (List (KTr Yu)×V),(match z with
  |true=>∃o,H a=So (.frz o BA)
  |false=>H a=So BA)/\ks=kvs.map (λp=>.tup (zC p.1))/\xs=kvs.map (·.2)
 |false=>∃kvs:List (L2.Key×V),(match z with
  |true=>∃o,H a=So (.frz o AN)
  |false=>H a=So AN)/\ks=kvs.map (λp=>keyV p.1)/\xs=kvs.map (·.2)
def DK.mono{t z:Bool}{ks:Ak}(e:∀o,H a=So o->W a=So o)(h:Ry):DK W a t z ks xs:=by
 cases t<;>cases z<;>obtain⟨b,f,g⟩:=h
 ·exact Qd5
 ·exact⟨b,let⟨o,h⟩:=f;⟨o,e _ h⟩,g⟩
 ·exact Qd5
 ·exact⟨b,let⟨o,h⟩:=f;⟨o,e _ h⟩,g⟩
noncomputable def clsN (ns:Ac):Str:=if ns.contains (oS "rows")then oS "Board" else oS "Site"
mutual
def Rep(K:Aj)(H:Hp):D->V->Prop
 |.non,v=>v=.non
 |.bl b,v=>v=.bl b
 |.int i,v=>v=.int i
 |.str x,v=>v=.str x
 |.tup J,v=>∃a xs,v=.ref a/\SqT K H a xs/\Reps K H J xs
 |.lst J,v=>∃a xs,v=.ref a/\SqL K H a xs/\Reps K H J xs
 |.dct t z ks vs,v=>∃a xs,v=.ref a/\DK H a t z ks xs/\Reps K H vs xs
 |.exc c,v=>∃a o C,v=.ref a/\H a=So (.frz o Su)/\o.cls=.ref C/\PySem.W.nsIn K mainGlobals c=So BC
 |.fn x _,v=>∃f,v=.ref f/\PySem.W.nsIn K mainGlobals x=So EM
 |.obj a ns fs,v=>v=.ref a/\∃C e xs,H a=So (.ins C e Xl)/\PySem.W.nsIn K mainGlobals D9=So BC/\ns.length=aX/\Reps K H fs xs
 |.mls t J,v=>∃a xs,v=.ref a/\H a=So (.lsm t xs)/\Reps K H J xs
 |.adr b,v=>v=.ref b
def Reps(K:Aj)(H:Hp):List D->List V->Prop
 |[],xs=>xs=[]
 |d::J,xs=>∃x r,xs=x::r/\Rep K H d x/\Reps K H J r
end
def SqT.same{K:Aj}(e:B9)(h:cC):SqT K W a xs:=by
 rcases h with h|h
 ·exact .inl (e _ _ h)
 ·exact .inr h
mutual
theorem Rep.mono{K:Aj}{H W:Hp}(e:B9):∀(d:D){v:V},Rep K H d v->Rep K W d v
 |.non,_,h=>h
 |.bl _,_,h=>h
 |.int _,_,h=>h
 |.str _,_,h=>h
 |.tup J,_,⟨a,xs,e1,h1,h2⟩=>⟨a,xs,e1,SqT.same e h1,Reps.mono e J h2⟩
 |.lst J,_,⟨a,xs,e1,h1,h2⟩=>⟨a,xs,e1,e.seq h1,Reps.mono e J h2⟩
 |.dct t z ks vs,_,⟨a,xs,e1,h1,h2⟩=>⟨a,xs,e1,h1.mono (e a),Reps.mono e vs h2⟩
 |.exc c,_,⟨a,o,C,e1,h1,h2⟩=>⟨a,o,C,e1,e _ _ h1,h2⟩
 |.fn x _,_,h=>h
 |.obj a ns fs,_,⟨e1,C,dx,xs,h1,h2,h3,h5⟩=>⟨e1,C,dx,xs,e _ _ h1,h2,h3,Reps.mono e fs h5⟩
 |.mls t J,_,⟨a,xs,e1,h1,h2⟩=>⟨a,xs,e1,e _ _ h1,Reps.mono e J h2⟩
 |.adr _,_,h=>h
theorem Reps.mono{K:Aj}{H W:Hp}(e:B9):∀(J:Ak){xs:Av},Reps K H J xs->Reps K W J xs
 |[],_,h=>h
 |d::J,_,⟨x,r,e1,h1,h2⟩=>⟨x,r,e1,Rep.mono e d h1,Reps.mono e J h2⟩
end
theorem Reps.length{K:Aj}{H:Hp}:∀{J:Ak}{xs:Av},Reps K H J xs->Ah=Ae
 |[],_,h=>by cases h;rfl
 |d::J,_,⟨x,r,e1,h1,h2⟩=>by subst e1;simp[Reps.length h2]
theorem Reps.get{K:Aj}{H:Hp}:∀{J:Ak}{xs:Av}{i:Nat}{d:D},Reps K H J xs->J[i]? =So d->∃x,xs[i]? =So x/\Rep K H d x
 |[],_,_,_,_,e=>by simp at e
 |d::J,_,0,d',⟨x,r,e1,h1,h2⟩,e=>by subst e1;simp at e;subst e;exact⟨x,rfl,h1⟩
 |d::J,_,i+1,d',⟨x,r,e1,h1,h2⟩,e=>by
  subst e1
  obtain⟨y,f,b⟩:=Reps.get (i:=i) h2 (by simpa using e)
  exact⟨y,by simpa using f,b⟩
theorem Reps.get'{K:Aj}:∀{J:Ak}{xs:Av}{i:Nat}{x:V},Reps K H J xs->xs[i]? =So x->∃d,J[i]? =So d/\Rep K H d x
 |[],_,_,_,h,e=>by cases h;simp at e
 |d::J,_,0,d',⟨x,r,e1,h1,h2⟩,e=>by subst e1;simp at e;subst e;exact⟨d,rfl,h1⟩
 |d::J,_,i+1,d',⟨x,r,e1,h1,h2⟩,e=>by
  subst e1
  obtain⟨y,f,b⟩:=Reps.get' (i:=i) h2 (by simpa using e)
  exact⟨y,by simpa using f,b⟩
theorem Reps.append{K:Aj}:∀{J es:Ak}{xs ys:Av},Reps K H J xs->Reps K H es ys->Reps K H (J++es) (xs++ys)
 |[],_,_,_,h,h'=>by cases h;exact h'
 |d::J,es,_,ys,⟨x,r,e1,h1,h2⟩,h'=>by subst e1;exact⟨x,r++ys,rfl,h1,Reps.append h2 h'⟩
theorem Reps.take{K:Aj}:∀(n:Nat){J:Ak}{xs:Av},Reps K H J xs->Reps K H (J.take n) (xs.take n)
 |0,_,_,h=>by simp[Reps]
 |n+1,[],_,h=>by cases h;simp[Reps]
 |n+1,d::J,_,⟨x,r,e1,h1,h2⟩=>by subst e1;exact⟨x,r.take n,rfl,h1,Reps.take n h2⟩
theorem Reps.drop{K:Aj}:∀(n:Nat){J:Ak}{xs:Av},Reps K H J xs->Reps K H (J.drop n) (xs.drop n)
 |0,_,_,h=>by simpa using h
 |n+1,[],_,h=>by cases h;simp[Reps]
 |n+1,d::J,_,⟨x,r,e1,h1,h2⟩=>by subst e1;exact Reps.drop n h2
def Reps.nil_iff{K:Aj}(h:FY):xs=[]↔J=[]:=by
 have:=h.length;constructor
 ·intro e;subst e;cases J with
  |nil=>rfl
  |cons _ _=>simp at this
 ·intro e;subst e;exact h
def Reps.one{K:Aj}(h:Dv):Reps K H [d] [v]:=⟨v,[],rfl,h,rfl⟩
def Tups(K:Aj)(H W:Hp):Prop:=(∀a xs,SqT K H a xs->SqT K W a xs)/\∀a o u,H a=So (.frz o u)->W a=So LN
def Tups.of{K:Aj}(e:B9):Tups K H W:=⟨λ_ _ h=>SqT.same e h,λ_ _ _ h=>e _ _ h⟩
mutual
theorem Rep.tups{K:Aj}{H W:Hp}(e:Tups K H W):∀(d:D){v:V},d.imm=To->Rep K H d v->Rep K W d v
 |.non,_,_,h=>h
 |.bl _,_,_,h=>h
 |.int _,_,_,h=>h
 |.str _,_,_,h=>h
 |.tup J,_,i,⟨a,xs,e1,h1,h2⟩=>⟨a,xs,e1,e.1 _ _ h1,Reps.tups e J (by simpa[D.imm]using i) h2⟩
 |.lst J,_,i,_=>by simp[D.imm]at i
 |.dct t z ks vs,_,i,⟨a,xs,e1,h1,h2⟩=>by
  simp only[D.imm,Zc]at i
  refine⟨a,xs,e1,?_,Reps.tups e vs i.2 h2⟩
  obtain⟨rfl,_⟩:=i
  cases t<;>obtain⟨b,⟨o,g⟩,f⟩:=h1
  ·exact⟨b,⟨o,e.2 _ _ _ g⟩,f⟩
  ·exact⟨b,⟨o,e.2 _ _ _ g⟩,f⟩
 |.exc c,_,_,⟨a,o,C,e1,h1,h2⟩=>⟨a,o,C,e1,e.2 _ _ _ h1,h2⟩
 |.fn x _,_,_,h=>h
 |.obj a ns fs,_,i,_=>by simp[D.imm]at i
 |.mls _ _,_,i,_=>by simp[D.imm]at i
 |.adr _,_,i,_=>by simp[D.imm]at i
theorem Reps.tups{K:Aj}{H W:Hp}(e:Tups K H W):∀(J:Ak){xs:Av},imms J=To->Reps K H J xs->Reps K W J xs
 |[],_,_,h=>h
 |d::J,_,i,⟨x,r,e1,h1,h2⟩=>by
  simp only[imms,Zc]at i
  exact⟨x,r,e1,Rep.tups e d i.1 h1,Reps.tups e J i.2 h2⟩
end
noncomputable def hid (L:A9) (H:Hp):Hp:=λa=>if a∈L then No else H a
noncomputable def Chgb:HO->Prop
 |.lst _=>True
 |.dK _=>True
 |.dT _=>True
 |_=>False
def Ows(L:A9)(H:Hp):Prop:=∀a∈L,∃o,H a=So o/\Chgb o
def ItOk(b:It):Prop:=∀(L:A9)(i:Nat)(H:Hp)(x:V)(W:Hp),Ows L H->b.yld i H x W->b.yld i Bm x J0
section
variable{L L':A9}{H1:Hp}{o:HO}
def Jt(h:a∉L):hid L H a=H a:=by unfold hid;rw[if_neg h]
def iG(h:a∈L):hid L H a=No:=by unfold hid;rw[if_pos h]
def hU(h:hid L H a=So o):a∉L/\H a=So o:=by
 unfold hid at h;split at h
 ·cases h
 ·rename_i q;exact⟨q,h⟩
def hid_same:Same Bm H:=λa o h=>(hU h).2
def JqR(k:∀a o,H a=So o->a∉L->W a=So o/\a∉L'):Same Bm (hid L' W):=λa o h=>by
 obtain⟨g,b⟩:=hU h
 obtain⟨e,f⟩:=k a o b g
 rw[Jt f];exact e
def JE:hid [] H=H:=by funext a;exact Jt Ad
def JiL(h:a∉L):hid L ES=upd Bm a o:=by
 funext b;by_cases q:b=a
 ·subst q;rw[Jt h,Je,Je]
 ·rw[Jc q];by_cases r:b∈L
  ·rw[iG r,iG r]
  ·rw[Jt r,Jt r,Jc q]
end
def ReadOk(K:Aj)(H:Hp)(Z:Bl)(O:Fm):Prop:=∀(i:Nat)(d:D),O[i]? =So Bd->∃v,Z[i]? =So BO/\Rep K H d v
def ReadOk.mono{K:Aj}{O:Fm}(r:ReadOk K H Z O)(e:B9):ReadOk K W Z O:=λi d h=>
 let⟨v,b,f⟩:=r i d h
 ⟨v,b,f.mono e⟩
def XE(X:Cx)(C:Addr)(H:Hp):Prop:=∀a b,FlyIn X C a H b->X.xe Ar b
def XW(X:Cx)(H:Hp)(c:Str):Prop:=∀C W,X.mg c=So BL->Same H W->XE X C W
def XW.mono{c:Str}(e:B9)(h:XW X H c):XW X W c:=λC b f s=>h C b f (e.trans s)
def Out(X:Cx)(H:Hp)(Q:VK)(d:D):Prop:=∀v W,Same H W->Rep X.K W d v->Q v W
def Out.mono{b:Hp}{Q:VK}(h:dX)(e:Same H b):Out X b Q d:=λv W f r=>h v W (e.trans f) r
def Out.now{Q:VK}(h:dX)(r:Ia):Q v H:=h v H D8 r
inductive tI(X:Cx)(call:Ag)(p:Px)(σ:Bl)(H:Hp)(Q:VK):Prop where
 |mk:∀env,ReadOk X.K H σ env->(evD call p env).Good (Out X H Q) (XW X H)->tI X call p σ H Q
inductive tT(X:Cx)(call:Ag)(p:Px)(σ:Bl)(H:Hp)(Q:MD):Prop where
 |mk:∀env,ReadOk X.K H σ env->((evD call p env).Good (λd=>∃b,d=.bl b/\∀H',Same H H'->Q b H') Az)->tT X call p σ H Q
inductive tA(X:Cx)(call:Ag)(p:Px)(σ:Bl)(H:Hp)(Q:(List V->Hp->Prop)):Prop where
 |mk:∀env,ReadOk X.K H σ env->((evD call p env).Good (λd=>∃ds,d=.lst ds/\∀vs H',Same H H'->Reps X.K H' ds vs->Q vs H') Az)->tA X call p σ H Q
section
variable{U:Ag}{e a b c:Expr}{es:CF}{p pa pb:Px}
def PE.weak{t t':TE}(h:PE X e t)(g:∀Z H Q,t' Z H Q->t Z H Q):PE X e t':=λY s Z H Q I f=>h Y s Z H Q I LY
def PT.weak{t t':TT}(h:PT X e t)(g:∀Z H Q,t' Z H Q->t Z H Q):PT X e t':=λY s Z H Q I f=>h Y s Z H Q I LY
def PW.weak{t t':TT}(h:PW X e t)(g:∀Z H Q,t' Z H Q->t Z H Q):PW X e t':=λw Y s Z H Q I f=>h w Y s Z H Q I LY
def PA.weak{t t':TA}(h:aV)(g:∀Z H Q,t' Z H Q->t Z H Q):PA X es t':=λp Y s Z H Q I f=>h p Y s Z H Q I LY
def tI.then{O:Fm}{Q:VK}{k:D->Rs D}(r:Rw)(h:('ǉ'.bind k).Good Ct Az){f:VK}
  (j:∀d v W,Same H W->Rep X.K W d v->ReadOk X.K W Z O->(k d).Good (Out X W Q) (XW X W)->f v W):tI X U p Z H f:=by refine⟨O,r,'ħ'.imp λd g v W s i=>j d v W s i (r.mono s) (g.mono (λl o=>o.mono s) λc x=>x.mono s)⟩
def Jyi{i:Nat}(hN:X.N[i]? =So x)(m:Vis EW x)(j:Q8)(f:(x==("__classdict__":Str))=Fo):PE X Ck (tI X U B2):=by
 refine PE.weak (rA hN m j f) λZ H Q g=>?_;obtain⟨O,r,h⟩:=g;simp only[evD]at h;cases q:O[i]? with
 |none=>rw[q]at h;exact h.elim
 |some o=>
  cases o with
  |none=>rw[q]at h;exact h.elim
  |some d=>rw[q]at h;obtain⟨v,l,u⟩:=r i d q;exact⟨v,l,Out.now h u⟩
def JB{i:Int}{j}:PE X P9 (tI X U (.con A2)):=PE.weak qY λZ H Q⟨O,r,h⟩=>Out.now h rfl
def oI{i:Bool}{j}:PE X (.Constant (.bool i) j pos) (tI X U (.con (.bl i))):=PE.weak pe_bl λZ H Q⟨O,r,h⟩=>Out.now h rfl
def lY{j}:PE X Qr (tI X U Ek):=PE.weak JxA λZ H Q⟨O,r,h⟩=>Out.now h rfl
def JH{j}:PE X P8 (tI X U (.con D5)):=PE.weak Jrs λZ H Q⟨O,r,h⟩=>Out.now h rfl
def JwJ(X:Cx)(x:Str)(d:D):Prop:=∃v u,X.mg x=So u/\RelV v u/\∀H,Rep X.K H d v
def JtV(j:YB)(h:JwJ X x d)(f:Q8):PE X Ck Qae:=by obtain⟨v,u,g,r,i⟩:=h;exact PE.weak (Jta j g r f) λZ H Q⟨O,r,h⟩=>Out.now h (i H)
def rD2(X:Cx)(o:O2):R2:=λx y H Q=>∃f g,Rep X.K H f x/\Rep X.K H g y/\(op2 o f g).Good Ct Az
def tI.two{Q:VK}(h:tI X U Lu Z H Q):tOp K0 G6 LX Z H Q:=by obtain⟨O,r,h⟩:=h;refine tI.then r h λl x w z m f g=>?_;refine tI.then f g λq y B i j C u=>?_;exact⟨l,q,m.mono i,j,u⟩
def tN{op:cI}(g:OpR X QdD K0)(f:AO)(i:BJ):PE X ON Mv:=
 PE.weak (pe_op g f i) λZ H Q h=>h.two
def qK{op:bT}(g:Ra)(f:AO)(j:BJ)(i:F7):PE X F6 Mv:=
 PE.weak (Jnm g f j i) λZ H Q h=>h.two
def tT.asTest{Q:Fv}(h:tT X U p Z H Q):tI X U p Z H λx W=>∃k,x=.bl k/\Q k W:=by obtain⟨O,r,h⟩:=h;refine⟨O,r,h.imp λd f v W s g=>?_⟩;obtain⟨b,e,q⟩:=f;subst e;exact⟨b,g,q W s⟩
def zK{op:bT}(g:Ra)(f:AO)(j:BJ)(i:F7):PT X F6 (tT X U Lu):=
 PT.weak (JsS g f j i) λZ H Q h=>h.asTest.two
def pI_ix(f:IxR X K0)(g:AO)(i:BJ)(hs:nT b):PE X Nf Mv:=
 PE.weak (pe_ix f g i hs) λZ H Q h=>h.two
def tT.or{Q:Fv}(h:tT X U bX Z H Q):tOr KI (tT X U pb) Z H Q:=by
 obtain⟨O,r,h⟩:=h;refine⟨O,r,'ħ'.imp λd f=>?_⟩;cases d with
 |bl b=>
  refine Pf;cases b with
  |false=>exact iteF ⟨O,r.mono s,f.mono (λd⟨g,e,q⟩=>⟨g,e,λi j=>q i (s.trans j)⟩) λc x=>x.mono s⟩
  |true=>obtain⟨g,e,q⟩:=f;cases e;exact iteT (q W s)
 |_=>exact f.elim
def TR{op}(f:Qdk):PW X S7 KI:=by
 cases op
 ·exact Jts f
 ·exact JxW f
def kR{rest:CF}(f:Qdk)(g:PW X (.BoolOp .Or (b::rest) pos) (tT X U pb)):PW X Mq (tT X U bX):=
 PW.weak (pw_or f g) λZ H Q h=>h.or
def Jsa(i:Qdk):PT X Nl (tT X U QdH):=by
 refine PT.weak (Jwq i) λZ H Q f=>?_;obtain⟨O,r,h⟩:=f;refine⟨O,r,'ħ'.imp λd g=>?_⟩;cases d with
 |bl b=>obtain⟨j,e,q⟩:=g;cases e;exact⟨b,rfl,q⟩
 |_=>exact g.elim
def JsK{K:Aj}{b:Bool}(r:Dv)(h:d.truth=.ok b):TruV K v H b:=by
 cases d with
 |non=>cases r;simp only[D.truth]at h;cases h;rfl
 |bl c=>cases r;simp only[D.truth]at h;cases h;rfl
 |int i=>cases r;simp only[D.truth]at h;cases h;rfl
 |str x=>
  cases r;simp only[D.truth]at h;split at h
  ·rename_i q;cases h;exact⟨by rw[ZG];exact q,rfl⟩
  ·cases h
 |tup J=>obtain⟨a,xs,rfl,f,g⟩:=r;simp only[D.truth]at h;cases h;refine .inr (.inl ⟨xs,f,?_⟩);have:=Ya;cases J<;>cases xs<;>simp_all
 |lst J=>obtain⟨a,xs,rfl,f,g⟩:=r;simp only[D.truth]at h;cases h;refine .inl ⟨xs,f,?_⟩;have:=Ya;cases J<;>cases xs<;>simp_all
 |_=>simp only[D.truth]at h;cases h
def JpQ{c:Str}(h:d.truth=.ex c):False:=by cases d<;>simp only[D.truth]at h<;>first|cases h|(split at h<;>cases h)
def Jul{c:Str}(h:d.walk=.ex c):False:=by cases d<;>simp only[D.walk]at h<;>cases h
def Jsb(l:AO)(u:∀f,isTrue a Ue f=(do let v<-f;standAt a.pos;holding [v] c0)):PT X a (tT X U (.un .truth pa)):=by
 refine PT.weak (JqC l u) λZ H Q j=>?_;obtain⟨O,r,h⟩:=j;refine⟨O,r,'ħ'.imp λd g v W s m=>?_⟩;simp only[op1]at g;cases i:d.truth with
 |ok b=>rw[i]at g;obtain⟨w,e,q⟩:=g;cases e;exact⟨b,JsK m i,q W s⟩
 |ex c=>exact(JpQ i).elim
 |sk=>rw[i]at g;exact g.elim
def Jwj{op}(f:AO):PE X S7 G6:=Jrt f
def Jwy{rest:CF}(i:AO)(l:PE X (.BoolOp .And (b::rest) pos) LX):PE X (.BoolOp .And (a::b::rest) pos) (tI X U (.and pa pb)):=by
 refine PE.weak (JrL i l) λZ H Q f=>?_;obtain⟨O,r,h⟩:=f;refine tI.then r h λd v W s j q g=>?_;cases d with
 |bl b=>
  cases j;refine⟨b,rfl,?_⟩;cases b with
  |true=>exact iteT ⟨O,q,g⟩
  |false=>exact iteF Qby
 |_=>exact g.elim
def pI_or{rest:CF}(i:AO)(l:PE X (.BoolOp .Or (b::rest) pos) LX):PE X Mq (tI X U bX):=by
 refine PE.weak (pe_or i l) λZ H Q f=>?_;obtain⟨O,r,h⟩:=f;refine tI.then r h λd v W s j q g=>?_;cases d with
 |bl b=>
  cases j;refine⟨b,rfl,?_⟩;cases b with
  |true=>exact iteT Qby
  |false=>exact iteF ⟨O,q,g⟩
 |_=>exact g.elim
def JwD(i:AO):PE X Nl (tI X U QdH):=by
 refine PE.weak (Jxy i) λZ H Q f=>?_;obtain⟨O,r,h⟩:=f;refine tI.then r h λd v W s j q g=>?_;cases d with
 |bl b=>cases j;exact⟨b,rfl,Out.now g rfl⟩
 |_=>exact g.elim
def JwE(j:Qbn)(i:AO)(l:BJ):PE X Om (tI X U (.ite pc pa pb)):=by
 refine PE.weak (Jqu j i l) λZ H Q f=>?_;obtain⟨O,r,h⟩:=f;refine⟨O,r,'ħ'.imp λd g=>?_⟩;cases d with
 |bl b=>
  refine Pf;cases b with
  |true=>exact iteT WQ
  |false=>exact iteF WQ
 |_=>exact g.elim
def Jm:PA X [] (tA X U .nil):=by refine PA.weak jD λZ H Q f=>?_;obtain⟨O,r,h⟩:=f;obtain⟨J,e,q⟩:=h;cases e;exact q [] H D8 rfl
def Jd(m:PE X e G6)(l:PA X es (tA X U pb))(hs:CG):PA X Gk (tA X U (.cons pa pb)):=by
 refine PA.weak (JO m l hs) λZ H Q f=>?_;obtain⟨O,r,h⟩:=f;refine⟨O,r,'ħ'.imp λd z v W s u=>?_⟩;refine⟨O,r.mono s,((Rs.gB.mp z).imp λy i=>?_).mono (λ_ x=>x) λc x=>x.mono s⟩;cases y with
 |lst J=>refine⟨J,rfl,λj w g B=>?_⟩;obtain⟨C,e,q⟩:=i;cases e;exact q (v::j) w bY ⟨v,j,rfl,u.mono g,B⟩
 |_=>exact i.elim
def wG{a:Addr}{K:Aj}(h:H a=No)(r:FY):Same H (upd H a Bb)/\Rep K (upd H a Bb) Gz Ar:=by
 have s:Same H (upd H a Bb):=λb o e=>by rw[Jc (Ji e h)];exact e
 exact⟨s,a,xs,rfl,SqT.of Je,r.mono s⟩
def iH{a:Addr}{K:Aj}(h:H a=No)(r:FY):Same H (upd H a AA)/\Rep K Ro Bc Ar:=by
 have s:Same H Ro:=λb o e=>by rw[Jc (Ji e h)];exact e
 exact⟨s,a,xs,rfl,SqL.of Je,r.mono s⟩
def fE{k:Nat}(h:Qbo):PE X Qac (tI X U (.tup p)):=by
 refine PE.weak (Jwb h) λZ H Q g=>?_;obtain⟨O,r,h⟩:=g;refine⟨O,r,'ħ'.imp λd f=>?_⟩;cases d with
 |lst J=>
  simp only[D.asL,Rs.bo]at f;refine⟨J,rfl,λq W s rs=>?_⟩;split at f
  ·rename_i m;refine⟨by rw['ƚ',ZG];exact m,λa i=>?_⟩;obtain⟨j,l⟩:=wG i rs;exact f _ _ (s.trans j) l
  ·exact f.elim
 |_=>exact f.elim
def OutF(X:Cx)(H:Hp)(Q:VK)(d:D):Prop:=∃J,d=.lst J/\∀l xs W,Same H W->H l=No->W l=So AA->Reps X.K W J xs->Q BH W
inductive tF(X:Cx)(call:Ag)(p:Px)(σ:Bl)(H:Hp)(Q:VK):Prop where
 |mk:∀env,ReadOk X.K H σ env->(evD call p env).Good (OutF X H Q) (XW X H)->tF X call p σ H Q
end
structure Gw where
 prog:Program
 w:World
 K:PySem.W.Frag
 mg:Str->Option Value
 base:Heap
 A:Around
variable{G:Gw}
noncomputable def gwOf (X:Cx):Gw:=⟨XJ,X.w,X.K,X.mg,Yh,X.A⟩
noncomputable def visB (nm:Bj) (x:Str):Bool:=match nm.lookup x with
 |some .local=>To
 |some .cell=>To
 |some .free=>To
 |_=>Fo
noncomputable def celB (nm:Bj) (x:Str):Bool:=match nm.lookup x with
 |some .cell=>To
 |some .free=>To
 |_=>Fo
noncomputable def locB (nm:Bj) (x:Str):Bool:=match nm.lookup x with
 |some .local=>To
 |some .cell=>To
 |_=>Fo
noncomputable def gloB (nm:Bj) (x:Str):Bool:=match nm.lookup x with
 |some .globalImplicit=>To
 |_=>Fo
structure Ctx(X:Cx)(G:Gw)(N:Ac)(nm:Bj):Prop where
 g:gwOf X=G
 hN:X.N=N
 nd:N.Nodup
 vis:∀x,visB nm x=To->Vis EW x
 cel:∀x,celB nm x=To->X.env.kindOf x=So .cell\/X.env.kindOf x=So .free
 glo:∀x,gloB nm x=To->Gl X x
 sto:∀x,locB nm x=To->Loc EW x/\(X.fn x=To\/X.env.scope.names.lookup x=So .local)
 calm:X.calm=To
 un:X.A.units+64<cLine
 fr:∃e0 out0 L,XN=e0::out0/\e0.frame=So L/\X.env.frame=So L
def Ctx.K(C:Am):X.K=G.K:=by rw[<-C.g];rfl
def Ctx.mg(C:Am):X.mg=G.mg:=by rw[<-C.g];rfl
def Walk(K:Aj)(e:It)(H:Hp)(J:Ak):Prop:=∀W,Same H W->
 (∀i,i<Ae->e.go i W)/\e.stop Ae W/\∀i x b,i<Ae->e.yld i W x b->Same W b/\∃d,J[i]? =So d/\Rep K b d x
inductive tW(X:Cx)(call:Ag)(p:Px)(σ:Bl)(H:Hp)(R:(It->Hp->Prop)):Prop where
 |mk:∀env,ReadOk X.K H σ env->((evD call p env).Good (λd=>∃ds,d=.lst ds/\∀J H',Same H H'->Walk X.K J H' ds->ItOk J->R J H') Az)->tW X call p σ H R
noncomputable def vA (cs:B4):List (Str×NameKind)->List (Str×Addr)->List (Str×Addr)
 |[],acc=>acc
 |(n,k)::r,acc=>match k,cs.lookup n with
  |.free,So a=>vA cs r ((n,a)::acc)
  |_,_=>vA cs r acc
theorem JaP{O:Env}:∀(e:Bj)(b:B4),(∀y∈e,y.2=.free->∃c,O.cells.lookup y.1=So c)->
  (forIn e b λx r=>if(x.2==YV)=To then do let a<-cellOf O x.1;pure (ForInStep.yield ((x.1,a)::r))else pure SX:Sem (List (Str×Addr)))=pure (vA QcE e b)
 |[],b,_=>rfl
 |(n,k)::r,b,h=>by
  rw[uP]
  by_cases i:k=.free
  ·subst i
   obtain⟨c,q⟩:=h (n,.free) (.head _) rfl
   have f:O.cells.lookup n=So c:=q
   have m:cellOf O n=pure c:=by unfold cellOf;rw[f]
   simp only[ZE,if_true,m]
   have g:=JaP r ((n,c)::b) λy j=>h y (.tail _ j)
   simp only[vA,f]
   exact g
  ·have u:(k==YV)=Fo:=by simpa using i
   simp only[u,Zl,ZF]
   have g:=JaP r b λy j=>h y (.tail _ j)
   have l:vA QcE ((n,k)::r) b=vA QcE r b:=by
    cases k<;>first|rfl|exact absurd rfl i
   rw[l];exact g
def JeN{O:Env}(h:∀y∈scope.names,y.2=.free->∃c,O.cells.lookup y.1=So c):closureFor scope O=pure (vA QcE Yl []):=by have e:=JaP (O:=O) Yl [] h;unfold closureFor;simp only[bind_pure];exact e
theorem wU:∀(f:Bj)(b:B4),(∀x c,b.lookup x=So c->cs.lookup x=So c)->∀x c,(vA cs f b).lookup x=So c->cs.lookup x=So c
 |[],b,h=>h
 |(n,k)::r,b,h=>by
  intro x c
  have keep:=wU r b h x c
  unfold vA
  split
  ·rename_i a i
   refine wU r _ (λy d e=>?_) x c
   by_cases g:y=n
   ·subst g
    simp only[Zp,ZE]at e
    cases e
    exact i
   ·have j:(y==n)=Fo:=by simpa using g
    simp only[Zp,j]at e
    exact h y d e
  ·exact keep
theorem JcJ:∀(e:Bj)(b:B4)(x:Str),(∃c,b.lookup x=So c)->∃c,(vA cs e b).lookup x=So c
 |[],b,x,h=>h
 |(n,k)::r,b,x,h=>by
  unfold vA
  split
  ·refine JcJ r _ x ?_
   by_cases f:x=n
   ·subst f;exact⟨_,by simp only[Zp,ZE];rfl⟩
   ·have g:(x==n)=Fo:=by simpa using f
    obtain⟨c,i⟩:=h
    exact⟨c,by simp only[Zp,g];exact i⟩
  ·exact JcJ r b x h
theorem hV:∀(b:Bj)(f:B4)(x:Str),(x,YV)∈b->(∃c,cs.lookup x=So c)->∃c,(vA cs b f).lookup x=So c
 |[],f,x,h,_=>nomatch h
 |(n,k)::r,f,x,h,g=>by
  rcases Zf.mp h with e|i
  ·cases e
   obtain⟨c,g⟩:=g
   unfold vA
   rw[g]
   exact JcJ r _ _ ⟨c,by simp only[Zp,ZE]⟩
  ·unfold vA
   split
   ·exact hV r _ x i g
   ·exact hV r f x i g
noncomputable def relk (O:Env) (p:Str×NameKind):Str×NameKind:=if(p.2==YV&&O.scope.kind==.function&&O.kindOf p.1==So .cell)=To then(p.1,Yc)else(p.1,p.2)
def JiQ(O:Env)(n:Str)(k:cK):relk O (n,k)=(n,k)\/(k=.free/\relk O (n,k)=(n,.cell)):=by
 unfold relk;split
 ·rename_i b;simp only[Zc,ZI]at b;exact .inr ⟨b.1.1,rfl⟩
 ·exact .inl rfl
def Jgj(scope:Bf)(O:Env):'ӕ'.names=scope.names.map bI:=rfl
theorem JbZ{O:Env}{x:Str}:∀{b:Bj}{k:cK},b.lookup x=So k->(b.map bI).lookup x=So k\/(k=.free/\(b.map bI).lookup x=So .cell)
 |[],_,h=>by simp at h
 |(n,k')::r,k,h=>by
  rw[Zg]
  by_cases f:x=n
  ·subst f
   simp only[Zp,ZE]at h
   cases h
   rcases JiQ O x k' with e|⟨j,e⟩
   ·rw[e];exact .inl (by simp only[Zp,ZE])
   ·rw[e];exact .inr ⟨j,by simp only[Zp,ZE]⟩
  ·have g:(x==n)=Fo:=by simpa using f
   simp only[Zp,g]at h
   have i:=JbZ (O:=O) h
   rcases JiQ O n k' with e|⟨_,e⟩<;>rw[e]<;>simp only[Zp,g]<;>exact i
theorem Jie{O:Env}{x:Str}:∀{b:Bj},b.lookup x=No->(b.map bI).lookup x=No
 |[],_=>rfl
 |(n,k')::r,h=>by
  rw[Zg]
  by_cases f:x=n
  ·subst f;simp only[Zp,ZE]at h;cases h
  ·have g:(x==n)=Fo:=by simpa using f
   simp only[Zp,g]at h
   have i:=Jie (O:=O) h
   rcases JiQ O n k' with e|⟨_,e⟩<;>rw[e]<;>simp only[Zp,g]<;>exact i
def Jq{O:Env}{k:cK}(h:scope.names.lookup x=So k):'ӕ'.names.lookup x=So k\/(k=.free/\(relabel scope O).names.lookup x=So .cell):=JbZ h
def JY{O:Env}{k:cK}(h:'ӕ'.names.lookup x=So k):scope.names.lookup x=So k\/(k=.cell/\scope.names.lookup x=So .free):=by
 rw[Jgj]at h;cases q:scope.names.lookup x with
 |none=>rw[Jie q]at h;cases h
 |some f=>
  rcases JbZ (O:=O) q with z|⟨b,e⟩
  ·rw[z]at h;cases h;exact .inl rfl
  ·rw[e]at h;cases h;subst b;exact .inr Cv
theorem mem_of_lookup{α:Type}:∀{l:List (Str×α)}{x:Str}{a:α},l.lookup x=So a->(x,a)∈l
 |[],_,_,h=>by simp at h
 |(n,b)::r,x,a,h=>by
  by_cases e:x=n
  ·subst e;simp only[Zp,ZE]at h;cases h;exact .head _
  ·have f:(x==n)=Fo:=by simpa using e
   simp only[Zp,f]at h
   exact .tail _ (mem_of_lookup h)
def JhN{w:AQ}{R:Ks}{b:Expr}{it C:An}{O:Env}(I:Nat->Shared->Prop)
  (turn:∀n s,I n s->wpAny As A (pyNext it) (λr f=>match r with
   |none=>R (.ok .next) f
   |some v=>wpAny As A (letOwnedTupleGo b it v) (λ_ j=>wpAny As A (assign b O v) (λ_ y=>
     wpAny As A (forIn ifs To λc r=>if r=To then do let ok<-isTrue c O (eval c O);pure (ForInStep.yield ok)else pure SX) (λok g=>
      if ok=To then wpAny As A (eval elt O) (λx B=>
       wpAny As A (PySem.call (.builtin "list.append") [C,x]) (λ_ q=>∃m,m<n/\I m q) HI B) HI g
      else∃m,m<n/\I m g) HI y) HI j) HI f) HI s)
  (n:Nat) (h:I n s):
  codeAny As A (.compLoop Ws 0 it C O) R s:=by
 refine codeAny_loop rfl I (λn s hI=>?_) n h;show wpAny _ A ((compTurn Ws 0 it C O).onRaise (λx=>do noteFrame x O;theTreesLotGoes x)) _ _ s;refine wpAny_noted ?_;rw[compTurn_list];refine Za (wpAny_standAt (Za (ZY (turn n s hI) (λr f u=>?_) λ_ _ l=>l)));cases r with
 |none=>exact Zb u
 |some v=>
  refine Za (ZY u (λ_ j F=>?_) λ_ _ l=>l);refine Za (ZY F (λ_ y L=>Za (ZY L (λok g z=>?_) λ_ _ l=>l)) λ_ _ l=>l);cases ok with
  |false=>exact Zb ⟨rfl,z⟩
  |true=>exact Za (Za (ZY z (λx B U=>Za (ZY U (λ_ q M=>Zb (Zb ⟨rfl,M⟩)) λ_ _ l=>l)) λ_ _ l=>l))
noncomputable def dum (n:Str):Str:=⟨n.cps.push 0⟩
def hidN (ls N:Ac):List Str:=N.map λn=>if ls.contains n then dum n else n
theorem mZ:∀(b:Bj)(n:Nat)(e:B4)(x:Str)(c:Addr),(cellsFrom n b e).lookup x=So c->e.lookup x=So c\/(n<=c/\(x,Yc)∈b)
 |[],_,_,_,_,h=>.inl h
 |(y,k)::r,n,e,x,c,h=>by
  unfold cellsFrom at h
  split at h
  ·rename_i j
   rw[ZI]at j
   subst j
   rcases mZ r (n+1) _ x c h with q|⟨f,g⟩
   ·by_cases i:x=y
    ·subst i
     simp only[Zp,ZE,ZU]at q
     subst q
     exact .inr ⟨Zh _,by simp⟩
    ·have l:(x==y)=Fo:=by simpa using i
     simp only[Zp,l]at q
     exact .inl q
   ·exact .inr ⟨gQ f,by simp[g]⟩
  ·rcases mZ r n e x c h with q|⟨f,g⟩
   ·exact .inl q
   ·exact .inr ⟨f,by simp[g]⟩
theorem xY:∀(f:Bj)(n:Nat)(b:B4),(∀x c,b.lookup x=So c->c<n)->(∀x y c,b.lookup x=So c->b.lookup y=So c->x=y)->∀x y c,(cellsFrom n f b).lookup x=So c->(cellsFrom n f b).lookup y=So c->x=y
 |[],_,_,_,h=>h
 |(z,k)::r,n,b,hlt,h=>by
  unfold cellsFrom
  split
  ·refine xY r (n+1) _ (λx c e=>?_) λx y c j l=>?_
   ·by_cases g:x=z
    ·subst g
     simp only[Zp,ZE,ZU]at e
     subst e;exact ZaU _
    ·have i:(x==z)=Fo:=by simpa using g
     simp only[Zp,i]at e
     exact wB (hlt x c e)
   ·by_cases g:x=z<;>by_cases m:y=z
    ·rw[g,m]
    ·subst g
     have i:(y==x)=Fo:=by simpa using m
     simp only[Zp,ZE,ZU]at j
     simp only[Zp,i]at l
     subst j
     exact absurd (hlt y _ l) CH
    ·subst m
     have i:(x==y)=Fo:=by simpa using g
     simp only[Zp,ZE,ZU]at l
     simp only[Zp,i]at j
     subst l
     exact absurd (hlt x _ j) CH
    ·have i:(x==z)=Fo:=by simpa using g
     have q:(y==z)=Fo:=by simpa using m
     simp only[Zp,i]at j
     simp only[Zp,q]at l
     exact h x y c j l
  ·exact xY r n b hlt h
theorem Jig:∀(b:Bj)(n:Nat)(f:B4)(x:Str),(x,Yc)∉b->(cellsFrom n b f).lookup x=f.lookup x
 |[],_,_,_,_=>rfl
 |(y,k)::r,n,f,x,h=>by
  unfold cellsFrom
  split
  ·rename_i g
   rw[ZI]at g
   rw[Jig r _ _ x λq=>h (by simp[q])]
   have i:x≠y:=λe=>h (by simp[e,g])
   have j:(x==y)=Fo:=by simpa using i
   simp only[Zp,j]
  ·exact Jig r _ _ x λq=>h (by simp[q])
theorem fT:∀(e:Bj)(n:Nat)(b:B4)(x:Str),(∃c,b.lookup x=So c)->∃c,(cellsFrom n e b).lookup x=So c
 |[],_,_,_,h=>h
 |(y,k)::r,n,b,x,h=>by
  unfold cellsFrom
  split
  ·refine fT r _ _ x ?_
   by_cases f:x=y
   ·exact⟨n,by simp[Zp,f]⟩
   ·have g:(x==y)=Fo:=by simpa using f
    simpa only[Zp,g]using h
  ·exact fT r _ _ x h
theorem Jsr:∀(b:Bj)(n:Nat)(e:B4)(x:Str),(x,Yc)∈b->∃c,(cellsFrom n b e).lookup x=So c
 |[],_,_,_,h=>by cases h
 |(y,k)::r,n,e,x,h=>by
  unfold cellsFrom
  rcases Zf.mp h with q|q
  ·cases q
   simp only[ZE,if_true]
   exact fT r _ _ _ ⟨n,by simp[Zp]⟩
  ·split<;>exact Jsr r _ _ x q
theorem JiJ:∀(b:Bj)(h:Heap)(f:B4)(x:Str)(c:Addr),(cellsFrom Bz b f).lookup x=So c->f.lookup x=So c\/(Bz<=c/\(pushCells h b).IsCell c No)
 |[],_,_,_,_,e=>.inl e
 |(y,k)::r,h,f,x,c,e=>by
  unfold cellsFrom at e
  unfold pushCells
  split at e
  ·rename_i i
   rw[if_pos i]
   have g:(h.push {cls:=.type "cell",data:=.cell No}).objs.size=Bz+1:=ZL ..
   rw[<-g]at e
   rcases JiJ r (h.push {cls:=.type "cell",data:=.cell No}) _ x c e with q|⟨u,l⟩
   ·by_cases j:x=y
    ·subst j
     simp only[Zp,ZE,ZU]at q
     subst q
     exact .inr ⟨Zh _,_,kP _ _ _ _ FW,rfl⟩
    ·have m:(x==y)=Fo:=by simpa using j
     simp only[Zp,m]at q
     exact .inl q
   ·exact .inr ⟨by lia,l⟩
  ·rename_i i
   rw[if_neg i]
   exact JiJ r h f x c e
theorem wY{lo:Nat}:∀(b:Bj)(n:Nat)(f:B4)(x:Str),lo<=n->((x,Yc)∈b\/∀c,f.lookup x=So c->lo<=c)->∀c,(cellsFrom n b f).lookup x=So c->lo<=c
 |[],_,_,_,_,h,c,e=>by
  rcases h with h|h
  ·cases h
  ·exact h c e
 |(y,k)::r,n,f,x,hn,h,c,e=>by
  unfold cellsFrom at e
  split at e
  ·refine wY r (n+1) _ x (Nat.le_succ_of_le hn) ?_ c e
   by_cases i:x=y
   ·refine .inr λj g=>?_
    subst i
    simp only[Zp,ZE,ZU]at g
    subst g;exact hn
   ·have m:(x==y)=Fo:=by simpa using i
    rcases h with h|h
    ·rcases Zf.mp h with q|q
     ·cases q;exact absurd rfl i
     ·exact .inl q
    ·refine .inr λj g=>?_
     simp only[Zp,m]at g
     exact h j g
  ·rename_i l
   refine wY r n f x hn ?_ c e
   rcases h with h|h
   ·rcases Zf.mp h with q|q
    ·cases q;exact absurd (ZE _) l
    ·exact .inl q
   ·exact .inr h
def oO (X:Cx) (ls:Ac) (scope:Bf) (C:Addr) (s:Al) (H:Hp) (fp:A9) (E:Ay):Cx:=
 {X with N:=ls++hidN ls X.N,s₀:=s,H₀:=H,env:=compEnvC scope (cellsFrom (C+1) Yl (vA X.env.cells Yl [])) C Ue,outer:=XN,ex:=fp,fn:=λx=>scope.names.lookup x==So .cell,pn:=[],xe:=E}
def JvO (N:Ac) (nm:Bj) (ls:Ac) (b:Bj):Bool:=
 b.all λy=>(y.2 !=.cell||(b.lookup y.1==So .cell&&ls.contains y.1))&&(y.2 !=.free||celB nm y.1)&&(y.2 !=.local||(b.lookup y.1==So .local&&(ls.contains y.1||!N.contains y.1)))
structure ScOk(N:Ac)(nm:Bj)(ls:Ac)(sc:Bf):Prop where
 kind:sc.kind=.function
 nd:(ls++hidN ls N).Nodup
 all:JvO N nm ls X5=To
 no:∀n∈N,ls.contains n=To->sc.names.lookup (dum n)=No
section
variable{ls:Ac}{sc:Bf}
def ScOk.at(h:EU){y:Str×NameKind}(b:y∈sc.names):(y.2=.cell->sc.names.lookup y.1=So .cell/\y.1∈ls)/\(y.2=.free->celB nm y.1=To)/\(y.2=.local->sc.names.lookup y.1=So .local/\(y.1∈ls\/y.1∉N)):=by
 have q:=uB.mp h.all y b;simp only[Zc,bne_iff_ne,nB,ZI,ZV,sJ,Zw,oE]at q;refine⟨λe=>?_,λe=>?_,λe=>?_⟩
 ·rcases q.1.1 with z|z
  ·exact absurd e z
  ·exact z
 ·rcases q.1.2 with z|z
  ·exact absurd e z
  ·exact z
 ·rcases q.2 with z|z
  ·exact absurd e z
  ·exact z
def ScOk.fcell(h:EU)(b:sc.names.lookup x=So .free):(x,Yc)∉sc.names:=λq=>by
 have:=((h.at q).1 rfl).1
 rw[b]at this;cases this
def ScOk.cells(h:EU)(C:Am)(ok:X.Ok):∀y∈sc.names,y.2=.free->∃c,X.env.cells.lookup y.1=So c:=λy b e=>ok.has _ (C.cel _ ((h.at b).2.1 e))
def JqP(C:Am)(h:EU):Ctx QL G Df X5 where
 g:=C.g
 hN:=by show ls++hidN ls X.N=_;rw[C.hN]
 nd:=h.nd
 vis:=λx b=>by
  show Vis 'ǵ' x
  unfold visB at b
  split at b
  ·rename_i e
   rcases Jq (O:=Ue) e with z|⟨z,_⟩
   ·exact .inl z
   ·cases z
  ·rename_i e
   rcases Jq (O:=Ue) e with z|⟨z,_⟩
   ·exact .inr Y7
   ·cases z
  ·rename_i e
   rcases Jq (O:=Ue) e with z|⟨_,z⟩
   ·exact .inr bJ
   ·exact .inr Y7
  ·cases b
 cel:=λx b=>by
  show(relabel sc Ue).names.lookup x=So .cell\/(relabel sc Ue).names.lookup x=So .free
  unfold celB at b
  split at b
  ·rename_i e
   rcases Jq (O:=Ue) e with z|⟨z,_⟩
   ·exact .inl z
   ·cases z
  ·rename_i e
   rcases Jq (O:=Ue) e with z|⟨_,z⟩
   ·exact .inr z
   ·exact .inl z
  ·cases b
 glo:=λx b=>by
  show(relabel sc Ue).names.lookup x=So .globalImplicit
  unfold gloB at b
  split at b
  ·rename_i e
   rcases Jq (O:=Ue) e with z|⟨z,_⟩
   ·exact z
   ·cases z
  ·cases b
 sto:=λx b=>by
  show Loc 'ǵ' x/\((sc.names.lookup x==So .cell)=To\/(relabel sc Ue).names.lookup x=So .local)
  unfold locB at b
  split at b
  ·rename_i e
   rcases Jq (O:=Ue) e with z|⟨z,_⟩
   ·exact⟨.inl z,.inr z⟩
   ·cases z
  ·rename_i e
   rcases Jq (O:=Ue) e with z|⟨z,_⟩
   ·exact⟨.inr z,.inl (by rw[e];rfl)⟩
   ·cases z
  ·cases b
 calm:=Yq
 un:=C.un
 fr:=C.fr
noncomputable abbrev uE (its:AE) (n:Nat):Obj:={cls:=.type "list",dict:=No,data:=.seq AF n}
theorem Jpa{g:Heap}{tk:Nat}{m:Bk}{h0:Heap}(C:Am)(h:EU)(hh:g=pushCells h0 X5)(h0s:h0.objs.size=Cd+1)(I:AH)
  (hf:∀b∈fp,FpOk X Y H b) (ho:∀b∈fp,∃o,s.heap.get? b=So o) (hC:Cd=Aa+1) (hns:g.Ns Cd m) (keep:∀b o,s.heap.get? b=So o->g.get? b=So o)
  (hacc:g.get? Aa=So (uE [] 0)):
  Inv QL [(Aa,uE [] 0)] (List.replicate BM No++Z) H {s with heap:=g,toks:=tk}:=by
 subst hC
 have sub:∀x c,'Œ'.lookup x=So c->X.env.cells.lookup x=So c:=wU X5 [] λx c e=>by simp at e
 have old':∀x c,'Œ'.lookup x=So c->c<Aa:=λx c e=>by
  obtain⟨v,o,h1,h2⟩:=I.cell x c (sub x c e)
  exact Zj h1
 have L:∀x c,(cellsFrom (Aa+1+1) X5 'Œ').lookup x=So c->X.env.cells.lookup x=So c\/(Aa+1+1<=c/\g.IsCell c No):=λx c e=>by
  rw[<-h0s]at e
  rcases JiJ X5 h0 _ x c e with q|⟨q1,q2⟩
  ·exact .inl (sub x c q)
  ·exact .inr ⟨h0s▸q1,hh▸q2⟩
 have stk:∀b∈frs XN,b<Aa:=λb F=>by
  obtain⟨_,o,ho,_⟩:=I.stack.mem F
  exact Zj ho
 refine⟨⟨cO,h.kind,I.ok.glob,I.ok.blt,mC _,xY _ _ _ (λx c e=>wB (wB (old' x c e))) λx y c e1 e2=>I.ok.inj x y c (sub x c e1) (sub y c e2),λx hk=>?_,λx c z e=>?_,I.ok.hd,dZ,.inl rfl,λb F=>?_,I.bs,Zq I.ok.bsz I.sz,λb o e F=>?_,λb F hz=>?_,I.stack,I.stkFree⟩,
  rfl,Yi,Un.kept keep,⟨m,hns,λi x v hN B hv=>?_⟩,λx c e=>?_,?_,λx c e=>?_,λp hp=>?_,I.hok.kept keep,?_⟩
 ·--every cell name has its cell
  have hk':'ǵ'.names.lookup x=So .cell\/(relabel sc Ue).names.lookup x=So .free:=hk
  have j:sc.names.lookup x=So .free\/sc.names.lookup x=So .cell:=by
   rcases hk' with z|z
   ·rcases JY z with q|⟨_,q⟩
    ·exact .inr q
    ·exact .inl q
   ·rcases JY z with q|⟨q,_⟩
    ·exact .inl q
    ·cases q
  rcases j with j|j
  ·have hm:=mem_of_lookup j
   exact fT _ _ _ _ (hV X5 [] x hm (h.cells C I.ok (x,.free) hm rfl))
  ·exact Jsr _ _ _ _ (mem_of_lookup j)
 ·have z':sc.names.lookup x=So .cell:=by
   have z2:(sc.names.lookup x==So .cell)=To:=z
   simpa using z2
  have U:(cellsFrom (Aa+1+1) X5 'Œ').lookup x=So c:=e
  have:=wY (lo:=Aa+1+1) _ _ _ _ (Zh _) (.inl (mem_of_lookup z')) c U
  show Aa<=c
  lia
 ·obtain⟨o,e⟩:=ho b F
  refine⟨Zu (wB (Zj e)),λx c U=>?_⟩
  rcases L x c U with q|⟨q,_⟩
  ·exact(hf b F).2.2.2.2.1 x c q
  ·have:=Zj e
   exactλee=>vQ _ (ZB (wB (wB this)) (ee▸q))
 ·rcases(hf b F).2.2.2.1 with z|z
  ·exact I.ok.noex b o e z
  ·exact absurd (ZB (Zj (I.ok.bs b o e).1) z) CH
 ·rcases Zf.mp (I.stkSub b hz)with z|z
  ·exact(hf b F).2.1 z
  ·exact(hf b F).2.2.1 z
 ·--a name that the block sees
  have f:(ls++hidN ls X.N)[i]? =So x:=hN
  by_cases hi:i<BM
  ·rw[qG (by simpa using hi)]at B
   rw[pW]at B
   split at B<;>cases B
  ·have hi':BM<=i:=Nat.le_of_not_lt hi
   rw[rG hi']at f
   rw[rG (by simpa using hi')]at B
   rw[vJ]at B
   obtain⟨f,hxl⟩:X.N[i-BM]? =So x/\x∉ls:=by
    unfold hidN at f
    rw[xB]at f
    cases q:X.N[i-BM]? with
    |none=>rw[q]at f;cases f
    |some n=>
     rw[q]at f
     simp only[Option.map_some,ZU]at f
     by_cases hc:ls.contains n=To
     ·rw[if_pos hc]at f
      have hno:=h.no n (by rw[<-C.hN];exact uM q) hc
      rw[f]at hno
      have M:'ǵ'.names.lookup x=So .local\/(relabel sc Ue).names.lookup x=So .cell\/(relabel sc Ue).names.lookup x=So .free:=hv
      exfalso
      rcases M with z|z|z<;>rcases JY z with q|⟨_,q⟩<;>(rw[hno]at q;cases q)
     ·rw[if_neg hc]at f
      subst f
      exact⟨rfl,by simpa using hc⟩
   have hxN:x∈N:=by rw[<-C.hN];exact uM f
   have j:sc.names.lookup x=So .free:=by
    have M:'ǵ'.names.lookup x=So .local\/(relabel sc Ue).names.lookup x=So .cell\/(relabel sc Ue).names.lookup x=So .free:=hv
    rcases M with z|z|z
    ·rcases JY z with q|⟨q,_⟩
     ·have w:=((h.at Qaf).2.2 rfl).2
      rcases w with w|w
      ·exact absurd w hxl
      ·exact absurd hxN w
     ·cases q
    ·rcases JY z with q|⟨_,q⟩
     ·exact absurd ((h.at Qaf).1 rfl).2 hxl
     ·exact q
    ·rcases JY z with q|⟨q,_⟩
     ·exact q
     ·cases q
   have hm:=mem_of_lookup j
   have hk:=C.cel x ((h.at hm).2.1 rfl)
   have hvX:Vis EW x:=by
    rcases hk with z|z
    ·exact .inr Y7
    ·exact .inr bJ
   obtain⟨m0,_,hl⟩:=Ys
   obtain⟨u,r,l⟩:=hl (i-BM) x v f B hvX
   refine⟨u,r,.inr GX⟩
   ·show(relabel sc Ue).names.lookup x=So .cell\/(relabel sc Ue).names.lookup x=So .free
    rcases Jq (O:=Ue) j with z|⟨_,z⟩
    ·exact .inr z
    ·exact .inl z
   ·rcases l with⟨z,_⟩|⟨_,c,e,z⟩
    ·rcases hk with w|w<;>(rw[w]at z;cases z)
    ·obtain⟨c',U⟩:=hV (cs:=X.env.cells) X5 [] x hm ⟨c,e⟩
     have e2:=sub x c' U
     rw[e]at e2
     cases e2
     obtain⟨o,h1,h2⟩:=z
     exact⟨c,(Jig _ _ _ _ (h.fcell j)).trans U,o,keep _ _ h1,h2⟩
 ·rcases L x c e with q|⟨_,q⟩
  ·obtain⟨v,o,h1,h2⟩:=I.cell x c q
   exact⟨v,o,keep _ _ h1,h2⟩
  ·exact⟨No,q⟩
 ·exact I.hok.fresh (mC _)
 ·rcases L x c e with q|⟨q,_⟩
  ·exact I.freeC x c q
  ·exact I.hok.fresh Af
 ·have e:p=(Aa,uE [] 0):=by simpa[oO]using hp
  subst e
  exact⟨hacc,I.hok.fresh (Zh _),Zu Y1,λF=>vQ _ (stk _ F),λv z=>(by cases z)⟩
 ·show(List.replicate BM No++Z).length=(ls++hidN ls X.N).length
  rw[Zn,Zn,vJ,I.len]
  unfold hidN
  rw[Zi]
end
open PySem.SeqAt (EqAt RcAt RcNeAt)
theorem Jkt:∀{as bs:Ak},eqvs as bs=To->as.length=Qdw
 |[],[],_=>rfl
 |[],_::_,h=>nomatch h
 |_::_,[],h=>nomatch h
 |a::as,b::bs,h=>by
  simp[Jkt (xV.mp h).2]
theorem JcH:∀e bs:List D,cT=bs.length->eqvs e bs=(List.range cT).all λj=>(e.getD j .non).eqv (bs.getD j .non)
 |[],[],_=>rfl
 |a::e,b::bs,h=>by
  have f:=JcH e bs (by simpa using h)
  rw[Zk,jW,gF,uL]
  rw[Jwz,f]
  rfl
def JnQ{as bs:Ak}(h:as.length≠bs.length):eqvs as bs=Fo:=by
 cases e:eqvs as bs with
 |false=>rfl
 |true=>exact absurd (Jkt e) h
theorem qT:∀{J:Ak}{n j:Nat},deps J<=n->'ǥ'.dep<=n
 |[],n,j,_=>by simp[D.dep]
 |d::J,n,0,h=>by simp only[deps]at h;simp;lia
 |d::J,n,j+1,h=>by
  simp only[deps]at h
  have:=qT (J:=J) (n:=n) (j:=j) Af
  simpa using this
section
variable{X:Cx}{Y:A8}{Z:Bl}{H:Hp}{s:Al}
def JgU(I:BU){ys:Av}(h1:IA)(j:SqT X.K H a ys):False:=by obtain⟨its,_,i,_⟩:=I.list h1;obtain⟨b,_,h,_⟩:=I.tuple j;obtain⟨o,e,c,_⟩:=i.isList;obtain⟨m,f,g,_⟩:=h;rw[e]at f;cases f;rw[c]at g;injection g with l;exact absurd l AB
inductive KD(X:Cx)(H:Hp):D->V->Prop
 |non:KD X H .non .non
 |bl (b:Bool):KD X H (.bl b) (.bl b)
 |int (i:Int):KD X H (.int i) (.int i)
 |str (x:Str):KD X H (.str x) (.str x)
 |tup {ds:List D} {a:Addr} {xs:List V} (h:SqT X.K H a xs) (r:Reps X.K H ds xs):KD X H (.tup ds) (.ref a)
 |lst {ds:List D} {a:Addr} {xs:List V} (h:SqL X.K H a xs) (r:Reps X.K H ds xs):KD X H (.lst ds) (.ref a)
def kd(p:d.dep<1000)(r:Ia):KD X H d v:=by
 cases d with
 |non=>cases r;exact .non
 |bl b=>cases r;exact .bl b
 |int i=>cases r;exact .int i
 |str x=>cases r;exact .str x
 |tup J=>obtain⟨a,xs,rfl,e,f⟩:=r;exact .tup e f
 |lst J=>obtain⟨a,xs,rfl,e,f⟩:=r;exact .lst e f
 |_=>simp[D.dep]at p
theorem Jfz{n:Nat}(b:∀{d d':D}{v:V},bV<=n->d'.dep<1000->Rep X.K H d v->Rep X.K H d' v->d=d'):∀{J es:Ak}{xs:Av},deps J<=n->deps es<1000->Reps X.K H J xs->Reps X.K H es xs->J=es
 |[],es,xs,_,_,h,h'=>by
  cases h
  cases es with
  |nil=>rfl
  |cons _ _=>obtain⟨_,_,e,_⟩:=h';cases e
 |d::J,[],_,_,_,⟨_,_,e,_⟩,h'=>by cases e;cases h'
 |d::J,c::es,_,p,p',⟨x,r,e,h1,h2⟩,⟨x',r',e1,h3,h4⟩=>by
  cases e;cases e1
  simp only[deps]at p p'
  rw[b 'h' 'h' h1 h3,Jfz b 'h' 'h' h2 h4]
def Rep.inj(I:BU)(n:Nat):n<1000->∀{d d':D}{v:V},bV<=n->d'.dep<1000->Rep X.K H d v->Rep X.K H d' v->d=d':=by
 induction n using Nat.strongRecOn with
 |_ n i=>
  intro m d d' v p f r j;have k:=kd Af r;have l:=kd f j;clear r j;rcases k with _|_|_|_|⟨b,h⟩|⟨b,h⟩<;>rcases l with _|_|_|_|⟨e,g⟩|⟨e,g⟩<;>first|rfl|skip
  ·cases I.tuple_inj b e;simp only[D.dep]at p f;rw[Jfz (n:=n-1) (λq=>i (n-1) Af Af q) 'h' 'h' h g]
  ·exact(JgU I e b).elim
  ·exact(JgU I b e).elim
  ·cases I.list_inj b e;simp only[D.dep]at p f;rw[Jfz (n:=n-1) (λq=>i (n-1) Af Af q) 'h' 'h' h g]
def JkI(I:BU)(b:F1)(f:G0){j:Nat}(h:j<CL):∃v,Rep X.K H 'ǥ' v/\RelV v AF[j]:=by
 have q:j<B0:=by simpa using h
 have w:=cU;have y:=YU;have g:J[j]? =So 'ǥ':=by rw[pM,ZC 'h'];rfl
 obtain⟨v,l,r⟩:=b.get g;obtain⟨u,m,i⟩:=f.get l;refine⟨v,r,?_⟩;have:AF[j]=u:=by have e:its[j]? =So u:=m;rw[ZC q]at e;simpa using e
 rw[this];exact i
inductive KU(X:Cx)(H:Hp)(s:Al):D->Value->Prop
 |non:KU X H s .non .none
 |bl (b:Bool):KU X H s (.bl b) (.bool b)
 |int (i:Int) (t:Tok):KU X H s (.int i) (.int i t)
 |str (x:Str) (t:Tok):KU X H s (.str x) (.str x t)
 |tup {ds:List D} {a:Addr} {xs:List V} {its:List Value} (r:Reps X.K H ds xs) (v:Vals xs its) (p:IsTup s.heap a 'Ɔ'):KU X H s (.tup ds) (.ref a)
 |lst {ds:List D} {a:Addr} {xs:List V} {its:List Value} (r:Reps X.K H ds xs) (v:Vals xs its) (p:s.heap.IsList a 'Ɔ'):KU X H s (.lst ds) (.ref a)
def ku(I:BU){u:An}(p:d.dep<1000)(r:Ia)(q:Fs):KU X H s d u:=by
 cases kd p r with
 |non=>cases q;exact .non
 |bl b=>cases q;exact .bl b
 |int i=>obtain⟨t,rfl⟩:=q;exact .int i t
 |str x=>obtain⟨t,rfl⟩:=q;exact .str x t
 |tup f h=>cases q;obtain⟨its,g,e,_⟩:=I.tuple f;exact .tup h g e
 |lst f h=>cases q;obtain⟨its,g,e,_⟩:=I.list f;exact .lst h g e.isList
def EqAt.rc{u b:An}{k:Bool}(q:KU X H s d u)(h:RcAt A s u b k)(g:u=b->k=To):EqAt A s u b k:=λprog w E Q f=>by
 unfold eqBool
 refine wA (iI (λe=>?_) λ_=>?_)
 ·rw[g (fF e)]at f
  exact Za (kB (Zb f))
 ·cases q<;>exact Za (h prog w E _ (nD f))
theorem eX(I:BU)(n:Nat):∀(A:Bv)(d d':D){v O:V}{u B:An},bV<=n->n<=900->d'.dep<1000->Rep X.K H d v->Rep X.K H d' O->RelV v u->RelV O B->YH+n+1<cLine->
  RcAt A s u B (d.eqv d')/\RcNeAt A s u B (!d.eqv d')/\EqAt A s u B (d.eqv d'):=by
 induction n using Nat.strongRecOn with
 |_ n ih=>
  intro A d d' v O u B p hn C r U q q' hu;have k:=ku I Af r q;have k':=ku I C U q';suffices z:RcAt A s u B (d.eqv d')/\RcNeAt A s u B (!d.eqv d')from⟨z.1,z.2,EqAt.rc k z.1 λe=>by subst e;cases q.inj q';rw[<-Rep.inj I n 'h' p C r U];exact fS d Af⟩
  have b:A.units<cLine:=by lia
  have M:∀{J i:Ak}{xs ys:Av}{its its2:AE},(D.tup J).dep<=n->(D.tup i).dep<1000->Reps X.K H J xs->Reps X.K H i ys->Vals xs its->Vals ys its2->∀j(g1:j<CL)(g2:j<EY),EqAt XU s AF[j] its2.toArray[j] ('ǥ'.eqv Qbz):=λz1 z2 y m w h j g1 g2=>by obtain⟨w1,k1,k2⟩:=JkI I y w g1;obtain⟨w2,k3,k4⟩:=JkI I m h g2;simp only[D.dep]at z1 z2;exact(ih (n-1) Af XU _ _ (qT Af) Af (yH (qT (Zh _)) Af) k1 k3 k2 k4 (by show A.units+1+(n-1)+1<cLine;lia)).2.2
  clear ih r U q q';rcases k with _|_|_|_|@⟨J,_,_,its,y,w,g⟩|@⟨J,_,_,its,y,w,g⟩<;>rcases k' with _|_|_|_|@⟨i,_,_,its2,m,h,f⟩|@⟨i,_,_,its2,m,h,f⟩
  ·exact⟨.none_none,.none_none⟩
  ·exact⟨.none_bool _,.none_bool _⟩
  ·exact⟨.none_int _ _,.none_int _ _⟩
  ·exact⟨.none_str _ _,.none_str _ _⟩
  ·exact⟨.none_tuple f b,.none_tuple f b⟩
  ·exact⟨.none_list f b,.none_list f b⟩
  ·exact⟨.bool_none _,.bool_none _⟩
  ·exact⟨.bool_bool _ _,.bool_bool _ _⟩
  ·exact⟨.bool_int _ _ _,.bool_int _ _ _⟩
  ·exact⟨.bool_str _ _ _,.bool_str _ _ _⟩
  ·exact⟨.bool_tuple _ f b,.bool_tuple _ f b⟩
  ·exact⟨.bool_list _ f b,.bool_list _ f b⟩
  ·exact⟨.int_none _ _,.int_none _ _⟩
  ·exact⟨.int_bool _ _ _,.int_bool _ _ _⟩
  ·exact⟨.int_int _ _ _ _,.int_int _ _ _ _⟩
  ·exact⟨.int_str _ _ _ _,.int_str _ _ _ _⟩
  ·exact⟨.int_tuple _ _ f b,.int_tuple _ _ f b⟩
  ·exact⟨.int_list _ _ f b,.int_list _ _ f b⟩
  ·exact⟨.str_none _ _,.str_none _ _⟩
  ·exact⟨.str_bool _ _ _,.str_bool _ _ _⟩
  ·exact⟨.str_int _ _ _ _,.str_int _ _ _ _⟩
  ·exact⟨.str_str _ _ _ _,.str_str _ _ _ _⟩
  ·exact⟨.str_tuple _ _ f b,.str_tuple _ _ f b⟩
  ·exact⟨.str_list _ _ f b,.str_list _ _ f b⟩
  ·exact⟨.tuple_none g b,.tuple_none g b⟩
  ·exact⟨.tuple_bool _ g b,.tuple_bool _ g b⟩
  ·exact⟨.tuple_int _ _ g b,.tuple_int _ _ g b⟩
  ·exact⟨.tuple_str _ _ g b,.tuple_str _ _ g b⟩
  ·have F:CL=Ae:=by rw[Zo,<-w.length,y.length]
   have L:EY=i.length:=by rw[Zo,<-h.length,m.length]
   have ev:((List.range (min CL EY)).all (λj=>'ǥ'.eqv Qbz)&&its.toArray.size==EY)=eqvs J i:=by
    rw[F,L];by_cases l:Ae=Yn
    ·rw[JcH J i l,<-l,Nat.min_self];simp
    ·rw[JnQ l];simp[l]
   show RcAt A s _ _ (eqvs J i)/\RcNeAt A s _ _ (!eqvs J i);rw[<-ev];exact⟨.tuples g f b MR,.tuples g f b MR⟩
  ·exact⟨.tuple_list g f b,.tuple_list g f b⟩
  ·exact⟨.list_none g b,.list_none g b⟩
  ·exact⟨.list_bool _ g b,.list_bool _ g b⟩
  ·exact⟨.list_int _ _ g b,.list_int _ _ g b⟩
  ·exact⟨.list_str _ _ g b,.list_str _ _ g b⟩
  ·exact⟨.list_tuple g f b,.list_tuple g f b⟩
  ·have F:CL=Ae:=by rw[Zo,<-w.length,y.length]
   have L:EY=i.length:=by rw[Zo,<-h.length,m.length]
   show RcAt A s _ _ (eqvs J i)/\RcNeAt A s _ _ (!eqvs J i);by_cases l:Ae=Yn
   ·rw[JcH J i l,<-F];exact⟨.lists g f (by rw[F,L,l]) b MR,.lists g f (by rw[F,L,l]) b MR⟩
   ·rw[JnQ l];have hb:('Ɖ' !=EY)=To:=by rw[F,L];simpa using l
    exact⟨.lists_lengths g f hb b,.lists_lengths g f hb b⟩
end
section
variable{U:Ag}{c:Expr}{p:Px}
def PIf(X:Cx)(ifs:CF)(t:TT):Prop:=∀(Y:A8)(s:Al)(Z:Bl)(H:Hp)(Q:Fv),L2.Inv X Y Z H s->t Z H Q->
 wpAny AD X.A (forIn ifs To λc r=>if r=To then do let ok<-isTrue c Ue (eval c Ue);pure (ForInStep.yield ok)else pure SX) Mf X.xe s
def jT:PIf X [] (tT X U BV):=λY s Z H Q I⟨O,r,b,e,q⟩=>by
 cases e
 exact wpAny_tests_nil ⟨H,I,q H D8⟩
def pZ(h:PT X c c8):PIf X [c] c8:=λY s Z H Q I w=>wpAny_tests_one (h Y s Z H Q I w)
def Jmu:∀{l:List α},XZ=2->∃a b,l=[a,b]
 |[a,b],_=>⟨a,b,rfl⟩
def TgOk(X:Cx)(tg:Expr)(nt m:Nat):Prop:=∀(Y:A8)(s:Al)(h f:Bl)(H:Hp)(d:D)(v:V)(u:An)(b:Fm)(Q:L2.St->Hp->Prop),h.length=m->L2.Inv X Y (h++f) H s->RelV v u->Rep X.K H d v->gA nt d=.ok b->
 (∀e:L2.St,cT=m->YU=m->(∀(i:Nat)(g:D),b[i]? =So (So g)->∃w,e[i]? =So (So w)/\Rep X.K H g w)->Q (e++f) H)->
 wpAny AD X.A (assign tg Ue u) Tc X.xe s
def Jyy(hN:X.N[0]? =So x)(nd:GE)(q:GQ)(f:Uu):TgOk X Ck 0 1:=by
 intro Y s w g H d v u j Q m I r l b h;refine lL (pos:=pos) nd hN q f Y s (w++g) H v u Q I r ?_;obtain⟨z,rfl⟩:=List.length_eq_one_iff.mp m;simp only[gA,if_true]at b;cases b;refine h [So v] rfl rfl λi y e=>?_;cases i with
 |zero=>simp at e;subst e;exact⟨v,rfl,l⟩
 |succ i=>simp at e
def JwL{y:Str}{k:Nat}{m l:Pos}(hN:X.N[0]? =So x)(j:X.N[1]? =So y)(nd:GE)(C:GQ)(q:Uu)
  (hy:Loc EW y) (hg:X.fn y=To\/X.env.scope.names.lookup y=So .local) (hc:Ci):TgOk X (.Tuple [.Name x m,.Name y l] k pos) 2 2:=by
 intro Y s F M H d v u O Q hl I r rd b h;refine Jrm (pos:=pos) hc (oU (lL (pos:=m) nd hN C q) (oU (lL (pos:=l) nd j hy hg) Jnb)) rfl rfl Y s (F++M) H v u Q I r ?_;unfold gA at b;rw[if_neg 'y']at b;cases d with
 |tup J=>
  dsimp only at b;rw[if_neg 'y']at b;split at b
  ·rename_i hd;cases b;obtain⟨a,xs,rfl,hq,L⟩:=rd;obtain⟨d0,d1,rfl⟩:=Jmu hd;obtain⟨g,r0,B,h0,f,r1,w,z,e2⟩:=L;subst w;subst e2;subst B;refine⟨a,[g,f],rfl,hq,rfl,g,[f],rfl,f,[],rfl,rfl,?_⟩;obtain⟨l0,l1,rfl⟩:=Jmu hl;refine h [So g,So f] rfl rfl λi d' e=>?_;rcases i with _|_|i
   ·simp at e;subst e;exact⟨g,rfl,h0⟩
   ·simp at e;subst e;exact⟨f,rfl,z⟩
   ·simp at e
  ·cases b
 |_=>cases b
end
def JdJ{J:List α}{i:Nat}{d:α}(h:J[i]? =So d):J.drop i=d::J.drop Bw:=by obtain⟨e,b⟩:=Zz.mp h;rw[List.drop_eq_getElem_cons e,b]
def ReadOk.front{K:Aj}{lo hi:Bl}{new O:Fm}(h:lo.length=new.length)(j:∀(i:Nat)(d':D),new[i]? =So (So d')->∃w,lo[i]? =So (So w)/\Rep K H d' w)(r:ReadOk K H hi O):ReadOk K H (lo++hi) (new++O):=by
 intro i d e;by_cases b:i<new.length
 ·rw[qG b]at e;obtain⟨w,f,g⟩:=j i d e;exact⟨w,by rw[qG 'h'];exact f,g⟩
 ·rw[rG 'h']at e;obtain⟨w,f,g⟩:=r _ d e;exact⟨w,by rw[rG 'h',h];exact f,g⟩
section
variable{ls:Ac}{sc:Bf}{U:Ag}
def Jdj{M:Model}{f:Addr}{e:B4}{j:Str}{h:Dw}{i:An}{g:Env}{b:Addr}{Q:Env->Shared->Prop}
  (m:Q (newEnv scope Aa f (cellsFrom DX Yl e) j h i (So g) b) {s with heap:=pushCells (s.heap.push {cls:=.type "dict",data:=.dict #[]}) Yl}):
  wpAny M A (newFunctionEnv scope f e [] j h i (So g) b) Q E s:=by simp only[newFunctionEnv,nP,if_true];refine Za (wpAny_alloc ?_);refine Za (wpAny_layCells _ (λname kind cells=>by cases l:kind==Yc<;>simp[l]) _ _ _ _ ?_);rw[show({s with heap:=s.heap.push {cls:=.type "dict",data:=.dict #[]}}:Shared).heap.objs.size='Ɓ'+1 from ZL ..];rw[gP];exact Za (Zb (Zb m))
def yZ(X:Cx)(Cd:Addr)(x:An)(e:Al):Prop:=∃m,e.heap.Ns Cd m/\∀f,Heap.SameBut Cd e.heap f->∀b:Env,b.locals=Cd->wpAny AD X.A (PySem.passOn "comprehension.variables-let-go" x b:Sem Value) (λ_ _=>False) X.xe {e with heap:=f}
def Jto{e:An}{O env':Env}(h:O.frame=env'.frame):noteFrame e O=noteFrame e env':=by unfold noteFrame PySem.frameOf;rw[h]
structure Sib(X X':Cx):Prop where
 code:X'.env.code=X.env.code
 qual:X'.env.qual=Qbk
 base:X'.base=Yh
 mg:X'.mg=X.mg
 tb:∀P ps,X.H₀ P=So (.tbl ps)->∃more,X'.H₀ P=So (.tbl (ps++more))
def Jva{H2:Hp}{s2 s':Al}{E':Ay}{Cc:Addr}{ce:Env}(C:Am)(I2:L2.Inv X Y Z H2 s2)(f2:∀b∈fp,FpOk X Y H2 b)(hCd:AR<=Cd)
  (F:FlyIn 'ɕ' Cc a W s') (hx:∀s5,FlyIn X Cc a W s5->X.xe Ar s5) (hce:ce.frame=X.env.frame):notedBy AD X.A ce (yZ X Cd) Ar s':=by
 obtain⟨e0,f,L,j,hf0,hfx⟩:=C.fr;obtain⟨ps,σ',I',hxx⟩:=F.inv;have hfr:X.A.frames=So (e0::f):=by rw[<-j];exact I2.ok.frames
 show wpAny _ X.A (noteFrame Ar ce) _ _ s';rw[Jto (env':=e0) (hce.trans (hfx.trans hf0.symm))];have hstk:∀b,b∉X.fs->b≠A5->b∉frs XN:=λb h1 h2 hm=>by
  rcases Zf.mp (I2.stkSub b hm)with e|e
  ·exact h2 e
  ·exact h1 e
 have rest:∀(B:Heap)(a0:An)(h1 h4:Heap),L2.Inv 'ɕ' ps σ' W {s' with heap:=h1}->B.StaysIn h1->(∀b u,W b=So u->∃o,B.get? b=So o)->
   (∀b o,s2.heap.get? b=So o->b∉frs X.stack->b∉fp->(H2 b=No->B.get? b=So o)/\∃o',B.get? b=So o')->Heap.HeldW B (e0::f) a (.ref Cc) a0 L h4->h1.UpToSlots h4->yZ X Cd Ar {s' with heap:=h4}:=by
  intro B a0 h1 h4 I1 k1 tr kp g up;obtain⟨m,hn,_⟩:=I1.loc;have hn4:h4.Ns Cd m:=up.ns hn;refine⟨m,hn4,λM hsb cenv _=>?_⟩;obtain⟨g1,g2,g3,oe,vs,T,oT,ts,he,hcls,hd,hv1,hnT,hTe,hT,y,h3⟩:=g;obtain⟨oC,esC,epC,hoC,hdC,_⟩:=hn4;have hfC:W Cd=No:=I1.free;have neC:∀b o vs,h4.get? b=So o->YL=.fields vs->b≠Cd:=λb o vs hb hd' q=>by
   rw[q,hoC]at hb;cases hb;rw[hdC]at hd';cases hd'
  have he5:=(hsb.2 a (neC a oe vs he hd)).trans he;have hT5:=(hsb.2 T (neC T oT ts hT y)).trans hT;have hsz3:3<ts.size:=(eW.mp h3).1;unfold PySem.passOn;refine Za (ZS he5 hd hv1 ?_);rw[if_neg (show¬((Value.ref T==Value.none)=To)from by simp)];have go:∀(v:An),X.xe Ar {s' with heap:=M.update T (Obj.mapFields (·.setIfInBounds 3 v))}:=λv=>by
   refine hx _ ?_;have hT6:(M.update T (Obj.mapFields (·.setIfInBounds 3 v))).get? T=So (Obj.mapFields (·.setIfInBounds 3 v) oT):=ZX _ hT5 (gW (fK y _));have oth:∀b,b≠T->(M.update T (Obj.mapFields (·.setIfInBounds 3 v))).get? b=M.get? b:=λb hb=>ZO _ _ E2;have B5:∀b o,b≠Cd->B.get? b=So o->(M.update T (Obj.mapFields (·.setIfInBounds 3 v))).get? b=So o:=λb o hb hB=>(oth b λq=>by rw[q,hnT]at hB;cases hB).trans ((hsb.2 b hb).trans (g1 b o hB));have hB':∀{b o},b≠Cd->B.get? b=So o->'Ő'.get? b=So o:=λhb hB=>rM _ hB (by simpa using hb);have w:∀{b o},'Ő'.get? b=So o->b≠Cd/\B.get? b=So o:=fun{b o}q=>⟨λz=>(by
    rw[PySem.W.hideAll_none [Cd] (by simp[z])]at q;cases q),PySem.W.of_hideAll _ q⟩
   have noB':∀{b},B.get? b=No->'Ő'.get? b=No:=fun{b}q=>by
    cases z:'Ő'.get? b with
    |none=>rfl
    |some o=>rw[(w z).2]at q;cases q
   have i:∀b o,s2.heap.get? b=So o->b≠Cd:=λb o q=>Zu (ZB (Zj q) hCd);have frm:∀b o,h1.get? b=So o->(∀vs,o.data≠.fields vs)->b≠Cd->∃sl,(M.update T (Obj.mapFields (·.setIfInBounds 3 v))).get? b=So {o with slots:=sl}:=λb o hb hnf hne=>by
    obtain⟨sl,e4⟩:=up b o hb hnf;exact⟨sl,(oth b λq=>by
     rw[q,hT]at e4;injection e4 with e4;exact hnf ts (by have:=kA Obj.data e4;rw[y]at this;exact this.symm)).trans ((hsb.2 b hne).trans e4)⟩
   have U1:Un Hi fp H2 W a9 h1:=I1.base;have fo:∀b∈frs XN,∃o,s2.heap.get? b=So o/\∀vs,o.data≠.fields vs:=λb hb=>(I2.stack.mem hb).2;have nfp:∀b∈frs XN,b∉fp:=λb hb hm=>by obtain⟨_,q1,q2,_⟩:=f2 b hm;exact hstk b q2 q1 hb
   have slt:∀b o,s2.heap.get? b=So o->H2 b=No->b∈frs X.stack->∃sl,(M.update T (Obj.mapFields (·.setIfInBounds 3 v))).get? b=So {o with slots:=sl}:=λb o hb h0 hf=>by obtain⟨sl,e1⟩:=U1.slot b o hb h0 hf (nfp b hf);obtain⟨o',ho',hnf⟩:=fo b hf;rw[hb]at ho';cases ho';obtain⟨sl2,e2⟩:=frm b _ e1 hnf c9;exact⟨sl2,e2⟩
   have un:Un Hi fp H2 W a9 (M.update T (Obj.mapFields (·.setIfInBounds 3 v))):=by
    refine⟨λb o hb h0 hf hp=>B5 b o c9 ((kp b o hb hf hp).1 h0),λb o hb h0 hf hp=>slt b o hb h0 hf,U1.free,λb o hb hp=>?_,U1.tups,U1.frzs,U1.tbls⟩;by_cases hf:b∈frs XN
    ·obtain⟨sl,e⟩:=slt b o hb (I2.stkFree b hf) hf;exact⟨_,e⟩
    ·obtain⟨o',e⟩:=(kp b o hb hf hp).2;exact⟨o',B5 b o' c9 e⟩
   have trB:∀b u,W b=So u->∃o,'Ő'.get? b=So o:=λb u e=>by obtain⟨o,q⟩:=tr b u e;exact⟨o,hB' (λz=>by rw[z,hfC]at e;cases e) q⟩
   have st6:'Ő'.StaysIn (M.update T (Obj.mapFields (·.setIfInBounds 3 v))):=λb o q=>B5 b o (w q).1 (w q).2;have ff:(M.update T (Obj.mapFields (·.setIfInBounds 3 v))).FunFrames 'Ő' XN:=by
    have base:∀l:List Env,(∀b∈frs l,b∈frs XN)->h4.FunFrames B l->(M.update T (Obj.mapFields (·.setIfInBounds 3 v))).FunFrames 'Ő' l:=by
     intro l;induction l with
     |nil=>intro _ _;trivial
     |cons en r ih=>intro hs hl;obtain⟨hk,⟨L1,o1,hf1,hn1,ho1,hd1⟩,hr⟩:=hl;have hL1:L1∈frs XN:=hs L1 (by unfold frs;rw[zH,hf1];exact fC);obtain⟨o2,I,_⟩:=fo L1 hL1;refine⟨hk,⟨L1,o1,hf1,noB' hn1,?_,hd1⟩,ih (λb hb=>hs b (by unfold frs;rw[zH,hf1];exact Zm _ hb)) hr⟩;exact(oth L1 λq=>by rw[q,hT]at ho1;cases ho1;exact hd1 ts y).trans ((hsb.2 L1 (i L1 o2 I)).trans ho1)
    rw[j];exact base (e0::f) (λb hb=>by rw[j];exact hb) g3
   refine⟨⟨Y,Z,I2.call' (ch:=fp) I1.os un (HOk.onB I1.hok trB (λb o q=>k1 b o (w q).2) st6) I1.bare (λb hb=>?_),.inr ⟨PySem.W.hideAll B [Cd],a0,v,⟨st6,noB' g2,ff,oe,vs,T,_,_,(oth a (Ne.symm hTe)).trans he5,hcls,hd,hv1,noB' hnT,hTe,hT6,fK y _,by simp[hsz3]⟩,trB,λb o hb hn hnx=>?_,λp hp=>?_⟩⟩⟩
   ·obtain⟨_,f1',f2',f3',f4',f5'⟩:=f2 b hb;exact Ot
   ·have nfs:b∉X.fs:=λz=>hn (by
     rcases I2.ok.stk with e|⟨e,_⟩
     ·rw[e];exact z
     ·rw[e];obtain⟨e',he',hf'⟩:=pD.mp z;exact pD.mpr ⟨e',.tail _ he',hf'⟩)
    have np:b∉fp:=λz=>by
     rcases(f2 b z).2.2.2.1 with q|q
     ·exact hnx q
     ·exact absurd (ZB (Zj hb) q) CH
    obtain⟨o2,I⟩:=I2.base.there b o hb hnx;have q:=kp b o2 I hn np;refine Qeg
    ·have e2:=I2.base.keep b o hb h0 nfs hnx
     rw[I]at e2;cases e2;exact hB' (i b _ I) (q.1 (I2.base.free b _ hb h0 hnx))
    ·obtain⟨o',e⟩:=q.2
     exact⟨o',hB' (i b _ I) e⟩
   ·obtain⟨q1,q2,q3,q4,_⟩:=I2.pin p (tJ _ hp);exact hB' (i _ _ q1) ((kp p.1 p.2 q1 (hstk p.1 q4 q3) λz=>(f2 _ z).2.2.2.2.2 p (tJ _ hp) rfl).1 q2)
  have fly:wpAny AD X.A (do setFlight Ar cenv.frame;throw Ar:Sem Value) (λ_ _=>False) X.xe {s' with heap:=M}:=by
   refine Za ?_;unfold setFlight;refine Za (ZS he5 hd hv1 ?_);rw[if_pos 'j'];exact sC hT5 y hsz3 (wpAny_throw (go _))
  first
   |exact Za (Zb fly)
   |exact fly
 rcases hxx with⟨h,vs,hm,Ih⟩|⟨B,a0,flv,fl,tr,kp,_⟩
 ·have hk:(PySem.W.hideAll h (frs (e0::f))).StaysIn h:=λb o q=>PySem.W.of_hideAll _ q;have hin:∀O∈(e0::f),∀b,O.frame=So b->b∈frs (e0::f):=λO he b hb=>pD.mpr ⟨O,he,hb⟩;have hs0:'ɕ'.stack=e0::f:=j;have hstk2:h.FunFrames Yh (e0::f):=by rw[<-hs0];exact Ih.stack
  refine Jif hfr hf0 hk (PySem.W.funFrames_hide hstk2 hin) hm λh' a0 g up=>?_;refine rest _ a0 h h' Ih hk (λb u e=>?_) (λb o hb hn hp=>?_) g ((Heap.UpToSlots.of_keeps hm.keeps).trans up)
  ·obtain⟨o,ho⟩:=HOk.has Ih.hok e;exact⟨o,rM _ ho λz=>by rw[Ih.stkFree b (by rw[hs0];exact z)]at e;cases e⟩
  ·rw[j]at hn;refine⟨λh0=>rM _ (Ih.base.keep b o hb h0 (by show b∉frs XN;rw[j];exact hn) hp) hn,?_⟩;obtain⟨o',e⟩:=Ih.base.there b o hb hp;exact⟨o',rM _ e hn⟩
 ·have fl':JpV B (e0::f) a (.ref Cc) a0 flv Yf:=by rw[<-j];exact fl
  exact JgP hfr hf0 fl' λh' g up=>rest B a0 Yf h' I' fl.1 tr kp g up
inductive CI(X:Cx)(call:Ag)(X':Cx)(ac:Addr)(tn:Fx)(fp:A9)(H H2:Hp)(n:Nat)(σ:Bl)(nt:Nat)(pc pe:Px)(env:Fm)(ds:Ak)(Gd:List D->Prop):Nat->Shared->Prop
 |mk (i:Nat) (lo:L2.St) (H':Hp) (its:List Value) (k:Nat) (ys:List V) (done:List D) (s':Shared):L2.Inv X' [(ac,uE its k)] (lo++σ) H' s'->lo.length=n->tn i s'.heap->(∀b∈fp,H' b=No)->Same H2 H'->Vals ys its->Reps X.K H' done ys->done.length<=i->i<='ƃ'->(JZ nt (evD call pc) (evD call pe) env (ds.drop i)).Good (λrest=>Gd (done++rest)) Az->
  CI X call X' ac tn fp H H2 n σ nt pc pe env ds Gd (Ae-i) s'
theorem JgL{O:Fm}{Gd:List D->Prop}{RR0:Value->Addr->Result->Shared->Prop}(C:Am)(h:EU)(hsrc:GL)
  (htg:∀g,Ctx g G Df sc.names->TgOk g tg nt BM) (hif:∀g,Ctx g G Df sc.names->PIf g ifs (tT g U pc)) (helt:∀g,Ctx g G Df sc.names->Sib X g->PE g elt (tI g U pe))
  (I:BU) (r:Rw) (hw:tW X U ps Z H λJ9 W=>∃J,Walk X.K J9 W J/\Same H W/\J.length<=lD/\(JZ nt KO KN O J).Good Gd Az)
  (hok:∀(B:Addr)(ys:Av)(Hf:Hp)(Cd:Addr)(m:Bk)(s4:Al)(dn:Ak),L2.Inv X Y Z Hf s4->s4.heap.Ns Cd m->FpOk X Y Hf Cd->Hf B=So (.lst ys)->H B=No->Same H Hf->Reps X.K Hf dn ys->Gd dn->RR0 (.ref B) Cd (.ok .next) s4) (hRR:∀B Cd x s',yZ X Cd x s'->RR0 B Cd (.error x) s'):
  wpAny AD X.A Qcc (λx s₁=>wpAny AD X.A (pyIter x) (λit s₂=>wpAny AD X.A (newList []) (λB s₃=>
   wpAny AD X.A (newFunctionEnv sc X.env.globals 'Œ' [] Qbk No .none (So Ue)) (λcenv s₄=>
    codeAny AD X.A (.compStart Gh 0 it B {cenv with scope:=relabel sc Ue}) (RR0 B cenv.locals) s₄) X.xe s₃) X.xe s₂) X.xe s₁) X.xe s:=by
 refine thn (hsrc Y s Z H _ I hw) λv s1 h1=>thn h1 λitv s2 h2=>?_;obtain⟨it,fp,tn,J9,H2,rfl,I2,T,st2,f2,J,hW,s02,hz,hG2⟩:=h2;refine ZJ (Jdj ?_);dsimp only;generalize hH2:s2.heap.push {cls:=.type "list",dict:=No,data:=.seq ([]:List Value).toArray}=Hh;obtain⟨w,j⟩:∃w,w=pushCells (Hh.push {cls:=.type "dict",data:=.dict #[]}) X5:=AS;rw[<-j];have hns₁:w.Ns X8 Qdb:=j▸(Heap.Ns.new Hh K8).keeps (kP _ _);have hC:Hh.objs.size=AR+1:=by rw[<-hH2,ZL]
 have hlt:∀b o,s2.heap.get? b=So o->b<AR:=λb o e=>Zj e;have old:∀b o,s2.heap.get? b=So o->w.get? b=So o:=λb o e=>by rw[j];exact kP _ _ _ _ (Zd _ (hH2▸Zd _ e))
 have hacc:w.get? AR=So (uE [] 0):=by rw[j];exact kP _ _ _ _ (Zd _ (hH2▸Ze _ rfl))
 have fpl:∀b∈fp,b<AR:=λb hb=>by obtain⟨o,e,_⟩:=T.obj _ _ st2 b hb;exact hlt b o e
 let RR:Result->Shared->Prop:=RR0 (.ref AR) X8;let ce:Env:=compEnvC sc (cellsFrom (X8+1) X5 'Œ') X8 Ue;let E':Value->Shared->Prop:=notedBy AD X.A ce λe s'=>RR (.error e) s';let g:Cx:=oO X ls sc X8 s2 H2 fp E';have C':Ctx g G Df X5:=JqP C h;have SB:Sib X g:=⟨rfl,rfl,rfl,rfl,λP ps z=>I2.base.tbls P ps z⟩;have I4:L2.Inv g [(AR,uE [] 0)] (List.replicate BM No++Z) H2 {s2 with heap:=w}:=
  Jpa C h j (ZL ..) I2 f2 (λb hb=>let⟨o,e,_⟩:=T.obj _ _ st2 b hb;⟨o,e⟩) hC hns₁ old hacc
 have sub:∀x c,'Œ'.lookup x=So c->X.env.cells.lookup x=So c:=wU X5 [] λx c e=>by simp at e
 have stat:∀{W:Hp}{o:Obj},(∀b∈fp,W b=No)->∀b∈fp,FpOk g [(AR,o)] W b:=fun{W o}hn b hb=>by
  have hb':=fpl b hb;refine⟨hn b hb,?_,I4.ok.exfs b hb,.inl hb,(I4.ok.exf b hb).2,λp hp=>?_⟩
  ·show b≠Hh.objs.size;rw[hC];exact Zu (wB hb')
  ·have e:p=(AR,o):=by simpa[g,oO]using hp
   rw[e];exact rC hb'
 have loop:∀s₃:Shared,s₃={s2 with heap:=w}->
   codeAny AD X.A (.compLoop Gh 0 B7 (.ref AR) ce) RR s₃:=by
  rintro s₃ rfl;refine JhN (CI X U g AR tn fp H H2 BM Z nt pc pe O J Gd) ?_ Ae
   (.mk 0 (List.replicate BM No) H2 [] 0 [] [] _ I4 vJ (T.keep _ _ _ st2 (λb hb o e=>old b o e)) (λb hb=>(f2 b hb).1) K5 .nil rfl (Zh _) Xs (by simpa using hG2))
  rintro _ s'⟨i,lo,W,its,k,ys,done,_,I',hlo,st,fr,sm,hv,hr,hdl,hil,hg⟩;by_cases hi:i<Ae
  ·have go:=(hW W sm).1 i hi
   refine thn (T.item g rfl rfl rfl C'.calm i _ s' (lo++Z) W g.xe I' (stat fr) st go) λr' s4 zz0=>?_;obtain⟨u,hr',h4⟩:=zz0;subst hr';refine thn h4 λ_ s5 zz0=>?_;obtain⟨x,H5,I5,r5,y5,st5,fr5⟩:=zz0;obtain⟨s45,d,hd,rd⟩:=(hW W sm).2.2 i x H5 hi y5;rw[JdJ hd]at hg;simp only[JZ]at hg;replace hg:=Rs.gB.mp hg;cases hb:gA nt d with
   |sk=>rw[hb]at hg;exact hg.elim
   |ex c=>exact(Jgi hb).elim
   |ok new=>
    rw[hb]at hg;replace hg:=Rs.gB.mp hg;have I5p:=I5.pinned (stat fr5) (T.obj _ _ st5);refine thn (htg g C' _ s5 lo Z H5 d x u new (λσ' H''=>∃l:L2.St,σ'=l++Z/\l.length=BM/\H5=H''/\ReadOk X.K H5 (l++Z) (new++O)) hlo I5p r5 rd hb λl l1 l2 hn=>
     ⟨l,rfl,l1,rfl,ReadOk.front (l1.trans l2.symm) hn (r.mono ('ը'.trans s45))⟩) λ_ s6⟨σ6,H6,I6,l,e6,l6,e7,rd6⟩=>?_
    subst e6;subst e7;refine thn (hif g C' _ s6 _ _ (λb H7=>Same H5 H7/\(if b=To then((evD U pe (new++O)).bind λy=>'丨'.bind λys=>Rs.ok (y::ys)).Good (λrest=>Gd (done++rest)) Az
     else(JZ nt KO KN O Lb).Good (λrest=>Gd (done++rest)) Az)) I6 ⟨new++O,rd6,Rs.good_calm (hg.mono (λd' hd'=>?_) λc z=>z)⟩) λok s7⟨H7,I7,M,q7⟩=>?_
    ·cases d' with
     |bl b=>
      refine⟨b,rfl,λH7 M=>⟨M,?_⟩⟩;cases b with
      |true=>exact iteT hd'
      |false=>exact iteF hd'
     |_=>exact hd'.elim
    have tn7:∀{s9:Al}{H9:Hp}{o:Obj}{σ9:Bl},L2.Inv g ([(AR,o)]++fG fp Z2) σ9 H9 s9->tn Bw s9.heap/\∀b∈fp,H9 b=No:=fun{s9 H9 o σ9}I9=>by refine⟨T.keep _ _ _ st5 λb hb o' e=>(I9.pin (b,o') QA).1,λb hb=>?_⟩;obtain⟨o',e,_⟩:=T.obj _ _ st5 b hb;exact(I9.pin (b,o') QA).2.1
    cases ok with
    |false=>
     rw[if_neg ZH];have q7':'丨'.Good (λrest=>Gd (done++rest)) Az:=by rw[if_neg ZH]at q7;exact q7
     obtain⟨t7,f7⟩:=tn7 I7;exact⟨Ae- Bw,by lia,.mk Bw l H7 its k ys done _ I7.unpinned l6 t7 f7 ((sm.trans s45).trans M) hv (hr.mono (s45.trans M)) Af Af q7'⟩
    |true=>
     rw[if_pos rfl];rw[if_pos rfl]at q7;replace q7:=Rs.gB.mp q7;refine thn (helt g C' SB _ s7 _ _ (λv8 H8=>Same H7 H8/\∃y,Rep X.K H8 y v8/\(JZ nt KO KN O Lb).Good (λrest=>Gd (done++(y::rest))) Az) I7
      ⟨new++O,rd6.mono M,q7.mono (λy hy v8 H8 s78 r8=>⟨s78,y,r8,Rs.gB.mp hy⟩) λc z C0 H0 hm0 s0 a0 s0' F0=>ZY (Jva C I2 f2 (by rw[hC];exact mC _) F0 (λs5 F5=>z C0 H0 hm0 (('ը'.trans s45).trans (M.trans s0)) a0 s5 F5) rfl) (λ_ _ e=>hRR _ _ _ _ e) λ_ _ e=>hRR _ _ _ _ e⟩) λu8 s8⟨v8,H8,I8,r8,s78,y,ry,q8⟩=>?_
     have e8:=(I8.pin Rz Ad).1;have hlen:B0<=lD:=by have h1:=hv.length;have h2:=hr.length;lia
     refine fB Qbs ⟨_,e8,rfl⟩ Qaz Q0 (PySem.list_append s2.heap.objs.size its.toArray k u8 (by rw[Zo,ZG];exact hlen)) ⟨e8,?_⟩;have q9:=PySem.IsL.update e8 (λx=>x.push u8);have hpush:its.toArray.push u8=(its++[u8]).toArray:=by simp
     rw[hpush]at q9;obtain⟨k9,q9⟩:∃k9,(s8.heap.update AR T5).get? AR=So (uE (its++[u8]) k9):=⟨_,q9⟩;have f:=(I8.pin Rz Ad).2;have I8u:L2.Inv g (fG fp Z2) (l++Z) H8 s8:=I8.pins_of λp hp=>I8.pin p (ZP _ (ZP _ hp));have I9:L2.Inv g (fG fp Z2) (l++Z) H8 {s8 with heap:=s8.heap.update AR T5,toks:=s8.toks}:=by
      refine I8u.turned (it:=AR) (λb o hb e=>(ZO s8.heap _ E2).trans e) f.1 f.2.1 (.inr (Zh _)) (λx c e=>?_) (λp hp=>?_)
      ·rcases mZ _ _ _ _ _ e with q|⟨q,_⟩
       ·obtain⟨v0,o0,h0,_⟩:=I2.cell x c (sub x c q);exact Zu (hlt c o0 h0)
       ·rw[hC]at q;exact rC (ZB (wB Y1) q)
      ·have hp':p∈fG fp Z2:=by simpa[g,oO]using hp
       exact Zu (fpl _ (JgX hp').1)
     have I10:L2.Inv g ([(AR,uE (its++[u8]) k9)]++fG fp Z2) (l++Z) H8 {s8 with heap:=s8.heap.update AR T5,toks:=s8.toks}:=
      I9.pins_of λp hp=>(ZK.mp hp).elim (λz=>by
       have e:p=(AR,uE (its++[u8]) k9):=by simpa using z
       subst e;exact⟨q9,f.1,f.2.1,f.2.2.1,λv z=>(by cases z)⟩) λz=>I9.pin p (ZP _ z)
     obtain⟨t10,f10⟩:=tn7 I10;refine⟨Ae- Bw,by lia,.mk Bw l H8 (its++[u8]) _ (ys++[v8]) (done++[y]) _ I10.unpinned l6 t10 f10 (((sm.trans s45).trans M).trans s78) (hv.append (.cons r8 .nil)) ((hr.mono ((s45.trans M).trans s78)).append QdJ) ?_ Af ?_⟩
     ·rw[Zn,uG];lia
     ·simpa using q8
  ·--the end
   have hie:i=Ae:=by lia
   subst hie;rw[List.drop_length]at hg;simp only[JZ]at hg;have hg':Gd done:=by have hg2:Gd (done++[]):=hg;simpa using hg2
   refine thn (T.done g rfl rfl rfl C'.calm Ae _ s' (lo++Z) W g.xe I' (stat fr) st (hW W sm).2.1) λr' s4 zz0=>?_;obtain⟨hr',I5⟩:=zz0;subst hr';obtain⟨m',hn',_⟩:=I5.loc;have f:=I5.pin Rz Ad;have hlen:By<=sizeLine:=by have h2:=hr.length;rw[ZG];have h3:lD=16777216:=rfl;lia
   have HC:W X8=No:=I5.free;have okH:HOk XJ X.w Mr QcF:=by
    intro b o e;by_cases hb:b=AR
    ·subst hb;rw[Je]at e;cases e;exact⟨hlen,its,k,hv,f.1⟩
    ·rw[Jc hb]at e;have ok5:ObjOk XJ X.w W QcF b o:=I5.hok b o e;refine ok5.stay (λc w' hc q=>q) (λc q=>?_) (λc xs q=>?_) λc o' u' q=>?_
     ·by_cases L:c=AR
      ·subst L;rw[f.2.1]at q;cases q
      ·rw[Jc L];exact q
     ·by_cases L:c=AR
      ·subst L;rw[f.2.1]at q;cases q
      ·rw[Jc L];exact q
     ·by_cases L:c=AR
      ·subst L;rw[f.2.1]at q;cases q
      ·rw[Jc L];exact q
   have un:Un Hi fp H2 Mr a9 QcF:=by
    have U9:Un Hi fp H2 W a9 QcF:=I5.base;have ne1:∀b o,s2.heap.get? b=So o->b≠AR:=λb o e=>Zu (hlt b o e);have neH:∀b u,H2 b=So u->b≠AR:=λb u e z=>by rw[z,I2.hok.fresh (Zh _)]at e;cases e
    refine⟨U9.keep,U9.slot,λb o e n h2=>?_,U9.there,λb xs e=>?_,λb o u e=>?_,λb ps' e=>?_⟩
    ·rw[Jc (ne1 b o e)];exact U9.free b o e n h2
    ·rw[Jc (neH b _ e)];exact U9.tups b xs e
    ·rw[Jc (neH b _ e)];exact U9.frzs b o u e
    ·rw[Jc (neH b _ e)];exact U9.tbls b ps' e
   have If:L2.Inv X Y Z Mr s4:=I2.call' (ch:=fp) I5.os un okH I5.bare λb hb=>by obtain⟨_,f1',f2',f3',f4',f5'⟩:=f2 b hb;exact Ot
   have sH:Same W Mr:=λb o e=>by rw[Jc (Ji e f.2.1)];exact e
   have hCn:upd W AR FP X8=No:=by rw[Jc (by rw[hC];exact Nat.succ_ne_self _)];exact HC
   exact hok AR ys _ X8 m' s4 done If hn' (I2.fpOk (by rw[hC];exact mC _) hCn) Je (s02.free (I2.hok.fresh (Zh _))) ('ը'.trans sH) (hr.mono sH) hg'
 exact codeAny_compStart_list (loop _ rfl) (T.self _ 0 _ _ _ (T.keep _ _ _ st2 λb hb o e=>old b o e) (loop _ rfl))
def JgJ{O:Fm}{Q:VK}(r:Rw)(i:(evD U Kv O).Good (OutF X H Q) Az):
  tW X U ps Z H λe W=>∃J,Walk X.K e W J/\Same H W/\J.length<=lD/\(JZ nt KO KN O J).Good (λf=>OutF X H Q (.lst f)) Az:=by
 refine⟨O,r,(Rs.gB.mp i).imp λd b=>?_⟩;cases d with
 |lst J=>
  simp only[D.asL,Rs.bo]at b;split at b
  ·rename_i h;exact⟨J,rfl,λe W g w _=>⟨J,w,g,h,Rs.gB.mp b⟩⟩
  ·exact b.elim
 |_=>exact b.elim
def JrA{h':Heap}(I:BU)(f:FpOk X Y H Cd)(g:Heap.SameBut Cd VU h'):L2.Inv X Y Z H {s with heap:=h'}:=by obtain⟨l,m,r,i,h,j⟩:=f;exact I.turned (t':=XF) (λb o q e=>(g.2 b q).trans e) l m i h j
def JnU(C:Am)(h:EU)(i:GL)
  (l:∀b,Ctx b G Df sc.names->TgOk b tg nt BM) (q:∀b,Ctx b G Df sc.names->PIf b ifs (tT b U pc)) (j:∀b,Ctx b G Df sc.names->Sib X b->PE b elt (tI b U pe))
  (hs:∀x,foldedSetIterable iter Ue x=pure x:=by intro _;rfl):PE X Gh IR:=by rintro Y s Z H Q I⟨O,r,hG⟩;rw[eval_ListComp];refine wpAny_comprehension_free (use:=No) rfl hs P2 h.kind (λy M e=>((h.at M).2.2 e).1) (JgL (RR0:=λg C=>compPost AD X.A X.xe No BP g C) C h i l q j I r (JgJ r hG) ?_ λ_ _ _ _ e=>e);intro g B w Cd m s4 dn If hn f z h0 sm rs hg;refine⟨m,hn,λh' u=>⟨.ref g,w,JrA If f u,rfl,?_⟩⟩;obtain⟨ds',F,L⟩:=hg;cases F;exact L g B w sm h0 z rs
def Jfe{u B:Pos}{i:Nat}{y:Str}(C:Am)(h:EU)(hi:X.N[i]? =So y)(hy:locB nm y=To)(l:GL)
  (F:∀g,Ctx g G Df sc.names->TgOk g tg nt BM) (M:∀g,Ctx g G Df sc.names->PIf g ifs (tT g U pc)) (z:∀g,Ctx g G Df sc.names->PE g elt (tI g U pe))
  (hs:∀x,foldedSetIterable iter Ue x=pure x:=by intro _;rfl):PS X (.Assign [.Name y B] Gh u) (tAsg IR Ex):=by
 obtain⟨w,L⟩:=C.sto y hy;have nd:X.N.Nodup:=by rw[C.hN];exact C.nd
 have sw:∃b,swapsWith Gh (So (.Name y B)) u.line Ue=pure b:=AS;obtain⟨b,sw⟩:=sw;cases b with
 |false=>exact iD nd hi w (JnU C h l F M O7 hs) sw L
 |true=>
  rintro Y s Z H D I⟨O,r,hG⟩;rw[exec_Assign_Name_used _ _ _ _ sw];refine Za (wpAny_standAt (Za ?_));show wpAny _ X.A (do let _<-comprehension Gh sc Ue _ (newList []) Fo Qcc (So TU)) _ _ s;refine Za (ZY (wpAny_comprehension_free (use:=So TU) (Q:=λ_ s'=>SP X Y D .next s') rfl hs P2 h.kind (λy hy e=>((h.at hy).2.2 e).1)
   (JgL (RR0:=λj C=>compPost AD X.A X.xe (So TU) (λ_ s'=>SP X Y D .next s') j C) C h l F M O7 I r (JgJ r hG) ?_ λ_ _ _ _ e=>e)) (λ_ s' hq=>Zb (Zb hq)) λ_ _ e=>e)
  intro j ys Hf Cd m s4 dn If hn f ha h0 sm rs hg;show wpAny _ X.A (assign (.Name y B) Ue (.ref j)) _ _ s4;refine wpAny_assign_Name (JgI If nd hi w (v:=.ref j) rfl (λs5 I5⟨ad,sb,had⟩=>?_) L);have hne:Cd≠ad:=by
   rcases had with q|q
   ·rw[q];exact f.2.1
   ·exact Ne.symm (f.2.2.2.2.1 y ad q)
  refine⟨m,hn.sameBut sb hne,λh' hsb=>⟨_,Hf,JrA I5 f hsb,?_⟩⟩;obtain⟨ds',e',hQ⟩:=hg;cases e';exact hQ j ys Hf sm h0 ha rs
end
def JoU(l b:Addr)(items e:B6)(n n2:Nat)(dd f:Dw)(sl i:Ed)(j:Aw+e.size<=sizeLine):
  Meets (Builtin.«list.__add__» PQ) (λ_ R s=>s.heap.get? l=So {cls:=.type "list",dict:=dd,data:=.seq items n,slots:=sl}/\s.heap.get? b=So {cls:=.type "list",dict:=f,data:=.seq e n2,slots:=i}/\R (.ok (.ret Qcd)) {s with heap:=s.heap.push {cls:=Value.type "list",data:=Data.seq (items++e)},toks:=XF}):=
 .of_wp λprog w A R s h=>by
  obtain⟨r,g,d,F,y⟩:=s;obtain⟨m,q,h⟩:=h;have I:=QcQ;have u:=dU;have z:=eJ;have B:=eD;have C:=eE
  wp_walk using AutoSeq1.wpAny_loadPart' m,AutoSeq1.wpAny_loadPart' q;exact FX
def Jok{w:AQ}{l b:Addr}{items e:B6}{Q:Ay}(B:Ov)(I:s.heap.IsList b e)
  (h:Q Fi {s with heap:=s.heap.push {cls:=.type "list",data:=.seq (items++e)}}) (hsz:Aw+e.size<=sizeLine):wpAny As A (binaryOp .Add BH CK) Q E s:=by obtain⟨⟨cls,C,data,sl⟩,y,u,n,r⟩:=id B;obtain⟨⟨z,m,j,q⟩,g,f,n2,i⟩:=id I;simp only at u r f i;subst u r f i;exact concat_meets ⟨_,y,rfl⟩ ⟨_,g,rfl⟩ PySem.noFill_list_add PySem.seq_list_add F.slot_list_add F.entry_list_add (F.args_list_add_2 _ _) (JoU l b items e n n2 C m sl q hsz) ⟨y,g,h⟩
def JpY{w:AQ}{t b:Addr}{ws:AE}{Q:Ay}(B:IsTup VU t ([]:List Value).toArray)(F:Qd)
  (h:Q CK s):wpAny As A QN Q E s:=by
 obtain⟨⟨C,z,m,sl⟩,u,r,n,q⟩:=id B;obtain⟨⟨y,j,i,l⟩,f,e,n2,g⟩:=id F;simp only at r q e g;subst r q e g;exact concat_meets ⟨_,u,rfl⟩ HY noFill_tuple_add seq_tuple_add kW oW QcZ
   (tuple_addW0 t b ([]:List Value).toArray Qbj n n2 z j sl l Ad) ⟨u,f,h⟩
def gJ{n:Nat}(h:n<=lD):n<=sizeLine:=by rw[ZG];exact h
def Jyc{a b:D}{E:DG}(h:(op2 .add a b).Good P E):(∃i j,a=.int i/\b=.int j)\/(∃i j,a=.str i/\b=.str j)\/(∃i j,a=.tup i/\b=.tup j)\/∃i j,a=.lst i/\b=.lst j:=by cases a<;>first|exact(show False from h).elim|(cases b<;>first|exact(show False from h).elim|exact .inl EV|exact .inr (.inl EV)|exact .inr (.inr (.inl EV))|exact .inr (.inr (.inr EV)))
theorem JsX:OpR X MU (rD2 X .add):=by
 rintro Y s Z H x y v u Q I w q⟨dx,dy,C,B,h⟩;rcases Jyc h with⟨i,j,rfl,rfl⟩|⟨i,j,rfl,rfl⟩|⟨J,es,rfl,rfl⟩|⟨J,es,rfl,rfl⟩
 ·exact Jyd Y s Z H x y v u Q I w q ⟨_,_,C,B,Out.now h rfl⟩
 ·simp only[op2]at h;split at h
  ·rename_i r;exact Jlb Y s Z H x y v u Q I w q ⟨_,_,C,B,gJ r,Out.now h rfl⟩
  ·exact h.elim
 ·simp only[op2]at h;split at h
  ·rename_i r;obtain⟨a,xs,rfl,m,g⟩:=C;obtain⟨b,ys,rfl,z,f⟩:=B;have O:=Ya;have l2:=cU;by_cases hx:xs=[]
   ·subst hx;have hd:J=[]:=g.nil_iff.mp rfl;subst hd;cases w;cases q;obtain⟨its,l,L,_⟩:=I.tuple m;obtain⟨e,q2,F,_⟩:=I.tuple z;cases l;exact JpY L F ⟨.ref b,H,I,rfl,Out.now h ⟨b,ys,rfl,z,f⟩⟩
   ·refine Jua Y s Z H _ _ v u Q I w q ⟨a,b,xs,ys,rfl,rfl,m,z,hx,gJ (by rw[O,l2];exact r),λhy=>?_,λhy p hp=>?_⟩
    ·have he:es=[]:=f.nil_iff.mp hy;subst he;exact Out.now h ⟨a,xs,rfl,m,by simpa using g⟩
    ·obtain⟨U,l⟩:=wG (K:=X.K) hp (g.append f);exact h _ _ U l
  ·exact h.elim
 ·simp only[op2]at h;split at h
  ·rename_i r;obtain⟨a,xs,rfl,m,g⟩:=C;obtain⟨b,ys,rfl,z,f⟩:=B;have O:=Ya;have l2:=cU;cases w;cases q;obtain⟨its,l,L,_⟩:=I.list m;obtain⟨e,q2,F,_⟩:=I.list z;have l3:=XZ;have l4:=q2.length;have M:Ah+By<=sizeLine:=gJ (by rw[O,l2];exact r);refine Jok L.isList F.isList ?_ (by rw[Zo,Zo];lia);have ea:AF++e.toArray=(its++e).toArray:=by simp
   rw[ea];obtain⟨U,w1⟩:=iH (K:=X.K) (xs:=xs++ys) I.fresh (g.append f);exact⟨.ref _,_,I.lnew (t':=XF) (l.append q2) (by rw[Zn];exact M),rfl,h _ _ U w1⟩
  ·exact h.elim
def Jvb:OpR X Qbu (rD2 X .sub):=by rintro Y s Z H x y v u Q I f e⟨m,q,g,b,h⟩;obtain⟨i,j,rfl,rfl,l⟩:=sL h;exact JwT Y s Z H x y v u Q I f e HB
theorem JjD(xs:Array α):∀(n:Nat)(b:Array α),((List.replicate n xs).foldl (·++·) b).size=b.size+n*xs.size
 |0,b=>by simp
 |n+1,b=>by
  rw[List.replicate_succ,jG,JjD xs n,Array.size_append,Nat.succ_mul]
  lia
def JwH{a b:D}{E:DG}(h:(op2 .mul a b).Good P E):(∃i j,a=.int i/\b=.int j)\/∃i j,a=.str i/\b=.int j:=by cases a<;>first|exact(show False from h).elim|(cases b<;>first|exact(show False from h).elim|exact .inl EV|exact .inr EV)
theorem JsV:OpR X QaV (rD2 X .mul):=by
 rintro Y s Z H x y v u Q I l g⟨O,dy,m,f,h⟩;rcases JwH h with⟨i,j,rfl,rfl⟩|⟨i,j,rfl,rfl⟩
 ·simp only[op2]at h;split at h
  ·rename_i b;refine JxX Y s Z H x y v u Q I l g ⟨i,j,m,f,?_,Out.now h rfl⟩;simp only[smallI,nB,Zc,Zw]at b;exact b
  ·exact h.elim
 ·simp only[op2]at h;split at h
  ·rename_i b;obtain⟨F,L,U,r⟩:=b;have w:x=V.str i:=m;have B:y=V.int j:=f;subst w B;obtain⟨t,rfl⟩:=l;obtain⟨t',rfl⟩:=g;have M:i.length*j.toNat<=1000*1000:=Nat.mul_le_mul r Af;have z:PySem.Builtin.Str.tooLong (i.length*j.toNat)=Fo:=by unfold PySem.Builtin.Str.tooLong;rw[Zs];have:=ZG;lia
   have C:(j==1||i.length==0)=Fo:=by rw[ZN,ZA,ZA];lia
   refine P.mul_str ?_ (λ_ _ q=>?_) (λ_ _=>z) ?_
   ·rw[Zs 'h',Zs 'h'];rfl
   ·have:(1000:Int)<=(2^63-1) / j:=by
     refine(Int.le_ediv_iff_mul_le Af).mpr ?_;lia
    lia
   ·rw[if_neg 'h',if_neg (by rw[C];exact ZH)];refine⟨?_,⟨.str (repS i j),H,I.tok _,AS,Out.now h rfl⟩⟩;have e:(⟨'Կ'.foldl (·++·) #[]⟩:Str).length=i.length*j.toNat:=by show('Կ'.foldl (·++·) #[]).size=_;rw[JjD,Nat.mul_comm];simp[Str.length]
    rw[e];have:=ZG;lia
  ·exact h.elim
def JpK:OpR X O9 (rD2 X .fdiv):=by
 rintro Y s Z H x y v u Q I g f⟨q,r,l,e,h⟩;obtain⟨i,j,rfl,rfl,b⟩:=sL h;split at b
 ·rename_i m;exact JtA Y s Z H x y v u Q I g f Q4
 ·exact b.elim
def Jvp:OpR X Qbv (rD2 X .mod):=by
 rintro Y s Z H x y v u Q I g f⟨q,r,l,e,h⟩;obtain⟨i,j,rfl,rfl,b⟩:=sL h;split at b
 ·rename_i m;exact Jxf Y s Z H x y v u Q I g f Q4
 ·exact b.elim
def JnL(q:X.A.units+64<cLine):OpR X (compareOp .Eq) (rD2 X .eq):=by
 rintro Y s Z H x y v u Q I l j⟨e,f,m,i,h⟩;have b:(if(JP e&&JP f)=To then Rs.ok (.bl (e.eqv f))else .sk:Rs D).Good Ct Az:=h;split at b
 ·rename_i g;simp only[JP,Zc,Zw]at g;exact(eX I 20 X.A e f g.1 Af Af m i l j Af).1 XJ X.w X.xe _ UZ
 ·exact b.elim
def Jsk(q:X.A.units+64<cLine):OpR X (compareOp .NotEq) (rD2 X .ne):=by
 rintro Y s Z H x y v u Q I l j⟨e,f,m,i,h⟩;have b:(if(JP e&&JP f)=To then Rs.ok (.bl (!e.eqv f))else .sk:Rs D).Good Ct Az:=h;split at b
 ·rename_i g;simp only[JP,Zc,Zw]at g;exact(eX I 20 X.A e f g.1 Af Af m i l j Af).2.1 XJ X.w X.xe _ UZ
 ·exact b.elim
def lt_cs{a b:D}{E:DG}(h:(op2 .lt a b).Good P E):(∃i j,a=.int i/\b=.int j)\/∃i j,a=.str i/\b=.str j:=by cases a<;>first|exact(show False from h).elim|(cases b<;>first|exact(show False from h).elim|exact .inl EV|exact .inr EV)
def vX:OpR X RE (rD2 X .lt):=by
 rintro Y s Z H x y v u Q I f e⟨l,m,g,b,h⟩;rcases lt_cs h with⟨i,j,rfl,rfl⟩|⟨i,j,rfl,rfl⟩
 ·exact op_lt Y s Z H x y v u Q I f e HB
 ·exact JoL Y s Z H x y v u Q I f e HB
def JwP:OpR X QaW (rD2 X .le):=by rintro Y s Z H x y v u Q I f e⟨m,q,g,b,h⟩;obtain⟨i,j,rfl,rfl,l⟩:=sL h;exact op_le Y s Z H x y v u Q I f e HB
def yY:OpR X Qbw (rD2 X .gt):=by rintro Y s Z H x y v u Q I f e⟨m,q,g,b,h⟩;obtain⟨i,j,rfl,rfl,l⟩:=sL h;exact op_gt Y s Z H x y v u Q I f e HB
def rX:OpR X QaX (rD2 X .ge):=by rintro Y s Z H x y v u Q I f e⟨m,q,g,b,h⟩;obtain⟨i,j,rfl,rfl,l⟩:=sL h;exact op_ge Y s Z H x y v u Q I f e HB
theorem nY:∀{J:Ak}{j:Nat}{d:D},J[j]? =So d->bV<=deps J
 |[],_,_,h=>by simp at h
 |a::J,0,d,h=>by simp at h;subst h;simp only[deps];lia
 |a::J,j+1,d,h=>by
  have:=nY (J:=J) (j:=j) (d:=d) (by simpa using h)
  simp only[deps];lia
open Classical in
noncomputable def eU (J:Ak) (its:AE) (d:D) (y:An):Bool:=decide (∃(j:Nat)(b:D),its[j]? =So y/\J[j]? =So b/\b.eqv d=To)
open Classical in
def JvH(I:BU)(i:F1)(l:G0)(pd:deps J<1000){d':D}{j:Nat}{y:An}(h1:its[j]? =So y)(h:J[j]? =So d'):
  eU J its d y=d'.eqv d:=by
 have same:∀k b,its[k]? =So y->J[k]? =So b->b=d':=λk b g f=>by
  obtain⟨U,u,B⟩:=i.get h
  obtain⟨M,F,w⟩:=i.get f
  obtain⟨O,r,z⟩:=l.get u
  obtain⟨L,m,C⟩:=l.get F
  rw[h1]at r;cases r
  rw[g]at m;cases m
  have:=z.inj C
  subst this
  exact Rep.inj I _ pd (nY f) (yH (nY h) pd) w B
 cases e:d'.eqv d with
 |true=>exact Zx ⟨j,d',h1,h,e⟩
 |false=>
  refine Zs ?_
  rintro⟨k,b,g,f,q⟩
  rw[same k b g f,e]at q
  cases q
open Classical in
theorem Jsj(I:BU)(g:F1)(i:G0)(pd:deps J<1000)(d:D):its.toArray.any '井'=J.any λf=>f.eqv d:=by
 have r:=Yn
 have u:=Ya
 rw[show its.toArray.any '井'=its.any '井' by simp,Bool.eq_iff_iff,vH,vH]
 constructor
 ·rintro⟨y,w,e⟩
  obtain⟨j,f,_,q,l⟩:=ZZ e
  exact⟨f,uM q,l⟩
 ·rintro⟨f,m,e⟩
  obtain⟨j,h⟩:=qP m
  have b:j<B0:=by
   have:=(Zz.mp h).1
   lia
  refine⟨its[j],zP b,?_⟩
  rw[JvH I g i pd (ZC b) h]
  exact e
theorem Jsd(U:X.A.units+64<cLine)(I:BU)(e:F1)(g:G0){x:V}{v:An}(l:Rep X.K H d x)(r:RelV x v)(w:deps J<=20)(z:d.dep<=20):
  ∀y,y∈AF->EqAt YQ s y v (eU J its d y):=by
 intro y u;have h:y∈its:=by simpa using u
 obtain⟨j,f⟩:=qP h;have F:=Ya;have L:=cT;have C:=(Zz.mp f).1;have b:J[j]? =So 'ǥ':=by rw[pM,ZC 'h'];rfl
 rw[JvH I e g 'h' f b];obtain⟨O,m,B⟩:=e.get b;obtain⟨M,i,q⟩:=g.get m;rw[f]at i;cases i;exact(eX I 20 YQ _ d (qT w) AB Af B l q r (by show X.A.units+1+20+1<cLine;lia)).2.2
def JpL(h:x.cps=#[x.cps.getD 0 0]):x=⟨#[x.cps.getD 0 0]⟩:=by obtain⟨c⟩:=x;show Str.mk c=_;rw[<-h]
def JrT(F:X.A.units+64<cLine):OpR X Qbx (rD2 X .isin):=by
 rintro Y s Z H x y v u Q I B r⟨b,L,C,q,h⟩;cases L with
 |str z=>
  cases b with
  |str w=>
   simp only[op2]at h;split at h
   ·rename_i l;refine JoK Y s Z H x y v u Q I B r ⟨w,z,C,q,?_⟩;have e:=PySem.StrLaws.found_one z (w.cps.getD 0 0);rw[<-JpL l]at e;rw[e];exact Out.now h rfl
   ·exact h.elim
  |_=>exact(show False from h).elim
 |tup J=>
  have f:(if(JP (.tup J)&&JP b)=To then Rs.ok (.bl P1)else .sk:Rs D).Good Ct Az:=by cases b<;>exact h
  split at f
  ·rename_i l;have g:deps J+1<=20/\b.dep<=20:=by simpa[JP,D.dep]using l
   obtain⟨a,xs,rfl,m,j⟩:=q;cases r;obtain⟨its,i,p,_⟩:=I.tuple m;refine SeqAt.in_tupleAt (eU J its b) p (Jsd F I j i C B Af g.2) OS;rw[Jsj I j i 'h'];exact Out.now f rfl
  ·exact f.elim
 |lst J=>
  have f:(if(JP Bc&&JP b)=To then Rs.ok (.bl P1)else .sk:Rs D).Good Ct Az:=by cases b<;>exact h
  split at f
  ·rename_i l;have g:deps J+1<=20/\b.dep<=20:=by simpa[JP,D.dep]using l
   obtain⟨a,xs,rfl,m,j⟩:=q;cases r;obtain⟨its,i,p,_⟩:=I.list m;refine SeqAt.in_listAt (eU J its b) YE (Jsd F I j i C B Af g.2) OS;rw[Jsj I j i 'h'];exact Out.now f rfl
  ·exact f.elim
 |_=>cases b<;>exact(show False from h).elim
def JnG{K:Aj}{i:Int}(b:FY)(h:atD J i=So d):∃x,atI xs i=So x/\Rep K H d x:=by
 have l:=YU;unfold atD at h;unfold atI;have e:L2.ixN Ah i=ixn Ae i:=by rw[l];rfl
 rw[e];cases q:ixn Ae i with
 |none=>rw[q]at h;cases h
 |some j=>rw[q]at h;exact b.get h
def Jyb:IxR X (rD2 X .idx):=by
 rintro e b Y s Z H x y v u Q I r m⟨L,O,F,l,h⟩B;cases L<;>first|exact(show False from h).elim|(cases O<;>first|exact(show False from h).elim|skip)
 ·rename_i z i;simp only[op2]at h;split at h
  ·rename_i M;cases q:atD Ye i with
   |none=>rw[q]at h;exact h.elim
   |some c=>rw[q]at h;exact Jxv e b Y s Z H x y v u Q I r m ⟨z,i,c,F,l,gJ M,q,Out.now h rfl⟩ B
  ·exact h.elim
 ·rename_i J i;simp only[op2]at h;cases q:atD J i with
  |none=>rw[q]at h;exact h.elim
  |some d=>rw[q]at h;obtain⟨a,xs,rfl,g,j⟩:=F;obtain⟨w,C,f⟩:=JnG j q;exact Jxh e b Y s Z H _ y v u Q I r m Vi B
 ·rename_i J i;simp only[op2]at h;cases q:atD J i with
  |none=>rw[q]at h;exact h.elim
  |some d=>rw[q]at h;obtain⟨a,xs,rfl,g,j⟩:=F;obtain⟨w,C,f⟩:=JnG j q;exact JuX e b Y s Z H _ y v u Q I r m Vi B
end Rd
namespace HT
open PySem PyProof.Rows
def JcL{prog:Ba}{w:AQ}{A:Bv}{E:Ay}{s:Al}{t sl:Addr}{items:B6}{m r:An}{lo hi:BB}{Q:Ay}(b:NX)(hs:s.heap.IsSliceOf sl m r .none)(pl:IsPart m lo)(u:IsPart r hi)
  (l:sIx Aw 0 lo=0/\sIx Aw Aw hi=Aw) (h:Q GU s):wpAny As A OJ Q E s:=by
 obtain⟨x,j,f,v⟩:=id hs;have g:s.TypeIs Kt "slice":=⟨x,j,f⟩;unfold getItem;try with_reducible refine wA ?_
 first|refine Za (Zb ?_)|skip
 refine Za (wpAny_sequenceKey YT AB ?_);refine Za (ZM (name:=oS "__getitem__") YT nQ
  (ZD nQ YT entry_tuple_getitem ?_ QD))
 show wpAny _ _ (Builtin.Tuple.tupleItemsOf (.ref t)>>=_) _ _ s;refine Za (tupleItemsOf_ b ?_);refine Za (kF g ?_);rw[if_pos 'y'];refine Za (Jba hs pl u ?_);have a:(((sIx Aw 0 lo:Nat):Int)==0&&(1:Int)==1&& Gc==Aw)=To:=by rw[l.1,l.2];simp
 show wpAny _ _ (if(((sIx Aw 0 lo:Nat):Int)==0&&(1:Int)==1&& Gc==Aw)=To then _ else _) _ _ s;rw[if_pos a];have e:∀{i:E5},i To s->wpAny As XU (Builtin.Tuple.tupleIsExact GU) i E s:=fun{i}q=>by obtain⟨o,z,y,n,B⟩:=id b;unfold Builtin.Tuple.tupleIsExact;refine Za (kF (T:="tuple") ⟨o,z,y⟩ ?_);exact Zb q
 first
  |exact Za (e (by simp only[if_true];exact Za (kB (Zb ⟨_,rfl,Zb h⟩))))
  |exact Za (wpAny_of_in1 (e (by simp only[if_true];exact Za (kB (Zb ⟨_,rfl,Zb h⟩)))))
end HT
namespace Rd
open PySem PySem.Spec PyProof.Rows L2 Pu
open PySem.SeqAt (EqAt RcAt RcNeAt)
variable{H H0 H1 W:Hp}{a l it b:Addr}{K:Aj}{Z σ':Bl}{X:Cx}{s:Al}{i k j n ep sl:Nat}{w:AQ}{A:Bv}{prog P:Ba}{E:Ay}{N ks:Ac}{pos p1 p2 px apos tp np:Pos}{M:Au}{Y:A8}{t lb t1 t2 m z:Bool}{G:Gw}{nm:Bj}{xs:Av}{x y:Str}{p pa pb:Px}{J:Ak}{O:Fm}{L L1:A9}{e tg:Expr}{h h':Heap}{o:O1}{v:V}{elts:CF}{items:B6}{α:Type}{es:Kx}{bs:List Bool}{st:Stmt}
section
variable{X:Cx}{U:Ag}{e a b c:Expr}{es:CF}{p pa pb pc pl ph:Px}{pos:Pos}
def JfB{lo hi:BB}(f:FY):Reps K H (cutD J lo hi) 'Ȱ':=by
 have l:=cU;have e:cutV xs lo hi=(xs.drop (six Ae 0 lo)).take (six Ae Ae hi-six Ae 0 lo):=by unfold cutV;rw[l];rfl
 rw[e];exact(f.drop _).take _
def JnP{v:An}{o:BB}(h:IsPart v o):∃p:Option (Int×Tok),v=partValue p/\p.map (·.1)=o:=by
 cases h with
 |none=>exact⟨No,rfl,rfl⟩
 |int i t=>exact⟨So (i,t),rfl,rfl⟩
theorem JgG(n:Nat)(lo hi:BB):Builtin.Str.strSliceIndices lo hi 1 n=(List.range (six n n hi-six n 0 lo)).map λk=>six n 0 lo+k:=by
 have g:∀a b:Nat,sliceRange (a:Int) (b:Int) 1=(List.range (b-a)).map λk=>a+k:=λa b=>by
  unfold sliceRange;have e:(if(a:Int)<b then((b:Int)-a+1-1) / 1 else 0).toNat=b-a:=by split<;>simp<;>lia
  simp only[show(1:Int)>0 by decide,if_true,e];refine tG λk _=>?_;lia
 have f:∀(v:BB)(d:Nat),(match v with|none=>(d:Int)|some i=>max 0 (min (if i<0 then i+(n:Int)else i) n))=((six n d v:Nat):Int):=λv d=>by
  cases v with
  |none=>rfl
  |some i=>
   unfold six;by_cases h:i<0
   ·simp only[h,if_true];lia
   ·simp only[h,ZF];lia
 rw[<-g];have q:=f lo 0;have r:=f hi n;unfold Builtin.Str.strSliceIndices;simp only[show(1:Int)>0 by decide,if_true];rw[<-q,<-r];cases lo<;>cases hi<;>rfl
theorem Jmz(x:Str)(lo hi:BB):Txt.slice x lo hi=mkS UF:=by
 have g:x.cps.toList.length=x.length:=ZQ;have f:∀(d:Nat),d<=x.length->∀v,six XI d v<=x.length:=λd C v=>by
  cases v with
  |none=>exact C
  |some i=>simp only[six];split<;>lia
 have q:=f 0 Xs lo;have I:=f XI (Zh _) hi;have F:'ϵ'.filterMap (x.cps[·]?)=Pu.cutD XS lo hi:=by
  rw[JgG,Pu.cutD,g];have:=StrLaws.picks XS (six XI XI hi-six XI 0 lo);generalize six XI 0 lo=a at q this;generalize six XI XI hi=b at I this;by_cases h:a<=b
  ·rw[<-this a 'h'];simp only[kI]
  ·rw[show b-a=0 by lia];simp
 unfold Txt.slice;rw[F];split
 ·rename_i h;have u:'ϵ'.length=x.length:=by simpa using h
  rw[JgG,Zi,xH]at u;have B:six XI 0 lo=0:=by lia
  have r:six XI XI hi=x.length:=by lia
  rw[Pu.cutD,g,B,r,Nat.sub_zero,List.drop_zero,<-g,List.take_length];rfl
 ·rfl
def rSlD (X:Cx):V->Option Int->Option Int->Hp->VK->Prop:=λx g f H Q=>∃d,Rep X.K H d x/\(match d with
 |.tup J=>Rs.ok (.tup (cutD J g f))
 |.lst J=>.ok (.lst (cutD J g f))
 |.str x=>if x.length<=20000 then .ok (.str (mkS (Pu.cutD XS g f)))else .sk
 |_=>.sk:Rs D).Good Ct Az
def slD:SlR X (rSlD X):=by
 rintro Y s Z H x v vl vu lo hi sl Q I rx hs pl pu⟨d,r,h⟩;cases d with
 |tup J=>
  obtain⟨a,xs,rfl,f,h2⟩:=r;by_cases C:HT.sIx Ah 0 lo=0/\HT.sIx Ah Ah hi=Ah
  ·cases rx;obtain⟨its,r,ht,hz⟩:=I.tuple f;have B:CL=Ah:=by rw[Zo];exact r.length.symm
   refine⟨"tuple",_,aE,ht.typeIs,HT.JcL ht hs pl pu (by rw[B];exact C) ⟨.ref a,H,I,rfl,Out.now h ⟨a,xs,rfl,f,?_⟩⟩⟩;have e:=JfB (lo:=lo) (hi:=hi) h2;have e2:cutV xs lo hi=xs:=by unfold cutV;rw[C.1,C.2];simp
   rw[e2]at e;exact e
  ·refine Jxe Y s Z H _ v vl vu lo hi sl Q I rx hs pl pu ⟨a,xs,rfl,f,C,λp hp=>?_⟩;obtain⟨s1,q1⟩:=wG (K:=X.K) hp (JfB (lo:=lo) (hi:=hi) h2);exact h _ _ s1 q1
 |lst J=>obtain⟨a,xs,rfl,f,h2⟩:=r;refine JuE Y s Z H _ v vl vu lo hi sl Q I rx hs pl pu ⟨a,xs,rfl,f,λp hp=>?_⟩;obtain⟨s1,q1⟩:=iH (K:=X.K) hp (JfB (lo:=lo) (hi:=hi) h2);exact h _ _ s1 q1
 |str x=>
  cases r;obtain⟨t,rfl⟩:=rx;have h:(if x.length<=20000 then Rs.ok (D.str (mkS UF))else Rs.sk:Rs D).Good Ct Az:=h;split at h
  ·rename_i hz;obtain⟨q,e1,e2⟩:=JnP pl;obtain⟨g,e3,e4⟩:=JnP pu;obtain⟨o,ho,hc,hd⟩:=hs;subst e1 e3 e2 e4;refine⟨"str",_,F.slot_str_getitem.lookup,wM _ _ _,wpAny_getItem_str_slice (l:=q) (u:=g) (st:=No) ⟨o,ho,hc,hd⟩ rfl (post_val_or_str ⟨?_,λt' k=>?_⟩)⟩
   ·exact Zq (Txt.slice_le x _ _) (Zq hz (show 20000<=sizeLine by rw[ZG];decide))
   ·refine⟨.str (Txt.slice x (q.map (·.1)) (g.map (·.1))),H,I.tok _,AS,?_⟩;rw[Jmz];exact Out.now h rfl
  ·exact h.elim
 |_=>exact h.elim
def tO (X:Cx) (U:Ag) (p:Px):TO:=λZ H Q=>∃O,ReadOk X.K H Z O/\('ǉ'.bind D.bound).Good (λo=>∀W,Same H W->Q o W) Az
def mS:PO X No (tO X U Ek):=λY s Z H Q I⟨O,r,h⟩=>JtL Y s Z H Q I (h H D8)
def vS(h:Cf):PO X (So e) (tO X U (.un .asI p)):=λY s Z H Q I⟨O,r,g⟩=>JsI h Y s Z H Q I (by
 simp only[evD,Rs.bind_assoc]at g
 refine⟨O,r,(Rs.gB.mp g).imp λd f v W u q=>?_⟩
 cases d with
 |int i=>exact⟨i,q,f W u⟩
 |_=>exact(show False from f).elim)
def sU{lo hi:dW}{p2:Pos}(he:PE X e G6)(hl:PO X lo (tO X U pl))(hu:PO X hi (tO X U ph)):PE X Qm (tI X U (.sl pa pl ph)):=by refine PE.weak (JpE slD he hl hu) λZ H Q q=>?_;obtain⟨O,r,h⟩:=q;refine tI.then r h λd v H1 s1 rv C B=>?_;rw[<-Rs.bind_assoc]at B;refine⟨O,C,(Rs.gB.mp B).imp λl F H2 f=>?_⟩;rw[<-Rs.bind_assoc]at F;refine⟨O,C.mono f,((Rs.gB.mp F).imp λu h3 H3 g=>?_).mono (λ_ x=>x) λc x=>x.mono f⟩;refine⟨d,rv.mono bZ,?_⟩;have h4:=h3.mono (λI(o:Out X H1 Q I)=>o.mono bZ) λc(x:XW X H1 c)=>x.mono bZ;cases d<;>exact h4
def tF.of{Q:VK}(h:tI X U p Z H Q)(f:∀O d,ReadOk X.K H Z O->evD U p O=.ok d->∃J,d=.lst J):tF X U p Z H Q:=by
 obtain⟨O,r,h⟩:=h;refine Dd;cases q:evD U p O with
 |ok d=>rw[q]at h;obtain⟨J,rfl⟩:=f O d r q;exact⟨J,rfl,λl xs W s B u g=>h _ _ s ⟨l,xs,rfl,SqL.of u,g⟩⟩
 |ex c=>rw[q]at h;exact h
 |sk=>rw[q]at h;exact h
noncomputable def isL:Px->Bool
 |.comp _ _ _ _=>To
 |.dis _=>To
 |_=>Fo
def JmH{d:D}(h:isL p=To)(e:evD U p O=.ok d):∃J,d=.lst J:=by
 cases p with
 |comp u a b c=>
  simp only[evD]at e;cases q:evD U a O with
  |ok f=>
   rw[q]at e;cases f with
   |lst J=>
    simp only[Rs.bo,D.asL]at e;split at e
    ·cases g:JZ u (evD U b) Xy O J with
     |ok r=>rw[g]at e;cases e;exact⟨r,rfl⟩
     |ex c=>rw[g]at e;cases e
     |sk=>rw[g]at e;cases e
    ·cases e
   |_=>cases e
  |ex c=>rw[q]at e;cases e
  |sk=>rw[q]at e;cases e
 |dis a=>
  simp only[evD]at e;cases q:evD U a O with
  |ok f=>
   rw[q]at e;cases f with
   |lst J=>
    simp only[Rs.bo,D.asL]at e;split at e
    ·cases e;exact⟨J,rfl⟩
    ·cases e
   |_=>cases e
  |ex c=>rw[q]at e;cases e
  |sk=>rw[q]at e;cases e
 |_=>cases h
def jJ(h:Qdl)(f:isL p=To):PE X e Gj:=PE.weak h λZ H Q g=>tF.of g λO d _ q=>JmH f q
def zX(h:Qbo):PE X Qb7 (tF X U (.dis p)):=by
 refine PE.weak (JrW h) λZ H Q g=>?_;obtain⟨O,r,h⟩:=g;refine⟨O,r,'ħ'.imp λd f=>?_⟩;cases d with
 |lst J=>
  simp only[D.asL,Rs.bo]at f;refine⟨J,rfl,λC W s rs=>?_⟩;split at f
  ·rename_i F;refine⟨by rw['ƚ',ZG];exact F,λa q=>?_⟩;obtain⟨u,r2⟩:=iH q rs;obtain⟨I,B,hQ⟩:=f;cases B;exact hQ a C _ (s.trans u) (s.free q) Je (rs.mono u)
  ·exact f.elim
 |_=>exact f.elim
def rC1 (X:Cx) (o:O1):List V->Hp->VK->Prop:=λxs H Q=>∃x d,xs=[x]/\Rep X.K H d x/\(op1 o d).Good Ct Az
def tC1{Q:VK}(h:Ph):tCB QaG (tA X U (.cons pa .nil)) Z H Q:=by obtain⟨O,r,h⟩:=h;refine Dd;simp only[evD];refine Rs.gB.mpr ('ħ'.imp λd f=>?_);simp only[Rs.bo,D.asL];refine⟨[d],rfl,λC W s q=>?_⟩;obtain⟨x,F,B,g,u⟩:=q;cases u;subst B;exact⟨x,d,rfl,g,f.mono OI λ_ x=>x.mono s⟩
section
variable{G:Gw}{N:Ac}{nm:Bj}{x:Str}{id T:Bg}{p1:Pos}
def yR(C:Am)(q:oA X DC QaG)(g:AO)(F:gloB nm x=To)(u:G.mg x=No)(B:bootBuiltins x=So DC)(r:x≠"__name__")(f:Q8)
  (hs:SI):PE X P0 SW:=
 PE.weak (zT q (C.glo _ F) (by rw[C.mg];exact u) B (Jd g Jm hs) r f hs rfl) λZ H Q h=>tC1 h
def KW(C:Am)(q:oA X EK QaG)(g:AO)(F:gloB nm x=To)(u:G.mg x=No)(B:bootBuiltins x=So EK)(r:x≠"__name__")(f:Q8)
  (hs:SI):PE X P0 SW:=
 PE.weak (JgD q (C.glo _ F) (by rw[C.mg];exact u) B (Jd g Jm hs) r f hs rfl) λZ H Q h=>tC1 h
end
def Inv.kind(I:BU){a:Addr}{o f:HO}(h:H a=So o)(C:Mut (So o))(hn:ObjOk XJ X.w H VU a o->ObjOk XJ X.w (upd H a f) VU a f):L2.Inv X Y Z (upd H a f) s:=by
 have ne:∀{b u},H b=So u->Mut (So u)=False->upd H a f b=H b:=fun{b u}e m=>Jc λz=>by
  subst z
  rw[h]at e;cases e
  rw[m]at C;exact C
 have g:∀{b},H b=No->upd H a f b=No:=fun{b}e=>by rw[Jc λz=>by rw[z,h]at e;cases e];exact e
 exact{
  ok:=I.ok,os:=I.os,bare:=Yi
  base:=⟨I.base.keep,I.base.slot,λb r hb F hx=>g (I.base.free b r hb F hx),I.base.there,λb xs q=>by rw[ne '亩' rfl];exact I.base.tups b xs q,λb r u q=>by rw[ne (I.base.frzs b r u q) rfl];exact I.base.frzs b r u q,λb qs q=>by
   obtain⟨m,e⟩:=I.base.tbls b qs q
   exact⟨m,by rw[ne e rfl];exact e⟩⟩
  loc:=Ys,cell:=I.cell,free:=g Yv,freeC:=λx c e=>g Hq
  pin:=λp B=>⟨(I.pin p B).1,g (I.pin p B).2.1,(I.pin p B).2.2⟩
  hok:=I.hok.write (by rw[h];exact C) Be Lg (HOk.has XQ h) (hn (I.hok a o h))
  len:=I.len}
def Inv.asL(I:BU){a:Addr}{t:Str}(h:H a=So KJ):L2.Inv X Y Z Ro s:=Inv.kind I h trivial id
def Inv.asM(I:BU){a:Addr}(t:Str)(h:H a=So AA):L2.Inv X Y Z (upd H a KJ) s:=Inv.kind I h trivial id
def JwQ{a:Addr}{o u:HO}(h:H a=So o):upd (upd H a u) a o=H:=funext λb=>by
 by_cases q:b=a
 ·subst q;rw[Je,h]
 ·rw[Jc q,Jc q]
def Jwi:oA X M3 (rC1 X .len):=by
 rintro Y s Z H xs B Q I q⟨x,d,e,r,h⟩;subst e;cases d with
 |str z=>
  simp only[op1]at h;split at h
  ·rename_i hz;exact JhB Y s Z H _ B Q I q ⟨z,by rw[show x=V.str z from r],gJ hz,Out.now h rfl⟩
  ·exact h.elim
 |tup J=>obtain⟨a,ys,rfl,f,g⟩:=r;exact Jbi Y s Z H _ B Q I q ⟨a,ys,rfl,.inr f,by rw[g.length];exact Out.now h rfl⟩
 |lst J=>obtain⟨a,ys,rfl,f,g⟩:=r;exact Jbi Y s Z H _ B Q I q ⟨a,ys,rfl,.inl f,by rw[g.length];exact Out.now h rfl⟩
 |mls t J=>obtain⟨a,ys,rfl,f,g⟩:=r;refine thn (Jbi Y s Z _ _ B (λv W=>v=.int By/\W=upd H a FP) (Inv.asL I f) q ⟨a,ys,rfl,.inl (.inl (.inl Je)),rfl,rfl⟩) λu s1 F=>?_;obtain⟨v,H1,I1,C,e1,e2⟩:=F;subst e1 e2;have I2:=Inv.asM I1 t (xs:=ys) Je;rw[JwQ f]at I2;exact⟨_,H,I2,C,by rw[g.length];exact Out.now h rfl⟩
 |_=>exact(show False from h).elim
def Jqf:oA X MT (rC1 X .tuple):=by
 rintro Y s Z H xs B Q I u⟨x,d,e,r,h⟩;subst e;cases d with
 |tup J=>obtain⟨a,f,rfl,g,q⟩:=r;exact Jcq Y s Z H _ B Q I u ⟨a,f,rfl,.inr ⟨g,Out.now h ⟨a,f,rfl,g,q⟩⟩⟩
 |lst J=>obtain⟨a,f,rfl,g,q⟩:=r;refine Jcq Y s Z H _ B Q I u ⟨a,f,rfl,.inl ⟨g,λl F=>?_⟩⟩;obtain⟨s1,C⟩:=wG (K:=X.K) F q;exact h _ _ s1 C
 |_=>exact(show False from h).elim
def Jth:oA X Rt (rC1 X .list):=by
 rintro Y s Z H xs us Q I F⟨x,d,e,r,h⟩;subst e;cases d with
 |tup J=>obtain⟨a,g,rfl,q,C⟩:=r;refine Jdc Y s Z H _ us Q I F ⟨a,g,rfl,.inr q,λl u=>?_⟩;obtain⟨B,f⟩:=iH (K:=X.K) u C;exact h _ _ B f
 |lst J=>obtain⟨a,g,rfl,q,C⟩:=r;refine Jdc Y s Z H _ us Q I F ⟨a,g,rfl,.inl q,λl u=>?_⟩;obtain⟨B,f⟩:=iH (K:=X.K) u C;exact h _ _ B f
 |_=>exact(show False from h).elim
theorem xZ:∀{J:Ak}{bs:List Bool}{xs:Av},jB J=So bs->Reps K H J xs->xs=bs.map V.bl
 |[],_,_,h,r=>by
  simp only[jB]at h
  cases h
  cases r
  rfl
 |d::J,bs,_,h,⟨x,r,e,h1,h2⟩=>by
  subst e
  cases d with
  |bl b=>
   simp only[jB]at h
   cases q:jB J with
   |none=>rw[q]at h;cases h
   |some f=>
    rw[q]at h
    cases h
    have:=xZ q h2
    subst this
    cases h1
    rfl
  |_=>simp[jB]at h
def JmC:'乧'.all Pv=bs.all id:=by
 induction bs with
 |nil=>rfl
 |cons b bs f=>rw[Zk,jW,gF,uL];simp only[gF,<-f];rfl
def JnB:'乧'.any Pv=bs.any id:=by
 induction bs with
 |nil=>rfl
 |cons b bs f=>rw[Zk,jW,rD,tL];simp only[rD,<-f];rfl
theorem Jkp(r:Ci)(I:BU){a:Addr}(h1:SqL X.K H a (bs.map V.bl)){Q:Ay}{g:Bool}{tr:Nat->Bool}
  (hq:∀h' B,(∀b o,s.heap.get? b=So o->h'.get? b=So o)->Q QaE {s with heap:=h',toks:=B}):
  wpAny AD YQ Iu (λit f=>∃I fp wr n P St tr,it=.ref I/\Walks XJ X.w YQ I fp wr n P St/\St 0 f.heap/\TruthOf XJ X.w YQ P tr/\n=Qdw/\tr=(λi=>bs.getD i Fo)/\
   ∀h' B,(∀b o,b∉wr->f.heap.get? b=So o->h'.get? b=So o)->Q QaE {f with heap:=h',toks:=B}) X.xe s:=by
 obtain⟨its,rv,p,hz⟩:=I.list h1;have hh:X.A.in1.handled=No:=by show X.A.handled=No;exact I.ok.hd r
 refine zJ YE ?_;obtain⟨o,ho,_⟩:=YE;have hlt:a<Aa:=Zj ho;refine⟨Aa,_,_,_,_,_,λi=>bs.getD i Fo,rfl,Walks.list hh Aa a (Zu hlt) AF,⟨CP,p.isList.push _⟩,?_,?_,rfl,λh' B k=>?_⟩
 ·intro i v Q' E' s' hv q;have C:its[i]? =So v:=by simpa using hv
  have F:=Qdx;have hi:i<B0:=(Zz.mp C).1;have hbi:(bs.map V.bl)[i]? =So (V.bl (bs.getD i Fo)):=by rw[xB,pM,ZC (by rw[Zi]at F;lia)];rfl
  obtain⟨u,e1,e2⟩:=rv.get hbi;rw[C]at e1;cases e1;cases e2;exact nD q
 ·have F:=Qdx;rw[Zi]at F;rw[Zo];exact F.symm
 ·refine hq h' B λb o e=>k b o ?_ EG;intro hb;have:b=Aa:=by simpa using hb
  rw[this]at e;exact vQ _ (Zj e)
def Jwv(f:Ci):oA X (.builtin "all") (rC1 X .all):=by
 rintro Y s Z H xs us Q I rv⟨x,d,e,r,h⟩;subst e;cases d with
 |lst J=>
  simp only[op1]at h;cases q:jB J with
  |none=>rw[q]at h;exact h.elim
  |some bs=>rw[q]at h;obtain⟨a,ys,rfl,h1,h2⟩:=r;have:=xZ q h2;subst this;obtain⟨u,rfl,rx⟩:=xA rv;cases rx;refine call_all_walk (thn (Jkp (g:=bs.all id) (tr:=λ_=>To) f I h1 (Q:=EP X Y Z Q) λh' C k=>VB) λit s2 B=>?_);obtain⟨I',fp,wr,n,Pz,F,tr,e1,W9,st,tt,e2,e3,hq⟩:=B;subst e2;subst e3;refine Wv;rw[JmC];exact hq h' C k
 |_=>exact(show False from h).elim
def Jyh(f:Ci):oA X (.builtin "any") (rC1 X .any):=by
 rintro Y s Z H xs us Q I rv⟨x,d,e,r,h⟩;subst e;cases d with
 |lst J=>
  simp only[op1]at h;cases q:jB J with
  |none=>rw[q]at h;exact h.elim
  |some bs=>rw[q]at h;obtain⟨a,ys,rfl,h1,h2⟩:=r;have:=xZ q h2;subst this;obtain⟨u,rfl,rx⟩:=xA rv;cases rx;refine call_any_walk (thn (Jkp (g:=bs.any id) (tr:=λ_=>To) f I h1 (Q:=EP X Y Z Q) λh' C k=>VB) λit s2 B=>?_);obtain⟨I',fp,wr,n,Pz,F,tr,e1,W9,st,tt,e2,e3,hq⟩:=B;subst e2;subst e3;refine Wv;rw[JnB];exact hq h' C k
 |_=>exact(show False from h).elim
def tI.un1{Q:VK}{f:VK}(h:Ph)(u:∀d v W,Same H W->Rep X.K W d v->(op1 o d).Good (Out X W Q) (XW X W)->f v W):tI X U pa Z H f:=by obtain⟨O,r,h⟩:=h;exact tI.then r h λd v W s q _ g=>u d v W s q g
def JnR{d:D}(r:Dv):op1 .isN d=.ok (.bl (decide (v=.non)))/\op1 .notN d=.ok (.bl (!decide (v=.non))):=by
 cases d with
 |non=>cases r;rw[Zx rfl];exact Cv
 |_=>rw[Zs (by rintro rfl;first|(cases r;done)|(obtain⟨_,_,e,_⟩:=r;cases e;done)|(obtain⟨e,_⟩:=r;cases e;done)|(obtain⟨_,e,_⟩:=r;cases e;done)|(obtain⟨_,_,_,e,_⟩:=r;cases e))];exact Cv
def Jyl{j p'}(g:AO):PT X (.Compare a [.Is] OR pos) (tT X U (.un .isN pa)):=
 PT.weak (vR (Jxz g)) λZ H Q h=>h.asTest.un1 λd v W s q f=>by rw[(JnR q).1]at f;exact Out.now f rfl
def JmP{j p'}(g:AO):PT X (.Compare a [.IsNot] OR pos) (tT X U (.un .notN pa)):=
 PT.weak (vR (JtU g)) λZ H Q h=>h.asTest.un1 λd v W s q f=>by rw[(JnR q).2]at f;exact Out.now f rfl
def JxK(g:AO):PE X (.UnaryOp .USub a pos) (tI X U (.un .neg pa)):=by
 refine PE.weak (pe_un Jwx g) λZ H Q h=>h.un1 λd v W s q f=>?_;cases d with
 |int i=>exact⟨i,q,Out.now f rfl⟩
 |_=>exact(show False from f).elim
def tI.chain{o1 F:O2}{Q:VK}(h:tI X U (.and (.bi o1 pa pb) (.bi F pb pc)) Z H Q):Jrl (rD2 X o1) (rD2 X F) G6 LX (tI X U pc) Z H Q:=by
 obtain⟨O,r,h⟩:=h;simp only[evD,Rs.bind_assoc]at h;refine tI.then r h λdx x H1 s1 r1 B f=>?_;cases u:evD U pb O with
 |ok dy=>
  rw[u]at f;refine⟨O,B,?_⟩;rw[u];intro y I q r2;have h2:=f.mono (λd(o:Out X H1 Q d)=>o.mono q) λc(x:XW X H1 c)=>x.mono q;simp only[Rs.bo]at h2;refine⟨dx,dy,r1.mono q,r2,(Rs.gB.mp h2).imp λdz C z H3 g r3=>?_⟩;cases dz with
  |bl k=>
   refine⟨k,r3,?_⟩;cases k with
   |true=>have h3:=C.mono (λd(o:Out X I Q d)=>o.mono g) λc(x:XW X I c)=>x.mono g;refine iteT (tI.then (B.mono (q.trans g)) h3 λdw w H4 s4 r4 q4 h4=>⟨dy,dw,r2.mono (g.trans s4),r4,h4⟩)
   |false=>exact iteF (C _ _ g rfl)
  |_=>exact C.elim
 |ex c=>exact⟨O,B,by rw[u]at f⊢;exact f⟩
 |sk=>rw[u]at f;exact f.elim
def JpU{r q:O2}{op f:bT}(C:OpR X Lq (rD2 X r))(g:OpR X (compareOp f) (rD2 X q))(u:AO)(I:BJ)(B:PE X c (tI X U pc))
  (F:lastMarks [op,f] [b,c]=Fo):PE X (.Compare a [op,f] [b,c] pos) (tI X U (.and (.bi r pa pb) (.bi q pb pc))):=PE.weak (JqM C g u I B F) λZ H Q h=>h.chain
end
noncomputable def oK (t:Bool):String:=if t then "tuple_iterator" else "list_iterator"
def IsIt(t:Bool)(h:Heap)(it a:Addr)(i:Nat):Prop:=∃o,h.get? it=So o/\o.cls=.type (oK t)/\o.data=.fields #[.ref a,.int i 0]
def IsSq(t:Bool)(h:Heap)(a:Addr)(items:B6):Prop:=match t with
 |true=>h.IsTuple a items
 |false=>h.IsList a items
def IsIt.stay(x:Qd2)(k:∀o,h.get? it=So o->h'.get? it=So o):IsIt t h' it a i:=let⟨o,e,r⟩:=x;⟨o,k o e,r⟩
def IsSq.stay(x:IsSq t h a items)(k:∀o,h.get? a=So o->h'.get? a=So o):IsSq t h' a items:=by
 cases t
 ·exact let⟨o,e,r⟩:=(show h.IsList a items from x);(show h'.IsList a items from⟨o,k o e,r⟩)
 ·exact let⟨o,e,r⟩:=(show h.IsTuple a items from x);(show h'.IsTuple a items from⟨o,k o e,r⟩)
def IsIt.lt(x:Qd2):it<Bz:=let⟨_,e,_⟩:=x;Zj e
def rV{x:An}{Q:Ay}(hit:NW)(C:Ou)(u:items[i]? =So x)
  (I:∀h',IsIt t h' it a Bw->Heap.SameBut it VU h'->Q x {s with heap:=h'}):wpAny As A U0 Q E s:=by
 cases t with
 |false=>exact wpAny_nextOf_list_item (l:=a) (i:=i) hit C u I
 |true=>obtain⟨o,g,B,f⟩:=id hit;obtain⟨ol,q,_,U,r⟩:=(show s.heap.IsTuple a items from C);have ty:s.TypeIs B7 "tuple_iterator":=⟨o,g,B⟩;unfold Builtin.SmallTypes.nextOf;refine Za (ZM (name:=oS "__next__") ty qQ (ZD qQ ty cA ?_ U8));show wpAny _ _ (field B7 0>>=_) _ _ s;refine Za (ZS g f (x:=.ref a) rfl ?_);show wpAny _ _ (if(Value.ref a==XH)=To then _ else _) _ _ s;rw[if_neg (show¬((Value.ref a==Value.none)=To)from ZH)];show wpAny _ _ (field B7 1>>=_) _ _ s;refine Za (ZS g f (x:=.int i 0) rfl ?_);show wpAny _ _ (seqItems? Ar>>=_) _ _ s;refine Za (uC q r ?_);simp only[rF,u];refine Za (sC g f Ad (Zb ⟨x,rfl,Zb (I _ ?_ (uF ..))⟩));refine⟨_,ZX _ g (gW (fK f _)),(Obj.cls_mapFields ..).trans B,?_⟩;rw[fK f];simp[rawInt]
def JcU{Q:Ay}(r:Bh)(hit:NW)(C:Ou)(B:items[i]? =No)
  (hE:∀h' e,Heap.ExtBut it VU h'->(∃o,h'.get? e=So o/\o.cls=.type "StopIteration")->E J5 {s with heap:=h'}):wpAny As A U0 Q E s:=by
 cases t with
 |false=>exact wpAny_nextOf_list_end r (l:=a) (i:=i) hit C B hE
 |true=>
  obtain⟨o,f,I,g⟩:=id hit;obtain⟨ol,q,_,U,u⟩:=(show s.heap.IsTuple a items from C);have ty:s.TypeIs B7 "tuple_iterator":=⟨o,f,I⟩;unfold Builtin.SmallTypes.nextOf;refine Za (ZM (name:=oS "__next__") ty qQ (ZD qQ ty cA ?_ U8));show wpAny _ _ (field B7 0>>=_) _ _ s;refine Za (ZS f g (x:=.ref a) rfl ?_);show wpAny _ _ (if(Value.ref a==XH)=To then _ else _) _ _ s;rw[if_neg (show¬((Value.ref a==Value.none)=To)from ZH)];show wpAny _ _ (field B7 1>>=_) _ _ s;refine Za (ZS f g (x:=.int i 0) rfl ?_);show wpAny _ _ (seqItems? Ar>>=_) _ _ s;refine Za (uC q u ?_);simp only[rF,B];refine Za (kB (Za (sC f g Ad ?_)));show wpAny _ _ (newExc Nt []>>=_) _ _ _;refine Za ?_;simp only[newExc,newTuple];refine Za (ZJ ?_ (by size_fits));refine Za (m:=firstArgMember _ _) (wpAny_of_eq (a:=XH) (by first|rfl|(simp only[firstArgMember];rfl)) (ZJ ?_ (by size_fits)));delta raiseNew;refine Za (wpAny_handled ?_);first|rw[show A.in1.handled=No from r]|rw[r]
  refine Za (Zb (wpAny_throw ?_));exact hE _ _ (((uF ..).extBut.push _).push _) F8
def JjN(B:Bh)(t:Bool)(it a:Addr)(q:a≠it)(items:B6):
  Draws prog w A it [it,a] Aw (λi v=>items[i]? =So v) (λi h=>IsIt t h it a i/\IsSq t h a items)where
 live:=λ_ _ st=>let⟨o,C,_⟩:=st.1;⟨o,C⟩
 frame:=λ_ _ _ st u=>⟨st.1.stay λo e=>u it Ad o e,st.2.stay λo e=>u a Ad o e⟩
 item:=λi s Q E r st F=>rV st.1 st.2 (x:=items[i]) (by simp[r]) λh' f g=>F _ h' XF (by simp[r]) ⟨f,st.2.stay λo e=>g.extBut a o q e⟩ g
 done:=λs Q E st hE=>JcU B st.1 st.2 Ad hE
def Sq(K:Aj)(t:Bool)(H:Hp)(a:Addr)(xs:Av):Prop:=match t with
 |true=>SqT K H a xs
 |false=>SqL K H a xs
def Sq.same(e:B9)(h:Sq K t H a xs):Sq K t W a xs:=by
 cases t
 ·exact Same.seq e (show SqL K H a xs from h)
 ·exact SqT.same e (show SqT K H a xs from h)
section
variable{ys:Av}
def xE(I:BU)(h:MO):∃its:List Value,Vals xs its/\IsSq t VU a AF/\xs.length<=sizeLine:=by
 cases t
 ·obtain⟨its,r,p,z⟩:=I.list h;exact⟨its,r,YE,z⟩
 ·obtain⟨its,r,p,z⟩:=I.tuple h;exact Qd4
def fY(I:BU)(h:MO)(h':Sq X.K t H a ys):xs=ys:=by
 cases t
 ·exact I.list_inj h h'
 ·exact I.tuple_inj h h'
def RW(I:BU)(h:MO){o:Obj}(e:s.heap.get? b=So o)(u:o.cls≠.type "list")(q:o.cls≠.type "tuple"):a≠b:=by
 rintro rfl;obtain⟨B,_,p,_⟩:=xE I h;cases t
 ·obtain⟨r,f,g,_⟩:=(show s.heap.IsList a _ from p);rw[e]at f;cases f;exact u g
 ·obtain⟨r,f,g,_⟩:=(show s.heap.IsTuple a _ from p);rw[e]at f;cases f;exact q g
end
def Ite (K:Aj) (t:Bool) (a:Addr):It:=
 ⟨λi H=>∃xs x,Sq K t H a xs/\xs[i]? =So x,λi H x W=>∃T v,H T=No/\x=.ref T/\W=upd H T (.tup [.int i,v])/\∀xs,Sq K t H a xs->xs[i]? =So v,λi H=>∃xs,Sq K t H a xs/\xs.length=i⟩
def yO{tk:Nat}{ch:A9}(I:BU)(B:∀b∈ch,FpOk X Y H b)(k:∀b o,b∉ch->s.heap.get? b=So o->h'.get? b=So o):
  L2.Inv X Y Z H {s with heap:=h',toks:=tk}:=by
 refine I.step (g':=Z6) (d':=YI) (ch:=ch) (λb g=>?_) (λb o _ _ f e _=>k b o f e) (λb o _ _ f e _=>⟨o.slots,k b o f e⟩) On (λb o f e=>⟨o,k b o f e⟩) (λ_ _ e=>e) (λ_ _ _ e=>e) (λb ps e=>⟨#[],by rw[e];simp⟩) (λm F=>?_) (λb u e=>?_) Yi
 ·obtain⟨_,f1,_,U,f4,f5⟩:=B b g;exact⟨U,f1,f4,f5⟩
 ·obtain⟨o,es,ep,ho,r⟩:=F;exact⟨o,es,ep,k _ o (λg=>(B _ g).2.1 rfl) ho,r⟩
 ·refine(I.hok b u e).stay (λc v f q=>k c v ?_ q) Mg λ_ _ q=>q;intro g;have C:=(B c g).1;rcases f with z|z
  ·rw[<-z,C]at e;cases e
  ·rw[C]at z;cases z
def JbT{tk:Nat}{ch:A9}{o:HO}(I:BU)(F:∀b∈ch,FpOk X Y H b)(k:∀b o,b∉ch->s.heap.get? b=So o->h'.get? b=So o)
  (hp:Aa<=a) (new:QV):L2.Inv X Y Z ES {s with heap:=h',toks:=tk}:=by
 have hn:H a=No:=I.hok.fresh hp;have f:∀b u,H b=So u->b≠a:=λb u e z=>by rw[z,hn]at e;cases e
 have ne2:∀b ob,s.heap.get? b=So ob->b≠a:=λb ob e=>Zu (ZB (Zj e) hp);refine I.step (g':=Z6) (d':=YI) (ch:=ch) (λb B=>?_) (λb o _ _ g e _=>k b o g e) (λb o _ _ g e _=>⟨o.slots,k b o g e⟩) (λb ob _ e n=>by rw[Jc (ne2 b ob e)];exact n) (λb o g e=>⟨o,k b o g e⟩)
  (λb xs e=>by rw[Jc (f b _ e)];exact e) (λb ob u e=>by rw[Jc (f b _ e)];exact e) (λb ps e=>⟨#[],by rw[Jc (f b _ e),e];simp⟩) (λm hm=>?_) (λb u e=>?_) Yi
 ·obtain⟨_,f1,_,f3,f4,f5⟩:=F b B;exact⟨f3,f1,f4,f5⟩
 ·obtain⟨o,es,ep,ho,r⟩:=hm;exact⟨o,es,ep,k _ o (λB=>(F _ B).2.1 rfl) ho,r⟩
 ·by_cases B:b=a
  ·subst B;rw[Je]at e;cases e;exact new
  ·rw[Jc B]at e;refine(I.hok b u e).stay (λc v g q=>k c v ?_ q) (λc q=>?_) (λc xs q=>?_) λc o' u' q=>by rw[Jc (f c _ q)];exact q
   ·intro U;have C:=(F c U).1;rcases g with z|z
    ·rw[<-z,C]at e;cases e
    ·rw[C]at z;cases z
   ·rw[Jc (f c _ q)];exact q
   ·rw[Jc (f c _ q)];exact q
def JlR{tpos:Pos}(t:Bool)(a it e:Addr)(U:e≠it):
  Turn P w K O6 (Ite K t a) [e,it] e (λi h=>(∃f,IsEnum h e it i f)/\IsIt t h it a i)where
 mem:=by simp
 obj:=λi h st b g=>by
  obtain⟨⟨f,C⟩,o,ho,hc,hd⟩:=st
  rcases Zf.mp g with rfl|g
  ·exact⟨_,C,λv z=>by cases z⟩
  ·have e:b=it:=by simpa using g
   subst e
   exact⟨o,ho,λv z=>by rw[hd]at z;cases z⟩
 keep:=λi h h' st q=>⟨let⟨f,C⟩:=st.1;⟨f,q e Ad _ C⟩,st.2.stay λo x=>q it Ad o x⟩
 item:=by
  intro X hP hw hK hc i Y s Z H E I hf st hg;subst hP hw hK;obtain⟨xs,x,F,hx⟩:=hg;obtain⟨its,rv,p,hz⟩:=xE I F;obtain⟨u,hu,ru⟩:=rv.get hx;obtain⟨⟨f,C⟩,hit⟩:=st;obtain⟨o,ho,r,hod⟩:=id hit;have na:a≠it:=RW I F ho (by rw[r];cases t<;>simp[oK]) (by rw[r];cases t<;>simp[oK]);have nae:a≠e:=RW I F C Ad Ad;have hlt:i<CL:=by have:=(Zz.mp hu).1;simpa using this
  have D:=JjN (prog:=XJ) (w:=X.w) (A:=YQ) (show X.A.in1.handled=No from I.ok.hd hc) t it a na AF;refine wpAny_pyNext_enum_itemD D C ⟨hit,p⟩ hlt U (by simp[U,Ne.symm nae]) λy h' tk hP ho' hs' hT hsz hk=>?_;have hy:y=u:=by
   have e1:AF[i]? =So y:=hP;have e2:AF[i]? =So u:=by simpa using hu
   rw[e1]at e2;exact wD e2
  subst hy;refine⟨_,rfl,wpAny_letOwnedTupleGo_enum ho' λh2 he2 B=>?_⟩;have hel:e<Aa:=Zj C;have hil:it<Aa:=hit.lt;have keep2:∀b o,b∉[e,it]->s.heap.get? b=So o->h2.get? b=So o:=λb o g q=>by have h1:b≠e:=λz=>g (by simp[z]);have h3:b≠it:=λz=>g (by simp[z]);exact(B.2 b h1).trans (hk b o h1 h3 q)
  have hT2:h2.get? Aa=So {cls:=.type "tuple",data:=.seq #[.int i tk,y]}:=(B.2 _ (rC hel)).trans hT;have hfr:H Aa=No:=I.hok.fresh (Zh _);have I2:L2.Inv X Y Z (upd H Aa (.tup [.int i,x])) {s with heap:=h2,toks:=tk+1}:=
   JbT I hf keep2 (Zh _) ⟨⟨by rw[ZG];show 2<=_;decide,λo q=>by rw[hT2]at q;cases q;rfl⟩,[.int i tk,y],.cons ⟨tk,rfl⟩ (.cons ru .nil),_,hT2,rfl,_,rfl⟩
  refine⟨.ref Aa,_,I2,rfl,⟨Aa,x,hfr,rfl,rfl,λzs hzs=>by rw[fY I hzs F];exact hx⟩,⟨⟨_,by simpa using he2⟩,hs'.1.stay λo q=>(B.2 it U.symm).trans q⟩,λb g=>?_⟩;rcases Zf.mp g with rfl|g
  ·rw[Jc (Zu hel)];exact(hf b Ad).1
  ·have e:b=it:=by simpa using g
   subst e;rw[Jc (Zu hil)];exact(hf b Ad).1
 done:=by
  intro X hP hw hK hc i Y s Z H E I hf st hg;subst hP hw hK;obtain⟨xs,F,hx⟩:=hg;obtain⟨its,rv,p,hz⟩:=xE I F;obtain⟨⟨f,C⟩,hit⟩:=st;obtain⟨o,ho,r,hod⟩:=id hit;have na:a≠it:=RW I F ho (by rw[r];cases t<;>simp[oK]) (by rw[r];cases t<;>simp[oK]);have hl:=Qdx;have hin:i=CL:=by rw[Zo,<-hl,hx]
  have D:=JjN (prog:=XJ) (w:=X.w) (A:=YQ) (show X.A.in1.handled=No from I.ok.hd hc) t it a na AF;refine wpAny_pyNext_enum_endD D C (by rw[<-hin];exact⟨hit,p⟩) λh' hx'=>⟨rfl,yO (tk:=XF) I hf λb o g q=>hx' b o (λz=>g (by simp[z])) q⟩
 self:=λA i s Q E st h=>let⟨⟨f,C⟩,_⟩:=st;wpAny_pyIter_enum C h
structure Apart(z TI TO i1 i2:Addr):Prop where
 all:[z,TI,TO,i1,i2].Nodup
def Apart.ne{z TI TO f g:Addr}(D:Apart z TI TO f g):TI≠z/\TO≠z/\f≠z/\g≠z/\TI≠TO/\TI≠f/\TI≠g/\TO≠f/\TO≠g/\f≠g:=by have h:=D.all;simp only[oB,Zf,Zy,fA,not_or]at h;obtain⟨⟨u,U,a3,a4⟩,⟨I,F,r⟩,⟨C,B⟩,q,_⟩:=h;exact⟨Ne.symm u,Ne.symm U,Ne.symm a3,Ne.symm a4,I,F,r,C,B,q⟩
section
variable{z TI TO i1 i2 l1 l2:Addr}{xs ys:B6}{x y a b:An}
def JtO{Q:Ay}(D:Sb)(hz:Qv)(hTI:Vj)(hTO:NV)(h1:OW)(h2:OV)
  (hl1:NU) (hl2:NT) (n1:l1∉[z,TO,i1,i2]) (n2:l2∉[z,TO,i1,i2]) (hx:xs[k]? =So x) (hy:ys[k]? =So y)
  (hQ:∀h',IsZip h' z TI TO (rawInt Aa)->IsPair h' TO x y->IsIt t1 h' i1 l1 AZ->IsIt t2 h' i2 l2 AZ->IsPair h' Aa x y->(∀c o,c∉[z,TO,i1,i2]->s.heap.get? c=So o->h'.get? c=So o)->Q Fi {s with heap:=h'}):
  wpAny As A (Builtin.«zip.__next__» Qb0) (λfin s'=>∃v,fin=.done (.ret v)/\Q v s') E s:=by
 obtain⟨d1,d2,d3,d4,d5,d6,d7,d8,d9,d10⟩:=D.ne;simp only[Zf,Zy,fA,not_or]at n1 n2;obtain⟨m1,m2,m3,m4⟩:=n1;obtain⟨o1,o2,o3,o4⟩:=n2;show wpAny _ _ (field Fu 2>>=_) _ _ _;refine Za (ZS hz rfl (x:=.bool Fo) rfl ?_);show wpAny _ _ (field Fu 3>>=_) _ _ _;refine Za (ZS hz rfl (x:=.ref TI) rfl (Za (uC hTI rfl ?_)));show wpAny _ _ (Builtin.SmallTypes.ownedTupleIsFree (.ref z)>>=_) _ _ _;refine Za ?_;unfold Builtin.SmallTypes.ownedTupleIsFree;refine Za (ZS hz rfl (x:=.none) rfl (Zb ?_));simp only[if_true];refine Za (kB (Za (ZS hz rfl (x:=.ref TO) rfl (Za (qC hz Ad λg1 I s1=>?_)))));replace I:IsZip g1 z TI TO .ellipsis:=I;refine Za ?_;simp only[List.zipIdx_cons,List.zipIdx_nil,uP,gP];refine Za (Za (wpAny_onRaise ?_));show wpAny _ _ (Builtin.SmallTypes.nextOf (.ref i1)>>=_) _ _ _;refine Za (rV (h1.stay λo e=>s1.extBut _ _ d3 e) (hl1.stay λo e=>s1.extBut _ _ m1 e) hx λg2 k1 s2=>Zb ?_);have F:IsPair g2 TO a b:=s2.extBut _ _ d8 (s1.extBut _ _ d2 hTO);refine Za (uC F rfl (Za (wV F λg3 u s3=>?_)));replace u:IsPair g3 TO x b:=u;refine Za (wpAny_letGo (Zb ?_));refine Za (Za (wpAny_onRaise ?_));show wpAny _ _ (Builtin.SmallTypes.nextOf (.ref i2)>>=_) _ _ _;refine Za (rV (h2.stay λo e=>s3.extBut _ _ Ir (s2.extBut _ _ QdK (s1.extBut _ _ d4 e))) (hl2.stay λo e=>s3.extBut _ _ o2 (s2.extBut _ _ o3 (s1.extBut _ _ o1 e))) hy λg4 k2 s4=>Zb ?_);have C:IsPair g4 TO x b:=s4.extBut _ _ d9 u;refine Za (uC C rfl (Za (wV C λg f s5=>?_)));replace f:IsPair g TO x y:=f;refine Za (wpAny_letGo (Zb (Zb (Za (uC f rfl (Za (wpAny_newTuple ?_)))))));have hsz:g.objs.size=Aa:=by rw[s5.1,s4.1,s3.1,s2.1,s1.1]
 have hz5:IsZip g z TI TO .ellipsis:=s5.extBut _ _ Iq (s4.extBut _ _ (Ne.symm d4) (s3.extBut _ _ Iq (s2.extBut _ _ Ip I)));have kp:∀c o,c∉[z,TO,i1,i2]->s.heap.get? c=So o->g.get? c=So o:=λc o r e=>by simp only[Zf,Zy,fA,not_or]at r;exact s5.extBut _ _ r.2.1 (s4.extBut _ _ r.2.2.2 (s3.extBut _ _ r.2.1 (s2.extBut _ _ r.2.2.1 (s1.extBut _ _ r.1 e))))
 have e1:IsIt t1 g i1 l1 AZ:=k1.stay λo e=>s5.extBut _ _ (Ne.symm d8) (s4.extBut _ _ d10 (s3.extBut _ _ (Ne.symm d8) e));have e2:IsIt t2 g i2 l2 AZ:=k2.stay λo e=>s5.extBut _ _ Ir e;have zl:z<g.objs.size:=Zj hz5;show wpAny _ _ (Builtin.SmallTypes.ownedTupleHandOut Fu (.ref eA)>>=_) _ _ _;refine Za ?_;unfold Builtin.SmallTypes.ownedTupleHandOut;have hz6:IsZip (g.push {cls:=.type "tuple",data:=.seq #[x,y]}) z TI TO .ellipsis:=Zd _ hz5;refine Za (qC hz6 Ad λg7 U s7=>?_);replace U:IsZip g7 z TI TO O5:=U;refine qC U Ad λg8 B s8=>?_;replace B:IsZip g8 z TI TO O5:=B;have up:∀c o,c≠z->g.get? c=So o->g8.get? c=So o:=λc o r e=>s8.extBut _ _ r (s7.extBut _ _ r EG);have hT8:IsPair g8 eA x y:=s8.extBut _ _ (rC zl) (s7.extBut _ _ (rC zl) FW);rw[hsz]at B hT8;refine Zb Iy;show Q (.ref eA) _;rw[hsz];exact hQ g8 B (up _ _ d2 f) (e1.stay λo e=>up _ o d3 e) (e2.stay λo e=>up _ o d4 e) hT8 λc o r e=>up c o (λq=>r (by simp[q])) (kp c o r e)
def Jvz{Q:Fin->Shared->Prop}(hh:Bh)(D:Sb)(hz:Qv)(hTI:Vj)(hTO:NV)(h1:OW)(h2:OV)
  (hl1:NU) (hl2:NT) (n1:l1∉[z,TO,i1,i2]) (n2:l2∉[z,TO,i1,i2]) (hend:xs[k]? =No\/ys[k]? =No)
  (hE:∀h' e,(∀c o,c∉[z,TO,i1,i2]->s.heap.get? c=So o->h'.get? c=So o)->(∃o,h'.get? e=So o/\o.cls=.type "StopIteration")->E J5 {s with heap:=h'}):
  wpAny As A (Builtin.«zip.__next__» Qb0) Q E s:=by
 obtain⟨d1,d2,d3,d4,d5,d6,d7,d8,d9,d10⟩:=D.ne;simp only[Zf,Zy,fA,not_or]at n1 n2;obtain⟨m1,m2,m3,m4⟩:=n1;obtain⟨o1,o2,o3,o4⟩:=n2;show wpAny _ _ (field Fu 2>>=_) _ _ _;refine Za (ZS hz rfl (x:=.bool Fo) rfl ?_);show wpAny _ _ (field Fu 3>>=_) _ _ _;refine Za (ZS hz rfl (x:=.ref TI) rfl (Za (uC hTI rfl ?_)));show wpAny _ _ (Builtin.SmallTypes.ownedTupleIsFree (.ref z)>>=_) _ _ _;refine Za ?_;unfold Builtin.SmallTypes.ownedTupleIsFree;refine Za (ZS hz rfl (x:=.none) rfl (Zb ?_));simp only[if_true];refine Za (kB (Za (ZS hz rfl (x:=.ref TO) rfl (Za (qC hz Ad λg1 B C=>?_)))));replace B:IsZip g1 z TI TO .ellipsis:=B;refine Za ?_;simp only[List.zipIdx_cons,List.zipIdx_nil,uP,gP];refine Za (Za (wpAny_onRaise ?_));show wpAny _ _ (Builtin.SmallTypes.nextOf (.ref i1)>>=_) _ _ _;have f:∀c,c∉[z,TO,i1,i2]->c≠z/\c≠TO/\c≠i1/\c≠i2:=λc u=>by simpa[not_or]using u
 cases hx:xs[k]? with
 |none=>
  refine Za (JcU hh Vt Vz hx λg2 e F he=>?_);obtain⟨oe,g,r⟩:=he;have hz2:IsZip g2 z TI TO .ellipsis:=F _ _ Ip B;have hez:e≠z:=λq=>by subst q;rw[hz2]at g;cases g;simp at r
  exact qC hz2 Ad λg3 _ U=>hE g3 e (λc o u q=>U.extBut _ _ (f c u).1 (F _ _ (f c u).2.2.1 (C.extBut _ _ (f c u).1 q))) ⟨oe,U.extBut _ _ hez g,r⟩
 |some x=>
  have hy:ys[k]? =No:=by rcases hend with q|q;(·rw[hx]at q;cases q);exact q
  refine Za (rV Vt Vz hx λg2 k1 F=>Zb ?_);have I:IsPair g2 TO a b:=F.extBut _ _ d8 (C.extBut _ _ d2 hTO);refine Za (uC I rfl (Za (wV I λg3 hTO3 U=>Za (wpAny_letGo (Zb ?_)))));refine Za (Za (wpAny_onRaise ?_));show wpAny _ _ (Builtin.SmallTypes.nextOf (.ref i2)>>=_) _ _ _;refine Za (JcU hh (h2.stay λo e=>U.extBut _ _ Ir (F.extBut _ _ QdK (C.extBut _ _ d4 e))) (hl2.stay λo e=>U.extBut _ _ o2 (F.extBut _ _ o3 (C.extBut _ _ o1 e))) hy λg4 e s4 he=>?_);obtain⟨oe,g,r⟩:=he;have hz4:IsZip g4 z TI TO .ellipsis:=s4 _ _ (Ne.symm d4) (U.extBut _ _ Iq (F.extBut _ _ Ip B));have hez:e≠z:=λq=>by subst q;rw[hz4]at g;cases g;simp at r
  exact qC hz4 Ad λg5 _ s5=>hE g5 e (λc o u q=>s5.extBut _ _ (f c u).1 (s4 _ _ (f c u).2.2.2 (U.extBut _ _ (f c u).2.1 (F.extBut _ _ (f c u).2.2.1 (C.extBut _ _ (f c u).1 q))))) ⟨oe,s5.extBut _ _ hez g,r⟩
end
def Jkz{f:Av}(I:BU)(h:Sq X.K t H l f)(g:FpOk X Y H b):l≠b:=by
 rintro rfl;have mod:∀o,X.K.lookup l=So o->False:=λo e=>by
  have B:=I.mod.kin l o e;rcases g.2.2.2.1 with q|q
  ·exact I.ok.noex l o B q
  ·exact absurd (ZB (Zj (I.ok.bs l o B).1) q) CH
 have r:∀u,Rd H l u->False:=λu q=>by rcases q with q|⟨o,q⟩<;>(rw[g.1]at q;cases q)
 cases t
 ·rcases(show SqL X.K H l f from h)with q|⟨o,_,_,q,_⟩
  ·exact r _ q
  ·exact mod o q
 ·rcases(show SqT X.K H l f from h)with q|⟨_,o,_,_,_,q,_⟩
  ·exact r _ (.inl q)
  ·exact mod o q
def Itz (K:Aj) (t1 t2:Bool) (g q:Addr):It:=
 ⟨λi H=>∃xs f x y,Sq K t1 H g xs/\Sq K t2 H q f/\xs[i]? =So x/\f[i]? =So y,
  λi H x W=>∃T u v,H T=No/\x=.ref T/\W=upd H T (.tup [u,v])/\(∀xs,Sq K t1 H g xs->xs[i]? =So u)/\∀f,Sq K t2 H q f->f[i]? =So v,
  λi H=>∃xs f,Sq K t1 H g xs/\Sq K t2 H q f/\(xs[i]? =No\/f[i]? =No)⟩
def Jwu(z TI TO f g q r:Addr)(t1 t2:Bool)(i:Nat)(h:Heap):Prop:=IsZip h z TI TO .none/\IsPair h TI (.ref f) (.ref g)/\(∃a b,IsPair h TO a b)/\IsIt t1 h f q i/\IsIt t2 h g r i
def JpB{tpos:Pos}(t1 t2:Bool)(l1 l2 z TI TO i1 i2:Addr)(D:Sb):
  Turn P w K O6 (Itz K t1 t2 l1 l2) [z,TI,TO,i1,i2] z (Jwu z TI TO i1 i2 l1 l2 t1 t2)where
 mem:=by simp
 obj:=λi h st b g=>by
  obtain⟨h1,U,⟨a,c,h3⟩,⟨o4,h4,_,h4'⟩,⟨o5,h5,_,h5'⟩⟩:=st
  simp only[Zf,Zy,fA]at g
  rcases g with rfl|rfl|rfl|rfl|rfl
  ·exact⟨_,h1,λv q=>by cases q⟩
  ·exact⟨_,U,λv q=>by cases q⟩
  ·exact⟨_,h3,λv q=>by cases q⟩
  ·exact⟨_,h4,λv q=>by rw[h4']at q;cases q⟩
  ·exact⟨_,h5,λv q=>by rw[h5']at q;cases q⟩
 keep:=λi h h' st q=>let⟨h1,U,⟨a,c,h3⟩,h4,h5⟩:=st;⟨q z Ad _ h1,q TI Ad _ U,⟨a,c,q TO Ad _ h3⟩,h4.stay λo e=>q i1 Ad o e,h5.stay λo e=>q i2 Ad o e⟩
 item:=by
  intro X hP hw hK B i Y s Z H E I hf st hg;subst hP hw hK;obtain⟨xs,ys,x,y,q1,q2,hx,hy⟩:=hg;obtain⟨its,rv,p1,_⟩:=xE I q1;obtain⟨its2,rv2,p2,_⟩:=xE I q2;obtain⟨u,hu,ru⟩:=rv.get hx;obtain⟨v,hv,rw2⟩:=rv2.get hy;obtain⟨hz,r,⟨a,b,C⟩,j1,j2⟩:=st;have f:∀{t:Bool}{l:Addr}{zs:Av},Sq X.K t H l zs->l∉[z,TO,i1,i2]:=fun{t l zs}q g=>
   Jkz I q (hf l (by simp only[Zf,Zy,fA]at g⊢;rcases g with e|e|e|e<;>simp[e])) rfl
  have hT:s.TypeIs Fu "zip":=⟨_,hz,rfl⟩;unfold pyNext;refine Za (nE (ZM (name:=oS "__next__") hT jP (ZD jP hT QcR
   (JtO D hz r C j1 j2 p1 p2 (f q1) (f q2) (x:=u) (y:=v) (by simpa using hu) (by simpa using hv) λh' a1 a2 a3 a4 a5 a6=>Zb ?_) Pr)))
  refine⟨_,rfl,wpAny_letOwnedTupleGo_zip a1 λU b1 b2=>?_⟩;obtain⟨d1,d2,d3,d4,_⟩:=D.ne;have zl:z<Aa:=Zj hz;have kp:∀c o,c∉[z,TI,TO,i1,i2]->s.heap.get? c=So o->U.get? c=So o:=λc o B e=>by simp only[Zf,Zy,fA,not_or]at B;exact(b2.2 c B.1).trans (a6 c o (by simp[B]) e)
  have hT2:IsPair U Aa u v:=(b2.2 _ (rC zl)).trans a5;have I2:L2.Inv X Y Z (upd H Aa (.tup [x,y])) {s with heap:=U,toks:=XF}:=
   JbT I hf kp (Zh _) ⟨⟨by rw[ZG];show 2<=_;decide,λo q=>by rw[show U.get? 'Ɓ'=So _ from hT2]at q;cases q;rfl⟩,[u,v],.cons ru (.cons rw2 .nil),_,hT2,rfl,_,rfl⟩
  have hTI2:IsPair U TI (.ref i1) (.ref i2):=(b2.2 _ d1).trans (a6 TI _ (by obtain⟨_,_,_,_,d5,d6,d7,_⟩:=D.ne;simp[d1,d5,d6,d7]) r);refine⟨.ref Aa,_,I2,rfl,⟨Aa,x,y,I.hok.fresh (Zh _),rfl,rfl,λzs q=>by rw[fY I q q1];exact hx,λzs q=>by rw[fY I q q2];exact hy⟩,
   ⟨b1,hTI2,⟨u,v,(b2.2 _ d2).trans a2⟩,a3.stay λo e=>(b2.2 _ d3).trans e,a4.stay λo e=>(b2.2 _ d4).trans e⟩,λb g=>?_⟩
  have hbl:b<Aa:=by
   simp only[Zf,Zy,fA]at g;rcases g with rfl|rfl|rfl|rfl|rfl
   ·exact zl
   ·exact Zj r
   ·exact Zj C
   ·exact j1.lt
   ·exact j2.lt
  rw[Jc (Zu hbl)];exact(hf b g).1
 done:=by
  intro X hP hw hK B i Y s Z H E I hf st hg;subst hP hw hK;obtain⟨xs,ys,q1,q2,hx⟩:=hg;obtain⟨its,rv,p1,_⟩:=xE I q1;obtain⟨its2,rv2,p2,_⟩:=xE I q2;obtain⟨hz,r,⟨a,b,C⟩,j1,j2⟩:=st;have f:∀{t:Bool}{l:Addr}{zs:Av},Sq X.K t H l zs->l∉[z,TO,i1,i2]:=fun{t l zs}q g=>
   Jkz I q (hf l (by simp only[Zf,Zy,fA]at g⊢;rcases g with e|e|e|e<;>simp[e])) rfl
  have hT:s.TypeIs Fu "zip":=⟨_,hz,rfl⟩;unfold pyNext;refine Za (nE (ZM (name:=oS "__next__") hT jP (ZD jP hT QcR
   (Jvz (show X.A.in1.handled=No from I.ok.hd B) D hz r C j1 j2 p1 p2 (f q1) (f q2) ?_ λh' e hk he=>?_) Pr)))
  ·rcases hx with q|q
   ·exact .inl (by simpa using rv.none_of q)
   ·exact .inr (by simpa using rv2.none_of q)
  ·obtain⟨o,ho,hoc⟩:=he;refine Za (oF (T:="StopIteration") (b:=To) ⟨o,ho,hoc⟩ kM (Zb ⟨rfl,yO (tk:=XF) I hf λc o B e=>hk c o ?_ e⟩));simp only[Zf,Zy,fA,not_or]at B⊢;exact⟨B.1,B.2.2.1,B.2.2.2⟩
 self:=λA i s Q E st h=>wpAny_pyIter_zip st.1 h
noncomputable abbrev jS (t:Bool) (l:Addr):Obj:={cls:=.type (oK t),data:=.fields #[.ref l,.int 0 0]}
def gV{xs:B6}{Q:Ay}(h:IsSq t VU l xs)(f:Q Fi {s with heap:=s.heap.push (jS t l)}):wpAny As A (pyIter BH) Q E s:=by
 cases t
 ·exact zJ (show s.heap.IsList l xs from h) f
 ·exact lP (show s.heap.IsTuple l xs from h) f
def IsSq.push{xs:B6}(x:IsSq t h a xs)(o:Obj):IsSq t (h.push o) a xs:=x.stay λ_ e=>Zd _ e
noncomputable abbrev zh1 (h:Heap) (t:Bool) (l:Addr):Heap:=h.push (jS t l)
noncomputable abbrev zh3 (h:Heap) (t1 t2:Bool) (f g:Addr):Heap:=(zh1 (zh1 h t1 f) t2 g).push {cls:=.type "tuple",data:=.seq #[.ref Bz,.ref (zh1 h t1 f).objs.size]}
noncomputable abbrev zh4 (h:Heap) (t1 t2:Bool) (g f:Addr):Heap:=(zh3 h t1 t2 g f).push {cls:=.type "tuple",data:=.seq #[.none,.none]}
noncomputable abbrev zipOb (a b:Addr):Obj:={cls:=.type "zip",data:=.fields #[.none,.bool Fo,.bool Fo,.ref a,.ref b]}
noncomputable abbrev zh5 (h:Heap) (t1 t2:Bool) (g f:Addr):Heap:=(zh4 h t1 t2 g f).push (zipOb (zh1 (zh1 h t1 g) t2 f).objs.size (zh3 h t1 t2 g f).objs.size)
def Jsx(f q:Addr)(xs ys:B6)(t1 t2:Bool):
  Meets (Builtin.«zip.__new__» ⟨[.type "zip",.ref f,.ref q],[]⟩) (λ_ R s=>IsSq t1 VU f xs/\IsSq t2 VU q ys/\R (.ok (.ret (.ref 'Ρ'.objs.size))) {s with heap:=zh5 VU t1 t2 f q}):=
 .of_wp λprog w A R s h=>by
  obtain⟨F,g,d,tk,U⟩:=s;obtain⟨C,B,h⟩:=h
  have I:=sub_zip
  have u:IsSq t1 (Shared.heap ⟨F,g,d,tk,U⟩) f xs:=C
  have r:IsSq t2 (Shared.heap ⟨F.push (jS t1 f),g,d,tk,U⟩) q ys:=B.push _
  wp_walk using gV u,gV r
  exact FX
open AutoSeq1 (wpAny_loadPart')
def Jvw(l:Addr)(items:B6)(n:Nat)(dct:Dw)(sl:Ed):
  Meets (Builtin.«enumerate.__new__» ⟨[.type "enumerate",.ref l],[]⟩) (λ_ R s=>s.heap.get? l=So {cls:=.type "tuple",dict:=dct,data:=.seq items n,slots:=sl}/\
   R (.ok (.ret (.ref 'Ƹ'.objs.size))) {s with heap:='Ƹ'.push {cls:=.type "enumerate",data:=.fields #[.none,.bool Fo,.ref Aa,rawInt 0,.none,.none]}}):=
 .of_wp λprog w A R s h=>by
  obtain⟨q,g,d,C,B⟩:=s;obtain⟨f,h⟩:=h
  have u:=sub_enumerate
  have r:IsSq To (Shared.heap ⟨q,g,d,C,B⟩) l items:=(show Heap.IsTuple q l items from⟨_,f,rfl,n,rfl⟩)
  wp_walk using gI f
  refine wpAny_stack_any λst=>Zb ?_
  split
  ·rename_i c _ _ _ _ _
   cases(c==Value.type "enumerate")<;>(wp_walk using gI f,gV r;exact FX)
  ·wp_walk using gI f,gV r;exact FX
def Jmp{Q:Ay}(r:IsSq t VU l items)
  (h:∀h',IsEnum h' DX Aa 0 .none->IsIt t h' Aa l 0->(∀b o,s.heap.get? b=So o->h'.get? b=So o)->Q (.ref DX) {s with heap:=h'}):
  wpAny As A (PySem.call (.type "enumerate") [.ref l]) Q E s:=by
 cases t with
 |false=>exact call_enumerate_list (show s.heap.IsList l items from r) λh' a b _ d=>h h' a b d
 |true=>
  obtain⟨⟨c,dct,I,sl⟩,C,g,n,f⟩:=(show s.heap.IsTuple l items from r);replace g:c=.type "tuple":=g;replace f:I=.seq items n:=f;subst g f;refine callType_new F.called_enumerate AB (F.typeCall_enumerate_1 _) (F.newCall_enumerate_1 _) (λobj=>F.args_object_init_2 obj _) F.entry_enumerate_new (Jvw l items n dct sl) ⟨C,?_⟩;have B:'Ƹ'.objs.size=Aa+1:=ZL ..;have u:IsEnum ('Ƹ'.push {cls:=.type "enumerate",data:=.fields #[.none,.bool Fo,.ref Aa,rawInt 0,.none,.none]}) DX Aa 0 .none:=by have q:=Ze 'Ƹ' (o:={cls:=.type "enumerate",data:=.fields #[.none,.bool Fo,.ref Aa,rawInt 0,.none,.none]}) rfl;rw[B]at q;exact q
  show _/\_;rw[B];exact⟨⟨_,u,rfl⟩,h _ u ⟨_,Zd _ FW,rfl,rfl⟩ λb o x=>Zd _ (Zd _ x)⟩
def Jnp{f q:Addr}{xs ys:B6}{Q:Ay}(r:IsSq t1 VU f xs)(u:IsSq t2 VU q ys)
  (h:∀h',Jwu (Aa+4) (Aa+2) (Aa+3) Aa DX f q t1 t2 0 h'->(∀c o,s.heap.get? c=So o->h'.get? c=So o)->Q (.ref (Aa+4)) {s with heap:=h'}):
  wpAny As A (PySem.call (.type "zip") [.ref f,.ref q]) Q E s:=by
 refine callType_new F.called_zip AB (F.typeCall_zip_2 _ _) (F.newCall_zip_2 _ _) (λobj=>F.args_object_init_3 obj _ _) F.entry_zip_new (Jsx f q xs ys t1 t2) ⟨r,u,?_⟩;have U:'ɪ'.objs.size=Aa+1:=ZL ..;have B:(zh1 'ɪ' t2 q).objs.size=Aa+2:=by rw[ZL,U]
 have I:'乨'.objs.size=Aa+3:=by rw[ZL,B]
 have z4:'Ρ'.objs.size=Aa+4:=by rw[ZL,I]
 have p1:∀(g:Heap)(o o':Obj)(b:Addr),g.get? b=So o->(g.push o').get? b=So o:=λg o o' b e=>Zd _ e;have C:'ǃ'.get? 'Ρ'.objs.size=So _:=Ze _ rfl;have g4:'ǃ'.get? '乨'.objs.size=So _:=p1 _ _ _ _ FW;have g3:'ǃ'.get? (zh1 'ɪ' t2 q).objs.size=So _:=p1 _ _ _ _ R7;have g2:'ǃ'.get? 'ɪ'.objs.size=So _:=p1 _ _ _ _ QbA;have g1:'ǃ'.get? Aa=So _:=p1 _ _ _ _ (p1 _ _ _ _ QbA);show _/\_;rw[B,I,z4]at C;rw[U,B]at g3;rw[I]at g4;rw[U]at g2;rw[z4];exact⟨⟨_,C,rfl⟩,h _ ⟨C,g3,⟨_,_,g4⟩,⟨_,g1,rfl,rfl⟩,⟨_,g2,rfl,rfl⟩⟩ λc o x=>p1 _ _ _ _ (p1 _ _ _ _ (p1 _ _ _ _ (p1 _ _ _ _ (p1 _ _ _ _ x))))⟩
def tX{d:D}(r:Dv)(h:d=.tup J\/d=.lst J):∃t a xs,v=.ref a/\Sq K t H a xs/\Reps K H J xs:=by
 rcases h with rfl|rfl
 ·obtain⟨a,xs,e,f,g⟩:=r;exact⟨To,a,xs,e,f,g⟩
 ·obtain⟨a,xs,e,f,g⟩:=r;exact⟨Fo,a,xs,e,f,g⟩
theorem Jdd:∀(J:Ak)(k i:Nat),(Jw k J)[i]? =(J[i]?).map λd=>.tup [.int ((k+i:Nat):Int),d]
 |[],_,_=>by simp[Jw]
 |d::J,k,0=>by simp[Jw]
 |d::J,k,i+1=>by
  have:=Jdd J AZ i
  simp only[Jw,mF,this]
  rw[show k+1+i=k+'{' by lia]
theorem Jbu:∀(J:Ak)(k:Nat),(Jw k J).length=Ae
 |[],_=>rfl
 |d::J,k=>by simp[Jw,Jbu J]
theorem Jkd:∀(as bs:Ak)(i:Nat)(a b:D),as[i]? =So a->bs[i]? =So b->(zipD as bs)[i]? =So (.tup [a,b])
 |a::as,b::bs,0,_,_,h,h'=>by simp at h h';simp[zipD,h,h']
 |a::as,b::bs,i+1,_,_,h,h'=>by simpa[zipD]using Jkd as bs i _ _ (by simpa using h) (by simpa using h')
 |[],_,_,_,_,h,_=>by simp at h
 |_::_,[],_,_,_,_,h'=>by simp at h'
theorem Jgn:∀(as bs:Ak),(zipD as bs).length=min as.length Qdw
 |[],_=>by simp[zipD]
 |_::_,[]=>by simp[zipD]
 |a::as,b::bs=>by simp[zipD,Jgn as bs]
theorem Jog(I:BU)(h1:MO)(r:F1):Walk X.K (Ite X.K t a) H (Jw 0 J):=by
 intro W sm;have l:=XR;have f:=Sq.same sm h1;have g:=r.mono sm;refine⟨λi q=>?_,⟨xs,f,by rw[Jbu];exact l⟩,λi x B q⟨T,v,U,C,e2,hv⟩=>?_⟩
 ·rw[Jbu]at q;exact⟨xs,xs[i]'(by lia),f,ZC Af⟩
 ·subst C;subst e2;obtain⟨d,hd,u⟩:=g.get' (hv xs f);obtain⟨F,r1⟩:=wG (K:=X.K) (J:=[.int i,d]) (xs:=[.int i,v]) U ⟨_,_,rfl,rfl,_,_,rfl,u,rfl⟩;refine⟨F,_,by rw[Jdd,hd];rfl,?_⟩;simpa using r1
theorem Jpy(I:BU){ys:Av}{es:Ak}(h1:Sq X.K t1 H a xs)(B:F1)(h3:Sq X.K t2 H b ys)(r:Reps X.K H es ys):Walk X.K (Itz X.K t1 t2 a b) H (zipD J es):=by
 intro W sm;have l:=cV;have l':=XR;have f:=Sq.same sm h1;have g:=Sq.same sm h3;refine⟨λi q=>?_,⟨xs,ys,f,g,?_⟩,λi x F q⟨T,u,v,hT,U,e2,hu,hv⟩=>?_⟩
 ·rw[Jgn]at q;exact⟨xs,ys,xs[i]'(by lia),ys[i]'(by lia),f,g,ZC Af,ZC Af⟩
 ·rw[Jgn];by_cases hh:Ae<=es.length
  ·exact .inl (sP Af)
  ·exact .inr (sP Af)
 ·subst U;subst e2;obtain⟨d,hd,C⟩:=(B.mono sm).get' (hu xs f);obtain⟨e,he,re⟩:=(r.mono sm).get' (hv ys g);obtain⟨s1,r1⟩:=wG (K:=X.K) (J:=[d,e]) (xs:=[u,v]) hT ⟨_,_,rfl,C,_,_,rfl,re,rfl⟩;exact⟨s1,_,Jkd _ _ _ _ _ hd he,r1⟩
theorem Jke(h1:cC)(g:FY)(inj:∀W B,Same H W->SqT K W a B->True):Walk K QaD H J:=by intro W sm;have l:=Ya;have f:=SqT.same sm h1;refine⟨λi q=>⟨xs,xs[i]'(by lia),f,ZC Af⟩,⟨xs,f,by lia⟩,λi x F q⟨e,u⟩=>?_⟩;subst e;obtain⟨d,r,C⟩:=(g.mono sm).get' (u xs f);exact⟨Same.refl _,d,r,C⟩
theorem JkG(h1:cB)(g:FY):Walk K QaC H J:=by intro W sm;have l:=Ya;have f:=Same.seq sm h1;refine⟨λi q=>⟨xs,xs[i]'(by lia),f,ZC Af⟩,⟨xs,f,by lia⟩,λi x C q⟨e,u⟩=>?_⟩;subst e;obtain⟨d,r,B⟩:=(g.mono sm).get' (u xs f);exact⟨Same.refl _,d,r,B⟩
def Jlr{lo:Int}:Walk K cZ H (upTo lo n):=by
 intro W sm;have l:(upTo lo n).length=n:=by simp[Pu.upTo]
 refine⟨λi f=>by rw[l]at f;exact f,by show n<=_;rw[l];exact Zh _,λi x q f⟨e,g⟩=>?_⟩;subst e;refine⟨Same.refl _,.int (lo+i),?_,g⟩;rw[l]at f;simp[Pu.upTo,List.getElem?_range f]
noncomputable def Its (x:Str):It:=⟨λi _=>i<Qbl,λi H v W=>W=H/\∃c,x.cps[i]? =So c/\v=.str ⟨#[c]⟩,λi _=>i=Qbl⟩
def Jqq:Walk K (Its x) H (fN x):=by
 intro W sm;have l:(fN x).length=x.cps.size:=by simp[fN]
 refine⟨λi f=>by rw[l]at f;exact f,l,λi v g f⟨e,c,q,r⟩=>?_⟩;subst e;refine⟨Same.refl _,.str ⟨#[c]⟩,?_,r⟩;unfold fN;rw[xB,kI,q];rfl
def JjU(g:Bh)(I:Addr)(x:Str)(t:Tok):Walks P w A I [I] [I] Qbl (SignAt x) (λi h=>h.IsStrIter I QbB x t i):=by
 cases f:x.cps.all (·<128)
 ·rw[show strIterType x="str_iterator" by simp[strIterType,f]];exact Walks.strWide g I x t
 ·rw[show strIterType x="str_ascii_iterator" by simp[strIterType,f]];exact Walks.strAscii g I x t
def Jqz(x:Str)(t:Tok)(I:Addr):Turn P w K (.Name y px) (Its x) [I] I (λi h=>h.IsStrIter I QbB x t i)where
 mem:=by simp
 obj:=λi h st b f=>by
  have e:b=I:=by simpa using f
  subst e
  obtain⟨o,F,_,h3⟩:=st
  exact⟨o,F,λv q=>by rw[h3]at q;cases q⟩
 keep:=λi h h' st k=>let⟨o,F,h2⟩:=st;⟨o,k I Ad o F,h2⟩
 item:=by
  intro X B C hK hc i Y s Z H E g r st hg;subst B C hK;refine(JjU (g.ok.hd hc) I x t).item i s _ _ hg st λv h' tk hv st' U=>?_;obtain⟨c,u,hcc,rfl⟩:=hv;have I1:L2.Inv X Y Z H {s with heap:=h',toks:=tk}:=yO g r λb o f e=>U b o f e;exact⟨_,rfl,Zb ⟨.str ⟨#[c]⟩,H,I1,⟨u,rfl⟩,⟨rfl,c,hcc,rfl⟩,st',λb f=>(r b f).1⟩⟩
 done:=by
  intro X B C hK hc i Y s Z H E g r st hg;subst B C hK;have e:i=x.cps.size:=hg;subst e;exact(JjU (g.ok.hd hc) I x t).done s _ _ st λh' tk U=>⟨rfl,yO g r λb o f e=>U b o f e⟩
 self:=λA i s Q E st h=>by
  cases ha:x.cps.all (·<128)
  ·rw[show strIterType x="str_iterator" by simp[strIterType,ha]]at st;exact wpAny_pyIter_striter_wide st h
  ·rw[show strIterType x="str_ascii_iterator" by simp[strIterType,ha]]at st;exact wpAny_pyIter_striter_ascii st h
def JrK:ItOk QaC:=λL i H x W _⟨e,h⟩=>⟨by rw[e],λxs q=>h xs (hid_same.seq q)⟩
def Jrp:ItOk QaD:=λL i H x W _⟨e,h⟩=>⟨by rw[e],λxs q=>h xs (SqT.same hid_same q)⟩
def Jpm{lo:Int}:ItOk cZ:=λL i H x W _⟨e,h⟩=>⟨by rw[e],h⟩
def JxI:ItOk (Its x):=λL i H v W _⟨e,h⟩=>⟨by rw[e],h⟩
def Jax{T:Addr}(g:Qcx)(h:H T=No):T∉L:=λf=>by
 obtain⟨o,e,_⟩:=g T f
 rw[h]at e;cases e
def Jtr:ItOk (Ite K t a):=λL i H x W r⟨T,v,f,C,u,B⟩=>by
 have g:=Jax r f
 exact⟨T,v,by rw[Jt g];exact f,C,by rw[u,JiL g],λxs q=>B xs S4⟩
def JwS:ItOk (Itz K t1 t2 a b):=λL i H x W B⟨T,u,v,f,I,C,F,r⟩=>by
 have g:=Jax B f
 exact⟨T,u,v,by rw[Jt g];exact f,I,by rw[C,JiL g],λxs q=>F xs S4,λxs q=>r xs S4⟩
section
variable{U:Ag}{a b l:Expr}
def yN(hl:PE X l Gj):PI X (.Name y px) l (tW X U (.walk p)):=by
 rintro Y s Z H R I⟨O,r,h⟩;refine thn (hl Y s Z H (λv W=>∃d J,Rep X.K W d v/\d.walk=.ok J/\Same H W/\∀J9 H2,Same H H2->Walk X.K J9 H2 J->ItOk J9->R J9 H2) I ⟨O,r,'ħ'.imp λd C v W s1 rv=>?_⟩) λv s1⟨x,H1,I1,r1,d,J,rd,B,F,g⟩=>?_
 ·cases q:d.walk with
  |ok J=>rw[q]at C;obtain⟨ds',e,g⟩:=C;cases e;exact⟨d,J,rv,q,s1,g⟩
  |ex c=>exact(Jul q).elim
  |sk=>rw[q]at C;exact C.elim
 cases d with
 |tup es=>
  cases B;obtain⟨a,xs,rfl,f,h2⟩:=rd;cases r1;obtain⟨its,rv,pt,hz⟩:=I1.tuple f;refine lP (show s1.heap.IsTuple a AF from pt) ⟨Ax,[Ax],_,_,H1,rfl,I1.kept (t':=Yg) λb o e=>Zd _ e,JeU a _,CP,λb u=>?_,g _ _ F (Jke f h2 λ_ _ _ _=>trivial) Jrp⟩;have e:b=Ax:=by simpa using u
  subst e;exact I1.fpOk (Zh _) E4
 |lst es=>
  cases B;obtain⟨a,xs,rfl,f,h2⟩:=rd;cases r1;obtain⟨its,rv,pt,hz⟩:=I1.list f;refine zJ pt.isList ⟨Ax,[Ax],_,_,H1,rfl,I1.kept (t':=Yg) λb o e=>Zd _ e,Jhk a _,CP,λb u=>?_,g _ _ F (JkG f h2) JrK⟩;have e:b=Ax:=by simpa using u
  subst e;exact I1.fpOk (Zh _) E4
 |str z=>
  cases B;have hx:x=V.str z:=rd;subst hx;obtain⟨t,rfl⟩:=r1;refine wpAny_pyIter_strU ⟨Ax,[Ax],_,_,H1,rfl,I1.kept (t':=Yg) λb o e=>Zd _ e,Jqz z t _,CP,λb u=>?_,g _ _ F Jqq JxI⟩;have e:b=Ax:=by simpa using u
  subst e;exact I1.fpOk (Zh _) E4
 |_=>cases B
def sZ(hl:PE X l Gj):PI X Si l (tW X U WB):=by
 rintro Y s Z H R I⟨O,r,h⟩;simp only[evD,Rs.bind_assoc]at h;refine thn (hl Y s Z H (λv W=>∃d J,Rep X.K W d v/\(d=.tup J\/d=.lst J)/\Same H W/\∀B u,Same H u->Walk X.K B u J->ItOk B->R B u) I ⟨O,r,'ħ'.imp λd C v W s1 q=>?_⟩) λv s1⟨x,H1,I1,r1,d,J,rd,hw,s2,f⟩=>?_
 ·cases d with
  |tup J=>obtain⟨F,e,f⟩:=C;cases e;exact⟨_,J,q,.inl rfl,s1,f⟩
  |lst J=>obtain⟨F,e,f⟩:=C;cases e;exact⟨_,J,q,.inr rfl,s1,f⟩
  |_=>exact(show False from C).elim
 rcases hw with rfl|rfl
 ·obtain⟨a,xs,rfl,g,h2⟩:=rd;cases r1;obtain⟨its,q,pt,hz⟩:=I1.tuple g;refine lP (show s1.heap.IsTuple a AF from pt) ⟨Ax,[Ax],_,_,H1,rfl,I1.kept (t':=Yg) λb o e=>Zd _ e,JeU a _,CP,λb hb=>?_,f _ _ s2 (Jke g h2 λ_ _ _ _=>trivial) Jrp⟩;have e:b=Ax:=by simpa using hb
  subst e;exact I1.fpOk (Zh _) E4
 ·obtain⟨a,xs,rfl,g,h2⟩:=rd;cases r1;obtain⟨its,q,pt,hz⟩:=I1.list g;refine zJ pt.isList ⟨Ax,[Ax],_,_,H1,rfl,I1.kept (t':=Yg) λb o e=>Zd _ e,Jhk a _,CP,λb hb=>?_,f _ _ s2 (JkG g h2) JrK⟩;have e:b=Ax:=by simpa using hb
  subst e;exact I1.fpOk (Zh _) E4
def Jib(C:Am)(q:AO)(hg:gloB nm "range"=To)(hm:G.mg "range"=No)(hs:starEach [a] Ue=[HR]):PI X tg (.Call (.Name "range" p1) [a] [] pos) (tW X U (.un .range pa)):=by
 rintro Y s Z H R I⟨O,r,h⟩;refine JlE ER (by rw[C.mg];exact hm) (Jd (U:=U) q Jm hs) hs Y s Z H R I Dd;simp only[evD];refine Rs.gB.mpr ('ħ'.imp λd f=>?_);cases d with
 |int i=>
  simp only[op1]at f;split at f
  ·rename_i g;simp only[midI,Zc,Zw]at g;obtain⟨ds',e,hR⟩:=f;cases e;refine⟨[.int i],rfl,λvs W F rs=>?_⟩;obtain⟨v,r',u,B,h2⟩:=rs;cases h2;cases B;subst u;exact⟨i,rfl,g.1,g.2,hR _ _ F Jlr Jpm⟩
  ·exact f.elim
 |_=>exact(show False from f).elim
def Jur(C:Am)(ha:AO)(hg:gloB nm "enumerate"=To)(hm:G.mg "enumerate"=No)(hs:starEach [a] Ue=[HR]):
  PI X Si (.Call (.Name "enumerate" p1) [a] [] pos) (tW X U (.un .enum pa)):=by
 rintro Y s Z H R I⟨O,r,h⟩;refine Call_ (pK I ER (by rw[C.mg];exact hm) boot_enumerate (sQ (thn (Jd (U:=U) ha Jm hs pos Y s Z H (λF W=>∃d J v,F=[v]/\Rep X.K W d v/\(d=.tup J\/d=.lst J)/\Same H W/\∀J9 H2,Same H H2->Walk X.K J9 H2 (Jw 0 J)->ItOk J9->R J9 H2) I Dd) λus s1 zz=>?_) hs rfl))
 ·simp only[evD];refine Rs.gB.mpr ('ħ'.imp λd hd=>?_);refine⟨[d],rfl,λF W s1 rs=>?_⟩;obtain⟨v,r',B,h1,h2⟩:=rs;cases h2;subst B;obtain⟨J,w1,g⟩:=Jgc hd;obtain⟨_,e,hR⟩:=g;cases e;exact⟨_,J,v,rfl,h1,w1,s1,hR⟩
 obtain⟨F,H1,f,r1,d,J,v,B,rd,hw,s2,hR⟩:=zz;subst B;obtain⟨t,l,xs,rfl,q1,q2⟩:=tX rd hw;obtain⟨u,rfl,ru⟩:=xA r1;cases ru;obtain⟨its,rv,pt,hz⟩:=xE f q1;refine Jmp pt λh' he hit kp=>wpAny_pyIter_enum he ⟨Ax+1,[Ax+1,Ax],_,_,H1,rfl,f.kept (t':=Yg) kp,JlR t l Ax (Ax+1) (Nat.succ_ne_self _),⟨⟨_,he⟩,hit⟩,λb hb=>?_,hR _ _ s2 (Jog f q1 q2) Jtr⟩;have q:Ax<=b:=by
  simp only[Zf,Zy,fA]at hb;rcases hb with rfl|rfl
  ·exact mC _
  ·exact Zh _
 exact f.fpOk q (f.hok.fresh q)
def JxC(C:Am)(ha:AO)(hb:BJ)(hg:gloB nm "zip"=To)(hm:G.mg "zip"=No)(hs:starEach [a,b] Ue=HR::starEach [b] Ue)
  (F:starEach [b] Ue=[(Fo,eval b Ue)]):PI X Si (.Call (.Name "zip" p1) [a,b] [] pos) (tW X U (.bi .zip pa pb)):=by
 rintro Y s Z H R I⟨O,r,h⟩;refine Call_ (pK I ER (by rw[C.mg];exact hm) boot_zip (sQ (thn (Jd (U:=U) ha (Jd hb Jm F) hs pos Y s Z H (λvs W=>∃d J v f es v',vs=[v,v']/\Rep X.K W d v/\(d=.tup J\/d=.lst J)/\Rep X.K W f v'/\(f=.tup es\/f=.lst es)/\Same H W/\∀J9 H2,Same H H2->Walk X.K J9 H2 (zipD J es)->ItOk J9->R J9 H2) I Dd)
  λus s1 zz=>?_) hs (by rw[F];rfl)))
 ·simp only[evD];refine Rs.gB.mpr ('ħ'.imp λd hd=>?_);refine Rs.gB.mpr ((Rs.gB.mpr ((Rs.gB.mp hd).imp λf hd'=>?_)));refine⟨[d,f],rfl,λvs W s1 rs=>?_⟩;obtain⟨v,r',e1,h1,v',r'',e2,h2,h3⟩:=rs;cases h3;subst e2;subst e1;obtain⟨J,w1,g⟩:=Jgc hd';obtain⟨es,w2,g⟩:=Jgc g;obtain⟨_,e,hR⟩:=g;cases e;exact⟨d,J,v,f,es,v',rfl,h1,w1,h2,w2,s1,hR⟩
 obtain⟨vs,H1,q,r1,d,J,v,f,es,v',e1,rd,hw,rd',hw',s2,hR⟩:=zz;subst e1;obtain⟨t,l,xs,rfl,q1,q2⟩:=tX rd hw;obtain⟨t',l',ys,rfl,q3,q4⟩:=tX rd' hw';obtain⟨u,u',rfl,ru,ru'⟩:=JxS r1;cases ru;cases ru';obtain⟨its,rv,pt,hz⟩:=xE q q1;obtain⟨its2,rv2,pt2,hz2⟩:=xE q q3;have ap:Apart (Ax+4) (Ax+2) (Ax+3) Ax (Ax+1):=⟨by simp[oB]⟩;refine Jnp pt pt2 λh' st kp=>wpAny_pyIter_zip st.1 ⟨Ax+4,_,_,_,H1,rfl,q.kept (t':=Yg) kp,JpB t t' l l' _ _ _ _ _ ap,st,λb hb=>?_,hR _ _ s2 (Jpy q q1 q2 q3 q4) JwS⟩;have B:Ax<=b:=by simp only[Zf,Zy,fA]at hb;rcases hb with rfl|rfl|rfl|rfl|rfl<;>first|exact Zh _|exact Nat.le_add_right _ _
 exact q.fpOk B (q.hok.fresh B)
end
noncomputable def uni (L:A9) (H H1:Hp):Hp:=λa=>if a∈L then H a else H1 a
section
variable{L':A9}{o:HO}
def JS(h:a∉L):uni L H H1 a=H1 a:=by unfold uni;rw[if_neg h]
def zI(h:a∈L):uni L H H1 a=H a:=by unfold uni;rw[if_pos h]
def iT(h:∀a∈L,H1 a=No):hid L Hc=H1:=by
 funext a;by_cases q:a∈L
 ·rw[iG q,h a q]
 ·rw[Jt q,JS q]
def JfI(s:Same Bm H1):Same H Hc:=λa o h=>by
 by_cases q:a∈L
 ·rw[zI q];exact h
 ·rw[JS q];exact s a o (by rw[Jt q];exact h)
def Ows.tup(h:Qcx):Tups K H Bm:=by
 have f:∀b o,H b=So o->¬Chgb o->b∉L:=λb o e B r=>by obtain⟨u,g,c⟩:=h b r;rw[e]at g;cases g;exact B c
 refine⟨λb xs q=>?_,λb o u q=>by rw[Jt '令'];exact q⟩;rcases q with q|q
 ·exact .inl (by rw[Jt '令'];exact q)
 ·exact .inr q
end
section
variable{ps:A8}{s':Al}
def Chgc:HO->Prop
 |.lsm _ _=>True
 |.ins _ _ _=>True
 |.own _=>True
 |o=>Chgb o
structure OwC(L:A9)(H:Hp):Prop where
 all:∀a∈L,∃o,H a=So o/\Chgc o
 own:∀b a,b∈L->H b=So (.own a)->a∈L/\∃C fs,H a=So QdL
 dx:∀a C d fs,a∈L->H a=So (.ins C d fs)->d∈L
def Ows.c(h:Qcx):OwC L H where
 all:=λa g=>by
  obtain⟨o,e,c⟩:=h a g
  exact⟨o,e,by cases o<;>first|exact c|exact c.elim⟩
 own:=λb a q e=>by obtain⟨o,f,c⟩:=h b q;rw[e]at f;cases f;exact c.elim
 dx:=λa C d fs g e=>by obtain⟨o,f,c⟩:=h a g;rw[e]at f;cases f;exact c.elim
def Inv.obj(I:BU)(r:Qcy)(q:a∈L):∃ob,s.heap.get? a=So ob/\∀v,ob.data≠.cell v:=by
 obtain⟨o,h,F⟩:=r.all a q;have:=I.hok a o h;cases o with
 |lst xs=>obtain⟨_,g,n,_,e⟩:=this;exact⟨_,e,λv z=>by cases z⟩
 |lsm _ xs=>obtain⟨_,g,n,_,e⟩:=this;exact⟨_,e,λv z=>by cases z⟩
 |dK f=>obtain⟨_,_,vs,_,ob,es,ep,e,c,d,_⟩:=this;exact⟨ob,e,λv z=>by rw[d]at z;cases z⟩
 |ins C dx fs=>obtain⟨_,_,_,e,_⟩:=this;exact⟨_,e,λv z=>by cases z⟩
 |own b=>obtain⟨_,C,fs,u⟩:=r.own a b q h;obtain⟨_,_,_,_,mA,⟨B,es,ep,U,d,_⟩,_⟩:=I.hok b _ u;exact⟨B,U,λv z=>by rw[d]at z;cases z⟩
 |dT f=>obtain⟨_,_,xs,_,ob,es,ep,e,c,d,_⟩:=this;exact⟨ob,e,λv z=>by rw[d]at z;cases z⟩
 |_=>exact F.elim
theorem Jjr(I:BU)(g:Qcy):∀L1:List Addr,(∀a∈L1,a∈L)->∃ps:List (Addr×Obj),ps.map (·.1)=L1/\∀p∈ps,s.heap.get? p.1=So p.2/\∀v,p.2.data≠.cell v
 |[],_=>⟨[],rfl,by simp⟩
 |a::L1,h=>by
  obtain⟨ob,r,q⟩:=Inv.obj I g (h a Ad)
  obtain⟨ps,C,u⟩:=Jjr I g L1 λb B=>h b (by simp[B])
  refine⟨(a,ob)::ps,by simp[C],λp f=>?_⟩
  rcases Zf.mp f with rfl|f
  ·exact⟨r,q⟩
  ·exact u p f
def Inv.fsFree(I:BU)(f:b∈X.fs):H b=No:=by obtain⟨_,o,g,_⟩:=I.ok.funs.mem f;exact I.base.free b o g (I.ok.frf b f) λz=>I.ok.exfs b z f
def Inv.hide(I:BU)(C:Qcy):∃ps:List (Addr×Obj),ps.map (·.1)=L/\(∀p∈ps,s.heap.get? p.1=So p.2)/\L2.Inv X (ps++Y) Z Bm s:=by
 obtain⟨ps,e1,e2⟩:=Jjr I C L λ_ z=>z
 have B:∀p∈ps,p.1∈L:=λp f=>by rw[<-e1];exact qD f
 have g:∀b o,H b=So o->¬Chgc o->b∉L:=λb o e nc U=>by
  obtain⟨u,r,c⟩:=C.all b U
  rw[e]at r;cases r;exact nc c
 have F:∀b,H b=No->hid L H b=No:=λb e=>by unfold hid;split<;>first|rfl|exact e
 refine⟨ps,e1,λp f=>(e2 p f).1,?_⟩
 exact{
  ok:=I.ok,os:=I.os,bare:=Yi
  base:=⟨I.base.keep,I.base.slot,λb o q n x=>F b Ql,I.base.there,λb xs q=>by
    have:=I.base.tups b xs q
    rw[Jt 'μ'];exact this,
   λb o u q=>by
    have:=I.base.frzs b o u q
    rw[Jt 'μ'];exact this,
   λb qs q=>by
    obtain⟨m,this⟩:=I.base.tbls b qs q
    exact⟨m,by rw[Jt 'μ'];exact this⟩⟩
  loc:=Ys,cell:=I.cell,free:=F _ Yv,freeC:=λx c e=>F _ Hq
  pin:=λp f=>by
   have hp':p∈ps\/p∈X.pn++Y:=by
    simp only[ZK]at f⊢
    rcases f with h|h|h
    ·exact .inr QcX
    ·exact .inl h
    ·exact .inr Qc0
   rcases hp' with f|f
   ·obtain⟨o,r,_⟩:=C.all p.1 (B p f)
    refine⟨(e2 p f).1,iG (B p f),λz=>?_,λz=>?_,(e2 p f).2⟩
    ·rw[z,I.free]at r;cases r
    ·rw[Inv.fsFree I z]at r;cases r
   ·obtain⟨q1,q2,q3⟩:=I.pin p f
    exact⟨q1,F _ q2,q3⟩
  hok:=λa o e=>by
   obtain⟨h1,h2⟩:=hU e
   exact(I.hok a o h2).stay Lg (λb q=>by rw[Jt λU=>h1 (C.own b a U q).1];exact q) (λb xs q=>by rw[Jt '以'];exact q) λb o' u' q=>by rw[Jt '以'];exact q
  len:=I.len}
def Inv.unhide(I:BU)(hL:Qcy)(e1:ps.map (·.1)=L)(e2:∀p∈ps,s.heap.get? p.1=So p.2)(sm:∀b xs,hid L H b=So Bb->H1 b=So Bb)(f:L2.Inv X (ps++Y) σ' H1 s'):(∀a∈L,H1 a=No)/\L2.Inv X Y σ' Hc s':=by
 have F:∀b o,H b=So o->¬Chgc o->b∉L:=λb o e nc hm=>by
  obtain⟨u,e3,c⟩:=hL.all b hm
  rw[e]at e3;cases e3;exact nc c
 have g:∀a∈L,∃ob,s.heap.get? a=So ob/\s'.heap.get? a=So ob/\H1 a=No:=λa B=>by
  rw[<-e1]at B
  obtain⟨p,hp,rfl⟩:=Zv.mp B
  obtain⟨q1,q2,_⟩:=f.pin p (by simp[hp])
  exact⟨p.2,e2 p hp,q1,q2⟩
 have U:∀b,H b=No->b∉L:=λb e hm=>by
  obtain⟨o,e3,_⟩:=hL.all b hm
  rw[e]at e3;cases e3
 have tp:∀b xs,H b=So Bb->uni L H H1 b=So Bb:=λb xs q=>by
  have hb:=F b _ q λz=>z
  rw[JS hb];exact sm b _ (by rw[Jt hb];exact q)
 refine⟨λa B=>let⟨_,_,_,h⟩:=g a B;h,?_⟩
 exact{
  ok:=I.ok,os:=f.os,bare:=f.bare
  base:=⟨f.base.keep,f.base.slot,λb o q n x=>by rw[JS (U b Ql)];exact f.base.free b o q n x,f.base.there,
   λb xs q=>by rw[JS (F b _ '亩' λz=>z)];exact f.base.tups b xs q,
   λb o u q=>by rw[JS (F b _ (I.base.frzs b o u q) λz=>z)];exact f.base.frzs b o u q,
   λb qs q=>by
    obtain⟨m,this⟩:=I.base.tbls b qs q
    rw[JS (F b _ this λz=>z)];exact f.base.tbls b qs q⟩
  loc:=f.loc,cell:=f.cell
  free:=by rw[JS (U _ Yv)];exact f.free
  freeC:=λx c e=>by rw[JS (U _ Hq)];exact f.freeC x c e
  pin:=λp hp=>by
   obtain⟨q1,q2,q3⟩:=f.pin p (by
    simp only[ZK]at hp⊢
    rcases hp with h|h
    ·exact .inl h
    ·exact .inr Qc0)
   exact⟨q1,by rw[JS (U _ (I.pin p hp).2.1)];exact q2,q3⟩
  hok:=λa o e=>by
   by_cases B:a∈L
   ·rw[zI B]at e
    obtain⟨u,e3,hc⟩:=hL.all a B
    rw[e]at e3;cases e3
    have:=I.hok a o e
    have trB:∀{b:Addr}{x:Obj},b∈L->s.heap.get? b=So x->s'.heap.get? b=So x:=fun{b x}hb q=>by
     obtain⟨ob,h1,h2,_⟩:=g b hb
     rw[h1]at q;cases q;exact h2
    have tr:∀{x:Obj},s.heap.get? a=So x->s'.heap.get? a=So x:=trB B
    cases o with
    |lst xs=>obtain⟨z,its,n,r,q⟩:=this;exact NR
    |lsm _ xs=>obtain⟨z,its,n,r,q⟩:=this;exact NR
    |own y=>obtain⟨x,q⟩:=this;exact⟨x,tr q⟩
    |ins C dx fs=>
     obtain⟨d,z,ne,q,mA,⟨od,es,ep,q2,c⟩,r⟩:=this
     have hd:=hL.dx a C dx fs B e
     exact⟨by rw[zI hd];exact d,z,ne,tr q,mA,⟨od,es,ep,trB hd q2,c⟩,r⟩
    |dK kvs=>obtain⟨z,y,vs,r,ob,es,ep,q,c⟩:=this;exact⟨z,y,vs,r,ob,es,ep,tr q,c⟩
    |dT kvs=>obtain⟨z,y,xs,r,ob,es,ep,q,c⟩:=this;exact⟨z,y,xs,Paired.mapP r λp q z=>⟨z.1,z.2.1.keep tp,z.2.2⟩,ob,es,ep,tr q,c⟩
    |_=>exact hc.elim
   ·rw[JS B]at e
    have nz:∀b o,H1 b=So o->b∉L:=λb o q hm=>by
     obtain⟨_,_,_,h⟩:=g b hm
     rw[q]at h;cases h
    exact(f.hok a o e).stay Lg (λb q=>by rw[JS (nz b _ q)];exact q) (λb xs q=>by rw[JS (nz b _ q)];exact q) λb o' u' q=>by rw[JS (nz b _ q)];exact q
  len:=f.len}
end
def OutH(X:Cx)(L:A9)(H:Hp)(Q:VK)(d:D):Prop:=∀v W,Same H W->(∀a∈L,W a=H a)->Rep X.K J0 d v->Q v W
inductive tH(X:Cx)(call:Ag)(p:Px)(σ:Bl)(H:Hp)(Q:VK):Prop where
 |mk:∀env L,Ows L H->ReadOk X.K (hid L H) σ env->(evD call p env).Good (OutH X L H Q) (XW X (hid L H))->tH X call p σ H Q
def OutFH(X:Cx)(L:A9)(H:Hp)(Q:VK)(d:D):Prop:=∃J,d=.lst J/\∀l xs W,Same H W->(∀a∈L,W a=H a)->H l=No->W l=So AA->Reps X.K J0 J xs->Q BH W
inductive tFH(X:Cx)(call:Ag)(p:Px)(σ:Bl)(H:Hp)(Q:VK):Prop where
 |mk:∀env L,Ows L H->ReadOk X.K (hid L H) σ env->(evD call p env).Good (OutFH X L H Q) (XW X (hid L H))->tFH X call p σ H Q
section
variable{U:Ag}
def jO(he:Cf):PE X e (tH X U p):=by
 rintro Y s Z H Q I⟨O,L,C,r,h⟩;obtain⟨ps,e1,e2,I'⟩:=Inv.hide I C.c;refine ZY (he (ps++Y) s Z Bm (λv H1=>Same Bm H1/\((∀a∈L,H1 a=No)->Q v Hc)) I' ⟨O,r,h.mono (λd hd v H1 g f=>⟨g,λB=>hd v _ (JfI g) (λa F=>zI F) ?_⟩) λc z=>z⟩)
  (λu g⟨v,H1,I1,f,sm,q⟩=>?_) λ_ _ z=>z
 ·rw[iT B];exact f
 ·obtain⟨B,I2⟩:=Inv.unhide I C.c e1 e2 Tj I1;exact⟨v,_,I2,f,q B⟩
end
def tWH (X:Cx) (U:Ag) (p:Px):TI:=λZ H R=>∃O L,Ows L H/\ReadOk X.K Bm Z O/\(evD U p O).Good (λd=>∃J,d=.lst J/\∀f W,Same H W->(∀a∈L,W a=H a)->Walk X.K f J0 J->ItOk f->R f W) (XW X Bm)
section
variable{U:Ag}{iter:Expr}
def JyA(hi:PI X tg iter (tW X U p)):PI X tg iter (tWH X U p):=by
 rintro Y s Z H R I⟨O,L,hL,r,h⟩;obtain⟨ps,F,e2,I'⟩:=Inv.hide I hL.c;refine ZY (hi (ps++Y) s Z Bm (λf H1=>Same Bm H1/\((∀a∈L,H1 a=No)->R f Hc)) I' ⟨O,r,h.mono (λd⟨J,ed,hd⟩=>⟨J,ed,λf H1 B w ok=>⟨B,λC=>hd f _ (JfI B) Of ?_ ok⟩⟩) λc z=>z⟩)
  (λv B q1=>ZY q1 (λitv s2 zz=>?_) λ_ _ z=>z) λ_ _ z=>z
 ·rw[iT C];exact w
 ·obtain⟨it,fp,tn,f,H1,e3,I1,T,t0,hf,sm,q⟩:=zz;obtain⟨C,I2⟩:=Inv.unhide I hL.c F e2 Tj I1;refine⟨it,fp,tn,f,_,e3,I2,T,t0,λb hb=>?_,q C⟩;obtain⟨f0,f1,f2,f3,f4,f5⟩:=hf b hb;have u:b∉L:=λhm=>by rw[<-F]at hm;obtain⟨p,g,rfl⟩:=Zv.mp hm;exact f5 p (by simp[g]) rfl
  exact⟨by rw[JS u];exact f0,f1,f2,f3,f4,λp g=>f5 p (by
   simp only[ZK]at g⊢;rcases g with h|h
   ·exact .inl h
   ·exact .inr Qc0)⟩
end
noncomputable def owA (O:Fm) (Z:Bl) (i:Nat):Option Addr:=match O[i]?,Z[i]? with
 |some (So _),So (So (.ref l))=>So l
 |_,_=>No
def Ow (M:Au) (O:Fm) (Z:Bl):List Addr:=M.filterMap (owA O Z)
def owA_iff:owA O Z i=So l↔∃d,O[i]? =So Bd/\Z[i]? =So Cy:=by
 unfold owA;constructor
 ·intro h;split at h
  ·rename_i d m g f;cases h;exact⟨d,g,f⟩
  ·cases h
 ·rintro⟨d,g,f⟩;rw[g,f]
def mem_Ow:l∈Ow M O Z↔∃i∈M,∃d,O[i]? =So Bd/\Z[i]? =So Cy:=by
 unfold Ow;rw[pD];constructor
 ·rintro⟨i,f,h⟩;exact⟨i,f,owA_iff.mp h⟩
 ·rintro⟨i,f,h⟩;exact⟨i,f,owA_iff.mpr h⟩
def Jfq{env':Fm}(h:∀i∈M,owA O Z i=owA env' σ' i):Ow M O Z=Ow M env' σ':=by
 unfold Ow;induction M with
 |nil=>rfl
 |cons i M f=>simp only[zH,h i (.head _),f λj g=>h j (.tail _ g)]
def JsO{s:AL}{t:cJ}(h:j≠i):owA LZ (Z.set i t) j=owA O Z j:=by unfold owA;rw[Zr (Ne.symm h),Zr (Ne.symm h)]
def sE{s:AL}{t:cJ}(h:i∉M):Ow M LZ (Z.set i t)=Ow M O Z:=Jfq λj f=>JsO λe=>h (e▸f)
noncomputable def OwnIs (K:Aj) (f H:Hp) (l:Addr):D->Prop
 |.lst J=>∃xs,H l=So AA/\Reps K f J xs
 |.dct t z ks g=>z=Fo/\∃xs,DK H l t Fo ks xs/\Reps K f g xs
 |_=>False
def OwnIs.mono{r f:Hp}{d:D}(h:OwnIs K r H l d)(e:Same r f)(k:∀o,H l=So o->W l=So o):OwnIs K f W l d:=by
 cases d with
 |lst J=>obtain⟨xs,g,q⟩:=h;exact⟨xs,k _ g,q.mono e⟩
 |dct t z ks B=>obtain⟨u,xs,g,q⟩:=h;exact⟨u,xs,g.mono k,q.mono e⟩
 |_=>exact h.elim
def OwnIs.chg{u:Hp}{d:D}(h:OwnIs K u H l d):∃o,H l=So o/\Chgb o:=by
 cases d with
 |lst J=>obtain⟨xs,f,r⟩:=h;exact⟨_,f,trivial⟩
 |dct t z ks B=>
  obtain⟨C,xs,f,r⟩:=h;cases t<;>obtain⟨q,g,_⟩:=f
  ·exact Hu
  ·exact Hu
 |_=>exact h.elim
def OwnIs.rep{q:Hp}{d:D}(h:OwnIs K q H l d)(e:Same q H):Rep K H d BH:=by
 cases d with
 |lst J=>obtain⟨xs,f,g⟩:=h;exact⟨l,xs,rfl,SqL.of f,g.mono e⟩
 |dct t z ks r=>obtain⟨rfl,xs,f,g⟩:=h;exact⟨l,xs,rfl,f,g.mono e⟩
 |_=>exact h.elim
structure EnvOk(K:Aj)(M:Au)(H0 H:Hp)(Z:Bl)(O:Fm):Prop where
 same:Same H0 H
 len:Z.length=O.length
 read:∀(i:Nat)(d:D),i∉M->O[i]? =So Bd->∃v,Z[i]? =So BO/\Rep K Dc d v
 own:∀(i:Nat)(d:D),i∈M->O[i]? =So Bd->∃l,Z[i]? =So Cy/\H0 l=No/\OwnIs K Dc H l d
 apart:∀(i j:Nat)(l:Addr)(d d':D),i∈M->j∈M->i≠j->O[i]? =So Bd->O[j]? =So (So d')->Z[i]? =So Cy->Z[j]? ≠So Cy
structure Fz(L:A9)(H:Hp)(L':A9)(W:Hp):Prop where
 keep:∀a o,H a=So o->a∉L->W a=So o
 own:∀l∈L',l∈L\/H l=No
section
variable{L2:A9}{H2:Hp}
def Fz.of(s:IV)(h:∀l∈L1,l∈L\/H l=No):Fz L H L1 H1:=⟨λa o e _=>s a o e,h⟩
def Fz.sm(s:IV):Fz L H L H1:=.of s λ_ h=>.inl h
def Fz.trans(a:Fz L H L1 H1)(b:Fz L1 H1 L2 H2):Fz L H L2 H2 where
 keep:=λc o e g=>b.keep c o (a.keep c o e g) λf=>by
  rcases a.own c f with h|h
  ·exact g h
  ·rw[e]at h;cases h
 own:=λl r=>by
  rcases b.own l r with h|h
  ·exact a.own l h
  ·by_cases f:l∈L
   ·exact .inl f
   ·cases q:H l with
    |none=>exact .inr rfl
    |some o=>rw[a.keep l o q f]at h;cases h
def Fz.hid(a:Fz L H L1 H1):Same Bm (hid L1 H1):=JqR λb o e f=>⟨a.keep b o e f,λg=>by
 rcases a.own b g with h|h
 ·exact f h
 ·rw[e]at h;cases h⟩
end
def EnvOk.ows(e:CO):Ows CB H:=λa g=>by
 obtain⟨i,q,d,u,B⟩:=mem_Ow.mp g
 obtain⟨l,f,_,r⟩:=e.own i d q u
 rw[B]at f;cases f
 exact r.chg
def EnvOk.same0(e:CO):Same H0 Dc:=λa o h=>by
 have B:a∉Ow M O Z:=λq=>by
  obtain⟨i,r,d,u,C⟩:=mem_Ow.mp q
  obtain⟨l,g,f,_⟩:=e.own i d r u
  rw[C]at g;cases g
  rw[h]at f;cases f
 rw[Jt B];exact e.same a o h
def EnvOk.readOk(e:CO):ReadOk K H Z O:=λi d h=>by
 by_cases q:i∈M
 ·obtain⟨l,f,_,g⟩:=e.own i d q h
  exact⟨_,f,g.rep hid_same⟩
 ·obtain⟨v,f,g⟩:=e.read i d q h
  exact⟨v,f,g.mono hid_same⟩
def EnvOk.readHid(e:CO):ReadOk K Dc Z (lC M 0 O):=λi d h=>by
 rw[zU]at h
 cases q:O[i]? with
 |none=>rw[q]at h;cases h
 |some s=>
  rw[q]at h
  simp only[Option.map_some,iM,ZU]at h
  split at h
  ·cases h
  ·rename_i f
   subst h
   exact e.read i d f q
def EnvOk.grow(e:CO)(s:B9):EnvOk K M H0 W Z O where
 same:=e.same.trans s
 len:=e.len
 read:=λi d f h=>let⟨v,g,q⟩:=e.read i d f h;⟨v,g,q.mono (Fz.sm s).hid⟩
 own:=λi d f h=>let⟨l,g,r,q⟩:=e.own i d f h;⟨l,g,r,q.mono (Fz.sm s).hid (s l)⟩
 apart:=e.apart
theorem JQ{l:List α}{a b:α}(h:(l.set i a)[j]? =So b):(j=i/\b=a/\i<XZ)\/(j≠i/\l[j]? =So b):=by
 by_cases q:j=i
 ·subst q;by_cases f:j<XZ
  ·rw[ZR f]at h;cases h;exact .inl ⟨rfl,rfl,f⟩
  ·rw[sP (by rw[mB];lia)]at h;cases h
 ·rw[Zr 'ƺ']at h;exact .inr ⟨q,h⟩
def EnvOk.put(e:CO){d:D}(g:i∉M)(r:Rep K Dc d v):EnvOk K M H0 H K9 E9 where
 same:=YX
 len:=by rw[mB,mB];exact e.len
 read:=λj u f h=>by
  rw[sE g]
  rcases JQ h with⟨rfl,hd,hl⟩|⟨q,h⟩
  ·cases hd;exact⟨v,ZR (by rw[e.len];exact hl),r⟩
  ·rw[Zr 'ƺ'];exact e.read j u f h
 own:=λj u f h=>by
  rw[sE g]
  rcases JQ h with⟨rfl,_,_⟩|⟨q,h⟩
  ·exact absurd f g
  ·rw[Zr 'ƺ'];exact e.own j u f h
 apart:=λj k l U d2 f F q B I C=>by
  have n1:j≠i:=λz=>g (z▸f)
  have n2:k≠i:=λz=>g (z▸F)
  rw[Zr 'ӈ']at B C
  rw[Zr 'Ӊ']at I⊢
  exact e.apart j k l U d2 f F q B I C
theorem Jrv{d:D}(b:Addr)(h:b∈Ow M E9 Hy):b=l\/b∈Ow M O Z:=by
 obtain⟨j,u,r,g,f⟩:=mem_Ow.mp h;by_cases q:j=i
 ·subst q;by_cases B:j<Z.length
  ·rw[ZR B]at f;cases f;exact .inl rfl
  ·rw[sP (by rw[mB];lia)]at f;cases f
 ·rw[Zr 'ƺ']at g f;exact .inr (mem_Ow.mpr ⟨j,u,r,g,f⟩)
def EnvOk.putOwn(e:CO)(s:B9){d:D}(h0:H l=No)(hl:∀Hh,Tups K W Hh->OwnIs K Hh W l d):
  EnvOk K M H0 W Hy E9/\Fz CB H RS W:=by
 have fz:Fz CB H RS W:=.of s λb hb=>by
  rcases Jrv b hb with rfl|h
  ·exact .inr h0
  ·exact .inl h
 have ows:Ows RS W:=λb hb=>by
  rcases Jrv b hb with rfl|h
  ·exact(hl W (Tups.of K5)).chg
  ·obtain⟨o,h1,h2⟩:=e.ows b h;exact⟨o,s _ _ h1,h2⟩
 refine⟨{
  same:=e.same.trans s
  len:=by rw[mB,mB];exact e.len
  read:=λj d' u h=>?_
  own:=λj d' u h=>?_
  apart:=λj k m d1 d2 u hk I h1 h2 h3 C=>?_},fz⟩
 ·rcases JQ h with⟨rfl,hd,g⟩|⟨I,h⟩
  ·cases hd
   exact⟨.ref l,ZR (by rw[e.len];exact g),(hl _ ows.tup).rep hid_same|>λr=>by
    have ho:l∉Ow M (O.set j Bd) (Z.set j Cy):=λhm=>by
     obtain⟨k,hk,d2,k1,F⟩:=mem_Ow.mp hm
     by_cases q:k=j
     ·exact u (q▸hk)
     ·rw[Zr 'ƺ']at k1 F
      obtain⟨l',f,_,g3⟩:=e.own k d2 hk k1
      rw[F]at f;cases f
      obtain⟨o,g4,_⟩:=g3.chg
      rw[h0]at g4;cases g4
    have:=hl _ (ows.tup)
    cases d with
    |lst J=>obtain⟨xs,B,q2⟩:=this;exact⟨l,xs,rfl,SqL.of (by rw[Jt ho];exact B),q2⟩
    |dct t z ks vs=>obtain⟨rfl,xs,B,q2⟩:=this;exact⟨l,xs,rfl,B.mono λo q=>by rw[Jt ho];exact q,q2⟩
    |_=>exact this.elim⟩
  ·obtain⟨v,f,g2⟩:=e.read j d' u h
   exact⟨v,by rw[Zr (Ne.symm I)];exact f,g2.mono fz.hid⟩
 ·rcases JQ h with⟨rfl,hd,g⟩|⟨I,h⟩
  ·cases hd;exact⟨l,ZR (by rw[e.len];exact g),e.same.free h0,hl _ ows.tup⟩
  ·obtain⟨m,f,g0,g2⟩:=e.own j d' u h
   exact⟨m,by rw[Zr (Ne.symm I)];exact f,g0,g2.mono fz.hid (s m)⟩
 ·have U:∀q dq,q∈M->q≠i->O[q]? =So (So dq)->Z[q]? ≠So Cy:=λq dq hq hqi hqe hqs=>by
   obtain⟨l',f,_,g3⟩:=e.own q dq hq hqe
   rw[f]at hqs;cases hqs
   obtain⟨o,g4,_⟩:=g3.chg
   rw[h0]at g4;cases g4
  rcases JQ h1 with⟨B,_,g⟩|⟨n1,k1⟩
  ·rw[B,ZR (by rw[e.len];exact g)]at h3
   cases h3
   rcases JQ h2 with⟨q,_,_⟩|⟨n2,F⟩
   ·exact I (B.trans q.symm)
   ·rw[Zr 'Ӊ']at C
    exact U k d2 hk n2 F C
  ·rw[Zr 'ӈ']at h3
   rcases JQ h2 with⟨q2,_,g⟩|⟨n2,F⟩
   ·rw[q2,ZR (by rw[e.len];exact g)]at C
    cases C
    exact U j d1 u n1 k1 h3
   ·rw[Zr 'Ӊ']at C
    exact e.apart j k m d1 d2 u hk I k1 F h3 C
def Jjg{o:HO}(h:l∈L):hid L KG=hid L H:=by
 funext b;by_cases q:b∈L
 ·rw[iG q,iG q]
 ·rw[Jt q,Jt q,Jc (λz:b=l=>q (by rw[z];exact h))]
def EnvOk.change(e:CO){d d':D}{o:HO}(hi:i∈M)(r:O[i]? =So Bd)(hs:Z[i]? =So Cy)(new:OwnIs K Dc KG l d'):
  EnvOk K M H0 KG Z (O.set i (So d'))/\Fz CB H (Ow M R6 Z) KG:=by
 have hl:l∈Ow M O Z:=mem_Ow.mpr ⟨i,hi,d,r,hs⟩;obtain⟨l',B,h0,h2⟩:=e.own i d hi r;rw[hs]at B;cases B;have F:i<O.length:=(Zz.mp r).1;have ow:Ow M R6 Z=Ow M O Z:=Jfq λj f=>by
  by_cases q:j=i
  ·subst q;rw[owA_iff.mpr ⟨d,r,hs⟩];exact owA_iff.mpr ⟨d',ZR F,hs⟩
  ·unfold owA;rw[Zr 'ƺ']
 have hh:hid (Ow M R6 Z) KG=hid CB H:=by rw[ow,Jjg hl]
 refine⟨⟨λb ob q=>?_,by rw[mB];exact e.len,λj I f h=>?_,λj I f h=>?_,λj k m d1 d2 f hk u B h2 h3=>?_⟩,⟨λa ob q u=>?_,λb hb=>.inl (by rw[ow]at hb;exact hb)⟩⟩
 ·rw[Jc (Ji q h0)];exact e.same b ob q
 ·rw[hh];rcases JQ h with⟨rfl,_,_⟩|⟨u,h⟩
  ·exact absurd hi f
  ·exact e.read j I f h
 ·rw[hh];rcases JQ h with⟨rfl,hd,_⟩|⟨u,h⟩
  ·cases hd;exact⟨l,hs,h0,new⟩
  ·obtain⟨m,g1,g0,g2⟩:=e.own j I f h;have U:m≠l:=λz=>e.apart i j l _ _ hi f (Ne.symm u) r h hs (z▸g1);exact⟨m,g1,g0,g2.mono K5 λob q=>by rw[Jc U];exact q⟩
 ·have g:∀(q:Nat)(dq:D),(O.set i (So d'))[q]? =So (So dq)->∃C,O[q]? =So (So C):=λq dq hq=>by
   rcases JQ hq with⟨rfl,_,_⟩|⟨_,hq⟩
   ·exact⟨_,r⟩
   ·exact⟨dq,hq⟩
  obtain⟨e1,k1⟩:=g j d1 B;obtain⟨e2,k2⟩:=g k d2 h2;exact e.apart j k m e1 e2 f hk u k1 k2 h3
 ·rw[Jc (λz:a=l=>u (by rw[z];exact hl))];exact q
def Chg(m:Bool)(L:A9)(H:Hp)(f:A9)(W:Hp):Prop:=Fz L H f W/\(m=Fo->Same H W)
section
variable{n:Bool}{L2:A9}{H2:Hp}
def Chg.of(s:IV):Chg m L H L H1:=⟨Fz.sm s,λ_=>s⟩
def Chg.trans(a:MN)(b:Chg n L1 H1 L2 H2):Chg (m||n) L H L2 H2:=⟨a.1.trans b.1,λh=>by
 simp only[ZN]at h
 exact(a.2 h.1).trans (b.2 h.2)⟩
def Chg.weak(a:MN)(h:n=Fo->m=Fo):Chg n L H L1 H1:=⟨a.1,λq=>a.2 (h q)⟩
end
def OutS(X:Cx)(M:Au)(H0:Hp)(L:A9)(H:Hp)(m:Bool)(D:Ends)(r:Fw×Fm):Prop:=match r.1 with
 |.nx=>∀σ' W,EnvOk X.K M H0 W σ' r.2->Chg m L H (Ow M r.2 σ') W->D.nx σ' W
 |.rt d=>∀v W,Same H0 W->Rep X.K W d v->D.rt v W
 |.bk=>∀σ' W,EnvOk X.K M H0 W σ' r.2->Chg m L H (Ow M r.2 σ') W->D.bk σ' W
 |.ct=>∀σ' W,EnvOk X.K M H0 W σ' r.2->Chg m L H (Ow M r.2 σ') W->D.ct σ' W
inductive tS(X:Cx)(call:Ag)(M:Au)(H0:Hp)(p:Sx)(D:Ends)(σ:Bl)(H:Hp):Prop where
 |mk:∀env,EnvOk X.K M H0 H σ env->(exD call p env).Good (OutS X M H0 (Ow M env σ) H (mutS p) D) (XW X H0)->tS X call M H0 p D σ H
def OutS.after{n k:Bool}{D:Ends}{r:Fw×Fm}(h:OutS X M H0 L H k D r)(c:MN)(I:k=Fo->m=Fo/\n=Fo):OutS X M H0 L1 H1 n D r:=by
 obtain⟨f,e⟩:=r;have B:∀{C:A9}{W:Hp},Chg n L1 H1 C W->Chg k L H C W:=λF=>(c.trans F).weak λq=>by obtain⟨a,b⟩:=I q;rw[a,b];rfl
 cases f with
 |nx=>exactλσ' W u g=>h σ' W u (B g)
 |rt d=>exact h
 |bk=>exactλσ' W u g=>h σ' W u (B g)
 |ct=>exactλσ' W u g=>h σ' W u (B g)
section
variable{U:Ag}{c:Expr}{pc:Px}{a b:Sx}{rest sa sb:BF}
def PS.weak{t t':TS}(h:Qde)(g:∀D Z H,t' D Z H->t D Z H):PS X st t':=λY s Z H D I f=>h Y s Z H D I (g D Z H f)
def PSs.weak{f:BF}{t t':TS}(h:PSs X f t)(q:∀D Z H,t' D Z H->t D Z H):PSs X f t':=λY s Z H D I g=>h Y s Z H D I (q D Z H g)
def gG:PSs X [] (tS X U M H0 .skip):=PSs.weak Jno λD Z H⟨O,e,h⟩=>h Z H e (Chg.of D8)
def tE(h:PS X st MQ):PSs X [st] MQ:=JiW h
def fO(h1:PS X st MQ)(F:PSs X rest RD):PSs X (st::rest) (tS X U M H0 Ke):=by
 refine PSs.weak (JN h1 F) λD Z H⟨O,e,h⟩=>Dx;refine(Rs.gB.mp h).imp λr C=>?_;obtain⟨f,u⟩:=r;have I:mutS Ke=Fo->mutS a=Fo:=λq=>(ZN.mp q).1;cases f with
 |nx=>intro σ' W B g;refine⟨u,B,C.imp λr2 F=>F.after g λq=>ZN.mp q⟩
 |rt d=>exact C
 |bk=>exactλσ' W B g=>C σ' W B (g.weak I)
 |ct=>exactλσ' W B g=>C σ' W B (g.weak I)
def xI(g:Cf):PS X Ng (tS X U M H0 (.ret p)):=by refine PS.weak (pN g) λD Z H⟨O,e,h⟩=>Lo;exact(Rs.gB.mp h).mono (λd f v W s r=>f v W Qa0 r) λc z=>z.mono YX
def vI(F:Qbn)(u:PSs X sa MQ)(I:PSs X sb RD):PS X Qag (tS X U M H0 IQ):=by
 refine PS.weak (hX F u I) λD Z H⟨O,e,h⟩=>Lo;refine(Rs.gB.mp h).mono (λd g=>?_) λc z=>z.mono YX;cases d with
 |bl k=>
  refine⟨k,rfl,λW s=>?_⟩;have f:∀{q:Sx},(mutS IQ=Fo->mutS q=Fo)->(exD U q O).Good (OutS X M H0 CB H (mutS IQ) D) (XW X H0)->tS X U M H0 q D Z W:=λC hg=>
   ⟨O,e.grow s,hg.imp λr B=>B.after (m:=Fo) (Chg.of s) λz=>⟨rfl,C z⟩⟩
  cases k with
  |true=>exact iteT (f (λz=>(ZN.mp z).1) g)
  |false=>exact iteF (f (λz=>(ZN.mp z).2) g)
 |_=>exact g.elim
def JnX(g:i∉M)(f:De){D:Ends}(h:OU):tAsg (tH X U p) Ex D Z H:=by obtain⟨O,e,h⟩:=h;simp only[exD,gC,Zl,ZF]at h;refine Uo;rw[qH U O f];exact(Rs.gB.mp h).mono (λd q v W s k r=>q _ _ ('ȟ'.put g r) (by rw[sE g];exact Chg.of s)) λc z=>z.mono Z3
def JmA{D:Ends}(h:tS X U M H0 (.own i p) D Z H):tAsg Kf Ex D Z H:=by
 obtain⟨O,e,h⟩:=h;refine⟨O,YF,'ħ'.mono (λd f=>?_) λc z=>z.mono YX⟩;cases d with
 |lst J=>
  simp only at f;split at f
  ·exact f.elim
  ·rename_i q;have g:imms J=To:=by simpa using q
   refine⟨J,rfl,λl xs W s r u C=>?_⟩;obtain⟨F,B⟩:=e.putOwn s (i:=i) (d:=.lst J) r λI tp=>⟨xs,u,Reps.tups tp J g C⟩;exact f _ _ F Rv
 |_=>exact f.elim
def JvF(C:Am)(hi:N[i]? =So x)(q:locB nm x=To)(g:i∉M)(f:De)(u:Cf)(hs:MA):
  PS X Ga Oe:=by obtain⟨r,B⟩:=C.sto x q;exact PS.weak (iD CU (by rw[C.hN];exact hi) r (jO u) hs B) λD Z H h=>JnX g f h
def Jym(C:Am)(hi:N[i]? =So x)(f:locB nm x=To)(q:Qdl)(hs:MA):
  PS X Ga Qz:=by obtain⟨g,r⟩:=C.sto x f;exact PS.weak (iD CU (by rw[C.hN];exact hi) g q hs r) λD Z H h=>JmA h
def Jqg  {te:TE} (hM:Qcz) {D:Ends}   (h:tS X U M H0 (.app m i p) D Z H)
  (F:∀ O,EnvOk X.K M H0 H Z O -> ∀ Q,'ǉ'.Good (λd=>∀ v H1,Same H H1 -> (m = To -> d.imm = To) -> Rep X.K Io d v -> Q v H1) I0 -> (∀ d,evD U p O = .ok d -> m = To -> d.imm = To) -> te Z H Q) :
  ∃ l,Z[i]? = So Cy /\ (∃ xs,H l = So AA) /\ te Z H λv H1=>∃ xs,H1 l = So AA /\ Ah < sizeLine /\ D.nx Z (upd H1 l (.lst (xs ++ [v]))):=by
 obtain ⟨O,e,h⟩:=h;simp only [exD] at h;cases q:O[i]? with
 | none=>rw [q] at h; exact h.elim
 | some o=>
  rw [q] at h;cases o with
  | none=>exact h.elim
  | some d=>
   cases d with
   | lst J=>
    obtain ⟨l,f,h0,xs,hl,I⟩:=e.own i _ hM q;refine ⟨l,f,⟨xs,hl⟩,F O e _ ('ħ'.imp λd B v H1 r him r1=>?_) λd ed hm=>?_⟩
    ·split at B
     ·exact B.elim
     ·rename_i g;simp only [nB,not_or,ZV,yP,oE,Decidable.not_not] at g;have u:=r _ _ hl;have C:Ae < lD:=by simpa using g.2
      refine ⟨xs,u,by rw [I.length,ZG]; exact C,?_⟩;obtain ⟨e2,f2⟩:=(e.grow r).change (d':=.lst (J ++ [d])) (o:=.lst (xs ++ [v])) hM q f ⟨_,Je,(I.mono (Fz.sm r).hid).append (Reps.one r1)⟩;exact B Z _ e2 ⟨(Fz.sm r).trans f2,λz=>by cases z⟩
    ·rw [ed] at h;simp only [Rs.bo] at h;split at h
     ·exact h.elim
     ·rename_i g;simp only [nB,not_or,hm,nG] at g;simpa using g.1
   | _=>exact h.elim
def Jwd  (C:Am) (hi:N[i]? = So x) (hx:visB nm x = To) (u:Q8) (q:(x == ("__classdict__" : Str)) = Fo) (hM:Qcz) (B:De) (he:Cf)
  (F:DJ) {f:Pos} (hs:Kj):PS X WR UA:=by
 refine PS.weak (nL (iN nM rW qW JgE (rA (by rw [C.hN]; exact hi) (C.vis x hx) u q) O4 rfl (by rw [hs]; rfl) F hs rfl) rfl) λD Z H h=>?_;obtain ⟨l,hσ,⟨xs,F⟩,h⟩:=Jqg (te:=tH X U p) hM h λO e Q g _=>⟨lC M 0 O,Ow M O Z,e.ows,aZ,by
  rw [qH U O B];exact g.mono (λd I v W s k r=>I v W s (λz=>by cases z) r) λc z=>z.mono Z3⟩
 obtain ⟨O,L,k1,k2,k3⟩:=h;refine ⟨.ref l,hσ,.inl ⟨rfl,xs,SqL.of F⟩,O,L,k1,k2,k3.imp λd I v H1 s1 kk r1=>?_⟩;simp only [tNil];obtain ⟨ys,g1,g2,g3⟩:=I v H1 s1 kk r1;exact ⟨l,ys,v,rfl,rfl,g1,g2,g3⟩
end
inductive gS(X:Cx)(M:Au)(H0:Hp)(ts:Au)(nt:Nat)(v:V)(σ:Bl)(H:Hp)(Q:(L2.St->Hp->Prop)):Prop where
 |mk:∀env d new,EnvOk X.K M H0 H σ env->Rep X.K (hid (Ow M env σ) H) d v->gA nt d=.ok new->(∀σ',EnvOk X.K M H0 H σ' (zA ts new env)->Ow M (zA ts new env) σ'=Ow M env σ->Q σ' H)->gS X M H0 ts nt v σ H Q
section
variable{U:Ag}{z:Str}{l:Nat}{p3:Pos}
def JvK(C:Am)(hi:N[i]? =So x)(hx:locB nm x=To)(f:i∉M):PG X Ck Qah:=by obtain⟨F,h2⟩:=C.sto x hx;rintro Y s Z H v u Q I r⟨O,d,q,e,B,g,h⟩;refine lL (pos:=pos) (i:=i) CU (by rw[C.hN];exact hi) F h2 Y s Z H v u Q I r ?_;simp only[gA,if_true]at g;cases g;exact h _ (e.put f B) (sE f)
def Jxs(C:Am)(hi:N[i]? =So x)(hx:locB nm x=To)(q:i∉M)(hj:N[j]? =So y)(hy:locB nm y=To)(g:j∉M):PG X Ul OH:=by
 obtain⟨h1,h2⟩:=C.sto x hx;obtain⟨h3,h4⟩:=C.sto y hy;rintro Y s Z H v u Q I r⟨O,d,new,e,rd,f,h⟩;refine Jrm (pos:=pos) Yq (oU (lL (i:=i) (pos:=p1) CU (by rw[C.hN];exact hi) h1 h2) (oU (lL (i:=j) (pos:=p2) CU (by rw[C.hN];exact hj) h3 h4) Jnb)) rfl rfl Y s Z H v u Q I r ?_;unfold gA at f;rw[if_neg 'y']at f;cases d with
 |tup J=>
  dsimp only at f;rw[if_neg 'y']at f;split at f
  ·rename_i hd;cases f;obtain⟨a,xs,rfl,hq,hr⟩:=rd;match J,hd with
   |[d0,d1],_=>obtain⟨F,r0,e0,k0,B,r1,e1,k1,e2⟩:=hr;subst e1;subst e2;subst e0;exact⟨a,[F,B],rfl,SqT.same hid_same hq,rfl,F,[B],rfl,B,[],rfl,rfl,h _ ((e.put q k0).put g (by rw[sE q];exact k1)) (by rw[show zA [i,j] ([d0,d1].map So) O=(O.set i (So d0)).set j (So d1)from rfl,sE g,sE q])⟩
  ·cases f
 |_=>cases f
theorem JqO{g:Sx}{ts:Au}{nt:Nat}{D:Ends}{J:GD}{J9:It}(e:EnvOk X.K M H0 H1 Z O)(s1:IV)
  (wk:∀F W,Chg D7 CB H1 F W->Ows F W->(∀i,i<Ae->J9.go i W)/\J9.stop Ae W/\∀i x H'',i<Ae->J9.yld i W x H''->Same W H''/\∃d,J[i]? =So d/\Rep X.K (hid F H'') d x)
  (h:(forL ts nt QaH J O).Good TQ I0):
  ∃W9:Nat->Nat->L2.St->Hp->Prop,(∃m,W9 0 m Z H1)/\∀i m Z H,W9 i m Z H->(J9.stop i H/\D.nx Z H)\/(J9.go i H/\∃Nn:L2.St->Hp->Prop,(∀σ' W,Nn σ' W->∃m',m'<m/\W9 Bw m' σ' W)/\
   ∀x W,J9.yld i H x W->gS X M H0 ts nt x Z W λB I=>tS X U M H0 g {D with nx:=Nn,ct:=Nn,bk:=D.nx} B I):=by
 refine⟨λi m σ' W=>∃u,EnvOk X.K M H0 W σ' u/\Chg D7 CB H1 (Ow M u σ') W/\i<=Ae/\m=Ae-i/\(forL ts nt QaH (J.drop i) u).Good TQ I0,
  ⟨Ae,O,e,Chg.of K5,vB _,rfl,by simpa using h⟩,?_⟩
 rintro i m σ' W⟨u,e',c',hi,rfl,C⟩;obtain⟨w1,w2,w3⟩:=wk _ W c' e'.ows;have cH:∀{F:A9}{Hz:Hp},Chg D7 CB H1 F Hz->Chg D7 CB H F Hz:=λz=>((Chg.of (m:=Fo) s1).trans z).weak λq=>by rw[q];rfl
 by_cases hlt:i<Ae
 ·refine .inr ⟨w1 i hlt,λB I=>∃m',m'<Ae-i/\∃u,EnvOk X.K M H0 I B u/\Chg D7 CB H1 (Ow M u B) I/\i+1<=Ae/\m'=Ae- Bw/\(forL ts nt QaH Lb u).Good TQ I0,λB I q=>q,λx I hy=>?_⟩;obtain⟨s2,d,hd,rd⟩:=w3 i x I hlt hy;rw[JdJ hd]at C;simp only[forL]at C;replace C:=Rs.gB.mp C;cases hb:gA nt d with
  |sk=>rw[hb]at C;exact C.elim
  |ex c=>exact(Jgi hb).elim
  |ok new=>
   rw[hb]at C;refine⟨u,d,new,e'.grow s2,rd,hb,λσ3 e3 ow3=>⟨zA ts new u,e3,(Rs.gB.mp C).imp λr hr=>?_⟩⟩;have c2:Chg D7 CB H1 (Ow M u σ') I:=(c'.trans (n:=Fo) (Chg.of s2)).weak λq=>by rw[q];rfl
   have cc:∀{F:A9}{Hz:Hp},Chg D7 (Ow M (zA ts new u) σ3) I F Hz->Chg D7 CB H1 F Hz:=λz=>by rw[ow3]at z;exact(c2.trans z).weak λq=>by rw[q];rfl
   obtain⟨f,env4⟩:=r;cases f with
   |nx=>exactλσ4 H4 e4 c4=>⟨_,by lia,env4,e4,cc c4,by lia,rfl,hr⟩
   |ct=>exactλσ4 H4 e4 c4=>⟨_,by lia,env4,e4,cc c4,by lia,rfl,hr⟩
   |bk=>exactλσ4 H4 e4 c4=>hr σ4 H4 e4 (cH (cc c4))
   |rt d=>exact hr
 ·have he:i=Ae:=by lia
  subst he;rw[List.drop_length]at C;exact .inl ⟨w2,C σ' W e' (cH c')⟩
variable{iter:Expr}{body:BF}{src:Px}{sb:Sx}{ts:Au}{nt:Nat}
def eZ(C:Am)(hp:TX)(hi:PI X tg iter (tW X U src))(hg:PG X tg (gS X M H0 ts nt))(hb:PSs X body (tS X U M H0 sb))(B:sepP M src=To)
  (hs:∀x,foldedSetIterable iter Ue x=pure x):PS X (.For tg iter body [] pos) (tS X U M H0 (.loop Fo ts nt src sb)):=by
 refine PS.weak (Jss hp Yq (JyA hi) hg hb hs) λD Z H⟨O,e,h⟩=>Uo;rw[qH U O B];refine(Rs.gB.mp h).mono (λd r=>?_) λc z=>z.mono Z3;cases d with
 |lst J=>simp only[Pu.D.asL,Rs.bo,gC,Zl,ZF]at r;refine⟨J,rfl,λJ9 W I kk w ok=>JqO (U:=U) (e.grow I) I (λL' g q ow=>?_) r⟩;have F:Same dA (hid L' g):=q.1.hid;obtain⟨a1,a2,a3⟩:=w g (F.trans hid_same);refine⟨a1,a2,λi x f hi hy=>⟨(a3 i x f hi hy).1,?_⟩⟩;have u:=ok L' i g x f ow hy;exact((w _ F).2.2 i x _ hi u).2
 |_=>exact r.elim
end
def spI(K:Aj)(mg:Bk)(U:Ag)(g:Nat):Sp:=λf H Q E=>∃J,Reps K H J f/\(U g J).Good (λd=>∀v W,Same H W->Rep K W d v->Q v W) (λc=>∀C W,mg c=So BL->Same H W->E BL No W)
theorem Room.out(r:Room k Yz):Room k A:=⟨r.hd,r.dp,by have:=r.un;simp only[Around.in1]at this;lia⟩
inductive Calleee(G:Gw)(call:Ag)(fi:Nat)(x:Str):Prop where
 |mk (kk:Nat) (f:Addr) (fd:FuncData) (ps:List Str) (h:FnOk G.prog G.w G.K G.mg G.base (CXr G.prog G.w) kk f fd ps (spI G.K G.mg call fi)/\Room kk G.A.in1.in1/\G.mg x=So (.ref f)/\PySem.W.keepIn G.K (.ref f)=To/\Binds G.K fd ps []):Calleee G call fi x
structure Callee(G:Gw)(U:Ag)(fi:Nat)(x:Str):Prop where
 ex:Calleee G U fi x
section
variable{U:Ag}{es:CF}{fi:Nat}
def Juz(C:Am)(hc:Callee G U fi x)(hg:gloB nm x=To)(g:Q8)(ha:Ef)(he:CG)
  (hpl:'в' ('ķ'.any (·.1)=Fo) Ai):PE X Ti (tI X U (.call fi p)):=by
 obtain⟨kk,f,fd,ps,F,hr,hm,hk,hb⟩:=hc.ex;have hr:=Room.out hr;have hG:=C.g;subst hG;have hp:Jcf RQ X (λcls _ W=>∀C,cls=.ref C->XE X C W):=λY Z H s e s' I hc=>by obtain⟨a,C,W,rfl,F,hE⟩:=Jgd I hc;exact hE C rfl a s' F
 refine PE.weak (Jos F hr (C.glo x hg) hm hk hb .nil hp ha g he hpl) λZ H Q⟨O,r,h⟩=>Dd;refine(Rs.gB.mp h).imp λd hd=>?_;cases d with
 |lst J=>simp only[D.asL,Rs.bo]at hd;refine⟨J,rfl,λvs W s rs=>?_⟩;show spI X.K X.mg U fi (vs++[]) W Q _;rw[pE];exact⟨J,rs,hd.mono (λd o v u q rv=>o v u (s.trans q) rv) λc z C u B q C' e=>by cases e;exact z C u B (s.trans q)⟩
 |_=>exact hd.elim
end
def JgY{d:D}(h:(JD n J)[i]? =So Bd):J[i]? =So d:=by
 unfold JD at h;by_cases f:i<Ae
 ·rw[qG (by simpa using f),xB]at h;cases q:J[i]? with
  |none=>rw[q]at h;cases h
  |some g=>rw[q]at h;cases h;rfl
 ·rw[rG (by simpa using f),pW]at h;split at h<;>cases h
section
variable{mg:Bk}{base:Heap}{defs:Cg}{fi:Nat}{d:DefD}
theorem xU{vs:Av}(hs:d.slots=XM)(U:Ae<=XM)(F:∀i∈M,Ae<=i)(r:Reps K H J vs):EnvOk K M H H IP Hk:=by
 have l:=XR;have get:∀(i:Nat)(f:D),(JD Yy J)[i]? =So (So f)->∃v,(L2.kC N vs)[i]? =So BO/\Rep K H f v:=λi f h=>by have h':=JgY h;obtain⟨v,u,I⟩:=r.get h';refine⟨v,?_,I⟩;have g:i<AJ:=(Zz.mp u).1;unfold L2.kC;rw[qG (by simpa using g),xB,u];rfl
 have no:∀(i:Nat)(f:D),i∈M->(JD Yy J)[i]? =So (So f)->False:=λi f g h=>by have h':=JgY h;have:=(Zz.mp h').1;have:=F i g;lia
 have C:Ow M Hk IP=[]:=by
  cases q:Ow M Hk (L2.kC N vs)with
  |nil=>rfl
  |cons b t=>obtain⟨i,g,f,u,_⟩:=mem_Ow.mp (show b∈Ow M Hk IP by rw[q];simp);exact(no i f g u).elim
 refine⟨Same.refl H,?_,λi f _ h=>by rw[C,JE];exact get i f h,λi f g h=>(no i f g h).elim,λi j l B d2 g _ _ h=>(no i B g h).elim⟩;unfold L2.kC JD;rw[Zn,Zn,Zi,Zi,vJ,vJ,hs,l]
structure HX(X:Cx)(nm:Bj):Prop where
 sc:X.env.scope.names=nm
 pass:PassesOwn AD X.A Ue X.xe
 stk:X.stack=Ue::X.outer
 frm:X.env.frame=So A5
 ex:X.ex=[]
theorem Jxn{qual:Str}{f:Addr}{fd:BG}{ps:Ac}(F:E0)(S:Lh)(hd:defs[fi]? =So d)(hs:d.slots=XM)(hp:d.params=Ao)(hM:∀i∈M,Ao<=i)(hpN:Ao<=XM)
  (B:∀(X:Cx)(A:Bv)(H0:Hp),Ctx X AM N 'Ɯ'.names->Room j A->HX X 'Ɯ'.names->PSs X Ew (tS X CC M H0 Yj)):
  FnOk P w K mg base A0 (j+1) f fd ps (spI K mg RO fi):=by
 have U:∀J,runD defs AZ fi J=if Ae=aA then Jf (exD CC Yj Hk)else .sk:=λJ=>by
  simp only[runD,hd]
 obtain⟨oc,od,kV,doc,pm,an,cdv,ct,osl,rfl,lk,hcd⟩:=F.ex
 refine jK lk hcd S (λvs H Q E h=>?_) (λA I s H vs Q E hr h=>?_)
 ·obtain⟨J,r,g⟩:=h
  rw[U]at g
  split at g
  ·rename_i q
   rw[r.length,q,hp]
  ·exact g.elim
 ·obtain⟨J,r,g⟩:=h
  rw[U]at g
  split at g
  ·rename_i q
   have C:Ctx (cxOf A0 P w K mg base N qual Us f cdv A I s H E) ⟨P,w,K,mg,base,A.deeper (envOfC qual Us Aa f cdv)⟩ N 'Ɯ'.names:={
    g:=rfl
    hN:=rfl
    nd:=S.nd
    vis:=λy u=>by
     show Vis Us y
     unfold visB at u
     split at u
     ·rename_i z;exact .inl z
     ·rename_i z;exact .inr Y7
     ·rename_i z;exact .inr bJ
     ·cases u
    cel:=λy u=>by
     show(Ja st).names.lookup y=So .cell\/(Ja st).names.lookup y=So .free
     unfold celB at u
     split at u
     ·rename_i z;exact .inl z
     ·rename_i z;exact .inr z
     ·cases u
    glo:=λy u=>by
     show(Ja st).names.lookup y=So .globalImplicit
     unfold gloB at u
     split at u
     ·rename_i z;exact z
     ·cases u
    sto:=λy u=>by
     show Loc Us y/\(To=To\/_)
     unfold locB at u
     split at u
     ·rename_i z;exact Os
     ·rename_i z;exact Oq
     ·cases u
    calm:=rfl
    un:=hr.units
    fr:=Pe}
   refine⟨_,B _ _ H C hr Lv,JD Yy J,xU hs Af (λi hi=>by have:=hM i hi;lia) r,?_⟩
   cases q2:exD CC Yj (JD Yy J)with
   |ok r2=>
    rw[q2]at g
    obtain⟨fl,env2⟩:=r2
    cases fl with
    |nx=>exactλσ' W e' _=>g .non W e'.same rfl
    |rt dd=>exactλv W s' r'=>g v W s' r'
    |bk=>exact g.elim
    |ct=>exact g.elim
   |ex c=>
    rw[q2]at g
    exactλC2 H2 hm s2 a s' F=>mO F (g C2 H2 hm s2)
   |sk=>rw[q2]at g;exact g.elim
  ·exact g.elim
def JnA{f:Addr}{fd:BG}{ps:Ac}:FnOk P w K mg base A0 0 f fd ps (spI K mg (runD defs 0) fi):=
 ⟨λr H Q E⟨_,_,h⟩=>h.elim,λA g s H q u r Q E _ _ _ _⟨_,_,h⟩=>h.elim⟩
end
section
variable{U:Ag}
open PySem.AutoSeq1 in
def JkU(t:Bool)(l:Addr)(items:B6)(n:Nat)(b:Addr)(f:B6)(I:¬(!items.isEmpty&&Builtin.List.listTooLong (Aw+f.size))=To)(r:Aw<=sizeLine)(C:Aw+f.size<=sizeLine+1):
  Meets (Builtin.«list.extend» PQ) (λ_ R s=>s.heap.get? l=So {cls:=.type "list",dict:=No,data:=.seq items n,slots:=#[]}/\(∃F n2 sl,s.heap.get? b=So {cls:=.type (if t then "tuple" else "list"),dict:=F,data:=.seq f n2,slots:=sl})/\R (.ok (.ret XH)) {s with heap:=s.heap.update l (Obj.mapSeq λx=>x++f),toks:=XF}):=
 .of_wp λprog w A R s h=>by
  obtain⟨hp,g,d,tk,os⟩:=s;obtain⟨u,⟨F,n2,sl,B⟩,h⟩:=h;have f1:=QcQ;have f2:=dU;have f3:=eJ;have f4:=eD;have f5:=eE
  have q:(items++f).size<=sizeLine+1:=by rw[Array.size_append];exact C
  cases t with
  |true=>
   simp only[if_true]at B
   wp_walk using(pJ u rfl (hz:=r) (_hz':=q)),gI u,gI B;exact FX
  |false=>
   simp only[Zl,ZF]at B
   wp_walk using(pJ u rfl (hz:=r) (_hz':=q)),gI u,gI B;exact FX
def rExtS (K:Aj):V->List V->Hp->VK->Prop:=λx g H Q=>∃l b xs f,x=.ref l/\g=[.ref b]/\H l=So AA/\(SqL K H b f\/SqT K H b f)/\xs.length+f.length<=sizeLine/\Q .non (upd H l (.lst (xs++f)))
theorem JtF:MtM X "list.extend" (rExtS X.K):=by
 intro Y s Z H x vs v us Q I rx rv h;obtain⟨l,b,xs,zs,rfl,rfl,hH,hB,hz,q⟩:=h;cases rx;obtain⟨u,rfl,ru⟩:=rv.one;cases ru;obtain⟨z,its,n,r,hl,e⟩:=I.lstM hH;obtain⟨t,its2,g,hb⟩:∃(t:Bool)(its2:AE),Vals zs its2/\∃dd n2 sl,s.heap.get? b=So {cls:=.type (if t then "tuple" else "list"),dict:=dd,data:=.seq its2.toArray n2,slots:=sl}:=by
  rcases hB with h|h
  ·obtain⟨its2,g,⟨o,n2,e2,B,d2,C⟩,_⟩:=I.list h;obtain⟨c,dd,da,sl⟩:=o;simp only at B C;subst B;subst C;exact⟨Fo,its2,g,dd,n2,sl,e2⟩
  ·obtain⟨its2,g,⟨o,e2,B,n2,C⟩,_⟩:=I.tuple h;obtain⟨c,dd,da,sl⟩:=o;simp only at B C;subst B;subst C;exact⟨To,its2,g,dd,n2,sl,e2⟩
 have hl2:=Ya;have hsz:CL+EY<=sizeLine:=by rw[Zo,Zo];lia
 have f:¬(!its.toArray.isEmpty&&Builtin.List.listTooLong (CL+EY))=To:=by rw[JpJ hsz,lM];exact ZH
 refine fB F.slot_list_extend K1 F.entry_list_extend (F.args_list_extend_2 _ _)
  (JkU t l AF n b its2.toArray f (by rw[Zo];lia) Af) ⟨e,hb,?_⟩
 refine⟨.non,_,I.lset (its':=its++its2) hH e Ad (r.append g) ?_,rfl,q⟩;rw[Zn];lia
def Jpv  (hM:Qcz) {D:Ends}   (h:tS X U M H0 (.ext m i p) D Z H) :
  ∃ O l xs,EnvOk X.K M H0 H Z O /\ Z[i]? = So Cy /\ H l = So AA /\ 'ǉ'.Good (λd=>∃ es,d = .lst es /\ (m = To -> imms es = To) /\ ∀ f H1,Same H H1 -> Reps X.K Io es f -> ∃ ys,H1 l = So FP /\ By + f.length <= sizeLine /\ D.nx Z (upd H1 l (.lst (ys ++ f)))) I0:=by
 obtain ⟨O,e,h⟩:=h;simp only [exD] at h;cases q:O[i]? with
 | none=>rw [q] at h; exact h.elim
 | some o=>
  rw [q] at h;cases o with
  | none=>exact h.elim
  | some d=>
   cases d with
   | lst J=>
    obtain ⟨l,r,h0,xs,I,F⟩:=e.own i _ hM q;refine ⟨O,l,xs,e,r,I,'ħ'.imp λd g=>?_⟩;cases d with
    | lst es=>
     simp only [Pu.D.asL,Rs.bo] at g;split at g
     ·exact g.elim
     ·rename_i C;simp only [nB,not_or,yP,Bool.and_eq_false_iff] at C;have B:Ae + es.length <= lD:=by simpa using C.2
      refine ⟨es,rfl,λhm=>?_,λf H1 u r1=>⟨xs,u _ _ I,by rw [F.length,r1.length,ZG]; exact B,?_⟩⟩
      ·rcases C.1 with z | z
       ·rw [hm] at z; cases z
       ·simpa using z
      ·obtain ⟨e2,f2⟩:=(e.grow u).change (d':=.lst (J ++ es)) (o:=.lst (xs ++ f)) hM q r ⟨_,Je,(F.mono (Fz.sm u).hid).append r1⟩;exact g Z _ e2 ⟨(Fz.sm u).trans f2,λz=>by cases z⟩
    | _=>exact g.elim
   | _=>exact h.elim
def Jwl  (C:Am) (hi:N[i]? = So x) (hx:visB nm x = To) (hd1:Q8) (I:(x == ("__classdict__" : Str)) = Fo) (hM:Qcz) (hsp:De) (he:Cf)
  (hl:DJ) {r:Pos} (hs:Kj):PS X (.Expr Wz r) UX:=by
 refine PS.weak (nL (iN nM PySem.F.slot_list_extend PySem.F.type_list_extend JtF (rA (by rw [C.hN]; exact hi) (C.vis x hx) hd1 I) O4 rfl (by rw [hs]; rfl) hl hs rfl) rfl) λD Z H h=>?_;obtain ⟨O,l,xs,e,hσ,hl,g⟩:=Jpv hM h;simp only [evD,Rs.bind_assoc] at g;refine ⟨.ref l,hσ,.inl ⟨rfl,xs,SqL.of hl⟩,lC M 0 O,Ow M O Z,e.ows,aZ,?_⟩;rw [qH U O hsp];refine (Rs.gB.mp g).mono (λd f v H1 s1 kk r1=>?_) λc z=>z.mono Z3;simp only [tNil];cases d with
 | tup es=>obtain ⟨es',F,_,f⟩:=f;cases F;obtain ⟨b,q,rfl,u,q2⟩:=r1;obtain ⟨B,g1,g2,g3⟩:=f q H1 s1 q2;exact ⟨l,b,B,q,rfl,rfl,g1,.inr (SqT.same hid_same u),g2,g3⟩
 | lst es=>obtain ⟨es',F,_,f⟩:=f;cases F;obtain ⟨b,q,rfl,u,q2⟩:=r1;obtain ⟨B,g1,g2,g3⟩:=f q H1 s1 q2;exact ⟨l,b,B,q,rfl,rfl,g1,.inl (hid_same.seq u),g2,g3⟩
 | _=>exact (show False from f).elim
end
noncomputable def vK:D->String
 |.non=>"NoneType"
 |.bl _=>"bool"
 |.int _=>"int"
 |.str _=>"str"
 |.tup _=>"tuple"
 |.lst _=>"list"
 |_=>""
def Jpz{Q:Ay}{c:An}{k:Bool}{d:D}{x:V}{u:An}(I:BU)(r:Rep X.K H d x)(f:RelV x u)(F:vK d≠"")
  (e:PySem.W.kitOne X.K Qce c=So k) (h:∀U,Q (.bool k) {s with toks:=U}):wpAny AD A (PySem.call Qk [u,c]) Q E s:=by
 cases d with
 |non=>cases r;cases(show u=XH from f);exact oJ PySem.W.kitx_none YG ZT e (λz=>nomatch z) h
 |bl y=>cases r;cases(show u=Value.bool y from f);exact oJ PySem.W.kitx_bool YG ZT e (λz=>nomatch z) h
 |int i=>cases r;obtain⟨t,rfl⟩:=f;exact oJ PySem.W.kitx_int YG ZT e (λz=>nomatch z) h
 |str y=>cases r;obtain⟨t,rfl⟩:=f;exact oJ PySem.W.kitx_str YG ZT e (λz=>nomatch z) h
 |tup J=>obtain⟨a,xs,rfl,g,_⟩:=r;cases(show u=Value.ref a from f);obtain⟨B,_,p,_⟩:=I.tuple g;obtain⟨o,q,C,_⟩:=p;exact oJ PySem.W.kitx_tuple YG ⟨o,q,C⟩ e (λz=>nomatch z) h
 |lst J=>obtain⟨a,xs,rfl,g,_⟩:=r;cases(show u=Value.ref a from f);obtain⟨B,_,p,_⟩:=I.list g;obtain⟨o,q,C,_⟩:=YE;exact oJ PySem.W.kitx_list YG ⟨o,q,C⟩ e (λz=>nomatch z) h
 |_=>exact absurd rfl F
example (K:Aj):PySem.W.kitOne K (.type "str") MT=So Fo:=by
 first|rfl|decide|(unfold PySem.W.kitOne PySem.W.kitCls;simp)
section
variable{U:Ag}{a b:Expr}
def yQ(o:O1)(T:Bg):Prop:=∀(K:Aj)(d:D),(vK d≠""/\∃k,PySem.W.kitOne K Qce EK=So k/\op1 o d=.ok (.bl k))\/op1 o d=.sk
def Jnc:yQ .isStr "str":=λK d=>by cases d<;>first|exact .inl ⟨by simp[vK],_,by rfl,by rfl⟩|exact .inr rfl
def JuG:yQ .isTup "tuple":=λK d=>by cases d<;>first|exact .inl ⟨by simp[vK],_,by rfl,by rfl⟩|exact .inr rfl
def JvC{T:Bg}(hi:yQ o T):oA X Qk (λxs H Q=>∃x d,xs=[x,.ty T]/\Rep X.K H d x/\(op1 o d).Good Ct Az):=by
 rintro Y s Z H xs us Q I B⟨x,d,e,r,h⟩;subst e;obtain⟨u1,f,rfl,r1,C⟩:=JxS B;cases(show f=Value.type T from C);rcases hi X.K d with⟨g,k,u,e2⟩|e;rotate_left
 ·rw[e]at h;exact h.elim
 rw[e2]at h;exact Jpz I r r1 g u λF=>⟨.bl k,H,I.kept (t':=F) (λ_ _ q=>q),rfl,Out.now h rfl⟩
def cIsi{T:Bg}(hi:yQ o T)(C:Am)(I:G.mg "isinstance"=No)(hy:G.mg y=No)(hv:bootBuiltins y=So EK)(B:AO)(hg:gloB nm "isinstance"=To)(g:gloB nm y=To)(hn:y≠"__name__")(f:(y==("__debug__":Str))=Fo)
  (hs:starEach [a,.Name y p2] Ue=HR::starEach [.Name y p2] Ue):PE X (.Call (.Name "isinstance" p1) [a,.Name y p2] [] pos) SW:=by refine PE.weak (zT (JvC hi) ER (by rw[C.mg];exact I) PyProof.Rows.boot_isinstance (JO B (JO (JuZ (v:=.ty T) (C.glo _ g) (by rw[C.mg];exact hy) hv rfl hn f) jD rfl) hs) Ab Ab hs rfl) λZ H Q u=>?_;obtain⟨O,r,h⟩:=u;refine⟨O,r,'ħ'.imp λd hd v W s F=>?_⟩;exact⟨v,d,rfl,F,hd.mono OI λ_ q=>q.mono s⟩
def yM{a:Addr}(f:ModT K y a){its:AE}{sl:Ed}(v:K.lookup a=So ⟨.type "tuple",No,.seq AF n,sl⟩)(hz:B0<=1000)(r:G0)(rs:∀H,Reps K H J xs)(H:Hp):Rep K H Gz Ar:=
 ⟨a,xs,rfl,.inr ⟨y,_,AF,n,f,v,rfl,rfl,rfl,gJ (Zq (by simpa using hz) AB),by simpa using r⟩,rs H⟩
end
noncomputable def nH (es:List (Int×Value)):List Str:=es.map λe=>strOf e.2
def TS(prog:Ba)(w:AQ)(lb:Bool)(h:Heap)(a:Addr)(ks:Ac):Prop:=
 ∃o es ep t,(h.get? a=So o/\o.ExactSet/\o.data=.set es ep t)/\ElemsOf 'ú' YK/\(t.fits XG=To/\es.size<scanBound)/\t.led=lb/\(es.size≠0->t.plain=Fo)/\(nH YK).Perm ks/\ks.Nodup
def TS.stay(x:Qax)(k:∀o,h.get? a=So o->h'.get? a=So o):TS prog w lb h' a ks:=
 let⟨o,es,ep,t,⟨e,f⟩,g⟩:=x
 ⟨o,es,ep,t,⟨k o e,f⟩,g⟩
def TS.there(x:Qax):∃o,h.get? a=So o:=let⟨o,_,_,_,⟨e,_⟩,_⟩:=x;⟨o,e⟩
def Job(t:EA)(n:Nat):(t.orStandIn n).led=t.led:=by unfold SetTable.orStandIn;split<;>rfl
def JuB(t:EA)(es:Kx)(h:Int)(x:An):(layNew t es h x).2.1.led=t.led:=by
 unfold layNew;split
 ·exact Job ..
 ·rfl
def JlI(t:EA)(es:Kx)(n:Nat):(relayAll t es n).2.1.led=t.led/\(t.plain=Fo->(relayAll t es n).2.1.plain=Fo):=by
 unfold relayAll;split
 ·rename_i r f q;have e:r.led=t.led/\r.plain=t.plain:=by
   unfold SetTable.relaid SetTable.laid at q;cases g:SetTable.layClean (SetTable.sizeAbove n-1) (es.map (·.1))with
   |none=>rw[g]at q;cases q
   |some u=>rw[g]at q;cases q;exact Cv
  dsimp only;split
  ·exact⟨e.1,λz=>e.2.trans z⟩
  ·exact NQ
 ·exact NQ
def eY{k:Str}{v:An}(h:'ú'.is k v=To):∃t,v=.str k t:=Value.isStrOf_shape h
def key_of{es:List (Int×Value)}(h:ElemsOf 'ú' es)(k:Str):k∈nH es↔∃e∈es,'ú'.is k e.2=To:=by
 unfold nH;rw[Zv];constructor
 ·rintro⟨e,g,rfl⟩;obtain⟨⟨r,f,_⟩,_⟩:=h e g;obtain⟨t,q⟩:=eY f;refine⟨e,g,?_⟩;rw[q]at f⊢;exact f
 ·rintro⟨e,g,f⟩;obtain⟨t,q⟩:=eY f;exact⟨e,g,by rw[q];rfl⟩
def JjZ{o:Obj}{f:Kx}{t t':EA}(ho:s.heap.get? a=So o)(u:o.ExactSet)(r:o.data=.set es ep t)
  (h1:ElemsOf 'ú' f.toList) (h2:t'.fits f.size=To) (I:f.size<scanBound) (F:t'.led=lb) (B:t'.plain=Fo) (C:(nH f.toList).Perm ks) (U:ks.Nodup):
  TS prog w lb '乩' a ks/\(s.heap.update a TV).get? a=So {o with data:=.set f (ep+1) t'}:=by
 have g:'乩'.get? a=So {o with data:=.set f (ep+1) t'}:=by have q:=ZX TV ho (by rw[putSet_of f t' r];rfl);rwa[putSet_of f t' r]at q
 exact⟨⟨_,f,ep+1,t',⟨g,u,rfl⟩,h1,⟨h2,I⟩,F,λ_=>B,C,U⟩,g⟩
def JnC{b:Bool}{Q:Dm}(h:Q () s):wpAny As A (match b with|true=>rule "set.scan.the-table-gave-way"|false=>pure ()) Q E s:=by
 cases b
 ·exact Zb h
 ·exact kB h
theorem Jxj{tk:Tok}{Q:E5}(hS:TS prog w lb VU a ks)(hb:AC+1<scanBound)
  (h:∀b h',Heap.SameBut a VU h'->TS prog w lb h' a (if x∈ks then ks else ks++[x])->Q b {s with heap:=h'}):wpAny As A (setAddHashed a FU (hashStr w x)) Q E s:=by
 obtain⟨o,es,ep,t,⟨ho,hx,hd⟩,f,⟨hf,hz⟩,hl,hp,hk,hn⟩:=hS;have hlen:es.size=AC:=by have:=hk.length_eq;simpa[nH]using this
 have F:'ú'.is x FU=To:=by simp[PySem.strKind,Value.isStrOf]
 have B:x∈ks↔∃e∈es.toList,'ú'.is x e.2=To:=(hk.mem_iff).symm.trans (key_of f x);have hh:hashStr w x='ú'.hash x:=rfl;rw[hh];unfold setAddHashed setAddHashedIn;refine wA (Za (yJ ho hd hf ?_));dsimp only;rw[byScan_of rfl hz f];simp only[if_true];unfold setAddByScan;refine Za (Za (kB (Za (wpAny_setScan_of F ho hd hf f ?_))));cases hr:List.findIdx? (λe=>'ú'.is x e.2) YK with
 |some j=>dsimp only;obtain⟨hj,hpj,_⟩:=List.findIdx?_eq_some_iff_getElem.mp hr;have g:x∈ks:=B.mpr ⟨_,zP hj,hpj⟩;refine Zb (Zb ?_);have q:=h Fo VU (Heap.SameBut.refl a VU) (by rw[if_pos g];exact⟨o,es,ep,t,⟨ho,hx,hd⟩,f,⟨hf,hz⟩,hl,hp,hk,hn⟩);cases s;exact q
 |none=>
  dsimp only;have g:¬x∈ks:=λz=>by obtain⟨e,he,hp⟩:=B.mp z;have:=List.findIdx?_eq_none_iff.mp hr e he;rw[hp]at this;cases this
  rw[if_neg g]at h;have a1:=layNew_perm t es ('ú'.hash x) FU;have a2:=layNew_fits t es ('ú'.hash x) FU;have a3:=JuB t es ('ú'.hash x) FU;generalize layNew t es ('ú'.hash x) FU=L at a1 a2 a3⊢;obtain⟨es1,t1,wd,gv⟩:=L;dsimp only at a1 a2 a3⊢;rw[Array.toList_push]at a1;have b1:ElemsOf 'ú' es1.toList:=(f.push F rfl).perm a1;have b2:(nH es1.toList).Perm (ks++[x]):=by have c1:=a1.map λe:Int×Value=>strOf e.2;rw[ZW]at c1;exact c1.trans (hk.append_right [x])
  have b3:(ks++[x]).Nodup:=by rw[wH];refine⟨hn,by simp,λu hu v hv e=>?_⟩;rw[yB]at hv;subst hv e;exact g hu
  have b4:es1.size<scanBound:=by have:=b2.length_eq;simp only[nH,Zi,ZQ,Zn,uG]at this;lia
  refine Za (JnC ?_);have C:∀t2:SetTable,t2.led=lb->t2.plain=Fo->t2.fits es1.size=To->wpAny As A (do
    storeSet a es1 t2;if(!wd&&t2.tooFull)=To then do
      (match(relayAll t2 es1 F4).2.2 with|true=>rule "set.scan.the-table-gave-way"|false=>pure ());storeSet a (relayAll t2 es1 F4).1 (relayAll t2 es1 F4).2.1;pure (So To)
     else pure (So To)) (λr s'=>wpAny As A (match r with
      |some I=>pure I
      |none=>setAddHashedIn a FU ('ú'.hash x) 99999) Q E s') E s:=by
   intro t2 c1 c2 c3;refine Za (wpAny_storeSet_of ho hd ?_ (fits_of_scanBound b4));obtain⟨T1,g1⟩:=JjZ (s:=s) ho hx hd b1 c3 b4 c1 c2 b2 b3;have u1:=uF VU a (Obj.putSet es1 t2);split
   ·have U:=relayAll_perm t2 es1 F4
    have d2:=relayAll_fits t2 es1 F4;have d3:=JlI t2 es1 F4;generalize relayAll t2 es1 F4=R at U d2 d3⊢;obtain⟨es2,t3,gv2⟩:=R;dsimp only at U d2 d3⊢;refine Za (JnC ?_);have z2:es2.size=es1.size:=by simpa using U.length_eq
    refine Za (wpAny_storeSet_of g1 rfl ?_ (fits_of_scanBound (by rw[z2];exact b4)));obtain⟨T2,_⟩:=JjZ (s:={s with heap:=s.heap.update a (Obj.putSet es1 t2)}) g1 hx rfl (b1.perm U) d2 (by rw[z2];exact b4) (d3.1.trans c1) (d3.2 c2) ((U.map _).trans b2) b3;exact Zb (Zb (h To _ (u1.trans (uF _ a _)) T2))
   ·exact Zb (Zb (h To _ u1 T1))
  split
  ·refine Za ?_;rw[hashByValue_scannable 8 (x:=.str x tk) rfl];refine Zb ?_;exact C _ QdM rfl (SetTable.fits_plain_off a2)
  ·rename_i np;refine Za (Zb ?_);simp only[if_true];exact C _ QdM (by simpa using np) a2
noncomputable def addS (ks:Ac) (x:Str):List Str:=if x∈ks then ks else ks++[x]
def metS (ws:Ac):List Str:=ws.foldl addS []
def JoG(ws:Ac)(x:Str):metS (ws++[x])=addS 'Ш' x:=by unfold metS;rw[fQ];rfl
def Jne(val:Nat->Str)(i:Nat):metS ((List.range Bw).map val)=addS (metS ('Ϙ'.map val)) Qas:=by rw[List.range_succ,ZW];exact JoG _ _
def JqH(ws:Ac):∀(ks:Ac)(k:Str),k∈ws.foldl addS ks↔k∈ks\/k∈ws:=by
 induction ws with
 |nil=>intro ks k;simp
 |cons x ws f=>
  intro ks k;rw[jG,f];unfold addS;split
  ·rename_i h;constructor
   ·rintro(z|z)<;>simp[z]
   ·rintro(z|z)
    ·exact .inl z
    ·rcases Zf.mp z with rfl|z
     ·exact .inl h
     ·exact .inr z
  ·simp[or_assoc]
def Jjs(ws:Ac)(k:Str):k∈metS ws↔k∈ws:=by rw[metS,JqH];simp
theorem Jqk(ws:Ac):∀ks:List Str,'仨'.length<=AC+AY:=by
 induction ws with
 |nil=>intro ks;simp
 |cons x ws f=>
  intro ks;rw[jG];have:=f (addS ks x);have g:(addS ks x).length<=AC+1:=by unfold addS;split<;>simp
  simp only[Zk];lia
def JfH(ws:Ac):'Ш'.length<=AY:=by have:=Jqk ws [];simpa[metS]using this
section
variable{R:Ks}{I:Addr}{fp wr:A9}{G:Array GenState->Array GenState->Prop}{P:Nat->Value->Prop}{St:Nat->Shared->Prop}
theorem Jvk(B:WalksS prog w XU I fp wr G n P St)(S:Addr)(hSf:S∉fp)(val:Nat->Str)(hval:∀i v,P i v->∃t,v=.str Qas t)(u:n+1<scanBound):
  ∀(k i:Nat)(s:Al),n-i=k->i<=n->St i s->TS prog w lb VU S (metS ('Ϙ'.map val))->
   (∀g,Moved (S::wr) G s g->TS prog w lb g.heap S (metS ('ϕ'.map val))->R Od g)->codeAny As A (.builtin "set.update.loop" ⟨[.ref S,.ref I],[]⟩) R s:=by
 have f:S∉wr:=λh=>hSf (B.sub _ h);have q:∀b∈wr,b∈S::wr:=λb u=>Zm _ u;intro k;induction k with
 |zero=>
  intro i s hk hi r hS hR;obtain rfl:i=n:=by lia
  refine qF eF ?_;rw[vF nW _];show wpAny _ XU (pyNext (.ref I)>>=_) _ _ s;refine Za (B.done s _ _ r λg hm=>?_);show wpAny _ XU (ret XH) _ _ g;exact Zb (hR g (hm.mono q) (hS.stay λo e=>hm.heap S o f e))
 |succ k ih=>
  intro i s hk hi r hS hR;have hlt:i<n:=by lia
  refine qF eF ?_;rw[vF nW _];show wpAny _ XU (pyNext (.ref I)>>=_) _ _ s;refine Za (B.item i s _ _ hlt r λv g hP U hm=>?_);obtain⟨t,rfl⟩:=hval i v hP;have hS':=hS.stay λo e=>hm.heap S o f e;show wpAny _ XU (holding [Value.str Qas t] (setAdd S (.str Qas t))>>=_) _ _ g;refine Za (wA ?_);unfold setAdd;refine wA (Za ('ú'.pyHash (k:=val i) (by simp[PySem.strKind,Value.isStrOf]) ?_));have room:(metS ('Ϙ'.map val)).length+1<scanBound:=by have:=JfH ('Ϙ'.map val);simp only[Zi,xH]at this;lia
  refine Jxj (s:={g with toks:=g.toks+1}) hS' room λ_ h' hsb hS2=>?_;have hSi:TS prog w lb h' S (metS ((List.range Bw).map val)):=by rw[Jne];exact hS2
  refine Zb ⟨jF nW _,ih Bw _ Af hlt (B.frame _ g _ _ U (mC _) λb u o e=>?_) hSi λs'' hm'' C=>?_⟩
  ·rw[hsb.2 b (λh:b=S=>hSf (by rw[<-h];exact u))];exact e
  ·refine hR s'' (Moved.trans B.gtrans ((hm.mono q).then_heap (mC _) λb o u e=>?_) hm'') C;rw[hsb.2 b (λh:b=S=>u (by rw[h];exact fC))];exact e
end
noncomputable abbrev byT (w:AQ):Bool:=w.params.followText "set-order"
noncomputable abbrev newS (w:AQ):Obj:={cls:=.type "set",dict:=No,data:=.set #[] 0 (.fresh 0 0 (!byT w))}
def JsW(a:An){Q:Ay}(h:Q Fi {s with heap:=s.heap.push (newS w)}):codeAny As A (.call (.builtin "set.__new__") Tq) (wants Q E) s:=by refine codeAny_of_tree ?_;show wpAny _ XU (do checkBuiltinCall "set.__new__" Tq;again (.builtin "set.__new__" Tq)) _ _ s;refine Za (wpAny_of_eq (F.newCall_set_1 a) (Zb ⟨jF F.plain_set_new _,qF F.entry_set_new ?_⟩));rw[vF F.plain_set_new _];unfold Builtin.«set.__new__» Builtin.Frozenset.newClass;have sub:=sub_set_self;obtain⟨f,g,d,q,r⟩:=s;dsimp only;wp_walk;refine wJ (Zb ?_);dsimp only;simp only[newObj];refine Za (wpAny_alloc (Zb (Zb h)))
def Jmd{ws:Ac}{Q:Ay}(hh:Bh)(hl:Ov)(hi:StrsAre items.toList ws)(hb:Aw+1<scanBound)
  (h:∀(h':Heap)(tk:Nat),TS prog w (!byT w) h' Aa (metS ws)->(∀b o,b<Aa->s.heap.get? b=So o->h'.get? b=So o)->Q Fi {s with heap:=h',toks:=tk}):
  wpAny As A (call IM [.ref l]) Q E s:=by
 obtain⟨c,tl,hmro⟩:=F.called_set.mro;have hmade:=F.called_set.made;have hsub:=F.called_set.sub;refine wpAny_call (codeAny_of_tree ?_);show wpAny _ _ (callAny IM _) _ _ _;refine Zb ⟨Code.quiet_builtin _ Ab,qF F.entry_type_call ?_⟩;rw[Around.under_plain (weight_type_call_type "set" [.ref l] []) rfl];have h1:=F.called_set.notType;have h2:=F.called_set.canCreate;have hct:=F.typeCall_set_1 BH;repeat(any_goals(first|assumption|wp_step))
 refine mG (JsW BH (E:=E) (Q:=λobj B=>obj=.ref Aa/\B={s with heap:=s.heap.push (newS w)}) Cv) λr B hr=>?_;cases r with
 |error e=>exact hr
 |ok fl=>
  cases fl with
  |ret obj=>
   obtain⟨rfl,rfl⟩:=hr;have hS:'ȏ'.get? Aa=So Qc1:=Ze _ rfl;have hT:Shared.TypeIs {s with heap:=s.heap.push (newS w)} '.' "set":=⟨_,hS,rfl⟩;have hli:=F.called_set.init.lookup;have hbi:=F.called_set.init.bind Fi;repeat(any_goals(first|assumption|wp_step))
   refine mG (codeAny_call_builtin (R:=wants (λr C=>r=.none/\∃h' tk,C={s with heap:=h',toks:=tk}/\TS prog w (!byT w) h' Aa (metS ws)/\
     (∀b o,b<Aa->s.heap.get? b=So o->h'.get? b=So o)) E) F.called_set.init.plain F.entry_set_init (check_set_init_1 hT ?_)) λr₂ C f=>?_
   ·obtain⟨ol,hol,hcl,nl,hdl⟩:=hl;obtain⟨ocls,U,odata,u⟩:=ol;simp only at hcl hdl;subst hcl;subst hdl;have hol':'ȏ'.get? l=So {cls:=.type "list",dict:=U,data:=.seq items nl,slots:=u}:=Zd _ hol;have hsls:=F.sub_list_set;have hslf:=F.sub_list_frozenset;have hne:(Value.type "list"==Value.type "dict")=Fo:=by decide
    have hl1:'ȏ'.IsList l items:=⟨_,hol',rfl,nl,rfl⟩;unfold Builtin.«set.__init__» noKeywords Builtin.Frozenset.updateFrom;generalize hPI:pyIter=PI;wp_walk;subst hPI;refine zJ hl1 (Za (wpAny_runValue ?_));have hlS:l<Aa:=Zj hol;have hh3:A.in1.in1.in1.handled=No:=by simp[hh]
    have hneI:l≠(s.heap.push Qc1).objs.size:=by rw[ZL];exact Zu (wB hlS)
    have hSf:Aa∉['ȏ'.objs.size,l]:=by rw[ZL];simp only[Zf,Zy,fA,not_or];exact⟨Zu Y1,rC hlS⟩
    have hlen:Aw=AY:=by have:=hi.strs;rw[<-this];simp
    have hval:∀(i:Nat)(v:An),items[i]? =So v->∃t,v=.str ((λi=>ws.getD i ⟨#[]⟩) i) t:=λi v hv=>by
     have hv':items.toList[i]? =So v:=by rw[kI];exact hv
     obtain⟨x,t,e⟩:=hi.all v (uM hv');have q:=kA (λl:List Str=>l[i]?) hi.strs;simp only[xB,hv',Option.map_some]at q;refine⟨t,?_⟩;rw[e]at q⊢;simp only[pM,<-q];rfl
    have hws:(List.range Aw).map (λi=>ws.getD i ⟨#[]⟩)=ws:=by rw[hlen];refine List.ext_getElem Ad λi h1 h2=>?_;simp[pM,h2]
    refine Jvk (lb:=!byT w) ((Walks.list hh3 _ l hneI items).toS) Aa hSf (λi=>ws.getD i ⟨#[]⟩) hval hb (Aw-0) 0 _ Af Xs ⟨CP,(hl1.push _)⟩ ?hS0 ?hR;case hS0=>
     refine⟨newS w,#[],0,.fresh 0 0 (!byT w),⟨Zd _ hS,Hv,rfl⟩,λe he=>by simp at he,⟨rfl,by decide⟩,rfl,λz=>absurd rfl z,fP _,aP⟩
    case hR=>
     intro s' hm g;rw[hws]at g;obtain⟨h',g',d',tk',os'⟩:=s';have eg:g'=s.gens:=hm.gens;have ed:d'=s.drawn:=hm.drawn;have eo:os'=s.os:=hm.os;subst eg;subst ed;subst eo;show wpAny _ _ _ _ _ _;refine Zb ?_;show wpAny _ _ (ret XH) _ _ _;refine Zb ⟨rfl,h',tk',rfl,g,λb o hb e=>?_⟩;have hb1:b≠Aa:=Zu hb;have hb2:b≠(s.heap.push Qc1).objs.size:=by rw[ZL];exact Zu (wB hb)
     exact hm.heap b o (by simp only[Zf,Zy,fA,not_or];exact⟨hb1,hb2⟩) (Zd _ EG)
   ·cases r₂ with
    |error e=>exact f
    |ok I=>
     cases I with
     |ret r=>
      obtain⟨rfl,h',tk,rfl,g,hk'⟩:=f;repeat(any_goals(first|assumption|wp_step))
      exact h _ _ g hk'
     |_=>exact f.elim
  |_=>exact hr.elim
def Jvv:entryFor table "set.__iter__"=So Builtin.«frozenset.__iter__»:=entryFor_alias (id':="frozenset.__iter__") (by kernel_rfl) rfl Ab (by kernel_rfl)
def nS:entryFor table "set_iterator.__next__"=So Builtin.«set_iterator.__next__»:=entryFor_of_tree (by kernel_rfl)
def at_next:Slot "set_iterator" "__next__" "set_iterator.__next__":=.of (owner:="set_iterator") (n:="__next__") (by rw[iP,rP];kernel_rfl) Ab Ab Ab (by first|exact .inl Ab|exact .inr Ab) (by rw[zO];kernel_rfl)
def Jkv:Manifest.owners.lookup (String.ofList 'ǚ'.reverse)=So Manifest.sig_set_iterator:=by kernel_rfl
def fV(a:An):argsOk "set_iterator.__next__" cD:=by unfold argsOk;rw[signature?_of (id:="set_iterator.__next__") (n:=['_','_','t','x','e','n','_','_']) (o:='ǚ') (by kernel_rfl) Jkv];kernel_rfl
def JoD{src:Source}{Q:Nat->Shared->Prop}(f:n≠0)(h:∀i d,i<n->Q i {s with drawn:=d}):wpAny As A (choose src n) Q E s:=λg p _=>⟨f,h _ _ (Nat.mod_lt _ (Nat.pos_of_ne_zero f))⟩
theorem JcQ:∀(xs:List α)(i:Nat)(h:i<Ah),(xs[i]::xs.eraseIdx i).Perm xs
 |x::xs,0,h=>fP _
 |x::xs,i+1,h=>by
  simp only[List.getElem_cons_succ,List.eraseIdx_cons_succ]
  exact(List.Perm.swap ..).trans ((JcQ xs i (by simpa using h)).cons x)
theorem JjB:∀(n:Nat)(xs:List α)(s:Al)(Q:List α->Shared->Prop),Ah=n->(∀g d,g.Perm xs->Q g {s with drawn:=d})->wpAny As A (drawOrder n xs) Q E s
 |0,[],s,Q,_,h=>by
  unfold drawOrder
  refine Zb ?_
  have:=h [] YI (fP _)
  cases s;exact this
 |n+1,x::xs,s,Q,hl,h=>by
  unfold drawOrder
  refine Za (JoD Ad λi d f=>?_)
  have u:(x::xs)[i]? =So (x::xs)[i]:=ZC f
  rw[u]
  dsimp only
  refine Za (JjB n _ _ _ (by rw[List.length_eraseIdx_of_lt f];lia) λg q r=>Zb ?_)
  refine h _ q ?_
  exact(List.Perm.cons _ r).trans (JcQ _ i f)
 |0,x::xs,s,Q,hl,_=>by simp at hl
 |n+1,[],s,Q,hl,_=>by simp at hl
theorem Jhm(next:Nat->Nat):∀(fuel k:Nat)(left:List α)(out:Array α),left.length=fuel->(pickOrder.go next fuel k left out).toList.Perm (out.toList++left)
 |0,k,left,out,h=>by
  have:left=[]:=mW.mp h
  subst this
  simp[pickOrder.go]
 |fuel+1,k,left,out,h=>by
  have f:next k % left.length<left.length:=Nat.mod_lt _ Af
  unfold pickOrder.go
  rw[ZC f]
  dsimp only
  refine(Jhm next fuel AZ _ _ (by rw[List.length_eraseIdx_of_lt f];lia)).trans ?_
  rw[Array.toList_push,List.append_assoc]
  exact(List.Perm.append_left _ (JcQ _ _ f))
def IsSI(h:Heap)(it:Addr)(first:An)(i:Nat)(a:Addr)(n ep:Nat):Prop:=h.get? it=So {cls:=.type "set_iterator",data:=.fields #[first,.int i 0,.ref a,.int n 0,.int ep 0]}
structure SetAt(h:Heap)(a:Addr)(o:Obj)(es:Kx)(ep:Nat)(t:EA):Prop where
 ho:h.get? a=So o
 hx:o.ExactSet
 hd:o.data=.set es ep t
 hf:t.fits XG=To
def SetAt.stay{o:Obj}{t:EA}(x:SetAt h a o es ep t)(k:∀o,h.get? a=So o->h'.get? a=So o):SetAt h' a o es ep t:=⟨k _ x.ho,x.hx,x.hd,x.hf⟩
section
variable{o:Obj}{t:EA}
def IsSI.ty{h:Heap}{first:An}{i n:Nat}{s:Al}(x:Q6):s.TypeIs B7 "set_iterator":=⟨_,x,rfl⟩
def JlQ{Q:Fin->Shared->Prop}(f:Bh)(hE:∀h' e,(∀b o,s.heap.get? b=So o->h'.get? b=So o)->(∃o,h'.get? e=So o/\o.cls=.type "StopIteration")->E J5 {s with heap:=h'}):
  wpAny As A (do raiseNew (<-newExc Nt [])) Q E s:=by refine Za ?_;simp only[newExc,newTuple];refine Za (ZJ ?_ (by size_fits));refine Za (m:=firstArgMember _ _) (wpAny_of_eq (a:=XH) (by first|rfl|(simp only[firstArgMember];rfl)) (ZJ ?_ (by size_fits)));delta raiseNew;refine Za (wpAny_handled ?_);rw[f];refine Za (Zb (wpAny_throw ?_));exact hE _ _ PZ F8
def JgW{nx:Nat}{x:An}{Q:Do}(hit:VH)(hs:GI)(f:∀(r:Ay)(q:Mt),q (So (x,nx)) s->wpAny As XU Nc q r s)
  (u:∀h',IsSI h' it (.int nx 0) Bw a XG ep->Heap.SameBut it VU h'->Q (So x) {s with heap:=h'}):wpAny As A Dy Q E s:=by unfold pyNext;refine Za (nE (ZM (name:=oS "__next__") (hit.ty (h:=VU)) at_next (ZD at_next (hit.ty (h:=VU)) nS ?_ (fV _))));show wpAny _ _ (fieldsOf B7>>=_) _ _ s;refine Za (oG hit rfl ?_);show wpAny _ _ (setEntries a>>=_) _ _ s;refine Za (qM aI aJ aK ?_);show wpAny _ _ (if(((XG:Nat):Int)!=(XG:Int))=To then _ else _) _ _ s;rw[if_neg 'j'];show wpAny _ _ (setNext a sl i ep>>=_) _ _ s;refine Za (f _ _ ?_);refine Za (sC hit rfl Ad ?_);have g:(s.heap.update it (Obj.mapFields (·.setIfInBounds 0 (rawInt (nx:Int))))).get? it=So {cls:=.type "set_iterator",data:=.fields #[.int nx 0,.int i 0,.ref a,.int XG 0,.int ep 0]}:=ZX _ hit rfl;refine Za (sC g rfl Ad (Zb ⟨x,rfl,Zb (u _ ?_ ((uF ..).trans (uF ..)))⟩));exact ZX _ g rfl
def Jhh{Q:Do}(B:Bh)(hit:VH)(hs:GI)(g:∀(C:Ay)(r:Mt),r No s->wpAny As XU Nc r C s)
  (U:∀h',(∀b o,b≠it->s.heap.get? b=So o->h'.get? b=So o)->Q No {s with heap:=h'}):wpAny As A Dy Q E s:=by unfold pyNext;refine Za (nE (ZM (name:=oS "__next__") (hit.ty (h:=VU)) at_next (ZD at_next (hit.ty (h:=VU)) nS ?_ (fV _))));show wpAny _ _ (fieldsOf B7>>=_) _ _ s;refine Za (oG hit rfl ?_);show wpAny _ _ (setEntries a>>=_) _ _ s;refine Za (qM aI aJ aK ?_);show wpAny _ _ (if(((XG:Nat):Int)!=(XG:Int))=To then _ else _) _ _ s;rw[if_neg 'j'];show wpAny _ _ (setNext a sl i ep>>=_) _ _ s;refine Za (g _ _ ?_);refine Za (sC hit rfl Ad ?_);refine JlQ B λh' e F I=>?_;obtain⟨u,q,f⟩:=I;refine Za (oF (T:="StopIteration") (b:=To) ⟨u,q,f⟩ kM (Zb (U h' λb o hb e=>F b o ?_)));exact(ZO _ _ E2).trans e
def Jlj{tp:Addr}{ord:B6}{e:Int×Value}{Q:Do}(hit:Vu)(hs:GI)(f:s.heap.get? tp=So {cls:=.type "tuple",data:=.seq ord})(hj:ord[i]? =So (.int (j:Int) 0))(he:es[j]? =So e)
  (hQ:∀h',IsSI h' it (.ref tp) Bw a XG ep->Heap.SameBut it VU h'->Q (So e.2) {s with heap:=h'}):wpAny As A Dy Q E s:=by
 unfold pyNext;refine Za (nE (ZM (name:=oS "__next__") (hit.ty (h:=VU)) at_next (ZD at_next (hit.ty (h:=VU)) nS ?_ (fV _))));show wpAny _ _ (fieldsOf B7>>=_) _ _ s;refine Za (oG hit rfl ?_);show wpAny _ _ (setEntries a>>=_) _ _ s;refine Za (qM aI aJ aK ?_);show wpAny _ _ (if(((XG:Nat):Int)!=(XG:Int))=To then _ else _) _ _ s;rw[if_neg 'j'];show wpAny _ _ (seqItems? (.ref tp)>>=_) _ _ s;refine Za (uC f rfl ?_);simp only[rF,hj];refine Za ?_;unfold setNextDrawn;refine Za (yJ aI aJ aK ?_);simp only[bne_self_eq_false,Zl,ZF,he];first|refine Za (Zb (Zb ?_))|refine Zb ?_
 refine Za (sC hit rfl Ad (Zb ⟨e.2,rfl,Zb (hQ _ ?_ (uF ..))⟩));exact ZX _ hit rfl
def JeF{tp:Addr}{ord:B6}{Q:Do}(B:Bh)(hit:Vu)(hs:GI)(q:s.heap.get? tp=So {cls:=.type "tuple",data:=.seq ord})(hj:ord[i]? =No)
  (hQ:∀h',(∀b o,b≠it->s.heap.get? b=So o->h'.get? b=So o)->Q No {s with heap:=h'}):wpAny As A Dy Q E s:=by unfold pyNext;refine Za (nE (ZM (name:=oS "__next__") (hit.ty (h:=VU)) at_next (ZD at_next (hit.ty (h:=VU)) nS ?_ (fV _))));show wpAny _ _ (fieldsOf B7>>=_) _ _ s;refine Za (oG hit rfl ?_);show wpAny _ _ (setEntries a>>=_) _ _ s;refine Za (qM aI aJ aK ?_);show wpAny _ _ (if(((XG:Nat):Int)!=(XG:Int))=To then _ else _) _ _ s;rw[if_neg 'j'];show wpAny _ _ (seqItems? (.ref tp)>>=_) _ _ s;refine Za (uC q rfl ?_);simp only[rF,hj];refine Za (sC hit rfl Ad ?_);have r:(s.heap.update it (Obj.mapFields (·.setIfInBounds 0 (rawInt 0)))).get? it=So {cls:=.type "set_iterator",data:=.fields #[.int 0 0,.int i 0,.ref a,.int XG 0,.int ep 0]}:=ZX _ hit rfl;refine Za (sC r rfl Ad ?_);refine JlQ B λh' e C F=>?_;obtain⟨u,g,f⟩:=F;refine Za (oF (T:="StopIteration") (b:=To) ⟨u,g,f⟩ kM (Zb (hQ h' λb o hb e=>C b o ?_)));exact(ZO _ _ E2).trans ('љ'.trans e)
def JlY(hs:GI)(f:byT w=To)(q:Ay)(g:Mt)(h:g (((pickOrder KM es)[i]?).map λe=>(e.2,sl)) s):wpAny As A Nc g q s:=by
 unfold setNext;refine Za (yJ aI aJ aK ?_);unfold setsByText;refine Za (Za (wJ (Zb ?_)));show wpAny _ _ (if byT w=To then _ else _) _ _ s;rw[if_pos f];simp only[bne_self_eq_false,Zl,ZF];first|refine Za (Zb ?_)|skip
 unfold setWalk;refine Za (Za (yJ aI aJ aK ?_));unfold setsByText;refine Za (Za (wJ (Zb ?_)));show wpAny _ _ (if byT w=To then _ else _) _ _ s;rw[if_pos f];refine Za (wJ (Zb ?_));exact Zb h
def Jsw(hs:GI)(r:byT w=Fo)(h1:es.size<=1)(g:es.size=0\/t.led=To)(q:Ay)(f:Mt)
  (h:f (match es[SetTable.below QcG sl]?,t.place[SetTable.below QcG sl]? with
   |some (_,x),So j=>So (x,j+1)
   |_,_=>No) s):wpAny As A Nc f q s:=by
 unfold setNext;refine Za (yJ aI aJ aK ?_);unfold setsByText;refine Za (Za (wJ (Zb ?_)));show wpAny _ _ (if byT w=To then _ else _) _ _ s;rw[if_neg (by rw[r];decide)];have B:(!t.plain&&decide (XG>1))=Fo:=by rw[Zs 'h',lM]
 show wpAny _ _ (if(!t.plain&&decide (XG>1))=To then _ else _) _ _ s;rw[if_neg (by rw[B];decide)];have u:(!t.led&&!es.isEmpty)=Fo:=by
  rcases g with z|z
  ·have:es.isEmpty=To:=by simpa[Array.isEmpty]using z
   rw[this];simp
  ·rw[z];rfl
 show wpAny _ _ ((if(!t.led&&!es.isEmpty)=To then _ else _)>>=_) _ _ s;rw[if_neg (by rw[u];decide)];refine Za (Zb (Zb h))
end
def JpX:entryFor table "set_iterator.__iter__"=So Builtin.«dict_keyiterator.__iter__»:=entryFor_alias (id':="dict_keyiterator.__iter__") (by kernel_rfl) rfl Ab (by kernel_rfl)
def Jju:Slot "set_iterator" "__iter__" "set_iterator.__iter__":=.of (owner:="set_iterator") (n:="__iter__") (by rw[iP,rP];kernel_rfl) Ab Ab Ab (by first|exact .inl Ab|exact .inr Ab) (by rw[zO];kernel_rfl)
def Jlz(a:An):argsOk "set_iterator.__iter__" cD:=by unfold argsOk;rw[signature?_of (id:="set_iterator.__iter__") (n:=['_','_','r','e','t','i','_','_']) (o:='ǚ') (by kernel_rfl) Jkv];kernel_rfl
section
variable{o:Obj}{t:EA}
def Jen{first:An}{Q:Ay}(hit:Q6)(h:Q B7 s):wpAny As A (pyIter B7) Q E s:=by refine zL (hit.ty (h:=VU)) Jju (ZD Jju (hit.ty (h:=VU)) JpX ?_ (Jlz _));show wpAny _ _ (ret B7) _ _ s;exact Zb ⟨_,rfl,"set_iterator",_,(hit.ty (h:=VU)),at_next.lookup,h⟩
def JnW(hh:Bh)(F:byT w=To)(u:a≠it):Walks prog w A it [it,a] [it] ('Љ'.toList.map (·.2)).length (λi v=>('Љ'.toList.map (·.2))[i]? =So v)
  (λi h=>IsSI h it (.int (0:Nat) 0) i a XG ep/\SetAt h a o es ep t)where
 sub:=λb f=>by simp at f;simp[f]
 frame:=λi h h' st I=>⟨I it Ad _ st.1,st.2.stay λo e=>I a Ad o e⟩
 item:=λi s Q E hi st C=>by
  have g:i<(pickOrder KM es).size:=by simpa using hi
  refine JgW (sl:=0) (nx:=0) (x:=(pickOrder KM es)[i].2) st.1 st.2 (λr B q=>JlY st.2 F r B ?_) λh' g1 U=>?_
  ·rw[pG g];exact q
  ·refine C _ h' XF ?_ ⟨g1,st.2.stay λo e=>(U.2 a u).trans e⟩ λb o f e=>(U.2 b λz=>f (by simp[z])).trans e
   rw[xB,kI,pG g];rfl
 done:=λs Q E st C=>by
  refine Jhh (sl:=0) hh st.1 st.2 (λr B q=>JlY st.2 F r B ?_) λh' k=>C h' XF λb o f e=>k b o (λz=>f (by simp[z])) e
  rw[Array.getElem?_eq_none 'j'];exact q
 self:=λi s Q E st h=>Jen st.1 h
def Jlh{tp:Addr}{ord:Au}(U:Bh)(r:a≠it)(q:tp≠it)(ho:∀j∈ord,j<XG):Walks prog w A it [it,a,tp] [it] (ord.map λj=>(es.getD j Qdc).2).length (λi v=>(ord.map λj=>(es.getD j Qdc).2)[i]? =So v)
  (λi h=>IsSI h it (.ref tp) i a XG ep/\SetAt h a o es ep t/\h.get? tp=So {cls:=.type "tuple",data:=.seq (ord.map λj:Nat=>Value.int (j:Int) 0).toArray})where
 sub:=λb g=>by simp at g;simp[g]
 frame:=λi h h' st u=>⟨u it Ad _ st.1,st.2.1.stay λo e=>u a Ad o e,u tp Ad _ st.2.2⟩
 item:=λi s Q E I st C=>by
  have f:i<ord.length:=by simpa using I
  have F:ord[i]<es.size:=ho _ (zP f)
  refine Jlj (j:=ord[i]) (e:=es[ord[i]]) st.1 st.2.1 st.2.2 (by simp[f]) (pG F) λh' g1 B=>?_
  refine C _ h' XF ?_ ⟨g1,st.2.1.stay λo e=>(B.2 a r).trans e,(B.2 tp q).trans st.2.2⟩ λb o g e=>(B.2 b λz=>g (by simp[z])).trans e
  rw[xB,ZC f]
  simp[Array.getD,F]
 done:=λs Q E st C=>JeF U st.1 st.2.1 st.2.2 Ad λh' k=>C h' XF λb o g e=>k b o (λz=>g (by simp[z])) e
 self:=λi s Q E st h=>Jen st.1 h
theorem Jqj(hh:Bh)(hT:byT w=Fo)(C:a≠it)(h1:es.size<=1)(hl:es.size=0\/t.led=To):Walks prog w A it [it,a] [it] (es.toList.map (·.2)).length (λi v=>(es.toList.map (·.2))[i]? =So v)
  (λi h=>IsSI h it (.int ((if i=0 then 0 else t.place.getD 0 0+1:Nat):Nat) 0) i a XG ep/\SetAt h a o es ep t)where
 sub:=λb f=>by simp at f;simp[f]
 frame:=λi h h' st hk=>⟨hk it Ad _ st.1,st.2.stay λo e=>hk a Ad o e⟩
 item:=λi s Q E hi st U=>by
  have r:i<es.size:=by simpa using hi
  have i0:i=0:=by lia
  subst i0
  have hsz:es.size=1:=by lia
  have u:t.place.size=1:=by
   have:=st.2.hf;simp only[SetTable.fits,Zc,ZI]at this;lia
  have f:SetTable.below QcG 0=0:=by
   unfold SetTable.below;rw[u];simp[SetTable.below.go]
  refine JgW (sl:=0) (nx:=t.place.getD 0 0+1) (x:=es[0].2) st.1 st.2 (λB F q=>Jsw st.2 hT h1 hl B F ?_) λh' g1 g2=>?_
  ·rw[f,pG r,pG (show 0<t.place.size by lia)]
   have:t.place.getD 0 0=t.place[0]:=by simp[Array.getD,u]
   rw[this]at q;exact q
  ·refine U _ h' XF ?_ ⟨g1,st.2.stay λo e=>(g2.2 a C).trans e⟩ λb o f e=>(g2.2 b λz=>f (by simp[z])).trans e
   rw[xB,kI,pG r];rfl
 done:=λs Q E st U=>by
  rw[Zi,ZQ]at st;refine Jhh hh st.1 st.2 (λB F q=>Jsw st.2 hT h1 hl B F ?_) λh' k=>U h' XF λb o f e=>k b o (λz=>f (by simp[z])) e;have u:t.place.size=es.size:=by
   have:=st.2.hf;simp only[SetTable.fits,Zc,ZI]at this;exact this.1
  have g:es.size<=SetTable.below QcG (if es.size=0 then 0 else t.place.getD 0 0+1):=by
   by_cases z:es.size=0
   ·lia
   ·have z1:es.size=1:=by lia
    rw[if_neg z];have I:t.place.size=1:=by lia
    unfold SetTable.below;rw[I];have h0:t.place[0]? =So (t.place[0]'(by lia)):=pG Af;simp[SetTable.below.go,h0,z1]
  rw[Array.getElem?_eq_none g];exact q
 self:=λi s Q E st h=>Jen st.1 h
def Jql{Q:Ay}(hS:TS prog w (!byT w) VU a ks)(hk:AC<=4000)
  (hQ:∀(h1:Heap)(d:Drawn)(I:Addr)(fp:A9)(vs:AE)(ks':Ac)(St:Fx),(∀b o,s.heap.get? b=So o->h1.get? b=So o)->(∀b∈fp,b=a\/s.heap.objs.size<=b)->Aa<=I->
   (∀A':Around,A'.handled=No->Walks prog w A' I fp [I] AJ (λi v=>vs[i]? =So v) St)->St 0 h1->StrsAre vs ks'->ks'.Perm ks->Q (.ref I) {s with heap:=h1,drawn:=d}):wpAny As A Iu Q E s:=by
 obtain⟨o,es,ep,t,⟨B,hx,hd⟩,hel,⟨hf,hz⟩,hl,hp,hkp,hn⟩:=hS;have sa:SetAt VU a o es ep t:=⟨B,hx,hd,hf⟩;have hty:s.TypeIs Ar "set":=⟨o,B,hx.1⟩;have f:a<Aa:=Zj B;have allS:∀e∈es.toList,∃x u,e.2=.str x u:=λe he=>by obtain⟨⟨k,hk,_⟩,_⟩:=hel e he;obtain⟨u,q⟩:=eY hk;exact⟨k,u,q⟩
 have g:∀l:List (Int×Value),l.Perm es.toList->StrsAre (l.map (·.2)) ((l.map (·.2)).map strOf)/\((l.map (·.2)).map strOf).Perm ks:=λl pl=>by
  refine⟨strsAre_map _ λv hv=>?_,?_⟩
  ·obtain⟨e,he,rfl⟩:=Zv.mp hv;exact allS e (pl.mem_iff.mp he)
  ·rw[Zt];exact(pl.map _).trans hkp
 refine zL hty Qef (ZD Qef hty Jvv ?_ (F.args_set_iter_1 _));unfold Builtin.«frozenset.__iter__» Builtin.Frozenset.slot0 slotArgs;simp only[List.isEmpty_nil,sD,Zl,ZF,bind_assoc,uD,bne_self_eq_false];unfold Builtin.Frozenset.addrOf Builtin.Frozenset.sizeOf;refine Za (Zb ?_);try dsimp only
 refine Za (Zb ?_);refine Za (Za (qM B hd hf (Zb ?_)));unfold setDrawn;refine Za (Za (yJ B hd hf ?_));unfold setsByText;refine Za (Za (wJ (Zb ?_)));refine Zb ?_;show wpAny _ _ (if(!byT w&&(!t.plain&&decide (XG>1)))=To then _ else _) _ _ s;have z1:es.size<=sizeLine:=fits_of_scanBound hz;by_cases r:(!byT w&&(!t.plain&&decide (XG>1)))=To
 ·rw[if_pos r];refine Za (JjB _ _ _ _ Ad λord d po=>?_);refine Za (wpAny_newTuple ?_ (by rw[Zi,po.length_eq,xH];exact z1));refine Za (wpAny_setEpoch_of (Zd _ B) hd hf ?_);refine Za (ZJ (Zb Wx));have oj:∀j∈ord,j<es.size:=λj hj=>by simpa using po.mem_iff.mp hj
  have pl:((ord.map λj=>es.getD j Qdc)).Perm YK:=by
   have c1:=po.map λj=>es.getD j IC;refine c1.trans (List.Perm.of_eq ?_);refine List.ext_getElem Ad λi h1 h2=>?_;have h3:i<es.size:=by simpa using h2
   simp[Array.getD,h3]
  obtain⟨C,U⟩:=g _ pl;have em:(ord.map λj=>es.getD j IC).map (·.2)=ord.map λj=>(es.getD j IC).2:=by rw[Zt];rfl
  rw[em]at C U;refine hQ _ d _ [_,a,Aa] _ _ _ PZ (λb hb=>?_) ?_ (λA' hA=>Jlh (tp:=Aa) (ord:=ord) hA ?_ ?_ oj) ⟨Ze _ rfl,sa.stay λo e=>Zd _ EG,Zd _ FW⟩ C U
  ·simp only[Zf,Zy,fA]at hb;rcases hb with rfl|rfl|rfl
   ·right;show _<=(Heap.push _ _).objs.size;rw[ZL];exact mC _
   ·exact .inl rfl
   ·exact .inr (Zh _)
  ·show _<=(Heap.push _ _).objs.size;rw[ZL];exact mC _
  ·show a≠(Heap.push _ _).objs.size;rw[ZL];exact Zu (wB f)
  ·show Aa≠(Heap.push _ _).objs.size;rw[ZL];exact Zu Y1
 ·rw[if_neg r];refine Za (Zb ?_);refine Za (wpAny_setEpoch_of B hd hf ?_);refine Za (ZJ (Zb Wx));have fpo:∀b∈[Aa,a],b=a\/s.heap.objs.size<=b:=λb hb=>by
   simp only[Zf,Zy,fA]at hb;rcases hb with rfl|rfl
   ·exact .inr (Zh _)
   ·exact .inl rfl
  have kp:∀(x:Obj)b o,s.heap.get? b=So o->(s.heap.push x).get? b=So o:=λx b o e=>Zd _ e;cases hT:byT w with
  |true=>
   have pl:'Љ'.toList.Perm YK:=by have:=Jhm KM XG 0 YK #[] Ad;simpa[pickOrder]using this
   obtain⟨C,U⟩:=g _ pl;exact hQ _ YI _ _ _ _ _ (kp _) fpo (Zh _) (λA' hA=>JnW (o:=o) (t:=t) hA hT (Zu f)) Vs C U
  |false=>
   have few:es.size<=1:=by
    by_cases z:es.size<=1
    ·exact z
    ·exfalso;apply r;rw[hT,hp 'h',Zx 'h'];rfl
   obtain⟨C,U⟩:=g _ (fP _);rw[hT]at hl;exact hQ _ YI _ _ _ _ _ (kp _) fpo (Zh _) (λA' hA=>Jqj (o:=o) (t:=t) hA hT (Zu f) few (.inr hl)) Vs C U
end
def Jqs{Q:E5}(g:s.TypeIs Ar "set")(h:Q Fo s):wpAny As A (Builtin.List.listLengthHint Ar) Q E s:=by unfold Builtin.List.listLengthHint;refine Za (qJ g F.slot_set_len.lookup ?_);generalize hid:("set.__len__":String)=id0;wp_delta;rw[show splitId id0=So ("set","__len__")from by subst hid;decide+kernel];subst hid;refine Za (oF (T:="set") (b:=To) g (by rw[zO];kernel_rfl) (iI Pq (λ_=>iI (λ_=>?_) Pp)));exact Za QdN
theorem Jiu{Q:List Value->Shared->Prop}(hh:Bh)(hS:TS prog w (!byT w) VU a ks)(hk:AC<60)
  (hQ:∀(h1:Heap)(d:Drawn)(tk:Nat)(vs:AE)(q:Ac),(∀b o,s.heap.get? b=So o->h1.get? b=So o)->Aa<=h1.objs.size->StrsAre vs q->q.Perm ks->Q vs {s with heap:=h1,drawn:=d,toks:=tk}):wpAny As A (collect Ar) Q E s:=by
 obtain⟨oa,hoa⟩:=hS.there;have hty:∀u:Shared,TS prog w (!byT w) u.heap a ks->u.TypeIs Ar "set":=λu⟨o,_,_,_,⟨e,x,_⟩,_⟩=>⟨o,e,x.1⟩;have hne:Aa≠a:=rC (Zj hoa);unfold collect;refine Za (wpAny_runValue (qF eN ?_));rw[vF F.plain_proto_collect _];show wpAny _ XU (newList []>>=λl=>again (.builtin "list.__iadd__" ⟨[l,.ref a],[]⟩)) _ _ s;refine Za (ZJ ?_);refine Zb VA;rw[vF lW _];show wpAny _ XU (Builtin.List.listExtendWith Fi Ar Fi) _ _ _;unfold Builtin.List.listExtendWith;have U:TS prog w (!byT w) (s.heap.push {cls:=.type "list",data:=.seq ([]:List Value).toArray}) a ks:=hS.stay λo e=>Zd _ e;refine Za (kF (hty {s with heap:=s.heap.push {cls:=.type "list",data:=.seq ([]:List Value).toArray}} U) ?_);have h1:Builtin.List.listSameRef Fi Ar=Fo:=by simp[Builtin.List.listSameRef,hne]
 have h2:(Value.type "set"==Value.type "list")=Fo:=by decide
 have h3:(Value.type "set"==Value.type "tuple")=Fo:=by decide
 simp only[h1,h2,h3,rH,Zl,ZF];refine Za (Jql (s:={s with heap:=s.heap.push {cls:=.type "list",data:=.seq ([]:List Value).toArray}}) U Af λg1 d I fp vs q St kp fpo hI W9 st q1 q2=>?_);have C:(s.heap.push {cls:=.type "list",data:=.seq ([]:List Value).toArray}).objs.size=Aa+1:=ZL ..;have hSf:Aa∉fp:=λz=>by
  rcases fpo _ z with e|e
  ·exact hne e
  ·change(s.heap.push {cls:=.type "list",data:=.seq ([]:List Value).toArray}).objs.size<=_ at e;rw[C]at e;lia
 have hIS:Aa≠I:=λz=>by change(s.heap.push {cls:=.type "list",data:=.seq ([]:List Value).toArray}).objs.size<=_ at hI;rw[C]at hI;lia
 have hlen:AJ=AC:=by have:=q2.length_eq;rw[<-q1.strs,Zi]at this;exact this
 have hnl:AJ<=sizeLine:=by rw[ZG];lia
 have hL1:g1.get? Aa=So {cls:=.type "list",data:=.seq #[]}:=kp _ _ FW;have hh1:A.in1.in1.handled=No:=by simp[hh]
 have key:∀(g:Heap)(c:Nat)(tk:Nat),St 0 g->(∀b o,b≠Aa->g1.get? b=So o->g.get? b=So o)->g.get? Aa=So {cls:=.type "list",data:=.seq #[] c}->
   codeAny As A (.builtin "list.extend.loop" ⟨[.ref Aa,.ref I,.ref Aa],[]⟩) (λr u=>match r with
    |.ok (.ret v)=>wpAny As A (match v with
     |.ref a=>do match(<-load a).data with
      |.seq xs _=>pure xs.toList
      |_=>unsupported "internal:collect"
     |_=>unsupported "internal:collect") Q E u
    |.ok _=>False
    |.error e=>E e u) {s with heap:=g,drawn:=d,toks:=tk}:=by
  intro g c tk st' kp' hL;refine codeAny_extend_loopS (W9 XU (by simp[hh])).toS hnl Aa hSf _ AJ 0 _ #[] c rfl (vB _) st' hL (ItemsOf.nil _) λu f c' hm hS' B=>?_;have e2:f.toList=vs:=by
   refine List.ext_getElem (by simpa using B.1) λi a1 a2=>?_;have a3:i<f.size:=by simpa using a1
   have:vs[i]? =So f[i]:=B.2 i f[i] (pG a3);rw[ZC a2]at this;simpa using(wD this).symm
  show wpAny _ _ (load Aa>>=_) _ _ u;refine Za (wpAny_load hS' (Zb ?_));obtain⟨g',ge',d',tk',os'⟩:=u;have eg:ge'=s.gens:=hm.gens;have ed:d'=d:=hm.drawn;have eo:os'=s.os:=hm.os;subst eg ed eo;show Q f.toList _;rw[e2];refine hQ g' d' tk' vs q (λb o e=>?_) (Nat.le_of_lt (Zj hS')) q1 q2;have hb:b<Aa:=Zj e;refine hm.heap b o ?_ (kp' b o (Zu hb) (kp b o EG));simp only[Zf,Zy,fA,not_or];refine⟨Zu hb,λz=>?_⟩;change(s.heap.push {cls:=.type "list",data:=.seq ([]:List Value).toArray}).objs.size<=_ at hI;rw[C]at hI;have hb':b<Aa:=hb;rw[z]at hb';exact absurd (ZB hb' (gQ hI)) CH
 have hS2:TS prog w (!byT w) g1 a ks:=U.stay λo e=>kp a o e;refine Za (wA (Jqs (hty {s with heap:=g1,drawn:=d} hS2) ?_));refine iI (λ_=>?_) (λ_=>Zb ⟨jF pP _,key g1 0 XF st (λb o _ e=>e) hL1⟩);refine Za (kB (Za ?_));show wpAny _ XU (updateSeq Aa (·.push .none)>>=λ_=>updateSeq Aa (·.pop)) _ _ _;refine Za (pJ hL1 rfl ?_);have hL2:=ZX (Obj.mapSeq (·.push XH)) hL1 rfl;refine pJ (hz:=by seq_fits) hL2 rfl ?_;have hL3:=ZX (Obj.mapSeq (·.pop)) hL2 rfl;have oth:∀b o,b≠Aa->g1.get? b=So o->((g1.update Aa (Obj.mapSeq (·.push XH))).update Aa (Obj.mapSeq (·.pop))).get? b=So o:=λb o hb e=>'љ'.trans ('љ'.trans e);exact Zb ⟨jF pP _,key _ _ XF ((W9 XU (by simp[hh])).frame 0 _ _ st λb hb o e=>oth b o (λz=>hSf (z▸hb)) e) oth hL3⟩
theorem Jhc{Q:Ay}(hh:Bh)(hS:TS prog w (!byT w) VU a ks)(hk:AC<60)
  (h:∀(h':Heap)(d:Drawn)(tk:Nat)(l:Addr)(vs:AE)(g:Ac)(e:Nat),(∀b o,s.heap.get? b=So o->h'.get? b=So o)->Aa<=l->h'.get? l=So (seqObj "list" Cs e)->StrsAre vs g->g.Perm ks->PyProof.Rows.sortedS g=To->Q BH {s with heap:=h',drawn:=d,toks:=tk}):
  wpAny As A (call Nb Cr) Q E s:=by
 obtain⟨oa,hoa⟩:=hS.there;refine Calls.call_function_entry kind_sorted plain_sorted entry_sorted Qa1 ?_;unfold Builtin.«sorted»;refine Za (m:=checkCount "sorted" 1 1 _) (Zb (Za (Jiu (by simp[hh]) hS hk λC d tk vs ks' kp F B q2=>?_)));have hlen:AJ=AC:=by have:=q2.length_eq;rw[<-B.strs,Zi]at this;exact this
 refine Za (wpAny_newList ?_ (by rw[ZG];lia));have f:(C.push Th).get? C.objs.size=So Th:=Ze _ rfl;refine Za (wA (ZD slot_list_sort HY entry_list_sort (list_sort_treeK strKind_oneLt (s:={s with heap:=C.push Th,drawn:=d,toks:=tk}) f B.keysOf (λI U rest e=>keyKind_strs (by rw[<-e];exact B)) Af λu a1 a2=>Iy) Oc));obtain⟨g,b1,b2,b3⟩:=sorted_out_str B a1 a2;obtain⟨e,he⟩:=sortedHeap_at (out:=(arrOf u).map (·.2)) f;refine Zb ⟨_,rfl,h _ d tk C.objs.size ((arrOf u).map (·.2)).toList g e (λb o q=>?_) F (by rw[Array.toArray_toList];exact he) b1 (b2.trans q2) b3⟩;have q':=kp b o q;have r:=Zj q';rw[sortedHeap_old (Zu r) (by rw[ZL];exact wB r)];exact Zd _ q'
noncomputable def SetO (X:Cx) (a:Addr) (ks:Ac):HO:=.ext λh=>TS XJ X.w (!byT X.w) h a ks
section
theorem Jem:∀{ws:Ac}{f:AE},Vals Rn f->StrsAre f ws
 |[],_,.nil=>.nil
 |x::ws,_,.cons ⟨t,e⟩ r=>by subst e;exact .cons x t (Jem r)
theorem JdS:∀{ws:Ac}{f:AE},StrsAre f ws->Vals Rn f
 |_,_,.nil=>.nil
 |_,_,.cons x t r=>.cons GY (JdS r)
def JoA(I:BU)(d:Drawn):L2.Inv X Y Z H {s with drawn:=d}:=⟨I.ok,I.os,Yi,I.base,Ys,I.cell,Yv,QcC,I.pin,XQ,I.len⟩
def rSet (X:Cx):List V->Hp->VK->Prop:=λxs H Q=>∃p f,xs=Ez/\SqL X.K H p (f.map YZ)/\f.length<60/\∀l,H l=No->Q BH (upd H l SV)
theorem JvQ(hc:Ci):oA X IM (rSet X):=by intro Y s Z H xs us Q I r h;obtain⟨p,ws,rfl,hq,hl,q⟩:=h;obtain⟨u,rfl,F⟩:=xA r;cases F;obtain⟨its,B,pl,hz⟩:=I.list hq;have f:=cV;rw[Zi]at f;refine Jmd (items:=AF) (ws:=ws) KZ Yo (by simpa using Jem B) (by rw[Zo,<-f];show _<4096;lia) λh' U g C=>?_;obtain⟨o,ho⟩:=g.there;exact⟨.ref Aa,_,I.laid (t':=U) (λb o e=>C b o (Zj e) e) (Zh _) (show ObjOk XJ X.w _ h' _ (SetO X Aa 'Ш')from⟨g,⟨o,ho⟩,λh1 h2 z k=>TS.stay z k⟩),rfl,q _ E1⟩
theorem JnF(hc:Ci):oA X Nb (λxs H Q=>∃p ks,xs=Ez/\H p=So (SetO X p ks)/\ks.length<60/\∀(l:Addr)(f:Ac),H l=No->f.Perm ks->PyProof.Rows.sortedS f=To->Q BH UW):=by
 intro Y s Z H xs us Q I r h;obtain⟨p,ks,rfl,hq,U,q⟩:=h;obtain⟨u,rfl,rx⟩:=xA r;cases rx;have hS:TS XJ X.w (!byT X.w) VU p ks:=(I.hok p _ hq).1;refine Jhc KZ hS U λh' d F l vs f e kp g hg C B q3=>?_;have hz:AJ=AC:=by have:=B.length_eq;rw[<-C.strs,Zi]at this;exact this
 have I1:L2.Inv X Y Z UW {s with heap:=h',drawn:=d,toks:=F}:=
  (JoA I d).laid (t':=F) kp g ⟨by rw[Zi,B.length_eq,ZG];lia,vs,e,JdS C,hg⟩
 exact⟨.ref l,_,I1,rfl,q l f Qbt B q3⟩
theorem JwW:oA X M3 (λxs H Q=>∃p ks,xs=Ez/\H p=So (SetO X p ks)/\ks.length<60/\Q (.int AC) H):=by
 intro Y s Z H xs us Q I r h;obtain⟨p,ks,rfl,hq,hl,q⟩:=h;obtain⟨u,rfl,U⟩:=xA r;cases U;obtain⟨o,es,ep,t,⟨ho,hx,hd⟩,F,⟨C,hz⟩,_,_,B,_⟩:=(I.hok p _ hq).1;have f:es.size=AC:=by have:=B.length_eq;simpa[nH]using this
 have g:((XG:Nat):Int)<2^63:=by
  have:((XG:Nat):Int)<60:=by lia
  exact Int.lt_trans this AB
 refine call_len_set ho hx hd C g ?_;refine⟨.int AC,H,I.kept (t':=XF+1+1) (λb o e=>e),⟨_,by rw[f]⟩,q⟩
theorem JdO:∀(p:Str)(l:Ac),risingS p l=To->(p::l).Nodup->(p::l).Pairwise LtS
 |p,[],_,_=>by simp
 |p,x::r,h,hn=>by
  simp only[risingS,Zc,ZV]at h
  obtain⟨q,C⟩:=h
  rw[ltCps_eq]at q
  have n1:¬LtS x p:=by simpa[LtS]using q
  obtain⟨u,B⟩:=oB.mp hn
  have g:=JdO x r C B
  have px:LtS p x:=LtS.total n1 λe=>u (by simp[e])
  refine sG.mpr ⟨λz f=>?_,g⟩
  rcases Zf.mp f with rfl|f
  ·exact px
  ·exact px.trans ((sG.mp g).1 z f)
def JgK{f ws:Ac}(h1:f.Perm ks)(B:PyProof.Rows.sortedS f=To)(u:ks.Nodup)(r:∀k,k∈ks↔k∈ws):f=Pu.Jn ws:=by
 have g:f.Nodup:=h1.symm.nodup u;have q:f.Pairwise LtS:=by
  cases f with
  |nil=>exact List.Pairwise.nil
  |cons p l=>exact JdO p l B g
 exact Jer _ _ q (JJ ws) λk=>(h1.mem_iff.trans (r k)).trans (Jy ws k).symm
def Jla(ws:Ac):∀ks:List Str,ks.Nodup->'仨'.Nodup:=by
 induction ws with
 |nil=>intro ks h;exact h
 |cons x ws q=>
  intro ks h;rw[jG];refine q _ ?_;unfold addS;split
  ·exact h
  ·rename_i f;rw[wH];refine⟨h,by simp,λu r v g e=>?_⟩;rw[yB]at g;subst g e;exact f r
def JeK(ws:Ac):'Ш'.Nodup:=Jla ws [] aP
def JmS(ws:Ac):'Ш'.length='Ң'.length:=by have f:'Ш'.Perm 'Ң':=(List.perm_ext_iff_of_nodup (JeK ws) (oV _ (JJ ws))).mpr λk=>(Jjs ws k).trans (Jy ws k).symm;exact f.length_eq
theorem xO:∀{J:Ak}{ws:Ac},JM J=So ws->J=ws.map X4
 |[],ws,h=>by cases h;rfl
 |.str x::J,ws,h=>by
  simp only[JM]at h
  cases q:JM J with
  |none=>rw[q]at h;cases h
  |some f=>rw[q]at h;cases h;rw[xO q];rfl
 |.non::J,ws,h=>by cases h
 |.bl _::J,ws,h=>by cases h
 |.int _::J,ws,h=>by cases h
 |.tup _::J,ws,h=>by cases h
 |.lst _::J,ws,h=>by cases h
theorem JfZ:∀{ws:Ac}{xs:Av},Reps K H 'Ɉ' xs->xs=ws.map YZ
 |[],xs,h=>by cases h;rfl
 |w::ws,xs,h=>by
  obtain⟨x,r,rfl,f,g⟩:=h
  cases f
  rw[JfZ g];rfl
theorem JfR:∀f:List Str,Reps K H (f.map X4) (f.map YZ)
 |[]=>rfl
 |w::f=>⟨.str w,f.map YZ,rfl,rfl,JfR f⟩
variable{U:Ag}{a:Expr}{p3:Pos}
def Jsu(C:Am)(q:AO)(g:gloB nm "set"=To)(f:G.mg "set"=No)(hs:SI):PE X (.Call Vl [a] [] p3) (tCB (rSet X) (zQ G6 tNil)):=
 JgD (JvQ Yq) (C.glo _ g) (by rw[C.mg];exact f) boot_set (JO q jD hs) Ab Ab hs rfl
def JtB(C:Am)(ha:AO)(hg:gloB nm "sorted"=To)(hm:G.mg "sorted"=No)(I:gloB nm "set"=To)(F:G.mg "set"=No)(hs:DP):PE X (.Call OG OQ [] pos) (tI X U (.un .sset pa)):=by
 refine PE.weak (zT (JnF Yq) ER (by rw[C.mg];exact hm) Ab (JO (Jsu C ha I F hs) jD rfl) Ab Ab rfl rfl) λZ H Q h=>?_;obtain⟨O,r,h⟩:=h;refine⟨O,r,'ħ'.imp λd g=>λv H1 s1 rv=>?_⟩;show∃p f,[v]=Ez/\_;cases d with
 |lst J=>
  obtain⟨p,xs,rfl,h1,h2⟩:=rv;simp only[op1]at g;cases q:JM J with
  |none=>rw[q]at g;exact g.elim
  |some f=>
   rw[q]at g;have e:=xO q;subst e;have e2:=JfZ h2;subst e2;simp only at g;split at g
   ·rename_i u;refine⟨p,f,rfl,h1,u,λl hl=>?_⟩;show∃p' ks,Qdp=[.ref p']/\_;refine⟨l,metS f,rfl,Je,yH (JfH f) u,λl2 ss B a1 a2=>?_⟩;have e3:=JgK a1 a2 (JeK f) (Jjs f);subst e3;have s2:Same H1 (upd H1 l SV):=λb o e=>by rw[Jc (Ji e hl)];exact e
    obtain⟨s3,r3⟩:=iH (K:=X.K) (H:=upd H1 l SV) B (JfR (Pu.Jn f));exact g _ _ (s1.trans (s2.trans s3)) r3
   ·exact g.elim
 |_=>exact g.elim
def Jtw(C:Am)(I:AO)(hg:gloB nm "len"=To)(hm:G.mg "len"=No)(F:gloB nm "set"=To)(B:G.mg "set"=No)(hs:DP):PE X (.Call Qa2 OQ [] pos) (tI X U (.un .lset pa)):=by
 refine PE.weak (zT JwW ER (by rw[C.mg];exact hm) PySem.boot_len (JO (Jsu C I F B hs) jD rfl) Ab Ab rfl rfl) λZ H Q h=>?_;obtain⟨O,r,h⟩:=h;refine⟨O,r,'ħ'.imp λd f=>λv H1 s1 rv=>?_⟩;show∃p g,[v]=Ez/\_;cases d with
 |lst J=>
  obtain⟨p,xs,rfl,h1,h2⟩:=rv;simp only[op1]at f;cases q:JM J with
  |none=>rw[q]at f;exact f.elim
  |some g=>
   rw[q]at f;have e:=xO q;subst e;have e2:=JfZ h2;subst e2;simp only at f;split at f
   ·rename_i u;refine⟨p,g,rfl,h1,u,λl hl=>?_⟩;show∃p' ks,Qdp=[.ref p']/\_;refine⟨l,metS g,rfl,Je,yH (JfH g) u,?_⟩;have s2:Same H1 (upd H1 l (SetO X l (metS g))):=λb o e=>by rw[Jc (Ji e hl)];exact e
    rw[JmS];exact f _ _ FL rfl
   ·exact f.elim
 |_=>exact f.elim
end
noncomputable def plainN (x:Str):Bool:=!(x==("__debug__":Str))&&!(x==("__classdict__":Str))
def chkV (N:Ac) (nm:Bj) (i:Nat) (x:Str):Bool:=(N[i]? ==So x)&&visB nm x&&plainN x
def chkS (N:Ac) (nm:Bj) (i:Nat) (x:Str):Bool:=(N[i]? ==So x)&&locB nm x&&plainN x
def chkG (nm:Bj) (x:Str):Bool:=gloB nm x&&plainN x
section
variable{X:Cx}{U:Ag}{G:Gw}{N:Ac}{nm:Bj}{e a b c:Expr}{es:CF}{p pa pb pc pl ph:Px}{pos p1 p2 p3:Pos}{x y:Str}
def plainN.d(h:plainN x=To):(x==("__debug__":Str))=Fo/\(x==("__classdict__":Str))=Fo:=by simpa[plainN]using h
def vV(C:Am){i:Nat}(h:GF):PE X Ck (tI X U B2):=by simp only[chkV,Zc,ZI]at h;obtain⟨f,g⟩:=plainN.d h.2;exact Jyi (by rw[C.hN];exact h.1.1) (C.vis x h.1.2) f g
def vC(G:Gw)(x:Str)(d:D):Prop:=∃v u,G.mg x=So u/\RelV v u/\∀H,Rep G.K H d v
def vG(C:Am){d:D}(r:vC G x d)(h:chkG nm x=To):PE X Ck Qae:=by simp only[chkG,Zc]at h;obtain⟨f,F⟩:=plainN.d h.2;obtain⟨v,u,g,B,q⟩:=r;exact JtV (C.glo x h.1) ⟨v,u,by rw[C.mg];exact g,B,λH=>by rw[C.K];exact q H⟩ f
def cF(C:Am){g:Nat}(u:Callee G U g x)(h:chkG nm x=To)(q:Ef)(r:LL)(f:'ķ'.any (·.1)=Fo):
  PE X Ti (tI X U (.call g p)):=by simp only[chkG,Zc]at h;exact Juz C u h.1 (plainN.d h.2).1 q r f
def cLen(C:Am)(g:G.mg "len"=No)(f:AO)(q:gloB nm "len"=To)(hs:DP):PE X (.Call Qa2 [a] [] pos) (tI X U (.un .len pa)):=yR C Jwi f q g PySem.boot_len Ab Ab hs
def cAll(C:Am)(g:G.mg "all"=No)(f:AO)(q:gloB nm "all"=To)(hs:DP):PE X (.Call (.Name "all" p1) [a] [] pos) (tI X U (.un .all pa)):=yR C (Jwv Yq) f q g boot_all Ab Ab hs
def cAny(C:Am)(g:G.mg "any"=No)(f:AO)(q:gloB nm "any"=To)(hs:DP):PE X (.Call (.Name "any" p1) [a] [] pos) (tI X U (.un .any pa)):=yR C (Jyh Yq) f q g boot_any Ab Ab hs
def Jso(C:Am)(g:G.mg "tuple"=No)(f:AO)(q:gloB nm "tuple"=To)(hs:DP):PE X (.Call (.Name "tuple" p1) [a] [] pos) (tI X U (.un .tuple pa)):=KW C Jqf f q g PyProof.Rows.boot_tuple Ab Ab hs
def cList(C:Am)(g:G.mg "list"=No)(f:AO)(q:gloB nm "list"=To)(hs:DP):PE X (.Call (.Name "list" p1) [a] [] pos) (tI X U (.un .list pa)):=KW C Jth f q g PyProof.Rows.boot_list Ab Ab hs
def eEq(C:Am)(f:AO)(g:BJ):PE X TN (tI X U RC):=qK dC f g C6
def eNe(C:Am)(f:AO)(g:BJ):PE X UN (tI X U QbC):=qK (Jsk C.un) f g C6
def eLt(f:AO)(g:BJ):PE X QZ (tI X U QbD):=qK vX f g C6
def eGt(f:AO)(g:BJ):PE X QY (tI X U QbE):=qK yY f g C6
def eGe(f:AO)(g:BJ):PE X Uz (tI X U QbF):=qK rX f g C6
def eIn(C:Am)(f:AO)(g:BJ)(q:behindInMarks .In b=Fo):PE X Nx (tI X U Qai):=qK (JrT C.un) f g q
def tEq(C:Am)(f:AO)(g:BJ):PT X TN (tT X U RC):=zK dC f g C6
def tNe(C:Am)(f:AO)(g:BJ):PT X UN (tT X U QbC):=zK (Jsk C.un) f g C6
def tLt(f:AO)(g:BJ):PT X QZ (tT X U QbD):=zK vX f g C6
def tGt(f:AO)(g:BJ):PT X QY (tT X U QbE):=zK yY f g C6
def tGe(f:AO)(g:BJ):PT X Uz (tT X U QbF):=zK rX f g C6
def tIn(C:Am)(f:AO)(g:BJ)(q:behindInMarks .In b=Fo):PT X Nx (tT X U Qai):=zK (JrT C.un) f g q
def eIx(f:AO)(g:BJ)(hs:nT b):PE X Nf (tI X U (.bi .idx pa pb)):=pI_ix Jyb f g hs
def eAdd(f:AO)(g:BJ):PE X (.BinOp a .Add b pos) (tI X U (.bi .add pa pb)):=tN JsX f g
def eSub(f:AO)(g:BJ):PE X (.BinOp a .Sub b pos) (tI X U (.bi .sub pa pb)):=tN Jvb f g
def eMul(f:AO)(g:BJ):PE X (.BinOp a .Mult b pos) (tI X U (.bi .mul pa pb)):=tN JsV f g
def eMod(f:AO)(g:BJ):PE X (.BinOp a .Mod b pos) (tI X U (.bi .mod pa pb)):=tN Jvp f g
def eDiv(f:AO)(g:BJ):PE X (.BinOp a .FloorDiv b pos) (tI X U (.bi .fdiv pa pb)):=tN JpK f g
def gOne(C:Am)(h:chkS N nm 0 x=To):TgOk X Ck 0 1:=by simp only[chkS,Zc,ZI]at h;obtain⟨g,f⟩:=C.sto x h.1.2;exact Jyy (by rw[C.hN];exact h.1.1) CU g f
def gTwo(C:Am)(h:chkS N nm 0 x=To)(h':chkS N nm 1 y=To):TgOk X Ul 2 2:=by simp only[chkS,Zc,ZI]at h h';obtain⟨q,f⟩:=C.sto x h.1.2;obtain⟨r,g⟩:=C.sto y h'.1.2;exact JwL (by rw[C.hN];exact h.1.1) (by rw[C.hN];exact h'.1.1) CU q f r g Yq
def scB (N:Ac) (nm:Bj) (ls:Ac) (f:Bf):Bool:=(f.kind==.function)&&decide (ls++hidN ls N).Nodup&&JvO N nm ls f.names&&N.all (λn=>!ls.contains n||(f.names.lookup (dum n)).isNone)
def scO{ls:Ac}{f:Bf}(h:scB N nm ls f=To):ScOk N nm ls f:=by simp only[scB,Zc,ZI,Zw]at h;refine⟨h.1.1.1,h.1.1.2,h.1.2,λn g q=>?_⟩;have:=uB.mp h.2 n g;simp only[q,sD,iF,Option.isNone_iff_eq_none]at this;exact this
variable{M:Au}{H0:Hp}{i j l:Nat}{px:Pos}
def chkA (N:Ac) (nm:Bj) (M:Au) (i:Nat) (x:Str):Bool:=chkS N nm i x&&!M.contains i
def chkA.at(h:FF):N[i]? =So x/\locB nm x=To/\i∉M:=by simp only[chkA,chkS,Zc,ZI,ZV,sJ,oE]at h;exact⟨h.1.1.1,h.1.1.2,h.2⟩
def chkO (N:Ac) (nm:Bj) (M:Au) (i:Nat) (x:Str):Bool:=chkS N nm i x&&M.contains i&&visB nm x
def chkO.at(h:Dl):N[i]? =So x/\locB nm x=To/\plainN x=To/\i∈M/\visB nm x=To:=by simp only[chkO,chkS,Zc,ZI,sJ,Zw]at h;exact⟨h.1.1.1.1,h.1.1.1.2,h.1.1.2,h.1.2,h.2⟩
def aSet(C:Am)(h:FF)(g:Cf)(f:De)(hs:NJ):PS X Ga Oe:=by obtain⟨r,q,u⟩:=chkA.at h;exact JvF C r q u f g hs
def aOwn(C:Am)(h:Dl)(g:Qdl)(hs:NJ):PS X Ga Qz:=by obtain⟨f,q,u,r,B⟩:=chkO.at h;exact Jym C f q g hs
section
variable{elt tg iter:Expr}{ifs:CF}{ps pe:Px}{nt:Nat}{ls:Ac}{sc:Bf}
def Jwt(h:PS X st (tAsg Kf Ex)):PS X st (tAsg (tFH X U p) Ex):=by
 rintro Y s Z H D I⟨O,L,hL,r,g⟩;obtain⟨ps,e1,e2,I'⟩:=Inv.hide I hL.c;refine ZY (h (ps++Y) s Z Bm ⟨λσ' H1=>Same Bm H1/\((∀a∈L,H1 a=No)->D.nx σ' Hc),λ_ _=>False,λ_ _=>False,λ_ _=>False⟩ I' ⟨O,r,g.mono (λd⟨J,ed,hd⟩=>⟨J,ed,λl xs H1 F h0 C rv=>⟨F,λB=>?_⟩⟩) λc z=>z⟩)
  (λf F q=>?_) λ_ _ z=>z
 ·have hl:l∉L:=λhm=>by rw[B l hm]at C;cases C
  exact hd l xs _ (JfI F) Of (by rw[Jt hl]at h0;exact h0) (by rw[JS hl];exact C) (by rw[iT B];exact rv)
 ·cases f with
  |next=>obtain⟨σ',H1,I1,sm,q⟩:=q;obtain⟨B,I2⟩:=Inv.unhide I hL.c e1 e2 Tj I1;exact⟨σ',_,I2,q B⟩
  |brk=>obtain⟨_,_,_,q⟩:=q;exact q.elim
  |cont=>obtain⟨_,_,_,q⟩:=q;exact q.elim
  |ret u=>obtain⟨_,_,_,_,_,q⟩:=q;exact q.elim
def JpW(hM:i∉M)(g:De)(I:isL p=To){D:Ends}(h:OU):tAsg (tFH X U p) Ex D Z H:=by
 obtain⟨O,L,u,C,f⟩:=JnX hM g h;refine⟨O,L,u,C,?_⟩;cases q:evD U p O with
 |ok d=>
  rw[q]at f;obtain⟨J,rfl⟩:=JmH I q;refine⟨J,rfl,λl xs H1 s1 kk h0 F rv=>f _ _ s1 kk ?_⟩;have r:l∉L:=λhm=>by obtain⟨o,B,_⟩:=u l hm;rw[h0]at B;cases B
  exact⟨l,xs,rfl,SqL.of (by rw[Jt r];exact F),rv⟩
 |ex c=>rw[q]at f;exact f
 |sk=>rw[q]at f;exact f.elim
noncomputable def tgN:Expr->List Str
 |.Name x _=>[x]
 |.Tuple es _ _=>es.filterMap λe=>match e with
  |.Name x _=>So x
  |_=>No
 |_=>[]
noncomputable abbrev cN (tg:Expr) (N:Ac):List Str:=tgN tg++hidN 'Ѱ' N
def Jvy(C:Am)(h:FF)(B:scB N nm 'Ѱ' sc=To)(r:GL)(u:∀f,Ctx f G D6 sc.names->TgOk f tg nt 'Ѱ'.length)(F:∀f,Ctx f G D6 sc.names->PIf f ifs b0)
  (g:∀f,Ctx f G D6 sc.names->PE f elt b5) (I:sepP M Kv=To) (hs:∀x,foldedSetIterable iter Ue x=pure x):PS X WZ (tS X U M H0 (.set Fo i Kv)):=by obtain⟨h1,h2,h3⟩:=chkA.at h;exact PS.weak (Jwt (Jfe C (scO B) (by rw[C.hN];exact h1) h2 r u F g hs)) λD Z H q=>JpW h3 I rfl q
def aOwnC(C:Am)(h:Dl)(B:scB N nm 'Ѱ' sc=To)(r:GL)(u:∀f,Ctx f G D6 sc.names->TgOk f tg nt 'Ѱ'.length)(F:∀f,Ctx f G D6 sc.names->PIf f ifs b0)
  (g:∀f,Ctx f G D6 sc.names->PE f elt b5) (hs:∀x,foldedSetIterable iter Ue x=pure x):PS X WZ (tS X U M H0 (.own i Kv)):=by obtain⟨I,h2,h3,h4,h5⟩:=chkO.at h;exact PS.weak (Jfe C (scO B) (by rw[C.hN];exact I) h2 r u F g hs) λD Z H q=>JmA q
def kN(C:Am)(u:scB N nm 'Ѱ' sc=To)(q:GL)(r:∀f,Ctx f G D6 sc.names->TgOk f tg nt 'Ѱ'.length)(B:∀f,Ctx f G D6 sc.names->PIf f ifs b0)
  (g:∀f,Ctx f G D6 sc.names->PE f elt b5) (hs:∀x,foldedSetIterable iter Ue x=pure x):PE X Gh IR:=JnU C (scO u) q r B (λf F _=>g f F) hs
end
def aApp{f:Pos}(C:Am)(h:Dl)(he:Cf)(F:DJ)(g:De)(hs:NK):
  PS X WR UA:=by obtain⟨u,h2,B,r,h5⟩:=chkO.at h;obtain⟨q,I⟩:=plainN.d B;exact Jwd C u h5 q I r g he F hs
def aExt{f:Pos}(C:Am)(h:Dl)(he:Cf)(F:DJ)(g:De)(hs:NK):
  PS X (.Expr Wz f) UX:=by obtain⟨u,h2,B,r,h5⟩:=chkO.at h;obtain⟨q,I⟩:=plainN.d B;exact Jwl C u h5 q I r g he F hs
def lOne(C:Am)(h:FF):PG X Ck Qah:=by obtain⟨g,f,q⟩:=chkA.at h;exact JvK C g f q
def lTwo(C:Am)(h:FF)(h':chkA N nm M j y=To):PG X Ul OH:=by obtain⟨g,B,q⟩:=chkA.at h;obtain⟨f,u,r⟩:=chkA.at h';exact Jxs C g B q f u r
end
inductive ExcCe(G:Gw)(x:Str):Prop where
 |mk C (h:PySem.W.nsIn G.K mainGlobals x=So (So (.ref C))/\G.mg x=So (.ref C)/\∃bs nid iid Bn,PySem.W.excIn G.K C bs nid=To/\ExcBaseFacts Bn nid iid bs):ExcCe G x
structure ExcC(G:Gw)(x:Str):Prop where
 ex:ExcCe G x
inductive tM(X:Cx)(call:Ag)(p:Px)(σ:Bl)(H:Hp)(Q:VK):Prop where
 |mk:∀env,ReadOk X.K H σ env->(((evD call p env).bind λd=>if lK d then .ok d else .sk).Good (λd=>∀v H',Same H H'->Q v H') Az)->tM X call p σ H Q
section
variable{U:Ag}{cpos:Pos}
def JfX(C:Am)(hc:ExcC G x)(r:chkG nm x=To)(he:PE X e (tM X U p))(hs:Kj):
  PS X WI (tS X U M H0 (.raise x p)):=by
 obtain⟨B,g1,g2,bs,I,iid,Bn,hq,FB⟩:=hc.ex;simp only[chkG,Zc]at r;have f:X.mg x=So (.ref B):=by rw[C.mg];exact g2
 refine PS.weak (JqJ Yq (C.glo x r.1) (by rw[C.K];exact g1) f (by rw[C.K];exact hq) FB he (plainN.d r.2).1 hs) λD Z H⟨O,g,h⟩=>⟨O,g.readOk,?_⟩;simp only[exD]at h;cases q:evD U p O with
 |ok d=>
  rw[q]at h;simp only[Rs.bo]at h⊢;by_cases u:lK d=To
  ·rw[if_pos u]at h⊢;exactλv W s=>⟨rfl,λa s' F=>h B W f (g.same.trans s) a s' F⟩
  ·rw[if_neg u]at h;exact h.elim
 |ex c=>rw[q]at h;exact(show XW X H0 c from h).mono g.same
 |sk=>rw[q]at h;exact h.elim
def mR{z:Str}{k}:PE X (.Constant Y8 k pos) (tM X U .nil):=PE.weak Jrs λZ H Q⟨O,r,h⟩=>h _ H D8
def JU(x y:Str):(x++y).length=XI+y.length:=PySem.strLen_append x y
end
def mE(a b:Yu):(keyV a).eqv (keyV b)=decide (a=b):=by cases a<;>cases b<;>first|exact(Zs nofun).symm|exact(Zx rfl).symm|exact(JrF _ _).symm|exact(Jry _ _).symm
def pL{d:D}(h:keyD Fo d=To):∃k,d=keyV k:=by
 cases d with
 |int i=>exact⟨.inl i,rfl⟩
 |str x=>exact⟨.inr x,rfl⟩
 |non=>exact⟨.non,rfl⟩
 |_=>simp[keyD,keyB]at h
def fJ{k:Yu}{y:V}(r:Rep K H EE y):y=kV k:=by cases k<;>cases r<;>rfl
noncomputable def qI (k:M5):D:=.tup (zC k)
mutual
theorem JqL:∀a b:KTr Yu,(iC a).eqv (iC b)=decide (a=b)
 |.a k,.a j=>by rw[iC,iC,mE];exact pF.mpr ⟨λz=>by rw[z],λz=>by injection z⟩
 |.a k,.t js=>by rw[Zs (λz=>nomatch z)];cases k<;>rfl
 |.t ks,.a j=>by rw[Zs (λz=>nomatch z)];cases j<;>rfl
 |.t ks,.t js=>by rw[iC,iC,D.eqv,Jej ks js];exact pF.mpr ⟨λz=>by rw[z],λz=>by injection z⟩
theorem Jej:∀a b:List (KTr Yu),eqvs (zC a) (zC b)=decide (a=b)
 |[],[]=>by simp[zC,eqvs]
 |[],_::_=>by simp[zC,eqvs]
 |_::_,[]=>by simp[zC,eqvs]
 |x::a,y::b=>by simp only[zC,eqvs,JqL x y,Jej a b,qB,Bool.decide_and]
end
def uU(a b:M5):(qI a).eqv (qI b)=decide (a=b):=by show eqvs _ _=_;exact Jej a b
mutual
theorem JuF:∀{d:D},JG d=To->∃k,d=iC k/\kDep k=bV
 |.non,_=>⟨.a .non,rfl,rfl⟩
 |.bl _,h=>by simp[JG]at h
 |.int i,_=>⟨.a QcU,rfl,rfl⟩
 |.str x,_=>⟨.a QcV,rfl,rfl⟩
 |.tup J,h=>by
  simp only[JG,Zc]at h
  obtain⟨ks,e,q⟩:=Jfn h.2
  exact⟨.t ks,by rw[iC,e],by simp only[kDep,D.dep,q]⟩
 |.lst _,h=>by simp[JG]at h
 |.dct _ _ _ _,h=>by simp[JG]at h
 |.exc _,h=>by simp[JG]at h
 |.fn _ _,h=>by simp[JG]at h
 |.obj _ _ _,h=>by simp[JG]at h
 |.mls _ _,h=>by simp[JG]at h
 |.adr _,h=>by simp[JG]at h
theorem Jfn:∀{J:Ak},Jz J=To->∃ks,J=zC ks/\rE ks=deps J
 |[],_=>QcI
 |d::J,h=>by
  simp only[Jz,Zc]at h
  obtain⟨k,r,f⟩:=JuF h.1
  obtain⟨ks,g,q⟩:=Jfn h.2
  exact⟨k::ks,by rw[zC,<-r,<-g],by simp only[rE,deps,f,q]⟩
end
mutual
theorem Jse{K:Aj}{H:Hp}:∀(k:KTr Yu){v:V},KH H k v->Rep K H (iC k) v
 |.a k,v,h=>by cases(show v=kV k from h);cases k<;>rfl
 |.t ks,v,⟨a,xs,e,h1,h2⟩=>⟨a,xs,e,.inl h1,Jmq ks h2⟩
theorem Jmq{K:Aj}{H:Hp}:∀(ks:M5){xs:Av},KHs H ks xs->Reps K H bH xs
 |[],_,h=>h
 |k::ks,_,⟨v,r,e,h1,h2⟩=>⟨v,r,e,Jse k h1,Jmq ks h2⟩
end
def banV:Value->Nat
 |.str x _=>if banD x then 1 else 0
 |_=>0
def Ban2(K:Aj)(b:Addr):Prop:=∃(o:Obj)(f:B6)(n:Nat),K.lookup b=So o/\o.cls=.type "tuple"/\o.data=.seq f n/\2<='Ћ'.sum
def NoKT(K:Aj):Prop:=∀(y:Str)(b:Addr)(o:Obj)(f:B6)(n:Nat),ModT K y b->K.lookup b=So o->o.cls=.type "tuple"->YL=.seq f n->2<='Ћ'.sum\/∃c,Value.ref c∈f.toList/\Ban2 K c
def Jtu{d:D}{u:An}(h:JG d=To)(r:Dv)(q:Fs):banC d=banV u:=by
 cases d with
 |non=>cases r;cases q;rfl
 |int i=>cases r;obtain⟨t,rfl⟩:=q;rfl
 |str x=>cases r;obtain⟨t,rfl⟩:=q;rfl
 |tup J=>obtain⟨a,xs,rfl,_⟩:=r;cases q;rfl
 |_=>simp[JG]at h
theorem gZ:∀{J:Ak}{xs:Av}{us:AE},Jz J=To->Reps K H J xs->Vals xs us->'ӄ'.sum=(us.map banV).sum
 |[],_,_,_,r,q=>by cases r;cases q;rfl
 |d::J,_,_,h,⟨x,r,e,h1,h2⟩,q=>by
  subst e
  simp only[Jz,Zc]at h
  cases q with
  |cons f g=>simp only[Zg,iB,Jtu h.1 h1 f,gZ h.2 h2 g]
theorem Jxp(F:a7){d:D}{c:Addr}(h:JG d=To)(r:Rep K H d (.ref c))(z:Ban2 K c):False:=by
 obtain⟨o,I,n,B,z2,U,z4⟩:=z;cases d with
 |tup J=>
  obtain⟨a,xs,e,f,h2⟩:=r;cases e;simp only[JG,Zc,Zw]at h;rcases f with f|⟨y,o',q,n',q0,g,q2,_,u,q4,C⟩
  ·rw[F _ _ B]at f;cases f
  ·rw[B]at g;cases g;rw[U]at u;cases u;have:=gZ h.2 h2 C;lia
 |non=>cases r
 |int i=>cases r
 |str x=>cases r
 |_=>simp[JG]at h
theorem JrI(u:a7){c:Addr}(z:Ban2 K c):∀{J:Ak}{xs:Av}{us:AE},Jz J=To->Reps K H J xs->Vals xs us->Value.ref c∈us->False
 |[],_,_,_,r,q,g=>by cases r;cases q;cases g
 |d::J,_,_,h,⟨x,r,e,h1,h2⟩,q,g=>by
  subst e
  simp only[Jz,Zc]at h
  cases q with
  |cons f B=>
   rcases Zf.mp g with e|g
   ·subst e
    have:x=.ref c:=by
     cases x<;>first|exact(kA V.ref (Value.ref.inj f).symm)|(cases f;done)|(obtain⟨_,f⟩:=f;cases f)
    subst this;exact Jxp u h.1 h1 z
   ·exact JrI u z h.2 h2 B g
mutual
theorem Jsg{K:Aj}{H:Hp}(r:a7)(u:NoKT K):∀(k:KTr Yu){v:V},JG (iC k)=To->Rep K H (iC k) v->KH H k v
 |.a k,v,_,h=>fJ h
 |.t ks,v,hk,⟨a,xs,e,f,h2⟩=>by
  simp only[iC,JG,Zc,Zw]at hk
  rcases f with f|⟨y,o,g,n,B,C,U,_,I,q4,q⟩
  ·exact⟨a,xs,e,f,JnY r u ks hk.2 h2⟩
  ·rcases u y a o g n B C U I with z|⟨c,F,z⟩
   ·have:=gZ hk.2 h2 q
    lia
   ·exact(JrI r z hk.2 h2 q F).elim
theorem JnY{K:Aj}{H:Hp}(g:a7)(f:NoKT K):∀(ks:M5){xs:Av},Jz bH=To->Reps K H bH xs->KHs H ks xs
 |[],_,_,h=>h
 |k::ks,_,hk,⟨x,r,e,h1,h2⟩=>by
  simp only[zC,Jz,Zc]at hk
  exact⟨x,r,e,Jsg g f k hk.1 h1,JnY g f ks hk.2 h2⟩
end
def JuO{d:D}(h:keyD To d=To):∃J,d=.tup J/\JG d=To/\deps J<=7:=by
 cases d with
 |tup J=>
  refine⟨J,rfl,?_⟩;simp only[keyD,nG,nB,Zc,Zw]at h;rcases h with(h|h)|h
  ·have:∀J:List D,J.all keyI=To->'ӄ'.sum=0/\Jz J=To/\deps J=0:=λJ=>by
    induction J with
    |nil=>intro;exact Hv
    |cons d J r=>intro h;simp only[gF,Zc]at h;obtain⟨f,g,q⟩:=r h.2;cases d<;>first|(simp[keyI]at h;done)|simp[banC,f,Jz,JG,g,deps,D.dep,q]
   obtain⟨f,g,q⟩:=this J h;simp[JG,f,g,q]
  ·have:∀J:List D,J.all keyS=To->'ӄ'.sum=0/\Jz J=To/\deps J=0:=λJ=>by
    induction J with
    |nil=>intro;exact Hv
    |cons d J r=>intro h;simp only[gF,Zc]at h;obtain⟨f,g,q⟩:=r h.2;cases d<;>first|(simp[keyS]at h;done)|(simp only[keyS,ZV]at h;simp[banC,h.1,f,Jz,JG,g,deps,D.dep,q])
   obtain⟨f,g,q⟩:=this J h;simp[JG,f,g,q]
  ·exact h
 |_=>simp[keyD,keyB]at h
def Juh(h:a7):NoH K Bm:=λb o e=>by
 by_cases q:b∈L
 ·exact iG q
 ·rw[Jt q];exact h b o e
theorem sS{d:D}{y:V}(B:NoKT K)(C:keyD To d=To)(r:Rep K H d y):∃b k,y=.ref b/\d=qI k/\(NoH K H->KB H k b):=by obtain⟨J,rfl,f,F⟩:=JuO C;have g:=f;simp only[JG,Zc]at g;obtain⟨ks,e,q⟩:=Jfn g.2;subst e;obtain⟨b,xs,rfl,_⟩:=id r;exact⟨b,ks,rfl,rfl,λu=>⟨Jsg u B Fp f r,by lia⟩⟩
section
variable{κ:Type}[DecidableEq κ]{g:κ->D}
theorem look_of(u:∀a b,(g a).eqv (g b)=decide (a=b)){k:κ}:∀{f:Bt}{vs:Ak},Reps K H vs (f.map (·.2))->match iA (g k) (f.map λp=>g p.1) vs with
  |some d=>∃v,valV f k=So v/\Rep K H d v
  |none=>valV f k=No
 |[],vs,h=>by
  cases vs with
  |nil=>rfl
  |cons _ _=>obtain⟨_,_,e,_⟩:=h;cases e
 |p::f,vs,h=>by
  cases vs with
  |nil=>cases h
  |cons d vs=>
   obtain⟨x,r,e,C,F⟩:=h
   simp only[Zg,qB]at e
   obtain⟨rfl,rfl⟩:=e
   simp only[Zg,iA,u]
   by_cases q:p.1=k
   ·simp only[q,decide_true,if_true]
    exact⟨p.2,pU q,C⟩
   ·simp only[q,decide_false,Zl,ZF]
    have B:=look_of u (k:=k) F
    rw[sT q];exact B
def eS(q:∀a b,(g a).eqv (g b)=decide (a=b)){k:κ}(f:Bt):((f.map λp=>g p.1).any λd=>d.eqv (g k))=(valV f k).isSome:=by rw[<-yT,tL];simp only[pC,q]
def tK(I:∀a b,(g a).eqv (g b)=decide (a=b)){k:κ}{d:D}(F:Dv){f:Bt}{vs:Ak}(h:Reps K H vs (f.map (·.2))):
  (putD (g k) d (f.map λp=>g p.1) vs).1=(putK f k v).map (λp=>g p.1)/\Reps K H (putD (g k) d (f.map λp=>g p.1) vs).2 ((putK f k v).map (·.2)):=by
 have B:=eS I (k:=k) f;rw[<-yT]at B;unfold putD putK;rw[B];by_cases q:(f.any λkv=>decide (kv.1=k))=To
 ·rw[if_pos q,if_pos q];refine GX
  ·show f.map _=_;rw[Zt];refine tG λp _=>?_;show g p.1=g (if p.1=k then(p.1,v)else p).1;split<;>rfl
  ·clear q B;show Reps K H (setD _ _ _ _) _;induction f generalizing vs with
   |nil=>
    cases vs with
    |nil=>rfl
    |cons _ _=>obtain⟨_,_,e,_⟩:=h;cases e
   |cons p f ih=>
    cases vs with
    |nil=>cases h
    |cons u vs=>
     obtain⟨x,r,e,U,h2⟩:=h;simp only[Zg,qB]at e;obtain⟨rfl,rfl⟩:=e;simp only[Zg,setD,I];refine⟨_,_,rfl,?_,ih h2⟩;by_cases C:p.1=k
     ·simp only[C,decide_true,if_true];exact F
     ·simp only[C,decide_false,Zl,ZF];exact U
 ·rw[if_neg q,if_neg q];refine⟨by simp,?_⟩;simp only[ZW,Zg,lG];exact h.append (Reps.one F)
end
def dk_k{ks:Ak}(h:DK H a Fo z ks xs):∃kvs:List (L2.Key×V),Rd H a AN/\ks=kvs.map (λp=>keyV p.1)/\xs=kvs.map (·.2):=by
 cases z<;>obtain⟨kvs,f,g⟩:=h
 ·exact Qbp
 ·exact Qbq
def dk_t{ks:Ak}(h:DK H a To z ks xs):∃kvs:List (List (KTr Yu)×V),Rd H a BA/\ks=kvs.map (λp=>qI p.1)/\xs=kvs.map (·.2):=by
 cases z<;>obtain⟨kvs,f,g⟩:=h
 ·exact Qbp
 ·exact Qbq
section
variable{X:Cx}{U:Ag}{G:Gw}{N:Ac}{nm:Bj}{e a b:Expr}{p pa pb:Px}{pos p1:Pos}{x:Str}{i:Nat}{M:Au}{H0:Hp}{px:Pos}
def rT{ks vs:Ak}{g:D}{x y:V}(I:t=To->NoKT X.K)(r1:Rep X.K H (.dct t z ks vs) x)(C:Rep X.K H g y)(F:keyD t g=To):∃l o,x=.ref l/\DGet X.K H l y o/\(ks.any λd=>d.eqv g)=cR/\∀d,iA g ks vs=So d->∃v,o=So v/\Rep X.K H d v:=by
 obtain⟨l,xs,rfl,u,B⟩:=r1;cases t with
 |false=>obtain⟨f,q,rfl,rfl⟩:=dk_k u;obtain⟨k,rfl⟩:=pL F;have:=fJ C;subst this;refine⟨l,valV f k,rfl,.inl ⟨f,k,q,rfl,rfl⟩,eS mE f,λd r=>?_⟩;have:=look_of mE (k:=k) B;rw[r]at this;exact this
 |true=>obtain⟨f,q,rfl,rfl⟩:=dk_t u;obtain⟨b,k,rfl,rfl,hb⟩:=sS (I rfl) F C;refine⟨l,valV f k,rfl,.inr ⟨f,k,b,q,rfl,hb,rfl⟩,eS uU f,λd r=>?_⟩;have:=look_of uU (k:=k) B;rw[r]at this;exact this
def nX(C:Am){t':Bool}(hK:FC)(F:AO)(hb:BJ)(hs:NoSl b):PE X Nf (tI X U (.bi (.dGet t') pa pb)):=by
 have hu:=C.un;refine PE.weak (Jvq Af F hb hs) λZ H Q u=>?_;obtain⟨O,r,h⟩:=u;refine tI.then r h λdx x H1 s1 r1 I h1=>tI.then I h1 λdy y H2 s2 r2 q2 h2=>?_;obtain⟨t,z,ks,vs,rfl,f⟩:=JjL h2;split at f
 ·rename_i B;obtain⟨rfl,B⟩:=B;obtain⟨l,o,e1,g,_,hl⟩:=rT (by rw[C.K];exact hK) G9 r2 B;cases q:iA dy ks vs with
  |none=>rw[q]at f;exact f.elim
  |some d=>rw[q]at f;obtain⟨v,e2,rv⟩:=hl d q;subst e2;exact⟨l,v,e1,g,Out.now f rv⟩
 ·exact f.elim
def mY{g:Bool->Bool}{t':Bool}{q u:D}{x y:V}{P:D->Prop}{E:DG}(hK:t'=To->NoKT X.K)(r1:Rep X.K H q x)(F:Rep X.K H u y)
  (h:(onD u λt ks _=>if t=t'/\keyD t q=To then .ok (.bl (g (ks.any λd=>d.eqv q)))else .sk).Good P E):∃l o,y=.ref l/\DGet X.K H l x o/\P (.bl (g cR)):=by
 obtain⟨t,z,ks,vs,rfl,f⟩:=JjL h;split at f
 ·rename_i r;obtain⟨rfl,r⟩:=r;obtain⟨l,o,C,I,B,_⟩:=rT hK F r1 r;rw[B]at f;exact⟨l,o,C,I,f⟩
 ·exact f.elim
def eDIn(C:Am){t':Bool}(hK:FC)(u:AO)(hb:BJ)(hm:behindInMarks .In b=Fo):PE X Nx (tI X U Po):=by have hu:=C.un;refine PE.weak (Jxr QdO hm) λZ H Q f=>?_;obtain⟨O,r,h⟩:=f;refine tI.then r h λdx x H1 s1 r1 B F=>tI.then B F λdy y H2 s2 r2 q2 h2=>?_;obtain⟨l,o,I,g,q⟩:=mY (g:=id) (by rw[C.K];exact hK) G9 r2 h2;exact TH
def tDIn(C:Am){t':Bool}(hK:FC)(u:AO)(hb:BJ)(hm:'в' (behindInMarks .In b=Fo) Ai):PT X Nx (tT X U Po):=by have hu:=C.un;refine PT.weak (vR QdO hm) λZ H Q f=>?_;obtain⟨O,r,h⟩:=f.asTest;refine tI.then r h λdx x H1 s1 r1 B F=>tI.then B F λdy y H2 s2 r2 q2 h2=>?_;obtain⟨l,o,I,g,q⟩:=mY (g:=id) (by rw[C.K];exact hK) G9 r2 h2;exact TH
def tDNi(C:Am){t':Bool}(hK:FC)(u:AO)(hb:BJ)(hm:behindInMarks .NotIn b=Fo):PT X (.Compare a [.NotIn] [b] pos) (tT X U (.bi (.dNi t') pa pb)):=by have hu:=C.un;refine PT.weak (vR (JoB Af u hb) hm) λZ H Q f=>?_;obtain⟨O,r,h⟩:=f.asTest;refine tI.then r h λdx x H1 s1 r1 B F=>tI.then B F λdy y H2 s2 r2 q2 h2=>?_;obtain⟨l,o,I,g,q⟩:=mY (g:=not) (by rw[C.K];exact hK) G9 r2 h2;exact TH
def JxH(C:Am)(h:Dl)(hs:swapsWith Tv Ft XT Ue=pure Fo):PS X Qj (tS X U M H0 (.ownD Fo i)):=by
 obtain⟨u,h2,h3,h4,h5⟩:=chkO.at h;obtain⟨F,r⟩:=C.sto x h2;refine PS.weak (iD CU (by rw[C.hN];exact u) F Jfs hs r) λD Z H f=>?_;obtain⟨O,e,h⟩:=f;intro l g;have s:Same H (upd H l bE):=λb o q=>by rw[Jc 'Μ'];exact q
 obtain⟨I,B⟩:=e.putOwn s (i:=i) (d:=.dct Fo Fo [] []) g λHh tp=>Vh;exact h _ _ I Rv
def JvU(C:Am)(h:Dl)(hs:swapsWith Tv Ft XT Ue=pure Fo):PS X Qj (tS X U M H0 (.ownD To i)):=by
 obtain⟨u,h2,h3,h4,h5⟩:=chkO.at h;obtain⟨F,r⟩:=C.sto x h2;refine PS.weak (iD CU (by rw[C.hN];exact u) F JqX hs r) λD Z H f=>?_;obtain⟨O,e,h⟩:=f;intro l g;have s:Same H (upd H l bF):=λb o q=>by rw[Jc 'Μ'];exact q
 obtain⟨I,B⟩:=e.putOwn s (i:=i) (d:=.dct To Fo [] []) g λHh tp=>Vh;exact h _ _ I Rv
theorem aPut{b v:Expr}{pk pv:Px}{ps:Pos}(C:Am){t':Bool}(hK:FC)(h:Dl)(hb:PE X b Ni)(hv:RX)(h1:sepP M pk=To)(h2:sepP M pv=To)
  (hs:swapsWith v QX XT Ue=pure Fo):PS X Vy (tS X U M H0 (.put Fo t' i pk pv)):=by
 obtain⟨g1,g2,g3,g4,g5⟩:=chkO.at h;obtain⟨d1,d2⟩:=plainN.d g3;have hu:=C.un;refine PS.weak (JiC Af (rA (by rw[C.hN];exact g1) Mc d1 d2) (jO hb) (jO hv) hs) λD Z H zz0=>?_;obtain⟨O,e,h⟩:=zz0;simp only[exD]at h;cases q:O[i]? with
 |none=>rw[q]at h;exact h.elim
 |some o=>
  rw[q]at h;cases o with
  |none=>exact h.elim
  |some d=>
   cases d with
   |dct t z ks vs=>
    cases z with
    |true=>exact h.elim
    |false=>
     simp only at h;obtain⟨l,F,h0,hz,xs,hl,hr⟩:=e.own i _ g4 q;refine Uo;rw[qH U O h2];refine(Rs.gB.mp h).mono (λdv hdv v H1 s1 k1 r1=>?_) λc z=>z.mono Z3;have I:=e.grow s1;refine⟨.ref l,F,lC M 0 O,Ow M O Z,I.ows,I.readHid,?_⟩;rw[qH U O h1];refine(Rs.gB.mp hdv).mono (λdk g y f s2 k2 r2=>?_) λc z=>z.mono I.same0;split at g
     ·exact g.elim
     ·rename_i r;simp only[gC,iF,nB,not_or,ZV,yP,Bool.not_eq_false,oE,Decidable.not_not,ZI,ZA,ne_eq]at r;obtain⟨⟨htt,hc1⟩,hc2⟩:=r;have r:=mD hc1 hc2;subst htt;have e2:=I.grow s2;have f2:Same Dc G5:='ӌ'.hid;have f3:Same Io G5:=(Fz.sm s2).hid;have u:∀ob,OwnIs X.K G5 Mb l (.dct t Fo (putD dk dv ks vs).1 (putD dk dv ks vs).2)->D.nx Z Mb:=λob nw=>by obtain⟨e3,f4⟩:=e2.change (o:=ob) g4 q F nw;exact g _ _ e3 ⟨'ӌ'.trans f4,λz=>by cases z⟩
      cases t with
      |true=>
       obtain⟨b',k,rfl,rfl,hb'⟩:=sS (by rw[C.K];exact hK rfl) r.1 r2;obtain⟨kvs,w1,rfl,rfl⟩:=hl;have w2:f l=So BA:=s2 _ _ (s1 _ _ w1);have B:AV<1000:=by simpa using r.2
       have hb2:NoH X.K f->KB f k b':=λz=>(hb' (Juh z)).keep λ_ _ q=>hid_same _ _ q;refine⟨l,_,rfl,DPut.t (k:=k) w2 hb2 (by show _<16777216;lia),u _ ?_⟩;obtain⟨p1,p2⟩:=tK uU (k:=k) (r1.mono f3) KY;exact Lw
      |false=>
       obtain⟨k,rfl⟩:=pL r.1;have hy:=fJ r2;subst hy;obtain⟨kvs,w1,rfl,rfl⟩:=hl;have w2:f l=So AN:=s2 _ _ (s1 _ _ w1);have B:AV<1000:=by simpa using r.2
       refine⟨l,_,rfl,DPut.k (k:=k) w2 (by show _<16777216;lia),u _ ?_⟩;obtain⟨p1,p2⟩:=tK mE (k:=k) (r1.mono f3) KY;exact Lw
   |_=>exact h.elim
end
def Jih(I:BU){kvs:GJ}(e:H l=So AN):∃o,L2.Inv X Y Z (upd H l (.frz o AN)) s:=by obtain⟨z,B,u,f,r⟩:=qX XQ e;obtain⟨o,es,ep,g,_⟩:=id r;exact⟨o,I.write (t':=XF) (x:=l) (e:=l) (h':=VU) (by rw[e];exact ZT) Be Lg ⟨o,g⟩ ⟨g,z,B,u,f,r⟩⟩
def JlZ(I:BU){kvs:List (List (KTr Yu)×V)}(e:H l=So BA):∃o,L2.Inv X Y Z (upd H l (.frz o BA)) s:=by obtain⟨z,B,xs,f,o,es,ep,g,F,C,r,u⟩:=(show ObjOk XJ X.w H VU l BA from I.hok l _ e);refine⟨o,I.write (t':=XF) (x:=l) (e:=l) (h':=VU) (by rw[e];exact ZT) Be Lg ⟨o,g⟩ ⟨g,z,B,xs,KT.keeps f λb U q=>?_,o,es,ep,g,F,C,r,u⟩⟩;rw[Jc (uW q e (λz=>nomatch z))];exact q
section
variable{U:Ag}{a b:Expr}
def aRetF(C:Am)(h:Dl):PS X (.Return Ft pos) (tS X U M H0 (.retF i)):=by
 obtain⟨g1,g2,g3,g4,g5⟩:=chkO.at h;obtain⟨d1,d2⟩:=plainN.d g3;rintro Y s Z H D I⟨O,e,h⟩;simp only[exD]at h;cases q:O[i]? with
 |none=>rw[q]at h;exact h.elim
 |some o=>
  rw[q]at h;cases o with
  |none=>exact h.elim
  |some d=>
   cases d with
   |dct t z ks vs=>
    cases z with
    |true=>exact h.elim
    |false=>
     obtain⟨l,hσ,h0,hz,xs,hl,hr⟩:=e.own i _ g4 q;have hlo:l∈Ow M O Z:=mem_Ow.mpr ⟨i,g4,_,q,hσ⟩;have F:∀ob,Rep X.K FV ND BH->D.rt BH FV:=λob r=>h _ _ (λb o' B=>by rw[Jc (Ji B h0)];exact e.same b o' B) r;have rr:∀ob,Reps X.K FV vs xs:=λob=>hr.mono λb o' B=>by
      by_cases z:b∈Ow M O Z
      ·rw[iG z]at B;cases B
      ·rw[Jt z]at B;rw[Jc (λk:b=l=>z (k▸hlo))];exact B
     refine ZY (pN (rA (by rw[C.hN];exact g1) Mc d1 d2) Y s Z H ⟨λ_ _=>False,λv W=>v=.ref l/\W=H,λ_ _=>False,λ_ _=>False⟩ I ⟨.ref l,hσ,rfl,rfl⟩) (λf s1 r=>?_) λ_ _ z=>z;cases f with
     |next=>obtain⟨_,_,_,z⟩:=r;exact z.elim
     |brk=>obtain⟨_,_,_,z⟩:=r;exact z.elim
     |cont=>obtain⟨_,_,_,z⟩:=r;exact z.elim
     |ret u=>
      obtain⟨v,σ',W,I',rv,rfl,rfl⟩:=r;cases t with
      |false=>obtain⟨g,w1,rfl,rfl⟩:=hl;obtain⟨o,I2⟩:=Jih I' w1;exact W6
      |true=>obtain⟨g,w1,rfl,rfl⟩:=hl;obtain⟨o,I2⟩:=JlZ I' w1;exact W6
   |_=>exact h.elim
end
end Rd
namespace Rd
open PySem PySem.Spec PyProof.Rows L2
open Sem (wp)
variable{A:Bv}{prog:Ba}{a:Addr}
def Jgt:typeLookup MT "keys"=pure No:=by rw[iP,rP];kernel_rfl
def JdU{w:AQ}{E:Ay}{s:Al}{o:Obj}{xs:B6}{k:Nat}{Q:Do}
  (r:s.heap.get? a=So o) (v:o.cls=.type "tuple") (f:o.data=.seq xs k) (u:o.dict=No) (y:Bh)
  (h:∀j l,(∀b o,s.heap.get? b=So o->j.get? b=So o)->Q No {s with heap:=j,toks:=l}):
  wpAny As A (getAttr? Ar "keys") Q E s:=by
 obtain⟨c,dct,B,sl⟩:=o;simp only at v f u;subst v f u;obtain⟨x,g,d,l,z⟩:=s;have q:∀m,(Qd6:Shared).TypeIs Ar "tuple":=λ_=>⟨_,r,rfl⟩;have L:=sub_AttributeError;have G:=F.slot_tuple_getattribute.lookup;have H:=F.slot_tuple_getattribute.bind Ar;have I:=am_tuple_getattr_none;unfold getAttr? getAttrBy? getAttrBy;repeat(any_goals(first|assumption|exact q _|((with_reducible show wpAny _ _ (call (Value.builtin "tuple.__getattribute__") _ _) _ _ _);refine fB F.slot_tuple_getattribute (q _) am_entry_tuple_getattribute (F.args_tuple_getattribute_2 _ _) (meets_getattribute_miss_tuple a xs k sl "keys" _ Jgt Ab (by size_fits)) Qb)|wp_step))
 obtain⟨M,J,C⟩:=i.there;show wpAny _ _ Vn _ _ _;unfold getattributeRaised;repeat(any_goals(first|assumption|wp_step))
 exact h _ _ i.keeps
def Jhj:typeLookup Rt "keys"=pure No:=by rw[iP,rP];kernel_rfl
def Jey{w:AQ}{E:Ay}{s:Al}{o:Obj}{xs:B6}{k:Nat}{Q:Do}
  (r:s.heap.get? a=So o) (v:o.cls=.type "list") (f:o.data=.seq xs k) (u:o.dict=No) (y:Bh)
  (h:∀j l,(∀b o,s.heap.get? b=So o->j.get? b=So o)->Q No {s with heap:=j,toks:=l}):
  wpAny As A (getAttr? Ar "keys") Q E s:=by
 obtain⟨c,dct,B,sl⟩:=o;simp only at v f u;subst v f u;obtain⟨x,g,d,l,z⟩:=s;have q:∀m,(Qd6:Shared).TypeIs Ar "list":=λ_=>⟨_,r,rfl⟩;have L:=sub_AttributeError;have G:=F.slot_list_getattribute.lookup;have H:=F.slot_list_getattribute.bind Ar;have I:=am_list_getattr_none;unfold getAttr? getAttrBy? getAttrBy;repeat(any_goals(first|assumption|exact q _|((with_reducible show wpAny _ _ (call (Value.builtin "list.__getattribute__") _ _) _ _ _);refine fB F.slot_list_getattribute (q _) am_entry_list_getattribute (F.args_list_getattribute_2 _ _) (meets_getattribute_miss_list a xs k sl "keys" _ Jhj Ab (by size_fits)) Qb)|wp_step))
 obtain⟨M,J,C⟩:=i.there;show wpAny _ _ Vn _ _ _;unfold getattributeRaised;repeat(any_goals(first|assumption|wp_step))
 exact h _ _ i.keeps
def pV:plainId "dict.update.loop"=To:=by decide+kernel
def Jcy:entryFor table "dict.update.loop"=So Builtin.«dict.update.loop»:=entryFor_of_tree (by kernel_rfl)
section
variable{w:AQ}{R:Ks}{I d:Addr}{fp wr:A9}{n:Nat}{P:Nat->Value->Prop}{St:Fx}{κ:Type}[DecidableEq κ]{knd:KeyKind prog w κ}
noncomputable def yC (rows:Cm) (i:Nat):List (κ×Value):=(rows.take i).foldl (λa r=>stored a r.1 r.2) []
def Joi(a:Cm)(k:κ)(v:An):(stored a k v).length<=Yx+1:=by unfold stored;split<;>simp
def JcP{rows:Cm}{i:Nat}{r:κ×Value}(h:rows[i]? =So r):yC rows Bw=stored '些' r.1 r.2:=by unfold yC;rw[yL,h];simp[fQ]
def JfS(rows:Cm):∀i,'些'.length<=i
 |0=>by simp[yC]
 |i+1=>by
  cases h:rows[i]? with
  |none=>
   have:yC rows Bw=yC rows i:=by unfold yC;rw[yL,h];simp
   rw[this];exact Nat.le_succ_of_le Im
  |some r=>rw[JcP h];exact Zq (Joi _ _ _) (Nat.succ_le_succ Im)
theorem JpM(X:Walks prog w XU I fp wr n P St)(Y:d∉fp)(U:Heap){Dk:Fx}(r:∀i h g,Dk i h->(∀b o,b∉wr->h.get? b=So o->g.get? b=So o)->Dk i g)
  (hit:∀i v,P i v->∃b O N,v=.ref b/\b∉wr/\b≠d/\IsTup U b #[O,N]/\∀(s:Al)(Q:Dm)(E:Ay),Dk i s.heap->(∀b o,b∉wr->b≠d->U.get? b=So o->s.heap.get? b=So o)->
   (∀g B,Dk Bw g->(∀b,b≠d->g.get? b=s.heap.get? b)->Q () {s with heap:=g,toks:=B})->wpAny As XU QbG Q E s):
  ∀(k i:Nat)(s:Al)(t:Tok)(j:Int),n-i=k->i<=n->St i s.heap->Dk i s.heap->(∀b o,b∉wr->b≠d->U.get? b=So o->s.heap.get? b=So o)->
  (∀g B,Dk n g->(∀b o,b∉wr->b≠d->U.get? b=So o->g.get? b=So o)->R Od {s with heap:=g,toks:=B})->
  codeAny As A (.builtin "dict.update.loop" ⟨[.ref d,.ref I,.int j t,.none],[]⟩) R s:=by
 intro k;induction k with
 |zero=>
  intro i s t j hk hi y hD l hR;have hin:i=n:=by lia
  subst hin;refine qF Jcy ?_;rw[vF pV _];show wpAny _ XU (pyNext (.ref I)>>=_) _ _ s;refine Za (X.done s _ _ y λg B f=>?_);show wpAny _ _ (Builtin.Dict.addKeywords d []>>=_) _ _ _;refine Za (Zb (Zb ?_));exact hR g B Qcf λb o u C q=>f b o u IL
 |succ k ih=>
  intro i s t j hk hi y hD l hR;have J:i<n:=by lia
  refine qF Jcy ?_;rw[vF pV _];show wpAny _ XU (pyNext (.ref I)>>=_) _ _ s;refine Za (X.item i s _ _ J y λv g B hP G f=>?_);obtain⟨b,O,N,rfl,M,W,⟨ob,g1,g2,m,g3⟩,H⟩:=hit i v hP;have L:=f b ob M (l b ob M W g1);have hT:({s with heap:=g,toks:=B}:Shared).TypeIs CK "tuple":=⟨ob,L,g2⟩;refine Za ?_;try with_reducible refine wA ?_
  refine Za (wpAny_tryCatch ?_);show wpAny _ _ (Builtin.Dict.pairItems CK) _ _ _;unfold Builtin.Dict.pairItems;refine Za (kF hT ?_);rw[if_pos (by rfl)];refine Za (uC L g3 (Zb ?_));show wpAny _ _ (holding [O,N] QbG) _ _ _;try with_reducible refine wA ?_
  refine H _ _ _ Qcf (λb o u C q=>f b o u IL) λh'' tk'' F x=>?_;refine Zb QcJ;refine ih Bw _ _ _ Af J (X.frame _ _ _ G λb hb o e=>x b (λz=>Y (by rw[<-z];exact hb))▸e) F (λb o u C q=>?_) λh3 Z q1 q2=>hR h3 Z q1 q2;exact(x b C).trans (f b o u IL)
def JdM{E:Ay}{s:Al}{o:Obj}{f:B6}{m:Nat}(T:Bool)(ho:s.heap.get? a=So o)(X:o.cls=.type (if T then "tuple" else "list"))(hd:o.dict=No)(j:o.data=.seq f m)(hA:Bh)
  {Dk:Fx} (d0:Dk 0 (s.heap.push {cls:=.type "dict",data:=.dict #[]})) (hkeep:∀i h h',Dk i h->(∀b o,(b=Aa\/∃q,s.heap.get? b=So q)->h.get? b=So o->h'.get? b=So o)->Dk i h')
  (hit:∀(i:Nat)(v:An),f[i]? =So v->∃b kv xv,v=Value.ref b/\IsTup VU b #[kv,xv]/\∀(C:Al)(Q:Dm)(E:Ay),Dk i C.heap->(∀b o,s.heap.get? b=So o->C.heap.get? b=So o)->
   (∀h' r,Dk Bw h'->(∀b,b≠Aa->h'.get? b=C.heap.get? b)->Q () {C with heap:=h',toks:=r})->wpAny As Yz (dictSet Aa kv xv) Q E C) {Q:Ay}
  (h:∀h' r,Dk f.size h'->(∀b o,s.heap.get? b=So o->h'.get? b=So o)->Q Qcd {s with heap:=h',toks:=r}):
  wpAny As A (call K8 Mh) Q E s:=by
 refine callType_codes (Q₁:=λobj u=>obj=.ref Aa/\u={s with heap:=s.heap.push {cls:=.type "dict",data:=.dict #[]}}) F.kt_called_dict (F.kt_typeCall_dict_1 _) F.entry_dict_init (kt_code_dict_new _ Cv) ?_;rintro obj u⟨rfl,rfl⟩;have x:(s.heap.push {cls:=.type "dict",data:=.dict #[]}).DictOf 'Ϡ' Aa []:=Heap.DictOf.new VU;have l:(s.heap.push {cls:=.type "dict",data:=.dict #[]}).get? a=So o:=Zd _ ho;have hT1:({s with heap:=s.heap.push {cls:=.type "dict",data:=.dict #[]}}:Shared).TypeIs Ar (if T then "tuple" else "list"):=⟨o,l,X⟩;refine⟨x.typeIs,F.args_dict_init_2 _ _,?_⟩;unfold Builtin.«dict.__init__»;refine Za ?_;unfold Builtin.Dict.selfAndRest;refine Za (fW x.typeIs ?_);show wpAny _ _ (pure (Aa,Mh)) _ _ _;refine Zb ?_;show wpAny _ _ (Builtin.Dict.updateFrom "dict.__init__" Aa Ar [] .none) _ _ _;unfold Builtin.Dict.updateFrom;refine Za (kF hT1 ?_);rw[if_pos (by cases T<;>rfl)];have H:∀h' r,(∀b o,(s.heap.push {cls:=.type "dict",data:=.dict #[]}).get? b=So o->h'.get? b=So o)->wpAny As Yz Iu (λit y=>∃I fp wr St,it=.ref I/\y.os=s.os/\y.gens=Z6/\y.drawn=YI/\Walks prog w Yz I fp wr f.size (λi v=>f[i]? =So v) St/\St 0 y.heap/\s.heap.objs.size∉fp/\(∀b o,s.heap.get? b=So o->b∉wr)/\∀b o,h'.get? b=So o->y.heap.get? b=So o) E {s with heap:=h',toks:=r}:=by
  intro h' r G;have hD':=G _ _ (Ze (o:={cls:=.type "dict",data:=.dict #[]}) VU rfl);have L:Aa<Ce:=Zj hD';have B:=Zj ho;have N:a≠Ce:=λe=>by rw[e]at B;exact Nat.lt_asymm B L
  have O:Aa∉[Ce,a]:=by
   intro e;simp only[Zf,Zy,fA]at e;rcases e with e|e
   ·exact Zu L e
   ·exact rC B e
  have g:∀b o,s.heap.get? b=So o->b∉[Ce]:=λb o q e=>by have Z:=Zj q;simp only[Zf,Zy,fA]at e;rw[e]at Z;exact Nat.lt_asymm Z L
  cases T with
  |true=>have U:h'.IsTuple a f:=Oo;refine lP U ?_;exact⟨Ce,[Ce,a],[Ce],(λi h=>h.IsTupleIter Ce a i/\h.IsTuple a f),rfl,rfl,rfl,rfl,Walks.tuple (A:=Yz) hA _ a N f,Qb1,O,g,λb o q=>Zd _ q⟩
  |false=>have U:h'.IsList a f:=Oo;refine zJ U ?_;exact⟨Ce,[Ce,a],[Ce],(λi h=>h.IsListIter Ce a i/\h.IsList a f),rfl,rfl,rfl,rfl,Walks.list (A:=Yz) hA _ a N f,Qb1,O,g,λb o q=>Zd _ q⟩
 have J:∀{Q':Do}{E':Ay},(∀h' r,(∀b o,(s.heap.push {cls:=.type "dict",data:=.dict #[]}).get? b=So o->h'.get? b=So o)->Q' No {s with heap:=h',toks:=r})->wpAny As Yz (getAttr? Ar "keys") Q' E' {s with heap:=s.heap.push {cls:=.type "dict",data:=.dict #[]}}:=by
  intro Q' E' Y;cases T with
  |true=>exact JdU l X j hd hA Y
  |false=>exact Jey l X j hd hA Y
 refine Za (J λh' r G=>?_);simp only[Option.isNone_none,if_true];refine Za (kB (Za (thn (H h' r G) λit y zz0=>?_)));obtain⟨I,fp,wr,Sz,e1,e2,e3,e4,W9,st,hf,g,kp⟩:=zz0;subst e1;refine Zb QcJ;have hdw:Aa∉wr:=λz=>hf (W9.sub _ z);refine JpM W9 hf VU (Dk:=Dk) (λi Z h2 W M=>hkeep i Z h2 W λb o hb=>M b o (by rcases hb with rfl|⟨q,Y⟩;exact hdw;exact g b q Y)) (λi v hv=>?_) f.size 0 y _ _ Af Xs st ?_ (λb o _ _ q=>kp _ _ (G _ _ Qc2)) λh3 tk3 W M=>?_
 ·obtain⟨b,kv,xv,h2,h3,h4⟩:=hit i v hv;obtain⟨ob,g1,g2⟩:=h3;exact⟨b,kv,xv,h2,g b ob g1,Zu (Zj g1),⟨ob,g1,g2⟩,λC Q E W M q3=>h4 C Q E W (λb o q=>M b o (g b o q) (Zu (Zj q)) q) q3⟩
 ·exact hkeep _ _ _ d0 λb o _ q=>kp _ _ (G _ _ q)
 ·refine L4;have:=h h3 tk3 W λb o q=>M b o (g b o q) (Zu (Zj q)) q;obtain⟨hp',g',d',t',os'⟩:=y;simp only at e2 e3 e4;subst e2 e3 e4;exact this
end
end Rd
namespace Rd
open PySem PySem.Spec PyProof.Rows L2 Pu
variable{X:Cx}{pos p1 p2 px p3:Pos}{G:Gw}{N:Ac}{nm:Bj}{s:Al}{H H0:Hp}{a v e b:Expr}{pa pv pk p:Px}{w:AQ}{d:Addr}{prog:Ba}{A:Bv}{E:Ay}{ks J:Ak}{xs:Av}{o od:Obj}{i ep:Nat}{t:Bool}{x y:Str}{Y:A8}{Z:Bl}{M:Au}{es:GT}{K:Aj}{κ:Type}{vs:CF}
def JkW[DecidableEq κ]{a:Cm}{k:κ}{v:An}(h:k∉a.map (·.1)):stored a k v=a++[(k,v)]:=by unfold stored;rw[if_neg];intro q;obtain⟨p,g,f⟩:=vH.mp q;exact h (Zv.mpr ⟨p,g,ZZ f⟩)
theorem JbN[DecidableEq κ]{rows:Cm}(h:(rows.map (·.1)).Nodup):∀i,yC rows i=rows.take i
 |0=>by simp[yC]
 |i+1=>by
  cases q:rows[i]? with
  |none=>
   have:yC rows Bw=yC rows i:=by unfold yC;rw[yL,q];simp
   rw[this,JbN h i,yL,q];simp
  |some r=>
   rw[JcP q,JbN h i,yL,q,JkW]
   ·rfl
   ·intro m
    obtain⟨g,e⟩:=Zz.mp q
    obtain⟨p,l,z⟩:=Zv.mp m
    obtain⟨j,B,u⟩:=List.mem_take_iff_getElem.mp l
    have f:j<i:=by lia
    have:=(List.pairwise_iff_getElem.mp h) j i BR (by simpa using g) f
    simp[u,e,z]at this
def Jlv{f:D->Bool}{d:D}{vs:Ak}(h:zD f (d::J)=So (ks,vs)):∃k v,∃p:List D×List D,d=.tup [k,v]/\f k=To/\zD f J=So (p.1,p.2)/\ks=k::p.1/\vs=v::p.2:=by
 simp only[zD]at h;split at h
 ·split at h
  ·rename_i g;cases q:zD f J with
   |none=>rw[q]at h;cases h
   |some p=>rw[q]at h;cases h;exact⟨_,_,p,rfl,g,rfl,rfl,rfl⟩
  ·cases h
 ·cases h
def JtT{P:D->Bool}(I:BU):∀{J ks vs:Ak}{xs:Av}{its:AE},zD P J=So (ks,vs)->Reps X.K H J xs->Vals xs its->
  ∃(rs:List (V×V))(us:List (Value×Value)),Reps X.K H ks (rs.map (·.1))/\Reps X.K H vs (rs.map (·.2))/\Paired (λr u=>RelV r.1 u.1/\RelV r.2 u.2) rs us/\us.length=B0/\(∀k∈ks,P k=To)/\
   ∀(i:Nat)(v:An),its[i]? =So v->∃b u,us[i]? =So u/\v=Value.ref b/\IsTup VU b #[u.1,u.2]:=by
 intro J;induction J with
 |nil=>intro ks vs xs its h r j;cases h;cases r;cases j;exact⟨[],[],rfl,rfl,.nil,rfl,λk B=>by simp at B,λi v h=>by simp at h⟩
 |cons d J ih=>
  intro ks vs xs its h r j;obtain⟨x,xr,rfl,r1,r2⟩:=r;cases j with
  |@cons _ u _ ur rx C=>
  obtain⟨k,v,p,rfl,B,q,rfl,rfl⟩:=Jlv h;obtain⟨rs,us,W,e2,e3,e4,U,e5⟩:=ih q r2 C;obtain⟨a,ys,rfl,g1,g2⟩:=r1;obtain⟨y0,yr,rfl,g3,y1,yr',rfl,g4,g5⟩:=g2;cases g5;obtain⟨O,rt,ht,_⟩:=I.tuple g1;cases rt with
  |@cons _ L _ ur0 l rt=>
  cases rt with
  |@cons _ F _ ur1 m rt=>
  cases rt;cases rx;refine⟨(y0,y1)::rs,(L,F)::us,⟨_,_,rfl,g3,W⟩,⟨_,_,rfl,g4,e2⟩,.cons ⟨l,m⟩ e3,by simp[e4],λk' g=>by rcases Zf.mp g with rfl|z;exact B;exact U _ z,λi v f=>?_⟩;cases i with
  |zero=>simp only[lF,ZU]at f;subst f;exact⟨a,(L,F),rfl,rfl,ht⟩
  |succ i=>simp only[mF]at f⊢;exact e5 i v f
def Jxa:∀{ks:Ak}{rs:List (V×V)}{us:List (Value×Value)},Reps X.K H ks (rs.map (·.1))->Paired (λr u=>RelV r.1 u.1/\RelV r.2 u.2) rs us->(∀k∈ks,keyN k=To)->
  ∃(f:GJ)(rows:List (L2.Key×Value)),ks=f.map (λp=>keyV p.1)/\rs.map (·.2)=f.map (·.2)/\KV f rows/\rows.length=Qdv/\∀(i:Nat)(u:Value×Value),us[i]? =So u->∃k,rows[i]? =So (k,u.2)/\(JA XJ X.w).is k u.1=To:=by
 intro ks rs us r rv;induction rv generalizing ks with
 |nil=>intro _;cases ks with
  |nil=>exact⟨[],[],rfl,rfl,.nil,rfl,λi u h=>by simp at h⟩
  |cons k ks=>obtain⟨_,_,e,_⟩:=r;cases e
 |@cons p q ps qs m t ih=>
  intro C;cases ks with
  |nil=>cases r
  |cons k ks=>
   obtain⟨x,xr,e,B,W⟩:=r;simp only[Zg,qB]at e;obtain⟨rfl,rfl⟩:=e;obtain⟨f,rows,F,e2,e3,e4,U⟩:=ih W λI O=>C I (Zm _ O);obtain⟨p1,p2⟩:=p;obtain⟨l,q2⟩:=q;obtain⟨g,L,P⟩:∃g,k=keyV g/\(JA XJ X.w).is g l=To:=by
    have:=C k Ad;cases k<;>first|(cases this;done)|skip
    ·have z:RelV p1 l:=m.1;rw[show p1=V.non from B]at z;cases z;exact⟨.non,rfl,rfl⟩
    ·have z:RelV p1 l:=m.1;rw[show p1=V.str _ from B]at z;obtain⟨t,rfl⟩:=z;exact⟨.inr _,rfl,Jei _ _ _ _⟩
   refine⟨(g,p2)::f,(g,q2)::rows,by rw[L,F];rfl,by simp only[Zg];rw[e2],.cons ⟨rfl,m.2⟩ e3,by simp[e4],λi u j=>?_⟩;cases i with
   |zero=>simp only[lF,ZU]at j;subst j;exact⟨g,rfl,P⟩
   |succ i=>simp only[mF]at j⊢;exact U i u j
def JkR{f:GJ}(h:(f.map (λp=>keyV p.1)).Pairwise (λa b=>a.eqv b=Fo)):(f.map (·.1)).Nodup:=by rw[List.pairwise_map]at h;unfold List.Nodup;rw[List.pairwise_map];refine h.imp fun{a b}q e=>?_;rw[mE,oE]at q;exact q e
noncomputable def frzO (fz:Bool) (o:Obj) (ob:HO):HO:=if fz then .frz o ob else ob
def OutD(X:Cx)(H:Hp)(Q:VK)(d:D):Prop:=∀ks vs,d=.dct Fo To ks vs->∃f:Bool,∀l(kvs:GJ)o,H l=No->ks=kvs.map (λp=>keyV p.1)->Reps X.K QK vs (kvs.map (·.2))->Q BH QK
def OutD.of{Q:VK}{d:D}(h:dX):OutD X H Q d:=λks vs e=>⟨To,λl f o g j m=>by
 subst e
 exact h _ _ (λb ob e=>by rw[Jc (Ji e g)];exact e) ⟨l,_,rfl,⟨f,⟨o,Je⟩,j,rfl⟩,m⟩⟩
theorem JhY(g:Ci)(I:BU){a:Addr}{its:AE}{m:Nat}(T:Bool)(U:G0)(W:s.heap.get? a=So o)(hc:o.cls=.type (if T then "tuple" else "list"))(hd:o.dict=No)(F:o.data=.seq AF m)(hz:Ah<=sizeLine)(r:F1)
  {Q:VK} (h:(xN J).Good (OutD X H Q) Az) {E:Ay}:wpAny AD X.A (call K8 Mh) BP E s:=by
 unfold xN at h;split at h
 ·rename_i ks vs q;split at h
  ·rename_i hk;obtain⟨rs,us,f1,f2,f3,f4,f6,f5⟩:=JtT I q r U;obtain⟨kvs,rows,e1,f7,O,P,e5⟩:=Jxa f1 f3 f6;have e4:BN=B0:=P.trans f4;have e2:Reps X.K H vs (kvs.map (·.2)):=by rw[<-f7];exact f2
   subst e1;have hn:=JkR hk.1;have hn2:(rows.map (·.1)).Nodup:=by rw[<-O.keys];exact hn
   refine JdM (Dk:=λi h=>h.DictOf Lc Aa '些') T W hc hd F (I.ok.hd g) (Heap.DictOf.new VU) (λi h1 h2 q1 L=>?_) (λi v hv=>?_) λh' tk hD L=>?_
   ·obtain⟨o,es,ep,W,r⟩:=q1;exact⟨o,es,ep,L _ _ Be W,r⟩
   ·have z:its[i]? =So v:=by simpa using hv
    obtain⟨b,u,g1,g2,g3⟩:=f5 i v z;obtain⟨k,g4,g5⟩:=e5 i u g1;have hlt:i<B0:=(Zz.mp z).1;refine⟨b,u.1,u.2,g2,g3,λs1 Q E q1 q2 q3=>wpAny_dictSet_pairs (hsz:=Zq Im (by rw[U.length]at hz;lia)) g5 q1 λh'' l C=>?_⟩;exact q3 _ _ (by rw[JcP g4];exact l) C.2
   have hsz:CL=BN:=by rw[Zo,e4]
   rw[JbN hn2,hsz,List.take_length]at hD;obtain⟨B,es,ep,f,hr⟩:=hD;have hl:AV<=sizeLine:=by rw[O.length,e4,<-U.length];exact hz
   have j:=I.hok.fresh (Zh Aa);have sm:∀ob,Same H (upd H Aa ob):=λob b ob' e=>by rw[Jc (Ji e j)];exact e
   have big:=ZA.mpr (Ne.symm (Zu I.big));obtain⟨fz,h⟩:=h _ _ rfl;cases fz with
   |true=>exact⟨.ref Aa,upd H Aa (.frz B AN),I.laid L (Zh _) ⟨f,hl,big,rows,O,B,es,ep,f,hr⟩,rfl,h _ kvs B j rfl Qa3⟩
   |false=>exact⟨.ref Aa,upd H Aa AN,I.laid L (Zh _) ⟨hl,big,rows,O,B,es,ep,f,hr⟩,rfl,h _ kvs B j rfl Qa3⟩
  ·exact h.elim
 ·exact h.elim
def Jpn(f:Ci):oA X K8 (λxs H Q=>∃x d,xs=[x]/\Rep X.K H d x/\(op1 .dictP d).Good (OutD X H Q) Az):=by
 rintro Y s Z H xs U Q I O⟨x,d,e,r,h⟩;subst e;cases d with
 |tup J=>obtain⟨a,P,rfl,g,L⟩:=r;obtain⟨u,rfl,m⟩:=xA O;cases m;obtain⟨B,o,n,z,l,j,F,C,q⟩:=I.tupleD g;exact JhY f I To z l j F C q L h
 |lst J=>obtain⟨a,P,rfl,g,L⟩:=r;obtain⟨u,rfl,m⟩:=xA O;cases m;obtain⟨B,z,⟨o,n,l,j,F,C⟩,q⟩:=I.list g;exact JhY f I Fo z l j F C q L h
 |_=>exact(show False from h).elim
def JsM(f:Ci):oA X K8 (rC1 X .dictP):=λY s Z H xs j Q I g⟨x,d,e,r,h⟩=>Jpn f Y s Z H xs j Q I g ⟨x,d,e,r,h.imp λ_ z=>OutD.of z⟩
section
variable{U:Ag}
def Jyt(C:Am)(g:G.mg "dict"=No)(f:AO)(h:gloB nm "dict"=To)(hs:DP):PE X (.Call (.Name "dict" p1) [a] [] pos) (tI X U (.un .dictP pa)):=KW C (JsM Yq) f h g PyProof.Rows.boot_dict Ab Ab hs
end
section
variable{U:Ag}
theorem JgQ{f g:Type}{R:f->g->Prop}:∀{xs:List f}{us:List g},Ah=us.length->(∀(j:Nat)x u,xs[j]? =So x->us[j]? =So u->R x u)->Paired R xs us
 |[],[],_,_=>.nil
 |x::xs,u::us,h,k=>.cons (k 0 x u rfl rfl) (JgQ (by simpa using h) λj x u a b=>k (j+1) x u (by simpa using a) (by simpa using b))
end
section
variable{U:Ag}{k:Expr}
theorem eDsp1(C:Am)(hK:NoKT G.K)(hk:PE X k Ni)(hv:RX):PE X (.Dict [So k] [v] pos) (tI X U (.dsp To (.cons pk .nil) (.cons pv .nil))):=by
 rintro Y s Z H Q I⟨O,r,h⟩;simp only[evD,Rs.bind_assoc,dspD]at h;have hn:=I.hok.fresh (Zh Aa);have I1:=I.laid (a:=Aa) (o:=.dT []) (h':=s.heap.push {cls:=.type "dict",data:=.dict #[]}) (t':=XF) Nd (Zh _) Oi;have eH:hid [Aa] MM=H:=by
  funext c;by_cases q:c=Aa
  ·rw[iG (by simp[q]),q,hn]
  ·rw[Jt (by simpa using q),Jc q]
 have hL:Ows [Aa] MM:=λc W=>by
  have:c=Aa:=by simpa using W
  exact⟨.dT [],by rw[this];exact Je,ZT⟩
 obtain⟨ps,g1,g2,I2⟩:=Rd.Inv.hide I1 hL.c;rw[eH]at I2;refine wpAny_Dict_any rfl rfl Ad Ad ?_;refine pairTrees_cons_walk (thn (hk (ps++Y) _ Z H (λx l=>∃d,Same H l/\Rep X.K l d x/\((evD U pv O).bind λy=>if keyD To d then .ok (.dct To To [d] [y])else .sk).Good Ct Az) I2 Dd) λu s1⟨x,l,J1,rx,d,e1,e3,e4⟩=>?_)
 ·refine(Rs.gB.mp h).mono (λd F x l sm rx=>⟨d,sm,rx,?_⟩) λc W=>W;simpa only[Rs.bo,D.asL]using F
 refine thn (hv (ps++Y) s1 Z l (λy f=>∃B,Same l f/\Rep X.K f B y/\(if keyD To d then Rs.ok (D.dct To To [d] [B])else .sk).Good Ct Az) J1 ⟨O,r.mono e1,?_⟩) λw2 s2⟨y,f,J2,ry,B,f1,f2,f3⟩=>?_
 ·exact(Rs.gB.mp e4).mono (λB F y f sm ry=>⟨B,sm,ry,F⟩) λc W=>W.mono e1
 refine pairTrees_nil_walk ?_;obtain⟨u1,J3⟩:=Rd.Inv.unhide I1 hL.c g1 g2 (λb xs q=>(show Same _ _ by rw[eH];exact e1.trans f1) b _ q) J2;have j:=u1 Aa Ad;have g:uni [Aa] MM f Aa=So bF:=by rw[zI 'j'];exact Je
 split at f3
 ·rename_i hkd;have hKX:NoKT X.K:=by rw[C.K];exact hK
  obtain⟨b,ks,rfl,rfl,hb⟩:=sS hKX hkd e3;cases(show u=Value.ref b from rx);have L:=(hb J1.noH).keep λ_ _ q=>f1 _ _ q;have nb:b≠Aa:=let⟨_,q⟩:=L.tup;Ji q j;have m:KB Wj ks b:=L.keep λc xs q=>by rw[JS (by simpa using Ji q j)];exact q
  obtain⟨z,F,xs,rel,dd⟩:=Jwk J3.hok g;cases rel;unfold storeAll;rw[uP];refine Za (Za (wpAny_dictSet_heap (hsz:=vB _) (show X.A.units+50<cLine by have:=C.un;lia) (L2.key_of J3.hok m) dd λh' dd' hs=>Zb ?_));show wpAny _ _ (forIn [] PUnit.unit _) _ _ _;rw[gP];refine Zb ?_;obtain⟨q,es,ep,hq,h2,h3,h4,_,h5⟩:=dd';have st:storedH [] ks b w2=[(ks,b,w2)]:=rfl;rw[st]at h4 h5;have hob:ObjOk XJ X.w O3 h' Aa WM:=
   ⟨hq,by rw[ZG];show 1<=_;decide,F,[(ks,b,w2)],.cons ⟨rfl,m.keep (λc xs q=>by rw[Jc (uW q g (λz=>nomatch z))];exact q),ry⟩ .nil,q,es,ep,hq,h2,h3,h4,h5⟩
  have I3:=mT (t':=s2.toks+(Jex XJ X.w).draws ks) J3 (by rw[g];exact ZT) hs ⟨q,hq⟩ hob;have P:Same f O3:=λc ob e=>by have nc:=Ji e j;rw[Jc nc,JS (by simpa using nc)];exact e
  exact⟨.ref Aa,_,I3,rfl,f3 _ _ ((e1.trans f1).trans P) ⟨_,_,rfl,⟨[(ks,y)],⟨q,Je⟩,rfl,rfl⟩,Reps.one (f2.mono P)⟩⟩
 ·exact f3.elim
end
section
variable{U:Ag}{pe:Px}
def PJV(X:Cx)(U:Ag)(vs:CF)(p:Px):Prop:=∀(Y:A8)(s:Al)(Z:Bl)(H:Hp)(O:Fm)(f:Str)(Q:Str->Shared->Prop)(J:Ak)(y:Str),L2.Inv X Y Z H s->ReadOk X.K H Z O->evD U p O=.ok Bc->zG J=So y->
 f.length+y.length<=1000000->(∀h g,L2.Inv X Y Z g h->Same H g->Q (f++y) h)->Joins AD X.A X.xe OF f Q s
def JoM(x:Str):x++Str.empty=x:=by cases x with|mk c=>show Str.mk (c++#[])=_;simp
def JhD(x y z:Str):x++y++z=x++(y++z):=by cases x with|mk a=>cases y with|mk b=>cases z with|mk c=>exact kA Str.mk (Array.append_assoc ..)
def Jsy:PJV X U [] .nil:=λY s Z H O g Q J y I r f h j k=>by
 cases f
 cases h
 have:=k s H I D8
 rw[JoM]at this
 exact this
def Jfi{d:D}(h:zG (d::J)=So y):∃a b,yK d=So a/\zG J=So b/\y=a++b:=by
 unfold zG at h;split at h
 ·rename_i a b f g;split at h
  ·cases h;exact⟨a,b,f,g,rfl⟩
  ·cases h
 ·cases h
theorem JqV(he:PE X e (tI X U pe))(hs:pI pe=To)(h:PJV X U vs p):PJV X U (.FormattedValue e (-1) No pos::vs) (.cons pe p):=by
 intro Y s Z H O m Q J y I r f hy hl kk;simp only[evD]at f;rcases nO U (O:=O) hs with q|⟨d,q⟩
 ·rw[q]at f;cases f
 rw[q]at f;simp only[Rs.bo]at f;cases L:evD U p O with
 |ex c=>rw[L]at f;cases f
 |sk=>rw[L]at f;cases f
 |ok d2=>
  rw[L]at f;cases d2 with
  |lst es=>
   simp only[Pu.D.asL,Rs.bo]at f;cases f;obtain⟨a,b,g,e2,rfl⟩:=Jfi hy;rw[JU]at hl;have rest:∀(l:Al)j,L2.Inv X Y Z j l->Same H j->Joins AD X.A X.xe OF (m++a) Q l:=λl j C sm=>
    h Y l Z j O (m++a) Q es b C (r.mono sm) L e2 (by rw[JU];lia) λs2 H2 I2 P=>by rw[JhD];exact kk s2 H2 I2 (sm.trans P)
   have hz:(m++a).length<=sizeLine:=by rw[JU,ZG];lia
   refine wpAny_FormattedValue_plain (ZY (he Y s Z H (λv W=>Rep X.K W d v/\Same H W) I ⟨O,r,by rw[q];exactλv W l F=>⟨F,l⟩⟩) (λu l⟨v,j,C,F,hv,sm⟩=>?_) λ_ _ z=>z);cases d with
   |str z=>
    cases hv;obtain⟨t,rfl⟩:=F;simp only[yK]at g;split at g
    ·rename_i B;cases g;exact formatField_str (λt' tk=>⟨_,t',rfl,hz,rest _ j (C.tok tk) sm⟩) (by rw[ZG];lia)
    ·cases g
   |int i=>
    cases hv;obtain⟨t,rfl⟩:=F;simp only[yK]at g;split at g
    ·rename_i B;cases g;refine formatField_int_small ?_ ⟨_,_,rfl,hz,rest _ j (C.tok _) sm⟩;by_cases h0:i.natAbs=0
     ·rw[h0];decide
     ·exact ZB ((Nat.log2_lt h0).mpr B) AB
    ·cases g
   |_=>simp[yK]at g
  |_=>cases f
theorem eFst{j l:Expr}(h:PJV X U (j::l::vs) p)(z:rK p=To):PE X (.JoinedStr (j::l::vs) pos) (tI X U (.un .join p)):=by
 rintro Y s Z H Q I⟨O,r,g⟩;simp only[evD]at g;rcases Jhy U (O:=O) z with q|⟨J,q⟩
 ·rw[q]at g;exact g.elim
 rw[q]at g;simp only[Rs.bo,op1]at g;cases f:zG J with
 |none=>rw[f]at g;exact g.elim
 |some y=>
  rw[f]at g;have L:y.length<=2000:=by
   cases J with
   |nil=>cases f;decide
   |cons d J=>
    unfold zG at f;split at f
    ·split at f
     ·rename_i B;cases f;rw[JU];exact B
     ·cases f
    ·cases f
  refine wpAny_JoinedStr (h Y s Z H O Yp _ J y I r q f (by show 0+_<=_;lia) λF m C sm=>⟨?_,.str _,m,C.tok _,AS,?_⟩)
  ·rw[JU];show 0+_<=16777216;lia
  ·have u:Str.empty++y=y:=by cases y with|mk c=>show Str.mk (#[]++c)=_;simp
   rw[u];exact g _ _ sm rfl
end
section
variable{it:Addr}{ok ov:An}
theorem JqW{e:DictEntry}{Q:Do}(hit:VG)(u:s.heap.get? d=So od)(z:Ee)(hx:es[i]? =So e)
  (hQ:∀U,IsItemIterOut U it d Bw XG ep YA Yt Aa->U.get? Aa=So {cls:=.type "tuple",data:=.seq #[e.key,Yt]}->
   (∀b o,b≠it->s.heap.get? b=So o->U.get? b=So o)->Q (So Fi) {s with heap:=U}):
  wpAny As A Dy Q E s:=by
 obtain⟨j,g,C,L,I⟩:=s;have B:Shared.TypeIs ⟨j,g,C,L,I⟩ B7 "dict_itemiterator":=Qd7;have own:Builtin.Dict_items.ownsTuple "dict_itemiterator"=To:=by decide
 unfold pyNext;refine Za (nE (ZM (name:=oS "__next__") B lQ (ZD lQ B bA ?_ Vr)));refine Za (Zb (Za (Za ?_)));refine Za (mQ B (Zb (Za (oG hit rfl ?_))));simp only[own,if_true];show wpAny _ _ (if Fb=To then _ else _) _ _ _;rw[if_neg (show¬(Fb=To)from ZH)];refine Za (Zb (Za (xJ u z ?_)));rw[if_neg 'j'];refine Za (Zb (Za (nJ u z ?_)));rw[if_neg 'j'];refine Zb ?_;simp only[show¬((i:Int)<0)from by lia,ZF,rF,hx];refine Za (Za (mQ B (Zb (Za (iW B ?_)))));show wpAny _ _ (setField B7 3 (rawInt ((i:Int)+1))>>=_) _ _ ⟨j,g,C,L,I⟩;refine Za (qC hit Ad λh m l=>?_);replace l:Heap.SameBut it j h:=l;replace m:IsItemIter h it d Bw XG ep ok ov:=by unfold IsItemIter;rw[show((i+1:Nat):Int)=(i:Int)+1 by lia];simpa[rawInt]using m
 have O:Shared.TypeIs ⟨h,g,C,L,I⟩ B7 "dict_itemiterator":=⟨_,m,rfl⟩;refine Za (wA (Za (iW O (Za (iW O ?_)))));show wpAny _ _ (Builtin.Dict_items.pairFromOwner B7 6 YA Yt) _ _ ⟨h,g,C,L,I⟩;unfold Builtin.Dict_items.pairFromOwner;refine Za (wpAny_newTuple ?_);have z1:h.objs.size=j.objs.size:=l.1;have il:it<j.objs.size:=Zj hit;have ne:j.objs.size≠it:=rC il;show wpAny _ _ (Builtin.Dict_items.ownedTupleIsFree B7>>=_) _ _ ⟨h.push {cls:=.type "tuple",data:=.seq #[e.key,Yt]},g,C,L,I⟩;have P:(h.push {cls:=.type "tuple",data:=.seq #[e.key,Yt]}).get? j.objs.size=So {cls:=.type "tuple",data:=.seq #[e.key,Yt]}:=by rw[<-z1];exact Ze _ rfl
 have f:IsItemIter (h.push {cls:=.type "tuple",data:=.seq #[e.key,Yt]}) it d Bw XG ep ok ov:=Zd _ m;have k2:∀b o,b≠it->j.get? b=So o->(h.push {cls:=.type "tuple",data:=.seq #[e.key,Yt]}).get? b=So o:=λb o r q=>Zd _ (l.extBut b o r q);rw[z1];generalize h.push {cls:=.type "tuple",data:=.seq #[e.key,Yt]}=h2 at P f k2⊢;refine Za ?_;unfold Builtin.Dict_items.ownedTupleIsFree;refine Za (ZS f rfl (x:=.none) rfl (Zb ?_));simp only[if_true];refine Za (ZS f rfl (x:=ok) rfl (Za (ZS f rfl (x:=ov) rfl ?_)));refine Za (qC f Ad λh3 he3 hs3=>Za (qC (show IsItemIter h3 it d Bw XG ep YA ov from he3) Ad λh4 he4 W=>?_));refine Za (qC (show IsItemIter h4 it d Bw XG ep YA Yt from he4) Ad λh5 he5 hs5=>?_);refine Za (qC (show IsItemIterOut h5 it d Bw XG ep YA Yt j.objs.size from he5) Ad λh6 he6 hs6=>?_);have kk:∀b o,b≠it->h2.get? b=So o->h6.get? b=So o:=λb o r q=>
  (show Heap.SameBut it h5 h6 from hs6).extBut b o r ((show Heap.SameBut it h4 h5 from hs5).extBut b o r ((show Heap.SameBut it h3 h4 from W).extBut b o r ((show Heap.SameBut it h2 h3 from hs3).extBut b o r q)))
 exact Za (wpAny_letGo (Zb (Zb ⟨_,rfl,Zb (hQ h6 he6 (kk _ _ ne P) λb o r q=>kk b o r (k2 b o r q))⟩)))
theorem Jtc{Q:Do}(I:Bh)(hit:VG)(h:s.heap.get? d=So od)(j:Ee)(L:es[i]? =No)
  (O:∀C,(∀b o,b≠it->s.heap.get? b=So o->C.get? b=So o)->Q No {s with heap:=C}):
  wpAny As A Dy Q E s:=by
 obtain⟨q,g,r,z,u⟩:=s;have l:Shared.TypeIs ⟨q,g,r,z,u⟩ B7 "dict_itemiterator":=Qd7;have own:Builtin.Dict_items.ownsTuple "dict_itemiterator"=To:=by decide
 unfold pyNext;refine Za (nE (ZM (name:=oS "__next__") l lQ (ZD lQ l bA ?_ Vr)));refine Za (Zb (Za (Za ?_)));refine Za (mQ l (Zb (Za (oG hit rfl ?_))));simp only[own,if_true];show wpAny _ _ (if Fb=To then _ else _) _ _ _;rw[if_neg (show¬(Fb=To)from ZH)];refine Za (Zb (Za (xJ h j ?_)));rw[if_neg 'j'];refine Za (Zb (Za (nJ h j ?_)));rw[if_neg 'j'];refine Zb ?_;simp only[show¬((i:Int)<0)from by lia,ZF,rF,L];refine Za (Za (mQ l (Zb ?_)));show wpAny _ _ (setField B7 2 .none>>=_) _ _ ⟨q,g,r,z,u⟩;refine Za (qC hit Ad λB P f=>?_);replace f:Heap.SameBut it q B:=f;show wpAny _ _ (newExc Nt []>>=_) _ _ ⟨B,g,r,z,u⟩;refine Za ?_;simp only[newExc,newTuple];refine Za (ZJ (Za (m:=firstArgMember _ _) (wpAny_of_eq (a:=XH) (by first|rfl|(simp only[firstArgMember];rfl)) (ZJ ?_ (by size_fits)))) (by size_fits));delta raiseNew;refine Za (wpAny_handled ?_);rw[show A.in1.handled=No from I];refine Za (Zb (wpAny_throw ?_));refine Za (oF (T:="StopIteration") (b:=To) F8 kM ?_);exact Zb (O _ ((f.extBut.push _).push _))
end
def KR(H:Hp)(d:D)(v:V):Prop:=(∃c,d=keyV c/\v=kV c)\/∃c,d=qI c/\KH H (.t c) v
def KR.rep{d:D}{v:V}(h:KR H d v):Rep K H d v:=by
 rcases h with⟨c,rfl,rfl⟩|⟨c,rfl,h⟩
 ·cases c<;>rfl
 ·exact Jse (.t c) h
def KR.hid{L:A9}{d:D}{v:V}(g:Qcx)(h:KR H d v):KR Bm d v:=by
 rcases h with h|⟨c,e,h⟩
 ·exact .inl h
 ·refine .inr ⟨c,e,KH.keep (λb xs q=>?_) _ h⟩;rw[Jt λz=>?_]
  ·exact q
  ·obtain⟨o,f,j⟩:=g b z;rw[q]at f;cases f;exact j
def Jka{Q:Ay}(j:s.heap.get? d=So od)(l:od.cls=.type "dict")(g:(d==sysModules)=Fo)
  (h:Q Fi {s with heap:=s.heap.push {cls:=.type "dict_items",data:=.fields #[.ref d]}}):wpAny As A (call (.builtin "dict.items") [.ref d]) Q E s:=by have f:s.TypeIs D3 "dict":=⟨od,j,l⟩;refine ZD F.slot_dict_items f F.entry_dict_items ?_ (F.args_dict_items_1 _);unfold Builtin.«dict.items»;refine Za ?_;unfold Builtin.Dict.noArgs;refine Za (fW f ?_);show wpAny _ _ (pure d) _ _ s;refine Zb ?_;show wpAny _ _ (Builtin.Dict.showsAll d>>=_) _ _ s;unfold Builtin.Dict.showsAll;rw[if_neg (by rw[g];exact ZH)];exact Za (Zb (Za (ZJ (Zb FX))))
theorem Jkx{v:Addr}{Q:Ay}(j:s.heap.IsItemsView v d)(l:s.heap.get? d=So od)(f:Ee)
  (q:Q Fi {s with heap:=s.heap.push {cls:=.type "dict_itemiterator",data:=.fields #[.none,.bool Fo,.ref d,.int 0 0,.int XG 0,.int ep 0,.none,.none]}}):wpAny As A (pyIter (.ref v)) Q E s:=by
 obtain⟨r,g,m,h⟩:=id j;have own:Builtin.Dict_items.ownsTuple "dict_itemiterator"=To:=by decide
 refine zL j.typeIs eK (ZD eK j.typeIs F.entry_dict_items_iter ?_ (F.args_dict_items_iter_1 _));unfold Builtin.«dict_items.__iter__»;refine Za (Zb (Za ?_));unfold Builtin.Dict_items.dictOf;refine Za (ZS g h (x:=.ref d) rfl (Zb (Za ?_)));unfold Builtin.Dict_items.newIterator;refine Za (xJ l f (Za (nJ l f ?_)));simp only[own,if_true];refine ZJ (Zb ⟨_,rfl,"dict_itemiterator",_,F8,aF,?_⟩) (by simp only[sizeOk,Builtin.Dict_items.ownedTupleFields,Zo,Zn,Zk,uD,ZG];lia);simpa[rawInt,Builtin.Dict_items.ownedTupleFields]using q
def DKo(H:Hp)(d:Addr)(t:Bool)(o:Obj)(ks:Ak)(xs:Av):Prop:=match t with
 |true=>∃kvs:List (List (KTr Yu)×V),H d=So (.frz o BA)/\ks=kvs.map (λp=>qI p.1)/\xs=kvs.map (·.2)
 |false=>∃kvs:List (L2.Key×V),H d=So (.frz o AN)/\ks=kvs.map (λp=>keyV p.1)/\xs=kvs.map (·.2)
def DKo.of(h:DK H d t To ks xs):∃o,DKo H d t o ks xs:=by cases t<;>obtain⟨f,⟨o,q⟩,j,g⟩:=h<;>exact⟨o,f,q,j,g⟩
def DKo.same{W:Hp}(s:B9)(h:Hw):DKo W d t o ks xs:=by cases t<;>obtain⟨f,q,g,j⟩:=h<;>exact⟨f,s _ _ q,g,j⟩
def DKo.inj{H:Hp}{d:Addr}{t:Bool}{o B:Obj}{ks f:Ak}{xs g:Av}(h:Hw)(h':DKo H d t B f g):ks=f/\xs=g:=by cases t<;>obtain⟨z,q,u,C⟩:=h<;>obtain⟨m,r,l,j⟩:=h'<;>rw[q]at r<;>cases r<;>exact⟨u.trans l.symm,C.trans j.symm⟩
def DKo.len(h:Hw):AC=Ah:=by cases t<;>obtain⟨f,_,rfl,rfl⟩:=h<;>simp
def Iti (K:Aj) (t:Bool) (d:Addr) (o:Obj):It:=
 ⟨λi H=>∃ks xs,DKo H d t o ks xs/\i<Ah,
  λi H x W=>∃T f y,H T=No/\x=.ref T/\W=upd H T (.tup [f,y])/\∀ks xs,DKo H d t o ks xs->xs[i]? =So y/\∃k,ks[i]? =So k/\KR H k f,
  λi H=>∃ks xs,DKo H d t o ks xs/\xs.length=i⟩
def Jxt:ItOk IK:=λL i H x W f⟨T,z,y,g,B,m,j⟩=>by
 have h:=Jax f g
 refine⟨T,z,y,by rw[Jt h];exact g,B,by rw[m,JiL h],λks xs q=>?_⟩
 obtain⟨l,k,u,r⟩:=j ks xs (q.same hid_same)
 exact⟨l,k,u,r.hid f⟩
theorem mV{f g:Type}{R:f->g->Prop}:∀{xs:List f}{us:List g}{i:Nat}{x:f},Paired R xs us->xs[i]? =So x->∃u,us[i]? =So u/\R x u
 |_,_,_,_,.nil,e=>by simp at e
 |_,_,0,_,.cons r t,e=>by simp at e;subst e;exact Mi
 |_,_,i+1,_,.cons r t,e=>by
  obtain⟨u,h,j⟩:=mV (i:=i) t (by simpa using e)
  exact⟨u,by simpa using h,j⟩
theorem uT(I:BU)(h:Hw):s.heap.get? d=So o/\o.cls=.type "dict"/\o.dict=No/\(d==sysModules)=Fo/\∃es ep,YL=.dict es ep/\es.size=Ah/\
  ∀i,i<Ah->∃e k kv y,es[i]? =So e/\ks[i]? =So k/\xs[i]? =So y/\RelV y Yt/\RelV kv YA/\KR H k kv:=by
 cases t with
 |true=>
  obtain⟨kvs,q,rfl,rfl⟩:=h;obtain⟨g,g1,L,ys,l,o',es,ep,B,z,g6,U,F⟩:=I.hok d _ q;rw[g]at B;cases B;have W:es.size=AV:=by have:=kA YM U;rw[Zi,<-uH l]at this;simpa using this
  refine⟨g,z.1,z.2.1,L,es,ep,g6,by simp[W],λi P=>?_⟩;have f:i<AV:=by simpa using P
  obtain⟨⟨k,b,v⟩,C,e2,O,e4⟩:=mV l (ZC f);have ee:es[i]? =So (entryOfKey RT (k,b,v)):=by rw[<-kI,U,xB,C];rfl
  refine⟨_,qI (kvs[i]).1,.ref b,(kvs[i]).2,ee,by simp[f],by simp[f],e4,rfl,.inr ⟨_,rfl,O.1⟩⟩
 |false=>
  obtain⟨kvs,q,rfl,rfl⟩:=h;obtain⟨g,g1,L,ys,l,o',es,ep,B,z,g6,U,F,g9⟩:=I.hok d _ q;rw[g]at B;cases B;have W:es.size=AV:=by have:=F.length;rw[<-uH l]at this;simpa using this
  refine⟨g,z.1,z.2.1,L,es,ep,g6,by simp[W],λi P=>?_⟩;have f:i<AV:=by simpa using P
  obtain⟨⟨k,v⟩,C,e2,O⟩:=mV l (ZC f);have u:i<es.size:=by lia
  obtain⟨hk,hv⟩:=F.get? (e:=es[i]) (by simp[u]) C;have rk:RelV (kV (kvs[i]).1) es[i].key:=by
   rw[e2];rcases Js hk with⟨j,t,r,m⟩|⟨y,t,r,m⟩|⟨r,m⟩
   ·rw[r,m];exact GY
   ·rw[r,m];exact GY
   ·rw[r,m];rfl
  refine⟨es[i],keyV (kvs[i]).1,kV (kvs[i]).1,(kvs[i]).2,by simp[u],by simp[f],by simp[f],by rw[hv];exact O,rk,.inl Qd8⟩
def Jnl:entryFor table "dict_itemiterator.__iter__"=So Builtin.«dict_keyiterator.__iter__»:=entryFor_alias (id':="dict_keyiterator.__iter__") (by kernel_rfl) (by first|rfl|decide+kernel) Ab (by kernel_rfl)
def JjX{P:Ba}{B:CF}{k:Nat}{L:Pos}(t:Bool)(d it:Addr)(o:Obj)(es:GT)(ep:Nat)(g:o.data=.dict es ep):
  Turn P w K (.Tuple B k L) IK [it] it (λi h=>∃ok l,IsItemIter h it d i XG ep ok l)where
 mem:=by simp
 obj:=λi h⟨ok,l,f⟩b r=>by
  have e:b=it:=by simpa using r
  subst e
  exact⟨_,f,λv z=>by cases z⟩
 keep:=λi h h'⟨ok,l,f⟩q=>⟨ok,l,q it Ad _ f⟩
 item:=by
  rintro X hP hw hK hc i Y s Z H E I W⟨ok,l,f⟩⟨ks,xs,hq,hi⟩;subst hP hw hK;obtain⟨g0,_,_,_,es',ep',O,g2,g3⟩:=uT I hq;rw[g]at O;cases O;obtain⟨e,k',kv,y,e1,e2,e3,e4,e5,e6⟩:=g3 i hi;refine JqW f g0 g e1 λh' he u hk=>⟨_,rfl,wpAny_letOwnedTupleGo_items he λh2 he2 j=>?_⟩;have C:it<Aa:=Zj f;have m:∀b o,b∉[it]->s.heap.get? b=So o->h2.get? b=So o:=λb o r q=>by have h1:b≠it:=λz=>r (by simp[z]);exact(j.2 b h1).trans (hk b o h1 q)
  have U:h2.get? Aa=So {cls:=.type "tuple",data:=.seq #[e.key,Yt]}:=(j.2 _ (rC C)).trans u;have hfr:H Aa=No:=I.hok.fresh (Zh _);have I2:L2.Inv X Y Z (upd H Aa (.tup [kv,y])) {s with heap:=h2,toks:=XF}:=
   JbT I W m (Zh _) ⟨⟨by rw[ZG];show 2<=_;decide,λo q=>by rw[U]at q;cases q;rfl⟩,[e.key,Yt],.cons e5 (.cons e4 .nil),_,U,rfl,_,rfl⟩
  refine⟨.ref Aa,_,I2,rfl,⟨Aa,kv,y,hfr,rfl,rfl,λks' xs' hq'=>?_⟩,⟨_,_,he2⟩,λb r=>?_⟩
  ·obtain⟨rfl,rfl⟩:=hq.inj hq';exact⟨e3,k',e2,e6⟩
  ·have e:b=it:=by simpa using r
   subst e;rw[Jc (Zu C)];exact(W b Ad).1
 done:=by
  rintro X hP hw hK hc i Y s Z H E I W⟨ok,l,f⟩⟨ks,xs,hq,hi⟩;subst hP hw hK;obtain⟨g0,_,_,_,es',ep',O,g2,g3⟩:=uT I hq;rw[g]at O;cases O;exact Jtc KZ f g0 g (by simp[g2,hi]) λh' hx'=>⟨rfl,yO (tk:=XF) I W λb o r q=>hx' b o (λz=>r (by simp[z])) q⟩
 self:=λA i s Q E⟨ok,l,f⟩h=>by
  have u:s.TypeIs B7 "dict_itemiterator":=HY;refine zL u bR (ZD bR u Jnl ?_ (F.args_dict_itemiterator_iter_1 _));show wpAny _ _ (ret B7) _ _ s;exact Zb ⟨_,rfl,"dict_itemiterator",_,u,aF,h⟩
theorem Jkm{vs:Ak}(h1:Hw)(B:Reps K H vs xs):Walk K IK H '亝':=by
 intro W sm;have l:=cV;have l2:=h1.len;have g:=h1.same sm;have j:=B.mono sm;have C:∀(a b:Ak),Yx=b.length->(zipD a b).length=b.length:=by
  intro a;induction a with
  |nil=>intro b e;cases b with
   |nil=>rfl
   |cons _ _=>simp at e
  |cons x a m=>intro b e;cases b with
   |nil=>simp at e
   |cons y b=>simp[zipD,m b (by simpa using e)]
 have F:∀(a b:Ak)(i:Nat)(x y:D),a[i]? =So x->b[i]? =So y->(zipD a b)[i]? =So (.tup [x,y]):=by
  intro a;induction a with
  |nil=>intro b i x y e;simp at e
  |cons z a m=>intro b i x y h f;cases b with
   |nil=>simp at f
   |cons u b=>cases i with
    |zero=>simp at h f;subst h f;rfl
    |succ i=>simp only[mF]at h f;simp only[zipD,mF];exact m b i x y h f
 have q:'亝'.length=Ah:=by rw[C ks vs 'h'];lia
 refine⟨λi hi=>⟨ks,xs,g,by lia⟩,⟨ks,xs,g,q.symm⟩,λi x I hi⟨T,kv,y,L,h,f,O⟩=>?_⟩;subst h;subst f;obtain⟨g1,k,U,P⟩:=O ks xs g;obtain⟨r,hd,rd⟩:=j.get' g1;obtain⟨s1,r1⟩:=wG (K:=K) (J:=[k,r]) (xs:=[kv,y]) L ⟨_,_,rfl,P.rep,_,_,rfl,rd,rfl⟩;exact⟨s1,_,F ks vs i k r U hd,r1⟩
section
variable{U:Ag}{ap tp:Pos}{elts:CF}{kk:Nat}
def JqF(ha:AO)(P:V0)(hl:(Qbm==XT)=To):
  PI X Na PY (tW X U (.un .items pa)):=by
 rintro Y s Z H R I⟨O,r,h⟩;refine fM P rfl hl oM eG eI (thn (ha Y s Z H (λv W=>∃t ks vs d xs,v=.ref d/\DK W d t To ks xs/\Reps X.K W vs xs/\Same H W/\∀B m,Same H m->Walk X.K B m (zipD ks vs)->ItOk B->R B m) I Dd) λu s1 zz=>?_)
 ·refine(Rs.gB.mp h).imp λdd F v W s1 rv=>?_;cases dd with
  |dct t z ks vs=>
   cases z with
   |true=>obtain⟨J,e,C⟩:=F;cases e;obtain⟨d,xs,rfl,l,L⟩:=rv;exact⟨t,ks,vs,d,xs,rfl,l,L,s1,C⟩
   |false=>exact(show False from F).elim
  |_=>exact(show False from F).elim
 obtain⟨v,H1,j,ru,t,ks,vs,d,xs,e1,l,L,s2,C⟩:=zz;subst e1;cases(show u=Value.ref d from ru);obtain⟨o,q3⟩:=DKo.of l;obtain⟨g,gc,gd,gm,es,ep,g1,g2,g3⟩:=uT j q3;refine⟨⟨o,g,gc⟩,λb e=>by cases e;exact⟨o,g,gd⟩,?_⟩;refine lI rfl (PySem.evalArgs_none ?_);refine Jka g gc gm ?_;refine Jkx CP (Zd _ g) g1 ?_;have kp:∀b ob,s1.heap.get? b=So ob->((s1.heap.push {cls:=.type "dict_items",data:=.fields #[.ref d]}).push {cls:=.type "dict_itemiterator",data:=.fields #[.none,.bool Fo,.ref d,.int 0 0,.int XG 0,.int ep 0,.none,.none]}).get? b=So ob:=λb ob q=>Zd _ Qc2;refine⟨_,[_],_,_,H1,rfl,j.kept (t':=Yg) kp,JjX t d _ o es ep g1,Qt,λb P=>?_,C _ _ s2 (Jkm q3 L) Jxt⟩;have f:Ax<=b:=by
  have e:b=(s1.heap.push {cls:=.type "dict_items",data:=.fields #[.ref d]}).objs.size:=by simpa using P
  rw[e,ZL];exact mC _
 exact j.fpOk f (j.hok.fresh f)
end
def dk{p:Prop}(h:'в' p Kp):p:=h
section
variable{it:Addr}
def Jqp{Q:Ay}(j:(d==sysModules)=Fo)(g:s.heap.get? d=So od)(m:od.cls=.type "dict")(f:Ee)
  (l:Q Fi {s with heap:=s.heap.push {cls:=.type "dict_keyiterator",data:=.fields #[.ref d,.int 0 0,.int XG 0,.int ep 0]}}):
  wpAny As A (pyIter D3) Q E s:=by have h:s.TypeIs D3 "dict":=⟨_,g,m⟩;refine zL h QcS (ZD QcS h F.entry_dict_iter ?_ (F.args_dict_iter_1 _));unfold Builtin.«dict.__iter__»;refine Za ?_;unfold Builtin.Dict.dictSlotNone;refine Za (fW h (show wpAny _ _ (pure (Value.ref d)) _ _ s from Zb ?_));show wpAny _ _ (Builtin.Dict.showsAll d>>=_) _ _ s;unfold Builtin.Dict.showsAll;rw[if_neg (by rw[j];exact ZH)];refine Za (Zb (Za (xJ g f (Za (nJ g f ?_)))));refine Za (ZJ (Zb ⟨_,rfl,"dict_keyiterator",_,F8,F.slot_dict_keyiterator_next.lookup,?_⟩));simpa[rawInt]using l
theorem Jre{e:DictEntry}{Q:Do}(hit:U3)(j:s.heap.get? d=So od)(h:Ee)(r:es[i]? =So e)
  (z:∀q,q.IsKeyIter it d Bw XG ep->Heap.SameBut it VU q->Q (So YA) {s with heap:=q}):wpAny As A Dy Q E s:=by
 obtain⟨o,m,u,l⟩:=id hit;have g:Builtin.Dict_items.ownsTuple "dict_keyiterator"=Fo:=by decide
 unfold pyNext;refine Za (nE (ZM (name:=oS "__next__") X9 uQ (ZD uQ X9 bS ?_ Vm)));refine Za (Zb (Za (Za ?_)));refine Za (kQ X9 (Zb (Za (oG m l ?_))));simp only[g,Zl,ZF];show wpAny _ _ (if Fb=To then _ else _) _ _ s;rw[if_neg (show¬(Fb=To)from ZH)];refine Za (Zb (Za (xJ j h ?_)));rw[if_neg 'j'];refine Za (Zb (Za (nJ j h ?_)));rw[if_neg 'j'];refine Zb ?_;simp only[show¬((i:Int)<0)from by lia,ZF,rF,r];refine Za (Za (kQ X9 (Zb (Za (wpAny_isOneOf_keyiter X9 ?_)))));show wpAny _ _ (setField B7 1 (rawInt ((i:Int)+1))>>=_) _ _ s;refine Za (sC m l Ad ?_);have f:(s.heap.update it (Obj.mapFields (·.setIfInBounds 1 (rawInt ((i:Int)+1))))).IsKeyIter it d Bw XG ep:=
  ⟨_,ZX _ m (gW (fK l _)),(Obj.cls_mapFields ..).trans u,by rw[fK l];simp[rawInt]⟩
 refine Za (wA (Za (wpAny_isOneOf_keyiter (s:={s with heap:=s.heap.update it (Obj.mapFields (·.setIfInBounds 1 (rawInt ((i:Int)+1))))}) f.typeIs ?_)));show wpAny _ _ (pure YA) _ _ _;exact Zb (Zb ⟨_,rfl,Zb (z _ f (uF ..))⟩)
theorem JsZ{Q:Do}(u:Bh)(hit:U3)(h:s.heap.get? d=So od)(g:Ee)(r:es[i]? =No)
  (z:∀q,Heap.ExtBut it VU q->Q No {s with heap:=q}):wpAny As A Dy Q E s:=by
 obtain⟨o,l,B,j⟩:=id hit;have f:Builtin.Dict_items.ownsTuple "dict_keyiterator"=Fo:=by decide
 unfold pyNext;refine Za (nE (ZM (name:=oS "__next__") X9 uQ (ZD uQ X9 bS ?_ Vm)));refine Za (Zb (Za (Za ?_)));refine Za (kQ X9 (Zb (Za (oG l j ?_))));simp only[f,Zl,ZF];show wpAny _ _ (if Fb=To then _ else _) _ _ s;rw[if_neg (show¬(Fb=To)from ZH)];refine Za (Zb (Za (xJ h g ?_)));rw[if_neg 'j'];refine Za (Zb (Za (nJ h g ?_)));rw[if_neg 'j'];refine Zb ?_;simp only[show¬((i:Int)<0)from by lia,ZF,rF,r];refine Za (Za (kQ X9 (Zb ?_)));show wpAny _ _ (setField B7 0 .none>>=_) _ _ s;refine Za (sC l j Ad ?_);show wpAny _ _ (newExc Nt []>>=_) _ _ _;refine Za ?_;simp only[newExc,newTuple];refine Za (ZJ (Za (m:=firstArgMember _ _) (wpAny_of_eq (a:=XH) (by first|rfl|(simp only[firstArgMember];rfl)) (ZJ ?_ (by size_fits)))) (by size_fits));delta raiseNew;refine Za (wpAny_handled ?_);rw[show A.in1.handled=No from u];refine Za (Zb (wpAny_throw ?_));refine Za (oF (T:="StopIteration") (b:=To) F8 kM ?_);exact Zb (z _ (((uF ..).extBut.push _).push _))
def JnO(F:Bh)(I d:Addr)(r:d≠I)(od:Obj)(es:GT)(ep:Nat)(l:Ee):
  Walks prog w A I [I,d] [I] XG (λi v=>∃e,es[i]? =So e/\v=YA) (λi h=>h.IsKeyIter I d i XG ep/\h.get? d=So od)where
 sub:=λb g=>by simp at g;simp[g]
 frame:=λ_ _ _ f C=>⟨f.1.at λo e=>C I Ad o e,C d Ad _ f.2⟩
 item:=λi s Q E B f m=>Jre f.1 f.2 l (e:=es[i]) (by simp[B]) λu j q=>m _ u XF ⟨es[i],by simp[B],rfl⟩ ⟨j,q.extBut d od r f.2⟩ λb o g e=>q.extBut b o (λh=>g (by simp[h])) e
 done:=λs Q E f m=>JsZ F f.1 f.2 l Ad λu z=>m u XF λb o g e=>z b o (λh=>g (by simp[h])) e
 self:=λ_ _ _ _ f m=>wpAny_pyIter_keyiter f.1 m
end
section
variable[DecidableEq κ]{kd:HeapKind prog w κ}{xs:List (κ×Addr×Value)}
def JqU{Q:E5}(g:s.TypeIs D3 "dict")(h:Q Fo s):wpAny As A (Builtin.List.listLengthHint D3) Q E s:=by unfold Builtin.List.listLengthHint;refine Za (qJ g F.slot_dict_len.lookup ?_);generalize hid:("dict.__len__":String)=id0;wp_delta;rw[show splitId id0=So ("dict","__len__")from by subst hid;decide+kernel];subst hid;refine Za (oF (T:="dict") (b:=To) g (by rw[zO];kernel_rfl) ?_);refine iI Pq (λ_=>?_);refine iI (λ_=>?_) Pp;exact Za QdN
theorem Jld{R:Ks}(hh:Bh)(hd:(d==sysModules)=Fo)(O:s.heap.get? d=So od)(hc:od.cls=.type "dict")(m:Ee)(hlen:es.size<=2^24)
  (S:Addr) (z:An) (B:Nat) (hS:s.heap.get? S=So {cls:=.type "list",data:=.seq #[] B})
  (hR:∀h' tk j P,(∀b o,b≠S->s.heap.get? b=So o->h'.get? b=So o)->h'.get? S=So {cls:=.type "list",dict:=No,data:=.seq j P,slots:=#[]}->
   ItemsOf (λi v=>∃e,es[i]? =So e/\v=YA) j es.size->R (.ok (.ret z)) {s with heap:=h',toks:=tk}):
  wpAny As XU (Builtin.List.listExtendWith (.ref S) D3 z)
   (λfin L=>match fin with|.done f=>R (.ok f) L|.again P=>P.quiet=To/\codeAny As A P R L) (λe L=>R (.error e) L) s:=by
 have C:S≠d:=λe=>by rw[e,O]at hS;cases hS;cases m
 have F:S≠Aa:=Zu (Zj hS);have hdI:d≠Aa:=Zu (Zj O);have hSf:S∉[Aa,d]:=λhm=>by
  rcases Zf.mp hm with e|e
  ·exact F e
  ·exact C (yB.mp e)
 have W9:=(JnO (prog:=prog) (w:=w) (A:=XU) hh Aa d hdI od es ep m).toS;have W:∀(h:Heap)(r tk:Nat),h.IsKeyIter Aa d 0 XG ep->(∀b o,b≠S->s.heap.get? b=So o->h.get? b=So o)->
   h.get? S=So {cls:=.type "list",data:=.seq #[] r}->codeAny As A (.builtin "list.extend.loop" ⟨[.ref S,.ref Aa,z],[]⟩) R {s with heap:=h,toks:=tk}:=by
  intro h r tk hit hk g;refine codeAny_extend_loopS W9 (by rw[ZG];lia) S hSf z XG 0 _ #[] r rfl (vB _) ⟨hit,hk d _ C.symm O⟩ g (ItemsOf.nil _) λL j P hm hS' U=>?_;rw[Moved.eq_with hm];refine hR L.heap L.toks j P (λb o hb e=>hm.heap b o (λq=>?_) (hk b o hb e)) hS' U;rcases Zf.mp q with e'|q
  ·exact hb e'
  ·exact absurd (Zj e) (by rw[yB.mp q];exact vQ _)
 unfold Builtin.List.listExtendWith;refine Za (kF (T:="dict") ⟨_,O,hc⟩ ?_);have h1:Builtin.List.listSameRef (.ref S) D3=Fo:=by simp[Builtin.List.listSameRef,C]
 have h2:(Value.type "dict"==Value.type "list")=Fo:=by decide
 have h3:(Value.type "dict"==Value.type "tuple")=Fo:=by decide
 simp only[h1,h2,h3,rH,Zl,ZF];refine Za (Jqp hd O hc m ?_);refine Za (wA (JqU (d:=d) ⟨_,Zd _ O,hc⟩ ?_));have l:(s.heap.push {cls:=.type "dict_keyiterator",data:=.fields #[.ref d,.int 0 0,.int XG 0,.int ep 0]}).IsKeyIter Aa d 0 XG ep:=CP;have g:=Zd {cls:=.type "dict_keyiterator",data:=.fields #[.ref d,.int 0 0,.int XG 0,.int ep 0]} hS;refine iI (λ_=>?_) (λ_=>Zb ⟨jF pP _,W _ B _ l (λb o _ e=>Zd _ e) g⟩);refine Za (kB ?_);refine Za ?_;show wpAny _ _ (updateSeq S (·.push .none)>>=λ_=>updateSeq S (·.pop)) _ _ _;refine Za (pJ g rfl ?_);have u:=ZX (Obj.mapSeq (·.push XH)) g rfl;refine pJ (hz:=by seq_fits) u rfl ?_;have I:=ZX (Obj.mapSeq (·.pop)) u rfl;refine Zb ⟨jF pP _,W _ _ _ (l.at λo e=>?_) (λb o hb e=>?_) I⟩
 ·exact(ZO _ _ F).trans ((ZO _ _ F).trans e)
 ·exact(ZO _ _ E2).trans ('љ'.trans EG)
end
def rk (ks:List c7) (k:AU):Nat:=(ks.filter λy=>lexI y k).length
open PySem.SeqAt (EqAt)
end Rd
namespace HT
open PySem PyProof.Rows
end HT
namespace Rd
open PySem PySem.Spec PyProof.Rows L2 Pu
variable{X:Cx}{K:Aj}{a b:Expr}{pa pb:Px}{pos apos:Pos}{N:Ac}{w:AQ}{H:Hp}{G:Gw}{nm:Bj}{s:Al}{c:Nat}{A:Bv}{prog:Ba}
open PySem.SeqAt (EqAt)
theorem qU(s:Str):∀e:List Str,(Str.join s e).cps.toList=Jr X7 (e.map (·.cps.toList))
 |[]=>rfl
 |[x]=>rfl
 |x::y::r=>by
  have:=qU s (y::r)
  show((x++s++Str.join s (y::r)).cps).toList=_
  rw[Str.cps_append,Str.cps_append,Array.toList_append,Array.toList_append,this,List.append_assoc]
  rfl
def xK{x:Str}{l:Au}(h:x.cps.toList=l):x=mkS l:=StrLaws.mk_of_toList h
theorem Jeq:∀{l:Au},c∉l->Jv c l=[l]
 |[],_=>rfl
 |x::l,h=>by
  have f:x≠c:=λe=>h (by simp[e])
  rw[Jv,if_neg f,Jeq λz=>h (by simp[z])]
  rfl
theorem Jfb(l:Au):∀{a:Au},c∉a->Jv c (a++c::l)=a::Jv c l
 |[],_=>by simp[Jv]
 |x::a,h=>by
  have f:x≠c:=λe=>h (by simp[e])
  rw[rB,Jv,if_neg f,Jfb l λz=>h (by simp[z])]
  rfl
theorem rL:∀{ls:DF},ls≠[]->(∀l∈ls,c∉l)->Jv c (Jr [c] ls)=ls
 |[],h,_=>absurd rfl h
 |[x],_,h=>Jeq (h x Ad)
 |x::y::r,_,h=>by
  show Jv c (x++([c]++Jr [c] (y::r)))=_
  rw[List.singleton_append,Jfb _ (h x Ad),rL 'j' λl e=>h l (by simp[e])]
def Jqa(x y:Str):Txt.split x y≠[]:=by
 unfold Txt.split;split
 ·simp
 ·split
  ·simp
  ·rw[StrLaws.partsBetween_eq];obtain⟨p,r,e⟩:=StrLaws.partsFrom_ne x Yw 0 (Builtin.Str.occurrences x y 0 XI (XI+1));rw[e];simp
def Jjt(x:Str)(c:Nat):(Txt.split x ⟨#[c]⟩).map (·.cps.toList)=Jv c XS:=by
 have e:=kA (·.cps.toList) (StrLaws.join_split x ⟨#[c]⟩);simp only[qU]at e;rw[<-e,rL (by simp[Jqa]) λl g=>by
  obtain⟨p,f,rfl⟩:=Zv.mp g;exact StrLaws.split_free x c p f]
theorem JcT(c:Nat):∀l:List Nat,(Jv c l).length<=XZ+1
 |[]=>by simp[Jv]
 |x::l=>by
  have:=JcT c l
  unfold Jv
  split
  ·simp;lia
  ·cases h:Jv c l with
   |nil=>simp[jR]
   |cons p r=>rw[h]at this;simp[jR]at this⊢;lia
theorem Jhb:∀e:List Str,Reps K H (e.map X4) (e.map YZ)
 |[]=>rfl
 |x::e=>⟨_,_,rfl,rfl,Jhb e⟩
theorem JjJ:∀l:List (Str×Tok),Vals ((l.map (·.1)).map YZ) (strValues l)
 |[]=>.nil
 |p::l=>.cons ⟨p.2,rfl⟩ (JjJ l)
theorem JdN:∀{xs:Ac}{vs:Av}{us:AE},Reps K H (xs.map X4) vs->Vals vs us->∃l:List (Str×Tok),us=strValues l/\l.map (·.1)=xs
 |[],vs,us,h,v=>by
  cases h
  have:=v.length
  rw[mW.mp this.symm]
  exact QcI
 |x::xs,vs,us,h,v=>by
  obtain⟨y,r,rfl,f,j⟩:=h
  cases f
  cases v with
  |cons g i=>
   obtain⟨t,rfl⟩:=g
   obtain⟨l,rfl,e⟩:=JdN j i
   exact⟨(x,t)::l,rfl,by simp[e]⟩
theorem JgT(e:Au):∀ls:List Da,(ls.map (·.length)).sum+BM*e.length<=(Jr e ls).length+e.length
 |[]=>by simp[Jr]
 |[x]=>by simp[Jr]
 |x::y::r=>by
  have:=JgT e (y::r)
  simp only[Jr,Zg,iB,Zk,Zn,Nat.add_mul,Nat.one_mul]at this⊢
  lia
theorem JlL{s:Str}{xs:Ac}(h1:s.length<=1000)(f:(Jr X7 (xs.map (·.cps.toList))).length<=20000):Builtin.Str.tooLong (xs.toArray.foldl (·+·.length+s.length) 0)=Fo:=by rw[StrLaws.joinTotal];have:=JgT X7 (xs.map (·.cps.toList));rw[Zt,Zi]at this;have e:(xs.map (List.length∘λx:Str=>XS))=xs.map (·.length):=tG λx _=>ZQ;rw[e,show s.cps.toList.length=s.length from ZQ]at this;unfold Builtin.Str.tooLong;rw[oE,ZG];lia
def JtE:MtR X "str.join" (λx B H Q=>∃y,B=[y]/\rD2 X .joinS x y H Q):=by
 rintro Y s Z H x B v us Q I rx rv⟨y,e,dx,dy,r1,C,h⟩;subst e;obtain⟨u,rfl,E⟩:=xA rv;cases dx with
 |str z=>
  have M:x=V.str z:=r1;subst M;obtain⟨t,rfl⟩:=rx;cases dy with
  |lst J=>
   simp only[op2]at h;split at h
   ·rename_i U j;split at h
    ·rename_i g;obtain⟨a,L,rfl,q,i⟩:=C;cases E;obtain⟨r,m,pl,_⟩:=I.list q;rw[xO j]at i;obtain⟨l,rfl,o⟩:=JdN i m;subst o;have f:=JlL g.1 g.2;refine fB aG G4 QcT Qi (meets_str_join_list z t a l f) ⟨Yo,post_join l Vb⟩;refine⟨.str (Txt.join z (l.map (·.1))),H,I.tok _,AS,?_⟩;rw[show Txt.join z (l.map (·.1))=mkS (Jr Ye ((l.map (·.1)).map (·.cps.toList)))from xK (by rw[<-qU];exact kA (·.cps.toList) Uy)];exact Out.now h rfl
    ·exact h.elim
   ·exact h.elim
  |tup J=>
   simp only[op2]at h;split at h
   ·rename_i U j;split at h
    ·rename_i g;obtain⟨a,L,rfl,q,i⟩:=C;cases E;obtain⟨r,ob,nb,m,W,O,_,P,_⟩:=I.tupleD q;rw[xO j]at i;obtain⟨l,rfl,o⟩:=JdN i m;subst o;have f:=JlL g.1 g.2;refine fB aG G4 QcT Qi (meets_str_join_tuple z t a l f) ⟨⟨ob,nb,W,O,P⟩,post_join l Vb⟩;refine⟨.str (Txt.join z (l.map (·.1))),H,I.tok _,AS,?_⟩;rw[show Txt.join z (l.map (·.1))=mkS (Jr Ye ((l.map (·.1)).map (·.cps.toList)))from xK (by rw[<-qU];exact kA (·.cps.toList) Uy)];exact Out.now h rfl
    ·exact h.elim
   ·exact h.elim
  |_=>exact(show False from h).elim
 |_=>exact(show False from h).elim
def mtSS{id:Bg}{o:O2}{k:Str->Str->Rs D}(r:∀a b,op2 o a b=onSS a b k)
  (h:∀(Y:A8)(s:Al)(Z:Bl)(H:Hp)(Q:VK)(z w:Str)(t t':Tok),L2.Inv X Y Z H s->(k z w).Good Ct Az->wpAny AD X.A (PySem.call DC [.str z t,.str w t']) BP X.xe s):MtR X id (λx f H Q=>∃y,f=[y]/\rD2 X o x y H Q):=by rintro Y s Z H x f v C Q I l i⟨y,e,E,B,m,j,g⟩;subst e;obtain⟨u,rfl,q⟩:=xA i;rw[r]at g;obtain⟨z,w,rfl,rfl,g⟩:=Jhf g;cases m;cases j;obtain⟨t,rfl⟩:=l;obtain⟨t',rfl⟩:=q;exact h Y s Z H Q z w t t' I g
def Jlt{x y:Str}{t u:Tok}{Q E:Ay}(i:(Yw==0)=Fo)
  (h:∀l k,l.map (·.1)=Txt.split x y->Q Fi {s with heap:=s.heap.push {cls:=.type "list",data:=.seq (strValues l).toArray},toks:=k})
  (hsz:x.length<=sizeLine) (hsz2:(Txt.split x y).length<=sizeLine):
  wpAny As A (PySem.call (.builtin "str.split") [.str x t,.str y u]) Q E s:=by
 cases f:(decide (XI<Yw)||decide (Builtin.Str.strKind x<Builtin.Str.strKind y))
 ·cases g:(Builtin.Str.occurrences x y 0 XI (XI+1)).isEmpty
  ·have e:Txt.split x y=_:='Ӹ'.trans QbH;rw[e]at hsz2;refine fB xP G4 Z8 'ʢ' (meets_str_split_sep x y t u f i g hsz hsz2) ?_;show wants Q E _ {s with toks:=_,heap:=s.heap.push {cls:=.type "list",data:=.seq (strsFrom XF (Builtin.Str.partsBetween x (Builtin.Str.occurrences x y 0 XI (XI+1)) Yw)).toArray}};rw[strsFrom_eq];exact h (numbered XF _) _ ((numbered_texts _ _).trans ('Ӹ'.trans QbH).symm)
  ·exact fB xP G4 Z8 'ʢ' (meets_str_split_not_found x y t u f i g)
    (h [(x,t)] _ ('Ӹ'.trans (if_pos g)).symm)
 ·exact fB xP G4 Z8 'ʢ' (meets_str_split_cannot_occur x y t u f)
   (h [(x,t)] _ (if_pos f).symm)
theorem Jpb:MtR X "str.split" (λx B H Q=>∃y,B=[y]/\rD2 X .splitS x y H Q):=mtSS CM λY s Z H Q z w t t' I h=>by
 split at h
 ·rename_i j
  obtain⟨j,m⟩:=j
  generalize w.cps.getD 0 0=c at h m
  have f:w=⟨#[c]⟩:=Str.ext' m
  subst f
  have g:=JcT c Ye
  rw[show z.cps.toList.length=z.length from ZQ,<-Jjt,Zi]at g
  refine Jlt rfl (λl k q=>?_) (Zq j (by rw[ZG];decide)) ?_
  ·have i:(Jv c Ye).map (λl=>D.str SZ)=(l.map (·.1)).map X4:=by
    rw[<-Jjt,q,Zt];exact tG λx _=>kA X4 (xK rfl).symm
   rw[i]at h;obtain⟨u,r⟩:=iH (K:=X.K) Qh (Jhb (l.map (·.1)));have v:l.length<=20001:=by
    have:=kA YM q;rw[Zi]at this;lia
   refine⟨.ref Aa,_,I.laid (t':=k) SY (Zh _) (show ObjOk XJ X.w _ _ _ (.lst ((l.map (·.1)).map YZ))from⟨by rw[Zi,Zi,ZG];lia,strValues l,0,JjJ l,Ze _ rfl⟩),rfl,h _ _ u r⟩
  ·rw[ZG];lia
 ·exact h.elim
theorem JjK(b:Au):∀{a:Au},c∉a->cutL c (a++c::b)=(a,So b)
 |[],_=>by simp[cutL]
 |x::a,h=>by
  have f:x≠c:=λe=>h (by simp[e])
  rw[rB,cutL,if_neg f,JjK b λz=>h (by simp[z])]
theorem Jid:∀{l:Au},c∉l->cutL c l=(l,No)
 |[],_=>rfl
 |x::l,h=>by
  have f:x≠c:=λe=>h (by simp[e])
  rw[cutL,if_neg f,Jid λz=>h (by simp[z])]
theorem JtP:MtR X "str.partition" (λx xs H Q=>∃y,xs=[y]/\rD2 X .partS x y H Q):=mtSS CM λY s Z H Q z w t t' I h=>by
 split at h
 ·rename_i C
  obtain⟨C,U⟩:=C
  generalize w.cps.getD 0 0=c at h U
  have E:w=⟨#[c]⟩:=Str.ext' U
  subst E
  refine fB eP G4 F.entry_str_partition (F.args_str_partition_2 _ _) (meets_str_partition z ⟨#[c]⟩ t t' rfl (Zq C (by rw[ZG];decide))) ?_
  have tup:∀(a b d:Str)(u l m k:Tok),yG Ye c=.tup Np->wants BP X.xe (.ok (.ret Fi)) {s with toks:=k,heap:=s.heap.push {cls:=.type "tuple",data:=.seq 'ǝ'.toArray}}:=λa b d u l m k e=>by
   rw[e]at h
   obtain⟨s1,q1⟩:=wG (K:=X.K) Qh (J:=Np) (xs:=Np) ⟨_,_,rfl,rfl,_,_,rfl,rfl,_,_,rfl,rfl,rfl⟩
   refine⟨.ref Aa,_,I.laid (t':=k) SY (Zh _) (show ObjOk XJ X.w _ _ _ (.tup Np)from ?_),rfl,h _ _ s1 q1⟩
   have W:(s.heap.push {cls:=.type "tuple",data:=.seq 'ǝ'.toArray}).get? Aa=So {cls:=.type "tuple",data:=.seq 'ǝ'.toArray}:=Ze _ rfl
   exact⟨⟨by rw[ZG];show 3<=_;decide,λo q=>by rw[W]at q;cases q;rfl⟩,'ǝ',.cons AS Lk,_,W,rfl,_,rfl⟩
  have f:∀i,StrLaws.At z ⟨#[c]⟩ cQ i↔z.cps.toList[i]? =So c:=λi=>by
   have e:Builtin.Str.subAt z ⟨#[c]⟩ i=To↔z.cps.toList[i]? =So c:=by
    rw[StrLaws.subAt_eq];exact StrLaws.take1_drop
   constructor
   ·exactλh=>e.mp h.2
   ·intro h
    have hl:=(Zz.mp h).1;exact⟨by show i+1<=z.cps.size;rw[<-ZQ];lia,e.mpr h⟩
  rcases StrLaws.occ_head z ⟨#[c]⟩ 1 (Zh 1)with⟨O,g⟩|⟨i,r,O,j,g⟩
  ·rw[O]
   refine tup z Yp Yp t XF XF _ ?_;have P:c∉z.cps.toList:=λL=>by
    obtain⟨i,j⟩:=qP L;exact g i ((f i).mpr j)
   rw[yG,Jid P];rw[<-xK (x:=z) rfl];rfl
  ·rw[O]
   refine tup _ _ _ _ _ _ _ ?_;have j:=(f i).mp j;have M:=(Zz.mp j).1;have v:z.cps.toList=z.cps.toList.take i++c::z.cps.toList.drop Bw:=by
    have e:=List.drop_eq_getElem_cons M;rw[(Zz.mp j).2]at e;rw[<-e,List.take_append_drop]
   have P:c∉z.cps.toList.take i:=λL=>by
    obtain⟨k,B⟩:=qP L;rw[List.getElem?_take]at B;split at B
    ·exact g k ‹_› ((f k).mpr B)
    ·cases B
   have ha:mkS (z.cps.toList.take i)=Builtin.Str.strSub z 0 i:=(xK (by rw[StrLaws.strSub_toList];simp)).symm;have hb:mkS (z.cps.toList.drop Bw)=Builtin.Str.strSub z (i+(⟨#[c]⟩:Str).length) cQ:=(xK (by
    rw[StrLaws.strSub_toList];show _=_;rw[show i+(⟨#[c]⟩:Str).length=i+1 from rfl];exact List.take_of_length_le (by rw[eQ,show z.cps.toList.length=z.length from ZQ];lia))).symm
   rw[<-ha,<-hb,yG,v,JjK _ P];simp only[<-v];rfl
 ·exact h.elim
def JuK:MtR X "str.endswith" (λx e H Q=>∃y,e=[y]/\rD2 X .ends x y H Q):=mtSS CM λY s Z H Q z w t f I h=>
 fB QaA (wM _ _ _) F.entry_str_endswith (F.args_str_endswith_2 _ _) (gives_str_endswith z w t f).meets UY
def JuP:MtR X "str.startswith" (λx e H Q=>∃y,e=[y]/\rD2 X .strt x y H Q):=mtSS CM λY s Z H Q z w t f I h=>
 fB eO (wM _ _ _) F.entry_str_startswith (F.args_str_startswith_2 _ _) (gives_str_startswith z w t f).meets UY
section
variable{U:Ag}
def uR{a b:D}{k:Str->Str->Rs D}{P:D->Prop}{E:DG}(h:(onSS a b k).Good P E):∃i,a=.str i:=let⟨i,_,e,_⟩:=Jhf h;⟨i,e⟩
def oN{id:Bg}{name:Str}{o:O2}(g:Slot "str" name id)(m:Sk)(M:∀{u l:D}{P:D->Prop}{E:DG},(op2 o u l).Good P E->∃z,u=.str z)
  (W:MtR X id (λx Y H Q=>∃y,Y=[y]/\rD2 X o x y H Q)) (C:AO) (hb:BJ) (I:∀O,(∃z,evD U pa O=.ok Y8)\/noEx pb=To) (J:DJ)
  (f:'в' (attributeBase a name Ue E3=eval a Ue) Ai) (hs:'в' HH Ai):PE X (.Call (.Attribute a name apos) [b] [] pos) Mv:=by
 refine PE.weak (iN F.plainAttrs_str g m W C (JO hb jD hs) f (by rw[hs];rfl) J hs rfl) λZ H Q h=>?_;obtain⟨O,r,h⟩:=h;simp only[evD]at h;refine Dd;cases i:evD U pa O with
 |sk=>rw[i]at h;exact h.elim
 |ex c=>rw[i]at h;exact h
 |ok u=>
  rw[i]at h;simp only[Rs.bo]at h;intro x H1 s1 j;have B:=r.mono s1;cases e:evD U pb O with
  |sk=>rw[e]at h;exact h.elim
  |ex c=>
   rw[e]at h;rcases I O with⟨z,v⟩|hn
   ·rw[i]at v;cases v;refine⟨by rw[show x=V.str z from j];rfl,O,B,?_⟩;rw[e];exact XW.mono s1 h
   ·exact absurd e (vZ U pb O c hn)
  |ok l=>rw[e]at h;simp only[Rs.bo]at h;obtain⟨z,rfl⟩:=M h;refine⟨by rw[show x=V.str z from j];rfl,O,B,?_⟩;rw[e];intro y H2 s2 L;exact⟨y,rfl,.str z,l,j.mono s2,L,h.mono (λ_ o=>o.mono FL) λ_ q=>q.mono FL⟩
def cJoin{f:Pos}{z:Str}{j}(l:BJ)(i:DJ)(e:attributeBase Nu "join" Ue (eval Nu Ue)=eval Nu Ue)(hs:HH):
  PE X (.Call (.Attribute Nu "join" apos) [b] [] pos) (tI X U (.bi .joinS (.con Y8) pb)):=oN aG F.type_str_join (fun{g _ _ _}h=>by cases g<;>first|exact AS|exact(show False from h).elim) JtE JH l (λ_=>.inl ⟨z,rfl⟩) i e hs
def JwR(f:AO)(h:BJ)(g:noEx pb=To)(i:DJ)(e:attributeBase a "split" Ue E3=eval a Ue)(hs:HH):
  PE X (.Call (.Attribute a "split" apos) [b] [] pos) (tI X U (.bi .splitS pa pb)):=oN xP F.type_str_split uR Jpb f h MP i e hs
def cPart(f:AO)(h:BJ)(g:noEx pb=To)(i:DJ)(e:attributeBase a "partition" Ue E3=eval a Ue)(hs:HH):
  PE X (.Call (.Attribute a "partition" apos) [b] [] pos) (tI X U (.bi .partS pa pb)):=oN eP F.type_str_partition uR JtP f h MP i e hs
def cEnds(f:AO)(h:BJ)(g:noEx pb=To)(i:DJ)(e:attributeBase a "endswith" Ue E3=eval a Ue)(hs:HH):
  PE X (.Call (.Attribute a "endswith" apos) [b] [] pos) (tI X U (.bi .ends pa pb)):=oN QaA F.type_str_endswith uR JuK f h MP i e hs
def cStrt(f:AO)(h:BJ)(g:noEx pb=To)(i:DJ)(e:attributeBase a "startswith" Ue E3=eval a Ue)(hs:HH):
  PE X (.Call (.Attribute a "startswith" apos) [b] [] pos) (tI X U (.bi .strt pa pb)):=oN eO F.type_str_startswith uR JuP f h MP i e hs
end
def noCX{P:Ba}{e:An}{f:Al}(h:CXr P w [] H s Sj e f):False:=by obtain⟨_,_,_,_,_,_,_,_,_,_,_,_,_,z⟩:=h;exact z
def Jyg (K:Aj) (a:Addr):Bool:=match K.lookup a with
 |some ⟨.type t,_,.seq its _,_⟩=>t=="tuple"&&decide (2<='亃'.sum)
 |_=>Fo
def uN (K:Aj) (a:Addr):Bool:=match K.lookup a with
 |some ⟨.type t,_,.seq its _,_⟩=>!(t=="tuple")||decide (2<='亃'.sum)||its.toList.any λv=>match v with
  |.ref b=>Jyg K b
  |_=>Fo
 |_=>To
def iY (K:Aj) (a:Addr):Bool:=match K.lookup a with
 |some ⟨.type t,_,.seq its _,_⟩=>!(t=="tuple")||its.toList.all λv=>match v with
  |.ref b=>uN K b
  |_=>To
 |_=>To
def xQ (K:Aj):Bool:=match K.lookup mainGlobals with
 |some ⟨_,_,.dict es _,_⟩=>es.toList.all λe=>match e.val with
  |.ref a=>uN K a&&iY K a
  |_=>To
 |_=>To
def JhZ(h:xQ K=To){y:Str}{b:Addr}(f:PySem.W.nsIn K mainGlobals y=So (So CK)):uN K b=To/\iY K b=To:=by
 unfold xQ at h;unfold PySem.W.nsIn at f;split at f
 ·rename_i j _ _ i;rw[i]at h;split at f
  ·rename_i e g;simp only[ZU]at f;have:=uB.mp h e (List.mem_of_find?_eq_some g);simp only[f,Zc]at this;exact this
  ·split at f<;>simp at f
 ·cases f
def Jhe{b:Addr}(h:uN K b=To){o:Obj}{f:B6}{n:Nat}(h1:K.lookup b=So o)(l:o.cls=.type "tuple")(j:o.data=.seq f n):2<='Ћ'.sum\/∃c,Value.ref c∈f.toList/\Ban2 K c:=by
 unfold uN at h;obtain⟨u,x,i,q⟩:=o;simp only at l j;subst l j;simp only[h1,ZE,sD,iF,nB,Zw]at h;rcases h with h|h
 ·exact .inl h
 ·obtain⟨v,m,h⟩:=vH.mp h;split at h
  ·rename_i b;refine .inr ⟨b,m,?_⟩;unfold Jyg at h;split at h
   ·rename_i t d g r s e;simp only[Zc,Zw,ZI]at h;exact⟨_,g,r,e,by rw[<-h.1],rfl,h.2⟩
   ·cases h
  ·cases h
def Juy(h:xQ K=To):NoKT K:=λy b o B n e f g l=>by
 rcases e with e|⟨E,x,i,J,z,v,r,m,u⟩
 ·exact Jhe (JhZ h e).1 f g l
 ·have q:=(JhZ h z).2
  unfold iY at q
  obtain⟨F,I,j,C⟩:=x
  simp only at r m
  subst r m
  simp only[v,ZE,sD,iF]at q
  exact Jhe (uB.mp q _ u) f g l
noncomputable def nI (N P:Ac) (e:Bf):Bool:=(e.kind==.function)&&!e.isCoroutine&&!e.isGenerator&&decide N.Nodup&&(N.take P.length==P)&&P.all (λx=>e.names.lookup x==So .local||e.names.lookup x==So .cell)&&e.names.all λy=>!(y.2==.free)
def uI{P:Ac}{e:Bf}(h:nI N P e=To):FnScope N P e:=by simp only[nI,Zc,ZI,ZV,Zw,uB,nB,ZA]at h;obtain⟨⟨⟨⟨⟨⟨i,o⟩,j⟩,g⟩,f⟩,m⟩,l⟩:=h;exact⟨i,o,j,g,f,m,l⟩
structure DefIn(K:Aj)(n:Str)(s:Stmt)(f:Addr)(fd:BG):Prop where
 a:PySem.W.nsIn K mainGlobals n=So EM
 F:Fun K n n s f fd
def def_mk{n:Str}{s:Stmt}{f:Addr}{j g:Dw}{sl:Ed}{i kV h pm e ct:An}(a:PySem.W.nsIn K mainGlobals n=So EM)(l:K.lookup f=So ⟨i,j,.func WV,sl⟩)(c:PySem.W.codeIn K e n=To)(k:PySem.W.keepIn K Br=To):DefIn K n s f WV:=⟨a,Jrq l c k⟩
structure Def1(K:Aj)(mg:Bk)(x:Str)(st:Stmt)(ps:Ac)(f:Addr)(fd:BG):Prop where
 F:Fun K x x st f fd
 b:Binds K fd ps []
 g:mg x=So Br
noncomputable abbrev DefE:=Str×Stmt×List Str
section
variable{P:Ba}{mg:Bk}{base:Heap}{defs:Cg}
noncomputable def HasD (K:Aj) (mg:Bk):List DefE->Prop
 |[]=>True
 |e::T=>(∃f g,Def1 K mg e.1 e.2.1 e.2.2 f g)/\HasD K mg T
noncomputable def OkD (P:Ba) (w:AQ) (K:Aj) (mg:Bk) (base:Heap) (defs:Cg) (k:Nat):Nat->List DefE->Prop
 |_,[]=>True
 |i,e::T=>(∀f g,Def1 K mg e.1 e.2.1 e.2.2 f g->FnOk P w K mg base A0 (3*k) f g e.2.2 QbI)/\OkD P w K mg base defs k Bw T
theorem JkC:∀(T:GC)(i:Nat),OkD P w K mg base defs 0 i T
 |[],_=>trivial
 |e::T,i=>⟨λ_ _ _=>JnA,JkC T Bw⟩
theorem Jmn{k:Nat}:∀{T:GC}{i j:Nat}{e:DefE},OkD P w K mg base defs k i T->T[j]? =So e->∀f g,Def1 K mg e.1 e.2.1 e.2.2 f g->FnOk P w K mg base A0 (3*k) f g e.2.2 (spI K mg CC (i+j))
 |[],_,_,_,_,h=>by simp at h
 |d::T,i,0,e,ok,h=>by
  simp only[lF,ZU]at h
  subst h
  exact ok.1
 |d::T,i,j+1,e,ok,h=>by
  have:=Jmn (j:=j) ok.2 (by simpa using h)
  rw[show i+1+j=i+(j+1) by lia]at this
  exact this
theorem JjO:∀{T:GC}{j:Nat}{e:DefE},HasD K mg T->T[j]? =So e->∃f g,Def1 K mg e.1 e.2.1 e.2.2 f g
 |[],_,_,_,h=>by simp at h
 |d::T,0,e,ok,h=>by
  simp only[lF,ZU]at h
  subst h
  exact ok.1
 |d::T,j+1,e,ok,h=>JjO ok.2 (by simpa using h)
def Jnh{T:GC}{k:Nat}(l:HasD K mg T)(ok:OkD P w K mg base defs k 0 T)(i:GZ)(j:Nat){e:DefE}(h:T[j]? =So e):Callee AM CC j e.1:=by obtain⟨f,g,D⟩:=JjO l h;have F:=Jmn ok h f g D;rw[iM]at F;exact⟨⟨3*k,f,g,_,F,i.in1.in1,D.g,D.F.kp,D.b⟩⟩
def fo{l:Gw->CallD->Prop}{ps:Ac}{M:Au}{x:Str}{st:Stmt}{i k:Nat}{d:DefD}{b:Sx}(E:∀A,Room E8 A->l AM CC)(z:∀{X:Cx}{G:Gw}{U:Ag}{e:Hp},l G U->Ctx X G N 'Ɯ'.names->HX X 'Ɯ'.names->PSs X Ew (tS X U M e b))
  (v:'в' (defs[i]? =So d) Ai) (hb:'в' (Yj=b) Ai) (h:'в' ((nI N ps (Ja st)&&d.slots==XM&&d.params==Ao&&M.all (λi=>decide (Ao<=i))&&decide (Ao<=XM))=To) Kp):
  ∀f g,Def1 K mg x st ps f g->FnOk P w K mg base A0 (3*AZ) f g ps QbJ:=λf g D=>by
 simp only[Zc,ZI,uB,Zw]at h
 obtain⟨⟨⟨⟨q,u⟩,B⟩,o⟩,r⟩:=h
 subst hb
 exact Jxn (j:=3*k+2) D.F (uI q) v u B o r λX A e C m y=>z (E A m) C y
noncomputable def DsIn (K:Aj):List DefE->Prop
 |[]=>True
 |e::T=>(∃f g,DefIn K e.1 e.2.1 f g)/\DsIn K T
abbrev BsE(e:DefE):Prop:=∀(kV h i:An)(j:Dw)(f ct:An)(g:AE),Ya=e.2.2.length->bindArgs (PySem.W.fnOf e.1 e.1 (vE e.2.1) (Jo e.2.1) (Ja e.2.1) .none kV h i j f ct) ⟨g,[]⟩=pure (e.2.2.zip g)
noncomputable def BsOk:List DefE->Prop
 |[]=>True
 |e::T=>BsE e/\BsOk T
theorem qZ{h:Heap}(X:K.In h)(G:Sa):∀{T:GC},DsIn K T->BsOk T->HasD K mg T
 |[],_,_=>trivial
 |e::T,d,b=>⟨let⟨f,g,D⟩:=d.1;⟨f,g,D.F,D.F.binds b.1,qA X G D.a⟩,qZ X G d.2 b.2⟩
noncomputable def BlIn (K:Aj):List Str->Prop
 |[]=>True
 |x::T=>PySem.W.nsIn K mainGlobals x=So No/\BlIn K T
noncomputable def BlN (mg:Bk):List Str->Prop
 |[]=>True
 |x::T=>mg x=No/\BlN mg T
theorem Jys{h:Heap}(X:K.In h)(G:Sa):∀{T:Ac},BlIn K T->BlN mg T
 |[],_=>trivial
 |x::T,d=>⟨PySem.W.mg_none_of X G d.1,Jys X G d.2⟩
end
noncomputable abbrev NM:=List Str×List Nat
def DAll (X:Cx) (G:Gw) (U:Ag) (f:Hp):List DefE->List NM->List DefD->Prop
 |e::T,n::L,d::D=>(Ctx X G n.1 (Ja e.2.1).names->HX X (Ja e.2.1).names->PSs X (Jo e.2.1) (tS X U n.2 f Yj))/\DAll X G U f T L D
 |[],_,_=>True
 |_,_,_=>False
def chkD:List DefE->List NM->List DefD->Bool
 |e::T,n::L,d::D=>(nI n.1 e.2.2 (Ja e.2.1)&&d.slots==n.1.length&&d.params==e.2.2.length&&n.2.all (λi=>decide (e.2.2.length<=i))&&decide (e.2.2.length<=n.1.length))&&chkD T L D
 |[],_,_=>To
 |_,_,_=>Fo
def foAll{P:Ba}{mg:Bk}{base:Heap}{defs:Cg}{g:Gw->CallD->Prop}{k:Nat}(E:∀A,Room E8 A->g AM CC)(T:GC):∀(L:List NM)(i:Nat)(_:∀{X:Cx}{G:Gw}{U:Ag}{m:Hp},g G U->DAll X G U m T L QdP)(_:chkD T L QdP=To),OkD P w K mg base defs AZ i T:=by
 induction T with
 |nil=>exactλ_ _ _ _=>trivial
 |cons e T l=>
  intro L i f h;cases L with
  |nil=>cases h
  |cons n L=>
   cases q:defs.drop i with
   |nil=>rw[q]at h;cases h
   |cons d D=>
    have o:defs[i]? =So d:=by rw[<-Nat.add_zero i,<-List.getElem?_drop,q];rfl
    have j:defs.drop Bw=D:=by rw[<-List.drop_drop,q];rfl
    rw[q]at h;simp only[q]at f;simp only[chkD,Zc]at h;exact⟨fo E (λe=>(f e).1) o rfl (by simp only[Zc];exact h.1),l L Bw (λe=>by rw[j];exact(f e).2) (by rw[j];exact h.2)⟩
theorem Jet{k:D}:∀{ks vs:Ak},iA k ks vs=No->AC=AJ->(ks.any λd=>d.eqv k)=Fo
 |[],_,_,_=>rfl
 |a::ks,[],_,e=>by simp at e
 |a::ks,v::vs,h,e=>by
  simp only[iA]at h
  split at h
  ·cases h
  ·rename_i q
   simp only[rD,Jet h (by simpa using e),rH]
   simpa using q
def Jsf{a:Addr}{t z:Bool}{ks:Ak}{xs:Av}(h:Ry):AC=Ah:=by
 cases t
 ·obtain⟨e,_,rfl,rfl⟩:=dk_k h;simp
 ·obtain⟨e,_,rfl,rfl⟩:=dk_t h;simp
section
variable{X:Cx}{U:Ag}{G:Gw}{N:Ac}{nm:Bj}{pos p1 p2 px apos cpos:Pos}{a b e:Expr}{pa pb p:Px}{M:Au}{H0:Hp}{i j:Nat}{x y:Str}{tg:Expr}
theorem eGetZ(C:Am){t':Bool}(hK:FC)(W:AO)(hb:BJ)(hx:noEx pb=To){j0}(m:M2 X a "get" apos b (.Constant bG j0 p1) cpos):PE X (.Call QJ [b,.Constant bG j0 p1] [] cpos) (tI X U (.bi (.dGz t') pa pb)):=by
 have hu:=C.un;refine PE.weak (Jrc Af W hb qY m) λZ H Q F=>?_;obtain⟨O,r,h⟩:=F;refine tI.then r h λdx x H1 s1 P Y u=>?_;cases dx with
 |dct t z ks vs=>
  obtain⟨l,xs,rfl,I,g2⟩:=id P;refine⟨l,rfl,?_,?_⟩
  ·cases t with
   |false=>obtain⟨f,g,_⟩:=dk_k I;exact .inl ⟨f,g⟩
   |true=>obtain⟨f,g,_⟩:=dk_t I;exact .inr ⟨f,g⟩
  refine tI.then Y u λdy y H2 s2 r2 q2 E=>?_;simp only[op2,onD]at E;split at E
  ·rename_i L;obtain⟨rfl,L⟩:=L;obtain⟨l',o,e1,g,B,hl⟩:=rT (by rw[C.K];exact hK) (P.mono s2) r2 L;cases e1;refine⟨o,g,Out.now E ?_⟩;cases q:iA dy ks vs with
   |some d=>obtain⟨v,e2,rv⟩:=hl d q;subst e2;exact rv
   |none=>
    have:o=No:=by
     have hn:=Jet q (by have:=g2.length;have:=Jsf I;lia);rw[hn]at B;cases o with
     |none=>rfl
     |some _=>cases B
    subst this;rfl
  ·exact E.elim
 |_=>
  cases J:evD U pb O with
  |ok d=>rw[J]at u;cases d<;>exact(show False from u).elim
  |ex c=>exact absurd J (vZ U pb O c hx)
  |sk=>rw[J]at u;exact u.elim
theorem aPutM{v:Expr}{pk pv:Px}{ps:Pos}(C:Am){t':Bool}(hK:FC)(h:Dl)(hb:PE X b Ni)(hv:RX)
  (hs:swapsWith v QX XT Ue=pure Fo):PS X Vy (tS X U M H0 (.put To t' i pk pv)):=by
 obtain⟨g1,g2,g3,g4,g5⟩:=chkO.at h;obtain⟨d1,d2⟩:=plainN.d g3;have hu:=C.un;refine PS.weak (JiC Af (rA (by rw[C.hN];exact g1) Mc d1 d2) hb hv hs) λD Z H I=>?_;obtain⟨O,e,h⟩:=I;simp only[exD]at h;cases q:O[i]? with
 |none=>rw[q]at h;exact h.elim
 |some o=>
  rw[q]at h;cases o with
  |none=>exact h.elim
  |some d=>
   cases d with
   |dct t z ks vs=>
    cases z with
    |true=>exact h.elim
    |false=>
     simp only at h;obtain⟨l,u,h0,hz,xs,hl,hr⟩:=e.own i _ g4 q;refine⟨O,YF,'ħ'.mono (λF P v H1 s1 r1=>?_) λc z=>z.mono YX⟩;have W:=e.grow s1;refine⟨.ref l,u,O,W.readOk,(Rs.gB.mp P).mono (λdk g y f s2 r2=>?_) λc z=>z.mono W.same⟩;split at g
     ·exact g.elim
     ·rename_i hc;simp only[nG,nB,not_or,ZV,yP,Bool.not_eq_false,oE,Decidable.not_not,ZI,ZA,ne_eq]at hc;obtain⟨⟨⟨hi,htt⟩,E⟩,r⟩:=hc;subst htt;have e2:=W.grow s2;have f2:Same Dc G5:='ӌ'.hid;have rv:Rep X.K G5 F v:=Rep.tups e2.ows.tup F hi G9;have m:∀ob,OwnIs X.K G5 Mb l (.dct t Fo (putD dk F ks vs).1 (putD dk F ks vs).2)->D.nx Z Mb:=λob nw=>by obtain⟨e3,f4⟩:=e2.change (o:=ob) g4 q u nw;exact g _ _ e3 ⟨'ӌ'.trans f4,λz=>by cases z⟩
      cases t with
      |true=>
       obtain⟨b',k,rfl,rfl,L⟩:=sS (by rw[C.K];exact hK rfl) E r2;obtain⟨kvs,Y,rfl,rfl⟩:=hl;have J:f l=So BA:=s2 _ _ (s1 _ _ Y);have B:AV<1000:=by simpa using r
       refine⟨l,_,rfl,DPut.t (k:=k) J L (by show _<16777216;lia),m _ ?_⟩;obtain⟨p1,p2⟩:=tK uU (k:=k) rv KY;exact Lw
      |false=>
       obtain⟨k,rfl⟩:=pL E;have hy:=fJ r2;subst hy;obtain⟨kvs,Y,rfl,rfl⟩:=hl;have J:f l=So AN:=s2 _ _ (s1 _ _ Y);have B:AV<1000:=by simpa using r
       refine⟨l,_,rfl,DPut.k (k:=k) J (by show _<16777216;lia),m _ ?_⟩;obtain⟨p1,p2⟩:=tK mE (k:=k) rv KY;exact Lw
   |_=>exact h.elim
def EnvOk.moveF{Z:Bl}{O:Fm}(e:CO){l:Addr}{t:Bool}{ks vs:Ak}{ob:HO}(hi:i∉M)(E:j∈M)(L:O[j]? =So (So (.dct t Fo ks vs)))(hs:Z[j]? =So Cy)(hD:∀C,DK H l t Fo ks C->DK FV l t To ks C):
  EnvOk K M H0 FV Hy ('ǡ'.set j No)/\Fz CB H (Ow M ('ǡ'.set j No) Hy) FV:=by
 have hij:j≠i:=λz=>hi (z▸E);obtain⟨l',r,g0,hz,C,g2,g3⟩:=e.own j _ E L;rw[hs]at r;cases r;have hlo:l∈Ow M O Z:=mem_Ow.mpr ⟨j,E,_,L,hs⟩;have get:∀(k:Nat)(d:D),k≠i->('ǡ'.set j No)[k]? =So Bd->k≠j/\O[k]? =So Bd:=λk d f h=>by
  rcases JQ h with⟨_,hd,_⟩|⟨I,h⟩
  ·cases hd
  ·rw[Zr (Ne.symm f)]at h;exact⟨I,h⟩
 have sub:∀b∈Ow M ((O.set i (So (.dct t To ks vs))).set j No) (Z.set i (So (.ref l))),b∈Ow M O Z/\b≠l:=λb hb=>by obtain⟨k,f,d,Y,J⟩:=mem_Ow.mp hb;have B:k≠i:=λz=>hi (z▸f);obtain⟨n1,r⟩:=get k d B Y;rw[Zr (Ne.symm B)]at J;refine⟨mem_Ow.mpr ⟨k,f,d,r,J⟩,λz=>?_⟩;exact e.apart j k l _ _ E f 'ӈ' L r hs (z▸J)
 have P:Fz CB H (Ow M ('ǡ'.set j No) Hy) FV:=⟨λa o q n=>by rw[Jc (λz=>n (by rw[z];exact hlo))];exact q,λb hb=>.inl (sub b hb).1⟩;refine⟨⟨λa o q=>by rw[Jc (Ji q g0)];exact e.same a o q,by rw[mB,mB,mB];exact e.len,λk d f h=>?_,λk d f h=>?_,λk1 k2 m d1 d2 F u I Y J h3=>?_⟩,P⟩
 ·by_cases q:k=i
  ·subst q;rw[Zr hij]at h;rcases JQ h with⟨_,hd,hl⟩|⟨I,_⟩
   ·cases hd;exact⟨.ref l,ZR (by rw[e.len];exact hl),l,C,rfl,(hD C g2).mono λo z=>by rw[Jt λhm=>(sub l hm).2 rfl];exact z,g3.mono P.hid⟩
   ·exact absurd rfl I
  ·obtain⟨_,g⟩:=get k d q h;obtain⟨v,r,g2⟩:=e.read k d f g;exact⟨v,by rw[Zr 'ƺ'];exact r,g2.mono P.hid⟩
 ·have q:k≠i:=λz=>hi (z▸f);obtain⟨nj,g⟩:=get k d q h;obtain⟨m,r,g0',W⟩:=e.own k d f g;have nm:m≠l:=λz=>e.apart j k l _ _ E f (Ne.symm nj) L g hs (z▸r);exact⟨m,by rw[Zr 'ƺ'];exact r,g0',W.mono P.hid λo z=>by rw[Jc nm];exact z⟩
 ·have q1:k1≠i:=λz=>hi (z▸F);have q2:k2≠i:=λz=>hi (z▸u);rw[Zr (Ne.symm q1)]at h3;rw[Zr (Ne.symm q2)];exact e.apart k1 k2 m d1 d2 F u I (get k1 d1 q1 Y).2 (get k2 d2 q2 J).2 h3
def aMovF{py:Pos}(C:Am)(h:FF)(h':chkO N nm M j y=To)(hs:swapsWith KS Ft XT Ue=pure Fo):PS X (.Assign Hr KS pos) (tS X U M H0 (.movF i j)):=by
 obtain⟨h1,h2,h3⟩:=chkA.at h;obtain⟨g1,g2,g3,P,g5⟩:=chkO.at h';obtain⟨d1,d2⟩:=plainN.d g3;obtain⟨k1,k2⟩:=C.sto x h2;rintro Y s Z H D I⟨O,e,h⟩;simp only[exD]at h;cases q:O[j]? with
 |none=>rw[q]at h;exact h.elim
 |some o=>
  rw[q]at h;cases o with
  |none=>exact h.elim
  |some d=>
   cases d with
   |dct t z ks vs=>
    cases z with
    |true=>exact h.elim
    |false=>
     obtain⟨l,g,h0,hz,xs,hl,hr⟩:=e.own j _ P q;refine ZY (iD CU (by rw[C.hN];exact h1) k1 (rA (by rw[C.hN];exact g1) (C.vis y g5) d1 d2) hs k2 Y s Z H ⟨λv W=>v=Z.set i Cy/\W=H,λ_ _=>False,λ_ _=>False,λ_ _=>False⟩ I ⟨.ref l,g,rfl,rfl⟩) (λf s1 r=>?_) λ_ _ z=>z;cases f with
     |next=>
      obtain⟨v,W,I',rfl,rfl⟩:=r;cases t with
      |false=>
       obtain⟨kvs,B,rfl,rfl⟩:=hl;obtain⟨o,L⟩:=Jih I' B;obtain⟨m,J⟩:=e.moveF (ob:=.frz o AN) h3 P q g λxs⟨E,w,F,m⟩=>by rw[B]at w;cases w;exact PP
       exact⟨_,_,L,h _ _ m ⟨J,λz=>by cases z⟩⟩
      |true=>
       obtain⟨kvs,B,rfl,rfl⟩:=hl;obtain⟨o,L⟩:=JlZ I' B;obtain⟨m,J⟩:=e.moveF (ob:=.frz o BA) h3 P q g λxs⟨E,w,F,m⟩=>by rw[B]at w;cases w;exact PP
       exact⟨_,_,L,h _ _ m ⟨J,λz=>by cases z⟩⟩
     |brk=>obtain⟨_,_,_,z⟩:=r;exact z.elim
     |cont=>obtain⟨_,_,_,z⟩:=r;exact z.elim
     |ret u=>obtain⟨_,_,_,_,_,z⟩:=r;exact z.elim
   |_=>exact h.elim
end
end Rd
namespace Rd
open PySem PySem.Spec PyProof.Rows L2 Pu PySem.SeqAt PySem.W
theorem look_mem{k d:D}:∀{ks vs:Ak},iA k ks vs=So d->d∈vs
 |[],vs,h=>by cases vs<;>cases h
 |a::ks,[],h=>by cases h
 |a::ks,v::vs,h=>by
  simp only[iA]at h
  split at h
  ·cases h;simp
  ·exact Zm _ (look_mem h)
end Rd
namespace Rd
open PySem PySem.Spec PyProof.Rows L2 Pu
section
variable{X:Cx}{U:Ag}{G:Gw}{N:Ac}{nm:Bj}{a e:Expr}{p pa:Px}{pos p1 pos':Pos}{x:Str}{i:Nat}{M:Au}{H0:Hp}{px:Pos}
def Jxc:PE X R8 (tI X U (.dsp Fo .nil .nil)):=by rintro Y s Z H Q I⟨O,r,h⟩;simp only[evD,Rs.bo,D.asL,dspD]at h;refine ZY (Jfs Y s Z H (λv W=>∃l,v=.ref l/\H l=No/\W=upd H l bE) I λl f=>⟨l,rfl,f,rfl⟩) (λu B⟨v,A,w,m,l,j,f,y⟩=>?_) λ_ _ z=>z;subst j y;obtain⟨o,g⟩:=Jih w Je;rw[upd_upd]at g;exact⟨.ref l,_,g,m,h _ _ (λb ob q=>by rw[Jc (Ji q f)];exact q) ⟨l,[],rfl,⟨[],⟨o,Je⟩,rfl,rfl⟩,rfl⟩⟩
end
end Rd
namespace Rd
open PySem PySem.Spec PyProof.Rows L2 Pu PySem.W
variable{X:Cx}{H:Hp}{s:Al}{fi:Nat}{P:Ba}{w:AQ}{K:Aj}{mg:Bk}{base:Heap}{p:Px}{pos p1 p2:Pos}{cs:Ac}{en:Str}
inductive LamAt(H:Hp)(f:Addr)(params:Qdh)(body:Expr)(scope:Bf)(q:Str)(clos:B4):Prop where
 |mk (pm:Value) (c:Addr) (ctv:Value) (oc:Obj) (vs:Array Value) (t:Tok):H f=So (.frz (kla_obj "<lambda>" q params body scope clos pm c ctv) (.ext λ_=>True))->H c=So (.frz oc Su)->oc.data=.fields vs->vs[1]? =So (.str q t)->LamAt H f params body scope q clos
end Rd
namespace Rd
open PySem PySem.Spec PyProof.Rows L2 Pu
variable{X:Cx}{N ns ps:Ac}{pos px apos p1 cpos py np:Pos}{H0 H W:Hp}{G:Gw}{nm:Bj}{x f m qual y cn:Str}{bc:AI}{K:Aj}{i fi j k nt:Nat}{e ek b c:Expr}{M ts:Au}{w:Bool}{a C:Addr}{d:D}{Z:Bl}{O:Fm}{v:V}{P:Ba}{mg:Bk}{base:Heap}{α:Type}{fd:BG}{pb:Bx}{es:CF}{st:Stmt}{pk:Px}{xs:Av}{body:BF}{fs:Ak}
noncomputable def plK:HO->Bool
 |.lst _=>To
 |.tup _=>To
 |.frz _ _=>To
 |_=>Fo
def SameP(H W:Hp):Prop:=∀a o,H a=So o->plK o=To->W a=So o
def PlO(H:Hp):Prop:=∀a o,H a=So o->plK o=To
def pl (H:Hp):Hp:=λa=>match H a with
 |some o=>if plK o then So o else No
 |none=>No
section
variable{K:Aj}{H W H1 H2 H0:Hp}{L:A9}
def SameP.of(s:B9):SameP H W:=λa o h _=>s a o h
def SameP.refl:SameP H H:=λ_ _ h _=>h
def SameP.trans(a:Qbg)(b:SameP H1 H2):SameP H H2:=λx o h p=>b x o (a x o h p) p
def SameP.hid(s:C7):SameP Bm J0:=λa o h p=>by
 obtain⟨n,e⟩:=hU h
 rw[Jt n];exact s a o e p
def PlO.same(p:A4)(s:Same H0 H)(t:C7):Same H0 W:=λa o h=>t a o (s a o h) (p a o h)
def JmB{o:HO}(h:pl H a=So o):H a=So o/\plK o=To:=by
 unfold pl at h;split at h
 ·rename_i u e;split at h
  ·rename_i q;cases h;exact⟨e,q⟩
  ·cases h
 ·cases h
def JiM:Same (pl H) H:=λa o h=>(JmB h).1
def pY:PlO (pl H):=λa o h=>(JmB h).2
def Jnd(t:Same (pl H) W):SameP H W:=λa o h p=>t a o (by unfold pl;rw[h];simp[p])
def SameP.sqL(s:C7)(h:cB):SqL K W a xs:=by
 rcases h with(h|⟨o,h⟩)|h
 ·exact .inl (.inl QdQ)
 ·exact .inl (.inr ⟨o,s _ _ h rfl⟩)
 ·exact .inr h
def SameP.sqT(s:C7)(h:cC):SqT K W a xs:=by
 rcases h with h|h
 ·exact .inl QdQ
 ·exact .inr h
mutual
theorem Rep.plain(e:C7):∀(d:D){v:V},Jj d=To->Rep K H d v->Rep K W d v
 |.non,_,_,h=>h
 |.bl _,_,_,h=>h
 |.int _,_,_,h=>h
 |.str _,_,_,h=>h
 |.tup J,_,p,⟨a,xs,e1,h1,h2⟩=>⟨a,xs,e1,e.sqT h1,Reps.plain e J (by simpa[Jj]using p) h2⟩
 |.lst J,_,p,⟨a,xs,e1,h1,h2⟩=>⟨a,xs,e1,e.sqL h1,Reps.plain e J (by simpa[Jj]using p) h2⟩
 |.dct t z ks vs,_,p,⟨a,xs,e1,h1,h2⟩=>by
  simp only[Jj,Zc]at p
  obtain⟨rfl,p⟩:=p
  refine⟨a,xs,e1,?_,Reps.plain e vs p h2⟩
  cases t<;>obtain⟨g,⟨o,q⟩,l⟩:=h1
  ·exact Q3
  ·exact Q3
 |.obj _ _ _,_,p,_=>by simp[Jj]at p
 |.mls _ _,_,p,_=>by simp[Jj]at p
 |.adr _,_,_,h=>h
 |.exc c,_,_,⟨a,o,C,e1,h1,h2⟩=>⟨a,o,C,e1,e _ _ h1 rfl,h2⟩
 |.fn x _,_,_,h=>h
theorem Reps.plain(e:C7):∀(J:Ak){xs:Av},Jb J=To->Reps K H J xs->Reps K W J xs
 |[],_,_,h=>h
 |d::J,_,p,⟨x,r,e1,h1,h2⟩=>by
  simp only[Jb,Zc]at p
  exact⟨x,r,e1,Rep.plain e d p.1 h1,Reps.plain e J p.2 h2⟩
end
end
def Jwo{s:AL}(h:i∉M):Ow M LZ Z=Ow M O Z:=Jfq λj g=>by
 unfold owA
 rw[Zr (λz:i=j=>h (z▸g))]
def EnvOk.objN(e:CO){A:D}(hi:i∉M)(E:plE Md=To)(s:C7)(s0:Same H0 W)(Y:Rep K dA A v):EnvOk K M H0 W K9 (O.set i (So A))where
 same:=s0
 len:=by rw[mB,mB];exact e.len
 read:=λj d o h=>by
  rw[sE hi]
  rcases JQ h with⟨rfl,hd,hl⟩|⟨q,h⟩
  ·cases hd;exact⟨v,ZR (by rw[e.len];exact hl),Y⟩
  ·obtain⟨u,r,g⟩:=e.read j d o h
   rw[Zr 'ƺ']
   exact⟨u,r,Rep.plain s.hid d (Jnu E h q) g⟩
 own:=λj d o h=>by
  rw[sE hi]
  rcases JQ h with⟨rfl,_,_⟩|⟨q,h⟩
  ·exact absurd o hi
  ·obtain⟨l,r,h0,g⟩:=e.own j d o h
   have p:=Jnu E h q
   rw[Zr 'ƺ']
   refine⟨l,r,h0,?_⟩
   cases d with
   |lst J=>obtain⟨xs,L,q2⟩:=g;exact⟨xs,s _ _ L rfl,Reps.plain s.hid J (by simpa[Jj]using p) q2⟩
   |dct t z ks vs=>
    cases z with
    |true=>first|exact g.elim|(obtain⟨B,_⟩:=g;cases B)
    |false=>simp[Jj]at p
   |_=>exact g.elim
 apart:=λj k l I U o F q r g B=>by
  have n1:j≠i:=λz=>hi (z▸o)
  have n2:k≠i:=λz=>hi (z▸F)
  rw[Zr 'ӈ']at r B
  rw[Zr 'Ӊ']at g⊢
  exact e.apart j k l I U o F q r g B
theorem Jsc:∀{l:List α}{i:Nat}{a:α},l[i]? =So a->l.set i a=l
 |[],_,_,h=>by simp at h
 |b::l,0,a,h=>by simp at h;simp[h]
 |b::l,i+1,a,h=>by simp only[List.set_cons_succ];rw[Jsc (by simpa using h)]
def EnvOk.obj(e:CO){g:D}(hi:i∉M)(l:plE Md=To)(s:C7)(s0:Same H0 W)(hs:Z[i]? =So BO)(h:Rep K dA g v):EnvOk K M H0 W Z Qa4:=by have:=e.objN hi l s s0 h;rw[Jsc hs]at this;exact this
def OutX(X:Cx)(M:Au)(H0:Hp)(Z:Bl)(L:A9)(H:Hp)(Q:VK)(d:D)(O:Fm):Prop:=∀v W,EnvOk X.K M H0 W Z O->Ow M O Z=L->SameP H W->Rep X.K W d v->Q v W
def EX(X:Cx)(M:Au)(H0:Hp)(Z:Bl)(c:Str)(O:Fm):Prop:=∀C W,X.mg c=So BL->EnvOk X.K M H0 W Z O->XE X C W
inductive tB(X:Cx)(call:Ag)(bc:AI)(M:Au)(H0:Hp)(p:Bx)(σ:Bl)(H:Hp)(Q:VK):Prop where
 |mk:∀env,EnvOk X.K M H0 H σ env->(evB call bc p env).Good (OutX X M H0 σ (Ow M env σ) H Q) (EX X M H0 σ)->tB X call bc M H0 p σ H Q
inductive tTB(X:Cx)(call:Ag)(bc:AI)(M:Au)(H0:Hp)(p:Bx)(σ:Bl)(H:Hp)(Q:MD):Prop where
 |mk:∀env,EnvOk X.K M H0 H σ env->((evB call bc p env).Good (λd env'=>∃b,d=.bl b/\∀H',EnvOk X.K M H0 H' σ env'->Ow M env' σ=Ow M env σ->SameP H H'->Q b H') (EX X M H0 σ))->tTB X call bc M H0 p σ H Q
def lZ(e:EnvOk X.K M H0 H Z O){r:Rs D}{P:D->Fm->Prop}{g:D->Prop}(h:(Rx.of O r).Good P (EX X M H0 Z))(l:∀d,P d O->g d):r.Good g Az:=by
 cases r with
 |ok d=>exact l d h
 |ex c=>exactλC W o s=>h C W o Ub
 |sk=>exact h
section
variable{U:Ag}{a:Expr}{p:Px}{pa:Bx}
def xR(l:Cf):PE X e (tB X U bc M H0 Z0):=
 PE.weak l λZ H Q⟨O,e,h⟩=>⟨O,YF,lZ e h λd g v W s r=>g v W Ub rfl 'ʮ' r⟩
def tB.two{o:O2}{Q:VK}(h:tB X U bc M H0 Lu Z H Q):tOp K0 M9 GH Z H Q:=by
 obtain⟨O,e,h⟩:=h;refine⟨O,e,(Rx.gB.mp h).imp (λE g hx x H1 I l L r1=>?_) λ_ _ z=>z⟩;refine⟨g,I,(Rx.gB.mp hx).imp (λdy A u y H2 F q B Y=>?_) λ_ _ z=>z⟩;split at u
 ·rename_i J;exact⟨E,dy,Rep.plain B E J r1,Y,lZ F u λd hd v W s r=>hd v W (F.grow s) (q.trans l) ((L.trans B).trans 'ʮ') r⟩
 ·exact u.elim
def JvB{o:O2}{op:bT}(l:Ra)(g:Qdm)(r:PE X b GH)(q:F7):PE X F6 (tB X U bc M H0 Lu):=
 PE.weak (Jnm l g r q) λZ H Q h=>h.two
def JiZ{p:Px}(g:PT X a c8):PT X a (tTB X U bc M H0 Z0):=
 PT.weak g λZ H Q⟨O,e,h⟩=>⟨O,YF,lZ e h λd⟨b,l,q⟩=>⟨b,l,λW s=>q W Ub rfl 'ʮ'⟩⟩
def JrM{rest:CF}(A:Qdm)(Y:PE X (.BoolOp .And (b::rest) pos) GH):PE X (.BoolOp .And (a::b::rest) pos) (tB X U bc M H0 (.and pa pb)):=by
 refine PE.weak (JrL A Y) λZ H Q q=>?_;obtain⟨O,e,h⟩:=q;refine⟨O,e,(Rx.gB.mp h).imp (λd l r x B u g s1 J=>?_) λ_ _ z=>z⟩;cases d with
 |bl k=>
  cases J;refine⟨k,rfl,?_⟩;cases k with
  |true=>exact iteT ⟨l,u,r.imp (λd2 s E v I L o s2 F=>E v I L (o.trans g) FL F) λ_ _ z=>z⟩
  |false=>exact iteF (r _ B u g s1 rfl)
 |_=>exact r.elim
end
def spB(K:Aj)(mg:Bk)(bc:AI)(fi:Nat):Sp:=λl H Q E=>∃a h st J,l=.ref a::h/\Rep K H st Ar/\Reps K H J h/\Jb J=To/\
 (bc fi st J).Good (λd g=>∀v W,SameP H W->Rep K W g Ar->Rep K W d v->Q v W) (λc g=>∀C W,mg c=So BL->SameP H W->Rep K W g Ar->E BL No W)
inductive CalleeBe(G:Gw)(bc:AI)(fi:Nat)(c m:Str):Prop where
 |mk (C:Addr) (kk:Nat) (f:Addr) (fd:FuncData) (ps:List Str) (h:PySem.W.nsIn G.K mainGlobals c=So (So (.ref C))/\Cls G.K C/\Meth G.K C m f/\FnOk G.prog G.w G.K G.mg G.base (CXr G.prog G.w) kk f fd ps (spB G.K G.mg bc fi)/\Room kk G.A.in1.in1/\Binds G.K fd ps []):CalleeBe G bc fi c m
structure CalleeB(G:Gw)(bc:AI)(fi:Nat)(c m:Str):Prop where
 ex:CalleeBe G bc fi c m
inductive tC(X:Cx)(call:Ag)(bc:AI)(f i:Nat)(cn m:Str)(p:Px)(σ:Bl)(H:Hp)(Q:VK):Prop where
 |mk:∀env a ns fs,ReadOk X.K H σ env->env[i]? =So (So (.obj a ns fs))->clsN ns=cn->ns.contains m=Fo->((evD call p env).Good (λd=>∃ds,d=.lst ds/\Jb ds=To/\(bc f CD ds).Good (λd st'=>∀v H',SameP H H'->Rep X.K H' st' Ar->Rep X.K H' d v->Q v H') (λc st'=>∀C H',X.mg c=So BL->SameP H H'->Rep X.K H' st' Ar->XE X C H')) Az)->tC X call bc f i cn m p σ H Q
theorem gU:∀{ns:Ac}{xs:List α},ns.contains m=Fo->'ƹ'.lookup m=No
 |[],_,_=>by simp
 |n::ns,[],_=>by simp
 |n::ns,x::xs,h=>by
  simp only[jQ,ZN]at h
  simp only[sF,Zp,h.1]
  exact gU h.2
section
variable{U:Ag}{p:Px}
def Jnx{C f:Addr}{kk:Nat}{fd:BG}{ps:Ac}{t:TA}(Cc:Am)(hC:PySem.W.nsIn G.K mainGlobals cn=So BC){Z:Bl}{H:Hp}{Q:VK}(h:tC X U bc fi i cn m p Z H Q)
  (ht:∀O L,ReadOk X.K H Z O->'ǉ'.Good (λd=>∃J,d=.lst J/\∀l W,Same H W->Reps X.K W J l->L l W) Az->t Z H L):
  gR C m (spB X.K X.mg bc fi) [] (λE _ W=>∀C,E=.ref C->XE X C W) (λZ H Q=>∃v,Z[i]? =So BO/\Q v H) t Z H Q:=by
 obtain⟨O,a,ns,fs,r,he,u,hm,h⟩:=h;obtain⟨v,hv,Y⟩:=r i _ he;obtain⟨e1,C',dx,xs,h1,h2,h3,h4⟩:=id Y;subst e1;rw[u,Cc.K,hC]at h2;cases h2;refine⟨_,hv,a,dx,_,rfl,h1,gU hm,ht O _ r (h.imp λd⟨J,ed,I,g⟩=>⟨J,ed,λl W s rs=>?_⟩)⟩;refine⟨a,l++[],_,J,rfl,Y.mono s,by rw[pE];exact rs,I,?_⟩;cases q:bc fi CD J with
 |ok d F=>rw[q]at g;exactλv z o B rd=>g v z ('ʮ'.trans o) B rd
 |ex c F=>rw[q]at g;exactλC2 z A o B C3 e3=>by cases e3;exact g C2 z A ('ʮ'.trans o) B
 |sk=>rw[q]at g;exact g
def sI:Jcf RQ X (λg _ W=>∀C,g=.ref C->XE X C W):=λY Z H s e l I h=>by
 obtain⟨a,C,W,rfl,F,hE⟩:=Jgd I h
 exact hE C rfl a l F
def JnV{pl:Ca}(l:Am)(I:NS)(E:visB nm x=To)(hi:N[i]? =So x)(q:Q8)(o:(x==("__classdict__":Str))=Fo)(u:Ef)
  (s:CG) (hpl:'в' ('ķ'.any (·.1)=Fo) Ai)
  (ht:'в' (eval DH Ue=(do
   let ov<-eval Fh Ue
   standAt XY
   let(f,first)<-holding [ov] CN
   callWith pos f first 'ν' Dh)) Ai):PE X DH (tC X U bc fi i cn m p):=by obtain⟨C,kk,f,fd,ps,A,B,J,F,z,L⟩:=I.ex;have Y:=l.g;subst Y;exact PE.weak (JiX (rA (by rw[l.hN];exact hi) (l.vis x E) q o) B J F (Room.out z) L .nil sI u s hpl ht) λZ H Q h=>Jnx (f:=f) (kk:=kk) (fd:=fd) (ps:=ps) l A h λO Q' r g=>⟨O,r,g⟩
def JqK{pl:Ca}(l:Am)(L:NS)(B:visB nm x=To)(hi:N[i]? =So x)(q:Q8)(o:(x==("__classdict__":Str))=Fo)
  (I:'в' (eval E6 Ue=(do
   let ov<-eval Fh Ue
   standAt XY
   let(f,first)<-holding [ov] CN
   callWith pos f first 'е' Dh)) Ai):PE X E6 (tC X U bc fi i cn m .nil):=by obtain⟨C,kk,f,fd,ps,u,z,Y,F,s,hb⟩:=L.ex;have hG:=l.g;subst hG;exact PE.weak (Jkb (rA (by rw[l.hN];exact hi) (l.vis x B) q o) z Y F (Room.out s) hb .nil sI I) λZ H Q h=>Jnx (f:=f) (kk:=kk) (fd:=fd) (ps:=ps) l u h λO Q' r g=>by obtain⟨J,A,E⟩:=g;cases A;exact E [] H D8 rfl
end
section
variable{U:Ag}{p:Px}
def Jtq(Y:UR)(h0:A4)(hm:Dj):PE X e VD:=by
 refine PE.weak Y λZ H Q B=>?_;obtain⟨O,e,h⟩:=B;simp only[evB]at h;split at h
 ·rename_i a u fs q;split at h
  ·rename_i E;subst E;refine⟨O,a,u,fs,YF,q,rfl,hm,?_⟩;obtain⟨v,hv,F⟩:=e.read i _ Ad q;obtain rfl:v=.ref a:=F.1;have o:∀{g:D}{W:Hp},plE Md=To->SameP H W->Rep X.K W g Ar->EnvOk X.K [] H0 W Z Qa4:=λL s r=>e.obj Ad L s Sh hv (by show Rep X.K GW _ _;rw[JE];exact r);cases z:evD U p O with
   |sk=>rw[z]at h;exact h.elim
   |ex c=>rw[z]at h;simp only[if_true]at h;exactλC W l s=>h C W l Ub
   |ok d=>
    rw[z]at h;cases d with
    |lst J=>
     simp only at h;split at h
     ·rename_i A;simp only[Zc]at A;refine⟨J,rfl,A.2,?_⟩;cases y:bc fi (.obj a u fs) J with
      |sk=>rw[y]at h;exact h.elim
      |ok d g=>rw[y]at h;exactλv W s r I=>h v W (o A.1 s r) rfl s I
      |ex c g=>rw[y]at h;exactλC W l s r=>h C W l (o A.1 s r)
     ·exact h.elim
    |_=>exact h.elim
  ·exact h.elim
 ·exact h.elim
def Jyn{L:A9}{g:Hp}(l:∀a∈L,g a=No):Same g (uni L H g):=λb o h=>by
 have:b∉L:=λq=>by rw[l b q]at h;cases h
 rw[JS this];exact h
def Jjz(he:UR)(h0:A4)(hm:Dj)(hi:i∉M)(E:De):PE X e Vx:=by
 rintro Y s Z H Q I⟨O,e,h⟩;simp only[evB]at h;split at h
 ·rename_i a l fs q;split at h
  ·rename_i B;subst B;obtain⟨v0,hv,hr⟩:=e.read i _ hi q;obtain rfl:v0=.ref a:=hr.1;obtain⟨ps,e1,e2,I'⟩:=Inv.hide I e.ows.c;cases z:evD U p O with
   |sk=>rw[z]at h;exact h.elim
   |ex c=>rw[z]at h;exact h.elim
   |ok d=>
    rw[z]at h;cases d with
    |lst J=>
     simp only at h;split at h
     ·rename_i F;simp only[Zc]at F;cases y:bc fi Mp J with
      |sk=>rw[y]at h;exact h.elim
      |ex c A=>rw[y]at h;exact h.elim
      |ok d A=>
       rw[y]at h;refine ZY (he (ps++Y) s Z Dc (λv g=>SameP Dc g/\Rep X.K g A Ar/\Rep X.K g d v) I' ⟨lC M 0 O,a,l,fs,aZ,by rw[zU,q];simp[hi],rfl,hm,?_⟩) (λu s1⟨v,g,I1,rv,sm,r1,r2⟩=>?_) λ_ _ z=>z
       ·rw[qH U O E,z];refine⟨J,rfl,F.2,?_⟩;rw[y];exactλv W s r rd=>⟨s,r,rd⟩
       ·obtain⟨hn,I2⟩:=Inv.unhide I e.ows.c e1 e2 (λb xs w=>sm b _ w rfl) I1;have sp:SameP H (uni CB H g):=λb o w pk=>by
         by_cases L:b∈Ow M O Z
         ·rw[zI L];exact w
         ·rw[JS L];exact sm b o (by rw[Jt L];exact w) pk
        exact⟨v,_,I2,rv,h v _ (e.obj hi F.1 sp (h0.same YX sp) hv (by rw[iT hn];exact r1)) (Jwo hi) sp (r2.mono (Jyn hn))⟩
     ·exact h.elim
    |_=>exact h.elim
  ·exact h.elim
 ·exact h.elim
end
structure FzB(L:A9)(H:Hp)(L':A9)(W:Hp):Prop where
 keep:∀a o,H a=So o->plK o=To->a∉L->W a=So o
 own:∀l∈L',l∈L\/∀o,H l=So o->plK o=Fo
def ChB(m:Bool)(L:A9)(H:Hp)(g:A9)(W:Hp):Prop:=FzB L H g W/\(m=Fo->SameP H W)
section
variable{m n:Bool}{L L1 L2:A9}{H1 H2:Hp}
def ChB.of(h:MN):ChB m L H L1 H1:=⟨⟨λa o e _ q=>h.1.keep a o e q,λl g=>(h.1.own l g).imp id λz o w=>by rw[z]at w;cases w⟩,λz=>SameP.of (h.2 z)⟩
def ChB.sp(h:Qbg):ChB m L H L H1:=⟨⟨λa o e p _=>h a o e p,λl g=>.inl g⟩,λ_=>h⟩
def ChB.trans(a:Qd3)(b:ChB n L1 H1 L2 H2):ChB (m||n) L H L2 H2:=by
 refine⟨⟨λc o e p q=>b.1.keep c o (a.1.keep c o e p q) p λg=>?_,λl r=>?_⟩,λh=>?_⟩
 ·rcases a.1.own c g with h|h
  ·exact q h
  ·rw[h o e]at p;cases p
 ·rcases b.1.own l r with h|h
  ·exact a.1.own l h
  ·by_cases g:l∈L
   ·exact .inl g
   ·refine .inr λo e=>?_;cases p:plK o with
    |false=>rfl
    |true=>rw[<-h o (a.1.keep l o e p g),p]
 ·simp only[ZN]at h;exact(a.2 h.1).trans (b.2 h.2)
def ChB.weak(a:Qd3)(h:n=Fo->m=Fo):ChB n L H L1 H1:=⟨a.1,λq=>a.2 (h q)⟩
end
def OutQ(X:Cx)(w:Bool)(M:Au)(H0:Hp)(L:A9)(H:Hp)(m:Bool)(D:Ends)(f:Fw)(O:Fm):Prop:=match f with
 |.nx=>∀g W,EnvOk X.K M H0 W g O->ChB m L H dD W->D.nx g W
 |.rt d=>∀v W,Same H0 W->Rep X.K W d v->(w=To->∃g,EnvOk X.K M H0 W g O)->D.rt v W
 |.bk=>∀g W,EnvOk X.K M H0 W g O->ChB m L H dD W->D.bk g W
 |.ct=>∀g W,EnvOk X.K M H0 W g O->ChB m L H dD W->D.ct g W
def EQ(X:Cx)(M:Au)(H0:Hp)(c:Str)(O:Fm):Prop:=∀C W g,X.mg c=So BL->EnvOk X.K M H0 W g O->XE X C W
inductive tSB(X:Cx)(w:Bool)(call:Ag)(bc:AI)(M:Au)(H0:Hp)(p:Bs)(D:Ends)(σ:Bl)(H:Hp):Prop where
 |mk:∀env,EnvOk X.K M H0 H σ env->(exO w call bc p env).Good (OutQ X w M H0 (Ow M env σ) H (mutB p) D) (EQ X M H0)->tSB X w call bc M H0 p D σ H
def OutQ.after{r:Hp}{L s:A9}{m n k:Bool}{D:Ends}{f:Fw}(h:OutQ X w M H0 L H k D f O)(c:ChB m L H s r)(B:k=Fo->m=Fo/\n=Fo):OutQ X w M H0 s r n D f O:=by
 have u:∀{z:A9}{W:Hp},ChB n s r z W->ChB k L H z W:=λA=>(c.trans A).weak λq=>by obtain⟨a,b⟩:=B q;rw[a,b];rfl
 cases f with
 |nx=>exactλg W o l=>h g W o (u l)
 |rt d=>exact h
 |bk=>exactλg W o l=>h g W o (u l)
 |ct=>exactλg W o l=>h g W o (u l)
section
variable{U:Ag}{p:Px}{a b:Bs}{q:Sx}{rest sa sb:BF}
def mH(h:PS X st QbK):PS X st UM:=by
 refine PS.weak h λD Z H⟨O,e,h⟩=>Dx;simp only[exO]at h;cases z:exD U q O with
 |sk=>rw[z]at h;exact h.elim
 |ex c=>rw[z]at h;exact h.elim
 |ok r=>
  rw[z]at h;obtain⟨f,u⟩:=r;cases f with
  |nx=>exactλg W o l=>h g W o GV
  |bk=>exactλg W o l=>h g W o GV
  |ct=>exactλg W o l=>h g W o GV
  |rt d=>
   cases w with
   |true=>exact h.elim
   |false=>exactλv W s r=>h v W s r λz=>by cases z
def Jgp(h:PSs X rest QbK):PSs X rest UM:=by
 refine PSs.weak h λD Z H⟨O,e,h⟩=>Dx;simp only[exO]at h;cases z:exD U q O with
 |sk=>rw[z]at h;exact h.elim
 |ex c=>rw[z]at h;exact h.elim
 |ok r=>
  rw[z]at h;obtain⟨f,u⟩:=r;cases f with
  |nx=>exactλg W o l=>h g W o GV
  |bk=>exactλg W o l=>h g W o GV
  |ct=>exactλg W o l=>h g W o GV
  |rt d=>
   cases w with
   |true=>exact h.elim
   |false=>exactλv W s r=>h v W s r λz=>by cases z
def kH(h:PS X st Nk):PSs X [st] Nk:=JiW h
def pT(h1:PS X st Nk)(u:PSs X rest Pn):PSs X (st::rest) (tSB X w U bc M H0 Ke):=by
 refine PSs.weak (JN h1 u) λD Z H⟨O,e,h⟩=>Dx;refine(Rq.gB.mp h).imp (λf o s=>?_) λ_ _ z=>z;have B:mutB Ke=Fo->mutB a=Fo:=λq=>(ZN.mp q).1;cases f with
 |nx=>intro g W r l;refine⟨o,r,s.imp (λE A u=>u.after l λq=>ZN.mp q) λ_ _ z=>z⟩
 |rt d=>exact s
 |bk=>exactλg W r l=>s g W r (l.weak B)
 |ct=>exactλg W r l=>s g W r (l.weak B)
def mX(J:PT X c (tTB X U bc M H0 pb))(A:PSs X sa Nk)(L:PSs X sb Pn):PS X Qag (tSB X w U bc M H0 IJ):=by
 refine PS.weak (hX J A L) λD Z H⟨O,e,h⟩=>Dx;refine(Rx.good_next.mp h).imp (λd g u=>?_) λc g z C W o I=>z C W Z o I;cases d with
 |bl k=>
  refine⟨k,rfl,λW F B s=>?_⟩;have l:∀{q:Bs},(mutB IJ=Fo->mutB q=Fo)->(exO w U bc q g).Good (OutQ X w M H0 CB H (mutB IJ) D) (EQ X M H0)->tSB X w U bc M H0 q D Z W:=λo Y=>
   ⟨g,F,Y.imp (λf r E=>by rw[B];exact E.after (m:=Fo) (ChB.sp s) λz=>⟨rfl,o z⟩) λ_ _ z=>z⟩
  cases k with
  |true=>exact iteT (l (λz=>(ZN.mp z).1) u)
  |false=>exact iteF (l (λz=>(ZN.mp z).2) u)
 |_=>exact u.elim
def zN(u:PE X e GH)(hs:swapsWith e No XT Ue=pure Fo):PS X QdC (tSB X w U bc M H0 (.eff pb)):=by refine PS.weak (nL u hs) λD Z H⟨O,e,h⟩=>Dx;exact(Rx.good_next.mp h).imp (λd g E v W o l s r=>E Z W o (by rw[l];exact ChB.sp s)) λc g z C W A B=>z C W Z A B
def jY(g:Cf):PS X Ng (tSB X w U bc M H0 (.ret p)):=by
 refine PS.weak (pN g) λD Z H⟨O,e,h⟩=>Lo;simp only[exO]at h;cases z:evD U p O with
 |sk=>rw[z]at h;exact h.elim
 |ex c=>rw[z]at h;exactλC W l s=>h C W Z l Ub
 |ok d=>rw[z]at h;exactλv W s r=>h v W Qa0 r λ_=>⟨Z,e.grow s⟩
def JwO(C:Am)(hi:N[i]? =So x)(F:locB nm x=To)(A:TJ)(hs:MA):
  PS X Ga U7:=by
 obtain⟨u,I⟩:=C.sto x F;refine PS.weak (iD CU (by rw[C.hN];exact hi) u A hs I) λD Z H⟨O,e,h⟩=>Dx;refine(Rx.good_next.mp h).imp (λd g l v W o J s r=>?_) λc g z C W B E=>z C W Z B E;split at l
 ·exact l _ W (o.put Ad (by show Rep X.K Kd d v;rw[JE];exact r)) (ChB.sp s)
 ·exact l.elim
def Jqb{cx:Str}{ma:Expr}{pm:Px}(o:∀H,PS X SA (tS X U [] H Qcg)):PS X SA (tSB X w U bc [] H0 Qcg):=by
 rintro Y s Z H D I⟨O,e,h⟩;refine o H Y s Z H D I ⟨O,⟨Same.refl H,e.len,e.read,λj d g=>by simp at g,λj _ _ _ _ g=>by simp at g⟩,?_⟩;simp only[exO]at h;simp only[exD];cases z:evD U pm O with
 |sk=>rw[z]at h;exact h.elim
 |ex c=>rw[z]at h;exact h.elim
 |ok d=>
  rw[z]at h;simp only[Rs.bo];simp only at h;split at h
  ·rename_i r;rw[if_pos r];exactλC W l s=>h C W Z l Ub
  ·exact h.elim
end
def FldC(G:Gw)(f:Str):Prop:=∀ns C,PySem.W.nsIn G.K mainGlobals D9=So BC->Cls G.K C/\NoAttr G.K C f
theorem zZ{l:Type}(P:α->l->Prop):∀{ns:Ac}{fs:List α}{xs:List l}{d:α},'ɣ'.lookup f=So d->aX=Ah->(∀(i:Nat)(d:α),fs[i]? =So d->∃x,xs[i]? =So x/\P d x)->∃x,'ƹ'.lookup f=So x/\P d x
 |[],_,_,_,h,_,_=>by simp at h
 |n::ns,[],_,_,h,_,_=>by simp at h
 |n::ns,a::fs,[],_,_,hl,_=>by simp at hl
 |n::ns,a::fs,x::xs,d,h,hl,hr=>by
  simp only[sF,Zp]at h⊢
  cases q:f==n with
  |true=>
   rw[q]at h
   cases h
   obtain⟨y,g,r⟩:=hr 0 _ rfl
   simp at g;subst g
   exact Mi
  |false=>
   rw[q]at h
   exact zZ P h (by simpa using hl) λi d o=>by simpa using hr Bw d (by simpa using o)
section
variable{U:Ag}{p:Px}
def Jxk(C:Am)(u:Ds)(E:Cf)(Y:attributeBase e f Ue ML=eval e Ue):PE X S6 (tI X U (.un (.fld f) p)):=by
 refine PE.weak (JeZ E Y) λZ H Q h=>h.un1 λd v W s B g=>?_;cases d with
 |obj a ns fs=>
  simp only[op1]at g;obtain⟨rfl,o,I,xs,A,r,h3,l⟩:=B;cases q:'ɣ'.lookup f with
  |none=>rw[q]at g;exact g.elim
  |some d=>rw[q]at g;obtain⟨x,F,L⟩:=zZ (λd x=>Rep X.K W d x) q l.length.symm λi d g=>l.get g;rw[C.K]at r;obtain⟨J,z⟩:=u ns o r;exact⟨a,o,I,_,x,rfl,A,by rw[C.K];exact J,by rw[C.K];exact z,F,Out.now g L⟩
 |_=>exact(show False from g).elim
end
noncomputable def JrN:HO->Prop
 |.ins _ _ _=>False
 |_=>True
def SameN(H W:Hp):Prop:=∀a o,H a=So o->JrN o->W a=So o
def SameN.p(s:Qdn):SameP H W:=λa o h p=>s a o h (by cases o<;>first|trivial|cases p)
def DK.no{t z:Bool}{ks:Ak}(h:Ry):∃o,H a=So o/\JrN o:=by
 cases t<;>cases z<;>obtain⟨l,g,q⟩:=h
 ·exact Hu
 ·obtain⟨o,g⟩:=g;exact Hu
 ·exact Hu
 ·obtain⟨o,g⟩:=g;exact Hu
def Rep.fld(s:Qdn)(r:wI d=To)(h:Dv):Rep K W d v:=by
 cases d with
 |dct t z ks B=>obtain⟨a,xs,l,g,u⟩:=h;obtain⟨o,A,E⟩:=g.no;exact⟨a,xs,l,g.mono λF q=>by rw[A]at q;cases q;exact s a _ A E,Reps.plain s.p B r u⟩
 |mls t J=>obtain⟨a,xs,l,g,u⟩:=h;exact⟨a,xs,l,s a _ g trivial,Reps.plain s.p J r u⟩
 |_=>exact Rep.plain s.p _ r h
theorem Reps.fld(s:Qdn):∀{J:Ak}{xs:Av},J.all wI=To->Reps K H J xs->Reps K W J xs
 |[],_,_,h=>h
 |d::J,_,p,⟨x,r,e1,h1,h2⟩=>by
  simp only[gF,Zc]at p
  exact⟨x,r,e1,Rep.fld s p.1 h1,Reps.fld s p.2 h2⟩
theorem Jov:∀{ns:Ac}{xs:Av},ns.contains f=To->AK=Ah->putF f v Xl=ns.zip (putN f v ns xs)
 |[],_,h,_=>by simp at h
 |n::ns,[],_,hl=>by simp at hl
 |n::ns,x::xs,h,hl=>by
  simp only[sF,putF,putN]
  by_cases q:n=f
  ·rw[if_pos q,if_pos q];rfl
  ·rw[if_neg q,if_neg q]
   simp only[jQ,nB,ZI]at h
   rw[Jov (h.resolve_left λz=>q z.symm) (by simpa using hl)]
   rfl
theorem rZ{v:α}:∀(ns:Ac)(xs:List α),(putN f v ns xs).length=Ah
 |[],xs=>by cases xs<;>rfl
 |n::ns,[]=>rfl
 |n::ns,x::xs=>by simp only[putN];split<;>simp[rZ ns xs]
theorem Reps.putN(g:Dv):∀{ns:Ac}{J:Ak}{xs:Av},Reps K H J xs->Reps K H (Pu.putN f d ns J) (Pu.putN f v ns xs)
 |[],J,xs,h=>by cases J<;>cases xs<;>exact h
 |n::ns,[],xs,h=>by cases h;exact rfl
 |n::ns,d'::J,_,⟨x,r,e1,h1,h2⟩=>by
  subst e1
  simp only[Pu.putN]
  by_cases q:n=f
  ·rw[if_pos q,if_pos q];exact⟨_,_,rfl,g,h2⟩
  ·rw[if_neg q,if_neg q];exact⟨_,_,rfl,h1,Reps.putN g h2⟩
def Jpc(U:A4)(e:EnvOk K [] H0 H Z (So CD::O))(I:plE O=To)(F:fs.all wI=To)(hn:ns.contains f=To)(Y:wI d=To)(L:Dv):
  Z[0]? =So (So Ar)/\∃C dx xs,H a=So (.ins C dx Xl)/\PySem.W.nsIn K mainGlobals D9=So BC/\(ns.zip xs).length<=AK/\SameP H Sg/\EnvOk K [] H0 Sg Z (So Qch::O):=by
 obtain⟨u,A,h⟩:=e.read 0 _ Ad rfl;replace h:Rep K H CD u:=by have z:Rep K Kc CD u:=h;rw[JE]at z;exact z
 obtain⟨rfl,C,dx,xs,s,E,B,r⟩:=h;have g:SameN H Sg:=λb o q l=>by rw[Jc (λz=>by subst z;rw[s]at q;cases q;exact l)];exact q
 refine⟨A,C,dx,xs,s,E,by rw[List.length_zip];exact Nat.min_le_left _ _,g.p,?_⟩;refine e.obj (i:=0) Ad I g.p (U.same YX g.p) A ?_;show Rep K GW _ _;rw[JE];have J:AK=Ah:=B.trans r.length.symm;refine⟨rfl,C,dx,putN f v ns xs,by rw[Je,Jov hn J],E,by rw[rZ];exact B,?_⟩;exact Reps.putN (Rep.fld g Y L) (Reps.fld g F r)
section
variable{U:Ag}{p:Px}{ipos:Pos}
structure Slf(N:Ac)(nm:Bj)(x:Str):Prop where
 at_:N[0]? =So x
 vis:visB nm x=To
 d1:(x==("__debug__":Str))=Fo
 d2:(x==("__classdict__":Str))=Fo
def Slf.pe(S:GN)(C:Am):PE X Dp (λZ H Q=>∃v,Z[0]? =So BO/\Q v H):=rA (by rw[C.hN];exact S.at_) (C.vis x S.vis) S.d1 S.d2
def JtX{P:Fw->Fm->Prop}{E:Ea}(h:(chgF f d O).Good P E):∃a ns fs g,O=So CD::g/\ns.contains f=To/\fs.all wI=To/\plE g=To/\ns.length<1000/\P .nx (So Qch::g):=by
 unfold chgF at h;split at h
 ·rename_i a ns fs g;split at h
  ·rename_i l;simp only[Zc]at l;exact⟨a,ns,fs,g,rfl,l.1.1.1,l.1.1.2,l.1.2,by simpa using l.2,h⟩
  ·exact h.elim
 ·exact h.elim
theorem Jsv{d:α}:∀{ns:Ac}{fs:List α},'ɣ'.lookup f=So d->ns.contains f=To
 |[],_,h=>by simp at h
 |n::ns,[],h=>by simp at h
 |n::ns,y::fs,h=>by
  simp only[sF,Zp]at h
  simp only[jQ,nB]
  cases q:f==n with
  |true=>exact .inl rfl
  |false=>rw[q]at h;exact .inr (Jsv h)
def JlC{k:D}(q:Jj d=To)(ks vs:Ak)(g:Jb vs=To):Jb (putD k d ks vs).2=To:=by
 have h:∀(ks vs:Ak),Jb vs=To->Jb (setD k d ks vs)=To:=λks=>by
  induction ks with
  |nil=>intro vs g;cases vs<;>exact g
  |cons a ks o=>
   intro vs g;cases vs with
   |nil=>rfl
   |cons u vs=>
    simp only[Jb,Zc]at g;simp only[setD,Jb,Zc];refine⟨?_,o vs g.2⟩;split
    ·exact q
    ·exact g.1
 have l:∀vs:List D,Jb vs=To->Jb (vs++[d])=To:=λvs=>by
  induction vs with
  |nil=>intro _;simp[Jb,q]
  |cons u vs o=>intro g;simp only[Jb,Zc]at g;simp only[rB,Jb,Zc];exact⟨g.1,o g.2⟩
 unfold putD;split
 ·exact h _ _ g
 ·exact l _ g
end
section
variable{w:AQ}{sc:Bf}{f:Addr}{cd:An}{A:Bv}{outer:Bq}{s:Al}{E:XK}
def Jhl(S:FnScope N ps sc)(l:Room k (A.deeper QW)):Ctx (cxOf A0 P w K mg base N qual sc f cd A outer s H E) ⟨P,w,K,mg,base,A.deeper QW⟩ N X5 where
 g:=rfl
 hN:=rfl
 nd:=S.nd
 vis:=λy h=>by
  show Vis sc y
  unfold visB at h
  split at h
  ·rename_i z;exact .inl z
  ·rename_i z;exact .inr Y7
  ·rename_i z;exact .inr bJ
  ·cases h
 cel:=λy h=>by
  show sc.names.lookup y=So .cell\/sc.names.lookup y=So .free
  unfold celB at h
  split at h
  ·rename_i z;exact .inl z
  ·rename_i z;exact .inr z
  ·cases h
 glo:=λy h=>by
  show sc.names.lookup y=So .globalImplicit
  unfold gloB at h
  split at h
  ·rename_i z;exact z
  ·cases h
 sto:=λy h=>by
  show Loc sc y/\(To=To\/_)
  unfold locB at h
  split at h
  ·rename_i z;exact Os
  ·rename_i z;exact Oq
  ·cases h
 calm:=rfl
 un:=l.units
 fr:=Pe
end
def JpS{r:Fm}{l g:D}(e:EnvOk K [] H0 W Z (So g::r))(hs:xC l g=To)(h:Rep K H l Ar):Rep K W g Ar:=by
 obtain⟨v,_,o⟩:=e.read 0 _ Ad rfl;replace o:Rep K W g v:=by have z:Rep K Kd g v:=o;rw[JE]at z;exact z
 cases g with
 |obj b ns fs=>
  cases l with
  |obj c A s=>
   have q:a=c:=by injection h.1
   have u:c=b:=by simpa[xC]using hs
   subst q;subst u;have B:=o.1;subst B;exact o
  |_=>simp[xC]at hs
 |_=>cases l<;>simp[xC]at hs
section
variable{w:AQ}{defs:Cg}{bdefs:EH}{d:DefB}
theorem Jvu{Tb:Hp->Prop}{f:Addr}(F:E0)(S:Lh)(hd:bdefs[fi]? =So d)(hs:d.slots=XM)(hp:d.params=Ao)(hpN:Ao<=XM)
  (I:∀(X:Cx)(A:Bv)(H0:Hp),Ctx X AM N 'Ɯ'.names->Room j A->HX X 'Ɯ'.names->Tb X.H₀->X.env.code=fd.code->Qbk=qual++".<locals>."->PlO H0->PSs X Ew UG):
  FnOk P w K mg base A0 (j+1) f fd ps (λvs H Q E=>Tb H/\spB K mg Lr fi vs H Q E):=by
 have L:∀st J,runB defs bdefs AZ fi st J=if Ae+1=aA then ansB st (exO To CC Dr Yj (JD Yy (st::J)))else .sk:=λst J=>by simp only[runB,hd]
 obtain⟨oc,od,kV,doc,pm,an,cdv,ct,osl,rfl,lk,hcd⟩:=F.ex;refine jK lk hcd S (λvs H Q E h=>?_) (λA outer s H vs Q E hr h=>?_)
 ·obtain⟨_,a,ws,l,J,rfl,r1,r2,hpl,g⟩:=h;rw[L]at g;split at g
  ·rename_i q;rw[Zk,r2.length,q,hp]
  ·exact g.elim
 ·obtain⟨tb,a,ws,l,J,rfl,r1,r2,hpl,g⟩:=h;rw[L]at g;split at g
  ·rename_i q;have e0:EnvOk K [] H H (L2.kC N (.ref a::ws)) (JD Yy (l::J)):=by have:=xU (d:=⟨Yy,aA,.skip⟩) (M:=[]) hs (J:=l::J) (by simp only[Zk];lia) (λi Y=>by simp at Y) (show Reps K H (l::J) (.ref a::ws)from⟨_,_,rfl,r1,r2⟩);exact this
   refine⟨_,I _ _ (pl H) dE hr Lv tb rfl rfl pY,JD Yy (l::J),⟨JiM,e0.len,e0.read,λ_ _ Y=>by simp at Y,λ_ _ _ _ _ Y=>by simp at Y⟩,?_⟩;cases q2:exO To CC Dr Yj (JD Yy (l::J))with
   |sk=>rw[q2]at g;exact g.elim
   |ok fl z=>
    rw[q2]at g;cases z with
    |nil=>cases fl<;>exact g.elim
    |cons o r=>
     cases o with
     |none=>cases fl<;>exact g.elim
     |some st'=>
      cases fl with
      |bk=>exact g.elim
      |ct=>exact g.elim
      |nx=>
       simp only[ansB]at g;split at g
       ·rename_i u;exactλU W B _=>g .non W Il Ik rfl
       ·exact g.elim
      |rt dd=>
       simp only[ansB]at g;split at g
       ·rename_i u;exactλv W s' r' hw=>let⟨U,B⟩:=hw rfl;g v W Il Ik r'
       ·exact g.elim
   |ex c z=>
    rw[q2]at g;cases z with
    |nil=>exact g.elim
    |cons o r=>
     cases o with
     |none=>exact g.elim
     |some st'=>
      simp only[ansB]at g;split at g
      ·rename_i u;exactλC2 H2 U hm B a' s' F'=>mO F' (g C2 H2 hm Il Ik)
      ·exact g.elim
  ·exact g.elim
def Jyu{f:Addr}(F:E0)(S:Lh)(r:bdefs[fi]? =So d)(hs:d.slots=XM)(o:d.params=Ao)(h:Ao<=XM)
  (g:∀(X:Cx)(A:Bv)(H0:Hp),Ctx X AM N 'Ɯ'.names->Room j A->HX X 'Ɯ'.names->PlO H0->PSs X Ew UG):
  FnOk P w K mg base A0 (j+1) f fd ps (spB K mg Lr fi):=(Jvu (Tb:=λ_=>True) F S r hs o h λX A H0 C l s _ _ _ q=>g X A H0 C l s q).imp λu H Q E z=>⟨trivial,z⟩
def JpD{f:Addr}:FnOk P w K mg base A0 0 f fd ps (spB K mg OE fi):=
 ⟨λo H Q E⟨_,_,_,_,_,_,_,_,h⟩=>h.elim,λA g s H l q o Q E _ _ _ _⟨_,_,_,_,_,_,_,_,h⟩=>h.elim⟩
end
def wW(K:Aj):Sp:=λg H Q _=>∃(a:Addr)(ns:AU),g=Cr/\SqL K H a (ns.map V.int)/\ns.length<=63/\∀W,Q CW W
section
variable{w:AQ}{U:Ag}
theorem JgN:∀ns:List Int,Reps K H D0 Rp
 |[]=>rfl
 |n::ns=>⟨.int n,ns.map V.int,rfl,rfl,JgN ns⟩
def JsY{j:Nat}{x qual SP:Str}{st:Stmt}{f:Addr}{fd:BG}{N:Ac}{M:Au}{i:Nat}{b:Bs}{t:Cx->Hp->L2.TS}(F:E0)(S:FnScope N [SP] Us)(L:∀i∈M,1<=i)(hN:1<=XM)
  (g:∀(X:Cx)(A:Bv)(H0:Hp),Ctx X AM N 'Ɯ'.names->Room j A->HX X 'Ɯ'.names->PlO H0->PSs X Ew (t X H0))
  (ht:∀(X:Cx)(H0 H:Hp)(Z:Bl)(D:Ends)(ns:AU),X.K=K->AK<=63->EnvOk K M H0 H Z (JD XM Qdq)->(∀W,D.rt CW W)->t X H0 D Z H):FnOk P w K mg base A0 (j+1) f fd [SP] (wW K):=by
 obtain⟨oc,od,kV,B,pm,an,cdv,ct,osl,rfl,lk,r⟩:=F.ex;refine jK lk r S (λvs H Q E h=>?_) (λA u s H vs Q E z h=>?_)
 ·obtain⟨a,ns,rfl,_⟩:=h;rfl
 ·obtain⟨a,ns,rfl,I,hl,k⟩:=h;refine⟨_,g _ _ (pl H) (Jhl S z) z Lv pY,ht _ (pl H) H _ _ ns rfl hl ?_ k⟩;have o:=xU (K:=K) (d:=OP) (M:=M) (H:=H) rfl (J:=Qdq) (vs:=Cr) hN L ⟨_,_,rfl,⟨a,_,rfl,I,JgN ns⟩,rfl⟩;exact⟨JiM,o.len,o.read,λq d hq hd=>by
   obtain⟨l,g1,Y,g2⟩:=o.own q d hq hd;refine⟨l,g1,?_,g2⟩;unfold pl;rw[Y],o.apart⟩
end
noncomputable abbrev MethE:=Str×Str×Stmt×List Str
structure Met1(K:Aj)(C:Addr)(e:aH)(f:Addr)(fd:BG):Prop where
 F:Fun K e.1 e.2.1 e.2.2.1 f fd
 m:Meth K C e.1 f
 b:Binds K fd e.2.2.2 []
section
variable{w:AQ}{defs:Cg}{bdefs:EH}
noncomputable def HasM (K:Aj) (C:Addr):List MethE->Prop
 |[]=>True
 |e::T=>(∃f g,Met1 K C e f g)/\HasM K C T
noncomputable def OkM (P:Ba) (w:AQ) (K:Aj) (mg:Bk) (base:Heap) (defs:Cg) (bdefs:EH) (C:Addr) (k:Nat):Nat->List MethE->Prop
 |_,[]=>True
 |i,e::T=>(∀f g,Met1 K C e f g->FnOk P w K mg base A0 (3*k) f g e.2.2.2 (spB K mg Dr i))/\OkM P w K mg base defs bdefs C k Bw T
theorem Jge:∀(T:J7)(i:Nat),OkM P w K mg base defs bdefs C 0 i T
 |[],_=>trivial
 |e::T,i=>⟨λ_ _ _=>JpD,Jge T Bw⟩
def foB{l:Gw->CallD->CallB->Prop}{e:aH}{d:DefB}{b:Bs}(E:∀A,Room E8 A->l AM CC Dr)(F:∀{X:Cx}{G:Gw}{U:Ag}{bc:AI}{H0:Hp},l G U bc->Ctx X G N (Ja e.2.2.1).names->HX X (Ja e.2.2.1).names->PlO H0->PSs X (Jo e.2.2.1) (tSB X To U bc [] H0 b))
  (z:'в' (bdefs[i]? =So d) Ai) (hb:'в' (Yj=b) Ai) (h:'в' ((nI N e.2.2.2 (Ja e.2.2.1)&&d.slots==XM&&d.params==e.2.2.2.length&&decide (e.2.2.2.length<=XM))=To) Kp):
  ∀f g,Met1 K C e f g->FnOk P w K mg base A0 (3*AZ) f g e.2.2.2 (spB K mg Lr i):=λf g D=>by
 simp only[Zc,ZI,Zw]at h
 obtain⟨⟨⟨q,r⟩,I⟩,s⟩:=h
 subst hb
 exact Jyu (j:=3*k+2) D.F (uI q) z r I s λX A H0 C o B u=>F (E A o) C B u
noncomputable def MsIn (K:Aj) (C:Addr):List MethE->Prop
 |[]=>True
 |e::T=>(∃f g,Fun K e.1 e.2.1 e.2.2.1 f g/\Meth K C e.1 f)/\MsIn K C T
def meth_mk{n h:Str}{s:Stmt}{f:Addr}{z q:Dw}{sl:Ed}{u kV r pm o ct:An}(a:PySem.W.findIn K BL n=So EM)(i:PySem.W.isFn K Br=To)(l:K.lookup f=So ⟨u,z,.func (PySem.W.fnOf n h (vE s) (Jo s) (Ja s) .none kV r pm q o ct),sl⟩)(c:PySem.W.codeIn K o h=To)(k:PySem.W.keepIn K Br=To):
  ∃f g,Fun K n h s f g/\Meth K C n f:=⟨f,_,Jrq l c k,a,i,k⟩
abbrev BsM(e:aH):Prop:=∀(kV l o:An)(q:Dw)(g ct:An)(h:AE),h.length=e.2.2.2.length->bindArgs (PySem.W.fnOf e.1 e.2.1 (vE e.2.2.1) (Jo e.2.2.1) (Ja e.2.2.1) .none kV l o q g ct) ⟨h,[]⟩=pure (e.2.2.2.zip h)
noncomputable def BmOk:List MethE->Prop
 |[]=>True
 |e::T=>BsM e/\BmOk T
theorem uZ:∀{T:J7},MsIn K C T->BmOk T->HasM K C T
 |[],_,_=>trivial
 |e::T,d,b=>⟨let⟨f,g,F,m⟩:=d.1;⟨f,g,F,m,F.binds b.1⟩,uZ d.2 b.2⟩
end
section
variable{U:Ag}{a ev:Expr}{p:Px}{pa:Bx}{spos dpos:Pos}
def bEq(C:Am)(g:Qdm)(h:PE X b GH):PE X TN (tB X U bc M H0 RC):=JvB dC g h C6
def cM{pl:Ca}(C:Am)(r:A4)(u:S9)(g:GF)(A:Dj)(o:Ef)
  (h:LL) (l:'ķ'.any (·.1)=Fo)
  (s:eval DH Ue=(do
   let ov<-eval Fh Ue
   standAt XY
   let(f,first)<-holding [ov] CN
   callWith pos f first 'ν' Dh)):PE X DH VD:=by simp only[chkV,Zc,ZI]at g;obtain⟨q,z⟩:=plainN.d g.2;exact Jtq (JnV C u g.1.2 g.1.1 q z o h l s) r A
def cMH{pl:Ca}(C:Am)(s:A4)(z:S9)(g:(chkV N nm i x&&!M.contains i)=To)(B:Dj)(q:Ef)(l:De)
  (h:LL) (o:'ķ'.any (·.1)=Fo)
  (u:eval DH Ue=(do
   let ov<-eval Fh Ue
   standAt XY
   let(f,first)<-holding [ov] CN
   callWith pos f first 'ν' Dh)):PE X DH Vx:=by simp only[chkV,Zc,ZI,ZV,sJ,oE]at g;obtain⟨r,A⟩:=plainN.d g.1.2;exact Jjz (JnV C z g.1.1.2 g.1.1.1 r A q h o u) s B g.2 l
def cMH0{pl:Ca}(C:Am)(l:A4)(q:S9)(g:(chkV N nm i x&&!M.contains i)=To)(s:Dj)
  (o:eval E6 Ue=(do
   let ov<-eval Fh Ue
   standAt XY
   let(f,first)<-holding [ov] CN
   callWith pos f first 'е' Dh)):PE X E6 (tB X U bc M H0 (.call Fo fi i ns .nil)):=by simp only[chkV,Zc,ZI,ZV,sJ,oE]at g;obtain⟨h,r⟩:=plainN.d g.1.2;exact Jjz (JqK C q g.1.1.2 g.1.1.1 h r o) l s g.2 (by unfold sepP;exact uB.mpr λ_ _=>rfl)
def lH(g:chkV N nm 0 x=To):Slf N nm x:=by simp only[chkV,Zc,ZI]at g;obtain⟨h,l⟩:=plainN.d g.2;exact⟨g.1.1,g.1.2,h,l⟩
def bSet(C:Am)(h:chkA N nm [] i x=To)(g:TJ)(hs:NJ):PS X Ga U7:=by obtain⟨o,l,q⟩:=chkA.at h;exact JwO C o l g hs
def sY{cx:Str}{ma:Expr}(C:Am)(h:ExcC G cx)(l:chkG nm cx=To)(g:PE X ma (tM X U p))(hs:starEach [ma] Ue=(Fo,eval ma Ue)::starEach [] Ue):
  PS X SA (tSB X w U bc [] H0 (.raise cx p)):=Jqb λH=>JfX C h l g hs
end
def upd_upd{o u:HO}:upd (upd H a u) a o=upd H a o:=funext λb=>by
 by_cases q:b=a
 ·subst q;rw[Je,Je]
 ·rw[Jc q,Jc q,Jc q]
def Jfc:MtM X "list.append" (λx h H Q=>∃l t xs y,x=.ref l/\h=[y]/\H l=So (.lsm t xs)/\xs.length<sizeLine/\Q .non (upd H l (.lsm t (xs++[y])))):=by rintro Y s Z H x h v L Q I U J⟨l,t,xs,y,g,z,B,E,q⟩;refine thn (JgE Y s Z _ x h v L (λv W=>v=.non/\W=upd H l (.lst (xs++[y]))) QdR U J ⟨l,xs,y,g,z,Je,E,rfl,upd_upd⟩) λu s1 o=>?_;obtain⟨v,H1,F,r,g,z⟩:=o;subst g z;have A:=Inv.asM F t Je;rw[upd_upd]at A;exact Qd9
def JiA(t:Str):PE X (.List [] pos) (λZ H Q=>∀l,H l=No->Q BH Pm):=by intro Y s Z H Q I h;refine thn (JrW jD Y s Z H (λv W=>∃l,v=.ref l/\H l=No/\W=upd H l GK) I ⟨by decide,λl z=>⟨l,rfl,z,rfl⟩⟩) λu J o=>?_;obtain⟨v,F,B,g,l,r,A,E⟩:=o;subst r E;have q:=Inv.asM B t Je;rw[upd_upd]at q;exact⟨_,_,q,g,h l A⟩
section
variable{T:Addr}{o o':HO}{m:Bool}
noncomputable def ofM (m:Bool) (f:Str):HO->Prop
 |.lsm t _=>m=To/\t=f
 |.dK _=>m=Fo
 |.dT _=>m=Fo
 |_=>False
def ofM.sp(h:H T=So o)(g:Qdo):SameP H G8:=λb u e p=>by
 rw[Jc λz=>by subst z;rw[h]at e;cases e;cases o<;>first|(cases p;done)|exact(show False from g)];exact e
def Rep.oth(h:H T=So o)(u:Qdo)(s:othD m f d=To)(r:Dv):Rep K G8 d v:=by
 have sp:SameP H G8:=ofM.sp h u;cases d with
 |mls t J=>
  obtain⟨a,xs,A,l,B⟩:=r;simp only[othD,Zc,nB,ZV,ZA]at s;refine⟨a,xs,A,?_,Reps.plain sp J s.2 B⟩;rw[Jc λz=>by
   subst z;rw[h]at l;cases l;obtain⟨E,Y⟩:=u;rcases s.1 with z|z
   ·rw[E]at z;cases z
   ·exact z Y]
  exact l
 |dct t z ks U=>
  obtain⟨a,xs,A,l,B⟩:=r;simp only[othD,Zc]at s;obtain⟨F,I⟩:=s;subst F;refine⟨a,xs,A,l.mono λo1 q=>?_,Reps.plain sp U I B⟩;rw[Jc λw=>by
   subst w;rw[h]at q;cases q;cases t<;>cases z<;>obtain⟨L,g,_⟩:=l
   ·rw[h]at g;cases g;cases u
   ·obtain⟨_,g⟩:=g;rw[h]at g;cases g;exact u
   ·rw[h]at g;cases g;cases u
   ·obtain⟨_,g⟩:=g;rw[h]at g;cases g;exact u]
  exact q
 |_=>exact Rep.plain sp _ s r
theorem Jki(h:H T=So o)(E:Qdo){g:Str}{d':D}:∀{ns:Ac}{fs:Ak}{xs:Av},(∀x,'ƹ'.lookup g=So x->Rep K G8 d' x)->ns.contains g=To->(putN g .non ns fs).all Gx=To->Reps K H fs xs->Reps K G8 (putN g d' ns fs) xs
 |[],fs,xs,_,hc,_,_=>by simp at hc
 |n::ns,[],xs,_,_,_,h=>by cases h;exact rfl
 |n::ns,d::fs,_,hx,hc,l,⟨x,r,A,B,u⟩=>by
  subst A
  have all:∀{fs:Ak}{r:Av},fs.all Gx=To->Reps K H fs r->Reps K G8 fs r:=fun{fs}=>by
   induction fs with
   |nil=>intro r _ z;exact z
   |cons d fs F=>
    rintro _ l⟨x,r,A,B,u⟩
    simp only[gF,Zc]at l
    exact⟨x,r,A,Rep.oth h E l.1 B,F l.2 u⟩
  simp only[putN]at l⊢
  by_cases q:n=g
  ·subst q
   rw[if_pos rfl]at l⊢
   simp only[gF,Zc]at l
   exact⟨x,r,rfl,hx x (by simp[Zp]),all l.2 u⟩
  ·rw[if_neg q]at l⊢
   simp only[gF,Zc]at l
   have s:(g==n)=Fo:=by simpa using λz=>q z.symm
   simp only[jQ,s,iF]at hc
   exact⟨x,r,rfl,Rep.oth h E l.1 B,Jki h E (λy I=>hx y (by simp only[sF,Zp,s];exact I)) hc l.2 u⟩
end
section
variable{U:Ag}{p:Px}{mpos spos:Pos}
def JuH(C:Am)(h0:A4)(S:GN)(L:Ds){g:Pos}(hs:'в' (swapsWith (.List [] g) (So Cz) XT Ue=pure Fo) Ai):
  PS X (.Assign Pd (.List [] g) pos) UV:=by
 refine PS.weak (tR Kh (JiA f) hs) λD Z H s l hl=>?_;obtain⟨O,e,h⟩:=s;obtain⟨a,ns,fs,I,rfl,hn,u,B,z,hD⟩:=JtX h;have F:Same H (upd H l (.lsm f [])):=λb o q=>by rw[Jc (Ji q hl)];exact q
 obtain⟨A,E,dx,xs,Y,J,r,sp,e2⟩:=Jpc (f:=f) (d:=.mls f []) (v:=.ref l) h0 (e.grow F) B u hn rfl ⟨l,[],rfl,Je,rfl⟩;rw[C.K]at J;obtain⟨k1,k2⟩:=L ns E J;exact⟨_,A,a,E,dx,_,rfl,Y,by rw[C.K];exact k1,by rw[C.K];exact k2,yH r z,hD Z _ e2 (ChB.sp ((SameP.of F).trans sp))⟩
def kZ{m:Bool}{g:D->Option D}{P:Fw->Fm->Prop}{E:Ea}(h:(chgM m f g O).Good P E):∃a ns fs env' d d',O=So CD::env'/\(ns.zip fs).lookup f=So d/\g d=So d'/\plE env'=To/\(putN f .non ns fs).all Gx=To/\P .nx My:=by
 unfold chgM at h;split at h
 ·rename_i a ns fs env';split at h
  ·rename_i d q;split at h
   ·rename_i d' o;split at h
    ·rename_i l;simp only[Zc]at l;exact⟨a,ns,fs,env',d,d',rfl,q,o,l.1,l.2,h⟩
    ·exact h.elim
   ·exact h.elim
  ·exact h.elim
 ·exact h.elim
def kJ{m:Bool}{env':Fm}(e:EnvOk K [] H0 H Z (So CD::env'))(q:'ɣ'.lookup f=So d):
  Z[0]? =So (So Ar)/\∃C B xs v,H a=So (.ins C B Xl)/\PySem.W.nsIn K mainGlobals D9=So BC/\(ns.zip xs).lookup f=So v/\Rep K H d v/\
   ∀(g:Hp)(T:Addr)(o l:HO)(d':D),PlO H0->Same H g->plE env'=To->(putN f .non ns fs).all Gx=To->v=.ref T->g T=So o->ofM m f o->Rep K b6 d' v->SameP H (upd g T l)/\EnvOk K [] H0 b6 Z My:=by
 obtain⟨u,s,F⟩:=e.read 0 _ Ad rfl;replace F:Rep K H CD u:=by have z:Rep K Kc CD u:=F;rw[JE]at z;exact z
 obtain⟨rfl,L,B,xs,I,g2,g3,J⟩:=F;obtain⟨v,Y,gv⟩:=zZ (λd x=>Rep K H d x) q J.length.symm λi d hd=>J.get hd;refine⟨s,L,B,xs,v,I,g2,Y,gv,λg T o l d' h0 h hp ho ev A E r=>?_⟩;have sp:SameP g b6:=ofM.sp A E;refine⟨(SameP.of h).trans sp,(e.grow h).obj (i:=0) Ad hp sp (h0.same (e.grow h).same sp) s ?_⟩;show Rep K GW _ _;rw[JE];refine⟨rfl,L,B,xs,by rw[Jc (λz=>by subst z;rw[h _ _ I]at A;cases A;exact E)];exact h _ _ I,g2,by rw[rZ];exact g3,?_⟩;exact Jki A E (λy hy=>by rw[Y]at hy;cases hy;exact r) (Jsv q) ho (J.mono h)
theorem Jum(C:Am)(h0:A4)(S:GN)(hf:Ds)(he:Cf)(hl:Mn)
  (hb:SH) (hb2:'в' (attributeBase Cz "append" Ue (eval Cz Ue)=eval Cz Ue) Ai)
  (hs:Kj):
  PS X W0 U6:=by
 refine PS.weak (nL (iN nM rW qW Jfc II (JO he jD hs) hb2 (by rw[hs];rfl) hl hs rfl) rfl) λD Z H B=>?_;obtain⟨O,e,h⟩:=B;simp only[exO]at h;cases z:evD U p O with
 |sk=>rw[z]at h;exact h.elim
 |ex c=>rw[z]at h;exact h.elim
 |ok y=>
  rw[z]at h;simp only at h;split at h
  ·rename_i hy;obtain⟨a,ns,fs,env',d,d',rfl,q,r,hp,ho,hD⟩:=kZ h;obtain⟨L,Y,dx,xs,v,g1,g2,g3,gv,s⟩:=kJ (m:=To) e q;cases d with
   |mls t J=>
    simp only[appG]at r;split at r
    ·rename_i hc;cases r;simp only[Zc,ZI,Zw]at hc;obtain⟨⟨rfl,F⟩,g⟩:=hc;obtain⟨T,ys,rfl,hT,o⟩:=gv;rw[C.K]at g2;obtain⟨k1,k2⟩:=hf ns Y g2;refine⟨_,L,a,Y,dx,_,.ref T,rfl,g1,by rw[C.K];exact k1,by rw[C.K];exact k2,g3,.inr (.inr (.inr (.inr ⟨rfl,_,ys,hT⟩))),_,YF,?_⟩;rw[z];intro u A I r1;have l:=I _ _ hT;have hz:By<1000:=by rw[<-o.length]at g;exact g
     refine⟨T,_,ys,u,rfl,rfl,l,by show _<16777216;lia,?_⟩;have sp:SameP A (upd A T (.lsm t (ys++[u]))):=ofM.sp (m:=To) (f:=t) l Cv;obtain⟨E,e2⟩:=s A T _ (.lsm t (ys++[u])) (.mls t (J++[y])) h0 I hp ho rfl l Cv ⟨T,_,rfl,Je,(Reps.plain sp J F (o.mono I)).append (Reps.one (Rep.plain sp y hy r1))⟩;exact hD Z _ e2 (ChB.sp E)
    ·cases r
   |_=>cases r
  ·exact h.elim
theorem Jti{ev:Expr}(C:Am)(h0:A4)(S:GN)(hf:Ds)(hk:L5)(hv:PE X ev Gj)
  (hb:SH) (hs:'в' (swapsWith ev UU XT Ue=pure Fo) Ai):
  PS X V6 Vq:=by
 have hu:=C.un;refine PS.weak (JiC Af II hk hv hs) λD Z H⟨O,e,h⟩=>Lo;simp only[exO]at h;cases z:evD U p O with
 |sk=>rw[z]at h;exact h.elim
 |ex c=>rw[z]at h;exact h.elim
 |ok y=>
  rw[z]at h;simp only at h;cases s:evD U pk O with
  |sk=>rw[s]at h;exact h.elim
  |ex c=>rw[s]at h;exact h.elim
  |ok k0=>
   rw[s]at h;simp only at h;split at h
   ·rename_i F;simp only[Zc]at F;obtain⟨a,ns,fs,env',d,d',rfl,q,l,hp,ho,hD⟩:=kZ h;intro v H1 s1 r1;have L:=e.grow s1;obtain⟨I,Y,dx,xs,vT,g1,g2,g3,gv,u⟩:=kJ (m:=Fo) L q;cases d with
    |dct t zz ks A=>
     cases t<;>cases zz<;>first|(cases l;done)|skip
     simp only[putG]at l;split at l
     ·rename_i J;cases l;simp only[Zc,Zw]at J;obtain⟨T,xsT,rfl,⟨kvs,gk,rfl,rfl⟩,B⟩:=gv;rw[C.K]at g2;obtain⟨k1,k2⟩:=hf ns Y g2;refine⟨_,I,a,Y,dx,_,.ref T,rfl,g1,by rw[C.K];exact k1,by rw[C.K];exact k2,g3,_,L.readOk,?_⟩;rw[s];intro y' o r r2;obtain⟨k,rfl⟩:=pL F.2;have hy:=fJ r2;subst hy;have g:o T=So AN:=r _ _ gk;have hlen:AV<1000:=by simpa using J.2
      refine⟨T,_,rfl,DPut.k (k:=k) g (by show _<16777216;lia),?_⟩;obtain⟨p1,p2⟩:=tK mE (k:=k) (r1.mono r) (B.mono r);have sp:SameP o (upd o T Ts):=ofM.sp (m:=Fo) (f:=f) g rfl;have r3:Rep X.K (upd o T Ts) (.dct Fo Fo (putD EE y (kvs.map λp=>keyV p.1) A).1 (putD EE y (kvs.map λp=>keyV p.1) A).2) (.ref T):=⟨T,_,rfl,Qb2,Reps.plain sp _ (JlC F.1 _ A J.1) p2⟩;obtain⟨E,e2⟩:=u o T _ Ts _ h0 r hp ho rfl g rfl r3;exact hD Z _ e2 (ChB.sp ((SameP.of s1).trans E))
     ·cases l
    |_=>cases l
   ·exact h.elim
end
section
variable{κ:Type}[DecidableEq κ]{g:κ->D}
theorem Jru(A:∀a b,(g a).eqv (g b)=decide (a=b)){k:κ}:∀{l:Bt}{vs:Ak},Reps K H vs (l.map (·.2))->
  (delD (g k) (l.map λp=>g p.1) vs).1=(yI l k).map (λp=>g p.1)/\Reps K H (delD (g k) (l.map λp=>g p.1) vs).2 ((yI l k).map (·.2))/\(Jb vs=To->Jb (delD (g k) (l.map λp=>g p.1) vs).2=To)
 |[],[],_=>⟨rfl,rfl,id⟩
 |[],d::vs,⟨x,r,e,_⟩=>by cases e
 |p::l,[],h=>by cases h
 |p::l,d::vs,⟨x,r,e,h1,h2⟩=>by
  simp only[Zg,qB]at e
  obtain⟨rfl,rfl⟩:=e
  obtain⟨o,s,u⟩:=Jru A (k:=k) h2
  unfold yI at o s⊢
  simp only[Zg,delD,A]
  by_cases q:p.1=k
  ·rw[if_pos (Zx q),nF,if_neg (by simp[q])]
   exact⟨o,s,λz=>u (by simp only[Jb,Zc]at z;exact z.2)⟩
  ·rw[if_neg (by simp[q]),nF,if_pos (by simp[q])]
   refine⟨by rw[Zg,o],⟨_,_,rfl,h1,s⟩,λz=>?_⟩
   simp only[Jb,Zc]at z⊢
   exact⟨z.1,u z.2⟩
end
section
variable{U:Ag}{a:Expr}{p pa pb:Px}{mpos:Pos}
def JuC(C:Am)(h0:A4)(S:GN)(hf:Ds)(hk:L5)(m:QU)
  (hb:SH):
  PS X WU Vf:=by
 refine PS.weak (nL (Jpf II hk m) rfl) λD Z H u=>?_;obtain⟨O,e,h⟩:=u;simp only[exO]at h;cases z:evD U pk O with
 |sk=>rw[z]at h;exact h.elim
 |ex c=>rw[z]at h;exact h.elim
 |ok k0=>
  rw[z]at h;simp only at h;split at h
  ·rename_i hc;obtain⟨a,ns,fs,env',d,d',rfl,q,l,hp,ho,hD⟩:=kZ h;obtain⟨E,I,dx,xs,vT,g1,g2,g3,gv,r⟩:=kJ (m:=Fo) e q;cases d with
   |dct t zz ks Y=>
    cases t<;>cases zz<;>first|(cases l;done)|skip
    simp only[popG]at l;split at l
    ·rename_i F;cases l;simp only[Zc]at F;obtain⟨T,xsT,rfl,⟨kvs,J,rfl,rfl⟩,A⟩:=gv;rw[C.K]at g2;obtain⟨k1,k2⟩:=hf ns I g2;refine⟨_,E,a,I,dx,_,.ref T,rfl,g1,by rw[C.K];exact k1,by rw[C.K];exact k2,g3,T,rfl,.inl ⟨kvs,.inl J⟩,_,YF,?_⟩;rw[z];intro y' o s r2;obtain⟨k,rfl⟩:=pL hc;have hy:=fJ r2;subst hy;have g:o T=So AN:=s _ _ J;have L:=F.2;rw[eS mE]at L;obtain⟨v,ev⟩:=zV.mp L;refine⟨kvs,k,v,g,rfl,ev,?_⟩;obtain⟨p1,p2,p3⟩:=Jru mE (k:=k) (A.mono s);have sp:SameP o (upd o T Lj):=ofM.sp (m:=Fo) (f:=f) g rfl;have r3:Rep X.K (upd o T Lj) (.dct Fo Fo (delD EE (kvs.map λp=>keyV p.1) Y).1 (delD EE (kvs.map λp=>keyV p.1) Y).2) (.ref T):=⟨T,_,rfl,Qb2,Reps.plain sp _ (p3 F.1) p2⟩;obtain⟨B,e2⟩:=r o T _ Lj _ h0 s hp ho rfl g rfl r3;exact hD Z _ e2 (ChB.sp B)
    ·cases l
   |_=>cases l
  ·exact h.elim
theorem eGetN(C:Am)(ha:AO)(hb:BJ)(hx:noEx pb=To)(m:M1 X a "get" apos b cpos):PE X (.Call QJ [b] [] cpos) (tI X U (.ite (.bi QaI pb pa) (.bi Ei pa pb) Ek)):=by
 have hu:=C.un;refine PE.weak (Jpj Af ha hb m) λZ H Q F=>?_;obtain⟨O,r,h⟩:=F;simp only[evD]at h;have I:∀c,evD U pb O≠.ex c:=λc z=>vZ U pb O c hx z;cases B:evD U pb O with
 |ex c=>exact absurd B (I c)
 |sk=>rw[B]at h;exact h.elim
 |ok L=>
  rw[B]at h;simp only[Rs.bo]at h;cases A:evD U pa O with
  |ex c=>rw[A]at h;exact⟨O,r,by rw[A];exact h⟩
  |sk=>rw[A]at h;exact h.elim
  |ok dx=>
   rw[A]at h;simp only[Rs.bo]at h;refine Dd;rw[A];intro x H1 s1 r1;cases dx with
   |dct t z ks vs=>
    obtain⟨l,xs,rfl,Y,g2⟩:=id r1;simp only[op2,onD]at h;by_cases u:t=Fo/\keyD t L=To
    ·rw[if_pos u]at h;obtain⟨rfl,u⟩:=u;simp only[Rs.bo]at h;refine⟨l,rfl,?_,O,r.mono s1,?_⟩
     ·obtain⟨E,g,_⟩:=dk_k Y;exact .inl ⟨E,g⟩
     ·rw[B];intro y J s2 r2;obtain⟨l',o,e1,g,s,hl⟩:=rT (t:=Fo) (λz=>by cases z) G9 r2 u;cases e1;refine⟨o,g,?_⟩;cases q:iA L ks vs with
      |some d=>obtain⟨v,e2,rv⟩:=hl d q;subst e2;rw[s]at h;simp only[nP,Rs.ofOpt,q,u,and_self,if_true]at h;exact h v J FL rv
      |none=>
       have hn:=Jet q (by have:=g2.length;have:=Jsf Y;lia);rw[hn]at s h;have:o=No:=by
        cases o with
        |none=>rfl
        |some _=>cases s
       subst this;exact h _ J FL rfl
    ·rw[if_neg u]at h;exact h.elim
   |_=>exact h.elim
end
section
variable{prog:Ba}{w:AQ}{A:Bv}{E:Ay}{s:Al}{d:Addr}{od:Obj}{es:GT}{ep:Nat}
def Jhi{Q:List Value->Shared->Prop}(Y:Bh)(hd:(d==sysModules)=Fo)(ho:s.heap.get? d=So od)(hc:od.cls=.type "dict")(q:Ee)(u:es.size<=2^24)
  (hQ:∀I U g,(∀b o,s.heap.get? b=So o->I.get? b=So o)->ItemsOf (λi v=>∃e,es[i]? =So e/\v=YA) g es.size->Q YS {s with heap:=I,toks:=U}):
  wpAny As A (collect D3) Q E s:=by
 unfold collect;refine Za (wpAny_runValue (qF eN ?_));rw[vF F.plain_proto_collect _];show wpAny _ XU (newList []>>=λl=>again (.builtin "list.__iadd__" ⟨[l,.ref d],[]⟩)) _ _ s;refine Za (ZJ ?_);refine Zb VA;rw[vF lW _];show wpAny _ XU (Builtin.List.listExtendWith Fi D3 Fi) _ _ _;have hS:(s.heap.push {cls:=.type "list",data:=.seq ([]:List Value).toArray}).get? Aa=So {cls:=.type "list",data:=.seq #[] 0}:=Ze _ rfl;refine ZY (Jld (A:=A) (R:=λr B=>r=.ok (.ret Fi)/\wpAny As A (load Aa>>=λo=>match o.data with
   |Data.seq xs _=>pure xs.toList
   |_=>unsupported "internal:collect") Q E B) (s:={s with heap:=s.heap.push {cls:=.type "list",data:=.seq ([]:List Value).toArray}}) Y hd (Zd _ ho) hc q u Aa Fi 0 hS λI U g c' hk L z=>⟨rfl,Za (wpAny_load L (Zb (hQ I U g (λb o e=>hk b o (Zu (Zj e)) EG) z)))⟩) (λJ B h=>?_) λe B h=>?_
 ·cases J with
  |done f=>obtain⟨e,h⟩:=h;cases e;exact h
  |again c=>exact⟨h.1,mG h.2 λr B h=>by obtain⟨e,h⟩:=h;subst e;exact h⟩
 ·cases h.1
end
section
theorem Jpe(B:Ci):oA X Nb (λxs H Q=>∃l kvs ws,xs=Qdp/\L2.Rd H l AN/\(kvs.map λp=>kV p.1)=ws.map YZ/\ws.Nodup/\ws.length<60/\Out X H Q (.lst ('Ң'.map .str))):=by
 rintro Y s Z H xs us Q I rv⟨l,kvs,ws,e,hr,hk,hn,hz,h⟩;subst e;obtain⟨u,rfl,rx⟩:=xA rv;cases rx;obtain⟨z,hd,ys,g3,o,es,ep,ho,hc,J,g7,g8,g9⟩:=xF XQ hr;have hl:es.size=AV:=by have:=g8.length;rw[<-uH g3]at this;simpa using this
 have hlw:AV=AY:=by have:=kA YM hk;simpa using this
 refine Calls.call_function_entry kind_sorted plain_sorted entry_sorted Qa1 ?_;unfold Builtin.«sorted»;refine Za (m:=checkCount "sorted" 1 1 _) (Zb (Za (Jhi (I.ok.hd B) hd ho hc.1 J Af λE tk g kp r=>?_)));have U:Vals Rn YS:=by
  rw[<-hk];refine JgQ (by have e1:=r.1;have e2:g.toList.length=g.size:=ZQ;rw[Zi];lia) λj x v F U=>?_;obtain⟨e,he,rfl⟩:=r.2 j v (by simpa using U);rw[xB]at F;cases q:kvs[j]? with
  |none=>rw[q]at F;cases F
  |some y=>
   rw[q]at F;cases F;obtain⟨⟨k,v⟩,e1,e2,e3⟩:=mV g3 q;obtain⟨hk',hv'⟩:=g8.get? (e:=e) (by simpa using he) e1;show RelV (kV y.1) YA;rw[e2];rcases Js hk' with⟨j,t,L,z2⟩|⟨y,t,L,z2⟩|⟨L,z2⟩
   ·rw[L,z2];exact GY
   ·rw[L,z2];exact GY
   ·rw[L,z2];rfl
 generalize g.toList=its at U;have q1:StrsAre its ws:=Jem U;have l4:AY=B0:=by simpa using U.length
 refine Za (wpAny_newList ?_ (by rw[ZG];lia));have A:(E.push Tg).get? eB=So Tg:=Ze _ rfl;refine Za (wA (ZD slot_list_sort ⟨_,A,rfl⟩ entry_list_sort (list_sort_treeK strKind_oneLt (s:={s with heap:=E.push Tg,toks:=tk}) A q1.keysOf (λv₁ v₂ rest e=>keyKind_strs (by rw[<-e];exact q1)) Af λst' a1 a2=>Iy) Oc));obtain⟨ss,b1,b2,b3⟩:=sorted_out_str q1 a1 a2;obtain⟨e,he⟩:=sortedHeap_at (out:=(arrOf st').map (·.2)) A;have I1:L2.Inv X Y Z H {s with heap:=E,toks:=tk}:=I.kept (t':=tk) kp;have hd:=JgK b2 b3 hn (λk=>Iff.rfl);subst hd;have hlen:=b2.length_eq;obtain⟨s1,w1⟩:=iH (K:=X.K) E4 (JfR 'Ң');refine Zb ⟨_,rfl,.ref eB,_,I1.laid (a:=eB) (t':=tk) (λb o q'=>?_) (Zh _) (show ObjOk XJ X.w _ _ _ (.lst ('Ң'.map YZ))from⟨by rw[Zi,ZG];lia,((arrOf st').map (·.2)).toList,e,JdS b1,by rw[Array.toArray_toList];exact he⟩),rfl,h _ _ s1 w1⟩;have hlt:=Zj q';rw[sortedHeap_old (Zu hlt) (by rw[ZL];exact wB hlt)];exact Zd _ q'
theorem Jic:∀{g:GJ}{ws:Ac},JM (g.map λp=>keyV p.1)=So ws->(g.map λp=>kV p.1)=ws.map YZ
 |[],ws,h=>by cases h;rfl
 |p::g,ws,h=>by
  obtain⟨k,v⟩:=p
  cases k with
  |inr x=>
   replace h:(JM (g.map λp=>keyV p.1)).map (x::·)=So ws:=h
   cases q:JM (g.map λp=>keyV p.1)with
   |none=>rw[q]at h;cases h
   |some l=>
    rw[q]at h
    cases h
    simp only[Zg,Jic q]
    rfl
  |inl n=>cases(show No=So ws from h)
  |non=>cases(show No=So ws from h)
def JtK(o:Ci):oA X Nb (rC1 X .sortD):=by
 rintro Y s Z H xs E Q I B⟨x,d,e,r,h⟩;subst e;cases d with
 |dct t z ks U=>
  cases t with
  |true=>exact(show False from h).elim
  |false=>
   obtain⟨l,xs,rfl,A,L⟩:=r;obtain⟨q,g,rfl,rfl⟩:=dk_k A;simp only[op1]at h;split at h
   ·rename_i F J;split at h
    ·rename_i u;exact Jpe o Y s Z H _ E Q I B ⟨l,q,F,rfl,g,Jic J,u.1,u.2,h⟩
    ·exact h.elim
   ·exact h.elim
 |_=>exact(show False from h).elim
variable{U:Ag}{a:Expr}{pa:Px}
def cSrtD(C:Am)(h:G.mg "sorted"=No)(g:AO)(l:gloB nm "sorted"=To)(hs:DP):PE X (.Call OG [a] [] pos) (tI X U (.un .sortD pa)):=yR C (JtK Yq) g l h PyProof.Rows.boot_sorted Ab Ab hs
end
inductive CalleePe(G:Gw)(call:Ag)(fi:Nat)(c m:Str):Prop where
 |mk (C:Addr) (kk:Nat) (f:Addr) (fd:FuncData) (ps:List Str) (h:PySem.W.nsIn G.K mainGlobals c=So (So (.ref C))/\Cls G.K C/\Meth G.K C m f/\FnOk G.prog G.w G.K G.mg G.base (CXr G.prog G.w) kk f fd ps (spI G.K G.mg call fi)/\Room kk G.A.in1.in1/\Binds G.K fd ps []):CalleePe G call fi c m
structure CalleeP(G:Gw)(U:Ag)(fi:Nat)(c m:Str):Prop where
 ex:CalleePe G U fi c m
section
variable{U:Ag}{p:Px}
def JmV{C f:Addr}{kk:Nat}{fd:BG}{ps:Ac}{t:TA}(Cc:Am)(hC:PySem.W.nsIn G.K mainGlobals D9=So BC)(hm:Dj){Z:Bl}{H:Hp}{Q:VK}(h:tI X U TB Z H Q)
  (ht:∀O I,ReadOk X.K H Z O->'ǉ'.Good (λd=>∃J,d=.lst J/\∀u W,Same H W->Reps X.K W J u->I u W) Az->t Z H I):
  gR C m (spI X.K X.mg U fi) [] (λE _ W=>∀C,E=.ref C->XE X C W) (λZ H Q=>∃v,Z[i]? =So BO/\Q v H) t Z H Q:=by
 obtain⟨O,r,h⟩:=h;simp only[evD]at h;cases B:O[i]? with
 |none=>rw[B]at h;exact h.elim
 |some o=>
  rw[B]at h;cases o with
  |none=>exact h.elim
  |some d=>
   cases d with
   |obj a g fs=>
    simp only[Rs.bo,op1]at h;split at h
    ·rename_i hn;subst hn;obtain⟨v,hv,L⟩:=r i _ B;obtain⟨e1,C',dx,xs,h1,Y,h3,h4⟩:=id L;subst e1;rw[Cc.K,hC]at Y;cases Y;simp only[Rs.bo]at h;refine⟨_,hv,a,dx,_,rfl,h1,gU hm,ht O _ r ?_⟩;cases q:evD U p O with
     |sk=>rw[q]at h;exact h.elim
     |ex c=>rw[q]at h;exact h
     |ok dd=>
      rw[q]at h;cases dd with
      |lst J=>
       simp only[Rs.bo,D.asL]at h;refine⟨J,rfl,λu W s rs=>?_⟩;refine⟨.obj a g fs::J,?_,?_⟩
       ·rw[pE];exact⟨_,_,rfl,L.mono s,rs⟩
       ·cases F:U fi (.obj a g fs::J)with
        |ok d=>rw[F]at h;exactλv z l rd=>h v z (s.trans l) rd
        |ex c=>rw[F]at h;exactλC2 z A l C3 e3=>by cases e3;exact h C2 z A (s.trans l)
        |sk=>rw[F]at h;exact h
      |_=>exact(show False from h).elim
    ·exact h.elim
   |_=>exact(show False from h).elim
def JsT{pl:Ca}(l:Am)(J:Nh)(B:Dj)(I:visB nm x=To)(hi:N[i]? =So x)(q:Q8)(o:(x==("__classdict__":Str))=Fo)(u:Ef)
  (s:CG) (hpl:'в' ('ķ'.any (·.1)=Fo) Ai)
  (ht:'в' (eval DH Ue=(do
   let ov<-eval Fh Ue
   standAt XY
   let(f,first)<-holding [ov] CN
   callWith pos f first 'ν' Dh)) Ai):PE X DH (tI X U TB):=by obtain⟨C,kk,f,fd,ps,A,E,L,F,z,Y⟩:=J.ex;have hG:=l.g;subst hG;exact PE.weak (JiX (rA (by rw[l.hN];exact hi) (l.vis x I) q o) E L F (Room.out z) Y .nil sI u s hpl ht) λZ H Q h=>JmV (f:=f) (kk:=kk) (fd:=fd) (ps:=ps) l A B h λO Q' r g=>⟨O,r,g⟩
def Jpo{pl:Ca}(l:Am)(Y:Nh)(z:Dj)(B:visB nm x=To)(hi:N[i]? =So x)(q:Q8)(o:(x==("__classdict__":Str))=Fo)
  (L:'в' (eval E6 Ue=(do
   let ov<-eval Fh Ue
   standAt XY
   let(f,first)<-holding [ov] CN
   callWith pos f first 'е' Dh)) Ai):PE X E6 Vw:=by obtain⟨C,kk,f,fd,ps,u,A,h3,F,s,hb⟩:=Y.ex;have hG:=l.g;subst hG;exact PE.weak (Jkb (rA (by rw[l.hN];exact hi) (l.vis x B) q o) A h3 F (Room.out s) hb .nil sI L) λZ H Q h=>JmV (f:=f) (kk:=kk) (fd:=fd) (ps:=ps) l u z h λO Q' r g=>by obtain⟨J,E,I⟩:=g;cases E;exact I [] H D8 rfl
end
def JtN:MtM X "list.pop" (λx h H Q=>∃l t xs y,x=.ref l/\h=[]/\H l=So (.lsm t (xs++[y]))/\Q y (upd H l KJ)):=by rintro Y s Z H x h v J Q I L F⟨l,t,xs,y,g,z,B,q⟩;refine thn (JvT Y s Z _ x h v J (λv W=>v=y/\W=upd H l AA) QdR L F ⟨l,xs++[y],y,g,z,Je,by simp,rfl,by rw[upd_upd,rJ]⟩) λu s1 o=>?_;obtain⟨v,U,E,r,g,z⟩:=o;subst g z;have A:=Inv.asM E t Je;rw[upd_upd]at A;exact Qd9
def kU{J:Ak}(h:sA f ns fs=So J):'ɣ'.lookup f=So IU:=by
 unfold sA at h;split at h
 ·rename_i t es q;split at h
  ·rename_i z;cases h;rw[q,fF z]
  ·cases h
 ·cases h
def spG(K:Aj)(mg:Bk)(bc:AI)(fi:Nat):Sp:=λq H Q E=>∃a ns fs f g n o l C r xs,q=[.ref a,.ref o,.ref l,.int n]/\Rep K H CD Ar/\H a=So (.ins C r Xl)/\
 'ƹ'.lookup f=So (.ref o)/\(ns.zip xs).lookup g=So (.ref l)/\
 (bc fi CD HA).Good (λd h=>∀v W,SameP H W->Rep K W h Ar->Rep K W d v->Q v W) (λc h=>∀C W,mg c=So BL->SameP H W->Rep K W h Ar->E BL No W)
inductive CalleeGe(G:Gw)(bc:AI)(fi:Nat)(c m:Str):Prop where
 |mk (C:Addr) (kk:Nat) (f:Addr) (fd:FuncData) (ps:List Str) (h:PySem.W.nsIn G.K mainGlobals c=So (So (.ref C))/\Cls G.K C/\Meth G.K C m f/\FnOk G.prog G.w G.K G.mg G.base (CXr G.prog G.w) kk f fd ps (spG G.K G.mg bc fi)/\Room kk G.A.in1.in1/\Binds G.K fd ps []):CalleeGe G bc fi c m
structure CalleeG(G:Gw)(bc:AI)(fi:Nat)(c m:Str):Prop where
 ex:CalleeGe G bc fi c m
section
variable{U:Ag}{p:Px}{g:Str}{p2 fpos gpos kpos:Pos}{n:Int}
def Jtn {pl:Ca} {j}  (C:Am) (h0:A4) (S:GN) (hf:Ds) (hg:FldC G g) (hc:CalleeG G bc fi D9 m) (hm:Dj)
  (hb1:'в' (attributeBase Fh f Ue (eval Fh Ue) = eval Fh Ue) Ai) (hb2:'в' (attributeBase HF g Ue (eval HF Ue) = eval HF Ue) Ai)
  (hs1:'в' (starEach Ut Ue = (Fo,eval (.Attribute Fh f fpos) Ue) :: starEach Up Ue) Ai)
  (hs2:'в' (starEach Up Ue = (Fo,eval (.Attribute HF g gpos) Ue) :: starEach Pc Ue) Ai)
  (hs3:'в' (starEach Pc Ue = (Fo,eval (.Constant A3 j kpos) Ue) :: starEach [] Ue) Ai)
  (hpl:'в' ((backTo cpos (starEach Up Ue)).any (·.1) = Fo) Ai)
  (ht:'в' (eval Wp Ue = (do
   let ov <- eval Dp Ue
   standAt XY
   let (f',first) <- holding [ov] CN
   callWith cpos f' first (backTo cpos (starEach Ut Ue)) (backToKw cpos LG))) Ai) :
  PS X (.Return (So Wp) pos) (tSB X w U bc [] H0 (.retG fi ns f g n)):=by
 obtain ⟨Cl,kk,fa,fd,ps,hC,cl,me,F,hr,hb⟩:=hc.ex;have hG:=C.g;subst hG;refine PS.weak (pN (JiX Kh cl me F (Room.out hr) hb .nil sI (JO (JeZ Kh hb1) (JO (JeZ Kh hb2) (JO qY jD hs3) hs2) hs1) hs1 hpl ht)) λD Z H zz0=>?_;obtain ⟨O,e,h⟩:=zz0;simp only [exO] at h;split at h
 ·rename_i a l fs Y;split at h
  ·rename_i hns;subst hns;split at h
   ·rename_i hq;simp only [Zc,zV] at hq;obtain ⟨⟨hp,J,l1⟩,es,l2⟩:=hq;obtain ⟨A,C1,dx,xs,v1,g1,g2,g3,gv1,_⟩:=kJ (m:=To) e (kU l1);obtain ⟨_,C2,dx2,xs2,v2,E,k2,k3,gv2,_⟩:=kJ (m:=To) e (kU l2);rw [g1] at E;obtain ⟨b1,ys1,rfl,hb1',hr1⟩:=gv1;obtain ⟨b2,ys2,rfl,hb2',hr2⟩:=gv2;obtain ⟨f1,f2⟩:=hf l C1 g2;obtain ⟨f3,f4⟩:=hg l C1 g2;have e3:(l.zip xs).lookup g = So (.ref b2):=by injection E with E; injection E with _ _ E; rw [E]; exact k3
    obtain ⟨u,hu,o⟩:=e.read 0 _ Ad rfl;replace o:Rep X.K H Mp u:=by have z:Rep X.K Kc Mp u:=o; rw [JE] at z; exact z
    obtain rfl:u = .ref a:=o.1;have L:PySem.W.nsIn X.K mainGlobals (clsN l) = So (So (.ref C1)):=g2;rw [show PySem.W.nsIn X.K mainGlobals (clsN l) = So (So (.ref Cl)) from hC] at L;cases L;refine ⟨_,A,a,dx,_,rfl,g1,gU hm,?_⟩;refine ⟨_,A,a,_,dx,_,.ref b1,rfl,g1,f1,f2,g3,?_⟩;refine ⟨_,A,a,_,dx,_,.ref b2,rfl,g1,f3,f4,e3,?_⟩;refine ⟨a,l,fs,f,g,n,b1,b2,_,dx,xs,rfl,o,g1,g3,e3,?_⟩;have I:∀ {B:Pu.D} {W:Hp},SameP H W -> Rep X.K W B Ar -> EnvOk X.K [] H0 W Z (So B :: Y):=λs r=>e.obj (i:=0) Ad hp s Sh A (by show Rep X.K GW _ _; rw [JE]; exact r);cases q:bc fi Mp HA with
    | ok d B=>rw [q] at h; exactλv W s r rd=>h v W Sh rd λ_=>⟨Z,I s r⟩
    | ex c B=>rw [q] at h; exactλC2 H2 hm2 s2 r2 C3 e3=>by cases e3; exact h C2 H2 Z hm2 (I s2 r2)
    | sk=>rw [q] at h; exact h
   ·exact h.elim
  ·exact h.elim
 ·exact h.elim
end
theorem Reps.snoc:∀{J:Ak}{xs:Av},Reps K H (J++[d]) xs->∃g y,xs=g++[y]/\Reps K H J g/\Rep K H d y
 |[],_,⟨x,r,e,h1,h2⟩=>by cases h2;exact⟨[],x,e,rfl,h1⟩
 |a::J,_,⟨x,r,e,h1,h2⟩=>by
  obtain⟨g,y,rfl,l,h⟩:=Reps.snoc h2
  exact⟨x::g,y,e,⟨x,g,rfl,h1,l⟩,h⟩
theorem plains_app:∀{J es:Ak},Jb (J++es)=(Jb J&&Jb es)
 |[],es=>by simp[Jb]
 |d::J,es=>by simp only[rB,Jb,plains_app,Bool.and_assoc]
theorem look_put{g:Str}{d:α}(h:(g==f)=Fo):∀{ns:Ac}{fs:List α},(ns.zip RN).lookup g='ɣ'.lookup g
 |[],_=>rfl
 |n::ns,[]=>by simp[putN]
 |n::ns,x::fs=>by
  simp only[putN]
  split
  ·rename_i z
   subst z
   simp only[sF,Zp,h]
  ·simp only[sF,Zp,look_put h]
def rPop:V->List V->Hp->VK->Prop:=λx g H Q=>∃l t xs y,x=.ref l/\g=[]/\H l=So (.lsm t (xs++[y]))/\Q y (upd H l KJ)
def rApp:V->List V->Hp->VK->Prop:=λx g H Q=>∃l t xs y,x=.ref l/\g=[y]/\H l=So (.lsm t xs)/\xs.length<sizeLine/\Q .non (upd H l (.lsm t (xs++[y])))
noncomputable def goT (ks:Nat) (ns:Ac):Bs:=.seq (.eff (.call To ks 0 ns (.cons (.bi .idx CY DU) (.cons (.bi .idx CY CZ) .nil)))) (.ret (.bi .idx CY Er))
def tGo(X:Cx)(bc:AI)(H0:Hp)(ks:Nat)(cn:Str)(ns:Ac):L2.TS:=λD Z H=>∃a fs f g n l h C o xs,Z=[So Ar,So (.ref l),So (.ref h),So A3,No]/\EnvOk X.K [] H0 H Z Qa/\
 H a=So (.ins C o Xl)/\(ns.zip xs).lookup f=So (.ref l)/\(ns.zip xs).lookup g=So (.ref h)/\
 (goD bc ks cn n f g a ns fs).Good (λd st=>xC CD st=To/\∀v W,Same H0 W->Rep X.K W st Ar->Rep X.K W d v->D.rt v W) (λc st=>xC CD st=To/\∀C W,X.mg c=So BL->Same H0 W->Rep X.K W st Ar->XE X C W)
section
variable{U:Ag}{sr s45:BF}{s2 s3:Stmt}{pm:Px}{ks:Nat}
theorem JxV(h0:A4)(hmsg:∀O,exD U Qci O=.ex cn)(t1:PT X c (tT X U UE))(t2:∀H,PSs X sr (tS X U [] H Qci))(t3:PS X s2 (tAsg (tBM0 X.K "list" rPop (tVar 1)) (JeB 4)))(t4:PS X s3 (kX (tBM X.K "list" rApp (tVar 2) (zQ (tVar 4) tNil))))
  (t5:PSs X s45 (tSB X To U bc [] H0 b7)):PSs X (.If c sr [] pos::s2::s3::s45) PX:=by
 intro Y s Z H D I h;refine PSs.weak (JN (hX t1 (t2 H) Jno) (JN t3 (JN t4 t5))) (t':=λD' σ' W=>D'=D/\σ'=Z/\W=H) (λD' σ' W hq=>?_) Y s Z H D I Hv;obtain⟨rfl,rfl,rfl⟩:=hq;obtain⟨a,fs,f,g,n,A,L,C,dx,xs,rfl,e,hH,l1,l2,h⟩:=h;have oe:∀{H:Hp}{Z:Bl}{d:D}{r:Fm}{i:Nat},EnvOk X.K [] H0 H Z r->r[i]? =So Bd->∃v,Z[i]? =So BO/\Rep X.K H d v:=λe q=>by obtain⟨v,h1,h2⟩:=e.read _ _ Ad q;have z:Rep X.K GW _ _:=h2;rw[JE]at z;exact⟨v,h1,z⟩
 unfold goD at h;cases q1:sA f ns fs with
 |none=>rw[q1]at h;exact h.elim
 |some J=>
  rw[q1]at h;simp only at h;cases q2:sA g ns fs with
  |none=>rw[q2]at h;exact h.elim
  |some es=>
   rw[q2]at h;simp only at h;split at h
   ·rename_i hc;simp only[Zc,ZV,Zw]at hc;obtain⟨⟨⟨⟨⟨hfg,hpd⟩,hpe⟩,hle⟩,ho1⟩,ho2⟩:=hc;obtain⟨hσ,C1,dx1,xs1,v1,g1,g2,g3,gv1,fin⟩:=kJ (m:=To) e (kU q1);rw[hH]at g1;have ez:ns.zip xs=ns.zip xs1:=by injection g1 with g1;injection g1
    rw[<-ez,l1]at g3;cases g3;obtain⟨b1',ys,eb,hy,hrs⟩:=gv1;cases eb;have ro:ReadOk X.K W [So Ar,So (.ref A),So (.ref L),So A3,No] OO:=λi d q=>by
     match i,q with
     |0,q=>cases q
     |1,q=>cases q;exact⟨_,rfl,A,ys,rfl,hy,hrs⟩
     |2,q=>cases q
     |3,q=>cases q
     |4,q=>cases q
     |i+5,q=>simp at q
    refine⟨_,ro,?_⟩;have ev:evD U UE OO=.ok (.bl (decide ((Ae:Int)=0))):=by simp only[evD,mF,lF,Rs.bo,op1,op2,JP,D.dep,D.eqv];rfl
    rw[ev];refine⟨_,rfl,λH1 s1=>?_⟩;show if decide ((Ae:Int)=0)=To then _ else _;have e1:=e.grow s1;have rob:Rep X.K W CD Ar:=by obtain⟨u,hu,hru⟩:=oe e (i:=0) rfl;cases hu;exact hru
    obtain rfl|⟨F,st,rfl⟩:J=[]\/∃F st,J=F++[st]:=by
     rcases List.eq_nil_or_concat J with z|⟨l,b,z⟩
     ·exact .inl z
     ·exact .inr ⟨l,b,by rw[z,List.concat_eq_append]⟩
    ·refine iteT ?_;simp only[List.isEmpty_nil,if_true]at h;obtain⟨_,h⟩:=h;refine⟨Qa,⟨s1,e1.len,e1.read,λj d hj=>by simp at hj,λj _ _ _ _ hj=>by simp at hj⟩,?_⟩;rw[hmsg];exactλC H2 hm s2=>h C H2 hm (e.same.trans s2) (rob.mono s2)
    ·have hz0:decide (((F++[st]).length:Int)=0)=Fo:=by simp;lia
     rw[hz0];refine iteF ?_;rw[rJ]at h ho2;rw[List.getLast?_concat]at h;rw[show(F++[st]).isEmpty=Fo by simp]at h;simp only[Zl,ZF]at h;rw[plains_app]at hpd;simp only[Jb,Bool.and_true,Zc]at hpd;obtain⟨hpl,B⟩:=hpd;obtain⟨o,y,rfl,hr1,hr2⟩:=Reps.snoc hrs;have E:=s1 _ _ hy;have sp:SameP H1 Nj:=ofM.sp (m:=To) (f:=f) E Cv;refine⟨.ref A,rfl,.inr (.inr (.inr (.inr ⟨rfl,f,_,E⟩))),A,f,o,y,rfl,rfl,E,?_⟩;obtain⟨sp3,e3⟩:=fin H1 A _ (.lsm f o) (.mls f F) h0 s1 rfl ho1 rfl E Cv ⟨A,o,rfl,Je,Reps.plain sp F hpl (hr1.mono s1)⟩;have hgf:(g==f)=Fo:=by rw[ZA]at hfg⊢;exactλz=>hfg z.symm
     obtain⟨_,C2,dx2,xs2,v2,k1,k2,k3,gv2,fin2⟩:=kJ (m:=To) e3 (f:=g) (d:=.mls g es) (by rw[look_put hgf];exact kU q2);have hab:a≠A:=λz=>by subst z;rw[hH]at hy;cases hy
     rw[Jc hab,s1 _ _ hH]at k1;have ez2:ns.zip xs=ns.zip xs2:=by injection k1 with k1;injection k1
     rw[<-ez2,l2]at k3;cases k3;obtain⟨b2',zs,eb2,hz,hrz⟩:=gv2;cases eb2;have hlz:zs.length<1000:=by rw[hrz.length];exact hle
     refine⟨.ref L,rfl,.inr (.inr (.inr (.inr ⟨rfl,g,_,hz⟩))),y,rfl,L,g,zs,y,rfl,rfl,hz,by show _<16777216;lia,?_⟩;have sp4:SameP Nj (upd Nj L (.lsm g (zs++[y]))):=ofM.sp (m:=To) (f:=g) hz Cv;have ry:Rep X.K (upd Nj L (.lsm g (zs++[y]))) st y:=Rep.plain sp4 st B (Rep.plain sp st B (hr2.mono s1));obtain⟨sp5,e4⟩:=fin2 _ L _ (.lsm g (zs++[y])) (.mls g (es++[st])) h0 K5 rfl ho2 rfl hz Cv ⟨L,_,rfl,Je,(Reps.plain sp4 es hpe hrz).append QdJ⟩;have e5:=e4.put (i:=4) (d:=st) (v:=y) Ad (by show Rep X.K GW _ _;rw[JE];exact ry);refine⟨_,e5,?_⟩;cases st with
     |tup ts=>
      simp only[goS]at h;split at h
      ·rename_i w x z a0 a1 an;split at h
       ·rename_i d' st' hb;have pa:∀{i:Int}{d:D},atD ts i=So d->Jj d=To:=fun{i d}hd=>by
         unfold atD at hd;cases hj:ixn ts.length i with
         |none=>rw[hj]at hd;cases hd
         |some j=>rw[hj]at hd;exact Jfh (by simpa[Jj]using B) hd
        have ev2:exO To U bc b7 [So (.obj a ns (putN g (.mls g (es++[.tup ts])) ns QI)),No,No,So A3,So QaJ]=.ok (.rt w) [So st',No,No,So A3,So QaJ]:=by simp only[goT,exO,evB,evD,mF,lF,if_true,Rs.bo,op2,a0,a1,an,Rs.ofOpt,D.asL,List.set_cons_zero,plE,B,Jb,pa a1,pa an,Bool.and_self,hb,Rx.lay,Rx.next,Rq.bind,show Jj (D.int n)=To from rfl,Bool.and_true]
        show(exO To U bc b7 [So (.obj a ns (putN g (.mls g (es++[.tup ts])) ns QI)),No,No,So A3,So QaJ]).Good _ _;rw[ev2];exactλv H2 s2 r2 hw=>let⟨σ',e'⟩:=hw rfl;h.2 v H2 s2 (JpS e' h.1 rob) r2
       ·exact h.elim
      ·exact h.elim
     |_=>exact h.elim
   ·exact h.elim
end
section
variable{w:AQ}{defs:Cg}{bdefs:EH}{ks:Nat}
def JxB{f:Addr}(F:E0)(S:Lh)(hd:bdefs[fi]? =So Pb)(hN:N.length=5)(hp:Ao=4)
  (r:∀(X:Cx)(A:Bv)(H0:Hp),Ctx X AM N 'Ɯ'.names->Room j A->HX X 'Ɯ'.names->PlO H0->PSs X Ew (tGo X Dr H0 ks cn ns)):
  FnOk P w K mg base A0 (j+1) f fd ps (spG K mg Lr fi):=by
 obtain⟨oc,od,kV,doc,pm,an,cdv,ct,osl,rfl,lk,L⟩:=F.ex;refine jK lk L S (λvs H Q E h=>?_) (λA U s H vs Q E hr h=>?_)
 ·obtain⟨a,ns,fs,f,g,n,I,u,C,dx,xs,rfl,_⟩:=h;rw[hp];rfl
 ·obtain⟨a,B,fs,f,g,n,I,u,C,dx,xs,rfl,r1,hH,l1,l2,g⟩:=h;refine⟨_,r _ _ (pl H) dE hr Lv pY,?_⟩;have z:L2.kC N [.ref a,.ref I,.ref u,.int n]=V2:=by unfold L2.kC;rw[hN];rfl
  have er:∀(i:Nat)(d:D),([So (.obj a B fs),No,No,So A3,No]:Fm)[i]? =So Bd->∃v,(V2:L2.St)[i]? =So BO/\Rep K H d v:=λi d l=>by
   match i,l with
   |0,l=>cases l;exact⟨_,rfl,r1⟩
   |1,l=>cases l
   |2,l=>cases l
   |3,l=>cases l;exact Qd8
   |4,l=>cases l
   |i+5,l=>simp at l
  simp only[runB,hd,Zk,uD,if_true,JD,exO]at g;split at g
  ·rename_i a2 ns2 fs2 f2 g2 n2 tl e2;cases e2;split at g
   ·rename_i J;subst J;refine⟨a,fs,f,_,n,I,u,C,dx,xs,z,?_,hH,l1,l2,?_⟩
    ·rw[z];exact⟨JiM,rfl,λi d _ l=>by
      obtain⟨v,h1,h2⟩:=er i d l;exact⟨v,h1,by show Rep K Kc d v;rw[JE];exact h2⟩,λ_ _ l=>by simp at l,λ_ _ _ _ _ l=>by simp at l⟩
    ·cases q:goD Dr ks cn n f _ a B fs with
     |sk=>rw[q]at g;exact g.elim
     |ok d Y=>
      rw[q]at g;simp only[Rc.at,ansB]at g;split at g
      ·rename_i o;exact⟨o,λv W s' r' rd=>g v W (Jnd s') r' rd⟩
      ·exact g.elim
     |ex c Y=>
      rw[q]at g;simp only[Rc.at,ansB]at g;split at g
      ·rename_i o;exact⟨o,λC2 H2 hm s2 r2 a' s' F'=>mO F' (g C2 H2 hm (Jnd s2) r2)⟩
      ·exact g.elim
   ·exact g.elim
  ·exact g.elim
def Jrw{vs:Av}{Q:VK}{E:XK}(h:∀st J,bc fi st J=.sk)(z:spG K mg bc fi vs H Q E):False:=by obtain⟨a,ns,fs,f,g,n,o,l,C,q,xs,_,_,_,_,_,z⟩:=z;rw[h]at z;exact z
def Jph{f:Addr}:FnOk P w K mg base A0 0 f fd ps (spG K mg OE fi):=
 ⟨λ_ _ _ _ h=>(Jrw CM h).elim,λ_ _ _ _ _ _ _ _ _ _ _ _ _ h=>(Jrw CM h).elim⟩
end
section
variable{U:Ag}{es sts:BF}{p:Px}
def bSetI(C:Am)(h:FF)(E:PE X e GH)(hs:MA):PS X Ga (tSB X w U bc M H0 (.setI i pb)):=by
 obtain⟨B,Y,u⟩:=chkA.at h;obtain⟨J,L⟩:=C.sto x Y;refine PS.weak (iD CU (by rw[C.hN];exact B) J E hs L) λD Z H⟨O,e,h⟩=>Dx;refine(Rx.good_next.mp h).imp (λd g l v W o A s r=>?_) λc g z C W F I=>z C W Z F I;split at l
 ·rename_i q;simp only[Zc]at q;exact l _ W (o.put u (Rep.tups o.ows.tup d q.2 r)) (by rw[sE u,A];exact ChB.sp s)
 ·exact l.elim
end
section
variable{U:Ag}{p:Px}
def cP{pl:Ca}(C:Am)(s:Nh)(g:GF)(z:Dj)(o:Ef)
  (h:LL) (l:'ķ'.any (·.1)=Fo)
  (r:eval DH Ue=(do
   let ov<-eval Fh Ue
   standAt XY
   let(f,first)<-holding [ov] CN
   callWith pos f first 'ν' Dh)):PE X DH (tI X U TB):=by simp only[chkV,Zc,ZI]at g;obtain⟨q,u⟩:=plainN.d g.2;exact JsT C s z g.1.2 g.1.1 q u o h l r
def cP0{pl:Ca}(C:Am)(q:Nh)(g:GF)(l:Dj)
  (o:eval E6 Ue=(do
   let ov<-eval Fh Ue
   standAt XY
   let(f,first)<-holding [ov] CN
   callWith pos f first 'е' Dh)):PE X E6 Vw:=by simp only[chkV,Zc,ZI]at g;obtain⟨h,r⟩:=plainN.d g.2;exact Jpo C q l g.1.2 g.1.1 h r o
end
def SmB(x:Addr)(H W:Hp):Prop:=∀b o,H b=So o->b≠x->W b=So o
def SmB.sp{x dx:Addr}{fs:List (Str×V)}(s:SmB x H W)(h:H x=So D1):SameP H W:=λb o e p=>s b o e λz=>by subst z;rw[h]at e;cases e;cases p
def spNS(K:Aj):Sp:=λh H Q _=>∃x g C,h=[.ref x]/\H x=So (.ins C g [])/\PySem.W.nsIn K mainGlobals Lz=So BC/\∀W xs,SmB x H W->W x=So (.ins C g (nsS.zip xs))->Rep K W (JkX x) (.ref x)->Q .non W
def JxF(t:Str):TE:=λZ H Q=>∀l,H l=No->Q BH Pm
def Jsq(K:Aj):L2.TS:=tSeq (sFld K Qc3 tDNewK IH) (tSeq (sFld K Qc3 (JxF FD) FD) (sFld K Qc3 (JxF FK) FK))
section
variable{w:AQ}
def clS:clsN nsS=oS "Site":=by decide+kernel
def JqG{f:Addr}(F:E0)(S:FnScope ps ps Us)(hps:Ao=1)(hf:∀A,∀g∈nsS,FldC AM g)
  (I:∀(X:Cx)(A:Bv),Ctx X AM ps 'Ɯ'.names->PSs X Ew (Jsq K)):FnOk P w K mg base A0 1 f fd ps (spNS K):=by
 obtain⟨oc,od,kV,doc,pm,an,cdv,ct,osl,rfl,lk,hcd⟩:=F.ex;refine jK lk hcd S (λvs H Q E h=>?_) (λA outer s H vs Q E hr h=>?_)
 ·obtain⟨y,L,C,rfl,_⟩:=h;exact hps.symm
 ·obtain⟨y,L,C,rfl,hy,hC,k⟩:=h;refine⟨_,I _ _ dE,?_⟩;have Y:∀g∈nsS,Cls K C/\NoAttr K C g:=λg hg=>hf A g hg nsS C (by rw[clS];exact hC);have s0:(L2.kC ps [V.ref y])[0]? =So (So (.ref y)):=rfl;intro T hT;have u:T≠y:=(Ji hy hT).symm;refine⟨_,s0,y,C,L,[],rfl,by rw[Jc (Ne.symm u)];exact hy,(Y IH (by simp[nsS])).1,(Y IH (by simp[nsS])).2,by decide,?_⟩;intro p U;have r:p≠y:=λz=>by subst z;rw[Je]at U;cases U
  have hpT:p≠T:=λz=>by subst z;rw[Jc r,Je]at U;cases U
  refine⟨_,s0,y,C,L,_,rfl,by rw[Jc (Ne.symm r),Je],(Y FD (by simp[nsS])).1,(Y FD (by simp[nsS])).2,by show 1<1000;decide,?_⟩;intro q B;have l:q≠y:=λz=>by subst z;rw[Je]at B;cases B
  have J:q≠p:=λz=>by subst z;rw[Jc l,Je]at B;cases B
  have hqT:q≠T:=λz=>by subst z;rw[Jc l,Jc J,Jc l,Je]at B;cases B
  refine⟨_,s0,y,C,L,_,rfl,by rw[Jc (Ne.symm l),Je],(Y FK (by simp[nsS])).1,(Y FK (by simp[nsS])).2,yH (JbQ _ _ _) (by show 2<1000;decide),?_⟩;rw[Jc r,Jc hpT]at U;rw[Jc l,Jc J,Jc l,Jc hqT]at B;have ih:∀h:Hp,upd h y QdS y=So QdS:=λh=>Je;refine k _ Nz (λb o e nb=>?_) (ih _) ⟨rfl,C,L,Nz,ih _,by rw[clS];exact hC,rfl,?_⟩
  ·rw[Jc nb,Jc (Ji e B),Jc nb,Jc (Ji e U),Jc nb,Jc (Ji e hT)];exact e
  ·refine⟨_,_,rfl,⟨T,[],rfl,⟨[],?_,rfl,rfl⟩,rfl⟩,_,_,rfl,⟨p,[],rfl,?_,rfl⟩,_,_,rfl,⟨q,[],rfl,?_,rfl⟩,rfl⟩
   ·rw[Jc u,Jc (Ne.symm hqT),Jc u,Jc (Ne.symm hpT),Jc u,Je]
   ·rw[Jc r,Jc (Ne.symm J),Jc r,Je]
   ·rw[Jc l,Je]
end
inductive MakeSe(G:Gw):Prop where
 |mk (C f:Addr) (fd:FuncData) (ps:List Str) (h:Mk G.K C f/\FnOk G.prog G.w G.K G.mg G.base (CXr G.prog G.w) 1 f fd ps (spNS G.K)/\Room 2 G.A/\G.mg (oS "Site")=So (.ref C)/\PySem.W.nsIn G.K mainGlobals (oS "Site")=So (So (.ref C))/\Binds G.K fd ps []):MakeSe G
structure MakeS(G:Gw):Prop where
 ex:MakeSe G
section
variable{U:Ag}{b:Bs}{q:Px}{rest:BF}{pt pt2 p pos':Pos}{kt k2:Nat}
def EnvOk.sp(e:CO)(l:∀k∈M,∀d,O[k]? ≠So Bd)(r:plE O=To)(o:A4)(s:C7):EnvOk K M H0 W Z O:=
 ⟨o.same YX s,e.len,λk d g h=>let⟨v,u,z⟩:=e.read k d g h;⟨v,u,Rep.plain s.hid d (uS r h) z⟩,λk d g h=>absurd h (l k g d),λk _ _ d _ g _ _ h=>absurd h (l k g d)⟩
end
end Rd
namespace Rd
open PySem PySem.Spec PyProof.Rows L2 Pu PySem.W
variable{X:Cx}{N ns cs:Ac}{i j fi k kt k2:Nat}{G:Gw}{nm:Bj}{x cn y m dn:Str}{K:Aj}{P:Ba}{w:AQ}{pos p1 px py apos lp pt pt2 pos':Pos}{mg:Bk}{base:Heap}{H H0:Hp}{M:Au}{bc:AI}{p:Px}{A:Bv}{s:Al}{Pt c f:Addr}{e body:Expr}{params:Qdh}{b:Bs}{Z:Bl}{st:Stmt}{sc:Bf}
section
variable{defs:Cg}{bdefs:EH}{C:Addr}
noncomputable def OkP (P:Ba) (w:AQ) (K:Aj) (mg:Bk) (base:Heap) (defs:Cg) (C:Addr) (k:Nat):Nat->List MethE->Prop
 |_,[]=>True
 |i,e::T=>(∀f g,Met1 K C e f g->FnOk P w K mg base A0 (3*k) f g e.2.2.2 QbI)/\OkP P w K mg base defs C k Bw T
theorem Jkw:∀(T:J7)(i:Nat),OkP P w K mg base defs C 0 i T
 |[],_=>trivial
 |e::T,i=>⟨λ_ _ _=>JnA,Jkw T Bw⟩
theorem JeY{k:Nat}{A:Bv}{cn:Str}(l:Z1)(o:PySem.W.nsIn K mainGlobals cn=So BC)(a:GZ):∀{T:J7}{i j:Nat}{e:aH},HasM K C T->OkP P w K mg base defs C k i T->T[j]? =So e->CalleeP AM CC (i+j) cn e.1
 |[],_,_,_,_,_,h=>by simp at h
 |d::T,i,0,e,hm,ok,h=>by
  simp only[lF,ZU]at h
  subst h
  obtain⟨⟨f,g,D⟩,_⟩:=hm
  exact⟨⟨C,3*k,f,g,_,o,l,D.m,ok.1 f g D,Qdy,D.b⟩⟩
 |d::T,i,j+1,e,hm,ok,h=>by
  have:=JeY (cn:=cn) l o a (j:=j) hm.2 ok.2 (by simpa using h)
  rw[show i+1+j=i+(j+1) by lia]at this
  exact this
theorem JcN{k:Nat}{A:Bv}{cn:Str}(l:Z1)(o:PySem.W.nsIn K mainGlobals cn=So BC)(a:GZ):∀{T:J7}{i j:Nat}{e:aH},HasM K C T->OkM P w K mg base defs bdefs C k i T->T[j]? =So e->CalleeB AM Dr (i+j) cn e.1
 |[],_,_,_,_,_,h=>by simp at h
 |d::T,i,0,e,hm,ok,h=>by
  simp only[lF,ZU]at h
  subst h
  obtain⟨⟨f,g,D⟩,_⟩:=hm
  exact⟨⟨C,3*k,f,g,_,o,l,D.m,ok.1 f g D,Qdy,D.b⟩⟩
 |d::T,i,j+1,e,hm,ok,h=>by
  have:=JcN (cn:=cn) l o a (j:=j) hm.2 ok.2 (by simpa using h)
  rw[show i+1+j=i+(j+1) by lia]at this
  exact this
def foP{a:Gw->CallD->Prop}{e:aH}{d:DefD}{b:Sx}(E:∀A,Room E8 A->a AM CC)(B:∀{X:Cx}{G:Gw}{U:Ag}{H0:Hp},a G U->Ctx X G N (Ja e.2.2.1).names->HX X (Ja e.2.2.1).names->PSs X (Jo e.2.2.1) RD)
  (v:'в' (defs[i]? =So d) Ai) (hb:'в' (Yj=b) Ai) (h:'в' ((nI N e.2.2.2 (Ja e.2.2.1)&&d.slots==XM&&d.params==e.2.2.2.length&&M.all (λi=>decide (e.2.2.2.length<=i))&&decide (e.2.2.2.length<=XM))=To) Kp):
  ∀f g,Met1 K C e f g->FnOk P w K mg base A0 (3*AZ) f g e.2.2.2 QbJ:=λf g D=>by
 simp only[Zc,ZI,uB,Zw]at h
 obtain⟨⟨⟨⟨q,r⟩,F⟩,o⟩,u⟩:=h
 subst hb
 exact Jxn (j:=3*k+2) D.F (uI q) v r F o u λX A H0 C l z=>B (E A l) C z
def foG{a:Gw->CallD->CallB->Prop}{e:aH}{ks:Nat}(E:∀A,Room E8 A->a AM CC Dr)(z:∀{X:Cx}{G:Gw}{U:Ag}{bc:AI}{H0:Hp},a G U bc->Ctx X G N (Ja e.2.2.1).names->HX X (Ja e.2.2.1).names->PlO H0->PSs X (Jo e.2.2.1) PX)
  (u:'в' (bdefs[i]? =So Pb) Ai) (h:'в' ((nI N e.2.2.2 (Ja e.2.2.1)&&5==XM&&4==e.2.2.2.length)=To) Kp):
  ∀f g,Met1 K C e f g->FnOk P w K mg base A0 (3*AZ) f g e.2.2.2 (spG K mg Lr i):=λf g D=>by
 simp only[Zc,ZI]at h
 obtain⟨⟨o,q⟩,B⟩:=h
 exact JxB (j:=3*k+2) D.F (uI o) u q.symm B.symm λX A H0 C l v r=>z (E A l) C v r
def Jli{e:aH}(h:Z1)(o:PySem.W.nsIn K mainGlobals cn=So BC)(a:GZ)(l:∃f g,Met1 K C e f g)(ok:∀f g,Met1 K C e f g->FnOk P w K mg base A0 (3*k) f g e.2.2.2 (spG K mg Dr i)):CalleeG AM Dr i cn e.1:=by obtain⟨f,g,D⟩:=l;exact⟨⟨C,3*k,f,g,_,o,h,D.m,ok f g D,Qdy,D.b⟩⟩
def Jgh{f:Str}(hB:PySem.W.nsIn K mainGlobals (oS "Board")=So No)(l:PySem.W.nsIn K mainGlobals Lz=So BC)(a:Z1)(g:NoAttr K C f)(A:Bv):FldC AM f:=λns o h=>by
 unfold clsN at h
 split at h
 ·rw[hB]at h;cases h
 ·rw[l]at h;cases h;exact⟨a,g⟩
end
section
variable{w:Bool}{U:Ag}{ek ev:Expr}{pk:Px}{f z:Str}{pz mpos cpos spos dpos:Pos}
def bNewL(C:Am)(g:A4)(h:chkV N nm 0 x=To)(a:Ds)(hs:swapsWith QbL (So Cz) XT Ue=pure Fo):
  PS X (.Assign Pd QbL pos) UV:=JuH C g (lH h) a hs
def bAppF(C:Am)(h:A4)(q:chkV N nm 0 x=To)(g:Ds)(o:Cf)(l:Mn)
  (r:NG) (a:attributeBase Cz "append" Ue (eval Cz Ue)=eval Cz Ue)
  (hs:NK):
  PS X W0 U6:=Jum C h (lH q) g o l r a hs
def bPutK(C:Am)(l:A4)(o:chkV N nm 0 x=To)(h:Ds)(a:L5)(q:PE X ev Gj)
  (g:NG) (hs:swapsWith ev UU XT Ue=pure Fo):
  PS X V6 Vq:=Jti C l (lH o) h a q g hs
def bPopK(C:Am)(h:A4)(l:chkV N nm 0 x=To)(g:Ds)(a:L5)(m:QU)
  (o:NG):
  PS X WU Vf:=JuC C h (lH l) g a m o
def gPop(C:Am)(a:GF)(B:chkA N nm [] j y=To)(q:Mn)(v:'в' (attributeBase Dp "pop" Ue (eval Dp Ue)=eval Dp Ue) Ai)
  (hs:'в' (swapsWith Wr (So KS) XT Ue=pure Fo) Ai):PS X (.Assign [.Name y py] Wr pos) (tAsg (tBM0 X.K "list" rPop QcW) (JeB j)):=by simp only[chkV,Zc,ZI]at a;obtain⟨g,o⟩:=plainN.d a.2;obtain⟨l,r,E⟩:=chkA.at B;obtain⟨h,u⟩:=C.sto y r;exact iD CU (by rw[C.hN];exact l) h (JxG nM PySem.F.slot_list_pop PySem.F.type_list_pop JtN (rA (by rw[C.hN];exact a.1.1) (C.vis x a.1.2) g o) v q) hs u
def gApp(C:Am)(a:GF)(hz:chkV N nm j z=To)(q:Mn)(r:'в' (attributeBase Dp "append" Ue (eval Dp Ue)=eval Dp Ue) Ai)
  (hs:'в' (starEach [.Name z pz] Ue=(Fo,eval (.Name z pz) Ue)::starEach [] Ue) Ai):PS X (.Expr (.Call (.Attribute Dp "append" mpos) [.Name z pz] [] cpos) pos) (kX (tBM X.K "list" rApp QcW (zQ (tVar j) tNil))):=by simp only[chkV,Zc,ZI]at a hz;obtain⟨g,o⟩:=plainN.d a.2;obtain⟨h,l⟩:=plainN.d hz.2;exact nL (iN nM rW qW Jfc (rA (by rw[C.hN];exact a.1.1) (C.vis x a.1.2) g o) (JO (rA (by rw[C.hN];exact hz.1.1) (C.vis z hz.1.2) h l) jD hs) r (by rw[hs];rfl) q hs rfl) rfl
end
section
variable{w:Bool}{U:Ag}{pb:Bx}{f:Nat}
def tSB.retB{D:Ends}(g:tSB X w U bc [] H0 (.retB pb) D Z H):tB X U bc [] H0 pb Z H D.rt:=by obtain⟨O,e,h⟩:=g;refine Dx;refine(Rx.good_next.mp h).imp (λd a u v W l B s r=>?_) λc a z C W o q=>z C W Z o q;exact u v W l.same r λ_=>⟨Z,l⟩
def JsQ(a:TJ):PS X Ng (tSB X w U bc [] H0 (.retB pb)):=PS.weak (pN a) λD Z H h=>h.retB
variable{f2:Nat}{m2:Str}{p2 pc:Px}
end
section
variable{defs:Cg}{bdefs:EH}
def JwG (X:Cx) (G:Gw) (U:Ag) (bc:AI) (H0:Hp):List MethE->List (List Str)->List DefB->Prop
 |e::T,n::L,d::D=>(Ctx X G n (Ja e.2.2.1).names->HX X (Ja e.2.2.1).names->PSs X (Jo e.2.2.1) (tSB X To U bc [] H0 Yj))/\JwG X G U bc H0 T L D
 |[],_,_=>True
 |_,_,_=>False
def JwV (X:Cx) (G:Gw) (U:Ag) (H0:Hp):List MethE->List (List Str)->List DefD->Prop
 |e::T,n::L,d::D=>(Ctx X G n (Ja e.2.2.1).names->HX X (Ja e.2.2.1).names->PSs X (Jo e.2.2.1) (tS X U [] H0 Yj))/\JwV X G U H0 T L D
 |[],_,_=>True
 |_,_,_=>False
end
structure Prt(K:Aj)(H:Hp)(a:Addr)(d:D)(L:A9):Prop where
 mem:a∈L
 owc:OwC L H
 npl:∀l∈L,∀o,H l=So o->plK o=Fo
 rep:∀W,(∀l∈L,W l=H l)->SameP H W->Rep K W d Ar
section
variable{W:Hp}{a:Addr}{d:D}{L:A9}{ks vs J es:Ak}
def Jxl{C g T p q:Addr}{kvs:GJ}{ys F:Av}(h:H a=So (.ins C g Rm))(E:H g=So bD)(u:H T=So AN)(r:H p=So (.lsm FD ys))(v:H q=So (.lsm FK F))
  (hC:PySem.W.nsIn K mainGlobals BX=So BC) (hk:ks=kvs.map (λp=>keyV p.1)) (rv:Reps K H vs (kvs.map (·.2))) (rd:Reps K H J ys) (re:Reps K H es F) (pv:Jb vs=To) (pd:Jb J=To) (pe:Jb es=To):
  Prt K H a T4 [a,g,T,p,q]:=by
 have cs:∀{P:Addr->Prop},P a->P g->P T->P p->P q->∀l∈[a,g,T,p,q],P l:=λh1 h2 h3 h4 h5 l U=>by simp only[Zf,Zy,fA]at U;rcases U with rfl|rfl|rfl|rfl|rfl<;>assumption
 refine⟨by simp,⟨cs ⟨_,h,trivial⟩ ⟨_,E,trivial⟩ ⟨_,u,trivial⟩ ⟨_,r,trivial⟩ ⟨_,v,trivial⟩,λb y I e=>?_,λb Y O fs I e=>?_⟩,cs (λo e=>?_) (λo e=>?_) (λo e=>?_) (λo e=>?_) (λo e=>?_),λW B sp=>?_⟩
 ·refine cs (P:=λb=>H b=So (.own y)->y∈[a,g,T,p,q]/\∃C fs,H y=So QdL) (λz=>?_) (λz=>?_) (λz=>?_) (λz=>?_) (λz=>?_) b I e
  ·rw[h]at z;cases z
  ·rw[E]at z;cases z;exact⟨by simp,_,_,h⟩
  ·rw[u]at z;cases z
  ·rw[r]at z;cases z
  ·rw[v]at z;cases z
 ·refine cs (P:=λb=>H b=So (.ins Y O fs)->O∈[a,g,T,p,q]) (λz=>?_) (λz=>?_) (λz=>?_) (λz=>?_) (λz=>?_) b I e
  ·rw[h]at z;cases z;simp
  ·rw[E]at z;cases z
  ·rw[u]at z;cases z
  ·rw[r]at z;cases z
  ·rw[v]at z;cases z
 ·rw[h]at e;cases e;rfl
 ·rw[E]at e;cases e;rfl
 ·rw[u]at e;cases e;rfl
 ·rw[r]at e;cases e;rfl
 ·rw[v]at e;cases e;rfl
 ·exact⟨rfl,C,g,Nz,by rw[B a 'j'];exact h,hC,rfl,_,_,rfl,⟨T,_,rfl,⟨kvs,by rw[B T 'j'];exact u,hk,rfl⟩,Reps.plain sp vs pv rv⟩,_,_,rfl,⟨p,ys,rfl,by rw[B p 'j'];exact r,Reps.plain sp J pd rd⟩,_,_,rfl,⟨q,F,rfl,by rw[B q 'j'];exact v,Reps.plain sp es pe re⟩,rfl⟩
def JxR{h:Heap}(r:Rep K H T4 Ar)(ok:BE)(v:Jb vs=To)(pd:Jb J=To)(pe:Jb es=To):∃L,Prt K H a T4 L:=by obtain⟨_,C,dx,xs,g,I,_,x1,r1,rfl,⟨T,F,rfl,⟨u,o,U,rfl⟩,B⟩,x2,r2,rfl,⟨p,Y,rfl,l,z⟩,x3,r3,rfl,⟨q,zs,rfl,O,E⟩,rfl⟩:=r;exact⟨_,Jxl g (ok a _ g).1 o l O I U B z E v pd pe⟩
def Prt.mono(p:HZ)(s:∀l∈L,W l=H l)(sp:C7):Prt K W a d L where
 mem:=p.mem
 owc:=⟨λb g=>by rw[s b g];exact p.owc.all b g,λb y g e=>by
   rw[s b g]at e
   obtain⟨r,q⟩:=p.owc.own b y g e
   exact⟨r,by rw[s y r];exact q⟩,λb C x fs g e=>by rw[s b g]at e;exact p.owc.dx b C x fs g e⟩
 npl:=λl h o e=>by rw[s l h]at e;exact p.npl l h o e
 rep:=λu q v=>p.rep u (λl h=>by rw[q l h];exact s l h) (sp.trans v)
def Prt.at(p:HZ){l:Addr}(g:l∈L):∃o,H l=So o:=let⟨o,e,_⟩:=p.owc.all l g;⟨o,e⟩
def Prt.keep(p:HZ)(s:B9):∀l∈L,W l=H l:=λl g=>by obtain⟨o,e⟩:=p.at g;rw[s l o e,e]
end
def tLaw(X:Cx)(H0:Hp)(R:Fm->Prop):L2.TS:=λD Z H=>∃O,EnvOk X.K [] H0 H Z O/\R O/\∀W,D.rt CW W
section
variable{U:Ag}{rest body:BF}{a:Bs}
def kE{R:Fm->Prop}(h1:PS X st (tSB X Fo U bc [] H0 a))(v:PR):PSs X (st::rest) (tLaw X H0 λO=>∃g,exO Fo U bc a O=.ok .nx g/\R g):=by refine PSs.weak (JN h1 v) λD Z H u=>?_;obtain⟨O,e,⟨g,r,o⟩,q⟩:=u;refine Dx;rw[r];exactλh W l _=>⟨g,l,o,q⟩
def env0{O:Fm}(s:Same H0 H)(l:Z.length=O.length)(r:ReadOk K H Z O):EnvOk K [] H0 H Z O:=
 ⟨s,l,λj d _ h=>by show∃v,_/\Rep K Kc d v;rw[JE];exact r j d h,λj d g=>by simp at g,λj _ _ _ _ g=>by simp at g⟩
variable{is io ip ij ia:Nat}{pt pp pi:Px}{xo:Str}{pf pr pc:Pos}{e6 tg iter:Expr}{s7 s8:Stmt}{kc:Nat}
end
end Rd
namespace Pu
open PySem
variable{α β:Type}{e a c src as:Px}{p:Bool}{J:Ak}{i:Nat}
section
variable(i j:Int)(x y:Str)(xs ys:Ak)(a b:D)(p q:Bool)
@[simp]def o_neg:op1 .neg A2=.ok (.int (-i)):=rfl
@[simp]def o_not:op1 .not Cq=.ok (.bl !p):=rfl
@[simp]def JyE:op1 .truth Cq=.ok Cq:=rfl
@[simp]def o_lenT:op1 .len Bb=.ok (.int Ah):=rfl
@[simp]def o_lenL:op1 .len AA=.ok (.int Ah):=rfl
@[simp]def o_tupL:op1 .tuple AA=.ok Bb:=rfl
@[simp]def o_tupT:op1 .tuple Bb=.ok Bb:=rfl
@[simp]def o_listL:op1 .list AA=.ok AA:=rfl
@[simp]def o_listT:op1 .list Bb=.ok AA:=rfl
@[simp]def o_enumT:op1 .enum Bb=.ok Qa5:=rfl
@[simp]def o_enumL:op1 .enum AA=.ok Qa5:=rfl
@[simp]def o_rowsL:op1 .rows AA=.ok AA:=rfl
@[simp]def o_rowsT:op1 .rows Bb=.ok Bb:=rfl
@[simp]def JwN:D.walk AA=.ok xs:=rfl
@[simp]def Jxq:D.walk Bb=.ok xs:=rfl
@[simp]def o_asI:op1 .asI A2=.ok A2:=rfl
@[simp]def o_isNn:op1 .isN .non=.ok CW:=rfl
@[simp]def o_isNl:op1 .isN AA=.ok C4:=rfl
@[simp]def o_notNn:op1 .notN .non=.ok C4:=rfl
@[simp]def o_notNl:op1 .notN AA=.ok CW:=rfl
theorem JmE(n:Nat)(h:n<=1000):op1 .range A3=.ok (.lst (upTo 0 n)):=by
 have:midI n=To:=by simp only[midI,Zc,Zw];lia
 show(if midI n=To then Rs.ok (D.lst (upTo 0 (n:Int).toNat))else .sk)=_;rw[if_pos this,rF]
@[simp]def JqS:op2 .add A2 Dt=.ok (.int (i+j)):=rfl
@[simp]def JyD{i j:Int}{k:Int->Int->Rs D}:onII A2 Dt k=k i j:=rfl
@[simp]def o_sub:op2 .sub A2 Dt=.ok (.int (i-j)):=rfl
@[simp]def nN(h:smallI i||smallI j):op2 .mul A2 Dt=.ok (.int (i*j)):=if_pos h
def JvY(h:Ah+By<=lD):op2 .add Bb QaK=.ok (.tup (xs++ys)):=if_pos h
def JrD(h:Ah+By<=lD):op2 .add AA FP=.ok (.lst (xs++ys)):=if_pos h
@[simp]def o_lt:op2 .lt A2 Dt=.ok (.bl (decide (i<j))):=rfl
@[simp]def o_le:op2 .le A2 Dt=.ok (.bl (decide (i<=j))):=rfl
@[simp]def o_gt:op2 .gt A2 Dt=.ok (.bl (decide (j<i))):=rfl
@[simp]def o_ge:op2 .ge A2 Dt=.ok (.bl (decide (j<=i))):=rfl
def o_eq(h:a.dep<=20)(h':b.dep<=20):op2 .eq a b=.ok (.bl (a.eqv b)):=if_pos (by simp[JP,h,h'])
def o_ne(h:a.dep<=20)(h':b.dep<=20):op2 .ne a b=.ok (.bl (!a.eqv b)):=if_pos (by simp[JP,h,h'])
@[simp]def o_eqS:op2 .eq D5 Y5=.ok (.bl (x==y)):=rfl
@[simp]def o_neS:op2 .ne D5 Y5=.ok (.bl (!(x==y))):=rfl
@[simp]def o_eqI:op2 .eq A2 Dt=.ok (.bl (i==j)):=rfl
@[simp]def o_neI:op2 .ne A2 Dt=.ok (.bl (!(i==j))):=rfl
@[simp]def o_eqB:op2 .eq Cq Qat=.ok (.bl (p==q)):=rfl
@[simp]def o_neB:op2 .ne Cq Qat=.ok (.bl (!(p==q))):=rfl
@[simp]def Jwp:op2 .idx Bb A2=Rs.ofOpt (atD xs i):=rfl
@[simp]def wX:op2 .idx AA A2=Rs.ofOpt (atD xs i):=rfl
@[simp]def JuS:op2 .zip Bb QaK=.ok (.lst '亓'):=rfl
def o_inT(h:deps xs<=19)(h':a.dep<=20):op2 .isin a Bb=.ok UL:=by
 have:JP Bb=To:=by simp[JP,D.dep,h]
 have f:JP a=To:=by simp[JP,h']
 cases a<;>exact if_pos (by rw[this,f];rfl)
def o_inL(h:deps xs<=19)(h':a.dep<=20):op2 .isin a AA=.ok UL:=by
 have:JP AA=To:=by simp[JP,D.dep,h]
 have f:JP a=To:=by simp[JP,h']
 cases a<;>exact if_pos (by rw[this,f];rfl)
theorem atN(n:Nat)(h:n<Ah):atD xs (n:Int)=So xs[n]:=by
 have g:(n:Int)<Ah:=by lia
 have f:(0:Int)<=n:=by lia
 simp[atD,ixn,g,f,h]
@[simp]def at0:atD (a::xs) 0=So a:=by have:=atN (a::xs) 0 Ad;simpa using this
@[simp]def at1:atD (a::b::xs) 1=So b:=by have:=atN (a::b::xs) 1 Ad;simpa using this
@[simp]def ofSome(a:α):Rs.ofOpt (So a)=.ok a:=rfl
end
section
variable(U:Ag)(O:Fm)
@[simp]def yD(i:Nat):evD U B2 O=match O[i]? with
  |some (So d)=>.ok d
  |_=>.sk:=rfl
@[simp]def vW(d:D):evD U (.con d) O=.ok d:=rfl
@[simp]def e_un(o:O1)(a:Px):evD U (.un o a) O='ƀ'.bind (op1 o):=rfl
@[simp]def e_bi(o:O2)(a b:Px):evD U (.bi o a b) O='ƀ'.bind λx=>(evD U b O).bind λy=>op2 o x y:=rfl
@[simp]def e_and(a b:Px):evD U (.and a b) O='ƀ'.bind λx=>match x with
  |.bl To=>evD U b O
  |.bl Fo=>.ok C4
  |_=>.sk:=rfl
@[simp]def e_or(a b:Px):evD U (.or a b) O='ƀ'.bind λx=>match x with
  |.bl To=>.ok CW
  |.bl Fo=>evD U b O
  |_=>.sk:=rfl
@[simp]def JxM(c a b:Px):evD U (.ite c a b) O='ԟ'.bind λx=>match x with
  |.bl To=>evD U a O
  |.bl Fo=>evD U b O
  |_=>.sk:=rfl
@[simp]def e_nil:evD U .nil O=.ok GK:=rfl
@[simp]def wN(a as:Px):evD U (.cons a as) O='ƀ'.bind λx=>'ǐ'.bind λy=>y.asL.bind λJ=>.ok (.lst (x::J)):=rfl
@[simp]def e_tup(as:Px):evD U (.tup as) O='ǐ'.bind λy=>y.asL.bind λJ=>if Ae<=lD then .ok (.tup J)else .sk:=rfl
@[simp]def e_dis(as:Px):evD U (.dis as) O='ǐ'.bind λy=>y.asL.bind λJ=>if Ae<=lD then .ok Bc else .sk:=rfl
@[simp]def rR(f:Nat)(as:Px):evD U (.call f as) O='ǐ'.bind λy=>y.asL.bind λJ=>U f J:=rfl
@[simp]def e_sl(a lo hi:Px):evD U (.sl a lo hi) O='ƀ'.bind λx=>(evD U lo O).bind λl=>l.bound.bind λl=>(evD U hi O).bind λh=>h.bound.bind λh=>match x with
  |.tup J=>.ok (.tup Me)
  |.lst J=>.ok (.lst Me)
  |.str x=>if x.length<=20000 then .ok (.str UO)else .sk
  |_=>.sk:=rfl
@[simp]def iE(a:Px):evD U (.walk a) O='ƀ'.bind λx=>x.walk.bind λJ=>.ok Bc:=rfl
def vN(b:Nat)(src c e:Px):evD U (.comp b src c e) O='я'.bind λs=>s.asL.bind λJ=>if Ae<=lD then(JZ b Xy 'ԩ' O J).bind λf=>.ok (.lst f)else .sk:=rfl
end
@[simp]def yE(J:Ak):D.asL Bc=.ok J:=rfl
@[simp]def JmF:D.bound .non=.ok No:=rfl
@[simp]def JnN(i:Int):D.bound A2=.ok (So i):=rfl
section
variable(U:Ag)(O:Fm)
@[simp]def ans_nx:Jf (.ok YN)=.ok .non:=rfl
@[simp]def JxO(d:D):Jf (.ok aT)=.ok d:=rfl
@[simp]def JxY:Jf .sk=.sk:=rfl
@[simp]def ans_ex(c:Str):Jf (.ex c)=.ex c:=rfl
@[simp]def x_skip:exD U .skip O=.ok YN:=rfl
@[simp]def yA(a b:Sx):exD U Ke O=(exD U a O).bind λr=>match r with
  |(.nx,env2)=>exD U b env2
  |r=>.ok r:=rfl
@[simp]def qR(m:Bool)(i:Nat)(e:Px):exD U (.set m i e) O='Ƥ'.bind λd=>if m&&!d.imm then .sk else .ok QcH:=rfl
@[simp]def x_own(i:Nat)(e:Px):exD U (.own i e) O='Ƥ'.bind λd=>match d with
  |.lst J=>if !imms J then .sk else .ok Pi
  |_=>.sk:=rfl
@[simp]def x_app(m:Bool)(i:Nat)(e:Px):exD U (.app m i e) O=match O[i]? with
  |some (So (.lst J))=>'Ƥ'.bind λd=>if(m&&!d.imm)||!decide (Ae<lD)then .sk else .ok (.nx,O.set i (So (.lst (J++[d]))))
  |_=>.sk:=rfl
@[simp]def x_ext(m:Bool)(i:Nat)(e:Px):exD U (.ext m i e) O=match O[i]? with
  |some (So (.lst J))=>'Ƥ'.bind λy=>y.asL.bind λb=>if(m&&!imms b)||!decide (Ae+b.length<=lD)then .sk else .ok (.nx,O.set i (So (.lst (J++b))))
  |_=>.sk:=rfl
@[simp]def JxL(t:Bool)(i:Nat):exD U (.ownD t i) O=.ok Vk:=rfl
@[simp]def x_retF(i:Nat):exD U (.retF i) O=match O[i]? with
  |some (So (.dct t Fo ks vs))=>.ok (.rt ND,O)
  |_=>.sk:=rfl
@[simp]def Jyo(m t':Bool)(i:Nat)(k v:Px):exD U (.put m t' i k v) O=match O[i]? with
  |some (So (.dct t Fo ks vs))=>(evD U v O).bind λy=>(evD U k O).bind λx=>if(m&&!y.imm)||!(t==t')||!keyD t x||!decide (AC<1000)then .sk else .ok (.nx,O.set i (So (.dct t Fo (putD x y ks vs).1 (putD x y ks vs).2)))
  |_=>.sk:=rfl
@[simp]def x_raise(c:Str)(p:Px):exD U (.raise c p) O='ǉ'.bind λd=>if lK d then .ex c else .sk:=rfl
def x_whl(n:Nat)(c:Px)(b:Sx):exD U (.whl n c b) O=whlL Xy (exD U b) n O:=rfl
@[simp]def x_eff(e:Px):exD U (.eff e) O='Ƥ'.bind λ_=>.ok YN:=rfl
@[simp]def jN(e:Px):exD U bK O='Ƥ'.bind λd=>.ok aT:=rfl
@[simp]def zM(c:Px)(a b:Sx):exD U (.ite c a b) O='ԟ'.bind λx=>match x with
  |.bl To=>exD U a O
  |.bl Fo=>exD U b O
  |_=>.sk:=rfl
@[simp]def iL(m:Bool)(f:Au)(g:Nat)(src:Px)(b:Sx):exD U (.loop m f g src b) O='я'.bind λs=>s.asL.bind λJ=>if m&&(mutS b||!imms J)then .sk else forL f g (exD U b) J O:=rfl
@[simp]def x_brk:exD U .brk O=.ok (.bk,O):=rfl
end
def JpG(ns:AU):deps D0=0:=by
 induction ns with
 |nil=>rfl
 |cons a t b=>simp[deps,D.dep,b]
def JfY(ns:Ac):deps (ns.map X4)=0:=by
 induction ns with
 |nil=>rfl
 |cons a t b=>simp[deps,D.dep,b]
def Jqd(ns:AU):imms D0=To:=by
 induction ns with
 |nil=>rfl
 |cons a t b=>simp[imms,D.imm,b]
def Jrb(ns:Ac):imms (ns.map X4)=To:=by
 induction ns with
 |nil=>rfl
 |cons a t b=>simp[imms,D.imm,b]
def Jxg(b:Nat)(c e:Fm->Rs D)(O:Fm):JZ b c e O []=.ok []:=rfl
def lV(b:Nat)(c e:Fm->Rs D)(O:Fm)(d:D)(J:Ak){new:Fm}(j:gA b d=.ok new)(g:c (new++O)=.ok Cq){y:D}(h:p=To->e (new++O)=.ok y)
  {ys:Ak} (f:JZ b c e O J=.ok ys):JZ b c e O (d::J)=.ok (if p then y::ys else ys):=by cases p<;>simp[JZ,j,g,f,h]
theorem JdX(c e:Fm->Rs D)(O:Fm)(f:Nat->D):∀(n lo:Nat),(∀k,lo<=k->k<lo+n->c (So BQ::O)=.ok CW/\e (So BQ::O)=.ok (f k))->
  JZ 0 c e O ('仫'.map λk:Nat=>D.int k)=.ok ('仫'.map f)
 |0,lo,h=>rfl
 |n+1,lo,h=>by
  obtain⟨b,l⟩:=h lo (Zh _) Af
  have g:=JdX c e O f n (lo+1) λk m o=>h k Af Af
  have j:gA 0 (D.int lo)=.ok [So (.int lo)]:=rfl
  have:=lV 0 c e O (.int lo) _ j (p:=To) b (λ_=>l) g
  simpa[List.range'_succ]using this
def JlK(n:Nat):upTo 0 n=(List.range' 0 n).map λk:Nat=>D.int k:=by simp[upTo,uV]
def JqD(n:Nat)(b:n<=1000):(upTo 0 n).length<=lD:=by
 have h:(upTo 0 n).length=n:=by simp[upTo]
 rw[h];exact Zq b AB
def xS(U:Ag)(O:Fm)(ne e:Px)(n:Nat)(g:evD U ne O=.ok A3)(b:n<=1000)(f:Nat->D)(h:∀k,k<n->evD U e (So BQ::O)=.ok (f k)):
  evD U (.comp 0 (.un .range ne) BV e) O=.ok (.lst ('ϕ'.map f)):=by have:=JdX (evD U BV) 'ԩ' O f n 0 λk j l=>⟨rfl,h k Af⟩;rw[uV,vN,e_un,g,Rs.bo,JmE n b,Rs.bo];show(if(upTo 0 n).length<=lD then _ else _)=_;rw[if_pos (JqD n b),JlK,this];rfl
section
variable(U:Ag)(O:Fm)
def JF(e:Px):Jf (exD U bK O)=evD U e O:=by rw[jN];cases evD U e O<;>rfl
def gD(e:Px)(rest:Sx)(b:evD U c O=.ok Cq):Jf (exD U (.seq (.ite c bK .skip) rest) O)=if p then evD U e O else Jf Rl:=by
 rw[yA,zM,b];cases p with
 |true=>simp only[Rs.bo,jN,if_true];cases evD U e O<;>rfl
 |false=>simp
def wC{d:D}(rest:Sx)(b:evD U e O=.ok d):Jf (exD U QH O)=Jf (exD U rest E9):=by rw[yA,qR,b];rfl
def jH{a:Sx}{env2:Fm}(rest:Sx)(h:exD U a O=.ok GR):Jf (exD U QdT O)=Jf (exD U rest env2):=by rw[yA,h];rfl
def zF{b:Px}{q:Bool}(f:evD U a O=.ok Cq)(g:p=To->evD U b O=.ok Qat):evD U (.and a b) O=.ok (.bl (p&&q)):=by
 rw[e_and,f];cases p with
 |true=>simpa using g rfl
 |false=>rfl
def fH{b:Px}{q:Bool}(f:evD U a O=.ok Cq)(g:p=Fo->evD U b O=.ok Qat):evD U (.or a b) O=.ok (.bl (p||q)):=by
 rw[e_or,f];cases p with
 |false=>simpa using g rfl
 |true=>rfl
def JT(b:evD U a O=.ok Cq):evD U (.un .not a) O=.ok (.bl (!p)):=by rw[e_un,b];rfl
def pA(b:evD U a O=.ok Cq):evD U (.un .truth a) O=.ok Cq:=by rw[e_un,b];rfl
def Jh{o:O2}{b:Px}{x y z:D}(f:evD U a O=.ok x)(h:evD U b O=.ok y)(g:op2 o x y=.ok z):evD U (.bi o a b) O=.ok z:=by rw[e_bi,f,Rs.bo,h,Rs.bo,g]
def JC{o:O1}{x z:D}(b:evD U a O=.ok x)(f:op1 o x=.ok z):evD U (.un o a) O=.ok z:=by rw[e_un,b,Rs.bo,f]
def Jl{f:Nat}{x:D}{r:Rs D}(b:evD U a O=.ok x)(g:U f [x]=r):evD U (.call f (.cons a .nil)) O=r:=by rw[rR,wN,b];exact g
end
theorem iJ(f:α->Bool):∀J:List α,jB (J.map λd=>.bl (f d))=So (J.map f)
 |[]=>rfl
 |d::J=>by simp[jB,iJ f J]
mutual
def D.small:D->Bool
 |.str x=>decide (XI<=1000)
 |.tup J=>decide (Ae<=1000)&&oY J
 |.lst J=>decide (Ae<=1000)&&oY J
 |_=>To
def oY:List D->Bool
 |[]=>To
 |d::J=>D.small d&&oY J
end
structure Nice(n:Nat)(d:D):Prop where
 s:d.small=To
 p:d.dep<=n
theorem yS:∀{J:Ak}{n:Nat},(∀d∈J,bV<=n)->deps J<=n
 |[],_,_=>vB _
 |x::xs,n,h=>by
  have f:=h x Ad
  have g:=yS (J:=xs) (n:=n) λd b=>h d (Zm _ b)
  simp only[deps]
  lia
def pH{n:Nat}(h:n<=1000):n<=lD:=Zq h AB
def uA(U:Ag)(O:Fm)(h:evD U as O=.ok Bc)(b:Ae<=1000):evD U (.tup as) O=.ok Gz:=by rw[e_tup,h,Rs.bo,yE,Rs.bo,if_pos (pH b)]
def JwF(U:Ag)(O:Fm)(h:evD U as O=.ok Bc)(b:Ae<=1000):evD U (.dis as) O=.ok Bc:=by rw[e_dis,h,Rs.bo,yE,Rs.bo,if_pos (pH b)]
def Jg(U:Ag)(O:Fm){d:D}(h1:evD U a O=.ok d)(b:evD U as O=.ok Bc):evD U (.cons a as) O=.ok (.lst (d::J)):=by rw[wN,h1,Rs.bo,b];rfl
def Jk(U:Ag)(O:Fm){f:Nat}{r:Rs D}(h:evD U as O=.ok Bc)(b:U f J=r):evD U (.call f as) O=r:=by rw[rR,h];exact b
def JiO{xs ys:Ak}(h:Ah+By<=1000):op2 .add Bb QaK=.ok (.tup (xs++ys)):=JvY _ _ (pH h)
def JsN(U:Ag)(O:Fm){es:Ak}(hi:O[i]? =So (So Bc))(b:evD U e O=.ok (.lst es))(f:Ae+es.length<=1000):
  exD U (.ext Fo i e) O=.ok (.nx,O.set i (So (.lst (J++es)))):=by rw[x_ext,hi];simp only[b,Rs.bo,yE,gC,iF,Zx (pH f),sD,Zl,ZF]
def JtW(U:Ag)(O:Fm){d:D}(hi:O[i]? =So (So Bc))(b:evD U e O=.ok d)(f:Ae<=1000):
  exD U (.app Fo i e) O=.ok (.nx,O.set i (So (.lst (J++[d])))):=by have:Ae<lD:=yH f AB;rw[x_app,hi];simp only[b,Rs.bo,gC,iF,Zx this,sD,Zl,ZF]
theorem Jky(x:Str):∀l:List Str,x∉l->(insS x l).length=XZ+1
 |[],_=>rfl
 |y::ys,h=>by
  simp only[Zf,not_or]at h
  unfold insS
  split
  ·next e=>exact absurd (by simpa using e) h.1
  ·split
   ·rfl
   ·simp[Jky x ys h.2]
def xD (l:Ac):Bool:=decide ((Jn l).length<XZ)
theorem JfT:∀l:List Str,l.Nodup->(Jn l).length=XZ
 |[],_=>rfl
 |x::xs,h=>by
  obtain⟨b,f⟩:=oB.mp h
  unfold Jn
  rw[Jky x _ (λz=>b ((Jy xs x).mp z)),JfT xs f]
  rfl
def wO{l:Ac}(h:l.Nodup):xD l=Fo:=by simp[xD,JfT l h]
def n25:((2:Nat)=5)=False:=eq_false AB
def n35:((3:Nat)=5)=False:=eq_false AB
theorem Jbh(c e:Fm->Rs D)(O:Fm)(f:α->D)(p:α->Bool)(g:α->D):∀b:List α,(∀r∈b,c EZ=.ok (.bl (p r))/\(p r=To->e EZ=.ok (g r)))->JZ 0 c e O (b.map f)=.ok ((b.filter p).map g)
 |[],_=>rfl
 |r::b,h=>by
  have l:=Jbh c e O f p g b λx m=>h x (by simp[m])
  have j:=h r Ad
  have:=lV 0 c e O (f r) (b.map f) (new:=[So (f r)]) rfl j.1 j.2 l
  rw[Zg,this]
  cases o:p r<;>simp[nF,o]
theorem Jcv(c e:Fm->Rs D)(O:Fm)(f1 f2:α->D)(p:α->Bool)(g:α->D):∀b:List α,(∀r∈b,c Kq=.ok (.bl (p r))/\(p r=To->e Kq=.ok (g r)))->JZ 2 c e O Qy=.ok ((b.filter p).map g)
 |[],_=>rfl
 |r::b,h=>by
  have j:=Jcv c e O f1 f2 p g b λx l=>h x (by simp[l])
  have f:=h r Ad
  have:=lV 2 c e O (.tup SK) Qy (new:=[So (f1 r),So (f2 r)]) rfl f.1 f.2 j
  rw[Zg,this]
  cases m:p r<;>simp[nF,m]
def kL(U:Ag)(O:Fm){rs:List α}(f:α->D)(p:α->Bool)(g:α->D)(hs:Mu)(b:F3<=1000)
  (h:∀r∈rs,evD U c EZ=.ok (.bl (p r))/\(p r=To->evD U e EZ=.ok (g r))):evD U Qaj O=.ok (.lst ('乊'.map g)):=by rw[vN,hs,Rs.bo,yE,Rs.bo,if_pos (by rw[Zi];exact pH b),Jbh _ _ O f p g rs h];rfl
def JqE(U:Ag)(O:Fm){rs:List α}(f1 f2:α->D)(p:α->Bool)(g:α->D)(hs:evD U src O=.ok U5)(b:F3<=1000)
  (h:∀r∈rs,evD U c Kq=.ok (.bl (p r))/\(p r=To->evD U e Kq=.ok (g r))):evD U (.comp 2 src c e) O=.ok (.lst ('乊'.map g)):=by rw[vN,hs,Rs.bo,yE,Rs.bo,if_pos (by rw[Zi];exact pH b),Jcv _ _ O f1 f2 p g rs h];rfl
def JbU(rs:List α):rs.filter 'ԣ'=rs:=by simp
def fD(U:Ag)(O:Fm){rs:List α}(f:α->D)(g:α->D)(hs:Mu)(j:F3<=1000)
  (h:∀r∈rs,evD U e EZ=.ok (g r)):evD U SU O=.ok R5:=by rw[kL U O f 'ԣ' g hs j λr b=>'Ϝ',JbU]
def Jgb(U:Ag)(O:Fm){rs:List α}(f1 f2:α->D)(g:α->D)(hs:evD U src O=.ok U5)(f:F3<=1000)
  (h:∀r∈rs,evD U e Kq=.ok (g r)):evD U (.comp 2 src BV e) O=.ok R5:=by rw[JqE U O f1 f2 'ԣ' g hs f λr b=>'Ϝ',JbU]
def hJ(d:D)(h:d.dep<=20):op2 .ne d d=.ok C4:=by rw[o_ne _ _ h h,fS d 'h'];rfl
def JiS(d:D)(h:d.dep<=20):op2 .eq d d=.ok CW:=by rw[o_eq _ _ h h,fS d 'h']
section
variable(U:Ag)(O:Fm)
def wF{d:D}(rest:Sx)(b:evD U e O=.ok d):exD U QH O=exD U rest E9:=by rw[yA,qR,b];rfl
def rY{a:Sx}{env2:Fm}(rest:Sx)(h:exD U a O=.ok GR):exD U QdT O=exD U rest env2:=by rw[yA,h];rfl
def n_if{b:Bool}(A B:Sx)(f:evD U c O=.ok Y0):exD U (.ite c A B) O=if b then exD U A O else exD U B O:=by rw[zM,f];cases b<;>rfl
def e_if{x y:Px}{b:Bool}(f:evD U c O=.ok Y0):evD U (.ite c x y) O=if b then evD U x O else evD U y O:=by rw[JxM,f];cases b<;>rfl
end
def mL(x y:Str):op2 .eq D5 Y5=.ok (.bl (x==y)):=by rw[o_eq _ _ (by simp[D.dep]) (by simp[D.dep])];rfl
def JqZ(n:Nat)(h:n<=1000):op1 .range (.int (n:Int))=.ok (.lst ((List.range' 0 n).map λk:Nat=>D.int k)):=by rw[JmE n h,JlK]
def runR (U:Ag) (bc:AI) (sl i:Nat) (b1 b2:Bs) (J:Ak) (a:Nat):Rs D:=
 match exO Fo U bc b1 (JD sl J)with
 |.ok .nx O=>if plE O then(match exO Fo U bc b2 (O.set i KQ)with
  |.ok (.rt d) _=>.ok d
  |.ex c _=>.ex c
  |_=>.sk)else .sk
 |.ex c _=>.ex c
 |_=>.sk
noncomputable def datD:D->Bool
 |.non=>To
 |.bl _=>To
 |.int _=>To
 |.str _=>To
 |.tup J=>dats J
 |_=>Fo
where dats:List D->Bool
 |[]=>To
 |d::J=>datD d&&dats J
def RunO(i:Nat)(R:Fm->Prop)(O:Fm):Prop:=plE O=To/\∀a,R (O.set i KQ)
def JoW{n:Nat}(h:n<=20000):n<=lD:=Zq h AB
def Jpi(U:Ag)(O:Fm){rs:List α}(f:α->D)(p:α->Bool)(g:α->D)(hs:Mu)(b:F3<=20000)
  (h:∀r∈rs,evD U c EZ=.ok (.bl (p r))/\(p r=To->evD U e EZ=.ok (g r))):evD U Qaj O=.ok (.lst ('乊'.map g)):=by rw[vN,hs,Rs.bo,yE,Rs.bo,if_pos (by rw[Zi];exact JoW b),Jbh _ _ O f p g rs h];rfl
def qO(U:Ag)(O:Fm){rs:List α}(f:α->D)(g:α->D)(hs:Mu)(j:F3<=20000)
  (h:∀r∈rs,evD U e EZ=.ok (g r)):evD U SU O=.ok R5:=by rw[Jpi U O f 'ԣ' g hs j λr b=>'Ϝ',JbU]
def Jww(U:Ag)(R:List D->Nat->Rs D)(io:Nat)(p:Px)(R':Fm->Prop)(O:Fm):Prop:=
 ∃T,evD U p O=.ok (.lst T)/\datD.dats T=To/\∀o,∃d,R T o=.ok d/\R' (O.set io Bd)
mutual
def sdD:D->Bool
 |.non=>To
 |.str _=>To
 |.int _=>To
 |.tup J=>sdDs J
 |_=>Fo
def sdDs:List D->Bool
 |[]=>To
 |d::J=>sdD d&&sdDs J
end
mutual
theorem Jrz:∀(a b:D),sdD a=To->sdD b=To->(a.eqv b=To↔a=b)
 |.non,b,_,hb=>by cases b<;>first|(simp[sdD]at hb;done)|simp[D.eqv]
 |.str x,b,_,hb=>by cases b<;>first|(simp[sdD]at hb;done)|simp[D.eqv]
 |.int i,b,_,hb=>by cases b<;>first|(simp[sdD]at hb;done)|simp[D.eqv]
 |.tup J,b,ha,hb=>by
  cases b with
  |tup f=>
   simp only[sdD]at ha hb
   simp only[D.eqv,Jmx J f ha hb,D.tup.injEq]
  |_=>first|(simp[sdD]at hb;done)|simp[D.eqv]
 |.bl _,_,ha,_=>by simp[sdD]at ha
 |.lst _,_,ha,_=>by simp[sdD]at ha
 |.dct _ _ _ _,_,ha,_=>by simp[sdD]at ha
 |.exc _,_,ha,_=>by simp[sdD]at ha
 |.fn _ _,_,ha,_=>by simp[sdD]at ha
 |.obj _ _ _,_,ha,_=>by simp[sdD]at ha
 |.mls _ _,_,ha,_=>by simp[sdD]at ha
 |.adr _,_,ha,_=>by simp[sdD]at ha
theorem Jmx:∀(a b:Ak),sdDs a=To->sdDs b=To->(eqvs a b=To↔a=b)
 |[],[],_,_=>by simp[eqvs]
 |[],_::_,_,_=>by simp[eqvs]
 |_::_,[],_,_=>by simp[eqvs]
 |x::a,y::b,ha,hb=>by
  simp only[sdDs,Zc]at ha hb
  simp only[eqvs,Zc,Jrz x y ha.1 hb.1,Jmx a b ha.2 hb.2,qB]
end
def Inj(g:α->D):Prop:=∀a b,(g a).eqv (g b)=To↔a=b
def Inj.of{g:α->D}(hs:∀a,sdD (g a)=To)(hi:∀a b,g a=g b->a=b):Inj g:=λa b=>(Jrz _ _ (hs a) (hs b)).trans ⟨hi a b,λe=>by rw[e]⟩
section
variable(g:α->D)
noncomputable def bump (k:α) (c:Int):List (α×Int)->List (α×Int)
 |[]=>[(k,c)]
 |(a,n)::r=>if(g a).eqv (g k)then(a,n+c)::r else(a,n)::bump k c r
noncomputable def ksOf (dd:List (α×Int)):List D:=dd.map λp=>g p.1
noncomputable def vsOf (dd:List (α×Int)):List D:=dd.map λp=>.int p.2
noncomputable def getN (k:α):List (α×Int)->Int
 |[]=>0
 |(a,n)::r=>if(g a).eqv (g k)then n else getN k r
noncomputable def wt (f:α->Int) (dd:List (α×Int)):Int:=(dd.map λp=>p.2*f p.1).sum
def Dst(dd:List (α×Int)):Prop:=(dd.map (·.1)).Nodup
variable{g}
theorem JfL(k:α):∀b:List (α×Int),(iA (g k) (ksOf g b) bL).getD bG=.int (getN g k b)
 |[]=>rfl
 |(a,n)::r=>by
  have f:=JfL k r
  simp only[ksOf,vsOf,Zg,iA,getN]at f⊢
  split
  ·rfl
  ·exact f
theorem JnT(l:bU)(f:α->Int)(k:α)(c:Int):∀j:List (α×Int),wt f (bump g k c j)=wt f j+c*f k
 |[]=>by simp[bump,wt]
 |(a,n)::r=>by
  have b:=JnT l f k c r
  simp only[bump]
  split
  ·rename_i h
   have:=(l _ _).mp h
   subst this
   simp only[wt,Zg,iB,Int.add_mul]
   lia
  ·simp only[wt,Zg,iB]at b⊢
   rw[b];lia
theorem JkO(k:α)(c:Int):∀b:List (α×Int),(bump g k c b).length<=YU+1
 |[]=>by simp[bump]
 |(a,n)::r=>by
  have f:=JkO k c r
  simp only[bump]
  split
  ·simp
  ·simp only[Zk];lia
theorem JfF(k:α)(c:Int):∀(dd:List (α×Int))(p:α×Int),p∈bump g k c dd->p.1=k\/∃q∈dd,q.1=p.1
 |[],p,h=>by simp[bump]at h;exact .inl (by rw[h])
 |(a,n)::r,p,h=>by
  simp only[bump]at h
  split at h
  ·rcases Zf.mp h with rfl|h
   ·exact .inr ⟨_,fC,rfl⟩
   ·exact .inr ⟨p,Zm _ h,rfl⟩
  ·rcases Zf.mp h with rfl|h
   ·exact .inr ⟨_,fC,rfl⟩
   ·rcases JfF k c r p h with h|⟨q,b,f⟩
    ·exact .inl h
    ·exact .inr ⟨q,Zm _ b,f⟩
theorem Jjw(j:bU)(k:α)(c:Int):∀b:List (α×Int),Dst b->Dst (bump g k c b)
 |[],_=>by simp[bump,Dst]
 |(a,n)::r,h=>by
  have f:a∉r.map (·.1)/\Dst r:=by simpa[Dst]using h
  have l:=Jjw j k c r f.2
  simp only[bump]
  split
  ·exact h
  ·rename_i s
   simp only[Dst,Zg,oB]
   refine⟨λu=>?_,l⟩
   obtain⟨p,m,e⟩:=Zv.mp u
   rcases JfF k c r p m with h|⟨q,o,v⟩
   ·exact s ((j _ _).mpr (e.symm.trans h))
   ·exact f.1 (Zv.mpr ⟨q,o,v.trans e⟩)
theorem Jsm(m:bU)[DecidableEq α](k:α):∀j:List (α×Int),Dst j->getN g k j=wt (λa=>if a=k then 1 else 0) j
 |[],_=>rfl
 |(a,n)::r,h=>by
  have o:a∉r.map (·.1)/\Dst r:=by simpa[Dst]using h
  have b:=Jsm m k r o.2
  simp only[getN,wt,Zg,iB]at b⊢
  split
  ·rename_i e
   have:=(m _ _).mp e
   subst this
   have z:(r.map λp=>p.2*(if p.1=a then(1:Int)else 0)).sum=0:=by
    have:∀l:List (α×Int),a∉l.map (·.1)->(l.map λp=>p.2*(if p.1=a then(1:Int)else 0)).sum=0:=λl=>by
     induction l with
     |nil=>intro;rfl
     |cons x l b=>intro f;simp only[Zg,Zf,not_or]at f;simp[Zg,iB,Ne.symm f.1,b f.2]
    exact this r o.1
   simp[z]
  ·rename_i e
   have:a≠k:=λz=>e ((m _ _).mpr z);simp[this,b]
def Jqe(s:bU)(k:α)(c:Int)(dd:List (α×Int))(h:Dst dd):putD (g k) (.int (getN g k dd+c)) XA IZ=(ksOf g Ho,vsOf Ho):=by
 have A:∀dd:List (α×Int),('Ǌ'.any λd=>d.eqv (g k))=Fo->bump g k c dd=dd++[(k,c)]/\getN g k dd=0/\∀v,setD (g k) v XA IZ=vsOf dd:=λdd=>by
  induction dd with
  |nil=>intro;exact⟨rfl,rfl,λv=>rfl⟩
  |cons p r l=>obtain⟨a,n⟩:=p;intro h;simp only[ksOf,Zg,rD,ZN]at h;obtain⟨f,j,b⟩:=l h.2;simp only[ksOf,vsOf]at b;exact⟨by simp[bump,h.1,f],by simp[getN,h.1,j],λv=>by simp only[ksOf,vsOf,Zg,setD,h.1,b,Zl,ZF]⟩
 have B:∀dd:List (α×Int),Dst dd->('Ǌ'.any λd=>d.eqv (g k))=To->ksOf g Ho=ksOf g dd/\setD (g k) (.int (getN g k dd+c)) XA IZ=vsOf Ho:=λdd=>by
  induction dd with
  |nil=>intro _ h;simp[ksOf]at h
  |cons p r l=>
   obtain⟨a,n⟩:=p;intro C h;have o:a∉r.map (·.1)/\Dst r:=by simpa[Dst]using C
   by_cases e:(g a).eqv (g k)=To
   ·have:=(s _ _).mp e;subst this;have u:((ksOf g r).any λd=>d.eqv (g a))=Fo:=by rw[List.any_eq_false];intro x E H;obtain⟨q,G,rfl⟩:=Zv.mp E;exact o.1 (Zv.mpr ⟨q,G,(s _ _).mp H⟩)
    have b:=(A r u).2.2;simp only[ksOf,vsOf]at b;simp only[bump,getN,e,if_true,ksOf,vsOf,Zg,setD,b,and_self]
   ·have m:(g a).eqv (g k)=Fo:=by simpa using e
    simp only[ksOf,Zg,rD,m,iF]at h;obtain⟨f,j⟩:=l o.2 h;simp only[ksOf,vsOf]at f j;simp only[bump,getN,m,Zl,ZF,ksOf,vsOf,Zg,setD,f,j,and_self]
 unfold putD;cases q:'Ǌ'.any λd=>d.eqv (g k)with
 |true=>obtain⟨z,y⟩:=B dd h q;rw[if_pos rfl,z,y]
 |false=>obtain⟨w,F,_⟩:=A dd q;rw[if_neg ZH,w,F];simp[ksOf,vsOf]
def jC  (g:α->D) (b:β->α) (c:β->Int) (xs:List β) (dd:List (α×Int)):List (α×Int):=xs.foldl (λdd x=>bump g (b x) (c x) dd) dd
theorem Jfx(j:bU)(b:β->α)(c:β->Int)(f:α->Int):∀(xs:List β)(dd:List (α×Int)),wt f 'ә'=wt f dd+(xs.map λx=>c x*f (b x)).sum
 |[],dd=>by simp[jC]
 |x::xs,dd=>by
  have h:=Jfx j b c f xs Qg
  simp only[jC,jG,Zg,iB]at h⊢
  rw[h,JnT j];lia
theorem vO(f:bU)(b:β->α)(c:β->Int):∀(xs:List β)(dd:List (α×Int)),Dst dd->Dst 'ә'
 |[],dd,h=>h
 |x::xs,dd,h=>vO f b c xs _ (Jjw f _ _ _ h)
theorem eV(b:β->α)(c:β->Int):∀(xs:List β)(dd:List (α×Int)),'ә'.length<=dd.length+Ah
 |[],dd=>by simp[jC]
 |x::xs,dd=>by
  have f:=eV b c xs Qg
  have:=JkO (g:=g) (b x) (c x) dd
  simp only[jC,jG,Zk]at f⊢
  lia
theorem JhJ(b:β->α)(c:β->Int)(P:α->Prop):∀(xs:List β)(dd:List (α×Int)),(∀p∈dd,P p.1)->(∀x∈xs,P (b x))->∀p∈jC g b c xs dd,P p.1
 |[],dd,h,_=>h
 |x::xs,dd,h,hx=>JhJ b c P xs _ (λp f=>by
   rcases JfF _ _ dd p f with e|⟨q,j,l⟩
   ·rw[e];exact hx x fC
   ·rw[<-l];exact h q j) λy m=>hx y (Zm _ m)
end
def JmK(U:Ag)(O:Fm){g:α->D}(s:bU){t:Bool}{b vp:Px}{k:α}{c:Int}{dd:List (α×Int)}(hi:O[i]? =So (So (.dct t Fo XA IZ)))(j:evD U b O=.ok (g k))(m:evD U vp O=.ok (.int c))(q:Dst dd)(o:dd.length<1000)(h:keyD t (g k)=To):
  exD U (.put To t i b Ob) O=.ok (.nx,O.set i (So (.dct t Fo (ksOf g Ho) (vsOf Ho)))):=by
 have l:evD U WA O=.ok (.int (getN g k dd)):=by refine Jh _ _ (x:=.dct t Fo XA IZ) (y:=g k) (by rw[yD,hi]) j ?_;simp only[op2,onD,h,and_self,if_true,JfL]
 have r:evD U Ob O=.ok (.int (getN g k dd+c)):=Jh _ _ l m rfl;rw[Jyo,hi];have f:'Ǌ'.length<1000:=by simpa[ksOf]using o
 simp only[r,j,Rs.bo,h,D.imm,ZE,f,decide_true,sD,lM,rH,Bool.or_self,Zl,ZF,Jqe s k c dd q]
noncomputable def ev (ws:Ac):Nat->List Kg
 |0=>[[]]
 |n+1=>(ev ws n).flatMap λa=>ws.map λw=>a++[w]
def Jkg(U:Ag)(l:Sx)(u:Au)(s:Nat)(f:α->D)(xs:List α)(F:List α->Fm->Prop)
  (h:∀j x g O,xs=j++x::g->F j O->∃m,gA s (f x)=.ok m/\∃b,exD U l (zA u m O)=.ok (.nx,b)/\F (j++[x]) b) (O:Fm) (C:F [] O):∃b,forL u s (exD U l) (xs.map f) O=.ok (.nx,b)/\F xs b:=by
 have z:∀(g j:List α)(O:Fm),xs=j++g->F j O->∃b,forL u s (exD U l) (g.map f) O=.ok (.nx,b)/\F xs b:=λg=>by
  induction g with
  |nil=>intro j O e r;rw[pE]at e;subst e;exact⟨O,rfl,r⟩
  |cons x g v=>intro j O e r;obtain⟨m,y,q,A,E⟩:=h j x g O e r;obtain⟨o,w,B⟩:=v (j++[x]) q (by simp[e]) E;exact⟨o,by simp only[Zg,forL,y,Rs.bo,A,w],B⟩
 exact z xs [] O rfl C
theorem JiK{n k:Nat}{b f:Au}(e:List.range n=b++k::f):k=YU/\k<n:=by
 have g:(List.range n)[b.length]? =So k:=by rw[e];simp
 rw[Zz]at g;obtain⟨j,h⟩:=g;rw[List.getElem_range]at h;rw[xH]at j;exact⟨h.symm,by lia⟩
def Jfg(U:Ag)(f:Sx)(i:Nat)(e:Px)(n:Nat)(F:Nat->Fm->Prop)(O:Fm)(q:evD U e O=.ok A3)(s:n<=1000)
  (h:∀k O,k<n->F k O->∃b,exD U f (O.set i FO)=.ok (.nx,b)/\F AZ b) (r:F 0 O):∃b,exD U (.loop Fo [i] 0 (.un .range e) f) O=.ok (.nx,b)/\F n b:=by
 obtain⟨b,j,l⟩:=Jkg U f [i] 0 (λk:Nat=>D.int k) 'ϕ' (λg O=>F Ya O) (λg k m O e o=>by
  obtain⟨rfl,u⟩:=JiK e;obtain⟨b,j,l⟩:=h _ O u o;exact⟨_,rfl,b,j,by rw[Zn];exact l⟩) O r
 refine⟨b,?_,by simpa using l⟩;rw[iL,e_un,q,Rs.bo,JqZ n s];simp only[Rs.bo,yE,gC,Zl,ZF];rw[uV]at j;exact j
def vU(U:Ag)(g:Sx)(q:Au)(o:Nat)(src:Px)(f:α->D)(xs:List α)(F:List α->Fm->Prop)(O:Fm)(hs:evD U src O=.ok (.lst (xs.map f)))
  (h:∀j x m O,xs=j++x::m->F j O->∃l,gA o (f x)=.ok l/\∃b,exD U g (zA q l O)=.ok (.nx,b)/\F (j++[x]) b) (u:F [] O):∃b,exD U (.loop Fo q o src g) O=.ok (.nx,b)/\F xs b:=by obtain⟨b,r,s⟩:=Jkg U g q o f xs F h O u;refine⟨b,?_,s⟩;rw[iL,hs];simp only[Rs.bo,yE,gC,Zl,ZF];exact r
theorem JdT(g:α->D):∀b:List (α×Int),zipD (ksOf g b) bL=b.map λp=>.tup [g p.1,.int p.2]
 |[]=>rfl
 |p::b=>by
  have:=JdT g b
  simp only[ksOf,vsOf]at this
  simp[ksOf,vsOf,zipD,this]
end Pu
namespace Rd
open PySem PySem.Spec PyProof.Rows L2 Pu
section
variable{X:Cx}{U:Ag}{p:Px}{pos:Pos}
theorem JsL{z:Str}{k:Nat}{vs:CF}(h:PJV X U vs p):PJV X U (.Constant Y8 k pos::vs) (.cons (.con Y8) p):=by
 intro Y s Z H O i Q J y I r e q m w;simp only[evD,Rs.bo]at e;cases g:evD U p O with
 |ex c=>rw[g]at e;cases e
 |sk=>rw[g]at e;cases e
 |ok v=>
  rw[g]at e;cases v with
  |lst A=>
   simp only[Pu.D.asL,Rs.bo]at e;cases e;obtain⟨a,b,f,x,rfl⟩:=Jfi q;simp only[yK]at f;split at f
   ·cases f;rw[JU]at m;refine Calls.Constant_str ⟨z,_,rfl,?_,?_⟩
    ·rw[JU];show _<=16777216;lia
    ·exact h Y _ Z H O (i++z) Q A b C9 r g x (by rw[JU];lia) λl u o j=>by rw[JhD];exact w l u o j
   ·cases f
  |_=>cases e
end
section
variable{X:Cx}{G:Gw}{N:Ac}{nm:Bj}{M:Au}{H0:Hp}{U:Ag}{i j:Nat}{x y:Str}{px py pos:Pos}
def addE{b:Type}{a:Str}{f:Pu.D->Rs b}:(op2 .add M0 (.str a)).bind f=if a.length<=lD then f (.str a)else .sk:=by
 show(if 0+a.length<=lD then Rs.ok (D.str (Yp++a))else .sk).bind f=_;rw[iM];have e:Str.empty++a=a:=by cases a with|mk c=>show Str.mk (#[]++c)=_;simp
 rw[e];split<;>rfl
theorem aAugK{v:Expr}{P:Px}{ps:Pos}(C:Am)(h:Dl)(m:(chkV N nm j y&&!M.contains j)=To)(hv:PE X v (tI X U P))(h2:sepP M P=To)
  (ha:∀A E g,augStore KS A E g=(do holding [g,A,E] (setItem A E g);release [g,A,E] [];pure .next)):
  PS X (.AugAssign (.Subscript Dp KS ps) .Add v pos) (tS X U M H0 (.put Fo Fo i (.var j) (.bi .add (.bi .add (.con M0) (.bi Ei B2 (.var j))) P))):=by
 obtain⟨g1,g2,g3,W,g5⟩:=chkO.at h;obtain⟨d1,d2⟩:=plainN.d g3;simp only[chkV,Zc,ZI,ZV,sJ,oE]at m;obtain⟨⟨⟨k1,k2⟩,k3⟩,k4⟩:=m;obtain⟨d3,d4⟩:=plainN.d k3;have hu:=C.un;refine PS.weak (Jup Af (rA (by rw[C.hN];exact g1) Mc d1 d2) (rA (by rw[C.hN];exact k1) (C.vis y k2) d3 d4) (jO hv) Jis ha) λD Z H I=>?_;obtain⟨O,e,h⟩:=I;simp only[exD]at h;cases q:O[i]? with
 |none=>rw[q]at h;exact h.elim
 |some o=>
  rw[q]at h;cases o with
  |none=>exact h.elim
  |some d=>
   cases d with
   |dct t z ks s=>
    cases z with
    |true=>exact h.elim
    |false=>
     simp only[evD,q]at h;obtain⟨l,u,h0,hz,xs,hl,hr⟩:=e.own i _ W q;cases L:O[j]? with
     |none=>rw[L]at h;exact h.elim
     |some oj=>
      rw[L]at h;cases oj with
      |none=>exact h.elim
      |some dk=>
       simp only[Rs.bo,Rs.bind_assoc]at h;rw[show op2 'Ć' (.dct t Fo ks s) dk=if t=Fo/\keyD t dk=To then Rs.ofOpt (iA dk ks s)else .sk from rfl]at h;split at h
       ·rename_i m;obtain⟨rfl,m⟩:=m;obtain⟨k,rfl⟩:=pL m;obtain⟨vj,w,rj⟩:=e.read j _ k4 L;have hy:=fJ rj;subst hy;obtain⟨kvs,w1,rfl,rfl⟩:=hl;have lk:=look_of mE (k:=k) hr;cases Y:iA EE (kvs.map λp=>keyV p.1) s with
        |none=>rw[Y]at h;exact h.elim
        |some d=>
         rw[Y]at h lk;obtain⟨v,ev,rv⟩:=lk;simp only[Rs.ofOpt,Rs.bo]at h;cases d with
         |str a=>
          rw[addE]at h;split at h;rotate_left
          ·exact h.elim
          refine⟨.ref l,u,_,w,l,v,rfl,.inl ⟨kvs,k,.inl w1,rfl,ev.symm⟩,lC M 0 O,Ow M O Z,e.ows,aZ,?_⟩;rw[qH U O h2];refine(Rs.gB.mp h).mono (λdv f v2 r B kk1 r1=>?_) λc z=>z.mono Z3;cases dv with
          |str b=>
           obtain rfl:v=.str a:=rv;obtain rfl:v2=.str b:=r1;rw[show op2 .add (.str a) (.str b)=if a.length+b.length<=lD then .ok (.str (a++b))else .sk from rfl]at f;split at f
           ·rename_i J;simp only[Rs.bo]at f;split at f
            ·exact f.elim
            ·rename_i hc;have hc:AV<1000:=by simpa[m]using hc
             have w2:r l=So AN:=B _ _ w1;refine⟨a,b,rfl,rfl,gJ J,_,DPut.k (k:=k) w2 (by show _<16777216;lia),?_⟩;have e1:=e.grow B;have f2:Same Dc (hid CB r):=(Fz.sm B).hid;obtain⟨p1,p2⟩:=tK (K:=X.K) (H:=hid CB r) mE (k:=k) (v:=V.str (a++b)) (d:=.str (a++b)) rfl KY;have F:∀ob,OwnIs X.K (hid CB r) (upd r l ob) l (.dct Fo Fo (putD EE (.str (a++b)) (kvs.map λp=>keyV p.1) s).1 (putD EE (.str (a++b)) (kvs.map λp=>keyV p.1) s).2)->D.nx Z (upd r l ob):=λob nw=>by obtain⟨e3,f4⟩:=e1.change (o:=ob) W q u nw;exact f _ _ e3 ⟨(Fz.sm B).trans f4,λz=>by cases z⟩
             refine F _ ?_;exact Lw
           ·exact f.elim
          |_=>exact f.elim
         |_=>exact h.elim
       ·exact h.elim
   |_=>exact h.elim
end
end Rd
namespace Rd
open PySem PySem.Spec PyProof.Rows L2 Pu PySem.W
variable{N:Ac}{X:Cx}{G:Gw}{nm:Bj}{H H0 H1:Hp}{x:Str}{pos px pos' p1 p2:Pos}{bc:AI}{p:Px}{P:Ba}{w:AQ}{K:Aj}{mg:Bk}{base:Heap}{e:Expr}{es:CF}
def tIt (X:Cx) (U:Ag) (p:Px):TI:=λZ H R=>∃O,ReadOk X.K H Z O/\(evD U p O).Good (λf=>∃t ks a,f=.dct t To ks a/\∀d o b W,Same H W->DKo W d t o ks b->Reps X.K W a b->R QbM W) Az
section
variable{U:Ag}{a:Expr}{pa:Px}{ap tp:Pos}{elts:CF}{kk:Nat}
def JpO(C:AO)(y:Wd)(hl:'в' ((Qbm==XT)=To) Ai):
  PI X Na PY (tIt X U pa):=by
 rintro Y s Z H R I⟨O,r,h⟩;refine fM y rfl hl oM eG eI (thn (C Y s Z H (λv W=>∃(t:Bool)(ks:GD)(d:Addr)(o:Obj)(f:Av),v=.ref d/\DKo W d t o ks f/\R QbM W) I Dd) λu s1 zz=>?_)
 ·refine h.imp λdd hd v W s1 L=>?_;obtain⟨t,ks,vs,rfl,m⟩:=hd;obtain⟨d,f,rfl,E,q2⟩:=L;obtain⟨o,l⟩:=DKo.of E;exact⟨t,ks,d,o,f,rfl,l,m d o f W s1 l q2⟩
 obtain⟨v,H1,j,ru,t,ks,d,o,f,F,l,m⟩:=zz;subst F;cases(show u=Value.ref d from ru);obtain⟨i,B,gd,J,es,z,A,g2,g3⟩:=uT j l;refine⟨⟨o,i,B⟩,λb e=>by cases e;exact⟨o,i,gd⟩,?_⟩;refine lI rfl (PySem.evalArgs_none ?_);refine Jka i B J ?_;refine Jkx CP (Zd _ i) A ?_;have M:∀b ob,s1.heap.get? b=So ob->((s1.heap.push {cls:=.type "dict_items",data:=.fields #[.ref d]}).push {cls:=.type "dict_itemiterator",data:=.fields #[.none,.bool Fo,.ref d,.int 0 0,.int XG 0,.int z 0,.none,.none]}).get? b=So ob:=λb ob q=>Zd _ Qc2;refine⟨_,[_],_,_,H1,rfl,j.kept (t':=Yg) M,JjX t d _ o es z A,Qt,λb y=>?_,m⟩;have g:Ax<=b:=by
  have e:b=(s1.heap.push {cls:=.type "dict_items",data:=.fields #[.ref d]}).objs.size:=by simpa using y
  rw[e,ZL];exact mC _
 exact j.fpOk g (j.hok.fresh g)
end
section
variable{w:Bool}{U:Ag}
def JoS{a:Bs}{I:Au}{A:Nat}{D:Ends}{Z:Bl}{O:Fm}{J:GD}{y:It}(e:EnvOk X.K [] H0 H1 Z O)(s1:Qbg)(hmu:mutB a=Fo)
  (wk:∀W,SameP H1 W->(∀i,i<Ae->y.go i W)/\y.stop Ae W/\∀i x u,i<Ae->y.yld i W x u->Same W u/\∃d,J[i]? =So d/\Rep X.K u d x)
  (h:(forB I A Rk J O).Good T8 KP):
  ∃W9:Nat->Nat->L2.St->Hp->Prop,(∃m,W9 0 m Z H1)/\∀i m Z H,W9 i m Z H->(y.stop i H/\D.nx Z H)\/(y.go i H/\∃Nn:L2.St->Hp->Prop,(∀j W,Nn j W->∃B,B<m/\W9 Bw B j W)/\
   ∀x W,y.yld i H x W->gS X [] H0 I A x Z W λl o=>tSB X w U bc [] H0 a {D with nx:=Nn,ct:=Nn,bk:=D.nx} l o):=by
 have ch:∀{W:Hp},SameP H W->ChB (mutB a) [] H [] W:=ChB.sp;have un:∀{L L':A9}{Ha Hb:Hp},ChB (mutB a) L Ha L' Hb->SameP Ha Hb:=λz=>z.2 hmu;refine⟨λi m j W=>∃b,EnvOk X.K [] H0 W j b/\SameP H1 W/\i<=Ae/\m=Ae-i/\(forB I A Rk (J.drop i) b).Good T8 KP,
  ⟨Ae,O,e,SameP.refl,vB _,rfl,by simpa using h⟩,?_⟩
 intro i m j W zz;obtain⟨b,e',c',hi,rfl,s⟩:=zz;obtain⟨w1,w2,w3⟩:=wk _ c';by_cases g:i<Ae
 ·refine .inr ⟨w1 i g,λl o=>∃B,B<Ae-i/\∃b,EnvOk X.K [] H0 o l b/\SameP H1 o/\i+1<=Ae/\B=Ae- Bw/\(forB I A Rk Lb b).Good T8 KP,λl o q=>q,λx o hy=>?_⟩;obtain⟨s2,d,hd,rd⟩:=w3 i x o g hy;rw[JdJ hd]at s;simp only[forB]at s;cases Y:gA A d with
  |sk=>rw[Y]at s;exact s.elim
  |ex c=>exact(Jgi Y).elim
  |ok C=>
   rw[Y]at s;have c2:=c'.trans (SameP.of s2);refine⟨b,d,C,e'.grow s2,by show Rep X.K (hid [] o) _ _;rw[JE];exact rd,Y,λσ3 e3 ow3=>⟨zA I C b,e3,(Rq.gB.mp s).imp (λf r M=>?_) λ_ _ z=>z⟩⟩;cases f with
   |nx=>exactλv H4 E F=>WY
   |ct=>exactλv H4 E F=>WY
   |bk=>exactλv H4 E F=>M v H4 E (ch (s1.trans (c2.trans (un F))))
   |rt d=>exact M
 ·obtain rfl:i=Ae:=Nat.le_antisymm hi (Nat.le_of_not_lt g);rw[List.drop_length]at s;exact .inl ⟨w2,s j W e' (ch (s1.trans c'))⟩
theorem JeL:∀{ks vs:GD},AC=AJ->Jb '亝'=To->Jb vs=To
 |[],[],_,_=>rfl
 |k::ks,v::vs,hl,h=>by
  simp only[zipD,Jb,Jj,Zc]at h⊢
  exact⟨h.1.2.1,JeL R4 h.2⟩
def DKo.sp{W:Hp}{d:Addr}{t:Bool}{o:Obj}{ks:GD}{xs:Av}(s:C7)(h:Hw):DKo W d t o ks xs:=by cases t<;>obtain⟨a,q,b,f⟩:=h<;>exact⟨a,s _ _ q rfl,b,f⟩
variable{tg a:Expr}{body:BF}{sb:Bs}{ts:Au}{nt kk:Nat}{ap tp cp:Pos}{elts:CF}
def JtJ(C:Am)(r:TX)(q:PE X a Gj)(I:PG X Na (gS X [] H0 ts nt))(F:PSs X body (tSB X w U bc [] H0 sb))(f:mutB sb=Fo)
  (b:Wd) (hl:'в' ((Qbm==cp.line)=To) Ai)
  (hs:∀x,foldedSetIterable Pl Ue x=pure x:=by intro _;rfl):PS X (.For Na Pl body [] pos) (tSB X w U bc [] H0 (.loop ts nt (.un .items p) sb)):=by
 refine PS.weak (Jss r Yq (JpO q b hl) I F hs) λD Z H B=>?_;obtain⟨O,e,h⟩:=B;refine Lo;simp only[exO,evD]at h;cases z:evD U p O with
 |sk=>rw[z]at h;exact h.elim
 |ex c=>rw[z]at h;exactλC W v s=>h C W Z v Ub
 |ok d=>
  rw[z]at h;cases d with
  |dct t y ks g=>
   cases y with
   |false=>exact h.elim
   |true=>
    simp only[Rs.bo,op1]at h;split at h
    ·rename_i m;simp only[Zc]at m;refine⟨t,ks,g,rfl,λd o J H1 j l i=>?_⟩;refine JoS (e.grow j) (SameP.of j) f (λW sp=>?_) h;have u:=l.len;have A:=Yn;have E:Jb g=To:=JeL (ks:=ks) (by rw[u,A]) m.1;exact Jkm (l.sp sp) (Reps.plain sp g E i) W (Same.refl W)
    ·exact h.elim
  |_=>exact h.elim
end
def tRd(X:Cx)(U:Ag)(bc:AI)(H0:Hp)(i:Nat)(b1 b2:Bs):L2.TS:=λD Z H=>∃O,EnvOk X.K [] H0 H Z O/\(exO Fo U bc b1 O).Good (λf b=>f=.nx/\plE b=To/\
 ∀a,(exO Fo U bc b2 (b.set i KQ)).Good (λf _=>∃d,f=.rt d/\∀v W,Same H0 W->Rep X.K W d v->D.rt v W) KP) KP
section
variable{U:Ag}{i:Nat}{p:Pos}{s1:Stmt}{rest:BF}{b1 b2:Bs}
def JvP(C:Am)(h0:A4)(B:MakeS G)(hc:chkA N nm [] i x=To)(hg:gloB nm Lz=To)(h1:PS X s1 (tSB X Fo U bc [] H0 b1))(g:PSs X rest (tSB X Fo U bc [] H0 b2))
  (hs:'в' (swapsWith Mm Ft Qdz Ue=pure Fo) Ai):
  PSs X (s1::.Assign Hr Mm pos'::rest) (tRd X U bc H0 i b1 b2):=by
 obtain⟨j,f,fd,ps,mk,F,L,A,hC,hb⟩:=B.ex;have hG:=C.g;subst hG;obtain⟨g1,J,g3⟩:=chkA.at hc;obtain⟨M,l2⟩:=C.sto x J;refine PSs.weak (JN h1 (JN (iD CU (by rw[C.hN];exact g1) M (Jko mk F L ER A hb .nil (sI (X:=X)) Ab) hs l2) g)) λD Z H zz=>?_;obtain⟨O,e,h⟩:=zz;refine⟨O,e,h.imp (λf l q=>?_) λ_ _ z=>z⟩;obtain⟨rfl,u,g⟩:=q;intro σ1 H1 s _ z b I a hne;refine⟨z,b,j,rfl,Je,hC,λW _ sp _ r=>L4⟩;have s1:Same H1 (upd (upd H1 b (.own z)) z (.ins j b [])):=λc o q=>by rw[Jc (Ji q I),Jc (Ji q a)];exact q
 have e2:=s.sp Ad u h0 ((SameP.of s1).trans (sp.sp Je));refine⟨_,e2.put Ad (by show Rep X.K Kd _ _;rw[JE];exact r),(g z).imp (λf m q=>?_) λ_ _ z=>z⟩;obtain⟨d,rfl,hd⟩:=q;exactλv E y Y _=>hd v E y Y
end
def spR(K:Aj)(mg:Bk)(R:DL):Sp:=λb H Q E=>PlO H/\∃J,Reps K H J b/\∀a,(R J a).Good (λd=>∀v W,Same H W->Rep K W d v->Q v W) (λc=>∀C W,mg c=So BL->Same H W->E BL No W)
section
variable{defs:Cg}{bdefs:EH}{k:Nat}
def fn_rd{j i:Nat}{qual:Str}{st:Stmt}{f:Addr}{fd:BG}{ps:Ac}{b1 b2:Bs}(F:E0)(S:Lh)(W:Ao=1)(Z:Ao<=XM)
  (l:∀(X:Cx)(A:Bv)(H0:Hp),Ctx X AM N 'Ɯ'.names->Room j A->HX X 'Ɯ'.names->PlO H0->PSs X Ew (tRd X CC Dr H0 i b1 b2)):
  FnOk P w K mg base A0 (j+1) f fd ps (λvs H Q E=>AJ=1/\spR K mg (runR CC Dr XM i b1 b2) vs H Q E):=by
 obtain⟨oc,od,kV,Y,pm,an,cdv,ct,osl,rfl,lk,I⟩:=F.ex;refine jK lk I S (λvs H Q E h=>by rw[h.1,W]) (λA L s H vs Q E O h=>?_);obtain⟨hl,h0,J,r,g⟩:=h;have ld:=XR;refine⟨_,l _ _ H (Jhl S O) O Lv h0,JD XM J,xU (d:=OP) rfl Af (λi hi=>by simp at hi) r,?_⟩;unfold runR at g;cases q:exO Fo CC Dr b1 (JD XM J)with
 |sk=>rw[q]at g;exact(g 0).elim
 |ex c o=>rw[q]at g;exactλC z u v y a' s' B=>mO B (g 0 C z v y.same)
 |ok fl b=>
  rw[q]at g;cases fl with
  |nx=>
   by_cases m:plE b=To
   ·simp only[m,if_true]at g;refine⟨rfl,m,λa=>?_⟩;have g:=g a;cases M:exO Fo CC Dr b2 (b.set i KQ)with
    |sk=>rw[M]at g;exact g.elim
    |ex c o=>rw[M]at g;exactλC z u v y a' s' B=>mO B (g C z v y.same)
    |ok fl U=>
     rw[M]at g;cases fl with
     |rt d=>exact⟨d,rfl,g⟩
     |_=>exact g.elim
   ·simp only[m]at g;exact(g 0).elim
  |_=>exact(g 0).elim
end
noncomputable def tpO (H:Hp):Hp:=λa=>match H a with
 |some (.tup xs)=>So Bb
 |_=>No
noncomputable def bigT (H H1:Hp):Hp:=λa=>match H a with
 |some (.tup _)=>H1 a
 |some o=>So o
 |none=>H1 a
section
variable{W:Hp}{a:Addr}{o:HO}
def JmU(h:tpO H a=So o):∃xs,o=.tup xs/\H a=So Bb:=by
 unfold tpO at h;split at h
 ·rename_i xs e;cases h;exact⟨xs,rfl,e⟩
 ·cases h
def fX{xs:Av}(h:H a=So Bb):tpO H a=So Bb:=by unfold tpO;rw[h]
def kO(h:∀xs,H a≠So Bb):tpO H a=No:=by
 unfold tpO;split
 ·rename_i xs e;exact absurd e (h xs)
 ·rfl
def JvN:PlO Fn:=λa o h=>by obtain⟨b,rfl,_⟩:=JmU h;rfl
def qN(H H1:Hp)(a:Addr):(bigT H H1 a=H1 a/\(H a=No\/∃xs,H a=So Bb))\/∃o,H a=So o/\bigT H H1 a=So o/\∀xs,o≠.tup xs:=by
 cases q:H a with
 |none=>exact .inl ⟨by unfold bigT;rw[q],.inl rfl⟩
 |some o=>
  cases o with
  |tup xs=>exact .inl ⟨by unfold bigT;rw[q],.inr ⟨xs,rfl⟩⟩
  |_=>exact .inr ⟨_,rfl,by unfold bigT;rw[q],λ_ z=>by cases z⟩
end
def JvJ{h:Heap}{a:Addr}{o:HO}(x:M6):∃ob,h.get? a=So ob:=by
 cases o with
 |lst g=>obtain⟨_,_,_,_,e⟩:=x;exact⟨_,e⟩
 |lsm _ g=>obtain⟨_,_,_,_,e⟩:=x;exact⟨_,e⟩
 |tup g=>obtain⟨_,_,_,ob,e,_⟩:=x;exact⟨_,e⟩
 |dK b=>obtain⟨_,_,_,_,o,_,_,e,_⟩:=x;exact⟨_,e⟩
 |dT b=>obtain⟨_,_,_,_,o,_,_,e,_⟩:=x;exact⟨_,e⟩
 |set S n=>obtain⟨o,_,_,_,e,_⟩:=x;exact⟨_,e⟩
 |ins C m fs=>obtain⟨_,_,_,e,_⟩:=x;exact⟨_,e⟩
 |own y=>exact x
 |xd fs=>obtain⟨_,⟨_,_,_,e,_⟩,_⟩:=x;exact⟨_,e⟩
 |rng q i=>obtain⟨_,_,_,e⟩:=x;exact⟨_,e⟩
 |frz ob u=>obtain⟨e,_⟩:=x;exact⟨_,e⟩
 |tbl l=>obtain⟨_,_,_,_,e,_⟩:=x;exact⟨_,e⟩
 |met f y=>exact⟨_,x⟩
 |ext j=>obtain⟨_,e,_⟩:=x;exact e
section
variable{A:Bv}{outer:Bq}{s s':Al}
def Juw(e:UB):Env0 P w K mg base A outer s Fn:=
 ⟨e.frames,e.mod,λb o q=>⟨(e.bs b o q).1,kO λf z=>(by rw[(e.bs b o q).2]at z;cases z)⟩,e.bsz,e.funs,λb h=>kO λf z=>(by rw[e.frf b h]at z;cases z),λa o q=>by
  obtain⟨f,rfl,g⟩:=JmU q
  exact e.hok a _ g,e.bare⟩
def JrC(e:UB)(un:Un (frs outer) [] Fn H1 VU Yf)(l:HOk P w H1 Yf):Un (frs outer) [] H LW VU Yf/\HOk P w LW Yf/\Same H1 (bigT H H1)/\Same H (bigT H H1)/\∀b o,H1 b=So o->plK o=Fo->H b=No:=by
 have f:∀b u,H b=So u->(∀a,u≠.tup a)->∃ob,s.heap.get? b=So ob/\s'.heap.get? b=So ob/\H1 b=No/\bigT H H1 b=So u:=λb u z n=>by
  obtain⟨ob,g⟩:=JvJ (e.hok b u z);have C:b∉frs outer:=λL=>by rw[e.frf b L]at z;cases z
  have B:tpO H b=No:=kO λa w=>by rw[z]at w;cases w;exact n a rfl
  refine⟨ob,g,un.keep b ob g B C Ad,un.free b ob g B Ad,?_⟩;rcases qN H H1 b with⟨_,q|⟨a,q⟩⟩|⟨o,q,h,_⟩
  ·rw[z]at q;cases q
  ·rw[z]at q;cases q;exact absurd rfl (n a)
  ·rw[z]at q;cases q;exact h
 have i:Same H1 LW:=λb u z=>by
  rcases qN H H1 b with⟨q,_⟩|⟨o,q,_,n⟩
  ·rw[q];exact z
  ·obtain⟨_,_,_,h,_⟩:=f b o q n;rw[z]at h;cases h
 have sm:Same H LW:=λb u z=>by
  rcases qN H H1 b with⟨q,c|⟨a,c⟩⟩|⟨o,q,h,n⟩
  ·rw[z]at c;cases c
  ·rw[z]at c;cases c;rw[q];exact un.tups b a (fX z)
  ·rw[z]at q;cases q;exact h
 have j:∀b,H b=No->tpO H b=No/\bigT H H1 b=H1 b:=λb z=>⟨kO λa w=>(by rw[z]at w;cases w),by unfold bigT;rw[z]⟩;have I:∀b o,H1 b=So o->plK o=Fo->H b=No:=λb o z J=>by
  cases q:H b with
  |none=>rfl
  |some u=>
   by_cases n:∀a,u≠.tup a
   ·obtain⟨_,_,_,h,_⟩:=f b u q n;rw[z]at h;cases h
   ·have⟨a,e⟩:∃a,u=.tup a:=Classical.byContradiction λk=>n λa e=>k ⟨a,e⟩;subst e;rw[un.tups b a (fX q)]at z;cases z;cases J
 refine⟨⟨λb o z n=>un.keep b o z (j b n).1,λb o z n=>un.slot b o z (j b n).1,λb o z n x=>by rw[(j b n).2];exact un.free b o z (j b n).1 x,un.there,λb a z=>sm _ _ z,λb o u z=>sm _ _ z,λb M z=>⟨#[],by rw[sm _ _ z];simp⟩⟩,λb u z=>?_,i,sm,I⟩;rcases qN H H1 b with⟨q,_⟩|⟨o,q,h,n⟩
 ·rw[q]at z;exact(l b u z).stay (λ_ _ _ t=>t) (λc t=>i _ _ t) (λc a t=>i _ _ t) λc E F t=>i _ _ t
 ·rw[h]at z;obtain rfl:o=u:=wD z;refine(e.hok b o q).stay (λc v y t=>?_) (λc t=>sm _ _ t) (λc a t=>sm _ _ t) λc E F t=>sm _ _ t;rcases y with rfl|y
  ·obtain⟨ob,r,m,_⟩:=f c o q n;rw[r]at t;cases t;exact m
  ·obtain⟨ob,r,m,_⟩:=f c _ y (λ_ z=>by cases z);rw[r]at t;cases t;exact m
end
mutual
theorem Rep.tp{K:Aj}{H:Hp}:∀(d:Pu.D){v:V},datD d=To->Rep K H d v->Rep K Fn d v
 |.non,_,_,h=>h
 |.bl _,_,_,h=>h
 |.int _,_,_,h=>h
 |.str _,_,_,h=>h
 |.tup J,_,n,⟨a,xs,e1,h1,h2⟩=>⟨a,xs,e1,h1.imp (λz=>fX z) id,Reps.tp J (by simpa[datD]using n) h2⟩
 |.lst J,_,n,_=>by cases n
 |.dct t z ks vs,_,n,_=>by cases n
 |.exc c,_,n,_=>by cases n
 |.fn x _,_,n,_=>by cases n
 |.obj a ns fs,_,n,_=>by cases n
 |.mls t J,_,n,_=>by cases n
 |.adr b,_,n,_=>by cases n
theorem Reps.tp{K:Aj}{H:Hp}:∀(J:GD){xs:Av},datD.dats J=To->Reps K H J xs->Reps K Fn J xs
 |[],_,_,h=>h
 |d::J,_,n,⟨x,r,e1,h1,h2⟩=>by
  simp only[datD.dats,Zc]at n
  exact⟨x,r,e1,Rep.tp d n.1 h1,Reps.tp J n.2 h2⟩
end
def NewO(K:Aj)(H W:Hp)(d:Pu.D):Prop:=∀a ks b J es,d=.obj a nsS (fsS ks b J es)->Jb b=To->Jb J=To->Jb es=To->∃L,Prt K W a d L/\∀l∈L,H l=No
def spQ(K:Aj)(mg:Bk)(R:DL):Sp:=λb H Q E=>∃J,datD.dats J=To/\Reps K H J b/\∀a,(R J a).Good (λd=>∀v W,Same H W->Rep K W d v->NewO K H W d->Q v W) (λc=>∀C W,mg c=So BL->Same H W->E BL No W)
def fn_tp{j:Nat}{f:Addr}{fd:BG}{ps:Ac}{R:DL}(h1:∀J a,Ae≠1->R J a=.sk)(F:FnOk P w K mg base A0 j f fd ps (λvs H Q E=>AJ=1/\spR K mg R vs H Q E)):FnOk P w K mg base A0 j f fd ps (spQ K mg R):=by
 have len:∀{vs:Av}{H:Hp}{Q:VK}{E:XK},spQ K mg R vs H Q E->AJ=1:=fun{vs H Q E}h=>by
  obtain⟨J,_,r,g⟩:=h;have g:=g 0;have:=XR;by_cases q:Ae=1
  ·rw[this,q]
  ·rw[h1 J 0 q]at g;exact g.elim
 have sub:∀{vs:Av}{H:Hp}{Q:VK}{E:XK},spQ K mg R vs H Q E->(AJ=1/\spR K mg R vs Fn (λv W=>(∃h,HOk P w W h)->(∀b o,W b=So o->plK o=Fo->H b=No)->Same W (bigT H W)->Same H (bigT H W)->Q v (bigT H W)) (λC a W=>Same W (bigT H W)->Same H (bigT H W)->E C a (bigT H W))):=fun{vs H Q E}h=>by refine⟨len h,JvN,?_⟩;obtain⟨J,hd,r,g⟩:=h;refine⟨J,Reps.tp J hd r,λa=>(g a).mono (λd hd v W _ Z hk nw I sm=>hd v _ sm (Z.mono I) λb ks vs J es e pv pd pe=>?_) λc hc C W hm _ I sm=>hc C _ hm sm⟩;obtain⟨h,hk⟩:=hk;subst e;obtain rfl:v=.ref b:=Z.1;obtain⟨L,p⟩:=JxR Z hk pv pd pe;exact⟨L,p.mono (p.keep I) (SameP.of I),λl hl=>by obtain⟨o,ho⟩:=p.at hl;exact nw l o ho (p.npl l hl o ho)⟩
 refine⟨λvs H Q E h=>F.len vs _ _ _ (sub h),λA O s H Y us vs Q E hr U hb hv hs=>mG (F.run A O s Fn Y us vs _ _ hr (Juw U) hb hv (sub hs)) λr s' z=>?_⟩;cases r with
 |error x=>
  obtain⟨a,C,W,B,a0,e1,os,m,un,y,fl,t1,t2,q⟩:=z;obtain⟨M,i,I,sm,_⟩:=JrC U un y;refine⟨a,C,bigT H W,B,a0,e1,os,m,M,i,fl,λb u hb=>?_,λb o ho hf=>⟨λhn=>(t2 b o ho hf).1 (kO λxs w=>(by rw[hn]at w;cases w)),(t2 b o ho hf).2⟩,q I sm⟩;rcases qN H W b with⟨q,_⟩|⟨o,q,h,n⟩
  ·rw[q]at hb;exact t1 b u hb
  ·obtain⟨ob,g⟩:=JvJ (U.hok b o q);exact(t2 b ob g λhf=>by rw[U.frf b hf]at q;cases q).2
 |ok fl=>
  cases fl with
  |ret u=>obtain⟨v,W,os,m,un,y,Z,q⟩:=z;obtain⟨M,i,I,sm,nw⟩:=JrC U un y;exact⟨v,bigT H W,os,m,M,i,Z,q ⟨_,y⟩ nw I sm⟩
  |_=>exact z.elim
inductive CalleeQe(G:Gw)(R:DL)(x:Str):Prop where
 |mk (kk:Nat) (f:Addr) (fd:FuncData) (ps:List Str) (h:FnOk G.prog G.w G.K G.mg G.base (CXr G.prog G.w) kk f fd ps (spQ G.K G.mg R)/\Room kk G.A.in1.in1/\G.mg x=So (.ref f)/\PySem.W.keepIn G.K (.ref f)=To/\Binds G.K fd ps []):CalleeQe G R x
structure CalleeQ(G:Gw)(R:DL)(x:Str):Prop where
 ex:CalleeQe G R x
def tQ(X:Cx)(U:Ag)(R:DL)(p:Px):TE:=λZ H Q=>∃O,ReadOk X.K H Z O/\(evD U p O).Good (λb=>∃J,b=.lst J/\datD.dats J=To/\∀a,(R J a).Good (λd=>∀v W,Same H W->Rep X.K W d v->NewO X.K H W d->Q v W) Az) Az
section
variable{U:Ag}{p3:Pos}{y:Str}{R:DL}
def NewO.of{W:Hp}{d:Pu.D}(n:NewO K H1 W d)(s:IV):NewO K H W d:=λa ks g J es q b j i=>by
 obtain⟨L,p,f⟩:=n a ks g J es q b j i
 refine⟨L,p,λl h=>?_⟩
 cases z:H l with
 |none=>rfl
 |some o=>have w:=f l h;rw[s l o z]at w;cases w
def pe_rd(C:Am)(q:CalleeQ G R x)(hg:gloB nm x=To)(b:Q8)(A:Ef)(he:CG)
  (hpl:'в' ('ķ'.any (·.1)=Fo) Ai):PE X Ti (tQ X U R p):=by
 obtain⟨kk,f,fd,ps,F,l,E,hk,hb⟩:=q.ex;have l:=Room.out l;have hG:=C.g;subst hG;have B:Jcf RQ X (λu _ W=>∀C,u=.ref C->XE X C W):=λY Z H s e s' I q=>by obtain⟨a,C,W,rfl,F,hE⟩:=Jgd I q;exact hE C rfl a s' F
 refine PE.weak (Jos F l (C.glo x hg) E hk hb .nil B A b he hpl) λZ H Q zz=>?_;obtain⟨O,r,h⟩:=zz;refine⟨O,r,h.imp λd hd=>?_⟩;obtain⟨J,rfl,m,hR⟩:=hd;refine⟨J,rfl,λL W s rs=>?_⟩;show spQ X.K X.mg R (L++[]) W Q _;rw[pE];exact⟨J,m,rs,λa=>(hR a).mono (λd o v i g rv M=>o v i bY rv (M.of s)) λc z C i j g C' e=>by cases e;exact z C i j bY⟩
end
section
variable{U:Ag}{y:Str}{io:Nat}{b:Bs}{rest:BF}{R:DL}{R':Fm->Prop}
def Jya(C:Am)(J:CalleeQ G R y)(h:gloB nm y=To)(g:(y==("__debug__":Str))=Fo)(l:Ef)(I:chkA N nm [] io x=To)(a:Qc)
  (hs:'в' (swapsWith UT Ft Qdz Ue=pure Fo) Ai) (he:CG) (hpl:'в' ((backTo p2 LI).any (·.1)=Fo) Ai):
  PSs X (.Assign Hr UT pos'::rest) (tLaw X H0 (Jww U R io p R')):=by obtain⟨E,L,M⟩:=chkA.at I;obtain⟨q,z⟩:=C.sto x L;refine PSs.weak (JN (iD CU (by rw[C.hN];exact E) q (pe_rd C J h g l he hpl) hs z) a) λD Z H F=>?_;obtain⟨O,j,⟨T,m,u,f⟩,A⟩:=F;refine⟨O,j.readOk,?_⟩;rw[m];refine⟨T,rfl,u,λo=>?_⟩;obtain⟨d,B,i⟩:=f o;rw[B];intro v W s r _;exact⟨_,(j.grow s).put Ad (by show Rep X.K Kd _ _;rw[JE];exact r),i,A⟩
def Jtl(h:Qc):PSs X rest (tLaw X H0 λO=>R' (O.set io No)):=PSs.weak h λD Z H i=>by
 obtain⟨O,a,g,f⟩:=i
 refine⟨O.set io No,env0 a.same (by rw[mB];exact a.len) λj d h=>?_,g,f⟩
 rcases JQ h with⟨_,w,_⟩|⟨_,h⟩
 ·cases w
 ·exact a.readOk j d h
def JsR(h:PSs X rest (tSB X Fo U bc [] H0 b)):PSs X rest (tLaw X H0 λO=>∃a,exO Fo U bc b O=.ok Qc4 a):=PSs.weak h λD Z H l=>by
 obtain⟨O,j,⟨a,i⟩,g⟩:=l
 refine⟨O,j,?_⟩
 rw[i]
 exactλv f o m _=>by cases m;exact g f
end
section
variable{U:Ag}{i:Nat}{p:Pos}{rest:BF}{sx:Sx}
def JtQ{R:Fm->Prop}(C:Am)(M:A4)(hc:chkA N nm [] i x=To)(m:MakeS G)(hg:gloB nm Lz=To)(a:PR)
  (hs:'в' (swapsWith Mm Ft Qdz Ue=pure Fo) Ai):
  PSs X (.Assign Hr Mm pos'::rest) (tLaw X H0 (RunO i R)):=by
 obtain⟨h,f,fd,ps,mk,F,v,l,E,hb⟩:=m.ex;have hG:=C.g;subst hG;obtain⟨Y,u,g3⟩:=chkA.at hc;obtain⟨y,I⟩:=C.sto x u;refine PSs.weak (JN (iD CU (by rw[C.hN];exact Y) y (Jko mk F v ER l hb .nil (sI (X:=X)) Ab) hs I) a) λD Z H zz=>?_;obtain⟨O,e,⟨j,J⟩,L⟩:=zz;intro z g s b B;refine⟨z,g,h,rfl,Je,E,λW _ sp _ r=>L4⟩;have A:Same H (upd (upd H g (.own z)) z (.ins h g [])):=λc o q=>by rw[Jc (Ji q s),Jc (Ji q b)];exact q
 have e2:=e.sp Ad j M ((SameP.of A).trans (sp.sp Je));exact⟨_,e2.put Ad (by show Rep X.K Kd _ _;rw[JE];exact r),J z,L⟩
end
end Rd
namespace K75
open PySem Pu
variable{a i N:Nat}{e O:Fm}{dn un fs' ks vs:Ak}{ns:AU}{c:Px}{α:Type}{ns' ad:Ac}{ls:DF}
noncomputable def Jdf:Sx:=(.seq (.ite V1 BY .skip)
  (.ret (.and (.and (.bi .le DU Dg) Oa) (.un .all (.comp 0 Di BV (.bi .isin Ap BK))))))
noncomputable def JhW:Sx:=(.ret (.call 0 (.cons Ap (.cons (.con QaL) R3))))
noncomputable def JhM:Sx:=(.ret (.call 0 (.cons Ap (.cons (.con QaM) (.cons Fc .nil)))))
noncomputable def JaU:Sx:=(.ret (.and (.un .isTup Ap) (.and (.bi .le A1 Dg) Oa)))
noncomputable def JbV:Sx:=(.ret (.un .all (.comp 0 Di BV (.call 1 DY))))
noncomputable def JbP:Sx:=(.ret (.bi .lt (.un .lset Ap) Dg))
noncomputable def JW:Sx:=(.seq (.ite VQ BY .skip)
  (.ret (.un .all (.comp 2 OD BV (.bi .lt Ap A1)))))
noncomputable def uO:Sx:=(.seq (.ite (.un .not (.un .truth (.call 3 (.cons Ap UD)))) BY .skip)
  (.seq (.ite M7 (.ret (.and (.bi .eq Dg Uw) (.and (.call 2 FA) (.call 6 (.cons M8 .nil))))) .skip)
  (.seq (.ite (.bi .ne Dg Fj) BY .skip)
  (.seq (.ite QbN (.ret (.call 1 FA)) .skip)
  (.ret (.and (.bi .isin DV (.con Tr)) (.call 2 FA)))))))
noncomputable def Jel:Sx:=(.ret (.bi .ne DV XO))
noncomputable def Jbt:Sx:=(.ret (.comp 0 Di (.un .truth (.call 8 DY)) HU))
noncomputable def Jbp:Sx:=(.seq (.ite (.or (.un .not (.un .truth (.call 3 (.cons Ap (.cons Er (.cons (.con Qc5) .nil)))))) (.un .not (.un .truth Wm))) BY .skip)
  (.seq (.ite (.un .truth WO) BY .skip)
  (.ret (.un .not (.call 5 (.cons (.call 9 DY) .nil))))))
noncomputable def Jfw:Sx:=(.ret (.and (.call 3 (.cons Ap (.cons Fj (.cons Fj .nil)))) (.and (.call 2 (.cons DV .nil)) (.call 10 FA))))
noncomputable def JcM:Sx:=(.seq (.ite (.or (.un .not (.un .truth (.call 3 (.cons Ap (.cons Er R3))))) (.un .not (.un .truth Wo))) BY .skip)
  (.ret (.un .not (.call 5 (.cons Uh .nil)))))
noncomputable def JcC:Sx:=(.ret (.and N9 (.bi .eq (.bi .idx UK Er) Ln)))
noncomputable def Jbq:Sx:=(.seq (.ite (.or N8 (.un .not (.un .truth (.un .all (.comp 0 Di BV (.bi .isin Ap (.con QaN))))))) BY .skip)
  (.ret (.or (.bi .eq Ap Lx) (.un .not (.bi .strt Ap Lx)))))
noncomputable def JdY:Sx:=(.seq (.ite QbN (.ret (.bi .eq A1 HU)) .skip)
  (.seq (.ite M7 (.ret (.bi .isin A1 M8)) .skip)
  (.seq (.ite (.bi .eq DV QaO) (.ret (.call 14 DQ)) .skip)
  (.ret BV))))
noncomputable def JK:Sx:=(.seq (.ite (.un .truth (.call 13 DY)) (.ret (.bi .ge A1 (.bi .sub Dg DU))) .skip)
  (.ret (.bi .eq A1 Dg)))
noncomputable def Jbe:Sx:=(.seq (.ite (.un .not (.un .truth (.call 16 (.cons Ap (.cons (.un .len A1) .nil))))) BY .skip)
  (.ret (.un .all (.comp 2 (.bi .zip Ap A1) BV RB))))
noncomputable def JcW:Sx:=(.ret (.comp 0 Di (.un .truth (.call 17 QdU)) DV))
noncomputable def lT:Sx:=(.seq (.set Fo 2 (.call 18 Uc))
  (.ret (.ite (.bi .gt (.un .len BK) Er) (.bi .idx BK Er) Ek)))
noncomputable def JdQ:Sx:=(.seq (.set Fo 2 (.un .tuple (.comp 0 Hn BV (.tup Wl))))
  (.seq (.ite (.un .not (.un .truth WE)) Sf .skip)
  (.ret BK)))
noncomputable def Jga:Sx:=(.seq (.set Fo 2 (.bi .add Ap A1))
  (.seq (.ite UJ Sf .skip)
  (.seq (.ite (.un .truth (.call 5 (.cons UI .nil))) Sf .skip)
  (.ret BK))))
noncomputable def JbS:Sx:=(.ret (.and N9 (.call 15 (.cons DV DQ))))
noncomputable def JL:Sx:=(.ret (.ite (.bi .eq N7 Ln) Ap T3))
noncomputable def JiH:Sx:=(.ret (.un .tuple (.comp 0 Di (.un .truth (.call 22 QdU)) (.tup (.cons DV (.cons (.call 23 FA) .nil))))))
noncomputable def Jah:Sx:=(.seq (.loop Fo [2] 0 Hn Um)
  (.ret (.call 19 (.cons Ap (.cons (.tup .nil) .nil)))))
noncomputable def JaL:Sx:=(.seq (.loop Fo [1,2] 2 VC WN)
  (.seq (.ite M7 (.ret (.bi .add OC (.bi .joinS (.con (.str (oS "|"))) M8))) .skip)
  (.ret HU)))
noncomputable def JaI:Sx:=(.ret (.bi .add Kk (.bi .joinS Kk Ap)))
noncomputable def Jep:Sx:=(.ret (.call 27 (.cons (.comp 0 Di BV (.call 26 DY)) .nil)))
noncomputable def Jab:Sx:=(.seq (.ite (.un .not (.un .truth (.bi .strt Ap Kk))) E7 .skip)
  (.ret (.ite (.bi .eq Ap Kk) KF (.bi .splitS T3 Kk))))
noncomputable def JbY:Sx:=(.seq (.loop Fo [1,2] 2 VC VP)
  (.seq (.ite O0 (.seq Ve
  (.ret (.tup (.cons LM (.cons N6 (.cons (.un .tuple (.bi .splitS N5 (.con (.str (oS "|"))))) .nil)))))) .skip)
  bB))
noncomputable def uX:Sx:=(.seq (.set Fo 1 (.un .tuple (.comp 0 (.walk (.call 29 DY)) BV (.call 30 DY))))
  (.seq (.ite (.un .not (.un .truth (.call 10 DQ))) E7 .skip)
  Gv))
noncomputable def JaV:Sx:=(.ret (.bi .add (.bi .add (.bi .add DV PV) (.call 28 FA)) QaP))
noncomputable def Jas:Sx:=(.ret (.bi .joinS MG (.comp 0 Di BV (.call 32 DY))))
noncomputable def JcX:Sx:=(.seq (.ite N8 (.ret KF) .skip)
  (.seq (.ite (.un .not (.un .truth (.bi .ends Ap QaP))) E7 .skip)
  (.ret (.bi .splitS TZ QaP))))
noncomputable def JcV:Sx:=(.seq (.set Fo 1 (.bi .partS Ap PV))
  (.ret (.tup (.cons (.bi .idx A1 Er) (.cons (.call 31 (.cons (.bi .idx A1 Fj) .nil)) .nil)))))
noncomputable def Jbs:Sx:=(.seq (.set Fo 1 (.un .tuple (.comp 0 Nq BV (.call 35 DY))))
  (.seq (.ite (.un .not (.un .truth (.call 12 DQ))) E7 .skip)
  Gv))
noncomputable def JbW:Sx:=(.ret (.bi .joinS MG (.comp 0 Sl BV (.bi .add (.un .join (.cons WG (.cons Ap (.cons (.con (.str (oS "]\n"))) .nil)))) (.call 33 (.cons (.call 49 (.cons (.un DS A1) DY)) .nil))))))
noncomputable def Jaa:Sx:=(.seq (.ownD Fo 1)
  (.seq Qcj
  (.seq (.loop Fo [3] 0 Nq (.ite Vd (.seq Qck
  Qf) VR))
  (.retF 1))))
noncomputable def JhP:Sx:=(.seq (.set Fo 1 (.sl Ap Gi We))
  (.seq (.ite Uk E7 .skip)
  Gv))
noncomputable def JaA:Sx:=(.seq (.set Fo 3 Xc)
  (.seq (.loop Fo [4] 0 QbO (.seq (.ownD To 5)
  (.seq (.loop Fo [6,7] 2 RM (.loop Fo [8] 0 Hn (.seq WT
  Xa)))
  (.movF 3 5))))
  QaQ))
noncomputable def Jeb:Sx:=(.seq (.ownD Fo 3)
  (.seq (.loop Fo [4,5] 2 WD (.seq Qcl
  W5))
  (.ret (.comp 0 (.walk VI) BV (.tup (.cons Ap (.cons (.bi (.dGz Fo) CY Ap) .nil)))))))
noncomputable def jV:Sx:=(.seq (.ite (.bi .lt A1 Dg) (.ret (.bi .idx Ap A1)) .skip)
  (.seq (.ite (.bi .eq Ap KF) (.ret Er) .skip)
  (.ret (.bi .add (.bi .mul (.bi .idx Ap (.bi .mod A1 Dg)) (.con QaR)) A1))))
noncomputable def JcS:Sx:=(.seq (.set Fo 3 (.bi .mod (.bi .mul (.bi .add (.call 42 Uc) (.bi .mul (.con (.int 6151)) (.bi .add A1 DU))) (.con (.int 40692))) (.con Qak)))
  (.ret (.bi .mod (.bi .mod (.bi .add (.bi .mul CZ CZ) (.bi .fdiv CZ (.con QaR))) (.con Qal)) BK)))
noncomputable def iV:Sx:=(.seq (.set Fo 3 (.dis (.cons Tf (.cons PU (.cons SJ (.cons Lx .nil))))))
  (.seq (.set Fo 4 (.call 43 (.cons Ap (.cons A1 R3))))
  (.seq (.ite (.bi .lt CY Fc) (.ret (.tup (.cons XO (.cons (.bi .idx CZ W4) .nil)))) .skip)
  (.seq (.ite (.bi .eq CY Fc) (.seq (.set Fo 5 VX)
  (.ret (.tup (.cons LM (.cons BK (.cons (.un .tuple (.un .sset CA)) .nil)))))) .skip)
  (.ret (.tup (.cons (.bi .idx (.dis (.cons (.con Gg) (.cons QaO (.cons (.con Gg) .nil)))) (.bi .sub CY RA)) Eh)))))))
noncomputable def qV:Sx:=(.seq (.set Fo 3 (.dis (.cons (.con (.str (oS "y"))) (.cons (.con (.str (oS "id"))) (.cons (.con (.str (oS "z"))) (.cons (.con (.str (oS "x"))) .nil))))))
  (.seq (.own 4 VY)
  (.seq (.ite (.bi .eq W4 Er) (.app Fo 4 (.tup (.cons Ln (.cons (.con (.str (oS "r"))) .nil)))) .skip)
  (.ret (.un .tuple CY)))))
noncomputable def JbR:Sx:=(.seq (.set Fo 4 (.dis (.cons (.con (.str (oS "t"))) (.cons (.con (.str (oS "p"))) (.cons (.con (.str (oS "v"))) (.cons (.con (.str (oS "q"))) (.cons (.con (.str (oS "u"))) (.cons (.con (.str (oS "s"))) .nil))))))))
  (.seq (.set Fo 5 (.call 43 (.cons Ap (.cons A1 (.cons (.bi .add CZ DU) .nil)))))
  (.ret (.un .tuple (.comp 0 (.un .range CA) BV 'Ҝ')))))
noncomputable def JaF:Sx:=(.ret (.bi .idx (.dis (.cons Tf (.cons PU (.cons SJ (.cons Lx (.cons (.con (.str (oS "new"))) (.cons (.con (.str (oS "zz"))) (.cons (.con (.str (oS "55"))) (.cons (.con (.str (oS "01"))) (.cons (.con (.str (oS "-"))) .nil)))))))))) (.call 43 (.cons Ap (.cons A1 Wf)))))
noncomputable def JcI:Sx:=(.seq (.own 3 KF)
  (.seq (.loop Fo [4,5] 2 Qcm (.seq RK
  YR))
  Qe))
noncomputable def sV:Sx:=(.seq (.ite (.or Uk (.bi (.dNi Fo) A1 Eg)) N4 .skip)
  (.ret (.bi Ei Eg A1)))
noncomputable def pS:Sx:=(.seq (.set Fo 2 (.comp 0 Sl BV (.tup VM)))
  (.ret (.comp 0 (.walk BK) Qcn Ap)))
noncomputable def iU:Sx:=(.ret (.un .sortD Eg))
noncomputable def JgH:Sx:=(.ret (.tup (.cons (.un .len (.un (.fld KC) Ap)) (.cons (.un .len (.un (.fld K4) Ap)) .nil))))
def defs:List DefD:=[⟨3,3,Jdf⟩,⟨1,1,JhW⟩,⟨1,1,JhM⟩,⟨3,3,JaU⟩,⟨1,1,JbV⟩,⟨1,1,JbP⟩,⟨1,1,JW⟩,⟨1,1,uO⟩,⟨1,1,Jel⟩,⟨1,1,Jbt⟩,⟨1,1,Jbp⟩,⟨1,1,Jfw⟩,⟨1,1,JcM⟩,⟨1,1,JcC⟩,⟨1,1,Jbq⟩,⟨2,2,JdY⟩,⟨2,2,JK⟩,⟨2,2,Jbe⟩,⟨2,2,JcW⟩,⟨3,2,lT⟩,⟨3,2,JdQ⟩,⟨3,2,Jga⟩,⟨2,2,JbS⟩,⟨1,1,JL⟩,⟨2,2,JiH⟩,⟨3,2,Jah⟩,⟨3,1,JaL⟩,⟨1,1,JaI⟩,⟨1,1,Jep⟩,⟨1,1,Jab⟩,⟨4,1,JbY⟩,⟨2,1,uX⟩,⟨1,1,JaV⟩,⟨1,1,Jas⟩,⟨1,1,JcX⟩,⟨2,1,JcV⟩,⟨2,1,Jbs⟩,⟨1,1,JbW⟩,⟨4,1,Jaa⟩,⟨2,1,JhP⟩,⟨10,3,JaA⟩,⟨7,3,Jeb⟩,⟨2,2,jV⟩,⟨4,3,JcS⟩,⟨6,3,iV⟩,⟨5,3,qV⟩,⟨6,4,JbR⟩,⟨2,2,JaF⟩,⟨7,3,JcI⟩,⟨2,2,sV⟩,⟨3,2,pS⟩,⟨1,1,iU⟩,⟨1,1,JgH⟩]
def JrG(U:Nat)(g f b:D):runD defs AW 0 C5=Jf (exD AX Jdf QcK):=rfl
def Jwa(U:Nat)(b:D):runD defs AW 1 [b]=Jf (exD AX JhW [So b]):=rfl
def JvL(U:Nat)(b:D):runD defs AW 2 [b]=Jf (exD AX JhM [So b]):=rfl
def Jfr(U:Nat)(g f b:D):runD defs AW 3 C5=Jf (exD AX JaU QcK):=rfl
def Jjk(U:Nat)(b:D):runD defs AW 4 [b]=Jf (exD AX JbV [So b]):=rfl
def JiP(U:Nat)(b:D):runD defs AW 5 [b]=Jf (exD AX JbP [So b]):=rfl
def Jcu(U:Nat)(b:D):runD defs AW 6 [b]=Jf (exD AX JW [So b]):=rfl
def JdW(U:Nat)(b:D):runD defs AW 7 [b]=Jf (exD AX uO [So b]):=rfl
def Jnq(U:Nat)(b:D):runD defs AW 8 [b]=Jf (exD AX Jel [So b]):=rfl
def JhO(U:Nat)(b:D):runD defs AW 9 [b]=Jf (exD AX Jbt [So b]):=rfl
def JgM(U:Nat)(b:D):runD defs AW 10 [b]=Jf (exD AX Jbp [So b]):=rfl
def Jpk(U:Nat)(b:D):runD defs AW 11 [b]=Jf (exD AX Jfw [So b]):=rfl
def Jlk(U:Nat)(b:D):runD defs AW 12 [b]=Jf (exD AX JcM [So b]):=rfl
def JkS(U:Nat)(b:D):runD defs AW 13 [b]=Jf (exD AX JcC [So b]):=rfl
def JnZ(U:Nat)(b:D):runD defs AW 14 [b]=Jf (exD AX Jbq [So b]):=rfl
def JnD(U:Nat)(f b:D):runD defs AW 15 [f,b]=Jf (exD AX JdY EN):=rfl
def JbG(U:Nat)(f b:D):runD defs AW 16 [f,b]=Jf (exD AX JK EN):=rfl
def Jhu(U:Nat)(f b:D):runD defs AW 17 [f,b]=Jf (exD AX Jbe EN):=rfl
def JkQ(U:Nat)(f b:D):runD defs AW 18 [f,b]=Jf (exD AX JcW EN):=rfl
def Joj(U:Nat)(f b:D):runD defs AW 19 [f,b]=Jf (exD AX lT MH):=rfl
def Jow(U:Nat)(f b:D):runD defs AW 20 [f,b]=Jf (exD AX JdQ MH):=rfl
def JpC(U:Nat)(f b:D):runD defs AW 21 [f,b]=Jf (exD AX Jga MH):=rfl
def JiB(U:Nat)(f b:D):runD defs AW 22 [f,b]=Jf (exD AX JbS EN):=rfl
def JbH(U:Nat)(b:D):runD defs AW 23 [b]=Jf (exD AX JL [So b]):=rfl
def Jvm(U:Nat)(f b:D):runD defs AW 24 [f,b]=Jf (exD AX JiH EN):=rfl
def Jdk(U:Nat)(f b:D):runD defs AW 25 [f,b]=Jf (exD AX Jah MH):=rfl
def JeE(U:Nat)(b:D):runD defs AW 26 [b]=Jf (exD AX JaL [So b,No,No]):=rfl
def JeD(U:Nat)(b:D):runD defs AW 27 [b]=Jf (exD AX JaI [So b]):=rfl
def JoC(U:Nat)(b:D):runD defs AW 28 [b]=Jf (exD AX Jep [So b]):=rfl
def JcF(U:Nat)(b:D):runD defs AW 29 [b]=Jf (exD AX Jab [So b]):=rfl
def JiN(U:Nat)(b:D):runD defs AW 30 [b]=Jf (exD AX JbY Qea):=rfl
def JwY(U:Nat)(b:D):runD defs AW 31 [b]=Jf (exD AX uX aW):=rfl
def JfG(U:Nat)(b:D):runD defs AW 32 [b]=Jf (exD AX JaV [So b]):=rfl
def Jea(U:Nat)(b:D):runD defs AW 33 [b]=Jf (exD AX Jas [So b]):=rfl
def Jlw(U:Nat)(b:D):runD defs AW 34 [b]=Jf (exD AX JcX [So b]):=rfl
def JlA(U:Nat)(b:D):runD defs AW 35 [b]=Jf (exD AX JcV aW):=rfl
def JhG(U:Nat)(b:D):runD defs AW 36 [b]=Jf (exD AX Jbs aW):=rfl
def JiI(U:Nat)(b:D):runD defs AW 37 [b]=Jf (exD AX JbW [So b]):=rfl
def JcK(U:Nat)(b:D):runD defs AW 38 [b]=Jf (exD AX Jaa Qea):=rfl
def JvR(U:Nat)(b:D):runD defs AW 39 [b]=Jf (exD AX JhP aW):=rfl
def JdL(U:Nat)(g f b:D):runD defs AW 40 C5=Jf (exD AX JaA [So g,So f,So b,No,No,No,No,No,No,No]):=rfl
def Jna(U:Nat)(g f b:D):runD defs AW 41 C5=Jf (exD AX Jeb QS):=rfl
def JeQ(U:Nat)(f b:D):runD defs AW 42 [f,b]=Jf (exD AX jV EN):=rfl
def JkZ(U:Nat)(g f b:D):runD defs AW 43 C5=Jf (exD AX JcS [So g,So f,So b,No]):=rfl
def Jly(U:Nat)(g f b:D):runD defs AW 44 C5=Jf (exD AX iV [So g,So f,So b,No,No,No]):=rfl
def Jco(U:Nat)(g f b:D):runD defs AW 45 C5=Jf (exD AX qV [So g,So f,So b,No,No]):=rfl
def Jiy(U:Nat)(h g f b:D):runD defs AW 46 [h,g,f,b]=Jf (exD AX JbR [So h,So g,So f,So b,No,No]):=rfl
def JeA(U:Nat)(f b:D):runD defs AW 47 [f,b]=Jf (exD AX JaF EN):=rfl
def Jlf(U:Nat)(g f b:D):runD defs AW 48 C5=Jf (exD AX JcI QS):=rfl
noncomputable def tV:Bs:=(.ite (.pur (.un .isN BK)) (.popK HQ A1) (.putK HQ A1 BK))
def nV:Bs:=(.seq (.appF KC VO)
  (.seq (.newL K4)
  (.eff (.call To 0 0 nsS (.cons BK HE)))))
def wR:Bs:=(.seq (.ite (.pur Uk) N4 IG)
  (.seq (.set 3 (.pur (.bi QaI A1 Eg)))
  (.seq (.eff (.call To 1 0 nsS (.cons (.con (.str Gu)) (.cons A1 Eh))))
  QaQ)))
def lU:Bs:=(.seq (.set 4 (.pur (.call 49 (.cons Rj DQ))))
  (.seq (.set 5 (.pur (.call 21 (.cons CY (.cons (.call 20 (.cons BK (.cons (.call 49 (.cons Rj HE)) .nil))) .nil)))))
  (.seq (.eff (.call To 1 0 nsS (.cons N3 (.cons A1 (.cons CA .nil)))))
  (.ret CA))))
def JvG:Bs:=(.goB 0 He nsS)
def oZ:Bs:=(.retG 4 nsS KC K4 2)
def bdefs:List DefB:=[⟨3,3,tV⟩,⟨4,4,nV⟩,⟨4,3,wR⟩,⟨6,4,lU⟩,⟨5,4,JvG⟩,⟨1,1,oZ⟩]
def JgC(U:Nat)(st:D)(f b:D):runB defs bdefs AW 0 st [f,b]=ansB st (exO To AX GG tV [So st,So f,So b]):=rfl
def Jlp(U:Nat)(st:D)(g f b:D):runB defs bdefs AW 1 st C5=ansB st (exO To AX GG nV [So st,So g,So f,So b]):=rfl
def Jxo(U:Nat)(st:D)(f b:D):runB defs bdefs AW 2 st [f,b]=ansB st (exO To AX GG wR [So st,So f,So b,No]):=rfl
def Jqh(U:Nat)(st:D)(g f b:D):runB defs bdefs AW 3 st C5=ansB st (exO To AX GG lU [So st,So g,So f,So b,No,No]):=rfl
def rb_go(U:Nat)(st:D)(g f b:D):runB defs bdefs AW 4 st C5=ansB st (exO To AX GG JvG [So st,So g,So f,So b,No]):=rfl
def Jvj(U:Nat)(st:D):runB defs bdefs AW 5 st []=ansB st (exO To AX GG oZ [So st]):=rfl
noncomputable def JuT:Bs:=(.lift (.set Fo 1 (.call 46 (.cons Ap (.cons (.con (.int 100)) UD)))))
noncomputable def Juf:Bs:=(.lift (.set Fo 2 VW))
def JsA:Bs:=(.eff (.call Fo 2 3 nsS (.cons LM DQ)))
def JuL:Bs:=(.eff (.call Fo 2 3 nsS (.cons Xn Eh)))
def Jot:Bs:=(.setI 4 (.call Fo 3 3 nsS (.cons LM YY)))
noncomputable def Jtf:Bs:=(.lift (.ite W2 BY .skip))
noncomputable def qS:Bs:=(.lift (.loop Fo [5] 0 (.un .range RA) (.seq (.set Fo 6 W1)
  (.loop Fo [7] 0 SE (.seq (.set Fo 8 VJ)
  (.seq (.ite VV BY .skip)
  (.seq (.set Fo 9 VT)
  (.ite VL BY .skip))))))))
noncomputable def JuW:Bs:=(.lift (.set Fo 10 (.tup (.cons Tf HP))))
noncomputable def JlN:Bs:=(.lift (.ite (.bi .ne (.comp 0 (.walk Ux) (.bi .isin DV V3) Ap) (.un .list BK)) BY .skip))
noncomputable def Jnf:Bs:=(.lift (.ite (.bi .gt (.bi Ei (.un .dictP (.call 41 (.cons CY Ua))) Ek) (.bi Ei (.un .dictP (.call 41 (.cons A1 Ua))) Ek)) BY .skip))
noncomputable def Jue:Bs:=(.lift (.ite VS BY .skip))
noncomputable def JvE:Px:=(.cons (.call 37 HE) .nil)
def JrJ:Bx:=(.and (.bi .eq (.call Fo 5 3 nsS .nil) (.pur N3)) (.and (.pur N2) (.pur Xb)))
noncomputable def lO:Bs:=(.ite (.pur V1) E7 IG)
def iO:Bs:=(.seq (.loop [2,3] 2 TY (.eff W7))
  (.seq (.ite (.pur UH) E7 IG)
  Gv))
noncomputable abbrev nR:Nat:=4
noncomputable abbrev iR:Nat:=1
def RL(U:Ag)(bc:AI)(R:List D->Nat->Rs D)(O:Fm):Prop:=(λO=>∃b,exO Fo U bc JuT O=.ok .nx b/\(λO=>∃b,exO Fo U bc Juf O=.ok .nx b/\(RunO 3 (λO=>∃b,exO Fo U bc JsA O=.ok .nx b/\(λO=>∃b,exO Fo U bc JuL O=.ok .nx b/\(λO=>∃b,exO Fo U bc Jot O=.ok .nx b/\(λO=>∃b,exO Fo U bc Jtf O=.ok .nx b/\(λO=>∃b,exO Fo U bc qS O=.ok .nx b/\(λO=>∃b,exO Fo U bc JuW O=.ok .nx b/\(λO=>∃b,exO Fo U bc JlN O=.ok .nx b/\(λO=>∃b,exO Fo U bc Jnf O=.ok .nx b/\(Jww U R 11 JvE (λO=>∃b,exO Fo U bc Jue O=.ok .nx b/\(λO=>(λO=>∃b,exO Fo U bc (.retB JrJ) O=.ok Qc4 b) (O.set 11 No)) b)) b) b) b) b) b) b) b) b)) b) b) O
noncomputable abbrev S (x:Bg):Str:=oS x
noncomputable abbrev ofN (ns:AU):D:=.lst Hg
theorem cell(ns:AU)(k:Int)(s:0<=k):∃v:Int,∀c,runD defs A6 42 Qeb=.ok (.int v):=by
 obtain⟨k,rfl⟩:=Int.eq_ofNat_of_zero_le s;by_cases h:k<AK
 ·refine⟨ns[k],λc=>?_⟩;have f:atD D0 k=So (.int ns[k]):=by have:=atN D0 k (by simpa using h);rw[this];simp
  rw[JeQ,jV,gD _ _ (p:=To) _ _ (Jh _ _ (x:=.int k) (y:=.int AK) rfl (JC _ _ (x:=ofN ns) rfl Ad) (by rw[o_lt,Zx 'h'])),if_pos rfl];exact Jh _ _ (x:=ofN ns) (y:=.int k) rfl rfl (by rw[wX,f];rfl)
 ·have m:¬((k:Int)<(AK:Int)):=by lia
  by_cases j:ns=[]
  ·subst j;have m:¬((k:Int)<0):=by lia
   have e:op2 .eq (ofN []) GK=.ok CW:=rfl;refine⟨0,λc=>?_⟩;rfl
  ·have l:0<AK:=by
    cases ns with
    |nil=>exact absurd rfl j
    |cons a t=>simp
   have q:k % AK<AK:=Nat.mod_lt _ l;refine⟨ns[k % AK]*31+k,λc=>?_⟩;have r:((k:Int) % (AK:Int))=((k % AK:Nat):Int):=by lia
   have f:atD D0 ((k:Int) % (AK:Int))=So (.int ns[k % AK]):=by
    rw[r];have:=atN D0 (k % AK) (by simpa using q);rw[this];simp
   have o:D.eqv (.lst D0) GK=Fo:=by
    cases ns with
    |nil=>exact absurd rfl j
    |cons a t=>rfl
   have g:op2 .eq (.lst D0) GK=.ok C4:=by
    rw[o_eq _ _ (by simp[D.dep,JpG]) (by simp[D.dep,deps]),o]
   have b:op2 .mod BQ (.int AK)=.ok (.int ((k:Int) % (AK:Int))):=by
    have:0<(AK:Int):=by lia
    simp[op2,l]
   rw[JeQ,jV,gD _ _ (p:=Fo) _ _ (Jh _ _ (x:=.int k) (y:=.int AK) rfl (JC _ _ (x:=ofN ns) rfl Ad) (by rw[o_lt,Zs 'h'])),if_neg 'y',gD _ _ (p:=Fo) _ _ (Jh _ _ (x:=ofN ns) (y:=.lst []) rfl rfl g),if_neg 'y',JF];exact Jh _ _ (Jh _ _ (y:=.int 31) (Jh _ _ (x:=ofN ns) rfl (Jh _ _ (x:=.int k) (y:=.int AK) rfl (JC _ _ (x:=ofN ns) rfl Ad) b) (by rw[wX,f];rfl)) rfl (nN _ _ (by rw[show smallI 31=To from by decide,Bool.or_true]))) rfl aM
theorem pick(ns:AU)(k m:Int)(u:0<=k)(b:0<m):∃r:Nat,(r:Int)<m/\∀c,runD defs Bo 43 [ofN ns,.int k,.int m]=.ok bM:=by
 obtain⟨v,j⟩:=cell ns k u;let d:Int:=(v+6151*AZ)*40692 % 2147483399;have B:0<=d:=Int.emod_nonneg _ AB;have A:d<2147483399:=Int.emod_lt_of_pos _ AB;have f:0<=(d*d+d / 31) % 2147483629 % m:=Int.emod_nonneg _ (Int.ne_of_gt b);have s:(d*d+d / 31) % 2147483629 % m<m:=Int.emod_lt_of_pos _ b;refine⟨((d*d+d / 31) % 2147483629 % m).toNat,by rw[Int.toNat_of_nonneg f];exact s,λc=>?_⟩;have l:smallI d=To:=by simp only[smallI,Zc,Zw];lia
 rw[Int.toNat_of_nonneg f];have C:(v+6151*AZ)*40692 % 2147483399=d:=rfl;have w:smallI 6151=To:=by decide
 have h:smallI 40692=To:=by decide
 have g:∀i:Int,op2 .mod A2 Qak=.ok (.int (i % 2147483399)):=λi=>by simp[op2]
 have z:∀i:Int,op2 .mod A2 Qal=.ok (.int (i % 2147483629)):=λi=>by simp[op2]
 have q:∀i:Int,op2 .mod A2 (.int m)=.ok (.int (i % m)):=λi=>by simp[op2,b]
 have o:∀i:Int,op2 .fdiv A2 QaR=.ok (.int (i / 31)):=λi=>by simp[op2]
 rw[JkZ,JcS,wC _ _ (d:=.int d) _ (Jh _ _ (y:=.int 2147483399) (Jh _ _ (y:=.int 40692) (Jh _ _ (Jk _ _ (J:=Qeb) rfl (j c)) (Jh _ _ (x:=.int 6151) rfl (Jh _ _ (x:=.int k) (y:=.int 1) rfl rfl aM) (nN _ _ (by rw[w,Bool.true_or]))) aM) rfl (nN _ _ (by rw[h,Bool.or_true]))) rfl (g _)),JF];exact Jh _ _ (y:=.int m) (Jh _ _ (y:=.int 2147483629) (Jh _ _ (Jh _ _ (x:=.int d) (y:=.int d) rfl rfl (nN _ _ (by rw[l,Bool.true_or]))) (Jh _ _ (x:=.int d) (y:=.int 31) rfl rfl (o d)) aM) rfl (z _)) rfl (q _)
def Jp(a b:Bg):oS a=oS b↔a=b:=by
 constructor
 ·intro h;rw[Str.ofString_eq_toList,Str.ofString_eq_toList]at h;have j:=kA (λs:Str=>X7) h;simp only[List.toList_toArray]at j;have l:a.toList=b.toList:=by refine List.map_inj_right (f:=Char.toNat) ?_|>.mp j;intro x y g;exact Char.ext (UInt32.toNat_inj.mp g)
  exact String.toList_inj.mp l
 ·rintro rfl;rfl
@[simp]def sb(a b:Bg):(oS a==oS b)=decide (a=b):=by
 by_cases h:a=b
 ·subst h;simp
 ·have:oS a≠oS b:=λe=>h ((Jp a b).mp e);simp[h,this]
noncomputable def ws9:List Str:=[S "a",S "b",S "7",S "0",S "new",S "zz",S "55",S "01",S "-"]
noncomputable def pool:List Str:=[S "a",S "b",S "7",S "0"]
def Jml:∀w∈pool,w∈ws9:=by decide+kernel
inductive Part where
 |word (x:Str)|one (n:Str) (ws:List Str)|any (n:Str)|number (n:Str)|rest (n:Str)
noncomputable def Part.d:Part->D
 |.word x=>.tup PN
 |.one n ws=>.tup Qs
 |.any n=>.tup [.str (S "any"),.str n]
 |.number n=>.tup [.str (S "number"),.str n]
 |.rest n=>.tup [.str IT,.str n]
def Part.ok:Part->Prop
 |.word x=>x∈ws9
 |.one _ b=>(∀w∈b,w∈ws9)/\b≠[]
 |_=>True
def Part.srt:Part->Prop
 |.word x=>x∈pool
 |.one _ b=>(b.Pairwise LtS/\∀w∈b,w∈pool)/\b.length<=3
 |_=>True
noncomputable def Part.name:Part->Str
 |.word x=>x
 |.one n _=>n
 |.any n=>n
 |.number n=>n
 |.rest n=>n
noncomputable def Part.isWord:Part->Bool
 |.word _=>To
 |_=>Fo
noncomputable def Part.hole (p:Part):List Str:=if p.isWord then[]else[p.name]
def jA (ps:AG):List Str:=ps.flatMap Part.hole
noncomputable def Part.isRest:Part->Bool
 |.rest _=>To
 |_=>Fo
theorem JV:∀ws:List Str,JM HV=So ws
 |[]=>rfl
 |w::ws=>by simp[JM,JV ws]
def JwX(ws:Ac)(h:AY<60):op1 .sset (.lst HV)=.ok (.lst ((Jn ws).map .str)):=by simp[op1,JV,h]
theorem Jou(r:Nat)(h:(r:Int)<4):∃w∈pool,atD HJ (r:Int)=So BD:=by
 match r,h with
 |0,_=>exact⟨S "a",by decide+kernel,rfl⟩
 |1,_=>exact⟨S "b",by decide+kernel,rfl⟩
 |2,_=>exact⟨S "7",by decide+kernel,rfl⟩
 |3,_=>exact⟨S "0",by decide+kernel,rfl⟩
 |n+4,h=>lia
section
variable(U:Ag)(O:Fm)
def sR{A B rest:Sx}{d:D}(f:evD U c O=.ok CW)(b:exD U A O=.ok (.rt d,e)):Jf (exD U (.seq (.ite c A B) rest) O)=.ok d:=by rw[yA,n_if _ _ _ _ f,if_pos rfl,b];rfl
def sO{A rest:Sx}(b:evD U c O=.ok C4):Jf (exD U (.seq (.ite c A .skip) rest) O)=Jf Rl:=by rw[yA,n_if _ _ _ _ b,if_neg 'y'];rfl
def zR{e:Px}{d:D}(h:evD U e O=.ok d):exD U bK O=.ok aT:=by simp[h]
end
def partR:Sx:=match iV with
 |.seq _ (.seq _ r)=>r
 |_=>.skip
noncomputable def JxD (ns:AU) (a:Int) (n:Str) (r:Nat):Fm:=[So Cp,So (.int a),So BS,So QaS,So bM,No]
theorem part(ns:AU)(at_:Int)(H:0<=at_)(name:Str):∃p:Part,p.ok/\p.isRest=Fo/\p.srt/\p.hole.Sublist [name]/\∀c,runD defs (c+3) 44 QF=.ok p.d:=by
 obtain⟨r,U,I⟩:=pick ns at_ 8 H AB;have g:∀c,runD defs (c+3) 44 QF=Jf (exD DB partR (JxD ns at_ name r)):=λc=>by rw[Jly,iV,wC _ _ (d:=.lst HJ) _ rfl,wC _ _ _ (Jk _ _ rfl (I c))];rfl
 by_cases E:(r:Int)<4
 ·obtain⟨q,y,eq⟩:=pick ns (at_+1) 4 Af AB;obtain⟨w,h,v⟩:=Jou q y;refine⟨.word w,Jml w h,rfl,h,by simp[Part.hole,Part.isWord],λc=>?_⟩;have u:op2 .idx QaS (.int q)=.ok BD:=by rw[wX,v];rfl
  exact(g c).trans (sR _ _ (B:=.skip) (Jh _ _ (a:=.var 4) (b:=.con Gy) rfl rfl (by rw[o_lt,Zx E])) (zR _ _ (uA _ _ (Jg _ _ rfl (Jg _ _ (Jh _ _ rfl (Jk _ _ rfl (eq c)) u) rfl)) (show 2<=1000 by decide))))
 ·by_cases F:r=4
  ·subst F;obtain⟨m,P,G⟩:=pick ns (at_+1) 3 Af AB;have A:∀k:Nat,∃w,w∈pool/\∃q:Nat,(∀c,runD defs Bo 43 [ofN ns,.int (at_+2+k),.int 4]=.ok (.int q))/\atD HJ (q:Int)=So BD:=by intro k;obtain⟨q,y,eq⟩:=pick ns (at_+2+k) 4 Af AB;obtain⟨w,h,v⟩:=Jou q y;exact⟨w,h,q,eq,v⟩
   obtain⟨f,s⟩:=vP.mp A;have J:∀c x,evD DB VX
     [So Cp,So CS,So (.str name),So QaS,x,No]=.ok (.lst (((List.range (1+m)).map f).map .str)):=by
    intro c x;rw[Zt];refine xS _ _ _ _ (1+m) ?_ Af (λk=>.str (f k)) ?_
    ·simp[G,Int.natCast_add]
    ·intro k A
     obtain⟨_,q,C,M⟩:=s k;simp[C,M]
   have o:((List.range (1+m)).map f).length<60:=by simp;lia
   have z:=JwX _ o;refine⟨.one name (Jn ((List.range (1+m)).map f)),GX,rfl,⟨⟨JJ _,λw h=>by
    rw[Jy,Zv]at h;obtain⟨k,_,rfl⟩:=h;exact(s k).1⟩,Zq (Jmv _) BR⟩,by simp[Part.hole,Part.isWord,Part.name],λc=>?_⟩
   ·intro w h;rw[Jy,Zv]at h;obtain⟨k,_,rfl⟩:=h;exact Jml _ (s k).1
   ·intro L;have:f 0∈Jn ((List.range (1+m)).map f):=by rw[Jy,Zv];exact⟨0,by rw[List.mem_range];lia,rfl⟩
    rw[L]at this;simp at this
   ·have l:=J c (So Gy);generalize (List.range (1+m)).map f=ws at z l⊢;refine(g c).trans ((sO _ _ (c:=.bi .lt CY Fc) rfl).trans (sR _ _ (B:=.skip) (c:=.bi .eq CY Fc) rfl (e:=(JxD ns at_ name 4).set 5 (So (.lst HV))) ?_));exact(wF _ _ _ l).trans (zR _ _ (uA _ _ (Jg _ _ rfl (Jg _ _ rfl (Jg _ _ (JC _ _ (JC _ _ rfl z) rfl) rfl))) (show 3<=1000 by decide)))
  ·have j:r=5\/r=6\/r=7:=by lia
   rcases j with rfl|rfl|rfl
   ·exact⟨.any name,trivial,rfl,trivial,by simp[Part.hole,Part.isWord,Part.name],λc=>(g c).trans rfl⟩
   ·exact⟨.number name,trivial,rfl,trivial,by simp[Part.hole,Part.isWord,Part.name],λc=>(g c).trans rfl⟩
   ·exact⟨.any name,trivial,rfl,trivial,by simp[Part.hole,Part.isWord,Part.name],λc=>(g c).trans rfl⟩
noncomputable def Ju:List Part->Prop
 |[]=>True
 |p::ps=>(Yb=To->ps=[])/\Ju ps
def JpR(p:Part):p.d.imm=To:=by cases p<;>simp[Part.d,D.imm,imms,Jrb]
def yU(ps:AG):imms DW=To:=by
 induction ps with
 |nil=>rfl
 |cons p ps b=>simp[imms,JpR,b]
def Jqt(p:Part):p.d.dep<=2:=by cases p<;>simp[Part.d,D.dep,deps,JfY]
theorem JlP(ps:AG):deps DW<=2:=by
 induction ps with
 |nil=>simp[deps]
 |cons p ps b=>have:=Jqt p;simp only[Zg,deps];lia
def JgR(l:AG)(h:∀p∈l,Yb=Fo)(n:Str):Ju (l++[.rest n]):=by
 induction l with
 |nil=>simp[Ju]
 |cons p l f=>refine⟨λb=>?_,f λp b=>h p (by simp[b])⟩;rw[h p 'j']at b;cases b
def JiR(l:AG)(h:∀p∈l,Yb=Fo):Ju l:=by
 induction l with
 |nil=>trivial
 |cons p l f=>refine⟨λb=>?_,f λp b=>h p (by simp[b])⟩;rw[h p 'j']at b;cases b
noncomputable def names4:List Str:=[S "y",S "id",S "z",S "x"]
noncomputable def nm4 (k:Nat):Str:=names4.getD k (S "")
theorem JqA(k:Nat)(h:k<4):atD WJ (k:Int)=So (.str (nm4 k)):=by
 match k,h with
 |0,_=>rfl
 |1,_=>rfl
 |2,_=>rfl
 |3,_=>rfl
 |n+4,h=>lia
theorem JhV(f:Nat->Part)(b:∀k,(f k).hole.Sublist [nm4 k]):∀m,m<=4->(jA ('Ƨ'.map f)).Sublist (names4.take m)
 |0,_=>by simp[jA]
 |m+1,h=>by
  have e:names4.take (m+1)=names4.take m++[nm4 m]:=by
   match m,h with
   |0,_=>rfl
   |1,_=>rfl
   |2,_=>rfl
   |3,_=>rfl
   |n+4,h=>lia
  rw[e,List.range_succ,ZW];simp only[jA,List.flatMap_append,Zg,lG,kG,List.flatMap_nil,pE];exact(JhV f b m Af).append (b m)
noncomputable def names5:List Str:=[S "y",S "id",S "z",S "x",S "r"]
theorem patQ(ns:AU)(at_:Int)(I:0<=at_)(M:Nat)(P:M<=4):∃(g:AG)(b:Bool),(∀p∈g,p.ok/\p.isRest=Fo/\p.srt)/\(jA g).Sublist names4/\g.length<=M/\∀c,runD defs (c+4) 45 [ofN ns,.int at_,.int M]=.ok (.tup ((g++if b then[Part.rest (S "r")]else[]).map Yk)):=by
 obtain⟨m,E,G⟩:=pick ns at_ ((M:Int)+1) I Af;have E:m<=M:=by lia
 have x:∀k:Nat,∃p:Part,p.ok/\p.isRest=Fo/\p.srt/\p.hole.Sublist [nm4 k]/\(k<4->∀c,runD defs (c+3) 44 [ofN ns,.int (at_+2+5*k),.str (nm4 k)]=.ok p.d):=by intro k;obtain⟨p,z,y,B,H,A⟩:=part ns (at_+2+5*k) Af (nm4 k);exact⟨p,z,y,B,H,λ_=>A⟩
 obtain⟨f,h⟩:=vP.mp x;have F:smallI 5=To:=by decide
 have l:∀c,evD Bi VY
   [So Cp,So CS,So (.int M),So (.lst WJ),No]=.ok (.lst (('Ƨ'.map f).map Yk)):=by
  intro c;rw[Zt];refine xS _ _ _ _ m ?_ Af (λk=>(f k).d) ?_
  ·simp[G]
  ·intro k x
   obtain⟨_,_,_,_,J⟩:=h k;have n2:=J Af c;simp[JqA k 'h',n2,F]
 have r:∀p∈(List.range m).map f,p.ok/\p.isRest=Fo/\p.srt:=by intro p o;rw[Zv]at o;obtain⟨k,_,rfl⟩:=o;exact⟨(h k).1,(h k).2.1,(h k).2.2.1⟩
 have s:(jA ('Ƨ'.map f)).Sublist names4:=(JhV f (λk=>(h k).2.2.2.1) m Af).trans Qn;have w:('Ƨ'.map f).length<=M:=by simp;lia
 generalize 'Ƨ'.map f=g at l r w s;have j:g.length<16777216:=by lia
 have u:=yU g;have hN:=Jqd ns;obtain⟨q,L,eq⟩:=pick ns (at_+1) 4 Af AB;refine⟨g,decide (q=0),r,s,w,λc=>?_⟩;by_cases v:q=0
 ·subst v;simp[Jco,qV,l,eq,u,hN,lD,j,D.imm,imms,Part.d]
 ·have C:((q:Int)==0)=Fo:=by
   rw[ZA];lia
  simp[Jco,qV,l,eq,u,C,v,lD]
theorem patS(ns:AU)(g:Int)(m:0<=g)(M:Nat)(l:M<=4):∃ps:List Part,(∀p∈ps,p.ok)/\Ju ps/\ps.length<=M+1/\(∀p∈ps,p.srt)/\(jA ps).Sublist names5/\((∀p∈ps,Yb=Fo)->Ao<=M)/\∀c,runD defs (c+4) 45 [ofN ns,.int g,.int M]=.ok Du:=by
 obtain⟨s,b,h,j,q,o⟩:=patQ ns g m M l;refine⟨_,?_,?_,?_,?_,?_,?_,o⟩<;>cases b
 ·simpa using λp f=>(h p f).1
 ·simp only[if_true];intro p f;rcases ZK.mp f with f|f
  ·exact(h p f).1
  ·rw[yB.mp f];trivial
 ·simpa using JiR _ λp f=>(h p f).2.1
 ·exact JgR _ (λp f=>(h p f).2.1) _
 ·simp;lia
 ·simp;lia
 ·simpa using λp f=>(h p f).2.2
 ·simp only[if_true];intro p f;rcases ZK.mp f with f|f
  ·exact(h p f).2.2
  ·rw[yB.mp f];trivial
 ·simp only[Zl,ZF,pE];exact j.trans (List.sublist_append_left names4 [S "r"])
 ·simp only[if_true,jA,List.flatMap_append];exact j.append (List.Sublist.refl [S "r"])
 ·simpa using λ_=>q
 ·exactλr=>absurd (r (.rest (S "r")) Ad) (by simp[Part.isRest])
def pat(ns:AU)(b:Int)(l:0<=b)(M:Nat)(j:M<=4):∃ps:List Part,(∀p∈ps,p.ok)/\Ju ps/\ps.length<=M+1/\(∀p∈ps,p.srt)/\(jA ps).Sublist names5/\∀c,runD defs (c+4) 45 [ofN ns,.int b,.int M]=.ok Du:=
 let⟨ps,g,q,m,f,h,_,o⟩:=patS ns b l M j
 ⟨ps,g,q,m,f,h,o⟩
theorem JkL(ns:AU)(b:Int)(g:0<=b):∃w:Str,w∈ws9/\∀c,runD defs (c+3) 47 [ofN ns,.int b]=.ok BD:=by
 obtain⟨r,f,l⟩:=pick ns b 9 g AB;have:∃w:Str,w∈ws9/\atD [D.str (S "a"),D.str (S "b"),D.str (S "7"),D.str (S "0"),D.str BZ,D.str (S "zz"),D.str (S "55"),D.str (S "01"),D.str (S "-")] (r:Int)=So BD:=by
  match r,f with
  |0,_=>exact⟨S "a",by decide+kernel,rfl⟩
  |1,_=>exact⟨S "b",by decide+kernel,rfl⟩
  |2,_=>exact⟨S "7",by decide+kernel,rfl⟩
  |3,_=>exact⟨S "0",by decide+kernel,rfl⟩
  |4,_=>exact⟨S "new",by decide+kernel,rfl⟩
  |5,_=>exact⟨S "zz",by decide+kernel,rfl⟩
  |6,_=>exact⟨S "55",by decide+kernel,rfl⟩
  |7,_=>exact⟨S "01",by decide+kernel,rfl⟩
  |8,_=>exact⟨S "-",by decide+kernel,rfl⟩
  |n+9,h=>lia
 obtain⟨w,j,m⟩:=this;exact⟨w,j,λc=>by simp[JeA,JaF,l,m,lD]⟩
noncomputable def JmW:Px:=V9
noncomputable def Jmy:Px:=V7
def qL:Sx:=(.ite (.bi .eq Ff XO) T7 (.ite (.bi .eq Ff QaO) (.app Fo 3 JmW) (.app Fo 3 Jmy)))
def nearTail:Sx:=(.ite SS SC (.ite Sv MC qL))
noncomputable def rO:Sx:=(.seq RK
  YR)
def Jtt:rO=.seq RK nearTail:=rfl
noncomputable def Part.kind:Part->Str
 |.word _=>S "word"
 |.one _ _=>S "one"
 |.any _=>S "any"
 |.number _=>S "number"
 |.rest _=>S "rest"
def Jmk(U:Ag)(O:Fm)(i:Nat)(p:Part)(h:O[i]? =So bN)(s:Str):evD U (.bi .eq SR QbP) O=.ok (.bl (YC==s)):=by refine Jh _ _ (x:=.str YC) (Jh _ _ (x:=p.d) (y:=.int 0) (by rw[yD,h]) rfl ?_) rfl Qc6;cases p<;>rfl
def Jed(p:Part):(YC==S "rest")=p.isRest:=match p with
 |.word _=>(by decide+kernel:(S "word"==S "rest")=Fo)
 |.one _ _=>(by decide+kernel:(S "one"==S "rest")=Fo)
 |.any _=>(by decide+kernel:(S "any"==S "rest")=Fo)
 |.number _=>(by decide+kernel:(S "number"==S "rest")=Fo)
 |.rest _=>(by decide+kernel:(S "rest"==S "rest")=To)
theorem JnJ(ns:AU)(at_:Int)(h0:0<=at_)(k:Nat)(p:Part)(H:p.ok):∃a:List Str,(∀w∈a,w∈ws9)/\a.length<=1+p.isRest.toNat/\∀c(made:Ac)P F,P.imm=To->eC<=1000-2->
  ∃Z,exD Bi rO [So Cp,So CS,So P,So NN,So BQ,So p.d,F]=
   .ok (.nx,[So Cp,So CS,So P,So (.lst ((made++a).map .str)),So BQ,So p.d,Z]):=by
 obtain⟨r,hr,er⟩:=pick ns (at_+3*k) 9 Af AB;obtain⟨w,C,ew⟩:=JkL ns (at_+3*k+1) Af;have z:op2 .mul (.int 3) BQ=.ok (.int (3*k)):=by simp only[op2,show smallI 3=To by decide,Bool.true_or,if_true]
 have G:∀(c:Nat)(P L g:AL),evD Bi LJ Ui=.ok (.int (at_+3*k)):=λc P L g=>Jh _ _ rfl (Jh _ _ rfl rfl z) rfl;have hE:∀(c:Nat)(P L g:AL),evD Bi Wc Ui=.ok bM:=λc P L g=>
  Jk _ _ (J:=[ofN ns,.int (at_+3*k),.int 9]) (Jg _ _ rfl (Jg _ _ (G c P L g) rfl)) (er A6)
 have o:∀(c:Nat)(P L g:AL)(s:Str),evD Bi (.bi .eq Ff QbP) Ui=.ok (.bl (YC==s)):=λc P L g s=>Jmk _ _ 5 p rfl s;have b:∀(c:Nat)(P:D)(made:Ac)(g:AL),exD Bi rO [So Cp,So CS,So P,So NN,So BQ,So p.d,g]=exD Bi nearTail DO:=λc P made g=>by rw[Jtt,wF _ _ _ (hE c _ _ _)];rfl
 have one:∀(c:Nat)(P:D)(made:Ac)(e:Px)(v:Str),eC<=1000-2->evD Bi e DO=.ok (.str v)->exD Bi QdV DO=.ok (.nx,[So Cp,So CS,So P,So (.lst ((made++[v]).map .str)),So BQ,So p.d,So bM]):=λc P made e v u he=>by rw[JtW _ _ (i:=3) (J:=made.map .str) rfl he (by rw[Zi];lia),ZW];rfl
 cases U:p.isRest with
 |true=>
  obtain⟨m,hm,em⟩:=pick ns (at_+39) 3 Af AB;have hk:∀j:Nat,∃w:Str,w∈ws9/\∀c,runD defs (c+3) 47 [ofN ns,.int (at_+40+j)]=.ok BD:=λj=>JkL ns _ Af;obtain⟨f,W⟩:=vP.mp hk;refine⟨'Ƨ'.map f,?_,by rw[Zi,xH];show m<=2;lia,?_⟩
  ·intro w C;rw[Zv]at C;obtain⟨j,_,rfl⟩:=C;exact(W j).1
  ·intro c made P F X u;refine SG;have hc:=xS Bi DO Wg Wh m
    (Jk _ _ (J:=[ofN ns,.int (at_+39),.int 3]) rfl (em A6)) Af (λj=>.str (f j)) λj hj=>Jk _ _ (J:=[ofN ns,.int (at_+40+j)]) rfl ((W j).2 c)
   rw[b,nearTail,n_if _ _ _ _ 'Ǡ',Jed,U,if_pos rfl];rw[JsN _ _ (i:=3) (J:=made.map .str) (es:='Ƨ'.map λj=>.str (f j)) rfl (by rw[iE,e_un,hc];rfl) (by rw[Zi,Zi,xH];lia)];rw[ZW,Zt];rfl
 |false=>
  have M:(YC==S "rest")=Fo:=by rw[Jed,U]
  have A:∀(c:Nat)(P:D)(made:Ac),exD Bi nearTail DO=if((r:Int)==0)||(YC==S "any")then exD Bi MC DO else exD Bi qL DO:=λc P made=>by rw[nearTail,n_if _ _ _ _ 'Ǡ',M,if_neg ZH];exact n_if _ _ _ _ (fH _ _ OZ λ_=>o c _ _ _ _)
  cases E:(((r:Int)==0)||(YC==S "any"))with
  |true=>refine⟨[w],by simpa using C,Nat.le_add_right 1 _,λc made P F X u=>SG⟩;rw[b,A,E,if_pos rfl];exact one c P made _ w u (Jk _ _ (J:=[ofN ns,.int (at_+3*k+1)]) US (ew c))
  |false=>
   have l:∃(v:Str)(e:Px),v∈ws9/\∀(c:Nat)(P:D)(made:Ac),exD Bi qL DO=exD Bi QdV DO/\evD Bi e DO=.ok (.str v):=by
    obtain⟨q,B,eq⟩:=pick ns (at_+3*k+2) 3 Af AB;cases p with
    |rest n=>cases U
    |any n=>rw[ZN]at E;exact absurd E.2 (by decide+kernel:¬((S "any"==S "any")=Fo))
    |word x=>refine⟨x,.bi .idx CA DU,H,λc P made=>⟨?_,rfl⟩⟩;rw[qL,n_if _ _ _ _ 'Ǡ'];exact if_pos (by decide+kernel:(S "word"==S "word")=To)
    |number n=>
     have:∃w:Str,w∈ws9/\atD V4 (q:Int)=So BD:=by
      match q,B with
      |0,_=>exact⟨S "7",by decide+kernel,rfl⟩
      |1,_=>exact⟨S "0",by decide+kernel,rfl⟩
      |2,_=>exact⟨S "55",by decide+kernel,rfl⟩
      |n+3,h=>lia
     obtain⟨v,I,ev⟩:=this;refine⟨v,JmW,I,λc P made=>GX⟩
     ·rw[qL,n_if _ _ _ _ 'Ǡ'];refine(if_neg (by decide+kernel:¬((S "number"==S "word")=To))).trans ?_;rw[n_if _ _ _ _ 'Ǡ'];exact if_pos (by decide+kernel:(S "number"==S "number")=To)
     ·exact Jh _ _ (x:=.lst V4) (y:=.int q) rfl (Jk _ _ (J:=[ofN ns,.int (at_+3*k+2),.int 3]) US (eq A6)) (by simp only[op2,ev];rfl)
    |one n ws=>
     have hn:0<AY:=List.length_pos_iff.mpr H.2;obtain⟨q,B,eq⟩:=pick ns (at_+3*k+2) AY Af Af;have B:q<AY:=by lia
     have ev:atD 'Ɉ' (q:Int)=So (.str ws[q]):=by rw[atN 'Ɉ' q (by rw[Zi];exact B),List.getElem_map]
     have Y:∀(c:Nat)(P L g:AL),evD Bi SL [So Cp,So CS,P,L,So BQ,So (Part.d (.one n ws)),g]=.ok A7:=λ_ _ _ _=>rfl;refine⟨ws[q],Jmy,H.1 _ (zP B),λc P made=>GX⟩
     ·rw[qL,n_if _ _ _ _ 'Ǡ'];refine(if_neg (by decide+kernel:¬((S "one"==S "word")=To))).trans ?_;rw[n_if _ _ _ _ 'Ǡ'];exact if_neg (by decide+kernel:¬((S "one"==S "number")=To))
     ·exact Jh _ _ (x:=.tup HV) (y:=.int q) (Y c _ _ _) (Jk _ _ (J:=[ofN ns,.int (at_+3*k+2),.int AY]) (Jg _ _ rfl (Jg _ _ W8 (Jg _ _ (JC _ _ (Y c _ _ _) (by simp only[op1,Zi])) rfl))) (eq A6)) (by simp only[op2,ev];rfl)
   obtain⟨v,e,I,l⟩:=l;refine⟨[v],by simpa using I,Nat.le_add_right 1 _,λc made P F X u=>SG⟩;rw[b,A,E,if_neg ZH,(l c P made).1];exact one c P made e v u (l c P made).2
theorem Jhx(ns:AU)(at_:Int)(v:0<=at_):∀(ps:AG)(g:∀p∈ps,p.ok)(k:Nat),∃a:List Str,(∀w∈a,w∈ws9)/\a.length<=Ao+ps.countP Yd/\∀c(made:Ac)P j m f,P.imm=To->eC+2*Ao<=1000->
  ∃I y r,forL [4,5] 2 (exD Bi rO) (Jw k DW) [So Cp,So CS,So P,So NN,j,m,f]=
   .ok (.nx,[So Cp,So CS,So P,So (.lst ((made++a).map .str)),I,y,r])
 |[],g,k=>⟨[],by simp,by simp,λc made P j m f o h=>⟨j,m,f,by simp[Jw,forL]⟩⟩
 |p::ps,g,k=>by
  obtain⟨a,A,x,q⟩:=JnJ ns at_ v k p (g p Ad)
  obtain⟨b,H,J,l⟩:=Jhx ns at_ v ps (λp h=>g p (by simp[h])) AZ
  refine⟨a++b,?_,by cases s:p.isRest<;>simp[s]at x⊢<;>lia,?_⟩
  ·intro w u
   rw[ZK]at u
   exact u.elim (A w) (H w)
  ·intro c made P j m f o B
   have G:a.length<=2:=by cases s:p.isRest<;>simp[s]at x<;>lia
   have C:made.length+2*Ao+2<=1000:=by
    rw[Zk]at B;lia
   obtain⟨r,q⟩:=q c made P f o Af;obtain⟨z,F,E,l⟩:=l c (made++a) P FO bN r o (by rw[Zn];lia);refine⟨z,F,E,?_⟩;rw[List.append_assoc]at l;simp only[Zg,Jw,forL,gA,n25,n35,ZF];simp only[Zk,uD,iM,Nat.reduceAdd,Nat.reduceEqDiff,ZF,if_true,Rs.bo,Zg,lG,zA,List.set,q,l]
theorem JjF:∀b:List Part,Ju b->b.countP Yd<=1
 |[],_=>by simp
 |p::b,h=>by
  have g:=JjF b h.2
  cases f:p.isRest with
  |false=>simpa[f]using g
  |true=>rw[h.1 f];simp[f]
theorem near(ns:AU)(b:Int)(o:0<=b)(ps:AG)(m:∀p∈ps,p.ok)(s:Ao<=5)(g:Ju ps):∃a:List Str,(∀w∈a,w∈ws9)/\a.length<=6/\∀c,runD defs (c+4) 48 [ofN ns,.int b,.tup DW]=.ok KA:=by
 obtain⟨a,j,v,e⟩:=Jhx ns b o ps m 0;have:=JjF ps g;refine⟨a,j,by lia,λc=>?_⟩;obtain⟨x,r,u,e⟩:=e c [] Du No No No (by simpa[D.imm]using yU ps) BR;have f:∀(J:Ak)(k:Nat),imms J=To->imms (Jw k J)=To:=by
  intro J;induction J with
  |nil=>intro k h;rfl
  |cons d J l=>intro k h;simp only[imms,Zc]at h;simp[Jw,imms,D.imm,h.1,l _ h.2]
 have q:JcI=.seq (.own 3 KF) (.seq (.loop Fo [4,5] 2 Qcm rO) Qe):=rfl;rw[Jlf,q];have f:=f _ 0 (yU ps);simp only[lG,mJ]at e;simp[f,lD,imms,e]
def wsA:List Str:=ws9++[S "x0",S "1"]
def ws_A{w:Str}(h:w∈ws9):w∈wsA:=tJ _ h
noncomputable def numW (w:Str):Bool:=w==S "7"||w==S "0"||w==S "55"||w==S "1"
def num (w:Str):Int:=digs w.cps.toList
def wn(w:Str)(b:w∈wsA)(c:Nat):runD defs A6 14 cL=.ok (.bl (numW w)):=by simp only[wsA,ws9,rB,mJ,Zf,Zy,fA]at b;rcases b with rfl|rfl|rfl|rfl|rfl|rfl|rfl|rfl|rfl|rfl|rfl<;>rfl
def Part.fits (p:Part) (w:Str):Bool:=match p with
 |.word x=>w==x
 |.one _ b=>b.any (λv=>v==w)
 |.number _=>numW w
 |_=>To
def Part.valD (p:Part) (w:Str):D:=match p with
 |.number _=>.int (num w)
 |_=>.str w
noncomputable def Part.val (p:Part) (w:Str):List D:=if p.isWord then[]else[.tup [.str aR,p.valD w]]
noncomputable def lawM:List Part->List Str->Option Y6
 |[],a=>if a.isEmpty then So []else No
 |p::ps,a=>if p.isRest then So [.tup [.str aR,.tup DN]]else match a with
  |[]=>No
  |w::a=>if p.fits w then(lawM ps a).map (p.val w++·)else No
theorem o_inS(w:Str)(ws:Ac):op2 .isin BD A7=.ok (.bl (ws.any λv=>v==w)):=by rw[o_inT _ _ (by rw[JfY];lia) 'Ւ'];simp only[tL];rfl
def cut1(x:α)(xs:List α):cutD (x::xs) (So 1) No=xs:=by simp[cutD,six]
noncomputable def zbl:List Part->List Str->List Bool
 |p::ps,w::a=>p.fits w::zbl ps a
 |_,_=>[]
def lets(p:Part)(w:Str)(b:w∈wsA)(c:Nat):runD defs Bo 15 cE=.ok (.bl (p.fits w)):=by
 have h:=wn w b c;have k:=λs=>Jmk F2 [So p.d,So BD] 0 p rfl s;rw[JnD,JdY,gD _ _ _ _ (k _),gD _ _ _ _ (k _),gD _ _ _ _ (k _),JF];cases p with
 |word x=>rw[if_pos 'À'];exact Jh _ _ (x:=.str w) (y:=.str x) rfl rfl Qc6
 |one n ws=>rw[if_neg 'À',if_pos 'À'];exact Jh _ _ (x:=.str w) (y:=.tup HV) rfl rfl (o_inS w ws)
 |number n=>rw[if_neg 'À',if_neg 'À',if_pos 'À'];exact Jl _ _ (x:=.str w) rfl h
 |any n=>rw[if_neg 'À',if_neg 'À',if_neg 'À'];rfl
 |rest n=>rw[if_neg 'À',if_neg 'À',if_neg 'À'];rfl
noncomputable def JI (ps:AG):Bool:=match ps.getLast? with
 |some p=>Yb
 |none=>Fo
theorem has_rest(ps:AG)(c:Nat):runD defs A6 13 J6=.ok (.bl (JI ps)):=by
 by_cases b:ps=[]
 ·subst b;rfl
 ·have g:0<Ao:=by
   cases ps with
   |nil=>exact absurd rfl b
   |cons a t=>simp
  have h:atD DW (-1)=So 'ծ'.d:=by
   have j:¬((0:Int)<= -1):=by lia
   have o:-('ȳ'.length:Int)<= -1:=by rw[Zi];exact Int.neg_le_neg (Int.ofNat_le.mpr g)
   have l:(-1+('ȳ'.length:Int)).toNat=Ao-1:=by rw[Zi,Int.add_comm];exact Int.toNat_sub Ao 1
   simp only[atD,ixn,if_neg j,if_pos o,l,Option.bind_some];rw[xB,ZC 'h',List.getLast_eq_getElem];rfl
  have m:JI ps='ծ'.isRest:=by
   simp only[JI,List.getLast?_eq_some_getLast b]
  rw[m];have f:evD HK UK QcA=.ok 'ծ'.d:=Jh _ _ (x:=.tup DW) (y:=.int (-1)) rfl rfl (by rw[Jwp,h];rfl);generalize ps.getLast b=p at f;rw[JkS,JcC,JF];exact(zF _ _ (p:=To) (q:=Yb) (Jh _ _ (x:=.int Ao) (y:=.int 0) (JC _ _ (x:=.tup DW) rfl Ad) rfl (by rw[o_gt,Zx (show(0:Int)<Ao from Int.ofNat_lt.mpr g)])) λ_=>Jh _ _ (x:=.str YC) (y:=.str IT) (Jh _ _ (y:=.int 0) f rfl (by cases p<;>rfl)) rfl (by rw[mL,Jed])).trans rfl
def fit (ps:AG) (a:Ac):Bool:=if JI ps then decide ((Ao:Int)-1<=Yx)else(Yx:Int)==Ao
def Jvl(ps:AG)(a:Ac)(c:Nat):runD defs Bo 16 [.tup DW,.int Yx]=.ok (.bl (fit ps a)):=by have h:=has_rest ps c;cases b:JI ps<;>rw[b]at h<;>simp[JbG,JK,h,fit,b]
theorem Jkf(c:Nat)(O:Fm):∀(ps:AG)(a:Ac),(∀w∈a,w∈wsA)->
  JZ 2 (evD DB BV) (evD DB RB) O 'Է'=.ok ((zbl ps a).map .bl)
 |[],a,h=>by cases a<;>rfl
 |p::ps,[],h=>rfl
 |p::ps,w::a,h=>by
  have b:=Jkf c O ps a λw f=>h w (by simp[f])
  have g:=lets p w (h w Ad) c
  have:=lV 2 (evD DB BV) (evD DB RB) O (.tup cE) 'Է' (new:=[So p.d,So BD]) (by simp[gA]) (p:=To) rfl (y:=.bl (p.fits w)) (λ_=>by simp[g]) b
  simpa[zipD,zbl]using this
theorem Jox:∀bs:List Bool,jB (bs.map .bl)=So bs
 |[]=>rfl
 |b::bs=>by simp[jB,Jox bs]
theorem Joh:∀(xs ys:Ak),'亓'.length<=Ah
 |[],ys=>by simp[zipD]
 |x::xs,[]=>by simp[zipD]
 |x::xs,y::ys=>by
  have:=Joh xs ys
  simp only[zipD,Zk]
  lia
theorem JoZ(ps:AG)(a:Ac)(c:Nat)(g:∀w∈a,w∈wsA)(m:Ao<=1000):runD defs (c+3) 17 [.tup DW,.tup DN]=.ok (.bl (fit ps a&&(zbl ps a).all id)):=by
 have b:=Jvl ps a c;have l:=Jkf c [So Du,So KA] ps a g;have j:'Է'.length<=16777216:=by have:=Joh DW DN;rw[Zi]at this;lia
 have h:op1 .all (.lst ((zbl ps a).map .bl))=.ok (.bl ((zbl ps a).all id)):=by simp[op1,Jox]
 cases f:fit ps a<;>rw[f]at b<;>simp[Jhu,Jbe,b,vN,lD,l,j,h]
def JhS(p:Part)(ps:AG)(h:p.isRest=Fo):JI (p::ps)=JI ps:=by
 cases ps with
 |nil=>simp[JI,h]
 |cons q b=>simp[JI,List.getLast?_cons_cons]
theorem JgZ:∀(ps:AG)(a:Ac),Ju ps->(lawM ps a).isSome=(fit ps a&&(zbl ps a).all id)
 |[],a,h=>by
  cases a with
  |nil=>rfl
  |cons w a=>
   have:¬((Yx:Int)+1=0):=by lia
   simp[lawM,fit,JI,this]
 |p::ps,a,h=>by
  cases b:p.isRest with
  |true=>
   have j:=h.1 b
   subst j
   have g:p.fits=λ_=>To:=by
    cases p<;>simp_all [Part.isRest];rfl
   cases a<;>simp[lawM,fit,JI,b,zbl,g]<;>lia
  |false=>
   cases a with
   |nil=>
    simp only[lawM,b,fit,JhS p ps b];cases o:JI ps with
    |true=>
     have:0<Ao:=by
      cases ps with
      |nil=>cases o
      |cons a t=>simp
     have m:¬((((p::ps).length:Nat):Int)-1<=((([]:List Str).length:Nat):Int)):=by simp only[Zk,uD];lia
     rw[if_pos rfl,Zs m];rfl
    |false=>simp;lia
   |cons w a=>
    have l:=JgZ ps a h.2;have f:fit (p::ps) (w::a)=fit ps a:=by
     simp only[fit,JhS p ps b,Zk];cases JI ps
     ·rw[Bool.eq_iff_iff];simp<;>lia
     ·rw[Bool.eq_iff_iff];simp;lia
    simp only[lawM,b,zbl,f];cases p.fits w
    ·simp
    ·simp[l]
def hole(p:Part)(c:Nat):runD defs A6 8 [p.d]=.ok (.bl (!p.isWord)):=by cases p<;>simp[Jnq,Jel,Part.d,Part.isWord]
structure Row where
 l:Str
 ps:List Part
variable{B t rs:Aq}{r:Row}
def Row.pd (r:Row):D:=.tup QdW
noncomputable def Row.d (r:Row):D:=.tup Qec
structure Row.Ok(M:Nat)(r:Row):Prop where
 ok:∀p∈r.ps,p.ok
 rl:Ju r.ps
 len:r.ps.length<=M+1
 srt:∀p∈r.ps,p.srt
 hol:(jA r.ps).Sublist names5
 fix:(∀p∈r.ps,Yb=Fo)->Z4<=M
noncomputable def labs:List Str:=[S "t",S "p",S "v",S "q",S "u",S "s"]
noncomputable def lab (k:Nat):Str:=labs.getD k (S "")
theorem JyB(k:Nat)(h:k<6):atD Ur (k:Int)=So (.str (lab k)):=by
 match k,h with
 |0,_=>rfl
 |1,_=>rfl
 |2,_=>rfl
 |3,_=>rfl
 |4,_=>rfl
 |5,_=>rfl
 |n+6,h=>lia
theorem Jma(m:Nat)(h:m<=6):'Ƨ'.map lab=labs.take m:=by
 match m,h with
 |0,_=>rfl
 |1,_=>rfl
 |2,_=>rfl
 |3,_=>rfl
 |4,_=>rfl
 |5,_=>rfl
 |6,_=>rfl
 |n+7,h=>lia
theorem table(ns:AU)(at_:Int)(z:0<=at_)(M:Nat)(y:M<=4)(R:Nat)(H:R<=6):∃rows:List Row,(∀r∈rows,r.Ok M)/\rows.map X6=labs.take BN/\rows.length<=R/\∀c,runD defs (c+5) 46 [ofN ns,.int at_,.int M,.int R]=.ok EO:=by
 obtain⟨m,j,q⟩:=pick ns at_ ((R:Int)+1) z Af;have j:m<=R:=by lia
 have o:∀k:Nat,∃r:Row,r.Ok M/\r.l=lab k/\∀c,runD defs (c+4) 45 [ofN ns,.int (at_+1+30*k),.int M]=.ok r.pd:=by intro k;obtain⟨w,u,s,G,v,F,C,A⟩:=patS ns (at_+1+30*k) Af M y;exact⟨⟨lab k,w⟩,⟨u,s,G,v,F,C⟩,rfl,A⟩
 obtain⟨f,b⟩:=vP.mp o;have g:smallI 30=To:=by decide
 refine⟨'Ƨ'.map f,?_,?_,?_,λc=>?_⟩
 ·intro r h;rw[Zv]at h;obtain⟨k,_,rfl⟩:=h;exact(b k).1
 ·rw[Zt,Zi,xH,<-Jma m 'h'];exact tG λk _=>(b k).2.1
 ·simpa using j
 ·have E:=xS Ec [So Cp,So CS,So (.int M),So (.int R),So (.lst Ur),So (.int m)] CA
   'Ҝ' m Ad Af (λk=>(f k).d) (by
    intro k o;have n2:=(b k).2.2 c;have n1:=JyB k Af;refine uA _ _ (J:=[.str (f k).l,(f k).pd]) ?_ Ad;rw[(b k).2.1];simp[n1,n2,g])
  have x:=q Bo;rw[Jiy,JbR];rw[wC _ _ (d:=.lst Ur) _ rfl,wC _ _ (d:=.int m) _ (by simp[x]),JF];rw[Zt];exact JC _ _ E rfl
def hit (a:Ac) (r:Row):Bool:=(lawM r.ps a).isSome
noncomputable def labD:Option Row->D
 |none=>.non
 |some r=>.str r.l
def row0(r:Row)(O:Fm)(U:Ag)(i:Nat)(h:O[i]? =So (So r.d)):evD U SR O=.ok (.str r.l):=by simp[h,Row.d]
def row1(r:Row)(O:Fm)(U:Ag)(i:Nat)(h:O[i]? =So (So r.d)):evD U OB O=.ok r.pd:=by simp[h,Row.d]
structure Row.Fine(r:Row):Prop where
 rl:Ju r.ps
 len:r.ps.length<=1000
def all_rows(rows:Aq)(h:∀r∈rows,aS)(j:BN<=1000)(a:Ac)(g:∀w∈a,w∈wsA)(c:Nat):runD defs (c+4) 18 S2=.ok (.lst ((rows.filter Eu).map λr=>.str r.l)):=by
 rw[JkQ,JcW,JF];refine kL _ _ XX Eu (λr=>.str r.l) ?_ j λr b=>⟨?_,λ_=>row0 r _ _ 0 rfl⟩
 ·simp[D.walk]
 ·have f:=JoZ r.ps a c g (h r b).len;rw[<-JgZ r.ps a (h r b).rl]at f;refine pA _ _ ?_;simp[Row.d,Row.pd,f,hit]
theorem first(rows:Aq)(h:∀r∈rows,aS)(g:BN<=1000)(a:Ac)(f:∀w∈a,w∈wsA)(c:Nat):runD defs (c+5) 19 S2=.ok (labD (rows.find? Eu)):=by
 have b:=all_rows rows h g a f c;rw[<-List.head?_filter];generalize rows.filter Eu=fs at b;cases fs with
 |nil=>simp[Joj,lT,b,labD]
 |cons r fs=>
  have:(0:Int)<(aX:Int)+1:=by lia
  simp[Joj,lT,b,labD,this]
def JrV(x y:Str):op2 .eq D5 Y5=.ok (.bl (x==y)):=by rw[o_eq _ _ (by simp[D.dep]) (by simp[D.dep])];rfl
noncomputable def nm9:List Str:=XB
noncomputable def lb9:List Str:=[S "t",S "p",S "v",S "ot",S "op",S "ov"]
def names9:List Str:=names5++nm9++lb9
def words9:List Str:=ws9++names5
def is_word(w:Str)(h:w∈words9)(c:Nat):runD defs Bo 1 cL=.ok CW:=by simp only[words9,ws9,names5,rB,mJ,Zf,Zy,fA]at h;rcases h with rfl|rfl|rfl|rfl|rfl|rfl|rfl|rfl|rfl|rfl|rfl|rfl|rfl|rfl<;>rfl
def is_name(w:Str)(h:w∈names9)(c:Nat):runD defs Bo 2 cL=.ok CW:=by simp only[names9,nm9,lb9,names5,rB,mJ,Zf,Zy,fA]at h;rcases h with rfl|rfl|rfl|rfl|rfl|rfl|rfl|rfl|rfl|rfl|rfl|rfl|rfl<;>rfl
def Part.vp:Part->Prop
 |.word x=>x∈words9
 |.one n b=>n∈names9/\(∀w∈b,w∈words9)/\b≠[]/\b.length<=4/\b.Pairwise LtS
 |.any n=>n∈names9
 |.number n=>n∈names9
 |.rest n=>n∈names9
def lJ(J:Ak)(lo hi:Int)(c:Nat):runD defs A6 3 [.tup J,.int lo,.int hi]=.ok (.bl (decide (lo<=(Ae:Int))&&decide ((Ae:Int)<=hi))):=by rw[Jfr,JaU,JF];exact zF _ _ (p:=To) rfl λ_=>zF _ _ OZ λ_=>Jh _ _ rfl rfl rfl
def are_words(ws:Ac)(h:∀w∈ws,w∈words9)(f:AY<=1000)(c:Nat):runD defs (c+3) 4 [.tup HV]=.ok CW:=by rw[Jjk,JbV,JF];have:=fD DB QcB (src:=.walk Ap) (e:=.call 1 DY) X4 (λ_=>D.bl To) rfl f λw b=>Jl _ _ rfl (is_word w (h w b) c);refine JC _ _ this ?_;have:=iJ (λ_:Str=>To) ws;simp[op1,this]
theorem Joc:∀a b:List Str,zipD DN (b.map .str)=(a.zip b).map λp=>.tup [.str p.1,.str p.2]
 |[],b=>by simp[zipD]
 |x::a,[]=>by simp[zipD]
 |x::a,y::b=>by simp[zipD,Joc a b]
theorem JjE:∀f:List Str,f.Pairwise LtS->∀p∈f.zip (f.drop 1),LtS p.1 p.2
 |[],_,p,b=>by simp at b
 |[x],_,p,b=>by simp at b
 |x::y::f,h,p,b=>by
  simp only[List.drop_succ_cons,List.drop_zero,sF,Zf]at b
  rw[sG]at h
  rcases b with rfl|b
  ·exact h.1 y Ad
  ·exact JjE (y::f) h.2 p (by simpa using b)
theorem JxE(ws:Ac)(h:∀w∈ws,w∈words9)(g:ws≠[])(u:AY<=4)(hs:ws.Pairwise LtS)(c:Nat):runD defs (c+4) 6 [.tup HV]=.ok CW:=by
 have f:=lJ HV 1 4 Bo;have o:=are_words ws h Af c;have b:1<=AY:=by
  cases ws with
  |nil=>exact absurd rfl g
  |cons a t=>simp
 have j:(decide ((1:Int)<=('Ɉ'.length:Int))&&decide (('Ɉ'.length:Int)<=4))=To:=by rw[Zi,Zc,Zw,Zw];lia
 rw[j]at f;have s:evD Bi VQ QcB=.ok C4:=
  fH _ _ (p:=Fo) (q:=Fo) IF λ_=>JT _ _ (pA _ _ (Jl _ _ rfl o))
 rw[Jcu,JW,gD _ _ _ _ s,if_neg 'y',JF];have l:evD Bi OD QcB=.ok (.lst ('亰'.map λp=>.tup [.str p.1,.str p.2])):=by
  refine Jh _ _ (x:=.tup HV) (y:=.tup ((ws.drop 1).map .str)) rfl ?_ (by rw[JuS,Joc]);cases ws with
  |nil=>exact absurd rfl g
  |cons w t=>simp[cut1,op1]
 have:=Jgb Bi QcB (e:=.bi .lt Ap A1) (λp:Str×Str=>.str p.1) (λp=>.str p.2) (λp=>.bl (ltS p.1 p.2)) l BR λp _=>rfl;refine JC _ _ this ?_;rw[show(λp:Str×Str=>D.bl (ltS p.1 p.2))=λp=>D.bl ((λp:Str×Str=>ltS p.1 p.2) p)from rfl];have m:=iJ (λp:Str×Str=>ltS p.1 p.2) '亰';simp only[op1,m];congr 2;rw[uL,uB];intro p b;have:=JjE ws hs p b;simp only[pC,id,ltS,Zw];exact this
def is_part(p:Part)(h:p.vp)(c:Nat):runD defs (c+5) 7 [p.d]=.ok CW:=by
 have kind:∀(k:Str)(n:Str),(k=S "any"\/k=S "number"\/k=S "rest")->n∈names9->runD defs (c+5) 7 [.tup Qed]=.ok CW:=λk n l j=>by have b:=is_name n j Bo;have f:=lJ Qed 2 3 (c+3);rw[JdW,uO];rcases l with rfl|rfl|rfl<;>exact(sO _ _ (JT _ _ (p:=To) NB)).trans ('ɵ'.trans ('ɵ'.trans ('ɵ'.trans ((JF _ _ _).trans (zF _ _ (p:=To) (q:=To) rfl λ_=>Jl _ _ rfl b)))))
 cases p with
 |word x=>have b:=is_word x h Bo;have f:=lJ PN 2 3 (c+3);rw[JdW,uO];exact(sO _ _ (JT _ _ (p:=To) NB)).trans ('ɵ'.trans ('ɵ'.trans (sR _ _ (B:=.skip) rfl (zR _ _ Qco))))
 |one n ws=>have b:=is_name n h.1 Bo;have f:=lJ Qs 2 3 (c+3);have g:=JxE ws h.2.1 h.2.2.1 h.2.2.2.1 h.2.2.2.2 c;rw[JdW,uO];exact(sO _ _ (JT _ _ (p:=To) NB)).trans (sR _ _ (B:=.skip) rfl (zR _ _ (zF _ _ (p:=To) (q:=To) rfl λ_=>zF _ _ (p:=To) (q:=To) Qco λ_=>Jl _ _ rfl g)))
 |any n=>exact kind _ n Be h
 |number n=>exact kind _ n (.inr Be) h
 |rest n=>exact kind _ n (.inr c6) h
def has_twice(xs:Ac)(h:Ah<60)(c:Nat):runD defs A6 5 [.lst (xs.map .str)]=.ok (.bl (xD xs)):=by rw[JiP,JbP,JF];refine Jh _ _ (x:=.int (Jn xs).length) (y:=.int Ah) (JC _ _ rfl (by simp[op1,JV,h])) (JC _ _ rfl (by simp[op1])) ?_;simp[op2,xD]
theorem JkF:∀b:List Part,(b.filter λp=>!p.isWord).map (λp=>D.str aR)=(jA b).map .str
 |[]=>rfl
 |p::b=>by
  have f:=JkF b
  unfold jA at f⊢
  rw[kG,ZW,<-f]
  unfold Part.hole
  cases g:p.isWord<;>simp[nF,g]
def Jxd(p:Part)(O:Fm)(U:Ag)(i:Nat)(h:O[i]? =So bN):evD U OB O=.ok (.str aR):=by cases p<;>simp[h,Part.d,Part.name]
def hole_names(ps:AG)(b:Ao<=1000)(c:Nat):runD defs Bo 9 J6=.ok (.lst ((jA ps).map .str)):=by rw[JhO,Jbt,JF,<-JkF];exact kL _ _ Yk (λp=>!p.isWord) (λp=>.str aR) rfl b λp f=>⟨pA _ _ (Jl _ _ rfl (hole p c)),λ_=>Jxd p _ _ 0 rfl⟩
def patB (ps:AG):Bool:=decide (Ao<=6)&&!(ps.dropLast.any Yd)&&!(xD (jA ps))
def JmY(p:Part)(O:Fm)(U:Ag)(i:Nat)(h:O[i]? =So bN):evD U (.bi .eq SR OA) O=.ok (.bl Yb):=by cases p<;>simp[h,Part.d,Part.isRest,JrV]
theorem JkA(xs:List α):cutD xs No (So (-1))=xs.dropLast:=by
 have b:(-1+(Ah:Int)).toNat=Ah-1:=by lia
 simp[cutD,six,b,List.dropLast_eq_take]
theorem JhX:∀ps:List Part,(jA ps).length<=Ao
 |[]=>by simp[jA]
 |p::ps=>by
  have:=JhX ps
  have b:p.hole.length<=1:=by
   unfold Part.hole;split<;>simp
  have e:jA (p::ps)=p.hole++jA ps:=by simp[jA]
  rw[e,Zn,Zk];lia
theorem is_pattern(ps:AG)(h:∀p∈ps,p.vp)(s:Ao<60)(c:Nat):runD defs (c+6) 10 J6=.ok (.bl (patB ps)):=by
 have f:=lJ DW 0 6 (c+4);rw[show(decide ((0:Int)<=('ȳ'.length:Int))&&decide (('ȳ'.length:Int)<=6))=decide (Ao<=6)from by
  rw[Zi,Zx 'h',nG];exact pF.mpr Af]at f
 have m:evD Cn Wm QcA=.ok CW:=by refine JC _ _ (fD _ _ Yk (λ_=>D.bl To) rfl Af λp b=>Jl _ _ rfl (is_part p (h p b) c)) ?_;have:=iJ (λ_:Part=>To) ps;simp[op1,this]
 have j:evD Cn WO QcA=.ok (.bl (ps.dropLast.any Yd)):=by
  have o:evD Cn (.walk TZ) QcA=.ok (.lst (ps.dropLast.map Yk)):=by have:=JkA DW;simp[op1,this,D.walk,List.map_dropLast]
  refine JC _ _ (fD _ _ Yk (λp=>D.bl Yb) o BR λp b=>JmY p _ _ 0 rfl) ?_;have:=iJ Yd ps.dropLast;simp only[op1,this,tL,pC];rfl
 have g:=hole_names ps Af (c+3);have l:=has_twice (jA ps) (by have:=JhX ps;lia) (c+4);rw[JgM,Jbp];rw[gD _ _ _ _ (fH _ _ (p:=!decide (Ao<=6)) (q:=Fo) IF λ_=>JT _ _ (pA _ _ m))];rw[gD _ _ _ _ (pA _ _ j),JF,JT _ _ (Jl _ _ (Jl _ _ rfl g) l)];unfold patB;cases decide (Ao<=6)<;>cases ps.dropLast.any Yd<;>simp
def is_row(r:Row)(f:r.l∈names9)(h:∀p∈r.ps,p.vp)(j:r.ps.length<60)(c:Nat):runD defs (c+7) 11 [r.d]=.ok (.bl (patB r.ps)):=by have b:=lJ Qec 2 2 (c+5);have l:=is_name r.l f (c+4);have g:=is_pattern r.ps h j c;rw[Jpk,Jfw,JF];show _=Rs.ok (D.bl (To&&(To&&patB r.ps)));exact zF _ _ (Jk _ _ rfl b) λ_=>zF _ _ (Jl _ _ Lm l) λ_=>Jl _ _ Ll g
def tabB (rows:Aq):Bool:=decide (BN<=8)&&rows.all (λr=>patB r.ps)&&!xD 'Ӽ'
def is_table(rows:Aq)(m:∀r∈rows,r.l∈names9)(h:∀r∈rows,∀p∈r.ps,p.vp)(o:∀r∈rows,Z4<60)(l:BN<60)(c:Nat):runD defs (c+8) 12 [.tup Ej]=.ok (.bl (tabB rows)):=by
 have f:=lJ Ej 0 8 (c+6);rw[show(decide ((0:Int)<=((rows.map XX).length:Int))&&decide (((rows.map XX).length:Int)<=8))=decide (BN<=8)from by
  rw[Zi,Zx 'h',nG];exact pF.mpr Af]at f
 have s:evD Eb Wo [So EO]=.ok (.bl (rows.all λr=>patB r.ps)):=by refine JC _ _ (fD _ _ XX (λr=>D.bl (patB r.ps)) rfl Af λr b=>Jl _ _ rfl (is_row r (m r b) (h r b) (o r b) c)) ?_;have:=iJ (λr:Row=>patB r.ps) rows;simp[op1,this,uL,pC]
 have j:evD Eb Uh [So EO]=.ok (.lst ('Ӽ'.map .str)):=by rw[Zt];exact fD _ _ XX Se rfl Af λr _=>row0 r _ _ 0 rfl
 have g:=has_twice 'Ӽ' (by simpa using l) (c+6);rw[Jlk,JcM];rw[gD _ _ _ _ (fH _ _ (p:=!decide (BN<=8)) (q:=!(rows.all λr=>patB r.ps)) IF λ_=>JT _ _ (pA _ _ s))];rw[JF,JT _ _ (Jl _ _ j g)];unfold tabB;cases decide (BN<=8)<;>cases rows.all (λr=>patB r.ps)<;>simp
def ok_vp(p:Part)(h1:p.ok)(h:p.srt)(b:p.isWord=Fo->p.name∈names5):p.vp:=by
 have f:∀n∈names5,n∈names9:=by decide+kernel
 have g:∀n∈ws9,n∈words9:=by decide+kernel
 cases p with
 |word x=>exact g x h1
 |one n l=>exact⟨f n Qau,λw j=>g w (h1.1 w j),h1.2,Zq h.2 AB,h.1.1⟩
 |any n=>exact f n Qau
 |number n=>exact f n Qau
 |rest n=>exact f n Qau
def Joe(ps:AG)(p:Part)(f:p∈ps)(b:p.isWord=Fo):p.name∈jA ps:=by unfold jA;rw[List.mem_flatMap];exact⟨p,f,by simp[Part.hole,b]⟩
def Row.Ok.vp{M:Nat}(h:r.Ok M):∀p∈r.ps,p.vp:=λp b=>ok_vp p (h.ok p b) (h.srt p b) λf=>h.hol.subset (Joe r.ps p b f)
theorem JaX:∀b:List Part,Ju b->b.dropLast.any Yd=Fo
 |[],_=>rfl
 |[p],_=>rfl
 |p::q::b,h=>by
  rw[List.dropLast_cons₂,rD]
  have f:Ju (q::b)/\p.isRest=Fo:=by
   refine⟨h.2,?_⟩;cases g:p.isRest with
   |false=>rfl
   |true=>exact absurd (h.1 g) Ad
  rw[f.2,JaX (q::b) f.1];rfl
def names5_nodup:names5.Nodup:=by decide+kernel
def Row.Ok.pat{M:Nat}(h:r.Ok M)(g:M<=5):patB r.ps=To:=by have j:=aL;have f:=JaX r.ps h.rl;have b:=wO UC;unfold patB;rw[f,b,Zx 'h'];rfl
def tU(U:Ag)(O:Fm){p:Bool}(x:Str)(rest:Sx)(b:evD U c O=.ok Cq):Jf (exD U (.seq (.ite c (.raise x .nil) .skip) rest) O)=if p then .ex x else Jf Rl:=by
 rw[yA,zM,b];cases p with
 |true=>simp[lK]
 |false=>simp
noncomputable def mntR (hs:AG) (r:Row):Row:=⟨r.l,hs++r.ps⟩
def mounted(hs:AG)(m:∀p∈hs,p.vp)(q:hs.length<=20)(rows:Aq)(h:∀r∈rows,∀p∈r.ps,p.vp)(j:∀r∈rows,Z4<=20)(f:BN<=1000)(c:Nat):
  runD defs (c+7) 20 [.tup LF,.tup Ej]=if rows.all (λr=>patB (hs++r.ps))then .ok (.tup ('ϲ'.map XX))else .ex K3:=by
 have l:=fD (runD defs (c+6)) [So DD,So EO,No] (src:=.walk A1) (e:=.tup Wl) XX (λr=>'ԥ'.d) rfl f λr b=>by have:=j r b;refine uA _ _ (J:=[.str r.l,'ԥ'.pd]) (Jg _ _ Lm (Jg _ _ (Jh _ _ (x:=.tup LF) rfl Ll ?_) rfl)) Ad;unfold Row.pd mntR;rw[JiO 'Â',ZW]
 rw[Jow,JdQ,wC _ _ (d:=.tup ('ϲ'.map XX)) _ (JC _ _ l (by rw[Zt];rfl))];simp only[List.set];have o:evD (runD defs (c+6)) WE [So DD,So EO,So (.tup ('ϲ'.map XX))]=.ok (.bl (rows.all λr=>patB (hs++r.ps))):=by
  refine JC _ _ (fD _ _ (rs:=rows) (λr=>'ԥ'.d) (λr=>D.bl (patB (hs++r.ps))) (by simp[D.walk,Zt,pC]) f λr b=>?_) ?_
  ·have:=j r b;refine Jl _ _ (row1 'ԥ' _ _ 0 rfl) (is_pattern (hs++r.ps) ?_ BR c);intro p g;rw[ZK]at g;exact g.elim (m p) (h r b p)
  ·have:=iJ (λr:Row=>patB (hs++r.ps)) rows;simp only[op1,this,uL,pC];rfl
 rw[tU _ _ _ _ (JT _ _ (pA _ _ o)),JF];cases rows.all λr=>patB (hs++r.ps)<;>rfl
def joined(f b:Aq)(h:f.length+b.length<60)(c:Nat):runD defs Bo 21 [.tup (f.map XX),.tup (b.map XX)]=if decide ((f++b).length<=8)&&!xD ((f++b).map X6)then .ok (.tup ((f++b).map XX))else .ex K3:=by
 have j:op2 .add (.tup (f.map XX)) (.tup (b.map XX))=.ok (.tup ((f++b).map XX)):=by rw[JiO 'Â',ZW]
 rw[JpC,Jga,wC _ _ (d:=.tup ((f++b).map XX)) _ (Jh _ _ rfl rfl j)];simp only[List.set];have g:(f++b).length<60:=by simpa using h
 generalize f++b=rs at g;have o:evD F2 UJ WS=.ok (.bl (!decide (F3<=8))):=by
  refine Jh _ _ (x:=.int F3) (y:=.int 8) (JC _ _ rfl (by simp[op1])) rfl ?_;simp only[op2,onII];congr 2;by_cases q:F3<=8
  ·rw[Zx q,Zs 'h'];rfl
  ·rw[Zs q,Zx 'h'];rfl
 have m:evD F2 UI WS=.ok (.lst ((rs.map X6).map .str)):=by rw[Zt];exact fD _ _ XX Se rfl Af λr _=>row0 r _ _ 0 rfl
 have l:=has_twice (rs.map X6) (by simpa using g) c;rw[tU _ _ _ _ o,tU _ _ _ _ (pA _ _ (Jl _ _ m l)),JF];cases decide (F3<=8)<;>cases xD (rs.map X6)<;>rfl
noncomputable abbrev Kn:=List (Str×List Row)
variable{A:Kn}
noncomputable def tD (rows:Aq):D:=.tup Ej
noncomputable def ksD (A:Kn):List D:=A.map λp=>.str p.1
def vsD (A:Kn):List D:=A.map λp=>tD p.2
noncomputable def look (n:Str):Kn->Option Kb
 |[]=>No
 |p::A=>if p.1==n then So p.2 else look n A
theorem JrH(n:Str):∀A:Kn,iA BS Lf D4='ŉ'.map tD
 |[]=>rfl
 |p::A=>by
  have b:=JrH n A
  unfold ksD vsD at b⊢
  simp only[Zg,iA,lX,look,b]
  split<;>rfl
theorem wQ(n:Str):∀A:Kn,'Ș'.any (λa=>a.eqv BS)='ŉ'.isSome
 |[]=>rfl
 |p::A=>by
  have b:=wQ n A
  unfold ksD at b⊢
  simp only[Zg,rD,lX,look,b]
  cases p.1==n<;>rfl
def put (n:Str) (t:Aq) (A:Kn):Kn:=if(look n A).isSome then A.map (λp=>(p.1,if p.1==n then t else p.2))else A++[(n,t)]
theorem JvW(n:Str)(t:Aq):∀A:Kn,setD BS (tD t) Lf D4=A.map λp=>tD (if p.1==n then t else p.2)
 |[]=>rfl
 |p::A=>by
  have b:=JvW n t A
  unfold ksD vsD at b⊢
  simp only[Zg,setD,lX,b]
  by_cases q:(p.1==n)=To<;>simp[q]
def put_D(n:Str)(t:Aq)(A:Kn):putD BS (tD t) Lf D4=(ksD G3,vsD G3):=by
 unfold putD put;rw[wQ];cases look n A with
 |none=>simp[ksD,vsD]
 |some x=>simp only[nP,if_true,JvW];simp[ksD,vsD,Zt,pC]
def look_put(n m:Str)(t:Aq):∀A:Kn,look m G3=if n==m then So t else look m A:=by
 have j:∀A:Kn,look m (A++[(n,t)])=match look m A with|some x=>So x|none=>if n==m then So t else No:=λA=>by
  induction A with
  |nil=>simp[look]
  |cons p A b=>simp only[rB,look,b];split<;>rfl
 have o:∀A:Kn,'ŉ'.isSome=To->look m (A.map λp=>(p.1,if p.1==n then t else p.2))=if n==m then So t else look m A:=λA=>by
  induction A with
  |nil=>intro h;cases h
  |cons p A b=>
   intro h;simp only[Zg,look]at h⊢;by_cases q:p.1=n
   ·subst q;have e:(p.1==p.1)=To:=by simp
    simp only[e,if_true];cases z:p.1==m with
    |true=>rfl
    |false=>
     simp only[Zl,ZF];cases y:(look p.1 A).isSome with
     |true=>rw[b y,z];rfl
     |false=>
      have:∀B:Kn,(look p.1 B).isSome=Fo->look m (B.map λr=>(r.1,if r.1==p.1 then t else r.2))=look m B:=λB=>by
       induction B with
       |nil=>intro _;rfl
       |cons r B f=>
        intro hB;simp only[Zg,look]at hB⊢;cases w:r.1==p.1 with
        |true=>rw[w]at hB;cases hB
        |false=>rw[w]at hB;simp only[Zl,ZF]at hB⊢;rw[f hB]
      exact this A y
   ·have e:(p.1==n)=Fo:=by rw[ZA];exact q
    simp only[e,Zl,ZF]at h⊢;rw[b h];cases z:p.1==m with
    |true=>have:n≠m:=λl=>q (by rw[l];exact fF z);simp[this]
    |false=>simp
 intro A;unfold put;split
 ·exact o A (by assumption)
 ·rename_i g;rw[j];by_cases q:n=m
  ·subst q;cases z:look n A with
   |none=>rfl
   |some x=>rw[z]at g;exact absurd rfl g
  ·have e:(n==m)=Fo:=by rw[ZA];exact q
   rw[e];cases look m A<;>rfl
noncomputable def kys (A:Kn):List Str:=A.map (·.1)
theorem look_mem(n:Str):∀A:Kn,'ŉ'.isSome=To↔n∈kys A
 |[]=>by simp[look,kys]
 |p::A=>by
  have b:=look_mem n A
  unfold kys at b⊢
  simp only[look,Zg,Zf]
  by_cases q:p.1=n
  ·simp[q]
  ·have e:(p.1==n)=Fo:=by rw[ZA];exact q
   rw[e]
   simp only[Zl,ZF,b]
   constructor
   ·exact .inr
   ·rintro(z|z)
    ·exact absurd z.symm q
    ·exact z
theorem Jni{n:Str}:∀{A:Kn},look n A=So t->(n,t)∈A
 |[],h=>by cases h
 |p::A,h=>by
  simp only[look]at h
  split at h
  ·rename_i q;cases h;rw[<-fF q];simp
  ·exact Zm _ (Jni h)
structure TabOk(t:Aq):Prop where
 lb:∀r∈t,r.l∈names9
 vp:∀r∈t,∀p∈r.ps,p.vp
 pt:∀r∈t,patB r.ps=To
 ln:t.length<=8
 nt:xD (t.map X6)=Fo
structure KOk(A:Kn):Prop where
 nd:'Ք'.Nodup
 nm:∀n∈kys A,n∈nm9
 tb:∀n t,look n A=So t->TabOk t
theorem JsF(r:Row):r.d.dep<=4:=by have:=JlP r.ps;simp only[Row.d,Row.pd,D.dep,deps];lia
theorem JiU(t:Aq):(tD t).dep<=5:=by
 simp only[tD,D.dep];have:deps (t.map XX)<=4:=yS λd b=>by rw[Zv]at b;obtain⟨r,_,rfl⟩:=b;exact JsF r
 lia
def JtG(p:Part):Jj p.d=To:=by
 have:∀b:List Str,Jb (b.map X4)=To:=λb=>by
  induction b with
  |nil=>rfl
  |cons w b f=>simpa[Jb,Jj]using f
 cases p<;>simp[Part.d,Jj,Jb,this]
theorem JfD:∀ps:List Part,Jb DW=To
 |[]=>rfl
 |p::ps=>by simp[Jb,JtG p,JfD ps]
theorem JmN:∀t:List Row,Jb K2=To
 |[]=>rfl
 |r::t=>by simp[Jb,Row.d,Row.pd,Jj,JfD r.ps,JmN t]
def JR(t:Aq):Jj (tD t)=To:=by simp[tD,Jj,JmN]
theorem xM:∀A:Kn,Jb D4=To
 |[]=>rfl
 |p::A=>by
  have b:=xM A
  unfold vsD at b⊢
  simp[Jb,JR,b]
theorem Jng:∀t:List Row,imms K2=To
 |[]=>rfl
 |r::t=>by simp[imms,Row.d,Row.pd,D.imm,yU r.ps,Jng t]
def Jwh(t:Aq):(tD t).imm=To:=by simp[tD,D.imm,Jng]
def JtY(A:Kn):JM Lf=So Co:=by have:=JV Co;simpa[kys,ksD,Zt,pC]using this
theorem Jyk(z:Bool)(A:Kn)(h:'Ք'.Nodup)(b:A.length<60):op1 .sortD Km=.ok (.lst ('Ş'.map .str)):=by
 have e:'Ք'.length=A.length:=by simp[kys]
 simp only[op1,JtY];rw[if_pos ⟨h,by lia⟩]
def Jui{B:Kn}(h:∀m,look m A=look m B):Jn Co=Jn (kys B):=
 Jer _ _ (JJ _) (JJ _) λk=>by rw[Jy,Jy,<-look_mem,<-look_mem,h]
def in_D(z:Bool)(n:Str)(A:Kn):op2 QaI BS Km=.ok (.bl 'ŉ'.isSome):=by rw[<-wQ];show(if Fo=Fo/\keyD Fo BS=To then Rs.ok (D.bl _)else Rs.sk)=_;exact if_pos Cv
def ni_D(z:Bool)(n:Str)(A:Kn):op2 (.dNi Fo) BS Km=.ok (.bl (!(look n A).isSome)):=by rw[<-wQ];show(if Fo=Fo/\keyD Fo BS=To then Rs.ok (D.bl _)else Rs.sk)=_;exact if_pos Cv
def yW(z:Bool){n:Str}(h:look n A=So t):op2 Ei Km BS=.ok (tD t):=by show(if Fo=Fo/\keyD Fo BS=To then Rs.ofOpt _ else Rs.sk)=_;rw[if_pos 'Ĩ',JrH,h];rfl
section
variable{w:Bool}{U:Ag}{bc:AI}{s:Bs}{env1:Fm}{r:Bool}{f:Nat}{ns:Ac}{p:Px}{fs:Ak}{J:Ak}{d st:D}{c:Str}
def qE{b:Bs}(h:exO w U bc s O=.ok .nx env1):exO w U bc (.seq s b) O=exO w U bc b env1:=by simp only[exO,h,Rq.bind]
def yX{b:Bs}(h:exO w U bc s O=.ex c env1):exO w U bc (.seq s b) O=.ex c env1:=by simp only[exO,h,Rq.bind]
def xW(h:evD U p O=.ok d)(b:Jj d=To):exO w U bc (.set i Z0) O=.ok .nx E9:=by simp only[exO,evB,h,Rx.of,Rx.next,b,if_true]
def uY(h:evD U p O=.ex c):exO w U bc (.set i Z0) O=.ex c O:=by simp only[exO,evB,h,Rx.of,Rx.next]
def iX{x y:Bs}{b:Bool}(h:evD U p O=.ok Y0):exO w U bc (.ite Z0 x y) O=if b then exO w U bc x O else exO w U bc y O:=by simp only[exO,evB,h,Rx.of,Rx.next];cases b<;>rfl
def sX(h1:O[i]? =So (So CD))(g:evD U p O=.ok Bc)(b:(plE (O.set i No)&&Jb J)=To)(h:bc f CD J=.ok d st):evB U bc N1 O=.ok d Qam:=by simp only[evB,h1,g,b,if_true,h,Rx.lay]
def kK(h1:O[i]? =So (So CD))(g:evD U p O=.ok Bc)(b:(plE (O.set i No)&&Jb J)=To)(h:bc f CD J=.ok d st):exO w U bc (.eff N1) O=.ok .nx Qam:=by simp only[exO,sX h1 g b h,Rx.next]
def a_nx{q:Rq}(h:q=.ok .nx (So Ht::e)):ansB CD q=.ok .non Ht:=by simp[h,ansB,xC]
def a_rt{q:Rq}(h:q=.ok Y2 (So Ht::e)):ansB CD q=.ok d Ht:=by simp[h,ansB,xC]
def a_ex{q:Rq}(h:q=.ex c (So Ht::e)):ansB CD q=.ex c Ht:=by simp[h,ansB,xC]
end
def ob (a:Nat) (A:Kn) (dn un:Ak):D:=.obj a nsS Wq
structure Dn(dn un:Ak):Prop where
 pl:Jb dn=To
 ln:dn.length<1000
 pu:Jb un=To
theorem plains_app:∀f b:List D,Jb (f++b)=(Jb f&&Jb b)
 |[],b=>rfl
 |x::f,b=>by simp[Jb,plains_app f b,Bool.and_assoc]
section
variable{n:Str}{d:D}
def Jtv(h:Fq)(b:plE O=To):chgM To B1 (appG B1 d) (So B8::O)=.ok .nx (So (ob a A (dn++[d]) un)::O):=by simp[chgM,ob,nsS,S,List.lookup,appG,h.pl,h.pu,h.ln,putN,othD,b,xM,Jb,Jj,Jp]
def JuI(h:Fq)(b:plE O=To):chgF Cu (.mls Cu []) (So B8::O)=.ok .nx (So Qcp::O):=by simp[chgF,ob,nsS,S,putN,wI,h.pl,h.pu,b,xM,Jb,Jj,Jp]
def JtM(h:Fq)(b:A.length<1000)(f:plE O=To):chgM Fo (S "tables") (putG BS (tD t)) (So B8::O)=.ok .nx (So QbQ::O):=by
 have g:'Ș'.length<1000:=by simpa[ksD]using b
 simp[chgM,ob,nsS,S,List.lookup,putG,h.pl,h.pu,g,putN,othD,f,xM,Jb,Jj,put_D,Jp]
def mU(h:Fq)(f:A.length<1000)(c:Nat):runB defs bdefs A6 0 B8 [.str n,tD t]=.ok .non QbQ:=by rw[JgC];refine a_nx (e:=Qb3) ?_;rw[tV,iX (b:=Fo) rfl,if_neg ZH];have:=JtM (a:=a) (n:=n) (t:=t) h f (O:=Qb3) (by simp[plE,Jj,JR]);simp only[exO,evD,mF,lF];rw[show(Jj (tD t)&&keyD Fo BS)=To by rw[JR];rfl,if_pos rfl];exact this
def optT:Option (List Row)->D
 |none=>.non
 |some t=>tD t
def vY(o:Option Kb):Jj (optT o)=To:=by
 cases o
 ·rfl
 ·exact JR _
def stp (w:Str) (n:Str) (o:Option Kb) (x:D):D:=.tup [.str w,.str n,optT o,x]
theorem do_step{A':Kn}{x:D}{w:Str}(h:Fq)(o:dn.length+1<1000)(b:Jj x=To)(c:Nat)(hs:∀dn,Dn dn []->runB defs bdefs A6 0 Qcp [.str n,x]=.ok .non (ob a A' dn [])):
  runB defs bdefs Bo 1 B8 [.str w,.str n,x]=.ok .non (ob a A' Kl []):=by
 rw[Jlp];have j:plE Lp=To:=by simp[plE,Jj,b]
 have g:∀un,Jb un=To->Dn Kl un:=λun l=>⟨by simp[plains_app,h.pl,Jb,stp,Jj,vY,b],by simp;lia,l⟩;refine a_nx (e:=Lp) ?_;rw[nV,qE (env1:=So (ob a A Kl un)::Lp),qE (env1:=So Qcq::Lp)]
 ·exact kK (O:=So Qcq::Lp) (i:=0) (J:=[.str n,x]) rfl rfl (by simp[plE,Jb,Jj,b]) (hs _ (g [] rfl))
 ·exact JuI (g un h.pu) j
 ·have m:evD F2 VO QR=.ok (stp w n XD x):=by
   have f:evD F2 Eg QR=.ok Te:=rfl;refine uA _ _ (J:=[.str w,.str n,optT XD,x]) (Jg _ _ rfl (Jg _ _ rfl (Jg _ _ ?_ rfl))) Ad;rw[e_if _ _ 'դ'];cases q:look n A with
   |none=>rfl
   |some t=>exact Jh _ _ f rfl (yW Fo q)
  simp only[exO,m];rw[show Jj (stp w n XD x)=To by simp[stp,Jj,Jb,vY,b],if_pos rfl];exact Jtv h j
end
section
variable{n:Str}
def nK:op1 DS B8=.ok B8:=by simp[op1,ob]
def Jjy{n:Str}(h:n∈nm9):n∈names9:=by unfold names9;simp[h]
def table_of(g:n∈nm9)(c:Nat):runD defs (c+3) 49 S1=match look n A with
  |some t=>.ok (tD t)
  |none=>.ex Ma:=by
 have f:runD defs (c+3) 49 S1=Jf (exD DB sV [So B8,So BS]):=rfl;have b:evD DB Eg [So B8,So BS]=.ok Te:=rfl;rw[f,sV,tU _ _ _ _ (fH _ _ (p:=Fo) 'Κ' λ_=>Jh _ _ rfl b (ni_D Fo n A)),JF];cases q:look n A with
 |none=>rfl
 |some t=>exact Jh _ _ b rfl (yW Fo q)
def m_put(h:Fq)(j:dn.length+1<1000)(l:A.length<1000)(g:n∈nm9)(c:Nat):runB defs bdefs (c+3) 2 B8 [.str n,tD t]=.ok (.bl 'ŉ'.isSome) (ob a G3 (dn++[stp HL n XD (tD t)]) []):=by
 rw[Jxo];have f:evD DB Eg QQ=.ok Te:=rfl;refine a_rt (e:=[So BS,So (tD t),So (.bl 'ŉ'.isSome)]) ?_;rw[wR,qE (env1:=QQ)]
 ·rw[qE (xW 'դ' rfl)];simp only[List.set];rw[qE (kK (O:=[So B8,So BS,So (tD t),So (.bl 'ŉ'.isSome)]) (i:=0) (J:=[.str HL,.str n,tD t]) rfl rfl (by simp[plE,Jb,Jj,JR]) (do_step h j (JR t) c λdn h=>mU h l c))];rfl
 ·rw[iX (b:=Fo) 'Κ',if_neg ZH];rfl
def JrY(f:e[0]? =So (So B8))(hi:e[i]? =So (So BS))(b:n∈nm9)(c:Nat):evD Bi (.call 49 (.cons Rj (.cons B2 .nil))) e=match look n A with
  |some t=>.ok (tD t)
  |none=>.ex Ma:=
 Jk _ _ (J:=S1) (Jg _ _ (JC _ _ (by rw[yD,f]) nK) (Jg _ _ (by rw[yD,hi]) rfl)) (table_of b c)
variable{o:Str}{hs:AG}
def mkT (hs:AG) (u:Aq):List Row:=u.map (mntR hs)
def okM (hs:AG) (t u:Aq):Bool:=u.all (λr=>patB (hs++r.ps))&&(decide ((t++mkT hs u).length<=8)&&!xD ((t++mkT hs u).map X6))
def wZ{ps:AG}(h:patB ps=To):Ao<=6:=by unfold patB at h;simp only[Zc,Zw]at h;exact h.1.1
theorem jm(h:∀p∈hs,p.vp)(w:hs.length<=6){u:Aq}(j:YO)(f:TabOk u)(c:Nat){x y z:Px}(h1:evD Eb x e=.ok (tD t))(v:evD Eb y e=.ok DD)(s:evD Eb z e=.ok (tD u)):
  evD Eb (.call 21 (.cons x (.cons Vp .nil))) e=if okM hs t u then .ok (tD DA)else .ex K3:=by
 have g:=mounted hs h Af u f.vp (λr l=>Zq (wZ (f.pt r l)) AB) (Zq f.ln AB) c;have b:evD Eb Vp e=if u.all (λr=>patB (hs++r.ps))then .ok (tD dF)else .ex K3:=Jk _ _ (J:=[.tup LF,tD u]) (Jg _ _ v (Jg _ _ s rfl)) g;unfold okM;cases q:u.all λr=>patB (hs++r.ps)with
 |false=>rw[q]at b;simp only[Zl,ZF]at b;rw[rR,wN,h1,Rs.bo,wN,b];rfl
 |true=>rw[q]at b;have m:=joined t dF (by have:=j.ln;have:=f.ln;simp only[mkT,Zi];lia) (c+5);simp only[nG];exact Jk _ _ (J:=[tD t,tD dF]) (Jg _ _ h1 (Jg _ _ b rfl)) m
def m_mount(h:Fq)(H:dn.length+1<1000)(v:A.length<1000)(m:Ym)(F:n∈nm9)(G:o∈nm9)(C:∀p∈hs,p.vp)(E:hs.length<=6)(c:Nat):runB defs bdefs (c+8) 3 B8 [.str n,.tup LF,.str o]=match look n A with
  |some t=>match look o A with
   |some u=>if okM hs t u then .ok Qav (ob a (put n DA A) (dn++[stp CV n XD Qav]) [])else .ex K3 B8
   |none=>.ex Ma B8
  |none=>.ex Ma B8:=by
 rw[Jqh,lU];have f:=JrY (a:=a) (A:=A) (dn:=dn) (un:=un) (e:=[So B8,So BS,So DD,So bO,No,No]) (i:=1) rfl rfl F (c+4);cases q:look n A with
 |none=>rw[q]at f;exact a_ex (e:=[So BS,So DD,So bO,No,No]) (yX (uY f))
 |some t=>
  rw[q]at f;rw[qE (xW f (JR t))];simp only[List.set];have g:=JrY (a:=a) (A:=A) (dn:=dn) (un:=un) (e:=NA) (i:=3) rfl rfl G (c+4);cases j:look o A with
  |none=>rw[j]at g;refine a_ex (e:=VF) (yX (uY ?_));have b:evD Eb CY NA=.ok (tD t):=rfl;have s:evD Eb BK NA=.ok DD:=rfl;simp only[rR,wN,g,b,s,Rs.bo,Rs.bind_ex]
  |some u=>
   rw[j]at g;have b:=jm C E (m.tb n t q) (m.tb o u j) c (e:=NA) (x:=.var 4) (y:=.var 2) rfl rfl g;cases z:okM hs t u with
   |false=>simp only[z,Zl,ZF]at b⊢;exact a_ex (e:=VF) (yX (uY b))
   |true=>simp only[z,if_true]at b⊢;refine a_rt (e:=[So BS,So DD,So bO,So (tD t),So Qav]) ?_;rw[qE (xW b (JR _))];simp only[List.set];have l:=do_step (a:=a) (A:=A) (dn:=dn) (un:=un) (A':=put n DA A) (n:=n) (w:=S "mount") (x:=tD DA) h H (JR _) (c+5) λdn h=>mU h v (c+5);rw[q]at l;rw[qE (kK (O:=[So B8,So BS,So DD,So bO,So (tD t),So Qav]) (i:=0) (J:=[.str CV,.str n,tD DA]) rfl rfl (by simp[plE,Jb,Jj,JR,JfD]) l)];rfl
end
def look_of{B:Kn}(h:(kys B).Nodup):∀p∈B,look p.1 B=So p.2:=by
 induction B with
 |nil=>intro p b;cases b
 |cons q B f=>
  intro p b;unfold kys at h f;rw[Zg,oB]at h;simp only[look];rcases Zf.mp b with rfl|b
  ·simp
  ·have:q.1≠p.1:=λz=>h.1 (z▸qD b);rw[show(q.1==p.1)=Fo from by rw[ZA];exact this];exact f h.2 p b
def srt (A:Kn):Kn:='Ş'.map λn=>(n,'ŉ'.getD [])
def Jxx(h:'Ք'.Nodup)(b:A.length<60)(c:Nat):runD defs A6 51 Iw=.ok (.lst ('Ş'.map .str)):=by have f:runD defs A6 51 Iw=Jf (exD HK iU [So B8]):=rfl;rw[f,iU,JF];exact JC _ _ (x:=.dct Fo Fo Lf D4) rfl (Jyk Fo A h b)
def zW(h:'Ք'.Nodup)(b:A.length<60)(c:Nat)(hi:e[i]? =So (So B8)):evD F2 (.call 51 (.cons (.un DS B2) .nil)) e=.ok (.lst ('Ş'.map .str)):=
 Jl _ _ (JC _ _ (by rw[yD,hi]) nK) (Jxx h b c)
def kT(A:Kn):kys Fl=Jn Co:=by simp[kys,srt,Zt,pC]
def gO(A:Kn)(h:'Ք'.Nodup):'Ş'.length=A.length:=by rw[JfT _ h];simp[kys]
def gN{n:Str}(h:n∈Jn Co):look n A=So ('ŉ'.getD []):=by
 rw[Jy,<-look_mem]at h;cases q:look n A with
 |none=>rw[q]at h;cases h
 |some t=>rfl
def Juo{hs:AG}{u:Aq}(m:∀p∈hs,p.vp)(j:YO)(l:TabOk u)(h:okM hs t u=To):TabOk DA:=by
 unfold okM at h;simp only[Zc,Zw,uB,ZV]at h;refine⟨λr b=>?_,λr b p f=>?_,λr b=>?_,h.2.1,h.2.2⟩
 ·rcases ZK.mp b with b|b
  ·exact j.lb r b
  ·unfold mkT at b;rw[Zv]at b;obtain⟨q,g,rfl⟩:=b;exact l.lb q g
 ·rcases ZK.mp b with b|b
  ·exact j.vp r b p f
  ·unfold mkT at b;rw[Zv]at b;obtain⟨q,g,rfl⟩:=b;rcases ZK.mp f with f|f
   ·exact m p f
   ·exact l.vp q g p f
 ·rcases ZK.mp b with b|b
  ·exact j.pt r b
  ·unfold mkT at b;rw[Zv]at b;obtain⟨q,g,rfl⟩:=b;exact h.1 q g
def Jmr(c:Nat)(l:Au):Jv c l≠[]:=by
 cases l with
 |nil=>simp[Jv]
 |cons x l=>
  unfold Jv;split
  ·simp
  ·cases Jv c l<;>simp[jR]
theorem JdV(c:Nat):∀l:List Nat,Jr [c] (Jv c l)=l
 |[]=>rfl
 |x::l=>by
  have b:=JdV c l
  have f:=Jmr c l
  unfold Jv
  cases h:Jv c l with
  |nil=>exact absurd h f
  |cons p r=>
   rw[h]at b
   split
   ·rename_i e
    subst e
    show[]++([x]++Jr [x] (p::r))=x::l
    rw[b];rfl
   ·cases r with
    |nil=>
     have:p=l:=b
     subst this
     rfl
    |cons q r=>
     show(x::p)++([c]++Jr [c] (q::r))=x::l
     rw[<-b];rfl
theorem Jrr{c:Nat}:∀{l:Au},c∈l->∃a b,cutL c l=(a,So b)/\l=a++c::b
 |[],h=>by cases h
 |x::l,h=>by
  unfold cutL
  by_cases e:x=c
  ·rw[if_pos e];exact⟨[],l,rfl,by simp[e]⟩
  ·rw[if_neg e]
   obtain⟨a,b,f,g⟩:=Jrr (l:=l) (by simpa[Ne.symm e]using h)
   exact⟨x::a,b,by rw[f],by rw[g];rfl⟩
def zS(x:Str):mkS XS=x:=rfl
def Jom(l:Au):'Ё'.cps.toList=l:=rfl
def JX(x:Str):x.cps.toList.length=x.length:=ZQ
def len_mk(l:Au):'Ё'.length=l.length:=rfl
def rdP (l:Au):Part:=match l with
 |58::r=>.any (mkS r)
 |35::r=>.number (mkS r)
 |42::r=>.rest (mkS r)
 |l=>if 61∈l then .one (mkS (cutL 61 l).1) ((Jv 124 ((cutL 61 l).2.getD [])).map mkS)else .word SZ
def txP:Part->List Nat
 |.word x=>XS
 |.one n b=>Yr++(61::Jr [124] (b.map (·.cps.toList)))
 |.any n=>58::n.cps.toList
 |.number n=>35::n.cps.toList
 |.rest n=>42::n.cps.toList
def Jgm(l:Au)(h1:l.head? ≠So 58)(f:l.head? ≠So 35)(b:l.head? ≠So 42):rdP l=if 61∈l then .one (mkS (cutL 61 l).1) ((Jv 124 ((cutL 61 l).2.getD [])).map mkS)else .word SZ:=by
 unfold rdP;split
 ·simp at h1
 ·simp at f
 ·simp at b
 ·rfl
def tY(ls:DF):'ǒ'.map (·.cps.toList)=ls:=by rw[Zt];exact(tG λl _=>rfl).trans (List.map_id ls)
def s58:oS ":"=mkS [58]:=by decide+kernel
def s35:oS "#"=mkS [35]:=by decide+kernel
def s42:oS "*"=mkS [42]:=by decide+kernel
def s61:oS "="=mkS [61]:=by decide+kernel
def s124:oS "|"=mkS [124]:=by decide+kernel
def s47:oS "/"=mkS [47]:=by decide+kernel
def Jxu(a b:Au):mkS a++mkS b=mkS (a++b):=Str.ext' (by rw[Str.cps_append];simp[mkS])
def jE(a b:Au)(h:a.length+b.length<=40000):op2 .add (.str Qar) (.str (mkS b))=.ok (.str (mkS (a++b))):=by rw[<-Jxu];exact if_pos (show a.length+b.length<=lD from Zq h AB)
def Jvr(s:Nat)(ls:DF)(h:'ϧ'.length<=20000):op2 .joinS Fe (.lst Gb)=.ok Qan:=by
 have e:JM Gb=So Xk:=by have:=JV Xk;rwa[Zt]at this
 simp only[op2,e,tY];exact if_pos ⟨by show 1<=1000;decide,h⟩
def JtI(s:Nat)(ls:DF)(h:'ϧ'.length<=20000):op2 .joinS Fe (.tup Gb)=.ok Qan:=by
 have e:JM Gb=So Xk:=by have:=JV Xk;rwa[Zt]at this
 simp only[op2,e,tY];exact if_pos ⟨by show 1<=1000;decide,h⟩
def Jgx(l:Au)(s:Nat)(h:l.length<=20000):op2 .splitS Bu Fe=.ok (.lst ((Jv s l).map λp=>.str Qaw)):=if_pos ⟨h,rfl⟩
def rN(l:Au)(s:Nat):op2 .strt Bu Fe=.ok (.bl (decide (l.head? =So s))):=by
 show Rs.ok (D.bl (decide (0+1<=XZ)&&(l.toArray.extract 0 (0+1)==#[s])))=_;cases l with
 |nil=>rfl
 |cons x l=>
  have e:((x::l).toArray.extract 0 (0+1))=#[x]:=by simp
  rw[e];by_cases h:x=s<;>simp[h]
def Jxm(l:Au)(s:Nat):op2 .isin Fe Bu=.ok (.bl (decide (s∈l))):=if_pos rfl
def JoJ(U:Ag)(O:Fm)(i:Nat)(l:Au)(h:O[i]? =So (So Bu))(f:l.length<=20000):evD U (.sl B2 Gi Ek) O=.ok (.str Hs):=by
 have b:cutD l (So 1) No=l.drop 1:=by
  cases l with
  |nil=>rfl
  |cons x l=>rw[cut1];rfl
 simp only[e_sl,yD,h,Rs.bo,e_un,vW,o_asI,JnN,JmF,Jom,b];exact if_pos f
def sgB:Sx:=VP
def sgD:List D:=LD
def nZ(U:Ag)(l:Au)(f:l.length<=20000)(k:D)(s:Nat)(b:AL):exD U sgB Tp=if l.head? =So s then .ok (.rt (.tup [k,.str Hs]),Tp)else .ok (.nx,Tp):=by
 rw[sgB,zM,pA _ _ (Jh _ _ rfl rfl (rN l s))];by_cases h:l.head? =So s
 ·rw[if_pos h,Zx h];show exD U (.ret _) _=_;rw[jN,uA _ _ (J:=[k,.str Hs]) (Jg _ _ rfl (Jg _ _ (JoJ U _ 0 l rfl f) rfl)) 'j'];rfl
 ·rw[if_neg h,Zs h];rfl
def JuQ(U:Ag)(l:Au)(o:l.length<=20000):∃h m,forL [1,2] 2 LV sgD QcL=.ok (if l.head? =So 58 then(.rt (Part.any Hs).d,MV)else if l.head? =So 35 then(.rt (Part.number Hs).d,MV)else if l.head? =So 42 then(.rt (Part.rest Hs).d,MV)else(.nx,MV)):=by
 have f:∀(k s:D)(J:Ak)(q u:AL),forL [1,2] 2 LV (.tup [k,s]::J) [So Bu,q,u,No]=(exD U sgB [So Bu,So k,So s,No]).bind λr=>match r with
  |(.nx,env2)=>forL [1,2] 2 LV J env2
  |(.ct,env2)=>forL [1,2] 2 LV J env2
  |(.bk,env2)=>.ok GR
  |(.rt d,env2)=>.ok L7:=λk s J q u=>rfl
 unfold sgD;rw[s58,s35,s42,f,nZ U l o];by_cases b:l.head? =So 58
 ·exact⟨_,_,by rw[if_pos b,if_pos b];rfl⟩
 rw[if_neg b];simp only[Rs.bo];rw[f,nZ U l o];by_cases g:l.head? =So 35
 ·exact⟨_,_,by rw[if_pos g,if_neg b,if_pos g];rfl⟩
 rw[if_neg g];simp only[Rs.bo];rw[f,nZ U l o];by_cases j:l.head? =So 42
 ·exact⟨_,_,by rw[if_pos j,if_neg b,if_neg g,if_pos j];rfl⟩
 rw[if_neg j];exact⟨_,_,by rw[if_neg b,if_neg g,if_neg j];rfl⟩
noncomputable def rdT:Sx:=(.seq (.ite O0 (.seq Ve
  (.ret (.tup (.cons LM (.cons N6 (.cons (.un .tuple (.bi .splitS N5 (.con (.str (oS "|"))))) .nil)))))) .skip)
  bB)
def Jve:JbY=.seq (.loop Fo [1,2] 2 Vv sgB) rdT:=rfl
theorem JuA(U:Ag)(l:Au)(v:l.length<=19000)(m q:AL)(h1:l.head? ≠So 58)(u:l.head? ≠So 35)(j:l.head? ≠So 42):Jf (exD U rdT [So Bu,m,q,No])=.ok (rdP l).d:=by
 rw[Jgm l h1 u j,rdT,s61,s124];by_cases h:61∈l
 ·rw[if_pos h];obtain⟨a,b,g,s⟩:=Jrr h;have f:=kA YM s;rw[Zn,Zk]at f;have o:op2 .partS Bu (.str dG)=.ok (.tup [.str Qar,.str dG,.str (mkS b)]):=by have:op2 .partS Bu (.str dG)=.ok (yG l 61):=if_pos ⟨show l.length<=20000 by lia,rfl⟩;rw[this,yG,g]
  rw[yA,n_if _ _ (b:=To) _ _ (by rw[Jh _ _ rfl rfl (Jxm l 61),Zx h]),if_pos rfl,wF _ _ _ 'җ'];simp only[List.set];rw[jN,uA _ _ (J:=[.str Em,.str Qar,.tup ((Jv 124 b).map λp=>.str Qaw)]) (Jg _ _ rfl (Jg _ _ rfl (Jg _ _ (JC _ _ (Jh _ _ rfl rfl (Jgx b 124 Af)) rfl) rfl))) 'j'];rw[g];simp only[Rs.bo,JxO,Part.d,Option.getD_some,Zt];rfl
 ·rw[if_neg h,yA,n_if _ _ (b:=Fo) _ _ (by rw[Jh _ _ rfl rfl (Jxm l 61),Zs h]),if_neg 'y'];rfl
def read_part(l:Au)(h:l.length<=19000)(c:Nat):runD defs A6 30 Qdr=.ok (rdP l).d:=by
 obtain⟨m,j,e⟩:=JuQ HK l Af;rw[JiN,Jve,yA,iL];show Jf (((forL [1,2] 2 (exD HK sgB) sgD QcL)).bind _)=_;rw[e];by_cases b:l.head? =So 58
 ·rw[if_pos b];cases l with
  |nil=>cases b
  |cons x r=>cases b;rfl
 rw[if_neg b];by_cases g:l.head? =So 35
 ·rw[if_pos g];cases l with
  |nil=>cases g
  |cons x r=>cases g;rfl
 rw[if_neg g];by_cases f:l.head? =So 42
 ·rw[if_pos f];cases l with
  |nil=>cases f
  |cons x r=>cases f;rfl
 rw[if_neg f];exact JuA HK l h m j b g f
theorem jU(s:Au):∀(ls:DF)(l:Au),l∈ls->XZ<=(Jr s ls).length
 |[],l,h=>by cases h
 |[x],l,h=>by rw[yB.mp h];exact Zh _
 |x::y::r,l,h=>by
  rcases Zf.mp h with rfl|h
  ·simp[Jr]
  ·have:=jU s (y::r) l h
   simp only[Jr,Zn];lia
noncomputable def wrB:Sx:=WN
noncomputable def wrT:Sx:=(.seq (.ite M7 (.ret (.bi .add OC (.bi .joinS (.con (.str (oS "|"))) M8))) .skip)
  (.ret HU))
def wr_eq:JaL=.seq (.loop Fo [1,2] 2 Vv wrB) wrT:=rfl
theorem oH(U:Ag)(p:Part)(f:p.name.length<=20000)(k:Str)(s:Nat):exD U wrB Ny=if p.kind==k then .ok (.rt (.str (mkS (s::p.name.cps.toList))),Ny)else .ok (.nx,Ny):=by
 have b:evD U (.bi .eq DV A1) Ny=.ok (.bl (YC==k)):=by refine Jh _ _ (x:=.str YC) ?_ rfl Qc6;cases p<;>rfl
 rw[wrB,zM,b];cases p.kind==k with
 |true=>show exD U (.ret _) _=_;rw[if_pos rfl,jN,Jh _ _ (x:=.str (mkS [s])) (y:=.str (mkS p.name.cps.toList)) rfl (Jxd p _ _ 0 rfl) (jE [s] _ (by rw[JX];simp;lia))];rfl
 |false=>rfl
theorem written_part(p:Part)(h:'Ֆ'.length<=20000)(c:Nat):runD defs A6 26 [p.d]=.ok (.str (mkS Xr)):=by
 have b:p.name.length<=20000:=by cases p<;>simp only[txP,Part.name,Zk,Zn,JX]at h⊢<;>lia
 have f:∀(k s:D)(J:Ak)(g l:AL),forL [1,2] 2 MJ (.tup [k,s]::J) [So p.d,g,l]=(exD HK wrB [So p.d,So k,So s]).bind λr=>match r with
  |(.nx,env2)=>forL [1,2] 2 MJ J env2
  |(.ct,env2)=>forL [1,2] 2 MJ J env2
  |(.bk,env2)=>.ok GR
  |(.rt d,env2)=>.ok L7:=λk s J g l=>rfl
 rw[JeE,wr_eq,yA,iL];show Jf ((forL [1,2] 2 MJ sgD [So p.d,No,No]).bind _)=_;unfold sgD;rw[s58,s35,s42,f,oH _ p b];cases p with
 |any n=>rfl
 |number n=>rw[if_neg 'À'];simp only[Rs.bo];rw[f,oH _ _ b];rfl
 |rest n=>rw[if_neg 'À'];simp only[Rs.bo];rw[f,oH _ _ b,if_neg 'À'];simp only[Rs.bo];rw[f,oH _ _ b];rfl
 |word n=>rw[if_neg 'À'];simp only[Rs.bo];rw[f,oH _ _ b,if_neg 'À'];simp only[Rs.bo];rw[f,oH _ _ b,if_neg 'À'];rfl
 |one n ws=>rw[if_neg 'À'];simp only[Rs.bo];rw[f,oH _ _ b,if_neg 'À'];simp only[Rs.bo];rw[f,oH _ _ b,if_neg 'À'];show Jf (exD HK wrT [So (Part.one n ws).d,So HM,So (.str (mkS [42]))])=_;rw[wrT,gD _ _ (p:=To) _ _ rfl,if_pos rfl,s61,s124];simp only[txP,Zn,Zk,JX]at h;have j:=JtI 124 (ws.map (·.cps.toList)) Af;rw[Zt]at j;refine Jh _ _ (Jh _ _ (x:=.str (mkS Yr)) rfl rfl (jE _ _ (by rw[JX];simp;lia))) (Jh _ _ rfl (y:=.tup HV) rfl j) ?_;rw[jE _ _ (by rw[Zn,JX];simp;lia)];simp[txP]
def Jpx(ls:DF)(h:(Jr [47] ls).length<=20000)(c:Nat):runD defs A6 27 [.lst Gb]=.ok (.str (mkS (47::Jr [47] ls))):=by rw[JeD,JaI,JF,s47];exact Jh _ _ rfl (Jh _ _ rfl rfl (Jvr 47 ls h)) (jE [47] _ BR)
def txt (ps:AG):List Nat:=47::Jr [47] 'ͱ'
theorem written(ps:AG)(f:Ao<=20000)(h:'ѳ'.length<=20000)(c:Nat):runD defs Bo 28 J6=.ok QbR:=by
 have h:(Jr [47] 'ͱ').length<=20000:=by simp only[txt,Zk]at h;lia
 rw[JoC,Jep,JF];have:=Jpx 'ͱ' h c;rw[Zt]at this;refine Jl _ _ (qO _ _ Yk Qx (rs:=ps) rfl f λp b=>Jl _ _ rfl (written_part p (Zq (jU _ _ _ (qD b)) h) c)) this
def btw (l:Au):Option (List Da):=if l.head? =So 47 then So (if l=[47]then[]else Jv 47 (l.drop 1))else No
def JpI{l:Au}(h:btw l=So ls):47::Jr [47] ls=l:=by
 unfold btw at h;split at h
 ·rename_i b;cases l with
  |nil=>cases b
  |cons x r=>
   cases b;cases h;split
   ·rename_i e;cases e;rfl
   ·show 47::Jr [47] (Jv 47 r)=_;rw[JdV]
 ·cases h
theorem Jus{l:Au}(h:btw l=So ls):BM<=XZ/\∀p∈ls,p.length<=l.length:=by
 have b:=JpI h;refine⟨?_,λp f=>?_⟩
 ·unfold btw at h;split at h
  ·cases h;split
   ·simp
   ·have:=Rd.JcT 47 (l.drop 1);rename_i g _;cases l with
    |nil=>cases g
    |cons x r=>simpa using this
  ·cases h
 ·have:=jU [47] ls p f;rw[<-b,Zk];lia
theorem Juj(l:Au)(f:l.length<=20000)(c:Nat):runD defs A6 29 Qdr=match btw l with
  |some ls=>.ok Vo
  |none=>.ex Ij:=by
 rw[JcF,Jab,s47];unfold btw;by_cases h:l.head? =So 47
 ·rw[if_pos h,jH _ _ _ (env2:=[So Bu]) (by
   rw[n_if _ _ (b:=Fo) _ _ (JT _ _ (p:=To) (pA _ _ (by rw[Jh _ _ rfl rfl (rN l 47),Zx h])))];rfl),JF]
  have g:op2 .eq Bu (.str (mkS [47]))=.ok (.bl (decide (l=[47]))):=by
   rw[mL];congr 2;by_cases e:l=[47]
   ·simp[e]
   ·rw[Zs e,ZA];exactλz=>e (by have:=kA (·.cps.toList) z;exact this)
  rw[e_if _ _ (Jh _ _ rfl rfl g)];by_cases e:l=[47]
  ·simp[e]
  ·rw[Zs e,if_neg 'y',if_neg e]
   exact Jh _ _ (JoJ _ _ 0 l rfl f) rfl (Jgx _ 47 (by rw[eQ];lia))
 ·rw[if_neg h,yA,n_if _ _ (b:=To) _ _ (JT _ _ (p:=Fo) (pA _ _ (by rw[Jh _ _ rfl rfl (rN l 47),Zs h])))];rfl
theorem Jns(ps:AG)(f:∀c,runD defs (c+6) 10 J6=.ok CW)(h:btw Xt=So 'ͱ')(j:∀p∈ps,rdP Xr=p)(o:'ѳ'.length<=19000)(c:Nat):runD defs (c+7) 31 [.str (mkS Xt)]=.ok Du:=by
 have g:=Juj Xt Af (c+5);rw[h]at g;obtain⟨l,m⟩:=Jus h;rw[Zi]at l;rw[JwY,uX,wC _ _ (d:=.tup DW) _ (by
  refine JC _ _ (qO _ _ Qx Yk (rs:=ps) (by rw[iE,Jl _ _ rfl g];show Rs.ok (D.lst ('ͱ'.map _))=_;rw[Zt];rfl) Af λp f=>?_) rfl;have:=read_part Xr (by have:=m _ (qD f);lia) (c+5);rw[j p f]at this;exact Jl _ _ rfl this)]
 simp only[List.set];rw[jH _ _ _ (env2:=[So QbR,So Du]) (by
  rw[n_if _ _ (b:=Fo) _ _ (JT _ _ (p:=To) (pA _ _ (Jl _ _ rfl (f c))))];rfl),JF]
 rfl
def Jqw(ls:DF)(f:∀l∈ls,l≠[])(h:∀l∈ls,47∉l):btw (47::Jr [47] ls)=So ls:=by
 unfold btw;rw[if_pos (show(47::Jr [47] ls).head? =So 47 from rfl)];congr 1;cases ls with
 |nil=>rfl
 |cons l ls=>
  have b:Jr [47] (l::ls)≠[]:=λz=>by have:=jU [47] (l::ls) l Ad;rw[z]at this;exact f l Ad (mW.mp (Nat.le_zero.mp this))
  rw[if_neg (by simpa using b)];exact Rd.rL Ad h
theorem Jgw{n:Nat}(s:Nat):∀ls:List Da,(∀l∈ls,XZ<=n)->'ϧ'.length<=BM*(n+1)
 |[],_=>by simp[Jr]
 |[x],h=>by have:=h x Ad;simp only[Jr,uG];lia
 |x::y::r,h=>by
  have f:=Jgw s (y::r) λl b=>h l (Zm _ b)
  have g:=h x Ad
  have e:(x::y::r).length*(n+1)=(y::r).length*(n+1)+(n+1):=Nat.succ_mul _ _
  rw[e]
  simp only[Jr,Zn,uG]
  lia
theorem JdE{s x:Nat}:∀{ls:DF},x∈Jr [s] ls->x=s\/∃l∈ls,x∈l
 |[],h=>by cases h
 |[y],h=>.inr ⟨y,by simp,h⟩
 |y::z::r,h=>by
  simp only[Jr,ZK,yB]at h
  rcases h with h|h|h
  ·exact .inr ⟨y,by simp,h⟩
  ·exact .inl h
  ·rcases JdE h with h|⟨l,b,f⟩
   ·exact .inl h
   ·exact .inr ⟨l,Zm _ b,f⟩
theorem jZ{c:Nat}(b:Au):∀{a:Au},c∉a->cutL c (a++c::b)=(a,So b)
 |[],_=>by simp[cutL]
 |x::a,h=>by
  have g:x≠c:=λe=>h (by simp[e])
  have f:=jZ (c:=c) b (a:=a) λz=>h (Zm _ z)
  rw[rB,cutL,if_neg g,f]
def s0:oS ""=mkS []:=by decide+kernel
def JxU(U:Ag)(O:Fm){lo hi:Px}{l:Au}{a b:D}{j m:BB}(h:O[i]? =So (So Bu))(q:l.length<=20000)(o:evD U lo O=.ok a)(g:a.bound=.ok j)(s:evD U hi O=.ok b)(f:b.bound=.ok m):evD U (.sl B2 lo hi) O=.ok (.str (mkS (cutD l j m))):=by simp only[e_sl,yD,h,Rs.bo,o,g,s,f,Jom];exact if_pos q
def s32:oS " "=mkS [32]:=by decide+kernel
def s10:oS "\n"=mkS [10]:=by decide+kernel
def Jx (r:Row):List Nat:=r.l.cps.toList++32::txt r.ps
def JrE(l:Au)(s:Nat):op2 .ends Bu Fe=.ok (.bl (decide (l.getLast? =So s))):=by
 show Rs.ok (D.bl (decide (0+1<=XZ)&&(l.toArray.extract (l.length-1) (l.length-1+1)==#[s])))=_;rcases List.eq_nil_or_concat l with rfl|⟨b,x,rfl⟩
 ·rfl
 ·rw[List.concat_eq_append];have e:((b++[x]).toArray.extract ((b++[x]).length-1) ((b++[x]).length-1+1))=#[x]:=by simp
  rw[e];by_cases h:x=s<;>simp[h]
def lnO (l:Au):Option (List Da):=if l=[]then So []else if l.getLast? =So 10 then So (Jv 10 l.dropLast)else No
def mk_eq(x y:Au):op2 .eq Qcr Qcs=.ok (.bl (decide (x=y))):=by
 rw[mL];congr 2;by_cases e:x=y
 ·simp[e]
 ·rw[Zs e,ZA];exactλz=>e (by have:=kA (·.cps.toList) z;exact this)
theorem lines_of(l:Au)(g:l.length<=20000)(c:Nat):runD defs A6 34 Qdr=match lnO l with
  |some ls=>.ok Vo
  |none=>.ex Ij:=by
 rw[Jlw,JcX,s10,s0,gD _ _ _ _ (Jh _ _ rfl rfl (mk_eq l []))];unfold lnO;by_cases f:l=[]
 ·rw[if_pos f,Zx f,if_pos rfl];rfl
 ·rw[if_neg f,Zs f,if_neg 'y'];by_cases h:l.getLast? =So 10
  ·rw[if_pos h,jH _ _ _ (env2:=[So Bu]) (by
    rw[n_if _ _ (b:=Fo) _ _ (JT _ _ (p:=To) (pA _ _ (by rw[Jh _ _ rfl rfl (JrE l 10),Zx h])))];rfl),JF]
   exact Jh _ _ (by
    rw[JxU 'Į' [So Bu] (i:=0) (l:=l) rfl g rfl rfl (JC _ _ (JC _ _ rfl rfl) rfl) rfl];show Rs.ok (D.str (mkS (cutD l No (So (-1)))))=_;rw[JkA]) rfl (Jgx _ 10 (by rw[List.length_dropLast];lia))
  ·rw[if_neg h,yA,n_if _ _ (b:=To) _ _ (JT _ _ (p:=Fo) (pA _ _ (by rw[Jh _ _ rfl rfl (JrE l 10),Zs h])))];rfl
theorem Jeh(s:Nat):∀ls:List Da,ls≠[]->Jr [s] ls++[s]=ls.flatMap (·++[s])
 |[],h=>absurd rfl h
 |[x],_=>by simp[Jr]
 |x::y::r,_=>by
  have b:=Jeh s (y::r) Ad
  rw[kG,<-b]
  simp[Jr]
theorem Jqm:∀x∈ls,XI+1<=(ls.flatMap (·++[10])).length:=by
 induction ls with
 |nil=>intro x h;cases h
 |cons y r b=>
  intro x h;rw[kG,Zn,Zn,uG];rcases Zf.mp h with rfl|h
  ·lia
  ·have:=b x h;lia
def tabT (rows:Aq):List Nat:=(rows.map Jx).flatMap (·++[10])
theorem JdP:∀ls:List Da,Jr [] ls=ls.flatten
 |[]=>rfl
 |[x]=>by simp[Jr]
 |x::y::r=>by
  have b:=JdP (y::r)
  show x++([]++Jr [] (y::r))=_
  rw[b];simp
theorem written_row(r:Row)(f:r.ps.length<=20000)(h:(Jx r).length<=19999)(c:Nat):runD defs (c+3) 32 [r.d]=.ok (.str (mkS GS)):=by simp only[Jx,Zn,Zk,JX]at h;have b:=written r.ps f Af c;rw[JfG,JaV,JF,s32,s10,Jh _ _ (Jh _ _ (Jh _ _ (x:=.str (mkS r.l.cps.toList)) Lm rfl (jE _ _ (by rw[JX];simp;lia))) (Jl _ _ Ll b) (jE _ _ (by simp only[Zn,uG,JX];lia))) rfl (jE _ _ (by simp only[Zn,uG,JX];lia))];simp[Jx]
theorem written_table(rows:Aq)(g:BN<=20000)(j:∀r∈rows,Z4<=20000)(h:'Ϩ'.length<=19999)(c:Nat):runD defs (c+4) 33 [.tup Ej]=.ok Qao:=by
 have f:op2 .joinS QaT (.lst Vc)=.ok Qao:=by
  have e:JM Vc=So 'ɼ':=by have:=JV 'ɼ';rwa[Zt]at this
  have l:Jr 'ɽ'.cps.toList ('ɼ'.map (·.cps.toList))=tabT rows:=by show Jr [] _=_;rw[JdP,Zt,tabT,List.flatMap_def,Zt];rfl
  simp only[op2,e,l];exact if_pos ⟨by show 0<=1000;decide,by lia⟩
 rw[Jea,Jas,JF,s0];exact Jh _ _ rfl (qO _ _ XX (λr=>.str (mkS GS)) (rs:=rows) rfl g λr b=>Jl _ _ rfl (written_row r (j r b) (by
  have:=Jqm (ls:=rows.map Jx) (Jx r) (qD b);unfold tabT at h;lia) c)) f
noncomputable def txV (w:Str):Bool:=decide (w.cps.toList.head? ≠So 58/\w.cps.toList.head? ≠So 35/\w.cps.toList.head? ≠So 42/\61∉w.cps.toList/\47∉w.cps.toList/\124∉w.cps.toList/\w.cps.toList≠[]/\w.cps.toList.length<=4/\10∉w.cps.toList)
def w_tx:∀w∈words9,txV w=To:=by decide+kernel
def n_tx:∀w∈names9,txV w=To:=by decide+kernel
def l_tx:∀w∈names9,32∉w.cps.toList/\w.cps.toList.head? ≠So 91:=by decide+kernel
def rd_vp(p:Part)(h:p.vp):rdP Xr=p:=by
 cases p with
 |word x=>obtain⟨b,m,j,g,_⟩:=ZZ (w_tx x h);rw[txP,Jgm _ b m j,if_neg g,zS]
 |one n o=>
  obtain⟨y,u,z,E,_⟩:=h;obtain⟨b,m,j,g,C,F,q,_⟩:=ZZ (n_tx n y);have f:(txP (.one n o)).head? =n.cps.toList.head?:=by
   show(Yr++_).head? =_;cases e:n.cps.toList with
   |nil=>exact absurd e q
   |cons x r=>rfl
  rw[Jgm _ (by rw[f];exact b) (by rw[f];exact m) (by rw[f];exact j),if_pos (by simp[txP]),txP,jZ _ g];simp only[Option.getD_some];rw[Rd.rL (by simpa using z) (λl v=>by
   obtain⟨w,s,rfl⟩:=Zv.mp v;exact(ZZ (w_tx w (u w s))).2.2.2.2.2.1),zS,Zt]
  congr 1;exact(tG λw _=>rfl).trans (List.map_id o)
 |any n=>rfl
 |number n=>rfl
 |rest n=>rfl
theorem kS(p:Part)(h:p.vp):txP p≠[]/\47∉txP p/\(txP p).length<=28/\10∉txP p:=by
 have one:∀(x:Nat)(n:Str),n∈names9->x≠47->x≠10->(x::n.cps.toList)≠[]/\47∉(x::n.cps.toList)/\(x::n.cps.toList).length<=28/\10∉(x::n.cps.toList):=λx n I G J=>by
  obtain⟨o,E,C,v,b,F,g,s,f⟩:=ZZ (n_tx n I);refine⟨by simp,?_,by simp only[Zk];lia,?_⟩
  ·simp only[Zf,not_or];exact⟨Ne.symm G,b⟩
  ·simp only[Zf,not_or];exact⟨Ne.symm J,f⟩
 cases p with
 |word x=>obtain⟨o,E,C,v,b,F,g,s,f⟩:=ZZ (w_tx x h);exact⟨g,b,by show x.cps.toList.length<=28;lia,f⟩
 |one n y=>
  obtain⟨H,q,L,M,_⟩:=h;obtain⟨o,E,C,v,b,F,g,s,f⟩:=ZZ (n_tx n H);have no:∀x,x=47\/x=10->x∉Jr [124] (y.map (·.cps.toList)):=λx u z=>by
   rcases JdE z with z|⟨l,m,z⟩
   ·rcases u with rfl|rfl<;>exact absurd z (by decide)
   ·obtain⟨w,j,rfl⟩:=Zv.mp m;have:=ZZ Qa6;rcases u with rfl|rfl
    ·exact this.2.2.2.2.1 z
    ·exact this.2.2.2.2.2.2.2.2 z
  refine⟨by simp[txP],?_,?_,?_⟩
  ·simp only[txP,ZK,Zf,not_or];exact⟨b,by decide,no _ Be⟩
  ·have:=Jgw (n:=4) 124 (y.map (·.cps.toList)) λl m=>by
    obtain⟨w,j,rfl⟩:=Zv.mp m;exact(ZZ Qa6).2.2.2.2.2.2.2.1
   rw[Zi]at this;simp only[txP,Zn,Zk];lia
  ·simp only[txP,ZK,Zf,not_or];exact⟨f,by decide,no _ c6⟩
 |any n=>exact one 58 n h AB AB
 |number n=>exact one 35 n h AB AB
 |rest n=>exact one 42 n h AB AB
structure RowG(r:Row):Prop where
 l:r.l∈names9
 vp:∀p∈r.ps,p.vp
 pt:patB r.ps=To
def RowG.n(h:YW):r.ps.length<=6:=wZ h.pt
theorem RowG.tlen(h:YW):(txt r.ps).length<=175:=by
 have:=Jgw (n:=28) 47 (r.ps.map txP) λl f=>by obtain⟨p,b,rfl⟩:=Zv.mp f;exact(kS p Gs).2.2.1
 have:=h.n;rw[Zi]at*;simp only[txt,Zk];lia
theorem RowG.len(h:YW):(Jx r).length<=180:=by have:=h.tlen;have:=(ZZ Ri).2.2.2.2.2.2.2.1;simp only[Jx,Zn,Zk];lia
def RowG.t10(h:YW):10∉txt r.ps:=λz=>by
 rcases Zf.mp z with z|z
 ·revert z;decide
 ·rcases JdE z with z|⟨l,b,z⟩
  ·revert z;decide
  ·obtain⟨p,f,rfl⟩:=Zv.mp b
   exact(kS p (h.vp p f)).2.2.2 z
def RowG.no10(h:YW):10∉Jx r:=λz=>by
 rcases ZK.mp z with z|z
 ·exact(ZZ Ri).2.2.2.2.2.2.2.2 z
 ·rcases Zf.mp z with z|z
  ·revert z;decide
  ·exact h.t10 z
def RowG.no91(h:YW):(Jx r).head? ≠So 91:=by
 have b:=(l_tx r.l h.l).2;have f:=(ZZ Ri).2.2.2.2.2.2.1;unfold Jx;cases e:r.l.cps.toList with
 |nil=>exact absurd e f
 |cons x g=>rw[e]at b;exact b
theorem RowG.read(h:YW)(c:Nat):runD defs (c+8) 35 [.str Gf]=.ok r.d:=by
 have f:=aL;have b:op2 .partS Hm Qap=.ok (.tup WX):=by have:op2 .partS Hm Qap=.ok (yG (Jx r) 32):=if_pos ⟨show(Jx r).length<=20000 by lia,rfl⟩;rw[this,yG,Jx,jZ _ (l_tx r.l h.l).1]
 have g:runD defs (c+7) 31 [.str Qa7]=.ok (.tup QdW):=Jns r.ps (λc=>by rw[is_pattern r.ps h.vp (by have:=h.n;lia),h.pt]) (Jqw _ (λl f=>by
  obtain⟨p,b,rfl⟩:=Zv.mp f;exact(kS p Gs).1) λl f=>by
  obtain⟨p,b,rfl⟩:=Zv.mp f;exact(kS p Gs).2.1) (λp b=>rd_vp p Gs) (by have:=h.tlen;lia) c
 rw[JlA,JcV,s32,wC _ _ _ (Jh _ _ rfl rfl b),JF];simp only[List.set];exact uA _ _ (Jg _ _ (Jh _ _ (x:=.tup WX) (y:=.int 0) rfl rfl rfl) (Jg _ _ (Jl _ _ (x:=.str Qa7) rfl g) rfl)) Ad
theorem Jof:∀{rows:Aq},(∀r∈rows,RowG r)->'Ϩ'.length<=181*BN
 |[],_=>by simp[tabT]
 |r::rows,h=>by
  have b:=Jof (rows:=rows) λq f=>h q J4
  have:=(h r Ad).len
  simp only[tabT,Zg,kG,Zn,Zk,uD]at b⊢
  lia
def Jqo{rows:Aq}(h:∀r∈rows,RowG r):lnO 'Ϩ'=So (rows.map Jx):=by
 unfold lnO;cases rows with
 |nil=>rfl
 |cons r rs=>
  have e:=Jeh 10 ((r::rs).map Jx) Ad;have b:tabT (r::rs)≠[]:=by unfold tabT;rw[<-e];simp
  rw[if_neg b];unfold tabT;rw[<-e,if_pos 'j',rJ,Rd.rL 'j' λl f=>by
   obtain⟨q,g,rfl⟩:=Zv.mp f;exact(h q g).no10]
def TabOk.row(h:YO):∀r∈t,RowG r:=λr b=>⟨h.lb r b,h.vp r b,h.pt r b⟩
theorem TabOk.len(h:YO):(tabT t).length<=1448:=by have:=Jof h.row;have:=h.ln;lia
theorem TabOk.wrt(h:YO)(c:Nat):runD defs (c+4) 33 [tD t]=.ok (.str Rh):=written_table t (by have:=h.ln;lia) (λr b=>by have:=(h.row r b).n;lia) (by have:=aL;lia) c
theorem read_table(h:YO)(c:Nat):runD defs (c+9) 36 [.str Rh]=.ok (tD t):=by
 have g:=lines_of (tabT t) (by have:=aL;lia) (c+7);rw[Jqo h.row]at g;have l:=h.ln;have j:∀c,runD defs (c+8) 12 [.tup K2]=.ok CW:=λc=>by
  rw[is_table t h.lb h.vp (λr f=>by have:=(h.row r f).n;lia) 'h'];have:tabB t=To:=by unfold tabB;rw[h.nt,Zx h.ln,uB.mpr λr f=>h.pt r f];rfl
  rw[this]
 rw[JhG,Jbs,wC _ _ (d:=.tup K2) _ (by
  refine JC _ _ (qO _ _ (λr=>.str Gf) XX (rs:=t) (by rw[iE,Jl _ _ rfl g];show Rs.ok (D.lst ((t.map Jx).map _))=_;rw[Zt];rfl) Af λr f=>Jl _ _ rfl ((h.row r f).read c)) rfl)]
 simp only[List.set];rw[jH _ _ _ (env2:=[So (.str Rh),So (.tup K2)]) (by
  rw[n_if _ _ (b:=Fo) _ _ (JT _ _ (p:=To) (pA _ _ (Jl _ _ rfl (j c))))];rfl),JF]
 rfl
section
variable{k v w:D}
theorem Jgz(f:k.eqv k=To):∀{ks vs:Ak},AC=AJ->(∀a∈ks,a.eqv k=Fo)->iA k (ks++[k]) (vs++[v])=So v
 |[],[],_,_=>by simp[iA,f]
 |a::ks,u::vs,hl,h=>by
  have g:=Jgz f (ks:=ks) (vs:=vs) R4 λb j=>h b 'ԓ'
  simp only[rB,iA,h a 'j',Zl,ZF,g]
theorem JjC(f:k.eqv k=To):∀{ks vs:Ak},AC=AJ->(∀a∈ks,a.eqv k=Fo)->setD k w (ks++[k]) (vs++[v])=vs++[w]
 |[],[],_,_=>by simp[setD,f]
 |a::ks,u::vs,hl,h=>by
  have g:=JjC f (ks:=ks) (vs:=vs) R4 λb j=>h b 'ԓ'
  simp only[rB,setD,h a 'j',Zl,ZF,g]
def Jpd(b:k.eqv k=To)(f:AC=AJ)(h:∀a∈ks,a.eqv k=Fo):putD k w (ks++[k]) (vs++[v])=(ks++[k],vs++[w]):=by unfold putD;rw[JjC b f h,if_pos (by simp[b])]
def JnI(h:∀a∈ks,a.eqv k=Fo):putD k w ks vs=(ks++[k],vs++[w]):=by unfold putD;rw[if_neg];rw[vH];rintro⟨a,b,e⟩;rw[h a b]at e;cases e
end
def tbl (A:Kn) (n:Str):List Row:='ŉ'.getD []
noncomputable def hdL (n:Str):List Nat:=91::(Yr++[93])
def stL (A:Kn) (n:Str):List Nat:=91::(Yr++[93,10])++tabT Xh
def stx (A:Kn):List Nat:=('Ş'.map (stL A)).flatten
def lns (A:Kn):List Da:='Ş'.flatMap λn=>hdL n::'ǽ'.map Jx
def kD (n:Str):D:=.str 'ɸ'
def vD (A:Kn) (n:Str):D:=.str (mkS (tabT Xh))
def uK(h:Ym){n:Str}(b:n∈Jn Co):TabOk Xh:=h.tb n _ (gN b)
def nm_9(h:Ym){n:Str}(b:n∈Jn Co):n∈nm9:=h.nm n ((Jy _ n).mp b)
def gX:∀n∈nm9,10∉n.cps.toList/\n.length<=4:=by decide+kernel
def Jnj(A:Kn):stx A=(lns A).flatMap (·++[10]):=by unfold stx lns;rw[List.flatMap_assoc,<-List.flatMap_def];congr 1;funext n;rw[kG];show stL A n=_;rw[stL,hdL,tabT];simp
def Jwm(h:Ym):∀l∈lns A,10∉l:=λl b=>by
 obtain⟨n,f,b⟩:=List.mem_flatMap.mp b
 rcases Zf.mp b with rfl|b
 ·have:=(gX n (nm_9 h f)).1
  simp only[hdL,Zf,ZK,not_or]
  exact⟨by decide,this,by decide,by simp⟩
 ·obtain⟨r,g,rfl⟩:=Zv.mp b
  exact((uK h f).row r g).no10
def JqQ:∀ls:List Da,(∀l∈ls,10∉l)->lnO (ls.flatMap (·++[10]))=So ls
 |[],_=>rfl
 |r::rs,h=>by
  have e:=Jeh 10 (r::rs) Ad
  have b:(r::rs).flatMap (·++[10])≠[]:=by rw[<-e];simp
  unfold lnO
  rw[if_neg b,<-e,if_pos 'j',rJ,Rd.rL 'j' h]
theorem Jsh{f:Str->Nat}{b:Nat}:∀{xs:Ac},(∀x∈xs,f x<=b)->(xs.map f).sum<=Ah*b
 |[],_=>by simp
 |x::xs,h=>by
  have:=Jsh (xs:=xs) λy g=>h y (Zm _ g)
  have:=h x Ad
  simp only[Zg,iB,Zk,Nat.succ_mul]at*
  lia
theorem Jkj{α:Type}[DecidableEq α]:∀{xs ys:List α},xs.Nodup->(∀x∈xs,x∈ys)->Ah<=By
 |[],_,_,_=>vB _
 |x::xs,ys,h,hs=>by
  have b:=hs x Ad
  obtain⟨j,l⟩:=oB.mp h
  have g:=Jkj (ys:=ys.erase x) l λy f=>(List.mem_erase_of_ne (λe:y=x=>j (e▸f))).mpr (hs y J4)
  rw[List.length_erase_of_mem b]at g
  have m:=List.length_pos_of_mem b
  simp only[Zk]
  lia
theorem KOk.len(h:Ym):A.length<=4:=by
 have:=Jkj h.nd h.nm;have:A.length<=2:=by simpa[kys,nm9]using this
 lia
theorem Jvc(f:Ym){n:Str}(b:n∈Jn Co):(stL A n).length<=1460:=by have h:=(uK f b).len;have g:=(gX n (nm_9 f b)).2;simp only[stL,Zk,Zn,uD,JX];lia
theorem JrZ(f:Ym):(stx A).length<=5840:=by unfold stx;rw[List.length_flatten,Zt];refine Zq (Jsh (b:=1460) λn g=>Jvc f g) ?_;have:=f.len;rw[gO A f.nd];lia
def s91:oS "["=mkS [91]:=by decide+kernel
def Jun(ls:DF)(h:ls.flatten.length<=20000):op2 .joinS QaT (.lst Gb)=.ok (.str (mkS ls.flatten)):=by
 have e:JM Gb=So Xk:=by have:=JV Xk;rwa[Zt]at this
 have b:Jr 'ɽ'.cps.toList ('ǒ'.map (·.cps.toList))=ls.flatten:=by show Jr [] _=_;rw[tY,JdP]
 simp only[op2,e,b];exact if_pos ⟨by show 0<=1000;decide,h⟩
theorem Jvo{U:Ag}(b:Ym){src e:Px}(hs:evD U src O=.ok (.lst ('Ş'.map .str)))(g:∀n∈Jn 'Ք',evD U e (So BS::O)=.ok (.str QbS)):
  evD U (.bi .joinS (.con QaT) SU) O=.ok NI:=by have f:=Jun ('Ş'.map (stL A)) (by have:=JrZ b;unfold stx at this;lia);rw[Zt]at f;have:=gO A b.nd;have:=b.len;exact Jh _ _ rfl (qO _ _ X4 (λn=>.str QbS) hs Af g) f
def Jyf:∀n∈nm9,op1 .join (.lst [.str (oS "["),.str n,.str (oS "]\n")])=.ok (.str (mkS (91::(Yr++[93,10])))):=λn h=>by
 simp only[nm9,Zf,Zy,fA]at h
 rcases h with rfl|rfl<;>rfl
theorem site_text(h:Ym)(c:Nat):runD defs (c+6) 37 Iw=.ok NI:=by have g:=aL;rw[JiI,JbW,JF,s0];refine Jvo h (by rw[iE,zW h.nd 'h' (c+4) rfl];rfl) λn b=>?_;have f:=table_of (a:=a) (A:=A) (dn:=dn) (un:=un) dH Bo;rw[gN b]at f;have:=(uK h b).len;have:=(gX n dH).2;exact Jh _ _ (JC _ _ (Jg _ _ rfl (Jg _ _ rfl Qa8)) (Jyf n dH)) (Jl _ _ (Jk _ _ (Jg _ _ (JC _ _ (x:=ob a A dn un) rfl nK) (Jg _ _ (d:=.str n) (J:=[]) rfl rfl)) f) ((uK h b).wrt A6)) (jE _ _ (by simp only[Zk,Zn,uD,JX];lia))
noncomputable def hB:Sx:=(.ite Vd (.seq Qck
  Qf) VR)
noncomputable def hE (T:D) (ks vs:Ak) (h:D) (y:AL):Fm:=[So T,So N0,So h,y]
section
variable{U:Ag}{T:D}{n:Str}
def JvX{y:AL}{h:Str}{v:D}{b:Px}(g:evD U b 'ͽ'=.ok v)(f:AC<1000):exD U (.put Fo Fo 1 BK b) 'ͽ'=.ok (.nx,hE T (putD bP v ks vs).1 (putD bP v ks vs).2 bP y):=by
 have j:(hE T ks vs bP y)[1]? =So (So N0):=rfl;rw[Jyo,j];dsimp only;rw[g,Rs.bo,show evD U 'O' 'ͽ'=.ok (.str h)from rfl,Rs.bo];have:(Fo&&!v.imm||!(Fo==Fo)||!keyD Fo (D.str h)||!decide (AC<1000))=Fo:=by rw[Zx f];rfl
 rw[this];rfl
def Jyv:(kD n).eqv (kD n)=To:=ZE _
def Juq{d:D}(g:AC<1000)(h:∀a∈ks,a.eqv (kD n)=Fo):exD U hB Oz=.ok (.nx,hE T FE (vs++[.str TK]) (kD n) K6):=by have f:evD U CZ Oz=.ok (.str 'ɸ'):=rfl;rw[hB,n_if _ _ (b:=To) _ _ (pA _ _ (by rw[s91];exact Jh _ _ f rfl (rN _ 91))),if_pos rfl,wF _ _ _ f];show exD U _ (hE T ks vs (.str 'ɸ') K6)=_;rw[JvX (v:=.str TK) (by rw[s0];rfl) g];rw[show D.str 'ɸ'=kD n from rfl,JnI h]
def Jwf(f:YW){acc:Au}(o:acc.length<=9000)(q:AC<999)(hs:AC=AJ)(l:∀a∈ks,a.eqv (kD n)=Fo):
  exD U hB T9=.ok (.nx,hE T FE (vs++[.str (mkS (acc++GS))]) (kD n) (So Hm)):=by
 have j:evD U CZ T9=.ok Hm:=rfl;rw[hB,n_if _ _ _ _ (pA _ _ (by rw[s91];exact Jh _ _ j rfl (rN _ 91))),Zs f.no91,if_neg 'y',n_if _ _ (b:=Fo) _ _ rfl,if_neg 'y'];have g:op2 Ei (.dct Fo Fo FE MF) (kD n)=.ok RJ:=by show(if Fo=Fo/\keyD Fo (kD n)=To then Rs.ofOpt (iA (kD n) FE MF)else .sk)=_;rw[if_pos 'Ĩ',Jgz Jyv hs l];rfl
 have s:=f.len;have m:op2 .add M0 RJ=.ok RJ:=jE [] acc BR;have p:=JvX (U:=U) (T:=T) (h:=mkS (hdL n)) (Jh U T9 (Jh _ _ (a:=.con M0) rfl (Jh _ _ (a:=.var 1) (b:=.var 2) rfl rfl g) m) (Jh _ _ j (b:=.con Xw) (by rw[s10];rfl) (jE (Jx r) [10] BR)) (jE _ _ BR)) BR;rw[show D.str 'ɸ'=kD n from rfl,Jpd Jyv hs l]at p;exact p
def JhR{f:Fm->Rs (Fw×Fm)}{l:D}{ls:Ak}{b:Fm}(h:f (zA [3] [So l] e)=.ok (.nx,b)):forL [3] 0 f (l::ls) e=forL [3] 0 f ls b:=by simp only[forL,gA,if_true,Rs.bo,h]
theorem Jol(rest:Ak)(g:AC<999)(hs:AC=AJ)(j:∀a∈ks,a.eqv (kD n)=Fo):∀(rows:Aq)(acc:Au)(y:AL),(∀r∈rows,RowG r)->acc.length+181*BN<=9000->
  ∃b,forL [3] 0 dI ((rows.map λr=>.str Gf)++rest) (hE T FE MF (kD n) y)=forL [3] 0 dI rest (hE T FE (vs++[.str (mkS (acc++tabT rows))]) (kD n) b)
 |[],acc,y,_,_=>⟨y,by simp[tabT]⟩
 |r::rows,acc,y,h,ha=>by
  have f:=h r Ad
  have m:=f.len
  rw[Zk]at ha
  obtain⟨b,e⟩:=Jol rest g hs j rows (acc++GS) (So Hm) (λq l=>h q (Zm _ l)) BR
  refine⟨b,?_⟩
  rw[Zg,rB,JhR (Jwf f Af g hs j),e]
  simp[tabT]
def kD_ne{m:Str}(h:n≠m):(kD n).eqv (kD m)=Fo:=by show(mkS (hdL n)==mkS (hdL m))=Fo;rw[ZA];intro z;have e:hdL n=hdL m:=kA (·.cps.toList) z;simp only[hdL,qB,true_and]at e;have:=List.append_cancel_right e;exact h (by rw[<-zS n,this,zS])
theorem Jmw(h:Ym):∀(ns:Ac){ks vs:Ak}(d:D)(y:AL),ns.Nodup->(∀n∈ns,n∈Jn Co)->(∀n∈ns,∀a∈ks,a.eqv (kD n)=Fo)->AC+AK<900->AC=AJ->
  ∃u g,forL [3] 0 dI (ns.flatMap λn=>kD n::'ǽ'.map λr=>.str Gf) (hE T ks vs d y)=.ok (.nx,hE T (ks++ns.map kD) (vs++ns.map (vD A)) u g)
 |[],ks,vs,d,y,_,_,_,_,_=>⟨d,y,by simp[forL]⟩
 |n::ns,ks,vs,d,y,nd,hs,hk,hl,hv=>by
  rw[oB]at nd
  rw[Zk]at hl
  have j:=uK h (hs n Ad)
  have w:=j.ln
  have l:=hk n Ad
  obtain⟨g,o⟩:=Jol (U:=U) (T:=T) (ns.flatMap λn=>kD n::'ǽ'.map λr=>.str Gf) Af hv l Xh [] K6 j.row BR
  obtain⟨s,q,v⟩:=Jmw h ns (ks:=ks++[kD n]) (vs:=vs++[vD A n]) (kD n) g nd.2 OY (λm f a b=>by
   rcases ZK.mp b with b|b
   ·exact hk m J4 a b
   ·rw[yB.mp b];exact kD_ne λz=>nd.1 (z▸f)) BR BR
  refine⟨s,q,?_⟩
  rw[kG,rB,JhR (Juq Af l),o,mJ]
  rw[show D.str (mkS (tabT Xh))=vD A n from rfl,v]
  simp
end
def Jpg:Jaa=(.seq (.ownD Fo 1) (.seq Qcj (.seq (.loop Fo [3] 0 Nq hB) (.retF 1)))):=rfl
theorem tbh(h:Ym)(c:Nat):runD defs Bo 38 Qds=.ok (.dct Fo To ('Ş'.map kD) ('Ş'.map (vD A))):=by
 have f:=lines_of (stx A) (by have:=JrZ h;lia) c;rw[Jnj,JqQ _ (Jwm h),<-Jnj]at f;have g:(lns A).map (λp=>D.str Qaw)='Ş'.flatMap λn=>kD n::'ǽ'.map λr=>.str Gf:=by unfold lns;rw[List.map_flatMap];simp[kD,Zt,pC]
 have j:evD F2 Nq 'Ҩ'=.ok (.lst ((lns A).map λp=>.str Qaw)):=by rw[iE,Jl _ _ rfl f];rfl
 obtain⟨l,m,b⟩:=Jmw (U:=runD defs A6) (T:=.str HN) h 'Ş' (ks:=[]) (vs:=[]) .non No QdX Iv (λ_ _ _ z=>(by cases z)) (by have:=gO A h.nd;have:=aL;simp;lia) rfl;rw[show hE 'Ś' [] [] .non No='Ҩ' from rfl,<-g]at b;rw[JcK,Jpg];simp only[yA,JxL,List.set,Rs.bo,qR,vW,gC,Zl,ZF,iL,j,yE,b];rfl
def name_in:∀n∈nm9,∀c,runD defs (c+3) 39 [kD n]=.ok BS:=λn h c=>by
 simp only[nm9,Zf,Zy,fA]at h
 rcases h with rfl|rfl<;>rfl
def rdB:Bs:=.eff W7
def dn0:Dn [] []:=⟨rfl,by simp,rfl⟩
noncomputable abbrev R1:CallD:=runD defs 11
noncomputable abbrev Q1:CallB:=runB defs bdefs 11
def Jny{n:Str}(h:n∉kys A):put n t A=A++[(n,t)]:=by unfold put;rw[if_neg λz=>h ((look_mem n A).mp z)]
theorem JlX(a:Nat)(T:D)(s:Jj T=To)(j:Ym):∀(ns:Ac)(B:Kn)(g b:AL),ns.Nodup->(∀n∈ns,n∈Jn Co)->(∀n∈ns,n∉kys B)->cV+AK<1000->
  ∃l h,forB [2,3] 2 NZ Mo [So T,So (ob a B [] []),g,b]=.ok .nx [So T,So (ob a (B++ns.map λn=>(n,tbl A n)) [] []),l,h]
 |[],B,g,b,_,_,_,_=>⟨g,b,by simp[zipD,forB]⟩
 |n::ns,B,g,b,nd,hs,hn,hl=>by
  rw[oB]at nd
  rw[Zk]at hl
  have o:=hs n Ad
  obtain⟨l,h,e⟩:=JlX a T s j ns (B++[(n,tbl A n)]) K6 (So (vD A n)) nd.2 OY (λm f z=>by
   unfold kys at z
   rw[ZW,ZK]at z
   rcases z with z|z
   ·exact hn m J4 z
   ·simp only[Zg,lG,yB]at z
    exact nd.1 (z▸f)) BR
  have q:exO Fo R1 Q1 rdB Wn=.ok .nx [So T,So (ob a (put n Xh B) [] []),So (kD n),So (vD A n)]:=
   kK (a:=a) (ns:=nsS) rfl (Jg _ _ (Jl _ _ rfl (name_in n (nm_9 j o) 8)) (Jg _ _ (Jl _ _ rfl (read_table (uK j o) 2)) rfl)) (by simp[plE,Jj,Jb,s,JR,kD,vD]) (mU dn0 Af 10)
  rw[Jny (hn n Ad)]at q
  refine⟨l,h,?_⟩
  show(exO Fo R1 Q1 rdB Wn).bind _=_
  rw[q]
  show forB [2,3] 2 NZ Mo _=_
  rw[e]
  simp
theorem JrO{A:Kn}:∀ns:List Str,(Jb Mo&&imms Mo)=To
 |[]=>rfl
 |n::ns=>by
  have h:=JrO (A:=A) ns
  simp only[Zc]at h
  simp only[Zg,zipD,Jb,Jj,imms,D.imm,h.1,h.2,kD,vD];rfl
def Rr (J:Ak) (a:Nat):Rs D:=if Ae=1 then runR R1 Q1 nR iR lO iO J a else .sk
def JxQ{x y:Au}(h:x=y):op2 .ne Qcr Qcs=.ok C4:=by subst h;exact hJ _ (by simp[D.dep])
def JoN(h:Ym):KOk (srt A)/\(∀n,look n Fl=look n A)/\stx Fl=stx A:=by
 have nd:(kys Fl).Nodup:=by rw[kT];exact oV _ (JJ _)
 have e:∀n,look n Fl=look n A:=λn=>by
  have m:=λB=>look_mem n B;by_cases q:n∈Jn Co
  ·rw[look_of nd (n,'ŉ'.getD []) (Zv.mpr ⟨n,q,rfl⟩),<-gN q]
  ·have b:=mt (m Fl).mp (by rw[kT];exact q);have f:=mt (m A).mp λz=>q ((Jy _ n).mpr z);rw[Option.not_isSome_iff_eq_none]at b f;rw[b,f]
 refine⟨⟨nd,λn g=>h.nm n ((Jy _ n).mp (by rw[<-kT];exact g)),λn t z=>h.tb n t (by rw[<-e];exact z)⟩,e,?_⟩;unfold stx;rw[Jui e];congr 2;funext n;unfold stL tbl;rw[e]
theorem JwI(h:Ym)(a:Nat):Rr Qds a=.ok Uq:=by
 have j:exO Fo R1 Q1 lO (JD nR Qds)=.ok .nx [So NI,No,No,No]:=rfl;obtain⟨f,b,q⟩:=JlX a NI rfl h 'Ş' [] No No QdX Iv (λ_ _ z=>(by cases z)) (by have:=gO A h.nd;have:=aL;simp;lia);have o:exO Fo R1 Q1 (.loop [2,3] 2 TY rdB) Pa=.ok .nx S0:=by
  have s:evD R1 TY Pa=.ok (.lst (zipD ('Ş'.map kD) ('Ş'.map (vD A)))):=by rw[e_un,Jl _ _ rfl (tbh h 9)];rfl
  simp only[exO,s];rw[JrO];exact q
 obtain⟨m,_,g⟩:=JoN h;have l:evD R1 UH S0=.ok C4:=Jh _ _ (Jl _ _ (x:=ob a Fl [] []) rfl (site_text m 5)) rfl (JxQ g);have u:exO Fo R1 Q1 iO ([So NI,No,No,No].set iR KQ)=.ok (.rt Uq) S0:=
  (qE o).trans ((qE ((iX (w:=Fo) (bc:=Q1) (x:=.raise Ij .nil) (y:=.lift .skip) l).trans rfl)).trans rfl)
 unfold Rr;rw[if_pos (show[D.str HN].length=1 from rfl)];unfold runR;rw[j];dsimp only;rw[if_pos (by rfl),u]
noncomputable def canB (w:Str) (r:Row):Bool:=match r.ps with
 |[]=>Fo
 |p::_=>p.fits w
noncomputable def cutR (r:Row):Row:=match r.ps with
 |[]=>r
 |p::ps=>⟨r.l,if p.isRest then p::ps else ps⟩
theorem can_begin(r:Row)(w:Str)(b:w∈ws9)(c:Nat):runD defs (c+3) 22 [r.pd,.str w]=.ok (.bl (canB w r)):=by
 obtain⟨l,ps⟩:=r;rw[JiB,JbS,JF];cases ps with
 |nil=>rfl
 |cons p ps=>have f:=lets p w (ws_A b) c;refine zF _ _ (p:=To) (q:=p.fits w) (Jh _ _ (x:=.int ((Ao:Int)+1)) (y:=.int 0) (JC _ _ rfl (by simp[op1,Row.pd])) rfl ?_) λ_=>Jk _ _ (J:=cE) (Jg _ _ (Jh _ _ (x:=.tup ((p::ps).map Yk)) (y:=.int 0) rfl rfl Ad) rfl) f;simp only[op2,onII,Rs.ok.injEq,D.bl.injEq,Zw];lia
def JfV(r:Row)(h:r.ps≠[])(c:Nat):runD defs A6 23 [r.pd]=.ok 'Π'.pd:=by
 obtain⟨l,b⟩:=r;rw[JbH,JL,JF];cases b with
 |nil=>exact absurd rfl h
 |cons p b=>
  have g:evD HK DV [So (Row.pd ⟨l,p::b⟩)]=.ok p.d:=Jh _ _ (x:=.tup ((p::b).map Yk)) (y:=.int 0) rfl rfl Ad;have j:evD HK (.bi .eq N7 OA) [So (Row.pd ⟨l,p::b⟩)]=.ok (.bl Yb):=by rw[e_bi,e_bi,g];cases p<;>simp[Part.d,Part.isRest,JrV]
  rw[JxM,j];cases f:p.isRest with
  |true=>simp[cutR,f,Row.pd]
  |false=>simp[cutR,f,Row.pd,cut1,op1]
def below(rows:Aq)(b:BN<=1000)(w:Str)(h:w∈ws9)(c:Nat):runD defs (c+4) 24 QcM=.ok (.tup (('Ȓ'.map cutR).map XX)):=by
 rw[Jvm,JiH,JF];refine JC _ _ (kL _ _ XX (canB w) (λr=>'Π'.d) rfl b λr _=>⟨pA _ _ (Jk _ _ (J:=[r.pd,.str w]) (Jg _ _ Ll rfl) (can_begin r w h c)),λf=>?_⟩) (by rw[Zt];rfl);have g:r.ps≠[]:=λe=>by rw[canB,e]at f;cases f
 have b:'Π'.l=r.l:=by unfold cutR;split<;>rfl
 have:=JfV r g Bo;show _=Rs.ok (D.tup [.str 'Π'.l,'Π'.pd]);rw[b];exact uA _ _ (Jg _ _ Lm (Jg _ _ (Jl _ _ Ll this) rfl)) Ad
def Jtm(w:Str)(a:Ac)(r:Row):(canB w r&&hit a 'Π')=hit (w::a) r:=by
 obtain⟨l,g⟩:=r;cases g with
 |nil=>rfl
 |cons p g=>
  cases f:p.isRest with
  |true=>
   have b:p.fits w=To:=by cases p<;>first|rfl|cases f
   simp[canB,cutR,hit,f,b,lawM]
  |false=>cases b:p.fits w<;>simp[canB,cutR,hit,f,b,lawM]
theorem JfO(w:Str)(a:Ac):∀rows:List Row,labD (('Ȓ'.map cutR).find? Eu)=labD (rows.find? (hit (w::a)))
 |[]=>rfl
 |r::rows=>by
  have b:=JfO w a rows
  have h:=Jtm w a r
  have g:'Π'.l=r.l:=by unfold cutR;split<;>rfl
  rw[jI,<-h,nF]
  cases j:canB w r with
  |false=>simpa using b
  |true=>
   cases f:hit a (cutR r)with
   |true=>simp[f,labD,g]
   |false=>simpa[f]using b
def Jwr(r:Row)(h:Ju r.ps):Ju 'Π'.ps:=by
 unfold cutR;split
 ·exact h
 ·rename_i p f e;rw[e]at h;cases b:p.isRest with
  |true=>simpa[b]using h
  |false=>simpa[b]using h.2
def JjQ(w:Str)(rows:Aq)(h:∀r∈rows,aS):∀r∈(rows.filter (canB w)).map cutR,r.Fine:=by
 intro r f;rw[Zv]at f;obtain⟨q,b,rfl⟩:=f;have b:=h q (wL.mp b).1;refine⟨Jwr q b.rl,Zq ?_ b.len⟩;unfold cutR;split
 ·exact Zh _
 ·rename_i p g e;rw[e];simp only[];split<;>simp
def JtC(p:Part):sdD p.d=To:=by
 have:∀b:List Str,sdDs (b.map X4)=To:=λb=>by induction b with
  |nil=>rfl
  |cons w b f=>simp[sdDs,sdD,f]
 cases p<;>simp[Part.d,sdD,sdDs,this]
def JoX{p q:Part}(h:p.d=q.d):p=q:=by
 have j:∀b vs:List Str,b.map X4=vs.map D.str->b=vs:=λb=>by
  induction b with
  |nil=>intro vs e;cases vs with
   |nil=>rfl
   |cons _ _=>simp at e
  |cons u b g=>intro vs e;cases vs with
   |nil=>simp at e
   |cons v vs=>simp only[Zg,qB,D.str.injEq]at e;rw[e.1,g vs e.2]
 have f:=h;cases p<;>cases q<;>simp[Part.d,Jp]at h
 ·rw[h]
 ·rename_i n b m vs;have e:b.map X4=vs.map X4:=by simp only[Part.d,D.tup.injEq,qB]at f;exact f.2.2.1
  rw[h.1,j _ _ e]
 ·rw[h]
 ·rw[h]
 ·rw[h]
theorem Jsi:∀{ps b:AG},ps.map Yk=b.map Part.d->ps=b
 |[],[],_=>rfl
 |[],_::_,h=>by simp at h
 |_::_,[],h=>by simp at h
 |p::ps,q::b,h=>by
  simp only[Zg,qB]at h
  rw[JoX h.1,Jsi h.2]
def Juc{q:Row}(h:r.d=q.d):r=q:=by obtain⟨l,b⟩:=r;obtain⟨m,f⟩:=q;simp only[Row.d,Row.pd,D.tup.injEq,qB,D.str.injEq,and_true]at h;rw[h.1,Jsi h.2]
theorem JkN:∀{rs b:Aq},rs.map XX=b.map Row.d->rs=b
 |[],[],_=>rfl
 |[],_::_,h=>by simp at h
 |_::_,[],h=>by simp at h
 |p::ps,q::b,h=>by
  simp only[Zg,qB]at h
  rw[Juc h.1,JkN h.2]
def JxJ(rs:Aq):sdD Y3=To:=by
 have f:∀ps:List Part,sdDs DW=To:=λps=>by induction ps with
  |nil=>rfl
  |cons p ps b=>simp[sdDs,JtC,b]
 have g:∀rs:List Row,sdDs EC=To:=λrs=>by induction rs with
  |nil=>rfl
  |cons r rs b=>simp[sdDs,Row.d,Row.pd,sdD,f,b]
 exact g rs
def lS:Inj tD:=Inj.of JxJ λa b h=>by
 simp only[tD,D.tup.injEq]at h
 exact JkN h
noncomputable def labO:Option Str->D
 |none=>.non
 |some x=>.str x
def zE:Inj labO:=Inj.of (λa=>by cases a<;>rfl) λa b h=>by cases a<;>cases b<;>simp[labO]at h<;>first|rfl|(rw[h])
structure KyR(r:Row):Prop where
 l:banD r.l=Fo
 f:r.Fine
 n:∀p∈r.ps,(p.srt\/p=.word BZ)/\p.hole.Sublist names5
def JkM:∀w∈pool,banD w=Fo:=by decide+kernel
def JlW:∀w∈names5,banD w=Fo:=by decide+kernel
def JjI:∀w∈labs,banD w=Fo:=by decide+kernel
def Jps{p:Part}(h1:p.srt\/p=.word BZ)(y:p.hole.Sublist names5):JG p.d=To/\banC p.d=0/\p.d.dep<=2:=by
 have f:p.isWord=Fo->banD aR=Fo:=λe=>JlW _ (y.subset (by simp[Part.hole,e]));have one:∀b:Bool,(if b=To then 1 else 0)<=1:=λb=>by cases b<;>decide
 cases p with
 |word x=>
  have:banD x=Fo:=by
   rcases h1 with h1|h1
   ·exact JkM x h1
   ·injection h1 with h1;subst h1;decide+kernel
  exact⟨by simp[Part.d,JG,Jz,banC,this,one],rfl,by simp[Part.d,D.dep,deps]⟩
 |one n o=>
  have e:=f rfl;have u:∀l:List Str,(∀w∈l,w∈pool)->('乍'.map banC).sum=0/\Jz '乍'=To/\deps '乍'=0:=λl=>by
   induction l with
   |nil=>intro _;exact Hv
   |cons w l q=>intro m;obtain⟨g,h,j⟩:=q λv s=>m v (Zm _ s);have:=JkM w (m w fC);exact⟨by simp only[Zg,iB,banC,this,g];rfl,by simp[Jz,JG,h],by simp[deps,D.dep,j]⟩
  have h1:(Part.one n o).srt:=h1.resolve_right λz=>nomatch z;obtain⟨g,h,j⟩:=u o h1.1.2;have e:banD n=Fo:=e;exact⟨by simp only[Part.d,JG,Jz,g,h,Zg,lG,iB,List.sum_nil,banC,e];simp[one],rfl,by simp[Part.d,D.dep,deps,j]⟩
 |any n=>have e:banD n=Fo:=f rfl;exact⟨by simp[Part.d,JG,Jz,banC,e,one],rfl,by simp[Part.d,D.dep,deps]⟩
 |number n=>have e:banD n=Fo:=f rfl;exact⟨by simp[Part.d,JG,Jz,banC,e,one],rfl,by simp[Part.d,D.dep,deps]⟩
 |rest n=>have e:banD n=Fo:=f rfl;exact⟨by simp[Part.d,JG,Jz,banC,e,one],rfl,by simp[Part.d,D.dep,deps]⟩
theorem JgF:∀{ps:AG},(∀p∈ps,(p.srt\/p=.word BZ)/\p.hole.Sublist names5)->Jz DW=To/\('ȳ'.map banC).sum=0/\deps DW<=2
 |[],_=>Qbr
 |p::ps,h=>by
  obtain⟨b,g,o⟩:=JgF (ps:=ps) λq j=>h q 'ԓ'
  obtain⟨l,f,m⟩:=Jps (h p fC).1 (h p fC).2
  exact⟨by simp[Jz,b,l],by simp only[Zg,iB,g,f],by simp only[Zg,deps];lia⟩
theorem JjV:∀{rs:Aq},(∀r∈rs,KyR r)->Jz EC=To/\((rs.map XX).map banC).sum=0/\deps EC<=4
 |[],_=>Qbr
 |r::rs,h=>by
  obtain⟨b,g,s⟩:=JjV (rs:=rs) λq j=>h q 'ԓ'
  obtain⟨m,f,o⟩:=JgF (h r fC).n
  have e:=(h r fC).l
  have z:JG r.d=To/\banC r.d=0/\r.d.dep<=4:=⟨by simp[Row.d,Row.pd,JG,Jz,m,f,banC,e,-List.map_map],rfl,by simp only[Row.d,Row.pd,D.dep,deps];lia⟩
  exact⟨by simp[Jz,b,z.1],by simp only[Zg,iB,g,z.2.1],by simp only[Zg,deps];have:=z.2.2;lia⟩
def Jme(h:∀r∈rs,KyR r):keyD To Y3=To:=by obtain⟨b,f,g⟩:=JjV h;simp only[tD,keyD,JG,b,f,nG,Bool.and_true];have:decide (deps EC<=7)=To:=Zx Af;simp[this]
def iZ(o:GM):keyD Fo Qc7=To:=by cases o<;>rfl
def belw (rs:Aq) (w:Str):List Row:='亲'.map cutR
def JnH(h:∀r∈rs,KyR r)(w:Str):∀r∈belw rs w,KyR r:=λr g=>by
 have m:=JjQ w rs (λr g=>(h r g).f) r g
 obtain⟨q,j,rfl⟩:=Zv.mp g
 have j:=h q (wL.mp j).1
 refine⟨?_,m,λp b=>j.n p ?_⟩
 ·have:(cutR q).l=q.l:=by unfold cutR;split<;>rfl
  rw[this];exact j.l
 ·unfold cutR at b
  split at b
  ·exact b
  ·rename_i o s e
   rw[e]
   split at b
   ·exact b
   ·exact Zm _ b
def Jkq(rs:Aq)(w:Str):'ɧ'.length<=F3:=by rw[belw,Zi];exact vM _ _
def bel (rs:Aq):List Str->List Row
 |[]=>rs
 |w::a=>bel Xz a
theorem Jkl(w:Str):∀(a:Ac)(rs:Aq),bel rs (a++[w])=belw (bel rs a) w
 |[],rs=>rfl
 |v::a,rs=>Jkl w a (belw rs v)
def fl (rs:Aq) (a:Ac):Option Str:=(rs.find? Eu).map X6
def hZ(o:Option Row):labD o=labO (o.map X6):=by cases o<;>rfl
def JvS(w:Str)(a:Ac)(rs:Aq):fl Xz a=fl rs (w::a):=by
 have:=JfO w a rs;rw[hZ,hZ]at this;exact(zE _ _).mp (by
  show(labO (('亲'.map cutR).find? (hit a)|>.map X6)).eqv (labO ((rs.find? (hit (w::a))).map X6))=To;rw[this];exact(zE _ _).mpr rfl)
theorem Jrx(b:Ac):∀(a:Ac)(rs:Aq),fl (bel rs a) b=fl rs (a++b)
 |[],rs=>rfl
 |w::a,rs=>by rw[bel,Jrx b a,JvS];rfl
noncomputable abbrev Cnt:=List (List Row×Int)
def stq (ws:Ac) (f:Cnt):Cnt:=f.foldl (λb p=>jC tD (λw=>belw p.1 w) (λ_=>p.2) ws b) []
def pO(ws:Ac)(b:Cnt)(p:List Row×Int):stq ws (b++[p])=jC tD (λw=>belw p.1 w) (λ_=>p.2) ws Xf:=by simp[stq]
def nU{P:List α->Prop}(b:P [])(h1:∀l x,P l->P (l++[x])):∀l,P l:=λl=>by
 have:∀m:List α,P m.reverse:=λm=>by
  induction m with
  |nil=>exact b
  |cons x m f=>rw[List.reverse_cons];exact h1 _ _ f
 simpa using this l.reverse
theorem JoF(ws:Ac):∀b:Cnt,'Ƞ'.length<=b.length*AY:=
 nU Xs λb p f=>by
  rw[pO,Zn,Nat.add_mul]
  have:=eV (g:=tD) (λw=>belw p.1 w) (λ_=>p.2) ws Xf
  simp only[Zk,uD]
  lia
def JuU(ws:Ac):∀b:Cnt,Dst Xf:=nU (by simp[stq,Dst]) λb p f=>by
 rw[pO];exact vO lS _ _ _ _ f
def KRs(N:Nat)(rs:Aq):Prop:=(∀r∈rs,KyR r)/\rs.length<=N
def Jws(ws:Ac):∀b:Cnt,(∀p∈b,KRs N p.1)->∀p∈stq ws b,KRs N p.1:=nU (λ_ p h=>by simp[stq]at h) λb p g h=>by
 rw[pO]
 refine JhJ _ _ (KRs N) _ _ (g λq j=>h q (by simp[j])) λw _=>?_
 have f:=h p Ad
 exact⟨JnH f.1 w,Zq (Jkq _ _) f.2⟩
theorem JjS(f:α->List Int):∀l:List α,(l.flatMap f).sum=(l.map λa=>(f a).sum).sum
 |[]=>rfl
 |a::l=>by rw[kG,List.sum_append,JjS f l];rfl
theorem Jnv(c:Int):∀l:List Int,(l.map λx=>c*x).sum=c*l.sum
 |[]=>by simp
 |x::l=>by simp only[Zg,iB,Jnv c l,Int.mul_add]
def Jxi(ws:Ac)(f:List Row->Int):∀b:Cnt,wt f Xf=wt (λrs=>(ws.map λw=>f Xz).sum) b:=nU rfl λb p g=>by
 rw[pO,Jfx lS,g]
 have:(ws.map λw=>p.2*f (belw p.1 w)).sum=p.2*(ws.map λw=>f (belw p.1 w)).sum:=by rw[<-Jnv,Zt];rfl
 rw[this]
 simp[wt]
def cntT (ws:Ac) (T:Aq):Nat->Cnt
 |0=>[(T,1)]
 |n+1=>stq ws XC
theorem tZ(ws:Ac)(T:Aq):∀n,'ƣ'.length<=AY^n
 |0=>Zh _
 |n+1=>Zq (JoF ws _) (by rw[Nat.pow_succ];exact Nat.mul_le_mul_right _ (tZ ws T n))
theorem fZ(ws:Ac){T:Aq}(h:KRs N T):∀n,∀p∈cntT ws T n,KRs N p.1
 |0=>λp b=>by simp[cntT]at b;rw[b];exact h
 |n+1=>Jws ws _ (fZ ws h n)
theorem Jro(ws:Ac)(T:Aq):∀(n:Nat)(f:List Row->Int),wt f XC=((ev ws n).map λa=>f (bel T a)).sum
 |0,f=>by simp[cntT,wt,ev,bel]
 |n+1,f=>by
  rw[cntT,Jxi,Jro ws T n,ev,List.map_flatMap,JjS]
  simp only[Zt,pC,Jkl]
def Jyr{x n:Nat}(b:x<=4)(f:n<=4):x^n<=256:=Zq (Nat.pow_le_pow_left b n) (Zq (Nat.pow_le_pow_right Af f) AB)
def dcT (z:Bool) (b:Cnt):D:=.dct To z (ksOf tD b) bL
noncomputable def tbW:Sx:=(.seq WT
  Xa)
def tbT:Sx:=(.seq (.ownD To 5)
  (.seq (.loop Fo [6,7] 2 RM Tz)
  (.movF 3 5)))
theorem Jpw(ws:Ac)(C:∀w∈ws,w∈ws9)(x:KRs N rs)(hN:N<=1000)(cn:Int)(f:Cnt)(F:Dst f)(G:f.length+AY<1000)(c:Nat)(j l o m s v:AL):
  ∃q h,exD Ec Tz WL=.ok (.nx,[j,So A7,l,o,m,So (dcT Fo (jC tD NY (λ_=>cn) ws f)),So Y3,So aN,q,h]):=by
 obtain⟨y,E,q,h,rfl⟩:=vU Ec tbW [8] 0 Hn X4 ws (λb O=>∃q h,O=[j,So A7,l,o,m,So IE,So Y3,So aN,q,h]) WL rfl (by
  rintro b w z O e⟨q,h,rfl⟩;refine⟨_,rfl,_,?_,So BD,So (tD Xz),rfl⟩;have u:'ƨ'.length<1000:=by
   have:=eV (g:=tD) NY (λ_=>cn) b f;have:b.length<AY:=by rw[e];simp
   lia
  show exD _ Ka [j,So A7,l,o,m,So IE,So Y3,So aN,So BD,h]=_;rw[wF _ _ _ (Jk _ _ (J:=[tD rs,.str w]) rfl (below rs (Zq x.2 hN) w (C w (by rw[e];simp)) c))];show exD _ _ [j,So A7,l,o,m,So IE,So Y3,So aN,So BD,So (tD Xz)]=_;rw[JmK _ _ lS (k:=belw rs w) (c:=cn) rfl rfl rfl (vO lS _ _ _ _ F) u (Jme (JnH x.1 w))];simp only[List.set_cons_succ,List.set_cons_zero,jC,fQ,jG,List.foldl_nil];rfl) ⟨s,v,rfl⟩
 exact⟨q,h,E⟩
theorem JuR(ws:Ac)(F:∀w∈ws,w∈ws9)(f:Cnt)(L:∀p∈f,KRs N p.1)(hN:N<=1000)(U:f.length*AY+AY<1000)(c:Nat)(l m o P v y u x:AL):
  ∃s q j g,exD Ec tbT [l,So A7,m,So dJ,o,P,v,y,u,x]=.ok (.nx,[l,So A7,m,So (dcT To (stq ws f)),o,No,s,q,j,g]):=by
 obtain⟨C,G,s,q,j,g,rfl⟩:=vU Ec Tz [6,7] 2 RM (λp:List Row×Int=>D.tup [tD p.1,.int p.2]) f (λb O=>∃s q j g,O=[l,So A7,m,So dJ,o,So (dcT Fo Xf),s,q,j,g]) Wy (by
   show Rs.ok (D.lst (zipD (ksOf tD f) (vsOf f)))=_;rw[JdT]) (by
  rintro b p E O e⟨s,q,j,g,rfl⟩;have H:=L p (by rw[e];simp);have z:'Ƞ'.length+AY<1000:=by
   have:=JoF ws b;have J:b.length<=f.length:=by rw[e];simp
   have:=Nat.mul_le_mul_right AY J;lia
  obtain⟨I,M,h⟩:=Jpw ws F H hN p.2 Xf (JuU ws b) z c l m (So dJ) o j g;exact⟨_,rfl,_,h,So (tD p.1),So (.int p.2),I,M,by rw[pO]⟩) ⟨v,y,u,x,rfl⟩
 refine⟨s,q,j,g,?_⟩;show exD _ Ka _=_;rw[rY _ _ _ (env2:=Wy) rfl,rY _ _ _ G];rfl
theorem JlD(ws:Ac)(v:∀w∈ws,w∈ws9)(q:AY<=4)(T:Aq)(s:KRs N T)(hN:N<=1000)(n:Nat)(L:n<=4)(c:Nat):runD defs (c+5) 40 S8=.ok (dcT To XC):=by
 rw[JdL,JaA];have E:evD Ec Xc [So (tD T),So A7,So A3,No,No,No,No,No,No,No]=.ok (dcT To [(T,1)]):=by rw[e_if (b:=To) _ _ (Jh _ _ (x:=.int n) (y:=.int 0) rfl rfl (by simp only[op2,onII,Rs.ok.injEq,D.bl.injEq,Zw];lia)),if_pos rfl];have:=Jme s.1;show dspD To [tD T] [.int 1]=_;simp only[dspD,this,if_true];rfl
 rw[wC _ _ _ E];obtain⟨u,z,o,m,g,l,f,j,rfl⟩:=Jfg Ec tbT 4 BK n (λk O=>∃o m g l f j,O=[So (tD T),So A7,So A3,So (dcT To 'Ѣ'),o,m,g,l,f,j]) WW rfl Af (by
  rintro k O M⟨o,m,g,l,f,j,rfl⟩;have C:'Ѣ'.length*AY+AY<1000:=by have G:'Ѣ'.length<=64:=Zq (tZ ws T k) (Zq (Nat.pow_le_pow_left q k) (Zq (Nat.pow_le_pow_right Af (show k<=3 by lia)) AB));have:=Nat.mul_le_mul G q;lia
  obtain⟨H,F,J,I,h⟩:=JuR ws v 'Ѣ' (fZ ws s k) hN C c (So (tD T)) (So A3) FO m g l f j;exact⟨_,h,So BQ,No,H,F,J,I,rfl⟩) ⟨No,No,No,No,No,No,rfl⟩
 show Jf (exD _ (.seq (.loop Fo [4] 0 QbO tbT) QaQ) WW)=_;rw[jH _ _ _ z,JF];rfl
noncomputable abbrev Lcn:=List (Option Str×Int)
def dcL (z:Bool) (b:Lcn):D:=.dct Fo z (ksOf labO b) bL
def lcn (cc:Cnt):Lcn:=jC labO (λp:List Row×Int=>fl p.1 []) (λp=>p.2) cc []
def nLed (ws:Ac) (T:Aq) (n:Nat) (o:GM):Int:=((ev ws n).map λa=>if fl T a=o then(1:Int)else 0).sum
def JsC(ws:Ac)(T:Aq)(n:Nat)(o:GM):getN labO o Gr=nLed ws T n o:=by rw[lcn,Jsm zE o _ (vO zE _ _ _ _ (by simp[Dst])),Jfx zE];have:=Jro ws T n λrs=>if fl rs []=o then 1 else 0;unfold wt at this;simp only[wt,lG,List.sum_nil,Int.zero_add];rw[this,nLed];refine kA List.sum (tG λa _=>?_);rw[Jrx,pE]
def toldD (T:Aq) (N:Option Str->Int):D:=.lst (((T.map λr:Row=>So r.l)++[No]).map λo=>.tup Nw)
theorem tall(ws:Ac)(G:∀w∈ws,w∈ws9)(u:AY<=4)(T:Aq)(m:KRs N T)(hN:N<=100)(n:Nat)(C:n<=4)(c:Nat):runD defs (c+6) 41 S8=.ok (toldD T (nLed ws T n)):=by
 rw[Jna,Jeb,jH (env2:=Ww) _ _ _ rfl];have E:'ƣ'.length<=256:=Zq (tZ ws T n) (Jyr u C);obtain⟨v,H,j,l,h,rfl⟩:=vU Cn (.seq Qcl
  W5) [4,5] 2 WD (λp:List Row×Int=>D.tup [tD p.1,.int p.2]) XC (λb O=>∃j l h,O=[So (tD T),So A7,So A3,So MZ,j,l,h]) Ww
  (JC _ _ (Jk _ _ (J:=S8) rfl (JlD ws G u T m Af n C c)) (by
   show Rs.ok (D.lst (zipD (ksOf tD _) (vsOf _)))=_;rw[JdT])) (by
  rintro b p z O e⟨j,l,h,rfl⟩;have s:=fZ ws m n p (by rw[e];simp);refine⟨_,rfl,_,?_,So (tD p.1),So (.int p.2),So (labO (fl p.1 [])),rfl⟩;have q:(lcn b).length<1000:=by
   have:=eV (g:=labO) (λp:List Row×Int=>fl p.1 []) (λp=>p.2) b [];have:b.length<(cntT ws T n).length:=by rw[e];simp
   simp only[lcn,uD]at*;lia
  have I:evD Cn Sm [So (tD T),So A7,So A3,So MZ,So (tD p.1),So (.int p.2),h]=.ok (labO (fl p.1 [])):=by
   refine Jk _ _ (J:=[tD p.1,.tup []]) (Jg _ _ rfl (Jg _ _ (uA _ _ (J:=[]) rfl Ad) rfl)) ?_;have:=first p.1 (λr F=>(s.1 r F).f) (by have:=s.2;lia) [] Ad c
   rw[hZ]at this;exact this
  show exD _ Ka [So (tD T),So A7,So A3,So MZ,So (tD p.1),So (.int p.2),h]=_;rw[wF _ _ _ I];show exD _ _ [So (tD T),So A7,So A3,So MZ,So (tD p.1),So (.int p.2),So (labO (fl p.1 []))]=_;rw[JmK _ _ zE (k:=fl p.1 []) (c:=p.2) rfl rfl rfl (vO zE _ _ _ _ (by simp[Dst])) q (iZ _)];simp only[List.set_cons_succ,List.set_cons_zero,lcn,jC,fQ,jG,List.foldl_nil];rfl) ⟨No,No,No,rfl⟩
 rw[jH _ _ _ H,JF];have L:=m.2;have M:evD Cn VI [So (tD T),So A7,So A3,So (dcL Fo Gr),j,l,h]=.ok (.lst (((T.map λr:Row=>So r.l)++[No]).map labO)):=by refine Jh _ _ (fD _ _ XX (λr:Row=>D.str r.l) rfl Af λr _=>row0 r _ _ 0 rfl) (y:=.lst [.non]) (JwF _ _ (J:=[.non]) rfl Ad) ?_;rw[JrD _ _ (pH BR)];simp[labO,Zt,pC]
 refine fD _ _ labO (λo=>D.tup [labO o,.int (nLed ws T n o)]) (by rw[iE,M];rfl) BR λo _=>?_;refine uA _ _ (Jg _ _ rfl (Jg _ _ (Jh _ _ (x:=dcL Fo Gr) (y:=labO o) rfl rfl ?_) rfl)) Ad;have:=JfL (g:=labO) o Gr;simp only[op2,onD,dcL,iZ,and_self,if_true,this,JsC]
theorem Jjv(c:Nat)(A:D):∀(a:Ac)(f:∀w∈a,w∈ws9)(rows:Aq)(h:∀r∈rows,aS)(b:BN<=1000)(g:AL),
  ∃(rs:Aq)(j:AL),(∀r∈rs,aS)/\rs.length<=1000/\labD (rs.find? (hit []))=labD (rows.find? Eu)/\forL [2] 0 (exD Ec Um) DN [So EO,So A,g]=.ok (.nx,[So (.tup EC),So A,j])
 |[],f,rows,h,b,g=>⟨rows,g,h,b,rfl,rfl⟩
 |w::a,f,rows,h,b,g=>by
  have m:=f w Ad
  have o:=below rows b w m c
  have l:('Ȓ'.map cutR).length<=1000:=by
   rw[Zi];exact Zq (vM _ _) b
  obtain⟨rs,j,s,x,u,y⟩:=Jjv c A a (λv q=>f v (by simp[q])) _ (JjQ w rows h) l (So BD);refine⟨rs,j,s,x,by rw[u,JfO],?_⟩;have e:exD Ec Um [So EO,So A,So BD]=.ok (.nx,[So (.tup (('Ȓ'.map cutR).map XX)),So A,So BD]):=by
   rw[qR,Jk _ _ (J:=QcM) rfl o];rfl
  simp only[Zg,forL,gA,if_true,Rs.bo,zA,List.set,e,y]
def Jqv(rows:Aq)(h:∀r∈rows,aS)(l:BN<=1000)(a:Ac)(b:∀w∈a,w∈ws9)(c:Nat):runD defs (c+6) 25 S2=.ok (labD (rows.find? Eu)):=by
 obtain⟨rs,q,f,m,j,o⟩:=Jjv A6 KA a b rows h l No;have g:=first rs f m [] Ad c
 rw[Jdk,Jah,jH _ _ _ (env2:=[So (.tup EC),So KA,q]) (by
  rw[iL];have:evD Cn Hn [So EO,So KA,No]=.ok (.lst DN):=rfl;simp only[this,Rs.bo,yE,gC,Zl,ZF];exact o),JF,<-j]
 exact Jk _ _ (J:=[.tup EC,.tup []]) (Jg _ _ rfl (Jg _ _ (uA _ _ (J:=[]) rfl Ad) rfl)) g
def JxZ(hs ps:AG)(h:∀p∈hs,Yb=Fo)(f:Ju ps):Ju (hs++ps):=by
 induction hs with
 |nil=>exact f
 |cons p hs g=>refine⟨λb=>?_,g λq j=>h q (by simp[j])⟩;rw[h p 'j']at b;cases b
noncomputable def los (T:Aq):List (Option Str):=(T.map λr:Row=>So r.l)++[No]
def Jnw{T:Aq}(h:'乏'.Nodup):(los T).Nodup:=by
 unfold los;rw[wH];refine⟨?_,by simp,λa g b f=>?_⟩
 ·have:(T.map λr:Row=>So r.l)='乏'.map So:=by rw[Zt];rfl
  rw[this];exact List.Pairwise.map _ (λa b q e=>q (by injection e)) h
 ·obtain⟨r,_,rfl⟩:=Zv.mp g;simp at f;subst f;exactλe=>nomatch e
def Jyw(T b:Aq)(a:Ac):fl (T++b) a=(fl T a).or (fl b a):=by unfold fl;rw[List.find?_append];cases T.find? (hit a)<;>rfl
theorem Jor(ws:Ac)(T b:Aq)(n:Nat):nLed ws (T++b) n No<=nLed ws T n No:=by
 unfold nLed;have:∀l:List Kg,(l.map λa=>if fl (T++b) a=No then(1:Int)else 0).sum<=(l.map λa=>if fl T a=No then(1:Int)else 0).sum:=λl=>by
  induction l with
  |nil=>simp
  |cons a l f=>
   simp only[Zg,iB];have:(if fl (T++b) a=No then(1:Int)else 0)<=if fl T a=No then(1:Int)else 0:=by
    rw[Jyw];cases fl T a with
    |none=>show(if fl b a=No then(1:Int)else 0)<=if(No:GM)=No then 1 else 0;rw[if_pos rfl];split<;>decide
    |some x=>exact Int.le_refl _
   lia
 exact this _
def lR (os:M4) (N:Option Str->Int):D:=.dct Fo To (os.map labO) (os.map λo=>.int (N o))
theorem Jeu(N:Option Str->Int):∀b:List (Option Str),Jyq (b.map λo=>.tup Nw)=So (b.map labO,b.map λo=>.int (N o))
 |[]=>rfl
 |none::b=>by
  have f:=Jeu N b
  show(zD keyN QG).map _=_;rw[show zD keyN _=_ from f];rfl
 |some x::b=>by
  have f:=Jeu N b
  show(zD keyN QG).map _=_;rw[show zD keyN _=_ from f];rfl
def JsE(f:M4)(j:f.Nodup)(h:f.length<=1000)(N:Option Str->Int):op1 .dictP (.lst (f.map λo=>.tup Nw))=.ok (lR f N):=by
 have g:(f.map labO).Pairwise (λa b=>a.eqv b=Fo):=List.Pairwise.map _ (λa b q=>by
  cases e:(labO a).eqv (labO b)with
  |false=>rfl
  |true=>exact absurd ((zE a b).mp e) q) j
 simp only[op1,xN,Jeu];rw[if_pos ⟨g,by simpa using h⟩];rfl
theorem JhC(N:Option Str->Int)(o:GM):∀{b:M4},o∈b->iA Qc7 (b.map labO) (b.map λo=>.int (N o))=So (.int (N o))
 |[],h=>by cases h
 |x::b,h=>by
  simp only[Zg,iA]
  split
  ·rename_i q
   rw[(zE x o).mp q]
  ·rename_i q
   exact JhC N o ((Zf.mp h).resolve_left λe=>q ((zE x o).mpr e.symm))
def JqN(b:M4)(N:Option Str->Int){o:GM}(h:o∈b):op2 Ei (lR b N) Qc7=.ok (.int (N o)):=by simp only[op2,onD,lR,iZ,and_self,if_true,JhC N o h];rfl
noncomputable def oR (r:Row):Row:=⟨S "o"++r.l,r.ps⟩
def o_at(l:Str)(h:l∈labs):op2 .add (.str (S "o")) (.str l)=.ok (.str (S "o"++l)):=by simp only[labs,Zf,Zy,fA]at h;rcases h with rfl|rfl|rfl|rfl|rfl|rfl<;>rfl
def o_ban:∀l∈labs,banD (S "o"++l)=Fo:=by decide+kernel
def o_nodup:(labs.take 3++(labs.take 3).map (S "o"++·)).Nodup:=by decide+kernel
def o_nm:∀l∈labs.take 3,l∈names9/\(S "o"++l)∈names9:=by decide+kernel
theorem krs{T:Aq}{M:Nat}(l:M<=20)(b:∀r∈T,r.Ok M)(j:∀r∈T,banD r.l=Fo):∀r∈T,KyR r:=λr f=>⟨j r f,⟨(b r f).rl,by have:=(b r f).len;lia⟩,λx h=>⟨.inl ((b r f).srt x h),by
 unfold Part.hole
 split
 ·exact List.nil_sublist _
 ·rename_i g
  refine List.singleton_sublist.mpr ((b r f).hol.subset ?_)
  refine List.mem_flatMap.mpr ⟨x,h,?_⟩
  simp[Part.hole,g]⟩⟩
def JiF{T:Aq}(h:T.map X6=labs.take T.length):∀r∈T,r.l∈labs:=λr b=>by
 have:r.l∈T.map X6:=Zv.mpr ⟨r,b,rfl⟩
 rw[h]at this
 exact List.mem_of_mem_take this
def Jra(h:r.Ok 2)(w:Str):patB (Qdt++r.ps)=To:=by have g:=aL;have f:=JaX _ (JxZ Qdt r.ps (by simp[Part.isRest]) h.rl);have b:=wO UC;unfold patB;rw[f,show jA (Qdt++r.ps)=jA r.ps from rfl,b,Zx 'Â'];rfl
structure Step where
 w:Str
 n:Str
 b:Option Kb
 o:Option Kb
def Step.d (s:Step):D:=stp s.w s.n s.b (optT s.o)
def Step.pl(s:Step):Jj s.d=To:=by simp[Step.d,stp,Jj,Jb,vY]
section
variable{A':Kn}{s:Step}
def fsD (A:Kn) (dn un:Ak):List D:=Wq
def lk_d:sA B1 nsS Cj=So dn:=by simp[sA,nsS,fsD,S,List.lookup,Jp]
def lk_u:sA Cu nsS Cj=So un:=by simp[sA,nsS,fsD,S,List.lookup,Jp]
def Jye(x:D):putN B1 x nsS Cj=[.dct Fo Fo Lf D4,x,.mls Cu un]:=by simp[putN,nsS,fsD,S,Jp]
def Jxw(x:D):putN Cu x nsS Cj=[.dct Fo Fo Lf D4,.mls B1 dn,x]:=by simp[putN,nsS,fsD,S,Jp]
def JrX(x:Ak):putN B1 (.mls B1 x) nsS Cj=fsD A x un:=Jye _
def JwK(x:Ak):putN Cu (.mls Cu x) nsS Cj=fsD A dn x:=Jxw _
def JxN {w:Bool} {U:Ag} {bc:AI} {f g:Str} {n:Int} {d:D} {st:D} {i:Nat} (h1:(sA f nsS Cj).isSome = To) (b:(sA g nsS Cj).isSome = To) {r:Rc} (h:bc i B8 HA = r) :
  exO w U bc (.retG i nsS f g n) [So B8] = r.at []:=by show (if nsS = nsS then if plE [] && (sA f nsS Cj).isSome && (sA g nsS Cj).isSome then (bc i B8 HA).at [] else .sk else .sk) = _;rw [if_pos rfl,h1,b,h];rfl
def JxP {c:Nat} {f g:Str} {n:Int} {r:Rc} (h:goD Oy 0 Ii n f g a nsS Cj = r):runB defs bdefs A6 4 B8 HA = ansB B8 (r.at []):=by rw [rb_go,<- h];show ansB B8 (if nsS = nsS then (goD Oy 0 Ii n f g a nsS Cj).at [] else .sk) = _;rw [if_pos rfl]
def JsD(b:Jb dn=To)(f:Jb un=To)(h:un.length<1000){J:Ak}(g:Jb J=To):(!(S "done"==S "undone")&&Jb dn&&Jb un&&decide (un.length<1000)&&(putN B1 .non nsS Cj).all (othD To B1)&&(putN Cu .non nsS (putN B1 (.mls B1 J) nsS Cj)).all (othD To Cu))=To:=by rw[JrX,Jye,Jxw];simp[b,f,h,othD,xM,g,Jj,S,Jp]
def m_back(b:Jb dn=To)(g:Jb un=To)(j:un.length<1000)(c:Nat)(hs:runB defs bdefs A6 0 (ob a A dn (un++[s.d])) 'Ұ'=.ok .non (ob a A' dn (un++[s.d]))):
  runB defs bdefs (c+3) 5 (ob a A (dn++[s.d]) un) []=.ok dM (ob a A' dn (un++[s.d])):=by
 have h:Jb (dn++[s.d])=To:=by simp[plains_app,b,Jb,s.pl]
 have f:goD (runB defs bdefs A6) 0 Ii 2 B1 Cu a nsS (fsD A (dn++[s.d]) un)=.ok dM (ob a A' dn (un++[s.d])):=by unfold goD;rw[lk_d,lk_u];simp only;rw[if_pos (JsD h g j (by rw[rJ];exact b)),if_neg 'j',rJ,List.getLast?_concat];show(match runB defs bdefs A6 0 (.obj a nsS (putN Cu (.mls Cu (un++[s.d])) nsS (putN B1 (.mls B1 dn) nsS (fsD A (dn++[s.d]) un)))) 'Ұ' with|.ok _ st=>Rc.ok dM st|_=>.sk)=_;rw[JrX,JwK,show runB defs bdefs 'ð' 0 (.obj a nsS (fsD A dn (un++[s.d]))) 'Ұ'=.ok .non (ob a A' dn (un++[s.d]))from hs]
 rw[Jvj];exact a_rt (e:=[]) (JxN (d:=.non) (st:=.non) (by rw[lk_d];rfl) (by rw[lk_u];rfl) ((JxP f).trans (a_rt rfl)))
end
theorem JwA:∀b:List Part,b.dropLast.any Yd=Fo->Ju b
 |[],_=>trivial
 |[p],_=>⟨λ_=>rfl,trivial⟩
 |p::q::b,h=>by
  rw[List.dropLast_cons₂,rD,ZN]at h
  exact⟨λz=>(by rw[h.1]at z;cases z),JwA (q::b) h.2⟩
def TabOk.fine(h:YO):∀r∈t,r.Fine:=λr f=>by
 have b:=h.pt r f
 refine⟨JwA _ ?_,Zq (wZ b) AB⟩
 unfold patB at b
 simp only[Zc,ZV]at b
 exact b.1.2
def fnd (A:Kn) (ad:Ac) (n:Str):Option Row:=('ŉ'.getD []).find? (hit ad)
def prD (A:Kn) (ad:Ac) (n:Str):D:=.tup Nv
def prB (A:Kn) (ad:Ac) (n:Str):Bool:=(fnd A ad n).isSome
def ledL (A:Kn) (ad:Ac):D:=.lst (('Ş'.filter dN).map FR)
def Juu(s:Ym)(l:∀w∈ad,w∈ws9)(z:Bool)(c:Nat){n:Str}(u:n∈Jn Co){g d:Px}(m:e[0]? =So (So BS))(v:evD Cn g e=.ok Km)(o:evD Cn d e=.ok (.tup Ls)):
  evD Cn (.tup (.cons Ap (.cons (.call 19 (.cons (.bi Ei g Ap) (.cons d .nil))) .nil))) e=.ok (prD A ad n):=by
 have h:=gN u;have f:=s.tb n _ h;have j:=first _ f.fine (Zq f.ln AB) ad (λw q=>ws_A (l w q)) c
 have b:evD Cn Ap e=.ok BS:=by rw[yD,m]
 exact uA _ _ (J:=Nv) (Jg _ _ b (Jg _ _ (Jk _ _ (J:=[tD ('ŉ'.getD []),.tup Ls]) (Jg _ _ (Jh _ _ v b (yW z h)) (Jg _ _ o rfl)) j) rfl)) Ad
def Jnn(b:'Ş'.length<=1000)(U:Ag)(h:e[i]? =So (So (.lst ('Ş'.map FR)))):evD U (.comp 0 (.walk B2) Qcn Ap) e=.ok (ledL A ad):=by refine kL _ _ (rs:=Jn Co) FR dN FR (by rw[iE,yD,h];rfl) b λn f=>⟨?_,λ_=>rfl⟩;refine JC _ _ (x:=labD (fnd A ad n)) rfl ?_;unfold prB;cases fnd A ad n<;>rfl
def lead(f:Ym)(j:A.length<60)(g:∀w∈ad,w∈ws9)(c:Nat):runD defs (c+6) 50 PM=.ok (ledL A ad):=by
 have l:runD defs (c+6) 50 PM=Jf (exD Cn pS Tx):=rfl;have o:=gO A f.nd;have b:evD Cn Sl Tx=.ok (.lst ('Ş'.map .str)):=by rw[iE,zW f.nd j (c+4) (i:=0) (a:=a) (dn:=dn) (un:=un) rfl];rfl
 have h:=fD Cn Tx (e:=.tup VM) X4 FR b Af λn m=>Juu f g Fo c m rfl rfl rfl;rw[l,pS,wC _ _ _ h,JF];simp only[List.set];exact Jnn Af _ rfl
theorem Jud(A:Kn)(ad:Ac):(ledL A ad).dep<=20:=by
 have:deps (('Ş'.filter dN).map FR)<=2:=yS λd b=>by rw[Zv]at b;obtain⟨n,_,rfl⟩:=b;unfold prD;cases fnd A ad n<;>simp[labD,D.dep,deps]
 simp only[ledL,D.dep];lia
noncomputable abbrev R:CallD:=runD defs 12
noncomputable abbrev Q:CallB:=runB defs bdefs 12
theorem plN:∀ns:List Int,Jb Hg=To
 |[]=>rfl
 |n::ns=>by simp only[Zg,Jb,plN ns,Jj,Bool.and_self]
def wK{w:Bool}{U:Ag}{bc:AI}{p:Sx}{env1:Fm}(h:exD U p O=.ok (.nx,env1)):exO w U bc (.lift p) O=.ok .nx env1:=by simp only[exO,h,Jxb]
def mK(h:evD R c e=.ok C4):exD R (.ite c BY .skip) e=.ok (.nx,e):=by simp only[exD,h,Rs.bo]
noncomputable def hN:List Part:=[.word BZ]
def mkM (A B:Aq):List Row:=A++mkT hN B
noncomputable def kn2 (X Y9:Aq):Kn:=[(S "one",X),(S "two",Y9)]
structure Two(A B:Aq):Prop where
 a:∀r∈A,r.Ok 2
 la:A.map X6=labs.take A.length
 na:A.length<=3
 b:∃C:List Row,B=C.map oR/\(∀r∈C,r.Ok 2)/\C.map X6=labs.take C.length/\C.length<=3
def Two.nb{A:Aq}(h:BW):B.length<=3:=by obtain⟨C,rfl,_,_,b⟩:=h.b;simpa using b
def Two.lA{A:Aq}(h:BW):∀l∈A.map X6,l∈labs.take 3:=λl b=>by
 rw[h.la]at b
 exact(rQ h.na).subset b
def Two.lB{A:Aq}(h:BW):∀l∈B.map X6,∃k∈labs.take 3,l=S "o"++k:=λl b=>by
 obtain⟨C,rfl,_,g,j⟩:=h.b
 rw[Zt]at b
 obtain⟨r,f,rfl⟩:=Zv.mp b
 have:r.l∈C.map X6:=qD f
 rw[g]at this
 exact⟨r.l,(rQ j).subset this,rfl⟩
def Two.nd{A:Aq}(h:BW):((mkM A B).map X6).Nodup:=by
 obtain⟨C,rfl,_,f,b⟩:=h.b;have e:(mkM A Gq).map X6=labs.take A.length++(labs.take C.length).map (S "o"++·):=by rw[mkM,mkT,ZW,h.la,<-f,Zt,Zt,Zt];rfl
 rw[e];exact o_nodup.sublist ((rQ h.na).append ((rQ b).map _))
def Two.pB{A:Aq}(h:BW):∀r∈B,(∀p∈r.ps,p.vp)/\patB r.ps=To/\patB (hN++r.ps)=To/\Ju r.ps:=λr b=>by
 obtain⟨C,rfl,f,_,_⟩:=h.b
 obtain⟨q,g,rfl⟩:=Zv.mp b
 have z:=f q g
 exact⟨z.vp,z.pat AB,Jra z BZ,z.rl⟩
def Two.tA{A:Aq}(h:BW):TabOk A where
 lb r hr:=(o_nm _ (h.lA _ (qD hr))).1
 vp r hr:=(h.a r hr).vp
 pt r hr:=(h.a r hr).pat AB
 ln:=Zq h.na AB
 nt:=wO (by
  have:=h.nd
  rw[mkM,ZW,wH]at this
  exact this.1)
def Two.tB{A:Aq}(h:BW):TabOk B where
 lb r hr:=by
  obtain⟨k,b,e⟩:=h.lB _ (qD hr);rw[e];exact(o_nm k b).2
 vp r hr:=(h.pB r hr).1;pt r hr:=(h.pB r hr).2.1;ln:=Zq h.nb AB;nt:=wO (by
  have:=h.nd;rw[mkM,mkT,ZW,wH,Zt]at this;exact this.2.1)
def Jwn:∀p∈hN,p.vp:=by intro p b;rw[yB.mp b];show S "new"∈words9;decide+kernel
theorem Two.ok{A:Aq}(h:BW):okM hN A B=To:=by
 unfold okM;have g:B.all (λr=>patB (hN++r.ps))=To:=uB.mpr λr b=>(h.pB r b).2.2.1;have f:xD ((A++mkT hN B).map X6)=Fo:=wO h.nd;have j:(A++mkT hN B).length<=8:=by have:=h.na;have:=h.nb;simp only[mkT,Zn,Zi];lia
 rw[g,f,Zx j];rfl
def Two.tM{A:Aq}(h:BW):TabOk Eo:=Juo Jwn h.tA h.tB h.ok
def Two.krA{A:Aq}(h:BW):KRs 6 A:=⟨krs (M:=2) AB h.a λr b=>JjI _ (List.mem_of_mem_take (h.lA _ (qD b))),Zq h.na AB⟩
theorem Two.krM{A:Aq}(h:BW):KRs 6 Eo:=by
 obtain⟨C,rfl,j,l,m⟩:=h.b;refine⟨λr b=>?_,by have:=h.na;simp only[mkM,mkT,Zn,Zi];lia⟩;rcases ZK.mp b with b|b
 ·exact h.krA.1 r b
 ·rw[mkT,Zt]at b;obtain⟨q,g,rfl⟩:=Zv.mp b;have z:=krs (M:=2) AB j (λr b=>JjI _ (JiF l r b)) q g;refine⟨o_ban _ (JiF l q g),⟨⟨(λe=>by cases e),z.f.rl⟩,by have:=(j q g).len;show([Part.word BZ]++q.ps).length<=1000;simp;lia⟩,λp f=>?_⟩;rcases Zf.mp f with rfl|f
  ·exact⟨.inr rfl,by simp[Part.hole,Part.isWord]⟩
  ·exact z.n p f
def kok2{X b:Aq}(f:TabOk X)(h:TabOk b):KOk IY:=by
 refine⟨by show[S "one",S "two"].Nodup;decide+kernel,λn g=>g,λn t e=>?_⟩;rcases Zf.mp (Jni e)with e|e
 ·cases e;exact f
 ·rw[yB]at e;cases e;exact h
def eR(X b:Aq):look Em IY=So X:=by simp[look,kn2]
def JvM(X b:Aq):look FQ IY=So b:=by simp[look,kn2]
def put1(X b f:Aq):put Em f IY=kn2 f b:=by simp[put,look,kn2,Jp]
def srt2(X b:Aq):Jn (kys IY)=XB:=by show Jn XB=_;decide+kernel
def En (ns:AU) (A B:Aq) (st l o m j h g b f:AL):Fm:=[So Cp,So (tD A),So (tD B),st,l,o,m,j,h,g,b,f]
def JwB(ns:AU)(A B:Aq)(h:plE e=To):plE (So Cp::So (tD A)::So (tD B)::No::e)=To:=by show(Jj Cp&&(Jj (tD A)&&(Jj (tD B)&&plE e)))=To;rw[show Jj 'ç'=To from plN ns,JR,JR,h];rfl
def tabK{K:Kn}{n:Str}{p:Px}(hi:e[i]? =So (So (ob a K dn un)))(g:evD R p e=.ok BS)(b:n∈nm9)(f:look n K=So t):evD R (.call 49 (.cons (.un DS B2) (.cons p .nil))) e=.ok (tD t):=by refine Jk _ _ (J:='仜') (Jg _ _ (JC _ _ (by rw[yD,hi]) nK) (Jg _ _ g rfl)) ?_;rw[show R 49 '仜'=_ from table_of b 9,f]
def n1:S "one"∈nm9:=by decide+kernel
def n2:S "two"∈nm9:=by decide+kernel
def jX(t:Aq):op2 .ne (tD t) (tD t)=.ok C4:=hJ _ QbT
def tD_eq(t:Aq):op2 .eq (tD t) (tD t)=.ok CW:=JiS _ QbT
noncomputable def aD (a:Ac):D:=.tup DN
def inB:Sx:=match qS with
 |.lift (.loop _ _ _ _ (.seq _ (.loop _ _ _ _ b)))=>b
 |_=>.skip
def Jtz(r:Row):∀b:List Str,hit b (mntR hN r)=match b with
  |[]=>Fo
  |w::t=>w==S "new"&&hit t r
 |[]=>rfl
 |w::t=>by
  show(if(w==S "new")=To then(lawM r.ps t).map _ else No).isSome=(w==S "new"&&(lawM r.ps t).isSome)
  cases w==S "new" with
  |false=>rfl
  |true=>rw[if_pos rfl];simp
def inn (B:Aq):List Str->List D
 |[]=>[]
 |w::t=>if w==S "new" then(B.filter (hit t)).map λr=>.str r.l else[]
def gY(B:Aq)(b:Ac):((mkT hN B).filter (hit b)).map (λr:Row=>D.str r.l)=inn B b:=by
 rw[mkT,List.filter_map,Zt];have e:(λr:Row=>D.str r.l)∘mntR hN=λr=>D.str r.l:=rfl;rw[e];have f:hit b∘mntR hN=λr=>match b with
  |[]=>Fo
  |w::t=>w==S "new"&&hit t r:=funext λr=>Jtz r b
 rw[f];cases b with
 |nil=>simp[inn]
 |cons w t=>simp only[inn];cases w==S "new"<;>simp
def JsP(B:Aq)(b:Ac):(inn B b).length<=B.length:=by rw[<-gY,Zi];exact Zq (vM _ _) (by simp[mkT])
def JtZ(o:Option Row):(labD o).dep<=20:=by cases o<;>simp[labD,D.dep]
theorem Jrh(T:Aq):(D.lst (T.map λr:Row=>D.str r.l)).dep<=20:=by
 have:deps (T.map λr:Row=>D.str r.l)<=0:=yS λd b=>by obtain⟨r,_,rfl⟩:=Zv.mp b;simp[D.dep]
 simp only[D.dep];lia
noncomputable def plO (x:AL):Bool:=match x with
 |none=>To
 |some d=>Jj d
def plE_c(x:AL)(e:Fm):plE (x::e)=(plO x&&plE e):=by cases x<;>rfl
theorem JoQ(f:Row->Str):∀T:List Row,Jb (T.map λr=>D.str (f r))=To
 |[]=>rfl
 |r::T=>JoQ f T
def JwC(B:Aq)(b:Ac):Jb (inn B b)=To:=by rw[<-gY];exact JoQ X6 _
def Jwg(a:Ac):Jj (aD a)=To:=by
 show Jb (a.map X4)=To;induction a with
 |nil=>rfl
 |cons w a b=>exact b
theorem Jyz(A:Kn)(ad:Ac):∀l:List Str,Jb (l.map FR)=To
 |[]=>rfl
 |n::l=>by
  show(Jj (.tup Nv)&&_)=To
  rw[Jyz A ad l,show Jj (.tup Nv)=To from by cases fnd A ad n<;>rfl];rfl
theorem Jtj{A:Aq}(h:BW){here:Ac}(f:∀w∈here,w∈ws9)(x5 x6 j x9 x10 x11:AL):∃z q,(plO z&&plO q)=To/\exD R inB WH=.ok (.nx,En ns A B Fk Es x5 x6 Qct z q x10 x11):=by
 have M:=h.na;have hB:=h.nb;have P:=h.tM.ln;have g:∀{l:Ac},(∀w∈l,w∈ws9)->∀w∈l,w∈wsA:=λh w f=>ws_A (h w f);have u:KOk Ep:=kok2 h.tM h.tB;have G:evD R VJ
   WH=.ok SQ:=by
  cases here with
  |nil=>exact(e_if (b:=Fo) _ _ rfl).trans rfl
  |cons w t=>
   have e:evD R VZ (En ns A B Fk Es x5 x6 (So (aD (w::t))) j x9 x10 x11)=.ok (.bl (w==S "new")):=by
    refine Jh _ _ (x:=.tup cL) (y:=.tup [.str BZ]) ?_ rfl ?_
    ·show Rs.ok (D.tup (cutD (D.str w::t.map X4) No (So 1)))=_;rfl
    ·rw[o_eq _ _ (by simp[D.dep,deps]) (by simp[D.dep,deps])];show Rs.ok (D.bl ((w==S "new")&&To))=_;rw[Bool.and_true]
   have L:evD R (.sl (.var 7) Gi Ek) (En ns A B Fk Es x5 x6 (So (aD (w::t))) j x9 x10 x11)=.ok (aD t):=by show Rs.ok (D.tup (cutD (D.str w::t.map X4) (So 1) No))=_;rw[cut1];rfl
   rw[e_if _ _ e,show inn B (w::t)=(if w==S "new" then(B.filter (hit t)).map λr=>D.str r.l else[])from rfl];cases w==S "new" with
   |false=>rfl
   |true=>exact Jk _ _ (J:=[tD B,aD t]) (Jg _ _ rfl (Jg _ _ L rfl)) (all_rows B h.tB.fine Af t (g λv E=>f v (Zm _ E)) 8)
 have m:=JsP B here;have F:evD R VV
   SF=.ok C4:=by
  refine fH _ _ (p:=Fo) ?_ λ_=>?_
  ·refine Jh _ _ (x:=.lst (((mkM A B).filter dO).map λr:Row=>.str r.l)) (y:=.lst (((mkM A B).filter dO).map λr:Row=>.str r.l)) (Jk _ _ (J:=Ru) rfl (all_rows _ QdA Af here (g f) 8)) ?_ (hJ _ (Jrh _))
   refine Jh _ _ (Jk _ _ (J:=[tD A,aD here]) rfl (all_rows _ h.tA.fine Af here (g f) 8)) (y:=.lst (inn B here)) rfl ?_;rw[JrD _ _ (pH (by have:=vM dO A;simp only[Zi];lia)),mkM,List.filter_append,ZW,gY]
  ·exact Jh _ _ (Jk _ _ (J:=Ru) rfl (Jqv _ QdA Af here f 6)) (Jk _ _ (J:=Ru) rfl (first _ QdA Af here (g f) 7)) (hJ _ (JtZ _))
 have H:evD R VT
   SF=.ok (.lst ('ձ'.map MI)):=by
  rw[srt2];refine fD _ _ (rs:=XB) X4 MI rfl AB λn m=>?_;have C:n∈nm9:=m;have o:look n Ep=So ((look n Ep).getD []):=gN (by rw[srt2];exact m);have s:=u.tb n _ o;exact uA _ _ (J:=[.str n,labD (fnd Ep here n)]) (Jg _ _ rfl (Jg _ _ (Jk _ _ (J:=[tD ((look n Ep).getD []),aD here]) (Jg _ _ (tabK (i:=4) (a:=a) (dn:=dn) (un:=un) rfl rfl C o) rfl) (first _ s.fine (by have:=s.ln;lia) here (g f) 7)) rfl)) Ad
 have I:evD R VL
   (En ns A B Fk Es x5 x6 Qct (So SQ) (So (.lst ('ձ'.map MI))) x10 x11)=.ok C4:=
  Jh _ _ (Jk _ _ (J:=[ob a Ep dn un,aD here]) (Jg _ _ QbU rfl) (lead u (show 2<60 by decide) f 6)) (Jnn (i:=9) (by rw[srt2];decide) _ rfl) (hJ _ (Jud _ _))
 refine⟨So SQ,So (.lst ('ձ'.map MI)),?_,?_⟩
 ·show(Jb (inn B here)&&Jb _)=To;rw[JwC,Jyz];rfl
 show exD R (.seq _ (.seq _ Ka)) _=_;rw[wF _ _ _ G];show exD R (.seq _ Ka) SF=_;rw[rY _ _ _ (mK F),wF _ _ _ H];exact mK I
def outB:Sx:=match qS with
 |.lift (.loop _ _ _ _ b)=>b
 |_=>.skip
def setA7(d:D)(ns:AU)(A B:Aq)(st j m l o h g b f:AL):zA [7] [So d] (En ns A B st j m l o h g b f)=En ns A B st j m l Bd h g b f:=rfl
def Jrk:S "new"∈ws9:=by decide+kernel
theorem JpT{A:Aq}(h:BW)(k:Nat)(x6 x7 x8 x9 x10 x11:AL)(P:(plO x7&&(plO x8&&plO x9))=To):∃u l j g,(plO u&&(plO l&&(plO j&&plO g)))=To/\exD R outB Ss=.ok (.nx,En ns A B Fk Es FO u l j g x10 x11):=by
 obtain⟨ps,H,E,p3,p4,p5,p7,U⟩:=patS ns (720+60*(k:Int)) Af 2 AB
 obtain⟨ad,s,hl,Y⟩:=near ns (700+60*(k:Int)) Af ps H Af E
 have o:op2 .mul (.int 60) BQ=.ok (.int (60*k)):=nN _ _ (by rw[show smallI 60=To by decide+kernel];rfl)
 have L:evD R W1
   Ss=.ok (aD ad):=by
  have e:=Jk R Ss (f:=48) (J:=[ofN ns,.int (700+60*(k:Int)),.tup DW])
   (as:=.cons Ap V8)
   (Jg _ _ rfl (Jg _ _ Pk (Jg _ _ (Jk _ _ (J:=[ofN ns,.int (720+60*(k:Int)),.int 2]) (Jg _ _ rfl (Jg _ _ Pk rfl)) (U 8)) rfl))) (Y 8)
  rw[e_sl,e]
  show Rs.ok (D.tup (cutD (ad.map X4) No (So 7)))=_
  have:cutD (ad.map X4) No (So 7)=ad.map X4:=by
   simp only[cutD,six,Zi,List.drop_zero]
   rw[if_neg 'y']
   exact List.take_of_length_le (by rw[Zi];show ad.length<=min 7 ad.length-0;lia)
  rw[this];rfl
 have F:evD R SE (En ns A B Fk Es FO Ig x7 x8 x9 x10 x11)=.ok (.lst ([ad,S "new"::ad].map aD)):=by
  rw[iE,uA _ _ (J:=[aD ad,aD (S "new"::ad)]) (Jg _ _ rfl (Jg _ _ (Jh _ _ (x:=.tup [.str BZ]) (y:=.tup Ls) rfl rfl ((JiO BR).trans rfl)) rfl)) 'j']
  rfl
 obtain⟨C,G,l,j,g,z,rfl⟩:=vU R inB [7] 0 SE aD [ad,S "new"::ad]
  (λ_ O=>∃l j g,(plO l&&(plO j&&plO g))=To/\O=En ns A B Fk Es FO Ig l j g x10 x11) _ F (by
   rintro M b v O e⟨l,j,g,z,rfl⟩
   have q:b∈[ad,S "new"::ad]:=by rw[e];simp
   have m:∀w∈b,w∈ws9:=by
    rcases Zf.mp q with rfl|q
    ·exact s
    ·rw[yB.mp q]
     intro w m
     rcases Zf.mp m with rfl|m
     ·exact Jrk
     ·exact s w m
   obtain⟨Z,X,I,W⟩:=Jtj (ns:=ns) h (a:=a) (dn:=dn) (un:=un) m FO Ig j g x10 x11
   exact⟨_,rfl,_,by rw[setA7];exact W,So (aD b),Z,X,by rw[I];exact xV.mpr ⟨Jwg b,rfl⟩,rfl⟩) ⟨x7,x8,x9,P,rfl⟩
 refine⟨So (aD ad),l,j,g,xV.mpr ⟨Jwg ad,z⟩,?_⟩
 show exD R (.seq _ (.loop _ _ _ _ _)) _=_
 rw[wF _ _ _ L]
 exact G
def b4_ok{A:Aq}(h:BW)(x10 x11:AL):∃y5 y6 y7 y8 y9,(plO y5&&(plO y6&&(plO y7&&(plO y8&&plO y9))))=To/\exO Fo R Q qS (En ns A B Fk Es No No No No No x10 x11)=.ok .nx Mw:=by
 obtain⟨f,j,y5,y6,y7,y8,y9,b,rfl⟩:=Jfg R outB 5 RA 5 (λ_ O=>∃y5 y6 y7 y8 y9,(plO y5&&(plO y6&&(plO y7&&(plO y8&&plO y9))))=To/\O=En ns A B Fk Es y5 y6 y7 y8 y9 x10 x11) _ rfl AB (by
  rintro k O u⟨y5,y6,y7,y8,y9,b,rfl⟩;simp only[Zc]at b;obtain⟨o,g,m,s,l,q⟩:=JpT (ns:=ns) h (a:=a) (dn:=dn) (un:=un) k y6 y7 y8 y9 x10 x11 (by simp only[Zc];exact b.2.2);exact⟨_,q,So BQ,o,g,m,s,by rw[l];rfl,rfl⟩) ⟨No,No,No,No,No,rfl,rfl⟩
 exact⟨y5,y6,y7,y8,y9,b,wK j⟩
theorem JkK:∀T:List Row,belw (mkT hN T) BZ=T
 |[]=>rfl
 |r::T=>by
  have b:=JkK T
  unfold belw mkT at b⊢
  rw[Zg,nF,if_pos (by simp[canB,mntR,hN,Part.fits]),Zg,b]
  rfl
def JqT(T:Aq)(w:Str):∀r∈belw T w,r.l∈T.map X6:=λr b=>by
 obtain⟨q,f,rfl⟩:=Zv.mp b
 have:(cutR q).l=q.l:=by unfold cutR;split<;>rfl
 rw[this]
 exact qD (wL.mp f).1
theorem b6_ok{A:Aq}(h:BW)(y5 y6 y7 y8 y9 x10 x11:AL):exO Fo R Q JlN Mw=.ok .nx Mw:=by
 have w:=h.na
 have hB:=h.nb
 have m:=h.tM.ln
 have q:(belw Eo BZ).length<=8:=Zq (Jkq _ _) m
 have g:=kL R Mw (src:=.walk Ux)
  (c:=.bi .isin DV V3) (e:=.var 0) (rs:=belw Eo BZ) XX (λr=>'乐'.any λv=>v==r.l) XX
  (by rw[iE,Jk _ _ (J:=[tD Eo,.str BZ]) rfl (below _ Af _ Jrk 8)];rfl) Af λr _=>⟨by
   have u:=Jgb R (So r.d::En ns A B Fk Es y5 y6 y7 y8 y9 x10 x11) (src:=.walk (.un .rows CZ)) (e:=.var 0) (rs:=B) (λr:Row=>D.str r.l) (λr=>r.pd) Se rfl Af λr _=>rfl
   refine Jh _ _ Lm u ?_
   have o:B.map (λr:Row=>D.str r.l)='乐'.map X4:=by rw[Zt];rfl
   rw[o,o_inL _ _ (by rw[JfY];lia) 'Ւ',tL]
   rfl,λ_=>rfl⟩
 have j:(belw Eo BZ).filter (λr=>'乐'.any λv=>v==r.l)=B:=by
  have e:belw Eo BZ=belw A (S "new")++B:=by
   have:=JkK B
   unfold belw at this⊢
   rw[mkM,List.filter_append,ZW,this]
  have b:=h.nd
  rw[mkM,mkT,ZW,Zt,wH]at b
  rw[e,List.filter_append,List.filter_eq_nil_iff.mpr λr f=>?_,mJ]
  ·refine List.filter_eq_self.mpr λr f=>?_
   rw[vH]
   exact⟨r.l,qD f,by simp⟩
  ·rw[vH]
   rintro⟨l,s,e⟩
   exact b.2.2 r.l (JqT A _ r f) l s (fF e).symm
 rw[j]at g
 refine wK (mK (Jh _ _ g (y:=.lst (B.map XX)) rfl (hJ _ ?_)))
 have:=JiU B
 have e:(D.lst (B.map XX)).dep=(tD B).dep:=rfl
 lia
theorem b7_ok{A:Aq}(h:BW)(m l j q o b:AL):exO Fo R Q Jnf Ud=.ok .nx Ud:=by
 have E:=h.na;have F:=h.tM.ln;have v:∀w∈[S "a",S "new"],w∈ws9:=by decide+kernel
 have f:=h.nd;have s:(A.map X6).Nodup:=by rw[mkM,ZW,wH]at f;exact f.1
 have g:∀{T:Aq}{i:Nat},KRs 6 T->'乏'.Nodup->(En ns A B Fk Es m l j q o LH b)[i]? =So (So (tD T))->
   evD R (.bi Ei (.un .dictP (.call 41 (.cons B2 Ua))) Ek) Ud=.ok (.int (nLed Hl T 2 No)):=fun{T i}u C z=>by
  have e:=tall Hl v AB T u AB 2 AB 6;have G:=u.2;refine Jh _ _ (x:=lR (los T) (nLed Hl T 2)) (y:=labO No) (JC _ _ (Jk _ _ (J:=[tD T,aD Hl,.int 2]) (Jg _ _ (by rw[yD,z]) rfl) e) (JsE (los T) (Jnw C) (by unfold los;simp;lia) _)) rfl (JqN _ _ ?_);unfold los;simp
 refine wK (mK (Jh _ _ (g (i:=4) h.krM f rfl) (g (i:=1) h.krA s rfl) ?_));rw[o_gt,Zs];have:=Jor Hl A (mkT hN B) 2;show¬(nLed _ A 2 No<nLed _ (A++mkT hN B) 2 No);lia
def zY{e:Px}{d:D}(h:evD R e O=.ok d):exO Fo R Q (.lift (.set Fo i e)) O=.ok .nx E9:=wK (by simp only[exD,h,Rs.bo,gC,Zl,ZF])
theorem JpZ(ns:AU)(hl:AK<=63):RL R Q Rr (JD 12 Qdq):=by
 obtain⟨A,hA,lA,nA,tA⟩:=table ns 100 AB 2 AB 3 AB;obtain⟨C,hC,M,nC,tC⟩:=table ns 400 AB 2 AB 3 AB;have h:Two A Gq:=⟨hA,lA,nA,C,rfl,hC,M,nC⟩;have v:evD R VW
   Wt=.ok (tD Gq):=by
  refine JC _ _ (Jgb _ _ (rs:=C) (λr:Row=>D.str r.l) (λr=>r.pd) (λr=>(oR r).d) ?_ Af λr hr=>?_) (by rw[tD,Zt];rfl)
  ·rw[iE,JC _ _ (x:=tD C) (Jk _ _ (J:=[ofN ns,.int 400,.int 2,.int 3]) rfl (tC 7)) rfl]
   rfl
  ·exact uA _ _ (J:=[.str (S "o"++r.l),r.pd]) (Jg _ _ (Jh _ _ rfl rfl (o_at r.l (JiF M r hr))) Qa8) Ad
 refine⟨Wt,zY (Jk _ _ (J:=[ofN ns,.int 100,.int 2,.int 3]) rfl (tA 7)),En ns A Gq No No No No No No No No No,zY v,?_⟩;generalize C.map oR=B at h;clear v;refine⟨JwB ns A B (e:=[No,No,No,No,No,No,No,No]) rfl,λa=>?_⟩;have hM:=h.tM;have Z:Jb PL=To:=by simp[Jb,stp,Jj,optT,JR]
 have z:Jb LB=To:=by simp[Jb,stp,Jj,optT,JR]
 have q2:put FQ B HW=kn2 A B:=Jny (by show S "two"∉[S "one"];decide+kernel);have l2:look FQ HW=No:=by simp[look,Jp]
 have m0:Q 2 Tn [.str Em,tD A]=.ok C4 Mz:=m_put dn0 AB AB n1 9;have m1:Q 2 Mz [.str FQ,tD B]=.ok C4 Tu:=by have:=m_put (a:=a) (A:=HW) (dn:=PL) (un:=[]) (t:=B) ⟨Z,by simp,rfl⟩ Ad Ad n2 9;rw[q2,l2]at this;exact this
 have X:Q 3 Tu VE=.ok DM (ob a Ep (LB++[stp CV Em (So A) DM]) []):=by have:=m_mount (a:=a) (A:=kn2 A B) (dn:=LB) (un:=[]) (hs:=hN) ⟨z,by simp,rfl⟩ Ad (show 2<1000 by decide) (kok2 h.tA h.tB) n1 n2 Jwn AB 4;simp only[eR,JvM,h.ok,if_true]at this;rw[show A++mkT hN B=mkM A B from rfl,put1]at this;exact this
 have q:∀(e:Fm),plE e=To->∀J,Jb J=To->(plE (So Cp::So (tD A)::So (tD B)::No::e)&&Jb J)=To:=λe E J hd=>by rw[JwB ns A B E,hd];rfl
 refine⟨En ns A B (So Mz) No No No No No No No No,kK (O:=En ns A B (So Tn) No No No No No No No No) (i:=3) (J:=[.str Em,tD A]) rfl rfl (q _ rfl _ (by simp[Jb,Jj,JR])) m0,?_⟩;refine⟨En ns A B (So Tu) No No No No No No No No,kK (O:=En ns A B (So Mz) No No No No No No No No) (i:=3) (J:=[.str FQ,tD B]) rfl rfl (q _ rfl _ (by simp[Jb,Jj,JR])) m1,?_⟩;generalize hs:LB=dn at z X;have G:dn.length=2:=by rw[<-hs];rfl
 refine⟨En ns A B HD Es No No No No No No No,?_,?_⟩
 ·have e:=sX (U:=R) (bc:=Q) (r:=Fo) (f:=3) (i:=3) (ns:=nsS) (p:=.cons LM YY)
   (O:=En ns A B (So (ob a (kn2 A B) dn [])) No No No No No No No No) rfl (J:=VE) rfl (q _ rfl _ (by simp[Jb,Jj,hN,Part.d])) X
  simp only[Jot,exO,e,Rx.next,JR,Jwh,Bool.and_self,if_true];rfl
 have I:KOk Ep:=kok2 hM h.tB;have t3:evD R W2
   (En ns A B HD Es No No No No No No No)=.ok C4:=
  fH _ _ (p:=Fo) (Jh _ _ (x:=tD Eo) rfl (tabK (i:=3) (a:=a) (dn:=dn++[stp CV Em (So A) DM]) (un:=[]) rfl rfl n1 (eR Eo B)) (jX _)) λ_=>Jh _ _ (tabK (i:=3) (a:=a) (dn:=dn++[stp CV Em (So A) DM]) (un:=[]) rfl rfl n2 (JvM Eo B)) (y:=tD B) rfl (jX _)
 refine⟨_,wK (mK t3),?_⟩;obtain⟨g,b,m,l,j,W,g4⟩:=b4_ok (ns:=ns) h (a:=a) (dn:=dn++[stp CV Em (So A) DM]) (un:=[]) No No;refine⟨_,g4,En ns A B HD Es g b m l j LH No,zY rfl,?_⟩;refine⟨_,b6_ok h g b m l j LH No,_,b7_ok h g b m l j No,?_⟩;refine⟨[.str (mkS (stx Ep))],?_,rfl,λo=>?_⟩
 ·exact Jg _ _ (Jl _ _ (x:=ob a Ep Uv []) rfl (site_text I 6)) rfl
 refine⟨_,JwI I o,?_⟩;obtain⟨w,E,_⟩:=JoN I;have kz:kys (srt Ep)=XB:=by rw[kT,srt2]
 have t0:evD R VS
   (En ns A B HD Es g b m l j LH (So (ob o (srt Ep) [] [])))=.ok C4:=by
  refine fH _ _ (p:=Fo) (Jh _ _ (zW w.nd (by have:=w.len;lia) 11 (i:=11) rfl) (y:=.lst [.str Em,.str FQ]) rfl ?_) λ_=>Jh _ _ (tabK (i:=11) (a:=o) (dn:=[]) (un:=[]) rfl rfl n1 ((E _).trans (eR Eo B))) (y:=tD Eo) rfl (jX _);rw[kz,show Jn 'Ƴ'='Ƴ' by decide+kernel];exact hJ _ Ab
 refine⟨_,wK (mK t0),?_⟩;have u:put Em A Ep=kn2 A B:=put1 _ _ _;have H:Q 5 (ob a Ep Uv []) []=.ok (.str CV) Ly:=by
  have ps:Jb Tw=To:=by simp[Jb,stp,Jj,optT,JR]
  refine m_back (s:=⟨S "mount",S "one",So A,So Eo⟩) z rfl Ad 9 ?_;have:=mU (a:=a) (A:=kn2 Eo B) (dn:=dn) (un:=Tw) (n:=S "one") (t:=A) ⟨z,by lia,ps⟩ (show 2<1000 by decide) 9;rw[u]at this;exact this
 refine⟨En ns A B (So Ly) Es g b m l j LH No,?_⟩;have F:plE (So DM::g::b::m::l::j::[So (aD Hl),No])=To:=by simp only[Zc]at W;obtain⟨q5,q6,q7,q8,q9⟩:=W;simp only[plE_c,q5,q6,q7,q8,q9,nG];show(Jj DM&&To)=To;rw[JR];rfl
 have Y:=sX (U:=R) (bc:=Q) (r:=Fo) (f:=5) (i:=3) (p:=.nil) (J:=[]) (O:=En ns A B HD Es g b m l j LH No) rfl rfl (q _ F [] rfl) H;rw[show List.set 'һ' 3 (So Ly)=En ns A B (So Ly) '2' g b m l j 'æ' No from rfl]at Y;have L:evD R N2 Wk=.ok CW:=
  Jh _ _ (tabK (i:=3) (a:=a) (dn:=dn) (un:=Tw) rfl rfl n1 (eR A B)) (y:=tD A) rfl (tD_eq _)
 have P:evD R Xb Wk=.ok CW:=by refine Jh _ _ (x:=.tup [.int dn.length,.int 1]) (Jl _ _ QbU rfl) (y:=.tup [.int 2,.int 1]) rfl ?_;rw[G];exact JiS _ Ab
 show exO Fo R Q (.retB (.and (.bi .eq _ _) (.and _ _))) 'һ'=_;rw[exO,evB,evB,Y];simp only[Rx.bind,evB,L,P,Rx.of,Rx.next,vW];rw[show Jj (D.str CV)=To from rfl,if_pos rfl,show op2 .eq (.str CV) (.str La)=.ok 'J' from JiS _ 'b'];dsimp only;rw[L];dsimp only;rw[P]
end K75
namespace K75
open PySem PySem.Spec PyProof.Rows L2 Pu Rd
variable{e:DefE}{mg:Bk}
noncomputable abbrev row:Program:=PySem.Challenge.pw_routeboard_k75_whole_sites_and_tables
noncomputable def stAt (i:Nat):Stmt:=row.main.body.getD i Py
noncomputable abbrev Jda:Stmt:=lE C8 1
noncomputable abbrev JeX:Stmt:=lE C8 2
noncomputable abbrev Jsn:Stmt:=lE C8 3
noncomputable abbrev Jkn:Stmt:=lE C8 6
noncomputable abbrev lN:Stmt:=lE C8 9
noncomputable abbrev Nm_go:List Str:=WC
noncomputable abbrev eT:Stmt:=lE C8 10
noncomputable abbrev JtS:List Str:=[El]
noncomputable abbrev JiE:Stmt:=lE C8 4
noncomputable abbrev JsB:Stmt:=lE C8 7
noncomputable abbrev Jrj:Stmt:=lE C8 8
noncomputable abbrev JoI:Stmt:=lE C8 12
noncomputable abbrev JiG:Stmt:=lE C8 0
noncomputable abbrev pR:Stmt:=stAt 76
noncomputable abbrev JwZ:List Str:=[BI,(oS "_law_one"),(oS "_law_other"),(oS "_law_site"),RI,Hd,(oS "_law_address"),(oS "_law_here"),(oS "_law_inner"),(oS "_law_told"),(oS "_law_words"),(oS "_law_again")]
noncomputable abbrev T:List DefE:=[((oS "is_text_of"),stAt 17,PK),
 ((oS "is_word"),stAt 18,[DT]),
 ((oS "is_name"),stAt 19,[DT]),
 ((oS "is_tuple_of"),stAt 20,PJ),
 ((oS "are_words"),stAt 21,[QdY]),
 ((oS "has_twice"),stAt 22,[L9]),
 ((oS "are_rising_words"),stAt 23,[DT]),
 ((oS "is_part"),stAt 24,[DT]),
 ((oS "is_hole"),stAt 25,[G2]),
 ((oS "hole_names"),stAt 26,[CT]),
 ((oS "is_pattern"),stAt 27,[DT]),
 ((oS "is_row"),stAt 28,[DT]),
 ((oS "is_table"),stAt 29,[DT]),
 ((oS "has_rest"),stAt 31,[CT]),
 ((oS "writes_number"),stAt 32,[Dq]),
 ((oS "lets_by"),stAt 33,[G2,Dq]),
 ((oS "has_fitting_length"),stAt 34,[CT,G1]),
 ((oS "does_match"),stAt 35,[CT,Ge]),
 ((oS "all_rows"),stAt 37,Gm),
 ((oS "first"),stAt 38,Gm),
 ((oS "mounted"),stAt 40,[MX,Et]),
 ((oS "joined"),stAt 41,[dP,MW]),
 ((oS "can_begin"),stAt 42,[CT,Dq]),
 ((oS "without_first_word"),stAt 43,[CT]),
 ((oS "below"),stAt 44,[Et,Dq]),
 ((oS "label_by_words"),stAt 45,Gm),
 ((oS "written_part"),stAt 48,[G2]),
 ((oS "with_slashes"),stAt 49,[(oS "texts")]),
 ((oS "written"),stAt 50,[CT]),
 ((oS "between_slashes"),stAt 51,[B3]),
 ((oS "read_part"),stAt 52,[B3]),
 ((oS "read"),stAt 53,[B3]),
 ((oS "written_row"),stAt 54,[(oS "row")]),
 ((oS "written_table"),stAt 55,[Et]),
 ((oS "lines_of"),stAt 56,[B3]),
 ((oS "read_row"),stAt 57,[b8]),
 ((oS "read_table"),stAt 58,[B3]),
 ((oS "site_text"),stAt 61,[b9]),
 ((oS "tables_by_heads"),stAt 62,[B3]),
 ((oS "name_in"),stAt 63,[LU]),
 ((oS "tallies_below"),stAt 66,[Et,L8,G1]),
 ((oS "tallies"),stAt 67,[Et,L8,G1]),
 ((oS "_law_cell"),stAt 69,[BI,Hd]),
 ((oS "_law_pick"),stAt 70,[BI,Hd,RH]),
 ((oS "_law_part"),stAt 71,[BI,DE,Qa9]),
 ((oS "_law_pattern"),stAt 72,[BI,DE,MY]),
 ((oS "_law_table"),stAt 73,[BI,DE,MY,Qba]),
 ((oS "_law_any_word"),stAt 74,[BI,DE]),
 ((oS "_law_near"),stAt 75,[BI,DE,Qw])]
noncomputable abbrev B_:List Str:=[(oS "all"),HS,(oS "dict"),(oS "enumerate"),(oS "isinstance"),(oS "len"),(oS "list"),(oS "range"),(oS "set"),(oS "sorted"),(oS "str"),(oS "tuple"),(oS "zip")]
structure Env(G:Gw)(U:Ag):Prop where
 f:∀i{n},T[i]?.map (·.1)=So n->Callee G U i n
 b:BlN G.mg B_
 c_FIGURES:vC G Rg QaN
 c_LETTERS:vC G Rf QaM
 c_MOST_CHOICES:vC G SN Gy
 c_MOST_LETTERS:vC G SM Gy
 c_MOST_PARTS:vC G R0 Qc5
 c_MOST_ROWS:vC G RG bQ
 c_MOST_SIGNS:vC G RZ bQ
 c_NAME_ONLY_HOLES:vC G Td Tr
 c_SIGNS:vC G Ie (.tup LD)
 c_WORD_SIGNS:vC G RY QaL
 k_T:NoKT G.K
 x_NoBack:ExcC G He
 x_NoSite:ExcC G Le
 x_NoText:ExcC G LC
 x_TooMany:ExcC G Ky
 F_done:FldC G KC
 F_tables:FldC G HQ
 F_undone:FldC G K4
 p_table_of:CalleeP G U 49 BX QbV
 p_lead:CalleeP G U 50 BX (oS "lead")
 p_names:CalleeP G U 51 BX L9
 p_counts:CalleeP G U 52 BX Ml
theorem blm{x:Str}:∀{T:Ac},BlN mg T->x∈T->mg x=No
 |_::_,b,.head _=>b.1
 |_::_,b,.tail _ h=>blm b.2 h
noncomputable abbrev NL:List NM:=[(PK,[]),
 FT,
 FT,
 (PJ,[]),
 ([QdY],[]),
 ([L9],[]),
 FT,
 FT,
 ([G2],[]),
 LS,
 FT,
 FT,
 FT,
 LS,
 ([Dq],[]),
 ([G2,Dq],[]),
 ([CT,G1],[]),
 ([CT,Ge],[]),
 (Gm,[]),
 ([Et,Ge,(oS "labels")],[]),
 ([MX,Et,Kz],[]),
 ([dP,MW,Kz],[]),
 ([CT,Dq],[]),
 LS,
 ([Et,Dq],[]),
 ([Et,Ge,Dq],[]),
 ([G2,(oS "kind"),(oS "sign")],[]),
 ([(oS "texts")],[]),
 LS,
 ([B3],[]),
 ([B3,(oS "kind"),(oS "sign"),QdZ],[]),
 ([B3,CT],[]),
 ([(oS "row")],[]),
 ([Et],[]),
 ([B3],[]),
 ([b8,QdZ],[]),
 ([B3,Et],[]),
 ([b9],[]),
 ([B3,(oS "found"),LU,b8],[1]),
 ([LU,Fg],[]),
 ([Et,L8,G1,Ml,(oS "turn"),(oS "further"),Kz,(oS "count"),Dq,(oS "left")],[5]),
 ([Et,L8,G1,Ml,Kz,(oS "count"),(oS "label")],[3]),
 ([BI,Hd],[]),
 ([BI,Hd,RH,(oS "_law_drawn")],[]),
 ([BI,DE,Qa9,(oS "_law_pool"),QbW,(oS "_law_some")],[]),
 ([BI,DE,MY,(oS "_law_names"),RI],[4]),
 ([BI,DE,MY,Qba,(oS "_law_labels"),RH],[]),
 ([BI,DE],[]),
 ([BI,DE,Qw,RI,Hd,(oS "_law_part_here"),QbW],[3])]
structure EnvB(G:Gw)(U:Ag)(bc:AI):Prop extends Env G U where
 m_set_table:CalleeB G bc 0 BX RF
 m_do_step:CalleeB G bc 1 BX Re
 m_put:CalleeB G bc 2 BX Gu
 m_mount:CalleeB G bc 3 BX La
 g_go:CalleeG G bc 4 BX aO
 m_back:CalleeB G bc 5 BX (oS "back")
structure EnvL(G:Gw)(U:Ag)(bc:AI)(R:DL):Prop extends EnvB G U bc where
 mkS:MakeS G
 q_rs:CalleeQ G R Qbb
noncomputable abbrev TM5:List MethE:=[(RF,Pj,Jda,K7),(Re,Ox,JeX,RV),(Gu,QbX,Jsn,K7),(La,Qaq,Jkn,NO)]
noncomputable abbrev TM:List MethE:=[(RF,Pj,Jda,K7),(Re,Ox,JeX,RV),(Gu,QbX,Jsn,K7),(La,Qaq,Jkn,NO),(aO,Qcu,lN,VN),((oS "back"),(oS "Site.back"),eT,[El])]
noncomputable abbrev TP:List MethE:=[(QbV,(oS "Site.table_of"),JiE,[El,Fg]),((oS "lead"),(oS "Site.lead"),JsB,[El,Ge]),(L9,(oS "Site.names"),Jrj,[El]),(Ml,(oS "Site.counts"),JoI,[El])]
noncomputable abbrev NM_:List Kg:=[K7,RV,[El,Fg,Et,(oS "had_one")],[El,Fg,MX,MW,dP,Et],WC,[El]]
noncomputable abbrev NP:List Kg:=[[El,Fg],[El,Ge,(oS "led_to")],[El],[El]]
def dAll{X:Cx}{G:Gw}{U:Ag}{a:Hp}:(∀E:Env G U,DAll X G U a T NL defs/\JwV X G U a TP NP (defs.drop 49))/\∀{bc:AI}(E:LP)(b:PlO a),JwG X G U bc a TM5 NM_ bdefs:=by
 refine⟨λE=>GX,λE b=>?_⟩;all_goals repeat' (refine mD (λC f=>?_) ?_)
 all_goals try exact ZT
 all_goals conv=>(arg 2;whnf)
 all_goals first|conv=>(arg 3;arg 7;whnf)|conv=>(arg 3;arg 5;whnf)
 repeat' (first
  |with_reducible assumption
  |((with_reducible show _=_);first|exact(by decide+kernel)|exact rfl|exact blm E.b (by decide+kernel))
  |((with_reducible show PE _ _ _);with_reducible (first|refine@vV _ _ _ _ _ _ _ C _ ?_|refine@JB _ _ _ _ _|refine@cF _ _ _ _ _ _ _ _ _ _ _ C _ ?_ ?_ ?_ ?_ ?_|refine@JH _ _ _ _ _|refine@eIx _ _ _ _ _ _ _ ?_ ?_ ?_|refine@eAdd _ _ _ _ _ _ _ ?_ ?_|refine@kN _ _ _ _ _ _ _ _ _ _ _ _ _ _ _ C ?_ ?_ ?_ ?_ ?_ ?_|refine@fE _ _ _ _ _ _ ?_|refine@cLen _ _ _ _ _ _ _ _ _ C ?_ ?_ ?_ ?_|refine@vG _ _ _ _ _ _ _ C _ ?_ ?_|refine@zX _ _ _ _ _ ?_|refine@mR _ _ _ _ _|refine@oI _ _ _ _ _|refine@eMul _ _ _ _ _ _ _ ?_ ?_|refine@Jso _ _ _ _ _ _ _ _ _ C ?_ ?_ ?_ ?_|refine@Jwy _ _ _ _ _ _ _ _ ?_ ?_|refine@Jxk _ _ _ _ _ _ _ _ _ C ?_ ?_ ?_|refine@cAll _ _ _ _ _ _ _ _ _ C ?_ ?_ ?_ ?_|refine@Jwj _ _ _ _ _ _ ?_|refine@sU _ _ _ _ ?_ _ _ _ _ _ ?_ ?_ ?_|refine@eEq _ _ _ _ _ _ _ _ _ _ C ?_ ?_|refine@eMod _ _ _ _ _ _ _ ?_ ?_|refine@cJoin _ _ _ _ _ _ _ _ _ ?_ ?_ ?_ ?_|refine@cStrt _ _ _ _ _ _ _ _ ?_ ?_ ?_ ?_ ?_ ?_|refine@eIn _ _ _ _ _ _ _ _ _ _ C ?_ ?_ ?_|refine@JwE _ _ _ _ _ _ _ _ _ ?_ ?_ ?_|refine@JxK _ _ _ _ _ ?_|refine@lY _ _ _ _|refine@xR _ _ _ _ _ _ _ ?_|refine@cM _ _ _ _ _ _ _ _ _ _ _ _ _ _ _ _ _ _ ?_ C ?_ ?_ ?_ ?_ ?_ ?_ ?_ ?_|refine@JwR _ _ _ _ _ _ _ _ ?_ ?_ ?_ ?_ ?_ ?_|refine@JwD _ _ _ _ _ ?_|refine@eGetZ _ _ _ _ _ _ _ _ _ _ _ _ C _ ?_ ?_ ?_ ?_ _ ?_|refine@cP _ _ _ _ _ _ _ _ _ _ _ _ _ _ _ _ ?_ C ?_ ?_ ?_ ?_ ?_ ?_ ?_|refine@eSub _ _ _ _ _ _ _ ?_ ?_|refine@cPart _ _ _ _ _ _ _ _ ?_ ?_ ?_ ?_ ?_ ?_|refine@cIsi _ _ _ _ _ _ _ _ _ _ _ _ _ Jnc C ?_ ?_ PyProof.Rows.boot_str ?_ ?_ ?_ ?_ ?_ ?_|refine@cIsi _ _ _ _ _ _ _ _ _ _ _ _ _ JuG C ?_ ?_ PyProof.Rows.boot_tuple ?_ ?_ ?_ ?_ ?_ ?_|refine@eGt _ _ _ _ _ _ _ ?_ ?_|refine@eLt _ _ _ _ _ _ _ ?_ ?_|refine@JpU _ _ _ _ _ _ _ _ _ _ _ _ _ ?_ ?_ ?_ ?_ ?_ ?_|refine@nX _ _ _ _ _ _ _ _ _ _ C _ ?_ ?_ ?_ ?_|refine@cP0 _ _ _ _ _ _ _ _ _ _ _ _ _ ?_ C ?_ ?_ ?_ ?_|refine@eDiv _ _ _ _ _ _ _ ?_ ?_|refine@cEnds _ _ _ _ _ _ _ _ ?_ ?_ ?_ ?_ ?_ ?_|refine@cAny _ _ _ _ _ _ _ _ _ C ?_ ?_ ?_ ?_|refine@eGe _ _ _ _ _ _ _ ?_ ?_|refine@eNe _ _ _ _ _ _ _ _ _ _ C ?_ ?_|refine@Jtw _ _ _ _ _ _ _ _ _ _ _ C ?_ ?_ ?_ ?_ ?_ ?_|refine@pI_or _ _ _ _ _ _ _ _ ?_ ?_|refine@JtB _ _ _ _ _ _ _ _ _ _ _ C ?_ ?_ ?_ ?_ ?_ ?_|refine@eDIn _ _ _ _ _ _ _ _ _ _ C _ ?_ ?_ ?_ ?_|refine@eDsp1 _ _ _ _ _ _ _ _ _ _ C ?_ ?_ ?_|refine@eFst _ _ _ _ _ _ _ ?_ ?_|refine@cSrtD _ _ _ _ _ _ _ _ _ C ?_ ?_ ?_ ?_|refine@Jxc _ _ _|refine@eGetN _ _ _ _ _ _ _ _ _ _ _ C ?_ ?_ ?_ ?_|refine@jJ _ _ _ _ ?_ ?_))
  |((with_reducible show PA _ _ _);with_reducible (first|refine@Jd _ _ _ _ _ _ ?_ ?_ ?_|refine@Jm _ _))
  |((with_reducible show PSs _ _ _);with_reducible (first|refine@tE _ _ _ _ _ _ ?_|refine@fO _ _ _ _ _ _ _ _ ?_ ?_|refine@gG _ _ _ _|refine@pT _ _ _ _ _ _ _ _ _ _ ?_ ?_|refine@kH _ _ _ _ _ _ _ _ ?_|refine@Jgp _ _ _ _ _ _ _ _ ?_))
  |((with_reducible show PS _ _ _);with_reducible (first|refine@xI _ _ _ _ _ _ _ ?_|refine@vI _ _ _ _ _ _ _ _ _ _ _ ?_ ?_ ?_|refine@Jvy _ _ _ _ _ _ _ _ _ _ _ _ _ _ _ _ _ _ _ _ _ C ?_ ?_ ?_ ?_ ?_ ?_ ?_ ?_|refine@aSet _ _ _ _ _ _ _ _ _ _ _ _ _ C ?_ ?_ ?_ ?_|refine@JfX _ _ _ _ _ _ _ _ _ _ _ _ _ C ?_ ?_ ?_ ?_|refine@eZ _ _ _ _ _ _ _ _ _ _ _ _ _ _ _ C ?_ ?_ ?_ ?_ ?_ ?_|refine@aApp _ _ _ _ _ _ _ _ _ _ _ _ _ _ _ C ?_ ?_ ?_ ?_ ?_|refine@bSet _ _ _ _ _ _ _ _ _ _ _ _ _ _ C ?_ ?_ ?_|refine@zN _ _ _ _ _ _ _ _ _ ?_ ?_|refine@mX _ _ _ _ _ _ _ _ _ _ _ _ _ ?_ ?_ ?_|refine@jY _ _ _ _ _ _ _ _ _ ?_|refine@JxH _ _ _ _ _ _ _ _ _ _ _ _ C ?_ ?_|refine@aPutM _ _ _ _ _ _ _ _ _ _ _ _ _ _ _ _ C _ ?_ ?_ ?_ ?_ ?_|refine@sY _ _ _ _ _ _ _ _ _ _ _ _ _ _ C ?_ ?_ ?_ ?_|refine@aExt _ _ _ _ _ _ _ _ _ _ _ _ _ _ _ C ?_ ?_ ?_ ?_ ?_|refine@aOwnC _ _ _ _ _ _ _ _ _ _ _ _ _ _ _ _ _ _ _ _ _ C ?_ ?_ ?_ ?_ ?_ ?_ ?_|refine@aOwn _ _ _ _ _ _ _ _ _ _ _ _ _ C ?_ ?_ ?_|refine@aPut _ _ _ _ _ _ _ _ _ _ _ _ _ _ _ _ C _ ?_ ?_ ?_ ?_ ?_ ?_ ?_|refine@JvU _ _ _ _ _ _ _ _ _ _ _ _ C ?_ ?_|refine@aRetF _ _ _ _ _ _ _ _ _ _ _ C ?_|refine@aMovF _ _ _ _ _ _ _ _ _ _ _ _ _ _ C ?_ ?_ ?_|refine@bAppF _ _ _ _ _ _ _ _ _ _ _ _ _ _ _ _ _ C ?_ ?_ ?_ ?_ ?_ ?_ ?_ ?_|refine@bNewL _ _ _ _ _ _ _ _ _ _ _ _ _ _ C ?_ ?_ ?_ ?_|refine@bPutK _ _ _ _ _ _ _ _ _ _ _ _ _ _ _ _ _ _ C ?_ ?_ ?_ ?_ ?_ ?_ ?_|refine@bPopK _ _ _ _ _ _ _ _ _ _ _ _ _ _ _ _ _ C ?_ ?_ ?_ ?_ ?_ ?_|refine@aAugK _ _ _ _ _ _ _ _ _ _ _ _ _ _ _ _ _ C ?_ ?_ ?_ ?_ ?_))
  |((with_reducible show PT _ _ _);with_reducible (first|refine@tEq _ _ _ _ _ _ _ _ _ _ C ?_ ?_|refine@Jsa _ _ _ _ _ ?_|refine@JiZ _ _ _ _ _ _ _ ?_|refine@Jyl _ _ _ _ _ _ _ ?_|refine@tGt _ _ _ _ _ _ _ ?_ ?_|refine@tLt _ _ _ _ _ _ _ ?_ ?_|refine@JmP _ _ _ _ _ _ _ ?_|refine@tGe _ _ _ _ _ _ _ ?_ ?_|refine@tIn _ _ _ _ _ _ _ _ _ _ C ?_ ?_ ?_|refine@tNe _ _ _ _ _ _ _ _ _ _ C ?_ ?_|refine@tDNi _ _ _ _ _ _ _ _ _ _ C _ ?_ ?_ ?_ ?_|refine@Jsb _ _ _ _ ?_ ?_|refine@PW.pt _ _ _ ?_))
  |((with_reducible show PI _ _ _ _);with_reducible (first|refine@yN _ _ _ _ _ _ ?_|refine@Jib _ _ _ _ _ _ _ _ _ _ C ?_ ?_ ?_ ?_|refine@sZ _ _ _ _ _ _ _ ?_|refine@JxC _ _ _ _ _ _ _ _ _ _ _ _ _ _ C ?_ ?_ ?_ ?_ ?_ ?_|refine@JqF _ _ _ _ _ _ _ _ _ ?_ ?_ ?_|refine@Jur _ _ _ _ _ _ _ _ _ _ _ _ C ?_ ?_ ?_ ?_))
  |((with_reducible show PW _ _ _);with_reducible (first|refine@TR _ _ _ _ _ _ ?_|refine@kR _ _ _ _ _ _ _ _ ?_ ?_))
  |((with_reducible show True);exact ZT)
  |((with_reducible show CalleeP _ _ _ _ _);first|exact E.p_table_of|exact E.p_lead|exact E.p_names|exact E.p_counts)
  |((with_reducible show FldC _ _);first|exact E.F_done|exact E.F_tables|exact E.F_undone)
  |((with_reducible show CalleeB _ _ _ _ _);first|exact E.m_set_table|exact E.m_do_step|exact E.m_put|exact E.m_mount|exact E.m_back)
  |((with_reducible show M1 _ _ _ _ _ _);exact⟨rfl,rfl,rfl,rfl⟩)
  |((with_reducible show _=To->NoKT _);first|(intro _;exact E.k_T)|(intro z;cases z))
  |((with_reducible show NoKT _);exact E.k_T)
  |((with_reducible show ExcC _ _);first|exact E.x_NoBack|exact E.x_NoSite|exact E.x_NoText|exact E.x_TooMany)
  |with_reducible intro _ C
  |((with_reducible intro _);exact rfl)
  |((with_reducible show _≠_);exact(by decide+kernel))
  |((with_reducible show _<=_);exact(by decide+kernel))
  |((with_reducible show nT _);intro _ _;exact rfl)
  |((with_reducible show NoSl _);intro _ _;exact rfl)
  |((with_reducible show M2 _ _ _ _ _ _ _);exact⟨rfl,rfl,rfl,rfl⟩)
  |((with_reducible show OpR _ _ _);first|exact JwP|exact vX|exact rX|exact yY)
  |((with_reducible show Callee _ _ _ _);exact E.f _ rfl)
  |((with_reducible show vC _ _ _);first|exact E.c_FIGURES|exact E.c_LETTERS|exact E.c_MOST_CHOICES|exact E.c_MOST_LETTERS|exact E.c_MOST_PARTS|exact E.c_MOST_ROWS|exact E.c_MOST_SIGNS|exact E.c_NAME_ONLY_HOLES|exact E.c_SIGNS|exact E.c_WORD_SIGNS)
  |((with_reducible show TgOk _ _ _ _);first|exact gOne C (by decide+kernel)|exact gTwo C (by decide+kernel) (by decide+kernel))
  |((with_reducible show PG _ _ _);first|exact lOne C (by decide+kernel)|exact lTwo C (by decide+kernel) (by decide+kernel)|exact lThree C (by decide+kernel) (by decide+kernel) (by decide+kernel))
  |with_reducible exact f.pass|with_reducible (first|refine@mS _ _|refine@vS _ _ _ _ ?_|refine@jT _ _|refine@pZ _ _ _ _ ?_|refine@Jsy _ _|refine@JqV _ _ _ _ _ _ _ ?_ ?_ ?_|refine@JsL _ _ _ _ _ _ _ ?_))
section
variable{X:Cx}{G:Gw}{U:Ag}{bc:AI}{H0:Hp}
def dm_go(E:LP)(C:Ctx X G Nm_go (Ja lN).names)(b:HX X (Ja lN).names)(a:A4):PSs X (Jo lN) (tGo X bc H0 0 He nsS):=by refine JxV (U:=U) (pm:=.nil) a G7 ?_ ?_ ?_ ?_ ?_;refine@tEq _ _ _ _ _ _ _ _ _ _ C ?_ JB;refine@cLen _ _ _ _ _ _ _ _ _ C ET ?_ Ab rfl;exact vV C Ab;intro _;refine@tE _ _ _ _ _ _ ?_;exact@JfX _ _ _ _ _ _ _ _ _ _ _ _ _ C E.x_NoBack Ab (@mR _ _ _ _ _) rfl;exact gPop C Ab Ab rfl;exact gApp C Ab Ab rfl;refine@pT _ _ _ _ _ _ _ _ _ _ ?_ ?_;refine@zN _ _ _ _ _ _ _ _ _ ?_ rfl;refine@cM _ _ _ _ _ _ _ _ _ _ _ _ _ _ _ _ _ _ _ C a E.m_set_table Ab Ab ?_ rfl rfl rfl;refine@Jd _ _ _ _ _ _ ?_ ?_ rfl;refine@eIx _ _ _ _ _ _ _ ?_ JB (λ_ _=>rfl);exact vV C Ab;refine@Jd _ _ _ _ _ _ ?_ Jm rfl;refine@eIx _ _ _ _ _ _ _ ?_ ?_ CM;exact vV C Ab;exact vV C Ab;refine@kH _ _ _ _ _ _ _ _ ?_;refine@jY _ _ _ _ _ _ _ _ _ ?_;refine@eIx _ _ _ _ _ _ _ ?_ JB CM;exact vV C Ab
def JtH(E:LP)(C:Ctx X G JtS (Ja eT).names)(b:HX X (Ja eT).names)(a:A4):PSs X (Jo eT) (tSB X To U bc [] H0 oZ):=by refine@kH _ _ _ _ _ _ _ _ ?_;refine Jtn C a ?_ E.F_done E.F_undone E.g_go Ab;exact lH Ab
noncomputable abbrev fU:Stmt:=stAt 64
noncomputable abbrev JkB:List Str:=[B3,b9,LU,Kz]
def Jqc(E:LP)(b:MakeS G)(C:Ctx X G JkB (Ja fU).names)(f:HX X (Ja fU).names)(a:A4):PSs X (Jo fU) (tRd X U bc H0 iR lO iO):=by refine JvP C a b Ab Ab ?_ ?_;refine@mX _ _ _ _ _ _ _ _ _ _ _ _ _ ?_ ?_ (@Jgp _ _ _ _ _ _ _ _ gG);refine@JiZ _ _ _ _ _ _ _ ?_;refine@Jsa _ _ _ _ _ ?_;refine@Jsb _ _ _ _ ?_ G7;refine@cIsi _ _ _ _ _ _ _ _ _ _ _ _ _ Jnc C ET ET PyProof.Rows.boot_str ?_ Ab Ab Ab Ab rfl;exact vV C Ab;refine@kH _ _ _ _ _ _ _ _ ?_;exact@sY _ _ _ _ _ _ _ _ _ _ _ _ _ _ C E.x_NoText Ab (@mR _ _ _ _ _) rfl;refine@pT _ _ _ _ _ _ _ _ _ _ ?_ ?_;refine JtJ C f.pass ?_ ?_ ?_ rfl;refine@cF _ _ _ _ _ _ _ _ _ _ _ C _ (E.f 38 rfl) Ab ?_ rfl rfl;refine@Jd _ _ _ _ _ _ ?_ Jm rfl;exact vV C Ab;exact@lTwo _ _ _ _ _ _ _ _ _ _ _ _ _ _ C Ab Ab;refine@kH _ _ _ _ _ _ _ _ ?_;refine@zN _ _ _ _ _ _ _ _ _ ?_ rfl;refine@cM _ _ _ _ _ _ _ _ _ _ _ _ _ _ _ _ _ _ _ C a E.m_set_table Ab Ab ?_ rfl rfl rfl;refine@Jd _ _ _ _ _ _ ?_ ?_ rfl;refine@cF _ _ _ _ _ _ _ _ _ _ _ C _ (E.f 39 rfl) Ab ?_ rfl rfl;refine@Jd _ _ _ _ _ _ ?_ Jm rfl;exact vV C Ab;refine@Jd _ _ _ _ _ _ ?_ Jm rfl;refine@cF _ _ _ _ _ _ _ _ _ _ _ C _ (E.f 36 rfl) Ab ?_ rfl rfl;refine@Jd _ _ _ _ _ _ ?_ Jm rfl;exact vV C Ab;refine@pT _ _ _ _ _ _ _ _ _ _ ?_ ?_;refine@mX _ _ _ _ _ _ _ _ _ _ _ _ _ ?_ ?_ (@Jgp _ _ _ _ _ _ _ _ gG);refine@JiZ _ _ _ _ _ _ _ ?_;refine@tNe _ _ _ _ _ _ _ _ _ _ C ?_ ?_;refine@cF _ _ _ _ _ _ _ _ _ _ _ C _ (E.f 37 rfl) Ab ?_ rfl rfl;refine@Jd _ _ _ _ _ _ ?_ Jm rfl;exact vV C Ab;exact vV C Ab;refine@kH _ _ _ _ _ _ _ _ ?_;exact@sY _ _ _ _ _ _ _ _ _ _ _ _ _ _ C E.x_NoText Ab (@mR _ _ _ _ _) rfl;refine@kH _ _ _ _ _ _ _ _ ?_;refine@jY _ _ _ _ _ _ _ _ _ ?_;exact vV C Ab
def d_law{R:DL}(E:EnvL G U bc R)(C:Ctx X G JwZ (Ja pR).names)(h:HX X (Ja pR).names)(f:A4):PSs X (Jo pR) (tLaw X H0 (RL U bc R)):=by refine kE ?_ ?_;refine@mH _ _ _ _ _ _ _ _ ?_;refine@aSet _ _ _ _ _ _ _ _ _ _ _ _ _ C Ab ?_ rfl rfl;refine@cF _ _ _ _ _ _ _ _ _ _ _ C _ (E.f 46 rfl) Ab ?_ rfl rfl;refine@Jd _ _ _ _ _ _ ?_ ?_ rfl;exact vV C Ab;refine@Jd _ _ _ _ _ _ JB ?_ rfl;exact@Jd _ _ _ _ _ _ JB (@Jd _ _ _ _ _ _ JB Jm rfl) rfl;refine kE ?_ ?_;refine@mH _ _ _ _ _ _ _ _ ?_;refine@aSet _ _ _ _ _ _ _ _ _ _ _ _ _ C Ab ?_ rfl rfl;refine@Jso _ _ _ _ _ _ _ _ _ C ET ?_ Ab rfl;refine@jJ _ _ _ _ ?_ rfl;refine@kN _ _ _ _ _ _ _ _ _ _ _ _ _ _ _ C Ab ?_ ?_ (λ_ a=>jT) ?_ G7;refine@sZ _ _ _ _ _ _ _ ?_;refine@cF _ _ _ _ _ _ _ _ _ _ _ C _ (E.f 46 rfl) Ab ?_ rfl rfl;refine@Jd _ _ _ _ _ _ ?_ ?_ rfl;exact vV C Ab;refine@Jd _ _ _ _ _ _ JB ?_ rfl;exact@Jd _ _ _ _ _ _ JB (@Jd _ _ _ _ _ _ JB Jm rfl) rfl;exact(λ_ a=>gTwo a Ab Ab);intro _ a;refine@fE _ _ _ _ _ _ ?_;refine@Jd _ _ _ _ _ _ ?_ ?_ rfl;refine@eAdd _ _ _ _ _ _ _ JH ?_;exact vV a Ab;refine@Jd _ _ _ _ _ _ ?_ Jm rfl;exact vV a Ab;refine JtQ C f Ab E.mkS Ab ?_;refine kE ?_ ?_;refine@zN _ _ _ _ _ _ _ _ _ ?_ rfl;refine@cMH _ _ _ _ _ _ _ _ _ _ _ _ _ _ _ _ _ _ _ _ C f E.m_put Ab Ab ?_ rfl rfl rfl rfl;refine@Jd _ _ _ _ _ _ JH ?_ rfl;refine@Jd _ _ _ _ _ _ ?_ Jm rfl;exact vV C Ab;refine kE ?_ ?_;refine@zN _ _ _ _ _ _ _ _ _ ?_ rfl;refine@cMH _ _ _ _ _ _ _ _ _ _ _ _ _ _ _ _ _ _ _ _ C f E.m_put Ab Ab ?_ rfl rfl rfl rfl;refine@Jd _ _ _ _ _ _ JH ?_ rfl;refine@Jd _ _ _ _ _ _ ?_ Jm rfl;exact vV C Ab;refine kE ?_ ?_;refine bSetI C Ab ?_;refine@cMH _ _ _ _ _ _ _ _ _ _ _ _ _ _ _ _ _ _ _ _ C f E.m_mount Ab Ab ?_ rfl rfl rfl rfl;refine@Jd _ _ _ _ _ _ JH ?_ rfl;refine@Jd _ _ _ _ _ _ ?_ (@Jd _ _ _ _ _ _ JH Jm rfl) rfl;refine@fE _ _ _ _ _ _ ?_;refine@Jd _ _ _ _ _ _ ?_ Jm rfl;refine@fE _ _ _ _ _ _ ?_;exact@Jd _ _ _ _ _ _ JH (@Jd _ _ _ _ _ _ JH Jm rfl) rfl;refine kE ?_ ?_;refine@mH _ _ _ _ _ _ _ _ ?_;refine@vI _ _ _ _ _ _ _ _ _ _ _ ?_ ?_ gG;refine@PW.pt _ _ _ ?_;refine@kR _ _ _ _ _ _ _ _ ?_ ?_;refine@tNe _ _ _ _ _ _ _ _ _ _ C ?_ ?_;exact vV C Ab;exact@cP _ _ _ _ _ _ _ _ _ _ _ _ _ _ _ _ _ C YD Ab Ab (@Jd _ _ _ _ _ _ JH Jm rfl) rfl rfl rfl;refine@TR _ _ _ _ _ _ ?_;refine@tNe _ _ _ _ _ _ _ _ _ _ C ?_ ?_;exact@cP _ _ _ _ _ _ _ _ _ _ _ _ _ _ _ _ _ C YD Ab Ab (@Jd _ _ _ _ _ _ JH Jm rfl) rfl rfl rfl;exact vV C Ab;exact@tE _ _ _ _ _ _ (@xI _ _ _ _ _ _ _ oI);refine kE ?_ ?_;refine@mH _ _ _ _ _ _ _ _ ?_;refine@eZ _ _ _ _ _ _ _ _ _ _ _ _ _ _ _ C h.pass ?_ ?_ ?_ rfl Qbc;exact@Jib _ _ _ _ _ _ _ _ _ _ C JB Ab ET rfl;exact@lOne _ _ _ _ _ _ _ _ _ C Ab;refine@fO _ _ _ _ _ _ _ _ ?_ ?_;refine@aSet _ _ _ _ _ _ _ _ _ _ _ _ _ C Ab ?_ rfl rfl;refine@sU _ _ _ _ _ _ _ _ _ _ ?_ mS (@vS _ _ _ _ JB);refine@cF _ _ _ _ _ _ _ _ _ _ _ C _ (E.f 48 rfl) Ab ?_ rfl rfl;refine@Jd _ _ _ _ _ _ ?_ ?_ rfl;exact vV C Ab;refine@Jd _ _ _ _ _ _ ?_ ?_ rfl;refine@eAdd _ _ _ _ _ _ _ JB ?_;refine@eMul _ _ _ _ _ _ _ JB ?_;exact vV C Ab;refine@Jd _ _ _ _ _ _ ?_ Jm rfl;refine@cF _ _ _ _ _ _ _ _ _ _ _ C _ (E.f 45 rfl) Ab ?_ rfl rfl;refine@Jd _ _ _ _ _ _ ?_ ?_ rfl;exact vV C Ab;refine@Jd _ _ _ _ _ _ ?_ (@Jd _ _ _ _ _ _ JB Jm rfl) rfl;refine@eAdd _ _ _ _ _ _ _ JB ?_;refine@eMul _ _ _ _ _ _ _ JB ?_;exact vV C Ab;refine@tE _ _ _ _ _ _ ?_;refine@eZ _ _ _ _ _ _ _ _ _ _ _ _ _ _ _ C h.pass ?_ ?_ ?_ rfl G7;refine@yN _ _ _ _ _ _ ?_;refine@fE _ _ _ _ _ _ ?_;refine@Jd _ _ _ _ _ _ ?_ ?_ rfl;exact vV C Ab;refine@Jd _ _ _ _ _ _ ?_ Jm rfl;refine@eAdd _ _ _ _ _ _ _ ?_ ?_;exact@fE _ _ _ _ _ _ (@Jd _ _ _ _ _ _ JH Jm rfl);exact vV C Ab;exact@lOne _ _ _ _ _ _ _ _ _ C Ab;refine@fO _ _ _ _ _ _ _ _ ?_ ?_;refine@aSet _ _ _ _ _ _ _ _ _ _ _ _ _ C Ab ?_ rfl rfl;refine@JwE _ _ _ _ _ _ _ _ _ ?_ ?_ ?_;refine@tEq _ _ _ _ _ _ _ _ _ _ C ?_ ?_;refine@sU _ _ _ _ _ _ _ _ _ _ ?_ mS (@vS _ _ _ _ JB);exact vV C Ab;exact@fE _ _ _ _ _ _ (@Jd _ _ _ _ _ _ JH Jm rfl);refine@cF _ _ _ _ _ _ _ _ _ _ _ C _ Ic Ab ?_ rfl rfl;refine@Jd _ _ _ _ _ _ ?_ ?_ rfl;exact vV C Ab;refine@Jd _ _ _ _ _ _ ?_ Jm rfl;refine@sU _ _ _ _ _ _ _ _ _ _ ?_ (@vS _ _ _ _ JB) mS;exact vV C Ab;exact@jJ _ _ _ _ (@zX _ _ _ _ _ Jm) rfl;refine@fO _ _ _ _ _ _ _ _ ?_ ?_;refine@vI _ _ _ _ _ _ _ _ _ _ _ ?_ ?_ gG;refine@PW.pt _ _ _ ?_;refine@kR _ _ _ _ _ _ _ _ ?_ ?_;refine@tNe _ _ _ _ _ _ _ _ _ _ C ?_ ?_;refine@cF _ _ _ _ _ _ _ _ _ _ _ C _ Ic Ab ?_ rfl rfl;refine@Jd _ _ _ _ _ _ ?_ ?_ rfl;exact vV C Ab;refine@Jd _ _ _ _ _ _ ?_ Jm rfl;exact vV C Ab;refine@eAdd _ _ _ _ _ _ _ ?_ ?_;refine@cF _ _ _ _ _ _ _ _ _ _ _ C _ Ic Ab ?_ rfl rfl;refine@Jd _ _ _ _ _ _ ?_ ?_ rfl;exact vV C Ab;refine@Jd _ _ _ _ _ _ ?_ Jm rfl;exact vV C Ab;exact vV C Ab;refine@TR _ _ _ _ _ _ ?_;refine@tNe _ _ _ _ _ _ _ _ _ _ C ?_ ?_;refine@cF _ _ _ _ _ _ _ _ _ _ _ C _ (E.f 25 rfl) Ab ?_ rfl rfl;refine@Jd _ _ _ _ _ _ ?_ ?_ rfl;exact vV C Ab;refine@Jd _ _ _ _ _ _ ?_ Jm rfl;exact vV C Ab;refine@cF _ _ _ _ _ _ _ _ _ _ _ C _ (E.f 19 rfl) Ab ?_ rfl rfl;refine@Jd _ _ _ _ _ _ ?_ ?_ rfl;exact vV C Ab;refine@Jd _ _ _ _ _ _ ?_ Jm rfl;exact vV C Ab;exact@tE _ _ _ _ _ _ (@xI _ _ _ _ _ _ _ oI);refine@fO _ _ _ _ _ _ _ _ ?_ ?_;refine@Jvy _ _ _ _ _ _ _ _ _ _ _ _ _ _ _ _ _ _ _ _ _ C Ab Ab ?_ ?_ (λ_ a=>jT) ?_ rfl G7;refine@yN _ _ _ _ _ _ ?_;refine@fE _ _ _ _ _ _ ?_;exact@Jd _ _ _ _ _ _ JH (@Jd _ _ _ _ _ _ JH Jm rfl) rfl;exact(λ_ a=>gOne a Ab);intro _ a;refine@fE _ _ _ _ _ _ ?_;refine@Jd _ _ _ _ _ _ ?_ ?_ rfl;exact vV a Ab;refine@Jd _ _ _ _ _ _ ?_ Jm rfl;refine@cF _ _ _ _ _ _ _ _ _ _ _ a _ (E.f 19 rfl) Ab ?_ rfl rfl;refine@Jd _ _ _ _ _ _ ?_ ?_ rfl;refine@cP _ _ _ _ _ _ _ _ _ _ _ _ _ _ _ _ _ a YD Ab Ab ?_ rfl rfl rfl;refine@Jd _ _ _ _ _ _ ?_ Jm rfl;exact vV a Ab;refine@Jd _ _ _ _ _ _ ?_ Jm rfl;exact vV a Ab;refine@tE _ _ _ _ _ _ ?_;refine@vI _ _ _ _ _ _ _ _ _ _ _ ?_ ?_ gG;refine@tNe _ _ _ _ _ _ _ _ _ _ C ?_ ?_;refine@cP _ _ _ _ _ _ _ _ _ _ _ _ _ _ _ _ _ C E.p_lead Ab Ab ?_ rfl rfl rfl;refine@Jd _ _ _ _ _ _ ?_ Jm rfl;exact vV C Ab;refine@jJ _ _ _ _ ?_ rfl;refine@kN _ _ _ _ _ _ _ _ _ _ _ _ _ _ _ C Ab ?_ ?_ ?_ ?_ Qbc;refine@yN _ _ _ _ _ _ ?_;exact vV C Ab;exact(λ_ a=>gOne a Ab);intro _ a;refine@pZ _ _ _ _ ?_;refine@JmP _ _ _ _ _ _ _ ?_;refine@eIx _ _ _ _ _ _ _ ?_ JB CM;exact vV a Ab;intro _ a;exact vV a Ab;exact@tE _ _ _ _ _ _ (@xI _ _ _ _ _ _ _ oI);refine kE ?_ ?_;refine@mH _ _ _ _ _ _ _ _ ?_;refine@aSet _ _ _ _ _ _ _ _ _ _ _ _ _ C Ab ?_ rfl rfl;refine@fE _ _ _ _ _ _ ?_;exact@Jd _ _ _ _ _ _ JH (@Jd _ _ _ _ _ _ JH Jm rfl) rfl;refine kE ?_ ?_;refine@mH _ _ _ _ _ _ _ _ ?_;refine@vI _ _ _ _ _ _ _ _ _ _ _ ?_ ?_ gG;refine@tNe _ _ _ _ _ _ _ _ _ _ C ?_ ?_;refine@jJ _ _ _ _ ?_ rfl;refine@kN _ _ _ _ _ _ _ _ _ _ _ _ _ _ _ C Ab ?_ ?_ ?_ ?_ Qbc;refine@yN _ _ _ _ _ _ ?_;refine@cF _ _ _ _ _ _ _ _ _ _ _ C _ (E.f 24 rfl) Ab ?_ rfl rfl;refine@Jd _ _ _ _ _ _ ?_ (@Jd _ _ _ _ _ _ JH Jm rfl) rfl;exact vV C Ab;exact(λ_ a=>gOne a Ab);intro _ a;refine@pZ _ _ _ _ ?_;refine@tIn _ _ _ _ _ _ _ _ _ _ a ?_ ?_ rfl;refine@eIx _ _ _ _ _ _ _ ?_ JB CM;exact vV a Ab;refine@jJ _ _ _ _ ?_ rfl;refine@kN _ _ _ _ _ _ _ _ _ _ _ _ _ _ _ a Ab ?_ ?_ (λ_ b=>jT) ?_ G7;refine@sZ _ _ _ _ _ _ _ ?_;exact vV a Ab;exact(λ_ b=>gTwo b Ab Ab);intro _ b;exact vV b Ab;intro _ a;exact vV a Ab;refine@cList _ _ _ _ _ _ _ _ _ C ET ?_ Ab rfl;exact vV C Ab;exact@tE _ _ _ _ _ _ (@xI _ _ _ _ _ _ _ oI);refine kE ?_ ?_;refine@mH _ _ _ _ _ _ _ _ ?_;refine@vI _ _ _ _ _ _ _ _ _ _ _ ?_ ?_ gG;refine@tGt _ _ _ _ _ _ _ ?_ ?_;refine@nX _ _ _ _ _ _ _ _ _ _ C _ cW ?_ lY CM;refine@Jyt _ _ _ _ _ _ _ _ _ C ET ?_ Ab rfl;refine@cF _ _ _ _ _ _ _ _ _ _ _ C _ (E.f 41 rfl) Ab ?_ rfl rfl;refine@Jd _ _ _ _ _ _ ?_ ?_ rfl;exact vV C Ab;refine@Jd _ _ _ _ _ _ ?_ (@Jd _ _ _ _ _ _ JB Jm rfl) rfl;exact vV C Ab;refine@nX _ _ _ _ _ _ _ _ _ _ C _ cW ?_ lY CM;refine@Jyt _ _ _ _ _ _ _ _ _ C ET ?_ Ab rfl;refine@cF _ _ _ _ _ _ _ _ _ _ _ C _ (E.f 41 rfl) Ab ?_ rfl rfl;refine@Jd _ _ _ _ _ _ ?_ ?_ rfl;exact vV C Ab;refine@Jd _ _ _ _ _ _ ?_ (@Jd _ _ _ _ _ _ JB Jm rfl) rfl;exact vV C Ab;exact@tE _ _ _ _ _ _ (@xI _ _ _ _ _ _ _ oI);refine Jya C E.q_rs Ab Ab ?_ Ab ?_;refine@Jd _ _ _ _ _ _ ?_ Jm rfl;refine@cF _ _ _ _ _ _ _ _ _ _ _ C _ (E.f 37 rfl) Ab ?_ rfl rfl;refine@Jd _ _ _ _ _ _ ?_ Jm rfl;exact vV C Ab;refine kE ?_ ?_;refine@mH _ _ _ _ _ _ _ _ ?_;refine@vI _ _ _ _ _ _ _ _ _ _ _ ?_ ?_ gG;refine@PW.pt _ _ _ ?_;refine@kR _ _ _ _ _ _ _ _ ?_ ?_;refine@tNe _ _ _ _ _ _ _ _ _ _ C ?_ ?_;exact@cP0 _ _ _ _ _ _ _ _ _ _ _ _ _ _ C E.p_names Ab Ab rfl;refine@jJ _ _ _ _ ?_ rfl;refine@zX _ _ _ _ _ ?_;exact@Jd _ _ _ _ _ _ JH (@Jd _ _ _ _ _ _ JH Jm rfl) rfl;refine@TR _ _ _ _ _ _ ?_;refine@tNe _ _ _ _ _ _ _ _ _ _ C ?_ ?_;exact@cP _ _ _ _ _ _ _ _ _ _ _ _ _ _ _ _ _ C YD Ab Ab (@Jd _ _ _ _ _ _ JH Jm rfl) rfl rfl rfl;exact vV C Ab;exact@tE _ _ _ _ _ _ (@xI _ _ _ _ _ _ _ oI);refine Jtl (io:=11) (R':=λO=>∃g,exO Fo U bc (.retB JrJ) O=.ok Qc4 g) ?_;refine JsR ?_;refine@kH _ _ _ _ _ _ _ _ ?_;refine JsQ ?_;refine JrM ?_ ?_;refine bEq C ?_ (@xR _ _ _ _ _ _ _ JH);exact@cMH0 _ _ _ _ _ _ _ _ _ _ _ _ _ _ _ _ _ C f E.m_back Ab Ab rfl;refine JrM ?_ ?_;refine@xR _ _ _ _ _ _ _ ?_;refine@eEq _ _ _ _ _ _ _ _ _ _ C ?_ ?_;exact@cP _ _ _ _ _ _ _ _ _ _ _ _ _ _ _ _ _ C YD Ab Ab (@Jd _ _ _ _ _ _ JH Jm rfl) rfl rfl rfl;exact vV C Ab;refine Jrt ?_;refine@xR _ _ _ _ _ _ _ ?_;refine@eEq _ _ _ _ _ _ _ _ _ _ C ?_ ?_;exact@cP0 _ _ _ _ _ _ _ _ _ _ _ _ _ _ C E.p_counts Ab Ab rfl;refine@fE _ _ _ _ _ _ ?_;exact@Jd _ _ _ _ _ _ JB (@Jd _ _ _ _ _ _ JB Jm rfl) rfl
def JvV(C:Ctx X G [El] (Ja JiG).names):PSs X (Jo JiG) (Jsq X.K):=JN (tR ((lH Ab).pe C) Jfs rfl) (JN (tR ((lH Ab).pe C) (JiA _) rfl) (JiW (tR ((lH Ab).pe C) (JiA _) rfl)))
end
noncomputable abbrev TL:List DefE:=[((oS "law"),pR,[BI])]
noncomputable abbrev TR_:List DefE:=[(Qbb,fU,[B3])]
def lu1{α}{u:List α}(h:u.length=1):∃a,u=[a]:=match u,h with|[a],_=>⟨a,rfl⟩
def lu2{α}{u:List α}(h:u.length=2):∃a b,u=[a,b]:=match u,h with|[a,b],_=>⟨a,b,rfl⟩
def lu3{α}{u:List α}(h:u.length=3):∃a b c,u=[a,b,c]:=match u,h with|[a,b,c],_=>⟨a,b,c,rfl⟩
def lu4{α}{u:List α}(h:u.length=4):∃a b c d,u=Qdu:=match u,h with|[a,b,c,d],_=>⟨a,b,c,d,rfl⟩
def bndR:BsOk TR_:=⟨λ_ _ _ _ _ _ b a=>match b,a with|[_],_=>rfl,trivial⟩
def ent1(h:e.2.2.length=1)(q:∀kV f g i b ct a,bindArgs (PySem.W.fnOf e.1 e.1 (vE e.2.1) (Jo e.2.1) (Ja e.2.1) .none kV f g i b ct) cD=pure (e.2.2.zip [a])):BsE e:=λ_ _ _ _ _ _ j z=>match j,z.trans h with|[a],_=>q _ _ _ _ _ _ _
def ent2(h:e.2.2.length=2)(q:∀kV g i j f ct a b,bindArgs (PySem.W.fnOf e.1 e.1 (vE e.2.1) (Jo e.2.1) (Ja e.2.1) .none kV g i j f ct) ⟨[a,b],[]⟩=pure (e.2.2.zip [a,b])):BsE e:=λ_ _ _ _ _ _ l z=>match l,z.trans h with|[a,b],_=>q _ _ _ _ _ _ _ _
def ent3(h:e.2.2.length=3)(q:∀kV g i j f ct a b c,bindArgs (PySem.W.fnOf e.1 e.1 (vE e.2.1) (Jo e.2.1) (Ja e.2.1) .none kV g i j f ct) ⟨[a,b,c],[]⟩=pure (e.2.2.zip [a,b,c])):BsE e:=λ_ _ _ _ _ _ l z=>match l,z.trans h with|[a,b,c],_=>q _ _ _ _ _ _ _ _ _
def ent4(h:e.2.2.length=4)(q:∀kV g i j f ct a b c d,bindArgs (PySem.W.fnOf e.1 e.1 (vE e.2.1) (Jo e.2.1) (Ja e.2.1) .none kV g i j f ct) ⟨Qdu,[]⟩=pure (e.2.2.zip Qdu)):BsE e:=λ_ _ _ _ _ _ l z=>match l,z.trans h with|[a,b,c,d],_=>q _ _ _ _ _ _ _ _ _ _
def bnd:BsOk T:=by
 repeat' apply mD
 all_goals first|exact ZT|exact ent1 rfl λ_ _ _ _ _ _ _=>rfl|exact ent2 rfl λ_ _ _ _ _ _ _ _=>rfl|exact ent3 rfl λ_ _ _ _ _ _ _ _ _=>rfl|exact ent4 rfl λ_ _ _ _ _ _ _ _ _ _=>rfl
section
variable{P:Ba}{w:AQ}{K:Aj}{base:Heap}
noncomputable abbrev TG:MethE:=(aO,Qcu,lN,VN)
def bndM:BmOk TM:=by
 repeat' apply mD
 all_goals first|exact ZT|(intro _ _ _ _ _ _ b a;obtain⟨_,rfl⟩:=lu1 a;rfl)|(intro _ _ _ _ _ _ b a;obtain⟨_,_,rfl⟩:=lu2 a;rfl)|(intro _ _ _ _ _ _ b a;obtain⟨_,_,_,rfl⟩:=lu3 a;rfl)|(intro _ _ _ _ _ _ b a;obtain⟨_,_,_,_,rfl⟩:=lu4 a;rfl)
def bndP:BmOk TP:=by
 repeat' apply mD
 all_goals first|exact ZT|(intro _ _ _ _ _ _ b a;obtain⟨_,rfl⟩:=lu1 a;rfl)|(intro _ _ _ _ _ _ b a;obtain⟨_,_,rfl⟩:=lu2 a;rfl)|(intro _ _ _ _ _ _ b a;obtain⟨_,_,_,rfl⟩:=lu3 a;rfl)|(intro _ _ _ _ _ _ b a;obtain⟨_,_,_,_,rfl⟩:=lu4 a;rfl)
variable(hT:HasD K mg T)(hB:BlN mg B_)
 (y0:∃u,mg Rg=So u/\∃v,RelV v u/\∀H,Rep K H QaN v)
 (y1:∃u,mg Rf=So u/\∃v,RelV v u/\∀H,Rep K H QaM v)
 (y2:∃u,mg SN=So u/\∃v,RelV v u/\∀H,Rep K H Gy v)
 (y3:∃u,mg SM=So u/\∃v,RelV v u/\∀H,Rep K H Gy v)
 (y4:∃u,mg R0=So u/\∃v,RelV v u/\∀H,Rep K H Qc5 v)
 (y5:∃u,mg RG=So u/\∃v,RelV v u/\∀H,Rep K H bQ v)
 (y6:∃u,mg RZ=So u/\∃v,RelV v u/\∀H,Rep K H bQ v)
 (y7:∃u,mg Td=So u/\∃v,RelV v u/\∀H,Rep K H Tr v)
 (y8:∃u,mg Ie=So u/\∃v,RelV v u/\∀H,Rep K H (.tup LD) v)
 (y9:∃u,mg RY=So u/\∃v,RelV v u/\∀H,Rep K H QaL v)
 (xT:NoKT K)
 (xx0:∀A,ExcC AM He)
 (xx1:∀A,ExcC AM Le)
 (xx2:∀A,ExcC AM LC)
 (xx3:∀A,ExcC AM Ky)
 {C:Addr} (cl_:Z1) (hC:PySem.W.nsIn K mainGlobals (oS "Site")=So BC) (hM:HasM K C TM) (hP:HasM K C TP) (hF:∀A,∀f∈nsS,FldC AM f)
include hT hB y0 y1 y2 y3 y4 y5 y6 y7 y8 y9 xT xx0 xx1 xx2 xx3 cl_ hC hM hP hF
abbrev OkG(P:Ba)(w:AQ)(K:Aj)(mg:Bk)(base:Heap)(C:Addr)(k:Nat):Prop:=∀f g,Met1 K C TG f g->FnOk P w K mg base A0 (3*k) f g TG.2.2.2 (spG K mg Dr 4)
structure AllOk(P:Ba)(w:AQ)(K:Aj)(mg:Bk)(base:Heap)(C:Addr)(k:Nat):Prop where
 d:OkD P w K mg base defs k 0 T
 p:OkP P w K mg base defs C k 49 TP
 m:OkM P w K mg base defs bdefs C k 0 (TM.take 4)
 m2:OkM P w K mg base defs bdefs C k 5 (TM.drop 5)
 g:OkG P w K mg base C k
theorem JxT{k:Nat}(o:Pg)(A:Bv)(a:GZ):Env AM CC:=by have p:∀j e,TP[j]? =So e->CalleeP AM CC (49+j) BX e.1:=λj e h=>JeY cl_ (by rw[clS];exact hC) a hP o.p h;exact⟨λi _ h=>(by obtain⟨e,b,rfl⟩:=Option.map_eq_some_iff.mp h;exact Jnh hT o.d a i b),hB,(by obtain⟨u,e,v,r,g⟩:=y0;exact Dz),(by obtain⟨u,e,v,r,g⟩:=y1;exact Dz),(by obtain⟨u,e,v,r,g⟩:=y2;exact Dz),(by obtain⟨u,e,v,r,g⟩:=y3;exact Dz),(by obtain⟨u,e,v,r,g⟩:=y4;exact Dz),(by obtain⟨u,e,v,r,g⟩:=y5;exact Dz),(by obtain⟨u,e,v,r,g⟩:=y6;exact Dz),(by obtain⟨u,e,v,r,g⟩:=y7;exact Dz),(by obtain⟨u,e,v,r,g⟩:=y8;exact Dz),(by obtain⟨u,e,v,r,g⟩:=y9;exact Dz),xT,xx0 A,xx1 A,xx2 A,xx3 A,hF A _ (by simp[nsS]),hF A _ (by simp[nsS]),hF A _ (by simp[nsS]),p 0 _ rfl,p 1 _ rfl,p 2 _ rfl,p 3 _ rfl⟩
theorem JrQ{k:Nat}(o:Pg)(A:Bv)(a:GZ):EnvB AM CC Dr:=by
 have i:PySem.W.nsIn K mainGlobals BX=So BC:=by rw[clS];exact hC
 have b:HasM K C (TM.take 4):=⟨hM.1,hM.2.1,hM.2.2.1,hM.2.2.2.1,trivial⟩;have f:HasM K C (TM.drop 5):=hM.2.2.2.2.2;have m:∀j e,(TM.take 4)[j]? =So e->CalleeB AM Dr (0+j) BX e.1:=λj e h=>JcN cl_ i a b o.m h;have l:∀j e,(TM.drop 5)[j]? =So e->CalleeB AM Dr (5+j) BX e.1:=λj e h=>JcN cl_ i a f o.m2 h;have g:CalleeG ⟨P,w,K,mg,base,A⟩ Dr 4 BX aO:=Jli (e:=TG) cl_ i a hM.2.2.2.2.1 o.g;exact⟨JxT hT hB y0 y1 y2 y3 y4 y5 y6 y7 y8 y9 xT xx0 xx1 xx2 xx3 cl_ hC hM hP hF o A a,m 0 _ rfl,m 1 _ rfl,m 2 _ rfl,m 3 _ rfl,g,l 0 _ rfl⟩
theorem Jwc:∀k,AllOk P w K mg base C k:=by
 intro k;induction k with
 |zero=>exact⟨JkC _ _,Jkw _ _,Jge _ _,Jge _ _,λ_ _ _=>Jph⟩
 |succ k i=>have g:=JrQ hT hB y0 y1 y2 y3 y4 y5 y6 y7 y8 y9 xT xx0 xx1 xx2 xx3 cl_ hC hM hP hF i;have E:∀A,Room E8 A->Env AM CC:=λA h=>(g A h).toEnv;exact⟨foAll E T NL 0 (λe=>(dAll.1 e).1) Ab,⟨foP (N:=NP.getD 0 []) (M:=[]) (b:=sV) E λe=>(dAll.1 e).2.1,foP (N:=NP.getD 1 []) (M:=[]) (b:=pS) E λe=>(dAll.1 e).2.2.1,foP (N:=NP.getD 2 []) (M:=[]) (b:=iU) E λe=>(dAll.1 e).2.2.2.1,foP (N:=NP.getD 3 []) (M:=[]) (b:=JgH) E λe=>(dAll.1 e).2.2.2.2.1,trivial⟩,⟨foB (N:=NM_.getD 0 []) (b:=tV) g λe C f a=>(dAll.2 e a).1 C f,foB (N:=NM_.getD 1 []) (b:=nV) g λe C f a=>(dAll.2 e a).2.1 C f,foB (N:=NM_.getD 2 []) (b:=wR) g λe C f a=>(dAll.2 e a).2.2.1 C f,foB (N:=NM_.getD 3 []) (b:=lU) g λe C f a=>(dAll.2 e a).2.2.2.1 C f,trivial⟩,⟨foB g @JtH,trivial⟩,foG g @dm_go⟩
theorem all2(k:Nat):∀A,Room E8 A->EnvB AM CC Dr:=JrQ hT hB y0 y1 y2 y3 y4 y5 y6 y7 y8 y9 xT xx0 xx1 xx2 xx3 cl_ hC hM hP hF (Jwc hT hB y0 y1 y2 y3 y4 y5 y6 y7 y8 y9 xT xx0 xx1 xx2 xx3 cl_ hC hM hP hF k)
end
theorem JvA{l:Qd1}{w:AQ}{K:Aj}{h:Heap}{fa:Addr}(X:K.In h)(G:Sa)(hfa:mg "law"=So (.ref fa))(dT:DsIn K T)(dL:DsIn K TL)(dR:DsIn K TR_)(dB:BlIn K B_)
  {t0:Tok} (y0:PySem.W.nsIn K mainGlobals Rg=So (So (.str Li t0)))
  {t1:Tok} (y1:PySem.W.nsIn K mainGlobals Rf=So (So (.str Kr t1)))
  {t2:Tok} (y2:PySem.W.nsIn K mainGlobals SN=So (So (.int 4 t2)))
  {t3:Tok} (y3:PySem.W.nsIn K mainGlobals SM=So (So (.int 4 t3)))
  {t4:Tok} (y4:PySem.W.nsIn K mainGlobals R0=So (So (.int 6 t4)))
  {t5:Tok} (y5:PySem.W.nsIn K mainGlobals RG=So (So (.int 8 t5)))
  {t6:Tok} (y6:PySem.W.nsIn K mainGlobals RZ=So (So (.int 8 t6)))
  {ya7:Addr} {yn7:Nat} {ys7:Ed} {t7_0 t7_1 t7_2:Tok} (y7:PySem.W.nsIn K mainGlobals Td=So (So (.ref ya7))) (v7:K.lookup ya7=So ⟨.type "tuple",No,.seq #[.str HS t7_0,.str LK t7_1,.str Xp t7_2] yn7,ys7⟩)
  {ya8 W ya8_1 Y:Addr} {yn8 yn8_0 yn8_1 yn8_2:Nat} {ys8 ys8_0 ys8_1 ys8_2:Ed} {t8_0_0 t8_0_1 t8_1_0 t8_1_1 t8_2_0 t8_2_1:Tok} (y8:PySem.W.nsIn K mainGlobals Ie=So (So (.ref ya8))) (v8:K.lookup ya8=So ⟨.type "tuple",No,.seq #[.ref W,.ref ya8_1,.ref Y] yn8,ys8⟩) (v8_0:K.lookup W=So ⟨.type "tuple",No,.seq #[.str HS t8_0_0,.str Qc8 t8_0_1] yn8_0,ys8_0⟩) (v8_1:K.lookup ya8_1=So ⟨.type "tuple",No,.seq #[.str LK t8_1_0,.str Qc9 t8_1_1] yn8_1,ys8_1⟩) (v8_2:K.lookup Y=So ⟨.type "tuple",No,.seq #[.str Xp t8_2_0,.str Qda t8_2_1] yn8_2,ys8_2⟩)
  {t9:Tok} (y9:PySem.W.nsIn K mainGlobals RY=So (So (.str Kw t9)))
  (gT:xQ K=To)
  {u o q m:Addr}
  (B:PySem.W.nsIn K mainGlobals He=So (So (.ref u)))
  (z:PySem.W.nsIn K mainGlobals Le=So (So (.ref o)))
  (y:PySem.W.nsIn K mainGlobals LC=So (So (.ref q)))
  (x:PySem.W.nsIn K mainGlobals Ky=So (So (.ref m)))
  (O:PySem.W.excIn K u NH "ValueError.__new__"=To)
  (I:PySem.W.excIn K o NH "ValueError.__new__"=To)
  (U:PySem.W.excIn K q NH "ValueError.__new__"=To)
  (F:PySem.W.excIn K m NH "ValueError.__new__"=To)
  {C:Addr} (aC:PySem.W.nsIn K mainGlobals (oS "Site")=So BC) (pg:PySem.W.plainGet K C Yp=To) (hd:PySem.W.hasDictIn K C=To) (po:PySem.W.plainOver K C=To) (sa:PySem.W.findIn K BL "__setattr__"=So Ug) (mk:PySem.W.makesIn K C=To) (kc:PySem.W.keepIn K BL=To)
  (n1:PySem.W.findIn K BL HQ=So No) (n2:PySem.W.findIn K BL KC=So No) (n3:PySem.W.findIn K BL K4=So No) (zB:PySem.W.nsIn K mainGlobals (oS "Board")=So No)
  (mI:∃f g,Fun K QbY (oS "Site.__init__") JiG f g/\Meth K C QbY f) (mM:MsIn K C TM) (mP:MsIn K C TP)
  :∃fd:FuncData,(∀(s:Al)(v:An),BindsTo s fd ⟨[v],[]⟩ [(BI,v)])/\∀base:Heap,K.In base->base.Ns mainGlobals mg->FnOk aQ w K mg base Rb 42 fa fd [BI] (wW K):=by
 have X0:∀base A,ExcC F9 He:=λbase A=>⟨⟨u,B,qA X G B,_,_,_,_,O,pQ⟩⟩;have X1:∀base A,ExcC F9 Le:=λbase A=>⟨⟨o,z,qA X G z,_,_,_,_,I,pQ⟩⟩;have X2:∀base A,ExcC F9 LC:=λbase A=>⟨⟨q,y,qA X G y,_,_,_,_,U,pQ⟩⟩;have X3:∀base A,ExcC F9 Ky:=λbase A=>⟨⟨m,x,qA X G x,_,_,_,_,F,pQ⟩⟩;have cl_:Cls K C:=⟨pg,hd,po,sa⟩;have hF:∀base A,∀f∈nsS,FldC F9 f:=λbase A f hf=>by
  simp only[nsS,Zf,Zy,fA]at hf;rcases hf with rfl|rfl|rfl
  ·exact Jgh zB aC cl_ n1 A
  ·exact Jgh zB aC cl_ n2 A
  ·exact Jgh zB aC cl_ n3 A
 have hM:=uZ mM bndM;have hP:=uZ mP bndP;have hT:=qZ X G dT bnd;obtain⟨⟨fL,gL,L⟩,_⟩:=dL;have e:=hfa.symm.trans (qA X G L.a);cases e;refine⟨gL,?_,λbase _ _=>?_⟩
 ·obtain⟨_,_,kV,doc,pm,an,cdv,ct,_,e,_⟩:=L.F.ex;subst e;exactλs v=>.of_eq rfl
 ·have Z9:=all2 (P:=aQ) (w:=w) (base:=base) hT (Jys X G dB) ⟨_,qA X G y0,.str Li,AS,λH=>rfl⟩ ⟨_,qA X G y1,.str Kr,AS,λH=>rfl⟩ ⟨_,qA X G y2,.int 4,AS,λH=>rfl⟩ ⟨_,qA X G y3,.int 4,AS,λH=>rfl⟩ ⟨_,qA X G y4,.int 6,AS,λH=>rfl⟩ ⟨_,qA X G y5,.int 8,AS,λH=>rfl⟩ ⟨_,qA X G y6,.int 8,AS,λH=>rfl⟩ ⟨_,qA X G y7,.ref ya7,rfl,λH=>Rd.yM (.inl y7) (J:=[Gg,Fd,HM]) (xs:=[.str HS,.str LK,.str Xp]) v7 Ad (.cons AS Lk) (λH=>⟨_,_,rfl,rfl,Xm⟩) H⟩ ⟨_,qA X G y8,.ref ya8,rfl,λH=>Rd.yM (.inl y8) (J:=LD) (xs:=[.ref W,.ref ya8_1,.ref Y]) v8 Ad (.cons rfl (.cons rfl RU)) (λH=>⟨_,_,rfl,(Rd.yM (.inr ⟨ya8,_,_,_,y8,v8,rfl,rfl,by simp⟩) (J:=[Gg,(.str Qc8)]) (xs:=[.str HS,.str Qc8]) v8_0 Ad Lk ID H),⟨_,_,rfl,(Rd.yM (.inr ⟨ya8,_,_,_,y8,v8,rfl,rfl,by simp⟩) (J:=[Fd,(.str Qc9)]) (xs:=[.str LK,.str Qc9]) v8_1 Ad Lk ID H),⟨_,_,rfl,(Rd.yM (.inr ⟨ya8,_,_,_,y8,v8,rfl,rfl,by simp⟩) (J:=[HM,(.str Qda)]) (xs:=[.str Xp,.str Qda]) v8_2 Ad Lk ID H),rfl⟩⟩⟩) H⟩ ⟨_,qA X G y9,.str Kw,AS,λH=>rfl⟩ (Juy gT) (X0 base) (X1 base) (X2 base) (X3 base) cl_ aC hM hP (hF base);have EB:=Z9 12;have EB2:=Z9 11;obtain⟨fI,gI_,FI,mt_⟩:=mI;have hi:FnOk aQ w K mg base Rb 1 fI gI_ [oS "self"] (spNS K):=JqG FI (uI Ab) rfl (hF base) λX A C=>by have:=JvV C;rw[C.K]at this;exact this
  have MS:∀A,Room 2 A->MakeS F9:=λA hr=>⟨⟨C,fI,gI_,_,⟨mk,mt_.at_,mt_.fn,kc⟩,hi,hr,qA X G aC,aC,FI.binds λ_ _ _ _ _ _ us hl=>match us,hl with|[_],_=>rfl⟩⟩;obtain⟨⟨fR,gR_,DR⟩,_⟩:=qZ X G dR bndR;have hR:FnOk aQ w K mg base Rb 36 fR gR_ [B3] (spQ K mg Rr):=fn_tp (λJ a h=>if_neg h) ((fn_rd (j:=35) (i:=iR) (b1:=lO) (b2:=iO) (k:=11) DR.F (uI (N:=JkB) Ab) rfl AB λY9 A H0 C hr hx h0=>Jqc (EB2 A Mj) (MS A Mj) C hx h0).imp λvs H Q E h=>by
   obtain⟨hl,h0,J,r,g⟩:=h;have hz:=XR;refine⟨hl,h0,J,r,λa=>?_⟩;have g:=g a;rw[show Rr J a=runR R1 Q1 nR iR lO iO J a from if_pos 'h']at g;exact g)
  have EL:∀A,Room (3*12+5) A->EnvL F9 Qcv OX Rr:=λA hr=>⟨EB A Mj,MS A Mj,⟨⟨36,fR,gR_,_,hR,(hr.mono (show 3*12+2<=3*12+5 by lia)).in1.in1,DR.g,DR.F.kp,DR.b⟩⟩⟩;exact JsY (j:=3*12+5) (i:=0) (b:=.lift .skip) (t:=λX H0=>tLaw X H0 (RL Qcv OX Rr)) L.F (uI (N:=JwZ) Ab) (M:=[]) AB AB (λX A H0 C hr hx h0=>d_law (EL A hr) C hx h0) λX H0 H Z D ns hK hl e hQ=>by subst hK;exact⟨_,e,JpZ ns hl,hQ⟩
end K75
end _r
namespace PySem.W.Fast
theorem tw18100536652854935474:0=0:=rfl
theorem tw14550229191020565959:0=0:=rfl
theorem tw824317023984304131:0=0:=rfl
theorem tw6684906986101728517:0=0:=rfl
theorem tw1525061536597814807:0=0:=rfl
theorem tw15990171519050859314:0=0:=rfl
theorem tw13098484150877573371:0=0:=rfl
theorem tw6686141493041509883:0=0:=rfl
theorem tw14895857728150518576:0=0:=rfl
theorem tw15892190642261058785:0=0:=rfl
theorem tw15418732414833778262:0=0:=rfl
theorem tw14679944968517550388:0=0:=rfl
theorem tw12845231562166816975:0=0:=rfl
theorem tw18322407901200738755:0=0:=rfl
theorem tw3013444717518559458:0=0:=rfl
theorem tw11560909041988382087:0=0:=rfl
theorem tw6492786301968284733:0=0:=rfl
theorem tw293908615371655130:0=0:=rfl
theorem tw14187783388782961060:0=0:=rfl
theorem tw11283791085477385395:0=0:=rfl
theorem tw5736374350161598515:0=0:=rfl
theorem tw162392252414931594:0=0:=rfl
theorem tw1821505114818616330:0=0:=rfl
theorem tw14754457816643008009:0=0:=rfl
theorem tw10700522189034034773:0=0:=rfl
theorem tw12953365781010504496:0=0:=rfl
theorem tw6027191820745352823:0=0:=rfl
theorem tw14156983778779102313:0=0:=rfl
theorem tw15672656641117836324:0=0:=rfl
theorem tw11787382758266615356:0=0:=rfl
theorem tw1420712159977167504:0=0:=rfl
theorem tw12443889406195807041:0=0:=rfl
theorem tw12325935351171521094:0=0:=rfl
theorem tw6762459628458184331:0=0:=rfl
theorem tw14097065271169425814:0=0:=rfl
theorem tw11111756637366881081:0=0:=rfl
theorem tw17223636155150044453:0=0:=rfl
theorem tw10717315795927908209:0=0:=rfl
theorem tw4016951750546161337:0=0:=rfl
theorem tw15697944520650891467:0=0:=rfl
theorem tw4226452059504399636:0=0:=rfl
theorem tw17020390152189394497:0=0:=rfl
theorem tw14048665377406261490:0=0:=rfl
theorem tw16306084558726300598:0=0:=rfl
theorem tw5953021480103954662:0=0:=rfl
theorem tw4315308397944087379:0=0:=rfl
theorem tw6406079587286951693:0=0:=rfl
theorem tw8674187446511073639:0=0:=rfl
theorem tw3205267097297523220:0=0:=rfl
theorem tw16801613208176031284:0=0:=rfl
theorem tw16646873280030200143:0=0:=rfl
theorem tw9406443079686788753:0=0:=rfl
theorem tw5814470421199362713:0=0:=rfl
theorem tw18264606569366350110:0=0:=rfl
theorem tw2883263194373079750:0=0:=rfl
theorem tw1949650099044580348:0=0:=rfl
theorem tw14136937620039685435:0=0:=rfl
theorem tw14489128815173683687:0=0:=rfl
theorem tw5688800650982162853:0=0:=rfl
theorem tw14979847840083551833:0=0:=rfl
theorem tw6839459368707247549:0=0:=rfl
theorem tw2674885110172498116:0=0:=rfl
theorem tw16479580136291176861:0=0:=rfl
theorem tw5641887670035856702:0=0:=rfl
theorem tw14929088621484723137:0=0:=rfl
theorem tw16245838114342102713:0=0:=rfl
theorem tw17093996952475873446:0=0:=rfl
theorem tw8493831761421504560:0=0:=rfl
theorem tw17633515697247820419:0=0:=rfl
theorem tw14291940368863431503:0=0:=rfl
theorem tw2625811135061343999:0=0:=rfl
theorem tw16682515005979737626:0=0:=rfl
theorem tw13812253947153272474:0=0:=rfl
theorem tw3441462329680761136:0=0:=rfl
theorem tw18142125643534140402:0=0:=rfl
theorem tw5480077677976155366:0=0:=rfl
theorem tw8937910856609903845:0=0:=rfl
theorem tw2821193341851814781:0=0:=rfl
theorem tw8090876881378028664:0=0:=rfl
theorem tw3613264368796633099:0=0:=rfl
theorem tw10855568815756603370:0=0:=rfl
theorem tw11641849152584517854:0=0:=rfl
theorem tw4774738979475432117:0=0:=rfl
theorem tw15471667417379647385:0=0:=rfl
theorem tw3938079227703878646:0=0:=rfl
theorem tw14796442261857423813:0=0:=rfl
theorem tw11967088488024691905:0=0:=rfl
theorem tw4812156281140239048:0=0:=rfl
theorem tw8966468784865768710:0=0:=rfl
theorem tw1082040870387991349:0=0:=rfl
theorem tw11326123838496031425:0=0:=rfl
theorem tw12459126454001030401:0=0:=rfl
theorem tw3831663719818520936:0=0:=rfl
theorem tw3914756069985790247:0=0:=rfl
theorem tw10793797015931153242:0=0:=rfl
theorem tw2512900263590893468:0=0:=rfl
theorem tw8121126664477952860:0=0:=rfl
theorem tw1613886778750848528:0=0:=rfl
theorem tw10989559623026262039:0=0:=rfl
theorem tw4274635259589475584:0=0:=rfl
theorem tw18320852899197231140:0=0:=rfl
theorem tw2703084502298129777:0=0:=rfl
theorem tw12078839317131018210:0=0:=rfl
theorem tw11864832560548043244:0=0:=rfl
theorem tw17787553926386515715:0=0:=rfl
theorem tw8802346025633340119:0=0:=rfl
theorem tw5079120426898323215:0=0:=rfl
theorem tw2717836095165935470:0=0:=rfl
theorem tw16244183916503872746:0=0:=rfl
theorem tw1890449731020567588:0=0:=rfl
theorem tw14570819698250301895:0=0:=rfl
theorem tw13865424791480616062:0=0:=rfl
theorem tw10303205286177470285:0=0:=rfl
theorem tw17120027579633545485:0=0:=rfl
theorem tw12915872617511388207:0=0:=rfl
theorem tw8790146281911433815:0=0:=rfl
theorem tw13852469397576536847:0=0:=rfl
theorem tw12465845950814418754:0=0:=rfl
theorem tw18006803911876768600:0=0:=rfl
theorem tw4912877141918485660:0=0:=rfl
theorem tw6415966844607024703:0=0:=rfl
theorem tw13283426550759342448:0=0:=rfl
theorem tw4115426836440247354:0=0:=rfl
theorem tw6135403229536858317:0=0:=rfl
theorem tw6284508737443465597:0=0:=rfl
theorem tw12490720745827488194:0=0:=rfl
theorem tw6086124698989031945:0=0:=rfl
theorem tw4086460044247128219:0=0:=rfl
theorem tw9626141127233777561:0=0:=rfl
theorem tw477096251318968121:0=0:=rfl
theorem tw5990846520231169679:0=0:=rfl
theorem tw8417865245776534375:0=0:=rfl
theorem tw8516061613917127424:0=0:=rfl
theorem tw9744267814715882523:0=0:=rfl
theorem tw12146783446133008250:0=0:=rfl
theorem tw12431125388764410789:0=0:=rfl
theorem tw4659490577201723401:0=0:=rfl
theorem tw8767362586509624105:0=0:=rfl
theorem tw13655146962822263909:0=0:=rfl
theorem tw16832997434710831277:0=0:=rfl
theorem tw13764771672617453872:0=0:=rfl
theorem tw3842072536504323420:0=0:=rfl
theorem tw10707205478919494283:0=0:=rfl
theorem tw4050604415260501158:0=0:=rfl
theorem tw12993916428181147098:0=0:=rfl
theorem tw16648206381294546080:0=0:=rfl
theorem tw11289259223126401629:0=0:=rfl
theorem tw11140245360490176673:0=0:=rfl
theorem tw2318187865658302091:0=0:=rfl
theorem tw15015497011016256755:0=0:=rfl
theorem tw14995561192637761344:0=0:=rfl
theorem tw8517534570937064128:0=0:=rfl
theorem tw14494809984993501915:0=0:=rfl
theorem tw18088152946929148999:0=0:=rfl
theorem tw1981078698823374647:0=0:=rfl
theorem tw13810994635155082314:0=0:=rfl
theorem tw13922136383953811609:0=0:=rfl
theorem tw1019854619896699927:0=0:=rfl
end PySem.W.Fast
open PySem PySem.W PyProof.Rows _r
theorem PySem.Challenge.cw_routeboard_k75_whole_sites_and_tables_holds : PySem.Challenge.rw_routeboard_k75_whole_sites_and_tables.Holds := by
 w_on;o_law;k_head;(case hw=>w_witness2)
 k_fill
 refine L2.Juk (l:=PySem.Challenge.rw_routeboard_k75_whole_sites_and_tables) (n:=63) (k:=42) (x:=(oS "_law_script")) (CX:=fun w=>Rd.CXr PySem.Challenge.rw_routeboard_k75_whole_sites_and_tables.prog w) (sp:=fun w=>Rd.wW _) rfl 'y' rfl ⟨rfl,by decide,by decide⟩ (fun w h Y=>PySem.W.kIn_of Y) ?F (fun w H a ns hl _ hS=>⟨a,ns,rfl,hS,hl,fun _=>rfl⟩) fun _ _ _ _ _ z=>Rd.noCX z
 case F=>
  intro w mg fa h KX G hmg
  refine' K75.JvA KX G hmg ?dT ?dL ?dR ?dB ?y0 ?y1 ?y2 ?y3 ?y4 ?y5 ?y6 ?y7 ?v7 ?y8 ?v8 ?v8_0 ?v8_1 ?v8_2 ?y9 ?gT ?ec_NoBack ?ec_NoSite ?ec_NoText ?ec_TooMany ?xc_NoBack ?xc_NoSite ?xc_NoText ?xc_TooMany ?aC ?pg ?hd ?po ?sa ?mk ?kc ?n1 ?n2 ?n3 ?zB ?mI ?mM ?mP
  (case dT=>(repeat' refine mD ⟨_,_,Rd.def_mk 'â' 'â' 'â' 'â'⟩ ?_);exact ZT)
  (case dL=>(repeat' refine mD ⟨_,_,Rd.def_mk 'â' 'â' 'â' 'â'⟩ ?_);exact ZT)
  (case dR=>(repeat' refine mD ⟨_,_,Rd.def_mk 'â' 'â' 'â' 'â'⟩ ?_);exact ZT)
  (case dB=>(repeat' refine mD 'â' ?_);exact ZT)
  (case y0=>k_is)
  (case y1=>k_is)
  (case y2=>k_is)
  (case y3=>k_is)
  (case y4=>k_is)
  (case y5=>k_is)
  (case y6=>k_is)
  (case y7=>k_is)
  (case v7=>k_is)
  (case y8=>k_is)
  (case v8=>k_is)
  (case v8_0=>k_is)
  (case v8_1=>k_is)
  (case v8_2=>k_is)
  (case y9=>k_is)
  (case gT=>kernel_rfl)
  (case ec_NoBack=>k_is)
  (case ec_NoSite=>k_is)
  (case ec_NoText=>k_is)
  (case ec_TooMany=>k_is)
  (case xc_NoBack=>k_exc)
  (case xc_NoSite=>k_exc)
  (case xc_NoText=>k_exc)
  (case xc_TooMany=>k_exc)
  (case aC=>k_is)
  (case pg=>k_is)
  (case hd=>k_is)
  (case po=>k_is)
  (case sa=>k_is)
  (case mk=>k_is)
  (case kc=>k_is)
  (case n1=>k_is)
  (case n2=>k_is)
  (case n3=>k_is)
  (case zB=>k_is)
  (case mI=>exact Rd.meth_mk 'â' 'â' 'â' 'â' 'â')
  (case mM=>(repeat' refine mD (Rd.meth_mk 'â' 'â' 'â' 'â' 'â') ?_);exact ZT)
  (case mP=>(repeat' refine mD (Rd.meth_mk 'â' 'â' 'â' 'â' 'â') ?_);exact ZT)
