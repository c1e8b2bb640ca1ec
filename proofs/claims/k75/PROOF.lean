import PyProof.Rows.All
import Wide.All
import OpenK.AllK
import Wide.FinOn
import Lean
import PyProof.EqAt
import PyProof.EqKinds
import PyProof.TupleCall
import PyProof.DictRoadsH
import PyProof.NeKinds
import PyProof.StrBlockI
import PyProof.SliceStr2
import PyProof.StrLaws
import PyProof.ListMulRoad
import PyProof.FactsAll.tuple
import PyProof.SetKind
import PyProof.DictKinds
import PyProof.Rows.SetFrom
import PyProof.Rows.SortStr
import PyProof.FactsAll.set
import KE.KDictOf
import PyProof.AttrMissHeap
import PyProof.WalksMore
import PyProof.ListRange
import PyProof.TupleOfSeq
import PyProof.Rows.TupDisplay
import PyProof.DictItems
import KE.KMinBuiltin
import KE.KTupSum
import PyProof.DictWalks
import KE.KSortTup
import PyProof.StrLawsTight
import PyProof.StrLawsChain
import PyProof.StrLawsJoin
import PyProof.StrLawsFirst
import PyProof.StrBlockH
import PyProof.StrCalls2
import PyProof.MeetsStr2
import PyProof.Rows.StrNews2
import PyProof.Conv_int_bool
import KE.KEqDict
import PySem.Challenge.RW_routeboard_k75_whole_sites_and_tables
set_option Elab.async false
set_option linter.all false
set_option maxRecDepth 100000
set_option maxHeartbeats 0
set_option bootstrap.genMatcherCode false
set_option compiler.extract_closed false
set_option backward.eqns.nonrecursive false
open Option renaming some→So,none→No
open Bool renaming true→To,false→Fo
open PySem.Str renaming ofString→oS
section
open Lean
def sgM(a:Array Syntax):Syntax:=if a.size==1 then a[0]! else mkNode `Lean.Parser.Term.app #[a[0]!,mkNullNode (a.extract 1 a.size)]
def sgA(k:Name)(s:String)(c:List Char):Syntax:=mkNode k #[mkAtom s,mkIdent (((String.ofList c).splitOn ".").foldl .str .anonymous)]
def sgI(c:Char):Bool:=c.isAlphanum||"_.'₀₁₂σκ".toList.contains c
def sgO(a b:Syntax)(k:Name)(s:String):Syntax:=mkNode k #[a,mkAtom s,b]
mutual
def sgP:Nat->Array Syntax->List Char->Syntax×List Char
|n+1,a,r=>match r with
 |' '::r=>sgP n a r
 |'('::r=>let p:=sgP n #[] r
  if p.2.head?==So ',' then let q:=sgP n #[] (p.2.drop 1);sgP n (a.push (mkNode `Lean.Parser.Term.tuple #[mkNode `Lean.Parser.Term.hygienicLParen #[mkAtom "(",mkNode `hygieneInfo #[mkIdent .anonymous]],mkNullNode #[p.1,mkAtom ",",mkNullNode #[q.1]],mkAtom ")"])) (q.2.drop 1)
  else sgP n (a.push p.1) (p.2.drop 1)
 |'['::']'::r=>sgP n (a.push (sgO (mkAtom "[") (mkAtom "]") `«term[_]» ""|>.setArg 1 (mkNullNode #[]))) r
 |'['::r=>let p:=sgL n #[] r;sgP n (a.push (sgO (mkAtom "[") (mkAtom "]") `«term[_]» ""|>.setArg 1 (mkNullNode p.1))) p.2
 |'⟨'::r=>let p:=sgL n #[] r;sgP n (a.push (mkNode `Lean.Parser.Term.anonymousCtor #[mkAtom "⟨",mkNullNode p.1,mkAtom "⟩"])) p.2
 |'?'::'_'::r=>sgP n (a.push (mkNode `Lean.Parser.Term.syntheticHole #[mkAtom "?",mkNode `Lean.Parser.Term.hole #[mkAtom "_"]])) r
 |'"'::r=>let p:=r.span (·!='"');sgP n (a.push (Syntax.mkStrLit (String.ofList p.1))) (p.2.drop 1)
 |'\''::c::r=>sgP n (a.push (Syntax.mkCharLit c)) (r.drop 1)
 |'.'::r=>let p:=r.span sgI;sgP n (a.push (sgA `Lean.Parser.Term.dotIdent "." p.1)) p.2
 |c::r=>if c==')'||c==','||c==']'||c=='⟩' then(sgM a,c::r)else
  if c.isDigit then let p:=(c::r).span Char.isDigit;sgP n (a.push (Syntax.mkNumLit (String.ofList p.1))) p.2 else
  if sgI c then let p:=(c::r).span sgI;let s:=String.ofList p.1
   if s=="fun" then let q:=p.2.span (·!='=');let b:=sgP n #[] (q.2.drop 2);let v:=((String.ofList q.1).splitOn " ").filter (·!="");(sgM (a.push (mkNode `Lean.Parser.Term.fun #[mkAtom "fun",mkNode `Lean.Parser.Term.basicFun #[mkNullNode (v.map fun x=>(sgP n #[] x.toList).1).toArray,mkNullNode #[],mkAtom "=>",b.1]])),b.2)else
   sgP n (a.push (if s=="_" then mkNode `Lean.Parser.Term.hole #[mkAtom s]else if s=="Prop" then mkNode `Lean.Parser.Term.prop #[mkAtom s]else(sgA .anonymous "" p.1).getArg 1)) p.2
  else let o:=(c::r).span (fun c=>!sgI c&&!" ([⟨?\"'".toList.contains c);let p:=sgP n #[] o.2;let s:=String.ofList o.1;(sgO (sgM a) p.1 (if s=="->" then `Lean.Parser.Term.arrow else .mkSimple ("term_"++s++"_")) s,p.2)
 |[]=>(sgM a,[])
|_,a,r=>(sgM a,r)
def sgL:Nat->Array Syntax->List Char->Array Syntax×List Char
|n+1,a,r=>let p:=sgP n #[] r;if p.2.head?==So ',' then sgL n (a++#[p.1,mkAtom ","]) (p.2.drop 1)else(a.push p.1,p.2.drop 1)
|_,a,r=>(a,r)
end
end
def sgT:List String:="бautoParam¦J.bl To¦O.var 2¦2So (tD Em)¦3.ref C¦..ref s.heap.objs.size¦{i + 1¦Ð.inl rfl¦çofN ns¦ðc + 1¦Ć.dGet Fo¦ŁrunD defs c¦Ś.str HD¦μbackTo pos (starEach Gi X.env)¦дbackTo pos (starEach [] X.env)¦қ.tup (.cons (.bi .idx CB Ao) (.cons (.call 45 (.cons A1 (.cons (.bi .add (.bi .add BK DS) (.bi .mul (.con (.int 30)) Ao)) Ht))) .nil))¦Ɓs.heap.objs.size¦ƃJ.length¦Ɔits.toArray¦Ɖits.toArray.size¦ƚrs.length¦ùPySem.strKind prog w¦úSo (aD [S \"a\",S \"new\"])¦ħRs.gB.mp h¦Ĩ⟨rfl,rfl⟩¦ĶbackTo pos Lv¦ŉlook n A¦ŐPySem.W.hideAll B [Cd]¦ŒvA X.env.cells sc.names []¦ŞJn Cp¦ŷs.heap.push PySem.W.emptyDict¦ƀevD U a O¦ƜJd st¦ƞcxE A0 P w K mg base N O fn cm A outer s H E¦ƢcntT ws T n¦ƣevD U e O¦ƦList.range m¦ƧkC tD (fun w=>belw rs w) (fun _=>cn) b f¦Ʋ[S \"one\",S \"two\"]¦Ʒs.heap.push (mS To l)¦ƹns.zip xs¦ǂzh5 s.heap t1 t2 f q¦ǆputK kvs k v¦ǈevD U p O¦ǉksOf g dd¦ǎevD U as O¦Ǐls.map mkS¦Ǘ['r','o','t','a','r','e','t','i','_','t','e','s']¦ǚ[.str a l,.str b v,.str d m]¦ǝo c _ _ _ _¦ǞO.set i (So Nu)¦ǢJ.getD j .non¦ǯNe.symm q¦Ǵrelabel sc X.env¦Ǽtbl A n¦Ȏs.heap.push (newS w)¦ȑrows.filter (canB w)¦Ȗitems.toList.drop (sIx Aw 0 lo)¦ȗksD A¦Ȟe.grow s¦ȟstq ws b¦ȯcutV xs lo hi¦ȰhidT f.heap H¦Ȳps.map Part.d¦ɇws.map D.str¦ɔiO X ls sc Cd s2 H2 fp E'¦ɢns.zip fs¦ɦbelw rs w¦ɩzh1 s.heap t1 f¦ɴjO _ _ rfl¦ɷmkS (hdL n)¦ɻrows.map fun r=>mkS GH¦ɼmkS []¦ʡF.args_str_split_2 _ _¦ʦevD U c¦ʩK w.params¦ʬSameP.of s¦ʯps.map txP¦ͻhE T ks vs (.str h) y¦ΘJh q g¦ΜcutR r¦Νzh4 s.heap t1 t2 f q¦ήassignEach es X.env¦δg b _ this fun z=>z¦ϑList.range n¦ϒevB U bc a O¦ϓevB U bc e O¦ϔList.range i¦Ϙ⟨rfl,fun _=>h r b⟩¦ϝJA prog w¦ϤJr [s] ls¦ϥtabT rows¦Ϯrows.map (mntR hs)¦ϱBuiltin.Str.strSliceIndices lo hi 1 x.length¦ϹcxOf A0 P w K mg base N g b f i A e s H E¦ϽmkS l¦ЅpickOrder Ku es¦Їf.toList.map banV¦ЏJeE P w¦НmetS ws¦ФevD U src O¦ЭZO _ _ E2¦єcntT ws T k¦ѣJA P w¦ѥtgN tg¦ѭtxt ps¦Ѳl b _ q fun z=>z¦ҌJj _ _ rfl rfl o¦ҒPu.Jn ws¦ҡ[So Ny,So (.dct Fo Fo [] []),So .non,No]¦ҧ[.str s.n,optT s.b]¦ҴEn ns A B Hs Er b g l m j Lr No¦ҽatKey xs k¦ҾJ.map banC¦ӂNe.symm n1¦ӃNe.symm n2¦ӆFz.sm FJ¦ӎrelabel scope O¦ӒkC g b c xs dd¦Ӳif_neg (mW f)¦Ӷrows.map Row.l¦ԗevD U c O¦ԛfun _=>To¦ԝmntR hs r¦ԡevD U e¦ԯzipD Ej DL¦ԷList.replicate j.toNat i.cps¦ՊvB _¦Ռkys A¦ՎtxP p¦ՕJj _ _ rfl f (in_D Fo n A)¦աs02.trans sm¦թJn (kys Eo)¦վhidT h H¦տjC N vs¦րr.bind f¦丟JY nt Kw Kv O KS¦丰zh1 (zh1 h t1 f) t2 g¦乃rs.filter p¦久l.map D.str¦乇T.map Row.l¦么B.map Row.l¦乞List.range bs.length¦也zh3 s.heap t1 t2 f q¦习s.heap.update a Tw¦乱envOfC l g Aa f L¦乻its.toList.map banV¦亊valV kvs k¦事zipD xs ys¦亍eU J its d¦亓xC rows i¦井zipD ks vs¦亞oth b (N b o hb f)¦亠I.base.tups b xs q¦产ws.zip (ws.drop 1)¦亨rs.filter (canB w)¦仓[ob a K dn un,.str n]¦仛f b _ q fun z=>z¦仜g b _ q fun z=>z¦仞ws.foldl addS ks¦仡List.range' lo n".splitOn "¦"
def sgU:List String:="Aiaz._auto_1¦Eyaz._auto_2¦Kbaz._auto_3¦Xmaz._auto_4¦CG'б' Ly Ai¦DW'б' QW Ey¦J5'б' NA Ai¦Ms'б' Ui Xm¦Mr'б' Nz Ai¦Sv'б' DN Ai¦Su'б' Nw Ai¦V3'б' VR Ai¦AjPySem.W.Frag¦AcList Str¦Ao.var 0¦AyValue -> Shared -> Prop¦BjList (Str × NameKind)¦A8List (Addr × Obj)¦EmmkM A B¦AmCtx X G N nm¦Aumodel prog w¦AlShared¦BkStr -> Option Value¦ADmodel X.prog X.w¦AsList Nat¦DS.con (.int 1)¦AOPE X a (tI X U pa)¦Ep.con (.int 0)¦A1.var 1¦AHInv X Y Z H s¦BaProgram¦Do.Name x px¦ApList Row¦AkList D¦CW'J'¦AEList Value¦AXrunD defs U¦AgCallD¦Ar.ref a¦BK'O'¦BvAround¦AvList V¦BJPE X b (tI X U pb)¦Eokn2 Em B¦BZOw M O Z¦Gie :: es¦AWU + 1¦A9List Addr¦AQWorld¦BUL2.Inv X Y Z H s¦HJws.map .str¦Fj.con (.int 2)¦BV.con CW¦Er'2'¦BL'3'¦DT.bi .idx Ao Ep¦B9ob a A dn un¦AnValue¦Fh.Name x p1¦Ejps.map Part.d¦Bb.tup xs¦CFList Expr¦FkSo (ob a Eo dn un)¦Xh(Fo,eval e X.env)¦C4.bl Fo¦DV.cons Ao .nil¦ElS \"one\"¦EkoS \"self\"¦EsoS \"table\"¦Fi'.'¦CZ.var 3¦CY.var 4¦Uk.con (.int 3)¦BlL2.St¦B8.ref it¦Lz.con (.str (oS \"one\"))¦B7Array Value¦HI.bi .idx Ao DS¦DqrunB defs bdefs k¦BS.str n¦CD.obj a ns fs¦Bw'{'¦DpoS \"word\"¦XgoS \"rest\"¦Ei.con .non¦DUs.heap.objs.size + 1¦CCrunD defs k¦BirunD defs (c + 3)¦AA.lst xs¦LystarEach Gi X.env = (Xh :: starEach es X.env)¦CB.var 5¦Bu.str (mkS l)¦BhA.handled = No¦LxoS \"number\"¦BIoS \"_law_script\"¦Xf.Attribute Fh m apos¦CA.Attribute Do f apos¦AGList Part¦BH.ref l¦HHoS \"any\"¦CVS \"mount\"¦Be'Ð'¦BQ.int k¦Lw.bi .add A1 (.bi .mul Uk CY)¦B6List (Str × Addr)¦AN.dK kvs¦AzXW X H¦A3.int n¦A7.tup HJ¦A0CXr P w¦DQoS \"thing\"¦HG(Fo,eval a X.env)¦AUList Int¦LvstarEach es X.env¦HFoS \"tables\"¦DP.isO nsS¦BdSo d¦DO.cons A1 .nil¦Ehrows.map Row.d¦DNstarEach [a] X.env = (HG :: starEach [] X.env)¦Cq'ç'¦BGFuncData¦LukeywordEach [] X.env¦GhtI X U p¦BtList (κ × V)¦Lshs.map Part.d¦ALOption D¦BPEP X Y Z Q¦A6'ð'¦CToS \"pattern\"¦BFList Stmt¦BY.ret (.con C4)¦Cpkys A¦CS.int at_¦HE.cons (.con (.str (oS \"new\"))) .nil¦HDmkS (stx A)¦B4oS \"text\"¦FgoS \"name\"¦AZk + 1¦Bc.lst J¦CzSo BH¦CorunD defs (c + 5)¦Br.ref f¦NB.lst (made.map .str)¦CnList (κ × Value)¦Eg'Ć'¦DLa.map .str¦A2.int i¦BqList Env¦Bpmodel P w¦DmOption Value -> Shared -> Prop¦LpoS \"NoText\"¦Ff.bi .idx CB Ep¦HB.str Xg¦DJtD Em¦HAS \"put\"¦CQha Y s Z H _ I h¦DIList Pu.D -> Nat -> Rs Pu.D¦Ef.cons BK .nil¦BEHOk P w H h¦COEnvOk K M H0 H Z O¦DH(apos.endLine == pos.line) = To¦B3.var i¦Boc + 2¦CNgetMethod ov m pl¦BD.str w¦Fe.str (mkS [s])¦DlUnit -> Shared -> Prop¦DjchkO N nm M i x = To¦CyO :: outer¦Gg.un .asI DS¦BCSo BL¦BBOption Int¦Ee.un (.fld HF) Ao¦Dins.contains m = Fo¦Ujdn ++ [stp CV El (So A) DJ]¦Dh.walk Ao¦Ge.str HH¦Fd.str Lx¦Cm.Name x pos¦CkfsD A dn un¦CjX.calm = To¦DGKTr Key¦Bmhid L H¦DgbackToKw pos Lu¦DF.Call Xf Gi [] pos¦Xe.con (.str (oS \"two\"))¦Df.un .len Ao¦NAstarEach [e] X.env = (Xh :: starEach [] X.env)¦BOSo v¦BA.dT kvs¦Ln.cons (.var 7) .nil¦CvS \"undone\"¦GcmkS (Jx r)¦DEStr -> Prop¦DDList (List Nat)¦Dels ++ hidN ls N¦Lm'Ł'¦BXclsN nsS¦B2S \"done\"¦GboS \"address\"¦DCoS \"_law_at\"¦CiList DefD¦GasIx items.size items.size hi - sIx items.size 0 lo¦DB.tup Ls¦CgPE X e Gh¦NzswapsWith e (So Do) pos.line X.env = pure Fo¦EdPA X Gi (tA X U p)¦Fc.con (.int 4)¦DdsepP M p = To¦DA.builtin id¦Ecod.data = .dict es ep¦FbValue.ref d == Value.none¦EbArray (Option Value)¦E9O.set i Bd¦DzrunD defs Bo¦CuOut X H Q¦E8(3 * k) + 2¦Ny'Ś'¦EarunD defs (c + 4)¦D9runD defs (c + 7)¦HwstarEach [b] X.env = ((Fo,eval b X.env) :: starEach [] X.env)¦E7.raise Lp .nil¦Dyt ++ mkT hs u¦NwattributeBase Do f X.env (eval Do X.env) = eval Do X.env¦Ui(X.fn x = To) ∨ (X.env.scope.names.lookup x = So .local)¦E6.Call Xf [] [] pos¦E5Bool -> Shared -> Prop¦D8Str -> Fm -> Prop¦E4I1.hok.fresh (Zh _)¦LloS \"Site\"¦E3eval a X.env¦Nv.un DP CZ¦Lkob a (kn2 A B) dn [stp CV El (So A) DJ]¦F8.Assign [.Name x px] e pos¦Lj.con (.str (oS \"0\"))¦HvFnOk X.prog X.w X.K X.mg X.base CX k f fd ps sp¦E2Ne.symm hb¦Hu.Name x p2¦E1I.hok.fresh (Zh _)¦E0Fun K x qual st f fd¦Ht.cons CZ .nil¦F4behindInMarks op b = Fo¦Nu.dct t To ks vs¦EZSo (f r) :: O¦F3.Compare a [op] [b] pos¦F2SetTable.grown es1.size¦HsSo (ob a Eo Uj [])¦FJs1.trans s2¦GLArray DictEntry¦Kuw.params.setOrder a ep¦FHoS \"undone\"¦MEupd H s.heap.objs.size (.dT [])¦EDa == sysModules¦Kt.cons Xe .nil¦FGhe Y s Z H _ I h¦FFho Y s Z H _ I h¦FE(X.A.units + 60) < cLine¦FDchkA N nm M i x = To¦DY.ins C dx fs¦DXns.map D.int¦ECrs.map Row.d¦GHJx r ++ [10]¦FCks ++ [kD n]¦Wq.bi .mul (.con (.int 60)) CB¦FBoS \"done\"¦XoList (List DG × V)¦FA(t' = To) -> NoKT G.K¦Fy.cons HI .nil¦KjoS \"TooMany\"¦Fx(A.units + 60) < cLine¦KiArray (Int × Value)¦SC.con (.str (oS \"=\"))¦KhoS \"abcdefghijklmnopqrstuvwxyz0123456789-\"¦My.con (.str (oS \"\"))¦GCPI X tg iter (tW X U ps)¦Kg.comp nt ps pc pe¦SA.bi .idx CB Fj¦FvNat -> Heap -> Prop¦KfList (Str × Value)¦FuBool -> Hp -> Prop¦GBList (L2.Key × V)¦Mvvs ++ [.str (mkS acc)]¦KeResult -> Shared -> Prop¦GASetAt s.heap a o es ep t¦KdoS \"abcdefghijklmnopqrstuvwxyz\"¦GztB X U bc M H0 pb¦GyrunB defs bdefs U¦KcSo (f1 r) :: So (f2 r) :: O¦V7.call 47 (.cons A1 (.cons (.bi .add (.bi .add BK (.con (.int 40))) Ao) .nil))¦KaV -> List V -> Hp -> VK -> Prop¦MuBool -> Hp -> Prop¦GxchkV N nm i x = To¦V6.call 43 (.cons Ao (.cons (.bi .add A1 (.con (.int 39))) (.cons Uk .nil)))¦J8.dct Fo z (ksD A) (vsD A)¦J7dn ++ [stp w n (look n A) x]¦Mt.app Fo 3 (.call 47 (.cons Ao (.cons (.bi .add Lw DS) .nil)))¦J6.con (.str (oS \"/\"))¦Sw.con (.str (oS \"7\"))¦V5.cons (.con (.int 9)) .nil¦J4Value -> Value -> Sem Value¦V4.un .asI (.un .neg DS)¦Mqob a [(S \"one\",A)] [stp HA El No (tD A)] []¦MpSo (.obj a ns (putN f d' ns fs)) :: env'¦Mn(b ∈ X.ex) ∨ (X.s₀.heap.objs.size ≤ b)¦MmEn ns A B Fk Er y5 y6 y7 y8 y9 x10 x11¦V2.call 43 (.cons Ao (.cons Lw V5))¦V1.call 49 (.cons Nv (.cons Lz .nil))¦MlevD U src O = .ok (.lst (rs.map f))¦MjOption (Value × Nat) -> Shared -> Prop¦MgPySem.W.instObj C s.heap.objs.size¦Mfupd W s2.heap.objs.size (.lst ys)¦Me.BoolOp .Or (a :: b :: rest) pos¦MdzipD (ns.map kD) (ns.map (vD A))¦Mc(mpos.endLine == cpos.line) = To¦XlList (List DG × Addr × Value)¦V0.bi .idx (.dis (.cons Sw (.cons Lj (.cons (.con (.str (oS \"55\"))) .nil)))) (.call 43 (.cons Ao (.cons (.bi .add Lw Fj) (.cons Uk .nil))))¦Mb.Call (.Name Ll p) [] [] pos¦VX.cons (.bi .add (.con (.int 700)) Wq) (.cons (.call 45 (.cons Ao (.cons (.bi .add (.con (.int 720)) Wq) (.cons Fj .nil)))) .nil)¦VW.bi .idx SA (.call 43 (.cons Ao (.cons (.bi .add Lw Fj) (.cons (.un .len SA) .nil))))¦SrEn ns A B Fk Er x5 x6 (So (aD here)) (So (.lst (inn B here))) x9 x10 x11¦Sn.walk (.tup (.cons (.var 6) (.cons (.bi .add (.tup HE) (.var 6)) .nil)))¦SmPySem.W.fnOf x qual (pL st) (Jp st) (Jd st) .none kV doc pm an cdv ct¦Sl.ext Fo 3 (.walk (.un .rows (.comp 0 (.un .range V6) BV V7)))¦Sj.Raise (So (.Call (.Name cx np) [ma] [] cpos)) No pos¦SgcxOf CX P w K mg base N qual scope f cdv A outer s H E¦SeHT.sIx xs.length xs.length hi - HT.sIx xs.length 0 lo¦Sd.or (.bi .eq (.var 6) Ep) (.bi .eq Ff (.con Ge))¦R9En ns A B Fk Er (So BQ) x6 x7 x8 x9 x10 x11¦R8V -> Option Int -> Option Int -> Hp -> VK -> Prop¦VRattributeBase a \"items\" X.env E3 = eval a X.env¦R5.call 19 (.cons CY (.cons (.tup .nil) .nil))¦R4.walk (.call 51 (.cons (.un DP Ao) .nil))¦R3typeOf DA = pure (.type \"method_descriptor\")¦VQ.bi .eq (.sl (.var 7) Ei Gg) (.tup HE)¦R0upd H a (.ins C dx (putF f v (ns.zip xs)))¦VP.comp 0 (.un .range (.call 43 (.cons Ao (.cons A1 (.cons (.bi .add BK DS) .nil))))) BV (.call 44 (.cons A1 (.cons (.bi .add (.bi .add BK Fj) (.bi .mul (.con (.int 5)) Ao)) (.cons (.bi .idx CY Ao) .nil))))¦VO.comp 0 (.un .range (.bi .add DS (.call 43 (.cons Ao (.cons (.bi .add A1 DS) (.cons Uk .nil)))))) BV (.bi .idx CY (.call 43 (.cons A1 (.cons (.bi .add (.bi .add BK Fj) Ao) (.cons Fc .nil)))))¦VN.un .tuple (.comp 2 (.walk (.un .rows (.call 46 (.cons Ao (.cons (.con (.int 400)) (.cons Fj (.cons Uk .nil))))))) BV (.tup (.cons (.bi .add (.con (.str (oS \"o\"))) Ao) DO)))¦VM.or (.bi .ne (.call 18 (.cons CY Ln)) (.bi .add (.call 18 (.cons A1 Ln)) (.var 8))) (.bi .ne (.call 25 (.cons CY Ln)) (.call 19 (.cons CY Ln)))¦VL.comp 0 (.walk (.tup (.cons Lz Kt))) BV (.tup (.cons Ao (.cons (.call 19 (.cons (.call 49 (.cons (.un DP CY) DV)) (.cons (.var 8) .nil))) .nil)))¦VJ.or (.bi .ne (.call 51 (.cons (.un DP (.var 11)) .nil)) (.dis (.cons Lz Kt))) (.bi .ne (.call 49 (.cons (.un DP (.var 11)) (.cons Lz .nil))) CY)¦VI.ite (.un .isN BK) E7 (.put Fo Fo 1 BK (.bi .add (.bi .add (.con (.str Str.empty)) (.bi Eg A1 BK)) (.bi .add CZ (.con Xn))))¦VH.or (.un .not (.un .truth (.call 3 (.cons Ao (.cons DS (.cons Fc .nil)))))) (.un .not (.un .truth (.call 4 DV)))¦VG.ite (.un .truth (.bi .strt Ao BK)) (.ret (.tup (.cons A1 (.cons (.sl Ao Gg Ei) .nil)))) .skip¦VF.tup (.cons A1 (.cons BK (.cons (.ite (.bi (.dIn Fo) BK Ee) (.bi Eg Ee BK) Ei) Ht)))¦VC.cons Ao (.cons (.call 19 (.cons (.bi Eg (.un (.fld HF) A1) Ao) Ef)) .nil)¦VB.bi .ne (.call 50 (.cons Nv Ln)) (.comp 0 (.walk (.var 9)) (.un .notN HI) Ao)¦VA.ite VQ (.call 18 (.cons BK (.cons (.sl (.var 7) Gg Ei) .nil))) (.dis .nil)¦Aa'Ɓ'¦Axs1.heap.objs.size¦Ae'ƃ'¦Ahxs.length¦ARs2.heap.objs.size¦AF'Ɔ'¦Aqps.length¦Awitems.size¦CL'Ɖ'¦A5X.env.locals¦ACks.length¦AKns.length¦AVkvs.length¦AJvs.length¦AYws.length¦BNrows.length¦Bzh.objs.size¦Cfh'.objs.size¦EYits2.toArray.size¦EWX.env.scope¦Ctvs.toArray¦Byys.length¦B1its.length¦BMls.length¦NtX.s₀.heap.objs.size¦F1'ƚ'¦AM⟨P,w,K,mg,base,A⟩¦DM[So Cq,So CS,So P,So NB,So BQ,So p.d,So (.int r)]¦AS⟨_,rfl⟩¦Lr'ú'¦Lq[(.tup [Ge,(.str (oS \":\"))]),(.tup [Fd,(.str (oS \"#\"))]),(.tup [HB,(.str (oS \"*\"))])]¦CP⟨_,Ze _ rfl,rfl,rfl⟩¦Lo[stp HA El No (tD A),stp HA (S \"two\") No (tD B)]¦Cw'Ĩ'¦Gf.ListComp elt [⟨tg,iter,ifs,0⟩] sc pos¦Hy[D.str (S \"a\"),D.str (S \"b\"),D.str (S \"7\"),D.str (S \"0\")]¦HxnotedBy Au A O fun e i=>R (.error e) i¦Xu'ŉ'¦F9ls.map fun l=>.str (mkS l)¦Nx[.type \"ValueError\",.type \"Exception\",.type \"BaseException\",.type \"object\"]¦CMfun _ _=>rfl¦F7⟨l.prog,w,K,mg,base,A⟩¦Uh[.Attribute Fh f fpos,.Attribute Hu g gpos,.Constant A3 j kpos]¦F6⟨_,Ze _ rfl,rfl⟩¦Dx⟨v,u,e,r,g⟩¦Ug'Ɯ'¦Hr⟨_,_,e,f,Out.now h rfl⟩¦EV⟨_,_,rfl,rfl⟩¦Nr[So B9,So BS,So DB,So (.str o),So (tD t),No]¦Li⟨rfl,_,⟨_,Je,p1,rfl⟩,p2⟩¦Xt'Ƣ'¦Dc⟨O,r,?_⟩¦Ud[D.str (S \"t\"),D.str (S \"p\"),D.str (S \"v\"),D.str (S \"q\"),D.str (S \"u\"),D.str (S \"s\")]¦D7clsN ns¦B0S \"new\"¦Hq[.str f,.str g,.int n]¦Nq[.ref T,.ref p,.ref q]¦DwpyNext B8¦Dahid BZ H¦D6Same.refl H¦EUScOk N nm ls sc¦Dv⟨O,e,?_⟩¦Xd⟨_,_,rfl,rfl,⟨_,_,rfl,rfl,rfl⟩⟩¦Xs'Ʋ'¦CePE X a ta¦HoZ.set i Cz¦FZrunD defs A6¦Lh⟨rfl,Zck,rfl,rfl,rfl⟩¦LgoA _ _ (Jk _ _ rfl b)¦Xc'ƹ'¦Cs[.ref a]¦C9List Nat¦DuOption Addr¦DtRep K H d v¦Lf.bi o pa pb¦Lead.map .str¦ETblm E.b Ab¦FYReps X.K H J xs¦LdrunB defs bdefs AZ¦C8I.tok _¦LccompareOp op¦ESupd H a o¦Xr'ǉ'¦HnBinds X.K fd ps J¦HmDKo H d t o ks xs¦Hl⟨rfl,rfl,rfl⟩¦Hk⟨_,g,trivial⟩¦Xb'Ǐ'¦Lb[So BD,So BS,So x]¦Hj.obj a ns' fs'¦HimkS (l.drop 1)¦CbSem Bool¦CaSame H W¦Xa.un (.isO ns) B3¦Ucob a (srt A) [] []¦Hg[.Name x px]¦C7stAt 60¦Np[So p.d,So (.str k),So Fe]¦CK.ref b¦Ub[.Attribute Hu g gpos,.Constant A3 j kpos]¦Nl.Compare a [.In] [b] pos¦HeI.freeC x c e¦Hdbump g k c dd¦C6SameP H W¦A4PlO H0¦FXList (KTr κ)¦FWReps K H J xs¦FV⟨_,rfl,h⟩¦La⟨O,e.readOk,?_⟩¦Nk[labO o,.int (N o)]¦Nj[.str n,labD (fnd A ad n)]¦W8.Attribute a \"items\" ap¦FUZe _ rfl¦D5.tup Ej¦K9.con HB¦Hc.walk A1¦ER.tup Eh¦G9.str Gc¦K8row0 r _ _ 0 rfl¦K7row1 r _ _ 0 rfl¦Ua⟨lC M 0 O,Ow M O Z,e.ows,e.readHid,?_⟩¦BWTwo A B¦K6.cons AS (.cons AS .nil)¦G8[S \"a\",S \"new\"]¦Ni.Constant (.str z) j f¦W7'Ǽ'¦EO[So b,So f]¦FTupd H l ob¦G7JC d.slots J¦T9.set Fo 0 (.call 24 (.cons Ao Ef))¦K5.dK (xI kvs k)¦K4oS \"0123456789\"¦Nh.type \"StopIteration\"¦T8.Tuple [.Name x p1,.Name y p2] k pos¦T7.un .not (.un .truth (.call 2 DO))¦BgString¦W6⟨fun b o e n hb G=>?_,fun b o e n hb G=>?_,I.base.free,fun b o e G=>?_,I.base.tups,I.base.frzs,I.base.tbls⟩¦CJRelV y u¦G6List (KTr Key)¦T6Zu (ZB (Zj e) (I.ok.cab x c hfn F))¦T5[So Cq,So CS,P,L,So BQ,So p.d,g]¦K3FnScope N ps Ug¦NgZB (Zj e) I.ok.above¦T4.comp 0 Dh BV DT¦Nf.walk (.call 34 DV)¦T3So (.builtin \"object.__setattr__\")¦TZEn ns A B Fk Er j l m o q Lr b¦K2fun _ _ _ q=>q¦TY.cons Ao DO¦K1'ȗ'¦G5frs X.stack¦G4ns.map .int¦K0oS \"NoSite\"¦G3oS \"NoBack\"¦G2oS \"_law_k\"¦D4mutS g¦TX'Ȟ'¦W5'ȟ'¦Nd[.str a,.str b,.str d]¦Nc.UnaryOp .Not a pos¦W4.Attribute o m apos¦NbtSB X w U bc M H0 a¦Naupd H1 A (.lsm f o)¦TV.cons (.var 10) (.cons Fj .nil)¦FS.str x tk¦M9tI X U pk¦D3cN tg N¦KZDGet X.K H a y o¦TUhE T FC Mv (kD n) (So G9)¦M8CalleeP G U fi D7 m¦M7.Return (So e) pos¦M6.Subscript a b pos¦KYJA X.prog X.w¦W3.con (.int 8)¦TQOutQ X w [] H0 [] H (mutB a) D¦FR([DQ],[])¦Cr.bl p¦TN.app Fo 3 (.bi .idx CB DS)¦KSJ.drop Bw¦G1C.glo _ hg¦G0uni L H H1¦GZupd H T o'¦KQoS \"mount\"¦GYfun _=>rfl¦M5fun _ _ q=>Zd _ q¦M4setNext a sl i ep¦M3.builtin \"sorted\"¦M0.Tuple elts kk tp¦MZtB X U bc M H0 pa¦D2.str x¦Ds.int j¦TK.Call (.Name x p) Gi [] pos¦KPZ.set i BO¦KO.type \"dict\"¦TJObj.mapSeq fun x=>x.push u8¦TH.obj a nsS (fsS ks vs J es)¦W2.ite (.bi .ge BK Ep) (.dsp To DV (.cons DS .nil)) (.dsp Fo .nil .nil)¦FQ.bool To¦FPprD A ad¦W1.bi .eq (.call 52 (.cons Nv .nil)) (.tup (.cons Fj (.cons DS .nil)))¦TF.sl Ao Gg Ei¦MY.bi .idx Ao Fj¦TC.sl Ao Ei V4¦ENSo Br¦EM.type T¦FOS \"two\"¦W0.put To To 5 (.var 9) (.bi .add (.bi (.dGz To) CB (.var 9)) (.var 7))¦WZJj _ _ (G c _ _ _) rfl rfl¦DrFldC G f¦CHoQ _¦D1vsD A¦WY.call To 0 1 nsS (.cons (.call 39 Ef) (.cons (.call 36 Ht) .nil))¦WX⟨.ref l,σ',_,I2,rv,F _ ⟨l,_,rfl,⟨g,⟨o,Je⟩,rfl,rfl⟩,rr _⟩⟩¦KN[Ek,Fg,Es]¦TB.un .items (.call 38 DV)¦TzPassesOwn AD X.A X.env X.xe¦Tx⟨l,o,e1,g,Out.now q rfl⟩¦GXtI X U pa¦GWsM _ _ _¦WW.put To Fo 3 (.var 6) (.bi .add (.bi (.dGz Fo) CZ (.var 6)) CB)¦GVput n t A¦KMSo (kD n)¦Xq'ɦ'¦GUoS \"part\"¦GToS \"many\"¦TwObj.putSet f t'¦MX.bi .eq DT Lz¦WV.call 43 (.cons Ao (.cons (.bi .add A1 DS) (.cons Fc .nil)))¦WU.ite (.bi .eq Ff (.con Fd)) (.app Fo 3 V0) (.app Fo 3 VW)¦WT.or (.bi .ne CY V1) (.bi .ne (.call 49 (.cons Nv Kt)) BK)¦EKKV kvs vs¦EJPE X o td¦EIList DefB¦KLSame.refl _¦KJoS \"undone\"¦KIS \"TooMany\"¦KGt.map Row.d¦Tvassign (.Name y B) X.env¦TuOutS X M H0 BZ H D4 D¦Tt.Compare a [.Eq] [b] pos¦Ts'ɼ'¦EHZd _ e¦EG.ref z¦D0.ref d¦TrPE X e (tB X U bc [] H0 pb)¦WS.sl (.call 48 (.cons Ao VX)) Ei (.un .asI (.con (.int 7)))¦WR.Expr (.Call (.Attribute CA \"append\" mpos) [e] [] cpos) pos¦Tqfun b o j e=>eb b o j e¦Tpf (.int i t) (.int j u)¦Tn.call fi (.cons Xa p)¦Tj.loop Fo [8] 0 Hc tbW¦WQ.Assign Hg (.ListComp elt [⟨tg,iter,ifs,0⟩] sc p1) pos¦WO⟨_,Nat.sub_lt_sub_left g (ZaU i),s,A,c2.trans (un C),g,rfl,Y⟩¦WN[.str (mkS r.l.cps.toList),.str (mkS [32]),.str (mkS (txt r.ps))]¦WM[So (tD T),So A7,So A3,So (dcT To [(T,1)]),No,No,No,No,No,No]¦MWObjOk P w H h a o¦MVList (KTr L2.Key)¦MUList (Option Str)¦DZg i j¦C5Jbk _¦GSVals xs its¦GRRoom E8 A¦GQ⟨t,rfl⟩¦GP⟨?_,?_⟩¦Ti[So B9,So (.tup Le),No]¦Th[stp CV El (So A) DJ]¦WLPySem.W.fnOf n n (pL s) (Jp s) (Jd s) .none kV g pm h e ct¦WK.Expr (.Call (.Attribute CA \"pop\" mpos) [ek] [] cpos) pos¦WJ.set Fo 9 (.call 24 (.cons (.var 6) (.cons (.var 8) .nil)))¦WI[So (.tup (b.map Row.d)),So (.tup (f.map Row.d)),So (.tup EC)]¦MT.builtin \"len\"¦Tg.Dict [] [] p1¦MR.str Str.empty¦MQdcL Fo (lcn b)¦MPoS \"_law_most\"¦KF⟨_,e,rfl⟩¦AICallB¦Tfob a (kn2 A B) Lo []¦WH.Expr (.Call (.Attribute Do \"append\" apos) [e] [] pos) f¦WG⟨O,r.mono s,f.mono (fun d o=>o.mono s) fun c x=>x.mono s⟩¦FN.lst ys¦Xp'ʦ'¦KCrD2 X o¦FMSo BQ¦KAhr.mono f2¦Kz.Name y py¦KySo (Jlx a)¦KxEQ X [] H0¦MOoS \"ahead\"¦MNoS \"other\"¦WE.un .any (.comp 0 (.walk TC) BV (.bi .eq DT K9))¦WD.ite (.bi .eq DT A1) (.ret (.bi .add BK HI)) .skip¦TeI.base.free b o e n g¦WC.frz q (.dT [(ks,y)])¦Td.dK (L2.putK kvs k v)¦Tc.tup [Ge,Fd,HB]¦WB[l,So A7,q,j,o,So (dcT Fo f),So (tD rs),So (.int cn),u,s]¦MM[So Bu,h,m,No]¦WAPySem.W.fnOf name qual g j scope dV kV J pm an cdv ct¦Wz[D.str (S \"y\"),D.str (S \"id\"),D.str (S \"z\"),D.str (S \"x\")]¦KwevD U pc¦KvevD U pe¦GOhid [] _¦GNChB.of l¦Ta⟨[.type \"set\",a],[]⟩¦S9[So Bu,So k,So Fe,b]¦MLbinaryOp .Add¦MK.type \"tuple\"¦MJM p C w y m h¦MItS X U M H0 a¦MHfun _=>.inr h¦S8ob a [] [] []¦Wy.Raise (So (.Call (.Name x np) [e] [] cpos)) No pos¦WxEn ns A B Fk Er x5 x6 (So (aD here)) j x9 x10 x11¦EF.ref p¦GM.ref t¦EEkeyV k¦S7fun b xs q=>sm b _ q¦S6.Call Fh Gi [] pos¦S5seqObj \"list\" Ct 0¦S4seqObj \"list\" AF 0¦Ww.con (.str (oS \"[\"))¦S3.con (.str (oS \"a\"))¦S2.dct Fo Fo K1 D1¦S1oS \"NAME_ONLY_HOLES\"¦Wv.un .all (.comp 0 (.walk BK) BV (.call 10 Fy))¦Wu.un .items (.call 40 (.cons Ao (.cons A1 Ef)))¦FLPE X b tb¦FKPE X e te¦Wt[Ek,(oS \"steps\"),(oS \"others\"),(oS \"at\"),(oS \"step\")]¦MGSq X.K t H a xs¦MFChg m L H L1 H1¦S0envOfC j g Aa f m¦Ws.walk (.un .rows p)¦Wr.bi (.dGz t) B3 b¦GK(.nx,env2)¦GJLoc EW x¦GIVals dvs J¦GGJck CX X E¦GFSlf N nm x¦GEOption Str¦Wp.Call (.Attribute Do \"extend\" apos) [e] [] pos¦Wo[o,So A7,s,So (dcT To f),q,So (dcT Fo []),u,y,x,v]¦MDeval e X.env¦MCeval o X.env¦MBexD Lm wrB¦MAprD Eo here¦SZCalleeB G bc fi D7 m¦SY[tD T,.tup HJ,.int n]¦Wn⟨I',fp,wr,_,Pz,Sz,_,e1,W9,st,tt,fun h' C k=>?_⟩¦Wm⟨_,rfl,\"set_iterator\",_,F6,at_next.lookup,?_⟩¦Wl[So (tD T),So A7,So A3,So (dcL Fo []),No,No,No]¦Ks.lsm t xs¦KrtT X U pa¦Kqupd H l o¦Kp.dis .nil¦KooS \"done\"¦Km.tup DL¦KloS \"rows\"¦EASetTable¦Ez[.ref p]¦SX.BoolOp op [a] pos¦SW.Attribute e f pos¦Wk.Slice lo hi No p2¦SVfun b ob q=>Zd _ q¦SUSq.same hid_same q¦Wj[So Cq,So (tD A),No,No,No,No,No,No,No,No,No,No]¦Wi.ListComp elt [⟨b,iter,ifs,0⟩] scope pos¦Wh.Call (.Attribute Do \"pop\" mpos) [] [] cpos¦SSObjM s.heap x dx C mA¦SR[.tup Eh,.tup DL]¦SQ[ob a A dn un,.str n]¦SO[So Ny,So Uc,f,b]¦Wg[.dct Fo Fo K1 D1,.mls B2 dn,.mls Cv un]¦Wf.Call (.Attribute Do m apos) Uh [] cpos¦We.un .all (.comp 0 Dh BV (.call 11 DV))¦Mz[So b,So f,No]¦SN'Ͻ'¦Wd[So T,So (ob a B [] []),So (kD n),So (vD A n)]¦Wc.un .all (.comp 0 Dh BV (.call 7 DV))¦Wb.cons DT (.cons (.bi .add A1 HI) .nil)¦WaEn ns A B (So Lk) Er b g l m j Lr No¦SMfun b o e=>Zd _ e¦SLForInStep.yield r¦SKtI X U (.un o pa)¦SJSetO X l (metS g)¦V9uni [Aa] ME f¦SI.comp 0 src BV e¦SH.bi .eq Ff K9¦SG.bi .idx B3 Ep¦SF.lst (inn B here)¦SEoS \"MOST_CHOICES\"¦SDoS \"MOST_LETTERS\"¦Kk.ref sl¦GD.lst []¦Sy[f1 r,f2 r]¦MxtOp r ta tb¦MwtI X U Lf¦V8.set Fo i p¦Mo.obj a l fs¦MioS \"counts\"¦Mhhr.mono Af¦Ss⟨So (.int r),?_⟩¦VZ.Assign [.Subscript CA ek spos] ev pos¦VY'ѣ'¦FtSo Do¦J0S.pe C¦Xk'ѭ'¦VV[D.str (S \"7\"),D.str (S \"0\"),D.str (S \"55\")]¦VT.comp 2 (.walk (.un .rows CZ)) BV Ao¦VS.un .not (.un .truth (.un .isStr Ao))¦Sk.ext fun _=>True¦SiHT.sIx Ah 0 lo¦Shfun _ _ _=>False¦Sf.Tuple elts k tp¦Sbfun a ha=>kL ha¦Sah0.same e.same s¦R7.raise Kj .nil¦R6fun r=>D.str r.l¦I0List Str¦IZtF X U p¦IY.seq a b¦IXhid [] W¦IWhid [] H¦IVList Row¦IU.seq _ _¦VE[Ek,(oS \"steps\"),(oS \"others\"),(oS \"at\")]¦RZHOk X.prog X.w W h'¦RYApart z TI TO i1 i2¦RXh.Ns mainGlobals mg¦VD.bi .add T4 (.dis (.cons Ei .nil))¦Ma[Value.ref a]¦RV⟨Cs,[]⟩¦VzIsSI s.heap it (.int sl 0) i a es.size ep¦VyIsItemIter s.heap it d i es.size ep ok ov¦Vx[So BS,So DB,So (.str o),So (tD t),No]¦Vw[.str El,.tup (hN.map Part.d),.str FO]¦VvtB X U bc [] H0 (.call To fi i ns p)¦Vu.walk (.un .rows (.con (.tup Lq)))¦GvX.N.Nodup¦GuList Pu.D¦GsList DefE¦Vt⟨.bl _,H,I.kept k,rfl,Out.now h rfl⟩¦Vs⟨iF eW _,pF F.entry_list_iadd ?_⟩¦L9fun _ q=>q¦L8TP X Y Z Q¦L7I.ok.hd hc¦L6cutD J l h¦L5O.set i No¦Vrhl1.stay fun o e=>C.extBut _ _ m1 e¦Vq.Assign [.Subscript Do b ps] v pos¦L4C.vis x g5¦VptB X U bc M H0 (.call Fo fi i ns p)¦VotI X U (.call fi (.cons Xa .nil))¦L3S \"NoSite\"¦Vn.walk (.un .rows (.con (.tup sgD)))¦L0oS \"names\"¦LZoS \"words\"¦RU.Dict [] [] pos¦RTp1 _ _ _ _ FU¦RSO.set i (So d')¦RQ.lst (rs.map g)¦RONat.succ.inj hl¦RN.cons W3 .nil¦RMoS \"MOST_PARTS\"¦RKoS \"MOST_SIGNS\"¦RJoS \"WORD_SIGNS\"¦FsRelV v u¦FqDn dn un¦VmIsSI s.heap it (.ref tp) i a es.size ep¦Vl[So Ar,So (.ref I),So EG,So A3,No]¦RIPE X v (tI X U pv)¦RH[Ek,Dp,Fg,Es]¦Vkh1.stay fun o e=>C.extBut _ _ d3 e¦ExJex i¦EwJp st¦Euhit a¦Vj⟨Ze _ rfl,sa.stay fun o e=>Zd _ e⟩¦ViF.args_dict_itemiterator_next_1 _¦VhtSB X w U bc [] H0 (.putK f pk p)¦Vg.call 20 (.cons y (.cons z .nil))¦Vf.lst (ls.map fun p=>.str (mkS p))¦ITPA X Gi t¦ISList MethE¦IR[.tup Ej]¦VegetattributeRaised _ _ _ _ _ _ _¦VdF.args_dict_keyiterator_next_1 _¦RG.cons rfl .nil¦RFJeE X.prog X.w¦REOw M E9 Ho¦RDCXr X.prog X.w¦RCrunD defs AZ¦Vc.Name \"set\" p2¦RBputN f d ns fs¦RA.un .items CZ¦Rz.set Fo 6 V2¦Ry.str (mkS acc)¦RwoS \"_law_made\"¦RvoS \"_law_many\"¦RuoS \"MOST_ROWS\"¦RtoS \"set_table\"¦Vb(.nx,O.set i (So (.dct t Fo [] [])))¦VaIsPair s.heap TI (.ref i1) (.ref i2)¦U8⟨a,xs,i,w,rfl,r,C,F,Out.now h j⟩¦U7⟨rfl,[],⟨[],Je,rfl,rfl⟩,rfl⟩¦BfScope¦U6PySem.W.methodObj Br (.ref y)¦U5tSB X w U bc [] H0 (.popK f pk)¦U4.set Fo 3 (.bi .partS Ao SC)¦U3.un .truth (.bi .strt CZ Ww)¦U2rows.map fun r=>.str (mkS GH)¦LY(.rt d,env2)¦LXOption Value¦LWPE X ek M9¦LV⟨rfl,?_⟩¦U0⟨joinFit_length f,fun t' k=>?_⟩¦Gr.ref x¦Gq.own x¦Gp.tup J¦IQ.ref e¦Gn.int 4¦UZfun f g w e=>j its i x f g w e¦UYF.args_tuple_iterator_next_1 _¦UXtSB X w U bc [] H0 (.set i pb)¦UWtSB X w U bc [] H0 (.appF f p)¦UV.lst (rs.map fun r=>.tup Sy)¦LUF b o e g¦LSps.zip us¦LRO.set i s¦LQf Z H Q g¦LPtI X U pb¦LObigT H H1¦LNexD U sgB¦UUoS \"most\"¦LMoS \"head\"¦IPhid L W¦IMXW X H0¦ILvsOf dd¦IKkn2 X b¦UTs.heap.IsKeyIter it d i es.size ep¦USPySem.F.args_dict_get_3 _ _ _¦URBuiltin.SmallTypes.nextOf B8¦Et[b,f,g]¦RpcompareOp .Lt¦RotS X U M H0 b¦Rn.bi .eq pa pb¦Rm.call 15 TY¦Rl.con (.int 5)¦UQ⟨.bl _,H,I,rfl,Out.now f rfl⟩¦UP⟨.bl _,H,I,rfl,Out.now h rfl⟩¦Rk(AR,uE its k)¦RjDK H a t z ks xs¦RiReadOk X.K H Z O¦Rh[tD Em,aD here]¦UOtS X U M H0 (.ext Fo i Ws)¦UNupd H l (.lst (f.map V.str))¦UMJP (Jsb C ha F B hs) mE rfl¦ULtSB X w U bc [] H0 (.newL f)¦UKSo (.Subscript CA ek spos)¦UJ.Call (.Name y p1) Gi [] p2¦UIJg _ _ rfl (Jg _ _ WZ rfl)¦UHPE X e (tC X U bc fi i D7 m p)¦UG⟨.int DZ,H,I.tok _,AS,q⟩¦UFPySem.F.args_dict_get_2 _ _¦UEmkS (cutD x.cps.toList l h)¦UD.Compare a [.NotEq] [b] pos¦UCtSB X w U bc M H0 (.lift q)¦UB.bl (xs.any fun d=>d.eqv a)¦UA.bi .gt (.un .len BK) W3¦Uz.comp 0 (.walk BK) BV DT¦Uy.bi .ne (.call 37 DO) Ao¦Fp.t ks¦Xj'Պ'¦FntpO H¦Flsrt A¦Xi'Վ'¦Ux(tSB X To CC Dq [] H0 d.body)¦Uw⟨p,g,rfl,h1,u,fun l hl=>?_⟩¦UvPu.cutD x.cps.toList lo hi¦Uu.bi .eq (.un .len A1) Ep¦Ut.cons Fj (.cons Uk .nil)¦Usnames5_nodup.sublist h.hol¦Rg.type \"list\"¦Rfns.map V.int¦Reupd H a AA¦Rbws.map V.str¦RansS.zip Nq¦Q9exD U rest O¦Q8exO w U bc a¦Q7.un DP Ao¦Q6n_tx r.l h.l¦Q5mkS (tabT t)¦Q4oS \"FIGURES\"¦Q3oS \"LETTERS\"¦Q2oS \"do_step\"¦Q0CXr l.prog w¦LL([CT],[])¦LKK.In s.heap¦LJKT H kvs xs¦LIEnvB G U bc¦LH⟨us,[]⟩¦UrEnv0 P w K mg base A outer s H¦QZOpR X Lc KC¦QY⟨v,H,I,r,h⟩¦IJCls X.K C¦IIPE X i ty¦IHSame H H1¦UqtS X U M H0 (.app Fo i p)¦Up.Compare a [.GtE] [b] pos¦UoStrLaws.glued_eq_join z _¦Um.call 24 (.cons CY HE)¦LG.frz o u¦QX.mls f J¦LFothD m f¦LD.ret A1¦LCoS \"put\"¦LBlcn Xt¦LAC.map oR¦UlJpu B Cy e cls a0 fl s.heap¦QVIsSI s.heap it first i a n ep¦QU⟨_,i.mapOf,h _ _ C8 ?_⟩¦QT⟨i,j,g,l,f,Out.now b rfl⟩¦QS⟨g,⟨o,e _ _ l rfl⟩,q⟩¦QRI.base.keep b o e n hb G¦QQletOwnedTupleGo tg B8 u¦QPF.args_list_append_2 _ _¦QO.Compare a [.Lt] [b] pos¦QN.Compare a [.Gt] [b] pos¦QMSo (.Subscript Do b ps)¦QLenvOfC qual sc Aa f cd¦QKObjOk X.prog X.w ES h' a o¦QJM1 X CA \"pop\" mpos ek cpos¦QI⟨f.typeIs,fun b q=>?_,i⟩¦QH[So b,So f,So g,No,No,No,No]¦QG[So B9,So BD,So BS,So x]¦QF[So B9,So BS,So (tD t),No]¦QE.ins C dx (putF f y fs)¦QDbinaryOp .Add GM CK¦QC.Attribute o \"get\" apos¦QBiO X ls sc Cd s H fp E¦QAupd H l (frzO f o AN)¦Qz.Attribute a \"get\" apos¦QyputN f (.mls f F) ns fs¦Qx.seq (.set Fo i e) rest¦Qwb.map fun o=>D.tup Nk¦Qv[ofN ns,.int at_,.str name]¦Qu.Constant .none j pos'¦Qtargs_tuple_getitem _ _¦Qs.Attribute o name apos¦Qrkey_of I.hok (F I.noH)¦QqZP _ (ZP _ (JbF hb e))¦QptS X U M H0 (.own i p)¦Qob.map fun r=>.tup Sy¦Qn.con (.str (S \"rest\"))¦Qmfun p=>.str (mkS Xi)¦QloS \"_law_pattern_here\"¦QkIsZip s.heap z TI TO .none¦Qj⟨z,g,n,r,k _ _ Be e⟩¦Qi⟨.none,.none,Ze _ rfl⟩¦Qh[.str El,.str n,.tup HJ]¦Qg.Constant .none j pos¦QfZP _ (ZP _ (JbF y e))¦Qefun b z=>absurd z Ad¦Qd.Call W4 Gi [] pos¦QcList.take_sublist _ _¦Qb.Subscript e Wk pos¦QaI.base.free b o q n x¦P9.builtin \"isinstance\"¦P8.Assign Hg Tg pos¦P7F.args_str_join_2 _ _¦P6I.hok.fresh (Zh Aa)¦P5bump g (b x) (c x) dd¦P4.put Fo Fo 1 BK My¦P3.ret (.un .tuple CZ)¦IGfs.lookup f¦IFtF X U Kg¦IE.ite pc a b¦IDL2.jC N vs¦IC.type \"set\"¦IBl b o x C q¦IAIti K t d o¦Iz.ite pb a b¦IyJeP J0 hb¦IwoS \"tables\"¦Iv.lift .skip¦IudcT Fo 'Ƨ'¦Irfun H=>Xd¦P2IsTup s.heap b ws.toArray¦P1PSs X rest (tLaw X H0 R')¦P0⟨q,z,fun m l e i=>?_⟩¦PZ[So CD,No,No,So A3,No]¦Iq(0,Value.none)¦IpKeyKind P w κ¦IoSqL X.K H a xs¦ImSqT X.K H a xs¦Il⟨_,rfl,?_⟩¦Ik[ob a A dn un]¦PY.Constant A2 j pos¦PX.Constant D2 j pos¦PVPySem.W.instObj C dx¦PU.Call W4 [] [] pos¦PR.call (.ref fa) RV¦PQstarEach [e,f] X.env¦PPJ.any fun d=>d.eqv a¦PNJeF (h.cells C I.ok)¦PMJ.any fun d=>d.eqv b¦PL.Call Fh [a] [] pos¦PKfun b o e=>Zd _ EH¦PJ.Call W8 [] [] pos¦PHtGo X bc H0 ks cn ns¦PF.con (.str (oS \" \"))¦PD.con (.str (oS \"b\"))¦PBPSs X rest (tLaw X H0 R)¦Py⟨[.ref l,.ref b],[]⟩¦Pw⟨kvs,⟨o,Je⟩,J,g⟩¦Pv[.str (S \"word\"),.str x]¦Pr[ob a A dn un,.tup Le]¦Pq[stp HA El No (tD A)]¦Pp[DQ,(oS \"signs\"),UU]¦Po[DQ,(oS \"least\"),UU]¦PnstoreName X.env x u¦Pmfun _ j=>NP X Y Q j¦Plh pos Y s Z H _ I m¦Pkx.above y c (iQ h)¦Pjq pos Y s Z H _ I h¦Pi.Pass ⟨0,0,0,0⟩¦Ph.builtin \"dict.get\"¦Pgfun i=>bs.getD i Fo¦PfF.args_zip_next_1 _¦Pefun f=>absurd f AB¦Pdfun f=>absurd Ab f¦Pc.bi (.dIn t') pa pb¦PbtSB X w U bc M H0 b¦Paupd H l (.lsm t [])¦O9.Call W8 [] [] cp¦O8Jj _ _ rfl 'Ҍ' rfl¦O7oS \"Site.set_table\"¦O6(.nx,O.set i (So Bc))¦O5tI X U (.un o pa) Z H Q¦O4AllOk P w K mg base C k¦O3⟨b,rfl,fun W s=>?_⟩¦O0⟨_,_,_,rfl,rfl,rfl⟩¦OZ[.Attribute Do f apos]¦OY[.Constant A3 j kpos]¦OX⟨5,4,.goB ks cn ns⟩¦OW[So Ny,So S8,No,No]¦Ijfun _ z=>z¦IipyIter Ar¦IgNe.symm d9¦IeNe.symm d2¦IcNe.symm d3¦Ibhid BZ H1¦IaJgh rows i¦HZJmQ B.same¦HYS \"NoText\"¦HWS \"NoBack\"¦HVSo (aD ad)¦HUoS \"SIGNS\"¦HSE.f 18 rfl¦OVbinaryOp .FloorDiv¦OUstarEach [e] X.env¦OTfun g C' _=>z g C'¦OS.Tuple elts k tpos¦ORrawInt f.objs.size¦OQJP (zN he) mE hs¦OPupd V9 Aa WC¦OO.bi .isin SC Ao¦ONJj _ _ rfl rfl rfl¦OMrunB defs bdefs 12¦HRPE X value tv¦HQRep X.K H d v¦HPPrt K H a d L¦HN⟨_,rfl,r⟩¦HM⟨_,f,rfl⟩¦HL⟨_,r,rfl⟩¦HK[(S \"one\",A)]¦OLIsIt t1 s.heap i1 l1 k¦OKIsIt t2 s.heap i2 l2 k¦OJtS X U M H0 V8 D Z H¦OI[So x,So y,So z,No,No]¦OH⟨.bl _,H,I,rfl,?_⟩¦OG[.Constant .none j p']¦OF[.Call Vc [a] [] p3]¦OE⟨N.length,1,.skip⟩¦GmRoom k X.A¦Gkr.Good P E¦Gj[Es,Gb]¦OD.BinOp a op b pos¦OCintBits_le_64 g l¦OBfun b u q=>Zd _ q¦OAfun b u e=>Zd _ e¦OzgetItem GM Kk¦Oyfun _ o=>o.mono s¦OxgS X M H0 [i,j] 2¦Ov.Name \"sorted\" p1¦OuevalEach vs X.env¦OtrunB defs bdefs 0¦Os.bi .zip Ao TF¦Oq.bi .add HI SC¦Oo.bi .idx B3 DS¦OnhE T ks vs d KM¦OmrunB defs bdefs c¦OloS \"Site.do_step\"¦Ojs.heap.IsList l items¦OiIsSq t s.heap a items¦Oh⟨f3',f1',f4',f5'⟩¦Og⟨.inl z,.inl rfl⟩¦Of⟨.inr z,.inl rfl⟩¦Oe⟨o,G _ _ l,O,m,j⟩¦Od[No,So QX,No,No,No]¦Ocfun _ _ _ _ n=>n¦Ob.IfExp c a b pos¦Oa.int DZ s.toks¦N9hi Y s Z H _ I h¦N8Jku s.heap I.big¦N7fun i q=>h i '?'¦N6noteFrame IQ O¦N5tS X U M H0 V8¦N4.ok (.ret .none)¦N3args_list_sort _¦N2.bi .add Wr vp¦N1.bi .le Df BK¦N0.bi .gt Df Ep¦NZ.bi .eq Ao My¦NY.bi .idx DT Ep¦NX.bi .idx CZ Ep¦NW.bi .idx CZ Fj¦NV.raise K0 .nil¦NU.con (.str KQ)¦NT.bi .eq V1 A1¦NS.call r f i ns p¦NR.dct Fo Fo ks vs¦NQexO Fo R1 Q1 rdB¦NOfun w=>belw rs w¦NNIsTup s.heap t items¦NKIsIt t s.heap it a i¦NJIsPair s.heap TO a b¦NIIsSq t1 s.heap l1 xs¦NHIsSq t2 s.heap l2 ys¦NGCalleeB G bc fi cn m¦NF⟨z,its,n,r,tr q⟩¦ND⟨rfl,fun _=>rfl⟩¦NC[Ek,Fg,MO,MN]¦Xn'Я'¦BR'Â'¦QW'&'¦AB'y'¦CU'Ô'¦Ab'b'¦Af'g'¦Ad'j'¦UeX.env¦VUs.heap¦Xvs.toks¦Xwes.size¦XxValue.none¦Xyx.length¦XzX.prog¦XAN.length¦XBX.stack¦XC.con (.str Dp)¦XDI.hok¦XFr.length¦XGx.cps.toList¦XHpos.line¦XIA.in1¦XJRow.d¦XMapos.atName¦XNl.length¦XOD.str¦XQsc.names¦XRRow.l¦XSs.cps.toList¦XTHh.objs.size¦XUhit.typeIs¦XXNameKind.cell¦XYPart.isRest¦XZz.cps.toList¦X4p.isRest¦X5s'.heap¦X6s1.toks¦X7X.base¦X8I.bare¦X9d.body¦YaPart.d¦Ybscope.names¦YcKOk A¦Ydg.length¦Yepl.isList¦YfStr.empty¦YgC.calm¦Yhn.cps.toList¦YiI.loc¦Yje.val¦YkL2.Key¦YlI.free¦Ymg.toList¦Yny.length¦Yoa.length¦Ypf.length¦Yqd.slots¦YrA.in1.in1¦Yse.key¦YtGl X x¦YuE.p_table_of¦Yvp.isList¦Ywe.readOk¦YxI.kIn¦YyA.units¦Yzs.drawn¦YAI.ok.kind¦YBes.toList¦YCo.data¦YDp.kind¦YEList.length¦YF(.nx,O)¦YGTabOk t¦YHX.A.in1¦YI.ite SH Sl (.ite Sd Mt (.ite (.bi .eq Ff XC) TN WU))¦YJi.length¦YKb.length¦YLNameKind.free¦YMRowG r¦YNe.same¦YO.cons (.tup (.cons (.tup (.cons XC HE)) .nil)) Kt¦YQV.str¦YR.bl b¦YSZaU _¦YT.rt d¦YUtD rs¦YVapos.endLine¦YW.str y¦YXList D¦YY.inl z¦YZ.str z¦Y0.pur p¦Y1Cls K C¦Y2s5.heap¦Y3e.same0¦Y4r.ps.length¦Y5KTr κ¦Y6s.gens¦Y7PySem.W.emptyDict¦Y8F.entry_str_split¦Z0i.typeIs¦Z1d.params¦Z2a.heap.objs.size¦Z3PyProof.Rows.slot_tuple_getitem.lookup¦Z4F.slot_dict_itemiterator_next.lookup¦Z5F.slot_str_join¦Z6MethE¦Z7hs.ho¦Z8hs.hd¦aAhs.hf¦aBh.len¦aE.int cn¦aFoS \"go\"¦aGList.nodup_nil¦aHl.prog¦aIp.name¦aJr.Fine¦aK(.rt d,O)¦aLPT X a tA¦aMPA X es t¦aN[So b,No]¦aOfs.length¦aPcpos.line¦aQe.readHid¦aRNoH K H¦aSX.outer¦aTs2.heap¦aUF.entry_dict_itemiterator_next¦aV.ret (.tup (.cons XC DV))¦aWKTr κ¦aX.own a¦aY.dK []¦aZ.dT []¦a7.int 0¦a8yC ks¦a9relk O¦bA.inr z¦bB.ret e¦bCZm _ b¦bDvsOf b¦bE.int r¦bFSo p.d¦bG.str o¦bHZm _ f¦bI.str h¦bJ.int 8¦bKF.slot_dict_itemiterator_iter¦bLF.entry_dict_keyiterator_next¦bMCmpOp¦bNInj g¦bOd.dep¦bPupd H x o¦bQ.or pa pb¦bRf.trans g¦bSC.glo _ u¦bTtT f U pc¦bUtI f U pe¦bVJqC B z U¦bWupd g T l¦bXgoT ks ns¦bYoS \"line\"¦bZoS \"site\"¦b0F.entry_tuple_iterator_next¦b5SqL K H a xs¦b6SqT K H a xs¦b7[p.d,.str w]¦b8l.row.toRowW¦b9Operator¦cAOption V¦cBNameKind¦cC[.str w]¦cDI.ok.mod¦cEz.length¦cGo.isSome¦cIh.length¦cJfun z=>Bool.noConfusion z¦cK.int i t¦cLjN kd k¦cOItr lo n¦cQtruthy v¦cReval e O¦cS.inr rfl¦cTList Int¦cUtT X U p¦cVj b o hb¦cWhid BZ W¦cXJnI C.un¦cYI.mono F¦cZhid BZ f¦c0hid BZ g¦c5Ow M O g¦c6Jhr S hr¦c7mkT hs u¦c8mkS [61]¦c9h.vp p b¦dAnm_9 h b¦dCexD U hB¦dDdcT To f¦dE.str s.w¦dFprB A ad¦dGhit here¦dHoS \"one\"¦dIF.slot_tuple_hash.lookup¦dJslot_list_getitem.lookup¦dMAutoSeq1.sub_tuple_tuple¦dNOption Expr¦dOOut X H Q d¦dP⟨H,I,q⟩¦dQI.ok.frames¦dSf.objs.size¦dUE.objs.size¦dWmade.length¦dXAutoSeq1.sub_tuple_list¦dYAutoSeq1.sub_list_tuple¦dZF.entry_set_update_loop¦eAPySem.F.slot_dict_items¦eBPySem.F.type_dict_items¦eCAutoSeq1.sub_list_list¦eDF.slot_dict_items_iter¦eEPySem.F.slot_dict_pop¦eFPySem.F.type_dict_get¦eGF.entry_proto_collect¦eIF.slot_str_startswith¦eJF.slot_str_partition¦QaaI.ok.noex b o e¦Qabh Y s Z H Q I g¦Qac.Tuple es k pos¦QadC Y z Z q _ J B¦QaetI X U (.con d)¦Qafmem_of_lookup q¦Qag.If c sa sb pos¦QahgS X M H0 [i] 0¦Qai.bi .isin pa pb¦Qaj.comp 0 src c e¦Qak.int 2147483399¦Qal.int 2147483629¦QamO.set i (So st)¦Qan.str (mkS 'Ϥ')¦Qao.str (mkS 'ϥ')¦Qap.str (mkS [32])¦QaqoS \"Site.mount\"¦QarmkS a¦Qasval i¦Qat.bl q¦Qauf rfl¦QavtD Dy¦QawmkS p¦QaxTS prog w lb h a ks¦Qay⟨_,_,rfl,rfl,h⟩¦QazF.entry_list_append¦QaAF.slot_str_endswith¦QaBtrk h H¦QaCItl K a¦QaDItt K a¦QaE.bool g¦QaF.int Ae¦QaGrC1 X o¦QaHexD U g¦QaJ.dIn Fo¦QaK.tup ts¦QaL.tup ys¦QaMb.map f¦QaN.str Kh¦QaO.str Kd¦QaP.str K4¦QaQ.con Fd¦QaR.con Xn¦QaS.ret CZ¦QaT.int 31¦QaU.lst Hy¦QaV.str Ts¦QaWPIE X Y Z tg R¦QaXbinaryOp .Mult¦QaYcompareOp .LtE¦QaZcompareOp .GtE¦Qa0Ne.symm (Zu b)¦Qa1y.cps.getD 0 0¦Qa2e.same.trans s¦Qa3args_sorted1 _¦Qa4.Name \"len\" p1¦Qa5e2.mono (sm _)¦Qa6O.set i (So g)¦Qa7.lst (Jw 0 xs)¦Qa8w_tx w (F w m)¦Qa9mkS (txt r.ps)¦QbaJg _ _ rfl rfl¦QbboS \"_law_name\"¦QbcoS \"_law_rows\"¦QbdoS \"read_site\"¦Qbefun _=>rfl¦QbfVals xs us¦QbgOpR X Lc r¦QbhVals vs us¦QbiSameP H H1¦Qbjits.toList¦QbkB.unpinned¦Qblws.toArray¦QbmX.env.qual¦Qbnx.cps.size¦Qboap.endLine¦QbpPT X c (tT X U pc)¦QbqPA X es (tA X U p)¦Qbr⟨kvs,.inl g,f⟩¦Qbs⟨kvs,.inr g,f⟩¦Qbt⟨rfl,rfl,vB _⟩¦QbuF.slot_list_append¦QbvI.hok.fresh g¦QbwbinaryOp .Sub¦QbxbinaryOp .Mod¦QbycompareOp .Gt¦QbzcompareOp .In¦QbAOut.now f rfl¦QbBi.getD j .non¦QbCp1 _ _ _ _ RT¦QbDstrIterType x¦QbE.bi .ne pa pb¦QbF.bi .lt pa pb¦QbG.bi .gt pa pb¦QbH.bi .ge pa pb¦QbIdictSet d N L¦QbJif_neg (mW g)¦QbKspI K mg CC i¦QbLspI K mg RC i¦QbMtS X U M H0 q¦QbN.List [] dpos¦QbOIti X.K t d o¦QbP.bi .eq DT XC¦QbQ.un .range BK¦QbR.con (.str s)¦QbSob a GV dn un¦QbT.str (mkS Xk)¦QbUmkS (stL A n)¦QbVZq (JiF t) AB¦QbWJE _ _ rfl pK¦QbXoS \"table_of\"¦QbYoS \"_law_way\"¦QbZoS \"Site.put\"¦Qb0oS \"__init__\"¦Qb1⟨H,I.tok _,q⟩¦Qb2⟨[.ref z],[]⟩¦Qb3⟨CP,N.push _⟩¦Qb4⟨_,Je,p1,rfl⟩¦Qb5[So BS,So (tD t)]¦Qb6F.slot_tuple_hash¦Qb7List.Pairwise.nil¦Qb8I.ok.frf b g¦Qb9.List es pos¦Qca.ins C dx []¦QcbJeo xs lo hi¦QccObj.mapSeq f¦QcdputK kvs k y¦Qceeval iter Ue¦QcfValue.ref Aa¦Qcg.type (wK d)¦Qch.raise cx pm¦Qci.obj a ns RB¦Qcj.raise cn pm¦Qck.set Fo 2 Ei¦Qcl.set Fo 2 CZ¦Qcm.set Fo 6 R5¦Qcn.un .enum BK¦Qco.un .notN HI¦QcpJl _ _ rfl f¦Qcqob a A dn []¦Qcrob a A J7 []¦Qcs.str (mkS x)¦Qct.str (mkS y)¦QcuSo (aD here)¦QcvoS \"Site.go\"¦QcwrunD defs 12¦QcxList DG¦QcyOws L H¦QczOwC L H¦QcAi ∈ M¦QcB[So A7]¦QcCI.freeC¦QcDv.toNat¦QcEO.cells¦QcFs4.heap¦QcGt.place¦QcH(.nx,O.set i Bd)¦QcI⟨[],rfl,rfl⟩¦QcJ⟨iF jV _,?_⟩¦QcK[So b,So f,So g]¦QcM[So Bu,No,No,No]¦QcN[.tup Eh,.str w]¦QcOX.env.scope.kind¦QcPpl.isList.typeIs¦QcQAutoSeq1.idx_int¦QcRF.entry_zip_next¦QcSF.slot_dict_iter¦QcTF.entry_str_join¦QcU.inl i¦QcV.inr x¦QcWtVar i¦QcX.inl h¦QcY.inl e¦QcZrV _ _¦Qc0.inr h¦Qc1newS w¦Qc2Zd _ q¦Qc3tVar 0¦Qc4Zm _ j¦Qc5.rt CW¦Qc6.int 6¦Qc7eO _ _¦Qc8Zm _ g¦Qc9labO o¦QdaoS \":\"¦QdboS \"#\"¦QdcoS \"*\"¦Qddfun _=>No¦Qde(0,.none)¦QdfMut (H x)¦QdgPS X st t¦QdhPE X o ta¦QdiRoom AZ A¦QdjArguments¦QdkPE X e ty¦QdlE BL No W¦QdmPT X a Kr¦QdnPE X e IZ¦QdoPE X a MZ¦QdpSameN H W¦QdqofM m f o¦Qdr[V.ref l]¦Qds[.lst G4]¦Qdt[.str SN]¦Qdu[.str HD]¦Qdv[.word w]¦Qdwus.length¦Qdxbs.length¦Qdyrv.length¦Qdzpos'.line¦QdAh.tM.fine¦QdBI.cne x c e¦QdC.Expr e pos¦QdDbinaryOp op¦QdEJse I q rfl¦QdFgetItem o i¦QdGo.getD .non¦QdH.un .not pa¦QdIReps.one ry¦QdJNe.symm d10¦QdK.ins C b fs¦QdLa3.trans hl¦QdMjF g (Zb h)¦QdNupd H1 l SJ¦QdOJrB Af ha B¦QdPr _ _ _ W f¦QdQdefs.drop i¦QdRs _ _ h rfl¦QdS.ins C L Ra¦QdT.seq a rest¦QdU.cons HI Ef¦QdV.app Fo 3 e¦QdWr.ps.map Ya¦QdXeV _ (JI _)¦QdYoS \"things\"¦QdZoS \"pieces\"¦Qd0List (Option V)¦Qd1PySem.W.OpenLaw¦Qd2IsIt t h it a i¦Qd3OwnIs K r H l d¦Qd4ChB m L H L1 H1¦Qd5⟨its,r,p,z⟩¦Qd6⟨b,e _ g,f⟩¦Qd7⟨B,g,d,j,y⟩¦Qd8⟨_,hit,rfl⟩¦Qd9⟨_,rfl,rfl⟩¦Qea⟨_,_,A,z,q⟩¦Qeb[So b,No,No,No]¦Qec[.str r.l,r.pd]¦Qed[.str k,.str n]¦QeeF.slot_tuple_eq¦QegF.slot_set_iter¦Qeh⟨fun h0=>?_,?_⟩".splitOn "¦"
def sgS(c:Char):String:=match sgT.find? fun s=>s.front==c with
|some s=>String.ofList (s.toList.drop 1)
|none=>""
set_option hygiene false in
local macro_rules
|`($c:char)=>match c.getChar with
|'b'=>`((by decide +kernel))
|'g'=>`((by lia))
|'j'=>`((by simp))
|'y'=>`((by decide))
|'&'=>`((x == ("__debug__" : Str)) = Fo)
|'?'=>`((by simp [usesP,q]))
|'À'=>`((by simp [Part.kind]))
|'Â'=>`((by simp; lia))
|'Ô'=>`((by rw [C.hN]; exact C.nd))
|'â'=>`((by k_is))
|'Я'=>`((.str (oS "\n")))
|c=>match sgS c with
 |""=>Lean.Macro.throwUnsupported
 |s=>pure (sgP 999 #[] s.toList).1
set_option hygiene false in
local macro_rules
|`($x:ident)=>match x.getId with
 |.str .anonymous k=>if k.utf8ByteSize==2||(k.utf8ByteSize==3&&k.front=='Q') then match sgU.find? fun s=>s.startsWith k with
  |some s=>pure (sgP 999 #[] (s.toList.drop k.length)).1
  |none=>Lean.Macro.throwUnsupported
  else Lean.Macro.throwUnsupported
 |_=>Lean.Macro.throwUnsupported
theorem azn{G:Prop}:((G->False)->False)->G:=Classical.byContradiction
section
open Lean
def azr(p:Syntax):Bool:=(p.find? fun s=>s.isIdent&&s.getId==`rfl).isSome&&((p.reprint.getD "").splitOn ",").length<5
local macro_rules
|`(tactic|obtain $p:rcasesPatMed:=$e:term)=>if azr p then Macro.throwUnsupported else`(tactic|(refine azn fun N=>?_;obtain $p:rcasesPatMed:_:=$e:term<;>(refine N ?_;clear N)))
local macro_rules
|`(tactic|show $t:term)=>`(tactic|refine (?_:$t))
end
noncomputable section
def az(h:Nat:=by rfl)(i:Nat:=by decide)(j:Nat:=by decide+kernel)(k:Nat:=by first|exact .inl rfl|exact .inr rfl|assumption):=h
section
open PySem PySem.Spec PyProof.Rows
abbrev Za:=@wpAny_bind
abbrev Zb:=@wpAny_pure
abbrev Zc:=@Bool.and_eq_true
abbrev Zd:=@Heap.get?_push_of_some
abbrev Ze:=@Heap.get?_push_size
abbrev Zf:=@List.mem_cons
abbrev Zg:=@List.map_cons
abbrev Zh:=@Nat.le_refl
abbrev Zi:=@List.length_map
abbrev Zj:=@Heap.lt_size
abbrev Zk:=@List.length_cons
abbrev Zl:=@Bool.false_eq_true
abbrev Zm:=@List.mem_cons_of_mem
abbrev Zn:=@List.length_append
abbrev Zo:=@List.size_toArray
abbrev Zp:=@List.lookup_cons
abbrev Zq:=@Nat.le_trans
abbrev Zr:=@List.getElem?_set_ne
abbrev Zs:=@decide_eq_false
abbrev Zt:=@List.map_map
abbrev Zu:=@Nat.ne_of_lt
abbrev Zv:=@List.mem_map
abbrev Zw:=@decide_eq_true_eq
abbrev Zx:=@decide_eq_true
abbrev Zy:=@List.not_mem_nil
abbrev Zz:=@List.getElem?_eq_some_iff
abbrev ZA:=@beq_eq_false_iff_ne
abbrev ZB:=@Nat.lt_of_lt_of_le
abbrev ZC:=@List.getElem?_eq_getElem
abbrev ZD:=@wpAny_call_entry
abbrev ZE:=@beq_self_eq_true
abbrev ZF:=@if_false
abbrev ZG:=@sizeLine_eq
abbrev ZH:=@Bool.false_ne_true
abbrev ZI:=@beq_iff_eq
abbrev ZJ:=@wpAny_newObj_type
abbrev ZK:=@List.mem_append
abbrev ZL:=@Heap.size_push
abbrev ZM:=@wpAny_callSpecial?_slot
abbrev ZN:=@Bool.or_eq_false_iff
abbrev ZO:=@Heap.get?_update_other
abbrev ZP:=@List.mem_append_right
abbrev ZQ:=@Array.length_toList
abbrev ZR:=@List.getElem?_set_self
abbrev ZS:=@wpAny_field
abbrev ZT:=@True.intro
abbrev ZU:=@Option.some.injEq
abbrev ZV:=@Bool.not_eq_true'
abbrev ZW:=@List.map_append
abbrev ZX:=@Heap.get?_update_self
abbrev ZY:=@wpAny_mono
abbrev ZZ:=@of_decide_eq_true
abbrev fC:=@List.mem_cons_self
abbrev yB:=@List.mem_singleton
abbrev oE:=@decide_eq_false_iff_not
abbrev xB:=@List.getElem?_map
abbrev wB:=@Nat.lt_succ_of_lt
abbrev qA:=@PySem.W.mg_of
abbrev fA:=@or_false
abbrev qC:=@wpAny_setField_rec
abbrev vB:=@Nat.zero_le
abbrev nD:=@List.mem_map_of_mem
abbrev oQ:=@Nat.lt_irrefl
abbrev pG:=@List.getElem?_append_right
abbrev uB:=@List.all_eq_true
abbrev rB:=@List.cons_append
abbrev lF:=@List.getElem?_cons_succ
abbrev kF:=@List.getElem?_cons_zero
abbrev pC:=@Function.comp_def
abbrev oG:=@List.getElem?_append_left
abbrev nG:=@Array.getElem?_eq_getElem
abbrev mD:=@List.mem_filterMap
abbrev wA:=@wpAny_holding
abbrev qB:=@List.cons.injEq
abbrev oB:=@List.nodup_cons
abbrev nB:=@Bool.or_eq_true
abbrev mB:=@List.length_set
abbrev jD:=@wpAny_truthy_bool
abbrev gC:=@Bool.false_and
abbrev iB:=@List.sum_cons
abbrev uF:=@Around.under_plainId
abbrev kA:=@congrArg
abbrev sF:=@Heap.SameBut.update
abbrev uC:=@wpAny_seqItems
abbrev sG:=@List.length_singleton
abbrev sC:=@wpAny_setField
abbrev sD:=@Option.some.inj
abbrev rD:=@List.length_nil
abbrev rF:=@List.zip_cons_cons
abbrev kI:=@Calls.callWith_builtin
abbrev qF:=@Int.toNat_natCast
abbrev rG:=@List.map_congr_left
abbrev pE:=@List.append_nil
abbrev pF:=@codeAny_builtin
abbrev jI:=@Array.getElem?_toList
abbrev oF:=@decide_eq_decide
abbrev nF:=@wpAny_isInstance
abbrev rC:=@Nat.ne_of_gt
abbrev ZaU:=@Nat.lt_succ_self
abbrev mF:=@List.filter_cons
abbrev qG:=@List.pairwise_cons
abbrev qD:=@Bool.not_true
abbrev pD:=@List.any_cons
abbrev fB:=@call_meets
abbrev iG:=@List.flatMap_cons
abbrev zH:=@wpAny_loadPart'
abbrev yH:=@List.filterMap_cons
abbrev mC:=@Nat.le_succ
abbrev kB:=@wpAny_rule
abbrev lM:=@List.getD_eq_getElem?_getD
abbrev nE:=@wpAny_attempt
abbrev iF:=@plainId_quiet
abbrev tJ:=@List.length_replicate
abbrev sJ:=@PySem.F.slot_dict_get
abbrev xH:=@Nat.lt_of_le_of_lt
abbrev gQ:=@PyProof.Rows.slot_tuple_getitem
abbrev rJ:=@List.mem_append_left
abbrev qJ:=@List.contains_eq_mem
abbrev gG:=@List.foldl_cons
abbrev fQ:=@wpAny_typeNameOfWhole_itemiter
abbrev pJ:=@List.dropLast_concat
abbrev wH:=@List.length_range
abbrev vH:=@List.nodup_append
abbrev gF:=@Bool.false_or
abbrev fF:=@List.all_cons
abbrev eQ:=@F.slot_dict_itemiterator_next
abbrev zP:=@wpAny_typeNameOfWhole_keyiter
abbrev kM:=@PySem.F.plainAttrs_dict
abbrev jM:=@PySem.F.plainAttrs_list
abbrev uH:=@List.any_eq_true
abbrev mG:=@wpAny_fieldsOf
abbrev nQ:=@F.slot_dict_keyiterator_next
abbrev sM:=@typeIs_str
abbrev mQ:=@PyProof.Rows.callWith_type1
abbrev jF:=@wpAny_typeOf
abbrev yJ:=@Obj.data_mapFields
abbrev lQ:=@List.take_sublist_take_left
abbrev iI:=@List.find?_cons
abbrev rM:=@List.length_filter_le
abbrev gI:=@wpAny_ite_split
abbrev kQ:=@F.slot_tuple_iterator_next
abbrev lG:=@Bool.true_and
abbrev jQ:=@PySem.F.excBase_ValueError
abbrev xJ:=@wpAny_pyIter_list
abbrev wJ:=@wpAny_setState_of
abbrev vJ:=@wpAny_dictEntries
abbrev qM:=@List.mem_of_getElem?
abbrev pM:=@Calls.evalArgs_plain
abbrev iD:=@And.intro
abbrev kG:=@codeAny_mono
abbrev jG:=@List.map_nil
abbrev uJ:=@wpAny_askSetting
abbrev oM:=@PySem.W.hideAll_get
abbrev iQ:=@PySem.mem_of_lookup
abbrev nM:=@wpAny_setEntries_of
abbrev mW:=@ne_true_of_eq_false
abbrev rH:=@Paired.length
abbrev qH:=@Bool.or_false
abbrev oJ:=@wpAny_specialOf
abbrev zL:=@Calls.spliced_cons
abbrev nJ:=@wpAny_updateSeq
abbrev mJ:=@PySem.W.kia_one
abbrev lJ:=@wpAny_dictEpoch
abbrev kJ:=@List.nil_append
abbrev nP:=@PySem.F.entry_dict_get
abbrev yL:=@wpAny_Call_method
abbrev Zck:=@PassesOwn.leaving
abbrev wL:=@wpAny_pyIter_slot
abbrev vL:=@List.take_add_one
abbrev lP:=@List.getElem?_eq_none
abbrev kP:=@builtinLookup_eq_fast
abbrev zE:=@eq_of_beq
abbrev jP:=@List.getElem?_of_mem
abbrev tV:=@Array.getElem?_eq_some_iff
abbrev iP:=@F.plain_extend_loop
abbrev uL:=@List.mem_filter
abbrev tL:=@wpAny_passesOwn
abbrev gP:=@wpAny_Call_Name_kw
abbrev sV:=@Option.isSome_iff_exists
abbrev rV:=@PySem.F.args_tuple_add_2
abbrev fP:=@Option.isSome_some
abbrev eP:=@wpAny_pyIter_tuple
abbrev lW:=@PySem.F.slot_list_append
abbrev kW:=@PySem.F.type_list_append
abbrev yP:=@List.contains_cons
abbrev iM:=@Bool.and_false
abbrev gM:=@isSubtype_stop
abbrev jW:=@List.getElem?_replicate
abbrev iW:=@PySem.F.entry_tuple_add
abbrev gW:=@F.plain_set_update_loop
abbrev fW:=@List.length_eq_zero_iff
abbrev xP:=@Calls.spliced_nil
abbrev vP:=@Nat.le_of_succ_le
abbrev uP:=@List.foldl_append
abbrev eW:=@F.plain_list_iadd
abbrev zV:=@PySem.F.slot_tuple_add
abbrev yV:=@List.range_succ_eq_map
abbrev xV:=@wpAny_isOneOf_itemiter
abbrev tP:=@List.length_drop
abbrev sP:=@List.getElem_mem
abbrev rP:=@Bool.not_eq_true
abbrev qP:=@F.slot_str_split
abbrev pP:=@Classical.skolem
abbrev wV:=@Obj.isFreed_of_fields
abbrev uV:=@wpAny_notOrdered_dict
abbrev fM:=@call_meetsIn
abbrev eM:=@Nat.zero_add
abbrev oP:=@List.forIn_cons
abbrev zO:=@pushCells_keeps
abbrev qV:=@Bool.and_eq_true_iff
abbrev sL:=@List.all_map
abbrev rL:=@List.any_map
abbrev pV:=@wpAny_updateSeq_pair
abbrev yO:=@F.slot_zip_next
abbrev xO:=@typeLookup_type
abbrev oV:=@List.range_eq_range'
abbrev wO:=@List.forIn_nil
abbrev vO:=@List.Perm.refl
abbrev uO:=@isSubtype_type
end
set_option genSizeOf false
namespace _r
namespace L2
open PySem PySem.Spec PyProof.Rows
variable{s:Al}{pos p:Pos}{A:Bv}{Y:A8}{x:Str}{a b C f dx:Addr}{w:AQ}{h h' base:Heap}{E:Ay}{K:Aj}{P prog:Ba}{u:An}{k t' i:Nat}{e tg c:Expr}{op:bM}{us:AE}{es:CF}{ps:Ac}{M:Model}{mg mA:Bk}{fd:BG}{ch fp:A9}{kw:Kf}
inductive Key where
 |inl (i:Int)|inr (x:Str)|non
noncomputable instance:DecidableEq Key:=λ_ _=>Classical.propDecidable _
noncomputable def iK:Key->Value->Bool
 |.inl k,v=>Value.isInt k v
 |.inr x,v=>Value.isStrOf x v
 |.non,.none=>To
 |.non,_=>Fo
noncomputable def keyH (w:AQ):Key->Int
 |.inl k=>hashInt k
 |.inr x=>hashStr w x
 |.non=>reduceHash 0xFCA86420
def Js:∀{k:Key}{v:An},iK k v=To->(∃i t,k=.inl i/\v=Value.int i t)\/(∃x t,k=.inr x/\v=Value.str x t)\/(k=.non/\v=.none)
 |.inl i,v,h=>by
  obtain⟨t,e⟩:=Value.isInt_shape (k:=i) (v:=v) h
  exact .inl ⟨i,t,rfl,e⟩
 |.inr x,v,h=>by
  obtain⟨t,e⟩:=Value.isStrOf_shape (x:=x) (v:=v) h
  exact .inr (.inl ⟨x,t,rfl,e⟩)
 |.non,v,h=>by cases v<;>first|exact .inr (.inr Cw)|cases h
def Jow(i:Int)(t:Tok):iK QcU cK=To:=by simp[iK,Value.isInt]
def Jos(x:Str)(t:Tok):iK QcV (.str x t)=To:=by simp[iK,Value.isStrOf]
def Jrz(a b:Int):decide (Key.inl a=.inl b)=(a==b):=by
 by_cases e:a=b
 ·subst e;simp
 ·rw[Zs λq=>e (by injection q)];exact(ZA.mpr e).symm
def Jru(a b:Str):decide (Key.inr a=.inr b)=decide (a=b):=oF.mpr ⟨λq=>by injection q,λq=>by rw[q]⟩
def JqR{Q:Int->Shared->Prop}(h:Q (reduceHash 0xFCA86420) {s with toks:=Xv+1}):wpAny Au A (pyHash .none) Q E s:=
 PySem.W.pyHash_slot (T:="NoneType") rfl F.slot_NoneType_hash F.entry_NoneType_hash (F.args_NoneType_hash_1 _) (beq_builtin_none _) Be (Za (Zb (Za (wpAny_mkInt (Zb ⟨_,_,rfl,h⟩)))))
def JA (prog:Ba) (w:AQ):PySem.KeyKind prog w Key where
 is:=iK
 hash:=keyH w
 inj:=λv a b o l=>by
  rcases Js o with⟨i,t,rfl,rfl⟩|⟨x,t,rfl,rfl⟩|⟨rfl,rfl⟩<;>rcases Js l with⟨j,u,rfl,e⟩|⟨y,u,rfl,e⟩|⟨rfl,e⟩<;>first|rfl|(cases e;done)|(cases e;rfl)
 byValue:=λk v h=>by
  rcases Js h with⟨i,t,rfl,rfl⟩|⟨x,t,rfl,rfl⟩|⟨rfl,rfl⟩<;>rfl
 pyHash:=λg h=>by
  rcases Js g with⟨i,t,rfl,rfl⟩|⟨x,t,rfl,rfl⟩|⟨rfl,rfl⟩
  ·exact wpAny_pyHash_int h
  ·exact wpAny_pyHash_str h
  ·exact JqR h
 eqBool:=λm g h=>by
  rcases Js m with⟨i,t,rfl,rfl⟩|⟨x,t,rfl,rfl⟩|⟨rfl,rfl⟩
  ·rcases Js g with⟨j,u,rfl,rfl⟩|⟨y,u,rfl,rfl⟩|⟨rfl,rfl⟩
   ·rw[Jrz]at h;exact wpAny_eqBool_int h
   ·exact SeqAt.EqAt.int_str i t y u _ _ _ _ (by rw[Zs (λq=>nomatch q)]at h;exact h)
   ·exact SeqAt.EqAt.int_none i t _ _ _ _ (by rw[Zs (λq=>nomatch q)]at h;exact h)
  ·rcases Js g with⟨j,u,rfl,rfl⟩|⟨y,u,rfl,rfl⟩|⟨rfl,rfl⟩
   ·exact SeqAt.EqAt.str_int x t j u _ _ _ _ (by rw[Zs (λq=>nomatch q)]at h;exact h)
   ·rw[Jru]at h;exact wpAny_eqBool_str h
   ·exact SeqAt.EqAt.str_none x t _ _ _ _ (by rw[Zs (λq=>nomatch q)]at h;exact h)
  ·rcases Js g with⟨j,u,rfl,rfl⟩|⟨y,u,rfl,rfl⟩|⟨rfl,rfl⟩
   ·exact SeqAt.EqAt.none_int j u _ _ _ _ (by rw[Zs (λq=>nomatch q)]at h;exact h)
   ·exact SeqAt.EqAt.none_str y u _ _ _ _ (by rw[Zs (λq=>nomatch q)]at h;exact h)
   ·exact SeqAt.EqAt.same _ _ _ _ _ (by rw[Zx rfl]at h;exact h)
 «strs»:=λk x t v h=>by
  rcases Js h with⟨i,u,rfl,e⟩|⟨y,u,rfl,e⟩|⟨rfl,e⟩
  ·exact nomatch e
  ·injection e with r _
   subst r
   cases v<;>rfl
  ·exact nomatch e
def JiS(prog:Ba)(w:AQ)(i:Int)(t:Tok):'ϝ'.is QcU cK=To:=Jow i t
def Jet(prog:Ba)(w:AQ)(x:Str)(t:Tok):'ϝ'.is QcV (.str x t)=To:=Jos x t
inductive KTr(κ:Type)where
 |a (k:κ)|t (ks:List (KTr κ))
noncomputable instance {κ:Type}:DecidableEq aW:=λ_ _=>Classical.propDecidable _
section
variable{P:Ba}{w:AQ}{κ:Type}[DecidableEq κ](kd:Ip)
mutual
def kDep:KTr κ->Nat
 |.a _=>0
 |.t ks=>rE ks+1
def rE:List (KTr κ)->Nat
 |[]=>0
 |k::ks=>max (kDep k) (rE ks)
end
mutual
def jN:KTr κ->Int
 |.a k=>kd.hash k
 |.t ks=>reduceHash (Builtin.Tuple.tupleHashOf (iE ks))
def iE:List (KTr κ)->List Int
 |[]=>[]
 |k::ks=>jN k::iE ks
end
mutual
def kDrw:KTr κ->Nat
 |.a _=>1
 |.t ks=>xF ks+1
def xF:List (KTr κ)->Nat
 |[]=>0
 |k::ks=>kDrw k+xF ks
end
mutual
def KAt(h:Heap):KTr κ->Value->Prop
 |.a k,v=>kd.is k v=To
 |.t ks,v=>∃a o g n,v=.ref a/\h.get? a=So o/\o.cls=.type "tuple"/\o.data=.seq g n/\KAts h ks Ym
def KAts(h:Heap):List (KTr κ)->List Value->Prop
 |[],vs=>vs=[]
 |k::ks,vs=>∃v r,vs=v::r/\KAt h k v/\KAts h ks r
end
variable{kd}
def KAt.ref{ks:FX}(x:KAt kd h Fp Ar):∃o g n,h.get? a=So o/\o.cls=.type "tuple"/\o.data=.seq g n/\KAts kd h ks Ym:=by obtain⟨b,o,g,n,e,x⟩:=x;cases e;exact⟨o,g,n,x⟩
mutual
theorem KAt.inj{h:Heap}:∀(x:Y5){y:Y5}{v:An},KAt kd h x v->KAt kd h y v->x=y
 |.a k,.a j,v,hx,hy=>by rw[kd.inj _ _ _ hx hy]
 |.a k,.t js,v,hx,hy=>by
  obtain⟨a,o,g,n,rfl,_⟩:=hy
  have:=kd.byValue _ _ hx
  simp[carriedByValue]at this
 |.t ks,.a j,v,hx,hy=>by
  obtain⟨a,o,g,n,rfl,_⟩:=hx
  have:=kd.byValue _ _ hy
  simp[carriedByValue]at this
 |.t ks,.t js,v,hx,hy=>by
  obtain⟨a,o,g,n,rfl,F,J,r,B⟩:=hx
  obtain⟨H,q,G,l,I,m,z⟩:=hy.ref
  rw[F]at l;cases l
  rw[r]at m
  cases m
  rw[KAts.inj ks B z]
theorem KAts.inj{h:Heap}:∀(x:FX){y:FX}{vs:AE},KAts kd h x vs->KAts kd h y vs->x=y
 |[],[],_,_,_=>rfl
 |[],k::ks,_,hx,⟨_,_,e,_⟩=>by cases hx;cases e
 |k::ks,[],_,⟨_,_,e,_⟩,hy=>by cases hy;cases e
 |k::ks,j::js,vs,⟨v,r,e,h1,h2⟩,⟨u,q,e',g1,g2⟩=>by
  subst e
  injection e' with g l
  subst g;subst l
  rw[KAt.inj k h1 g1,KAts.inj ks h2 g2]
end
mutual
theorem KAt.keep{h h':Heap}(j:∀a o g n,h.get? a=So o->YC=.seq g n->h'.get? a=So o):∀(x:Y5){v:An},KAt kd h x v->KAt kd h' x v
 |.a k,_,x=>x
 |.t ks,_,⟨a,o,g,n,e,h1,h2,h3,h4⟩=>⟨a,o,g,n,e,j _ _ _ _ h1 h3,h2,h3,KAts.keep j ks h4⟩
theorem KAts.keep{h h':Heap}(j:∀a o g n,h.get? a=So o->YC=.seq g n->h'.get? a=So o):∀(x:FX){vs:AE},KAts kd h x vs->KAts kd h' x vs
 |[],_,x=>x
 |k::ks,_,⟨v,r,e,h1,h2⟩=>⟨v,r,e,KAt.keep j k h1,KAts.keep j ks h2⟩
end
def JhZ{d:Addr}{o:Obj}{es:GL}{v:Nat}(m:h.get? d=So o)(r:o.data=.dict es v)(hs:Heap.SameBut d h h'):∀a o g n,h.get? a=So o->YC=.seq g n->h'.get? a=So o:=λa q g n j l=>by
 have:a≠d:=λz=>by subst z;rw[m]at j;cases j;rw[r]at l;cases l
 exact(hs.2 a this).trans j
section
variable{A:Bv}{E:Ay}
def Jti{ks:FX}{Q:Int->Shared->Prop}(Z:A.units<cLine)(x:KAt kd VU Fp Ar)(h:Q (jN kd Fp) {s with toks:=Xv+kDrw (.t ks)})
  (B:∀k∈ks,∀v m O,KAt kd m.heap k v->O cL {m with toks:=m.toks+kDrw k}->wpAny Bp XI (pyHash v) O E m):wpAny Bp A (pyHash Ar) Q E s:=by
 obtain⟨o,its,n,N,hc,W,hi⟩:=x.ref;have H:s.TypeIs Ar "tuple":=⟨o,N,hc⟩;(unfold pyHash);(first|unfold pyHashByItsType|skip);(first|refine Za (wpAny_cRoomFor_or (.inr Z) ?_)|skip);(refine Za (oJ H dI ?_));(show wpAny _ _ (if(So (Value.builtin "tuple.__hash__")==So Xx)=To then _ else _) Q E s);(rw[if_neg (by rw[beq_builtin_none];exact ZH)]);(refine Za (oJ H dI ?_));(show wpAny _ _ (callSpecialIfBoundUnlessNone? Ar "__hash__" _>>=_) Q E s);(refine Za (wpAny_callSpecialIfBoundUnlessNone?_slot H Qb6 (ZD Qb6 H F.entry_tuple_hash ?_ (F.args_tuple_hash_1 _))));(show wpAny _ _ (Builtin.Tuple.tupleItemsOf Ar>>=_) _ _ s);(refine Za (wpAny_tupleItemsOf N W (Za ?_)));rw[<-Array.forIn_toList];refine wpAny_forIn_list _ (λrest(b:Array Int)m=>∃done left,ks=done++left/\KAts kd VU left rest/\b.toList=iE kd done/\m={s with toks:=Xv+xF done}) _ ?_ ?_ _ _ ⟨[],ks,rfl,hi,rfl,rfl⟩
 ·rintro y rest b m⟨done,left,e,I,J,rfl⟩;cases left with
  |nil=>cases I
  |cons k left=>
   obtain⟨v,r,L,h1,h2⟩:=I;cases L;have U:∀l:List aW,iE kd (l++[k])=iE kd l++[jN kd k]:=λl=>by induction l with
    |nil=>rfl
    |cons z l B=>simp[iE,B]
   have X:∀l:List aW,xF (l++[k])=xF l+kDrw k:=λl=>by induction l with
    |nil=>simp[xF]
    |cons z l B=>simp[xF,B,Nat.add_assoc]
   refine Za (B k (by rw[e];simp) _ _ _ h1 ?_);have q:∃g j,ks=g++j/\KAts kd VU j rest/\(b.push cL).toList=iE kd g/\({s with toks:=Xv+xF done+kDrw k}:Shared)={s with toks:=Xv+xF g}:=⟨done++[k],left,by simp[e],h2,by simp[J,U],by rw[X,Nat.add_assoc]⟩;first
    |exact Zb q
    |exact Za (Zb (Zb q))
 ·rintro b m⟨done,left,e,I,J,rfl⟩;cases left with
  |cons k left=>obtain⟨_,_,L,_⟩:=I;cases L
  |nil=>
   rw[pE]at e;subst e;show wpAny _ _ (retInt (Builtin.Tuple.tupleHashOf b.toList)) _ _ _;(rw[J]);(refine wpAny_ret_mkInt ?_);show wpAny _ _ (if(decide (-(2:Int)^63<=Builtin.Tuple.tupleHashOf (iE kd ks))&&decide (Builtin.Tuple.tupleHashOf (iE kd ks)<2^63))=To then _ else _) Q E _;simp only[jN,kDrw]at h;unfold reduceHash at h;by_cases G:(decide (-(2:Int)^63<=Builtin.Tuple.tupleHashOf (iE kd ks))&&decide (Builtin.Tuple.tupleHashOf (iE kd ks)<2^63))=To
   ·(rw[if_pos G]);(rw[if_pos G]at h);(exact Zb (by simpa[Nat.add_assoc]using h))
   ·(rw[if_neg G]);(rw[if_neg G]at h);(exact Za (kB (Zb (by simpa[Nat.add_assoc]using h))))
theorem Jog{ks:FX}{k:Y5}(h:k∈ks):kDep k<=rE ks:=by
 induction ks with
 |nil=>cases h
 |cons z ks g=>
  simp only[rE];rcases Zf.mp h with rfl|h
  ·lia
  ·have:=g h;lia
theorem Jrn:∀(n:Nat)(k:Y5)(A:Bv)(v:An)(s:Al)(Q:Int->Shared->Prop),kDep k<=n->Yy+4*n<cLine->KAt kd VU k v->Q cL {s with toks:=Xv+kDrw k}->wpAny Bp A (pyHash v) Q E s
 |n,.a k,A,v,s,Q,_,_,x,h=>kd.pyHash x h
 |0,.t ks,A,v,s,Q,hn,_,_,_=>by simp[kDep]at hn
 |n+1,.t ks,A,v,s,Q,hn,hu,x,h=>by
  obtain⟨a,_,_,_,rfl,_⟩:=id x
  simp only[kDep]at hn
  exact Jti Af x h λk g m j l o h'=>Jrn n k XI m j l (by have:=Jog g;lia) (by have:A.in1.units=Yy+1:=rfl;lia) o h'
def Jts{xs ys:FX}{Q:E5}(hu:A.units<cLine)(hx:KAt kd VU (.t xs) Ar)(hy:KAt kd VU (.t ys) CK)(h:Q (decide ((KTr.t xs:KTr κ)=.t ys)) s)
  (ih:∀k∈xs,∀j v u Q',KAt kd VU k v->KAt kd VU j u->Q' (decide (k=j)) s->wpAny Bp XI (eqBool v u) Q' E s):wpAny Bp A (eqBool Ar CK) Q E s:=by
 have e0:decide ((KTr.t xs:KTr κ)=.t ys)=decide (xs=ys):=oF.mpr ⟨λz=>by injection z,λz=>by rw[z]⟩;rw[e0]at h;obtain⟨oa,as,na,W,hca,hda,hia⟩:=hx.ref;obtain⟨ob,bs,nb,N,hcb,hdb,hib⟩:=hy.ref;have L:s.TypeIs Ar "tuple":=⟨oa,W,hca⟩;have U:s.TypeIs CK "tuple":=⟨ob,N,hcb⟩;(unfold eqBool);(try with_reducible refine wA ?_);(show wpAny _ _ (if(Value.ref a==Value.ref b)=To then _ else _) Q E s);by_cases H:(Value.ref a==Value.ref b)=To
 ·rw[if_pos H];have e:a=b:=by have:=zE H;injection this
  subst e;have:=KAt.inj _ hx hy;injection this with e1;rw[Zx e1]at h;exact Za (kB (Zb (by simpa using h)))
 ·rw[if_neg H];refine Za (wpAny_richCompare_same_room (op:=.Eq) L U Qee (ZD Qee L F.entry_tuple_eq ?_ (F.args_tuple_eq_2 _ _)) hu);(show wpAny _ _ (isInstance CK (.type "tuple")>>=_) _ _ s);(refine Za (nF U isSubtype_tuple_tuple ?_));(simp only[qD,Zl,ZF]);(refine Za (wpAny_tupleItemsOf W hda (Za (wpAny_tupleItemsOf N hdb (Za ?_)))));refine wpAny_forIn_list _ (λrest r s'=>r.1=No/\s'=s/\∃G o q y,rest=List.zip q y/\(∀k∈G,k∈xs)/\KAts kd VU G q/\KAts kd VU o y/\decide (G=o)=decide (xs=ys)/\(q.length==Yn)=(as.size==bs.size)) _ ?_ ?_ _ _ ⟨rfl,rfl,xs,ys,as.toList,bs.toList,rfl,λ_ z=>z,hia,hib,rfl,by simp⟩
  ·rintro⟨u,v⟩rest r s'⟨hr,rfl,G,o,q,y,J,hm,B,g,l,m⟩;cases G with
   |nil=>cases B;simp at J
   |cons k1 G=>
    obtain⟨u',X,rfl,p1,p2⟩:=B;cases o with
    |nil=>cases g;simp at J
    |cons Z o=>
     obtain⟨v',I,rfl,q1,q2⟩:=g;simp only[rF,qB,Prod.mk.injEq]at J;obtain⟨⟨rfl,rfl⟩,rfl⟩:=J;refine Za (ih k1 (hm _ Ad) Z _ _ _ p1 q1 ?_);by_cases hk:k1=Z
     ·subst hk;rw[Zx rfl];simp only[qD,Zl,ZF];refine Zb ⟨rfl,rfl,G,o,X,I,rfl,λk z=>hm k (by simp[z]),p2,q2,?_,by simpa using m⟩;rw[<-l];exact oF.mpr ⟨λz=>by rw[z],λz=>by injection z⟩
     ·have hf:decide (xs=ys)=Fo:=by rw[<-l];exact Zs λz=>hk (by injection z)
      rw[hf]at h;(rw[Zs hk]);(simp only[Bool.not_false,if_true]);exact Za (Zb (Zb (Zb ⟨_,rfl,(λe=>nomatch e),jD h⟩)))
  ·rintro⟨r1,r2⟩s'⟨hr,rfl,G,o,q,y,J,hm,B,g,l,m⟩;simp only at hr;subst hr;refine Zb ?_;have O:(as.size==bs.size)=decide (xs=ys):=by
    rw[<-l,<-m];cases G with
    |nil=>
     cases B;cases o with
     |nil=>cases g;simp
     |cons Z o=>obtain⟨v',I,rfl,q1,q2⟩:=g;simp
    |cons k1 G=>
     obtain⟨u',X,rfl,p1,p2⟩:=B;cases o with
     |nil=>cases g;simp
     |cons Z o=>obtain⟨v',I,rfl,q1,q2⟩:=g;simp at J
   refine⟨.bool (as.size==bs.size),rfl,(λe=>nomatch e),jD ?_⟩;rw[O];exact h
def Apart(kd:Ip):Prop:=∀(A:Bv)(E:Ay)(s:Al)(k:κ)(v:An)(a:Addr)(o:Obj)(g:B7)(n:Nat)(Q:E5),Yy<cLine->kd.is k v=To->s.heap.get? a=So o->o.cls=.type "tuple"->YC=.seq g n->Q Fo s->wpAny Bp A (eqBool v Ar) Q E s/\wpAny Bp A (eqBool Ar v) Q E s
theorem JrF(q:Apart kd):∀(n:Nat)(k j:Y5)(A:Bv)(v u:An)(s:Al)(Q:E5),kDep k<=n->Yy+4*n+1<cLine->KAt kd VU k v->KAt kd VU j u->Q (decide (k=j)) s->wpAny Bp A (eqBool v u) Q E s
 |n,.a k,.a j,A,v,u,s,Q,_,_,x,y,h=>kd.eqBool x y (by rw[show decide ((KTr.a k:KTr κ)=.a j)=decide (k=j)from oF.mpr ⟨λz=>by injection z,λz=>by rw[z]⟩]at h;exact h)
 |n,.a k,.t js,A,v,u,s,Q,_,hu,x,y,h=>by
  obtain⟨a,o,g,m,rfl,B,r,l,_⟩:=y
  rw[Zs (λz=>nomatch z)]at h
  exact(q A E s k v a o g m Q Af x B r l h).1
 |n,.t ks,.a j,A,v,u,s,Q,_,hu,x,y,h=>by
  obtain⟨a,o,g,m,rfl,B,r,l,_⟩:=x
  rw[Zs (λz=>nomatch z)]at h
  exact(q A E s j u a o g m Q Af y B r l h).2
 |0,.t ks,.t js,A,v,u,s,Q,hn,_,_,_,_=>by simp[kDep]at hn
 |n+1,.t ks,.t js,A,v,u,s,Q,hn,hu,x,y,h=>by
  obtain⟨a,_,_,_,rfl,_⟩:=id x
  obtain⟨b,_,_,_,rfl,_⟩:=id y
  simp only[kDep]at hn
  exact Jts Af x y h λk F j L G H I J h'=>JrF q n k j XI L G s H (by have:=Jog F;lia) (by have:A.in1.units=Yy+1:=rfl;lia) I J h'
theorem JrP:∀(n:Nat)(k:Y5)(A:Bv)(v:An)(s:Al)(Q:E5),kDep k<=n->KAt kd VU k v->Q To s->wpAny Bp A (eqIsQuiet n v) Q E s
 |n,.a k,A,v,s,Q,_,x,h=>by rw[eqIsQuiet_byValue n (kd.byValue _ _ x)];exact Zb h
 |0,.t ks,A,v,s,Q,hn,_,_=>by simp[kDep]at hn
 |n+1,.t ks,A,v,s,Q,hn,x,h=>by
  obtain⟨a,o,g,m,rfl,z,I,B,H⟩:=x
  simp only[kDep]at hn
  have y:s.TypeIs Ar "tuple":=⟨o,z,I⟩
  (unfold eqIsQuiet);(refine Za (oJ y F.slot_tuple_eq.lookup ?_));(show wpAny _ _ (isInstance Ar (.type "tuple")>>=_) _ _ s)
  (refine Za (nF y isSubtype_tuple_tuple ?_));(simp only[qD,Zl,ZF]);(refine Za (uC z B (Za ?_)))
  (show wpAny _ _ (forIn g _ _) _ _ s);(rw[<-Array.forIn_toList])
  refine wpAny_forIn_list _ (λrest r l=>r.1=No/\l=s/\∃left,rE left<=n/\KAts kd VU left rest) _ ?_ ?_ _ _ ⟨rfl,rfl,ks,by lia,H⟩
  ·rintro v rest r l⟨j,rfl,left,G,q⟩
   cases left with
   |nil=>cases q
   |cons k left=>
    obtain⟨W,N,e,L,J⟩:=q
    cases e
    simp only[rE]at G
    refine Za (JrP n k _ _ _ _ Af L ?_)
    (simp only[qD,Zl,ZF]);(exact Zb ⟨rfl,rfl,left,by lia,J⟩)
  ·rintro⟨O,U⟩l⟨j,rfl,_⟩
   simp only at j
   subst j
   exact Zb h
end
noncomputable def JqA (kd:Ip) (r:Apart kd):HeapKind P w (List aW)where
 is:=λh ks a=>KAt kd h Fp Ar/\rE ks<=7
 hash:=λks=>jN kd Fp
 draws:=λks=>kDrw Fp
 room:=λA=>Yy+50<cLine
 inj:=λj l=>by
  have:=KAt.inj _ j.1 l.1
  injection this
 keeps:=λx o q m=>⟨KAt.keep (JhZ o q m) _ x.1,x.2⟩
 pyHash:=λv g h=>Jrn 8 _ _ _ _ _ (by simp only[kDep];have:=g.2;lia) Af g.1 h
 eqBool:=λv j l h=>JrF r 8 _ _ _ _ _ _ _ (by simp only[kDep];have:=j.2;lia) Af j.1 l.1 (by rw[show decide ((KTr.t _:KTr κ)=.t _)=decide (_=_)from oF.mpr ⟨λz=>by injection z,λz=>by rw[z]⟩];exact h)
 quiet:=λg h=>JrP 8 _ _ _ _ _ (by simp only[kDep];have:=g.2;lia) g.1 h
end
def Jqo(prog:Ba)(w:AQ):Apart 'ϝ':=λA E s k v a o l n Q g m y r q j=>by
 have p:s.heap.IsTuple a l:=⟨o,y,r,n,q⟩
 rcases Js m with⟨i,t,rfl,rfl⟩|⟨x,t,rfl,rfl⟩|⟨rfl,rfl⟩
 ·exact⟨SeqAt.EqAt.int_tuple i t p g _ _ _ _ j,SeqAt.EqAt.tuple_int i t p g _ _ _ _ j⟩
 ·exact⟨SeqAt.EqAt.str_tuple x t p g _ _ _ _ j,SeqAt.EqAt.tuple_str x t p g _ _ _ _ j⟩
 ·exact⟨SeqAt.EqAt.none_tuple p g _ _ _ _ j,SeqAt.EqAt.tuple_none p g _ _ _ _ j⟩
def JeE (prog:Ba) (w:AQ):HeapKind prog w (List DG):=JqA 'ϝ' (Jqo prog w)
inductive V where
 |non|bl (b:Bool)|int (i:Int)|str (x:Str)|byt (b:Array UInt8)|flt (b:UInt64)|ref (a:Addr)|ty (n:String)
noncomputable instance:DecidableEq V:=λ_ _=>Classical.propDecidable _
variable{v:V}{vs:Av}
noncomputable def RelV:V->Value->Prop
 |.non,u=>u=Xx
 |.bl b,u=>u=Value.bool b
 |.int i,u=>∃t,u=Value.int i t
 |.str x,u=>∃t,u=Value.str x t
 |.byt b,u=>∃t,u=Value.bytes b t
 |.flt b,u=>∃t,u=Value.float b t
 |.ref a,u=>u=Value.ref a
 |.ty n,u=>u=Value.type n
noncomputable abbrev Vals:List V->List Value->Prop:=Paired RelV
def Vals.length{xs:Av}{us:AE}(r:Qbf):Ah=us.length:=rH r
theorem Vals.get:∀{xs:Av}{us:AE}{i:Nat}{x:V},Vals xs us->xs[i]? =So x->∃u,us[i]? =So u/\RelV x u
 |_,_,_,_,.nil,e=>by simp at e
 |_,_,0,_,.cons r _,e=>by simp at e;subst e;exact HN
 |_,_,i+1,x,.cons _ t,e=>by
  obtain⟨u,g,j⟩:=Vals.get (i:=i) (x:=x) t (by simpa using e)
  exact⟨u,by simpa using g,j⟩
theorem Vals.append:∀{xs ys:Av}{us ws:AE},Vals xs us->Vals ys ws->Vals (xs++ys) (us++ws)
 |_,_,_,_,.nil,s=>s
 |_,_,_,_,.cons r t,s=>.cons r (Vals.append t s)
theorem Vals.take:∀{xs:Av}{us:AE}(n:Nat),Vals xs us->Vals (xs.take n) (us.take n)
 |_,_,0,_=>.nil
 |_,_,_+1,.nil=>.nil
 |_,_,n+1,.cons r t=>.cons r (Vals.take n t)
theorem Vals.drop:∀{xs:Av}{us:AE}(n:Nat),Vals xs us->Vals (xs.drop n) (us.drop n)
 |_,_,0,r=>r
 |_,_,_+1,.nil=>.nil
 |_,_,n+1,.cons _ t=>Vals.drop n t
def Vals.none_of:∀{xs:Av}{us:AE}{i:Nat},Vals xs us->xs[i]? =No->us[i]? =No:=fun{xs us i}r e=>by
 have j:=XF
 have g:Ah<=i:=List.getElem?_eq_none_iff.mp e
 exact List.getElem?_eq_none_iff.mpr Af
def RelO:Option V->Option Value->Prop
 |some v,So u=>RelV v u
 |none,No=>True
 |_,_=>False
def KV {κ:Type}:List (κ×V)->List (κ×Value)->Prop:=Paired fun(p:κ×V)(q:κ×Value)=>p.1=q.1/\RelV p.2 q.2
noncomputable def kV:Key->V
 |.inl i=>.int i
 |.inr x=>.str x
 |.non=>.non
inductive HO where
 | lst (xs:List V)
 | lsm (t:Str) (xs:List V)
 | tup (xs:List V)
 | dK (kvs:List (Key × V)) | dT (kvs:List (List (KTr Key) × V))
 | set (S:Int -> Bool) (n:Nat)
 | ins (C dx:Addr) (fs:List (Str × V))
 | own (x:Addr)
 | xd (fs:List (Str × V))
 | met (f x:Addr)
 | rng (lo hi:Int)
 | frz (o:Obj) (u:HO)
 | tbl (ps:Array Value)
 | ext (φ:Heap -> Prop)
variable{o:HO}
noncomputable abbrev Hp:=Addr->Option HO
variable{H W:Hp}
noncomputable def upd (H:Hp) (a:Addr) (o:HO):Hp:=λb=>if b=a then So o else H b
def Je:upd H a o a=So o:=by unfold upd;rw[if_pos rfl]
def Jb(h:b≠a):upd H a o b=H b:=by unfold upd;rw[if_neg h]
def upd_upd{u:HO}:upd ES a u=upd H a u:=by funext b;unfold upd;split<;>rfl
def RW{u:HO}(h:H a=So o)(h':H b=So u)(d:o≠u):a≠b:=by intro e;subst e;rw[h]at h';exact d (sD h')
def Jh(h:H a=So o)(h':H b=No):a≠b:=by intro e;subst e;rw[h]at h';cases h'
mutual
def KH(H:Hp):KTr Key->V->Prop
 |.a k,v=>v=kV k
 |.t ks,v=>∃a xs,v=.ref a/\H a=So Bb/\KHs H ks xs
def KHs(H:Hp):List DG->List V->Prop
 |[],xs=>xs=[]
 |k::ks,xs=>∃x r,xs=x::r/\KH H k x/\KHs H ks r
end
mutual
theorem KH.keep{H W:Hp}(g:∀b xs,H b=So Bb->W b=So Bb):∀(k:KTr Key){v:V},KH H k v->KH W k v
 |.a _,_,x=>x
 |.t ks,_,⟨a,xs,e,h1,h2⟩=>⟨a,xs,e,g _ _ h1,KHs.keep g ks h2⟩
theorem KHs.keep{H W:Hp}(g:∀b xs,H b=So Bb->W b=So Bb):∀(ks:G6){xs:Av},KHs H ks xs->KHs W ks xs
 |[],_,x=>x
 |k::ks,_,⟨v,r,e,h1,h2⟩=>⟨v,r,e,KH.keep g k h1,KHs.keep g ks h2⟩
end
def KB(H:Hp)(k:Qcx)(b:Addr):Prop:=KH H (.t k) (.ref b)/\rE k<=7
def KB.keep{k:G6}(x:KB H k b)(g:∀b xs,H b=So Bb->W b=So Bb):KB W k b:=⟨KH.keep g _ x.1,x.2⟩
def KB.tup{k:G6}(x:KB H k b):∃xs,H b=So Bb:=by obtain⟨⟨a,xs,e,h,_⟩,_⟩:=x;cases e;exact⟨xs,h⟩
section
variable(P:Ba)(w:AQ)
def ObjOk (H:Hp) (h:Heap) (a:Addr):HO->Prop
 |.lst xs=>Ah<=sizeLine/\∃(its:AE)(n:Nat),Vals xs its/\h.get? a=So {cls:=.type "list",data:=.seq AF n}
 |.lsm _ xs=>Ah<=sizeLine/\∃(its:AE)(n:Nat),Vals xs its/\h.get? a=So {cls:=.type "list",data:=.seq AF n}
 |.tup xs=>(Ah<=sizeLine/\∀o,h.get? a=So o->o.dict=No)/\∃its:List Value,Vals xs its/\IsTup h a AF
 |.dK kvs=>AV<=sizeLine/\ED=Fo/\∃vs,KV kvs vs/\h.DictOf VY a vs
 |.dT kvs=>AV<=sizeLine/\ED=Fo/\∃xs:List (List (KTr Key)×Addr×Value),
   Paired (fun(p:List (KTr Key)×V)(q:List (KTr Key)×Addr×Value)=>p.1=q.1/\KB H p.1 q.2.1/\RelV p.2 q.2.2) kvs xs/\
   ∃o es z,h.get? a=So o/\o.ExactDict/\o.data=.dict es z/\es.toList=xs.map (entryOfKey 'Џ')/\(xs.map (·.1)).Nodup
 |.set S n=>h.SetOf (intKind P w) a S n
 |.ins C dx fs=>H dx=So (.own a)/\fs.length<=1000/\dx≠a/\h.get? a=So (PySem.W.instObj C dx)/\
   ∃mA,h.Ns1 dx mA/\(∀f,RelO IG (mA f))/\PySem.Within mA (fs.map (·.1))
 |.own _=>∃o,h.get? a=So o
 |.xd fs=>∃mA,h.Ns1 a mA/\∀f,RelO IG (mA f)
 |.rng B F=>∃t u v,h.get? a=So {cls:=.type "range",data:=.fields #[.int B t,.int F u,.int 1 v]}
 |.frz o u=>h.get? a=So o/\ObjOk H h a u
 |.tbl ps=>∃q G g,ps[0]? =So (.str q G)/\h.get? a=So {cls:=.none,data:=.fields g}/\TriplesOk Ym/\∀pos m,codeAmong pos Ym=So m->∃(c:Addr)(l:Obj)(vs:B7)(t:Tok),m=.ref c/\H c=So (.frz l Sk)/\l.data=.fields vs/\vs[1]? =So (.str q t)
 |.met f x=>h.get? a=So (PySem.W.methodObj Br Gr)
 |.ext j=>j h/\(∃o,h.get? a=So o)/\∀y r:Heap,j y->(∀o,y.get? a=So o->r.get? a=So o)->j r
def uR{z:B7}{n:Nat}(o:Obj)(q:(h.push {cls:=.type "tuple",data:=.seq z n}).get? Bz=So o):o.dict=No:=by rw[Ze _ rfl]at q;cases q;rfl
def HOk(H:Hp)(h:Heap):Prop:=∀a o,H a=So o->ObjOk P w H h a o
end
def ObjOk.lt(x:MW):a<Bz:=by
 cases o with
 |lst j=>obtain⟨_,_,_,_,e⟩:=x;exact Zj e
 |lsm _ j=>obtain⟨_,_,_,_,e⟩:=x;exact Zj e
 |tup j=>obtain⟨_,_,_,p⟩:=x;exact p.lt
 |dK g=>obtain⟨_,_,_,_,o,_,_,e,_⟩:=x;exact Zj e
 |dT g=>obtain⟨_,_,_,_,o,_,_,e,_⟩:=x;exact Zj e
 |set S n=>obtain⟨o,_,_,_,e,_⟩:=x;exact Zj e
 |ins C dx fs=>obtain⟨_,_,_,e,_⟩:=x;exact Zj e
 |own y=>obtain⟨_,e⟩:=x;exact Zj e
 |xd fs=>obtain⟨_,⟨_,_,_,e,_⟩,_⟩:=x;exact Zj e
 |rng l m=>obtain⟨_,_,_,e⟩:=x;exact Zj e
 |frz ob u=>obtain⟨e,_⟩:=x;exact Zj e
 |tbl ps=>obtain⟨_,_,_,_,e,_⟩:=x;exact Zj e
 |met f y=>exact Zj (show h.get? a=So _ from x)
 |ext q=>obtain⟨_,⟨_,e⟩,_⟩:=x;exact Zj e
theorem Paired.mapP{l m:Type}{F G:l->m->Prop}:∀{j:List l}{g:List m},Paired F j g->(∀a b,F a b->G a b)->Paired G j g
 |_,_,.nil,_=>.nil
 |_,_,.cons r t,f=>.cons (f _ _ r) (Paired.mapP t f)
def ObjOk.stay(x:MW)(k:∀b u,(b=a\/H b=So aX)->h.get? b=So u->h'.get? b=So u)
  (N:∀b,H b=So (.own a)->W b=So aX) (ht:∀b xs,H b=So Bb->W b=So Bb)
  (G:∀b o u,H b=So (.frz o (.ext u))->W b=So (.frz o (.ext u)):=by exactλ_ _ _ q=>q):ObjOk P w W h' a o:=by
 induction o with
 |lst xs=>obtain⟨z,g,n,r,e⟩:=x;exact Qj
 |lsm _ xs=>obtain⟨z,g,n,r,e⟩:=x;exact Qj
 |tup xs=>obtain⟨⟨z,zd⟩,g,r,ob,e,c⟩:=x;exact⟨⟨z,λo q=>by rw[k _ _ 'Ð' e]at q;cases q;exact zd _ e⟩,g,r,ob,k _ _ Be e,c⟩
 |dK m=>obtain⟨z,y,vs,r,ob,es,j,e,c⟩:=x;exact⟨z,y,vs,r,ob,es,j,k _ _ Be e,c⟩
 |dT m=>obtain⟨z,y,xs,r,ob,es,j,e,c⟩:=x;exact⟨z,y,xs,Paired.mapP r λp q z=>⟨z.1,z.2.1.keep ht,z.2.2⟩,ob,es,j,k _ _ Be e,c⟩
 |set S n=>obtain⟨ob,es,j,t,e,c⟩:=x;exact⟨ob,es,j,t,k _ _ Be e,c⟩
 |ins C dx fs=>obtain⟨d,z,ne,e,mA,⟨B,es,j,l,c⟩,r⟩:=x;exact⟨N _ d,z,ne,k _ _ Be e,mA,⟨B,es,j,k _ _ (.inr d) l,c⟩,r⟩
 |own y=>obtain⟨ob,e⟩:=x;exact⟨ob,k _ _ Be e⟩
 |xd fs=>obtain⟨mA,⟨B,es,j,e,c⟩,r⟩:=x;exact⟨mA,⟨B,es,j,k _ _ Be e,c⟩,r⟩
 |rng lo hi=>obtain⟨t,u,v,e⟩:=x;exact⟨t,u,v,k _ _ Be e⟩
 |frz ob u L=>obtain⟨e,q⟩:=x;exact⟨k _ _ Be e,L q⟩
 |tbl ps=>obtain⟨q,U,I,Z,e,t,c⟩:=x;exact⟨q,U,I,Z,k _ _ Be e,t,λpos J z=>let⟨b,oc,vs,tk,O,l,X⟩:=c pos J z;⟨b,oc,vs,tk,O,G _ _ _ l,X⟩⟩
 |met f y=>have e:h.get? a=So U6:=x;show h'.get? a=So U6;exact k a _ Be e
 |ext φ=>obtain⟨p,⟨o,e⟩,F⟩:=x;exact⟨F _ _ p λo q=>k _ _ Be q,⟨o,k _ _ Be e⟩,F⟩
def HOk.lt(x:BE)(e:H a=So o):a<Bz:=(x a o e).lt
def HOk.fresh(x:BE)(e:Bz<=a):H a=No:=by
 cases q:H a with
 |none=>rfl
 |some u=>exact absurd (ZB (x.lt q) e) CH
def HOk.kept(x:BE)(k:∀b u,h.get? b=So u->h'.get? b=So u):HOk P w H h':=λa o e=>
 (x a o e).stay (λb u _ q=>k b u q) L9 λ_ _ q=>q
def HOk.laid(x:BE)(k:∀b u,h.get? b=So u->h'.get? b=So u)(l:Bz<=a)(new:ObjOk P w ES h' a o):HOk P w ES h':=λb u e=>by
 have g:=x.fresh l
 by_cases j:b=a
 ·subst j;rw[Je]at e;cases e;exact new
 ·rw[Jb j]at e
  exact(x b u e).stay (λc v _ q=>k c v q) (λc q=>by rw[Jb 'Θ'];exact q) (λc r q=>by rw[Jb 'Θ'];exact q) λc y m q=>by rw[Jb 'Θ'];exact q
def Rd(H:Hp)(a:Addr)(u:HO):Prop:=H a=So u\/∃o,H a=So LG
def Rd.ok{u:HO}(r:Rd H a u)(x:BE):ObjOk P w H h a u:=by
 rcases r with r|⟨o,r⟩
 ·exact x a u r
 ·obtain⟨_,q⟩:=x a _ r;exact q
noncomputable def Mut:Option HO->Prop
 |some (.lst _)=>True
 |some (.lsm _ _)=>True
 |some (.dK _)=>True
 |some (.dT _)=>True
 |some (.set _ _)=>True
 |some (.ins _ _ _)=>True
 |some (.ext _)=>True
 |_=>False
section
variable{x e:Addr}{o':HO}
def HOk.write(ok:BE)(l:Qdf)(J:e=x\/H e=So Gq)(k:∀b u,b≠e->h.get? b=So u->h'.get? b=So u)(G:∃u,h'.get? e=So u)
  (new:ObjOk P w (upd H x o') h' x o'):HOk P w (upd H x o') h':=λb u q=>by
 have j:∀c y,H c=So (.own y)->c≠x:=λc y r z=>by subst z;rw[r]at l;exact l
 have m:∀c xs,H c=So Bb->c≠x:=λc xs r z=>by subst z;rw[r]at l;exact l
 by_cases B:b=x
 ·subst B;rw[Je]at q;cases q;exact new
 ·rw[Jb B]at q
  by_cases g:b=e
  ·have I:H b=So Gq:=by
    rcases J with z|z
    ·exact absurd (g.trans z) B
    ·rw[g];exact z
   rw[q]at I;cases I;obtain⟨v,L⟩:=G;exact⟨v,by rw[g];exact L⟩
  ·refine(ok b u q).stay (λc v F r=>k c v ?_ r) (λc r=>by rw[Jb (j c b r)];exact r) (λc xs r=>by rw[Jb (m c xs r)];exact r) λc o' N r=>by rw[Jb (λz=>by subst z;rw[r]at l;exact l)];exact r
   rcases F with rfl|F
   ·exact g
   ·rintro rfl
    rcases J with z|z
    ·exact j c b F z
    ·rw[F]at z;cases z;exact B rfl
end
structure Un(fs ex:A9)(H W:Hp)(h h':Heap):Prop where
 keep:∀b o,h.get? b=So o->H b=No->b∉fs->b∉ex->h'.get? b=So o
 slot:∀b o,h.get? b=So o->H b=No->b∈fs->b∉ex->∃sl,h'.get? b=So {o with slots:=sl}
 free:∀b o,h.get? b=So o->H b=No->b∉ex->W b=No
 there:∀b o,h.get? b=So o->b∉ex->∃o',h'.get? b=So o'
 tups:∀b xs,H b=So Bb->W b=So Bb
 frzs:∀b o u,H b=So (.frz o u)->W b=So LG
 tbls:∀b ps,H b=So (.tbl ps)->∃more,W b=So (.tbl (ps++more))
section
variable{fs fs' ex ex':A9}{H H1 H2:Hp}{h h1 h2 h':Heap}{a x e:Addr}{o:HO}
def Un.any(u:Un fs ex H H1 h h1){ob:Obj}(q:h.get? b=So ob)(n:H b=No)(g:b∉ex):∃sl,h1.get? b=So {ob with slots:=sl}:=by
 by_cases j:b∈fs
 ·exact u.slot b ob q n j g
 ·exact⟨ob.slots,u.keep b ob q n j g⟩
def Un.kept(k:∀b u,h.get? b=So u->h'.get? b=So u):Un fs ex H H h h':=
 ⟨λb ob q _ _ _=>k b ob q,λb ob q _ _ _=>⟨ob.slots,k b ob q⟩,λ_ _ _ n _=>n,λb ob q _=>⟨ob,k b ob q⟩,λ_ _ q=>q,λ_ _ _ q=>q,λ_ ps q=>⟨#[],by rw[q];simp⟩⟩
def Un.refl:Un fs ex H H h h:=Un.kept λ_ _ q=>q
def Un.laid(k:∀b u,h.get? b=So u->h'.get? b=So u)(l:Bz<=a)(g:H a=No):Un fs ex H ES h h' where
 keep:=λb u q _ _ _=>k b u q
 slot:=λb u q _ _ _=>⟨u.slots,k b u q⟩
 free:=λb u q n _=>by rw[Jb (Zu (ZB (Zj q) l))];exact n
 there:=λb u q _=>⟨u,k b u q⟩
 tups:=λb j q=>by rw[Jb 'Θ'];exact q
 frzs:=λb u j q=>by rw[Jb 'Θ'];exact q
 tbls:=λb ps q=>⟨#[],by rw[Jb 'Θ',q];simp⟩
def Un.write(j:Qdf)(I:e=x\/H e=So Gq)(k:∀b u,b≠e->h.get? b=So u->h'.get? b=So u)(m:∃u,h'.get? e=So u):Un fs ex H bP h h':=by
 have y:∀b,H b=No->b≠x:=λb n z=>by subst z;rw[n]at j;exact j
 have B:∀b,H b=No->b≠e:=λb n z=>by
  subst z;rcases I with r|r
  ·exact y b n r
  ·rw[n]at r;cases r
 have l:∀b u,H b=So u->¬Mut (So u)->b≠x:=λb u q F z=>by subst z;rw[q]at j;exact F j
 refine⟨λb u q n _ _=>k b u (B b n) q,λb u q n _ _=>⟨u.slots,k b u (B b n) q⟩,λb u q n _=>by rw[Jb (y b n)];exact n,λb u q _=>?_,
  λb G q=>by rw[Jb 'Ѳ'];exact q,λb u G q=>by rw[Jb 'Ѳ'];exact q,λb ps q=>⟨#[],by rw[Jb 'Ѳ',q];simp⟩⟩
 by_cases g:b=e
 ·subst g;exact m
 ·exact⟨u,k b u g q⟩
end
noncomputable def trk (h:Heap) (H:Hp):List Addr:=(List.range Bz).filter λa=>(H a).isSome
def hidT (h:Heap) (H:Hp):Heap:=PySem.W.hideAll h QaB
def JoN(h:Heap)(H:Hp):'վ'.objs.size=Bz:=PySem.W.hideAll_size _ _
def JqE{o:Obj}(e:h.get? b=So o)(n:H b=No):'վ'.get? b=So o:=
 oM _ e λg=>by
  have q:(H b).isSome=To:=(uL.mp g).2
  rw[n]at q;simp at q
def Jvj{o:Obj}(e:'վ'.get? b=So o):h.get? b=So o/\H b=No:=by
 have g:h.get? b=So o:=PySem.W.of_hideAll QaB e;refine⟨g,?_⟩;cases q:H b with
 |none=>rfl
 |some x=>have j:b∈trk h H:=uL.mpr ⟨List.mem_range.mpr (Zj g),by simp[q]⟩;have z:'վ'.get? b=No:=PySem.W.hideAll_none QaB j;rw[z]at e;cases e
noncomputable def Jtt (g h:Heap) (L:Addr):List (Addr×Obj):=(List.range Bz).filterMap λa=>if a=L\/(g.get? a).isSome=To then No else(h.get? a).map λo=>(a,o)
def rest (g h:Heap) (L d:Addr):List (Addr×Obj):=(Jtt g h L).filter λp=>decide (p.1≠d)
structure Mod(K:Aj)(mg:Bk)(base:Heap):Prop where
 kin:K.In base
 glob:base.Ns mainGlobals mg
 blt:∃mb,base.Ns builtinsNs mb/\∀x:Str,x≠"__name__"->mb x=bootBuiltins x
 nolimit:base.NoLimit
structure Cx where
 prog:Program
 w:World
 K:PySem.W.Frag
 mg:Str->Option Value
 base:Heap
 A:Around
 N:List Str
 s₀:Shared
 H₀:Hp
 env:Env
 outer:List Env
 stack:List Env
 ex:List Addr
 fn:Str->Bool
 calm:Bool
 pn:List (Addr×Obj)
 xe:Value->Shared->Prop
variable{X:Cx}
noncomputable def frs (l:Bq):List Addr:=l.filterMap (·.frame)
noncomputable abbrev Cx.fs (X:Cx):List Addr:=frs aS
def Vis(g:Bf)(x:Str):Prop:=g.names.lookup x=So .local\/g.names.lookup x=So .cell\/g.names.lookup x=So .free
def Loc(g:Bf)(x:Str):Prop:=g.names.lookup x=So .local\/g.names.lookup x=So .cell
def Look(O:Env)(h:Heap)(m:Bk)(x:Str)(u:An):Prop:=
 (O.kindOf x=So .local/\m x=So u)\/((O.kindOf x=So .cell\/O.kindOf x=So .free)/\∃c,O.cells.lookup x=So c/\h.IsCell c (So u))
structure Cx.Ok(X:Cx):Prop where
 mod:Mod X.K X.mg X7
 kind:X.env.scope.kind=.function
 glob:X.env.globals=mainGlobals
 blt:X.env.builtins=builtinsNs
 above:Nt<=A5
 inj:∀x y c,X.env.cells.lookup x=So c->X.env.cells.lookup y=So c->x=y
 has:∀x,(X.env.kindOf x=So .cell\/X.env.kindOf x=So .free)->∃c,X.env.cells.lookup x=So c
 cab:∀x c,X.fn x=To->X.env.cells.lookup x=So c->Nt<=c
 hd:X.calm=To->X.A.handled=No
 frames:X.A.frames=So XB
 stk:X.stack=aS\/(XB=Ue::X.outer/\X.env.frame=So A5)
 exf:∀b∈X.ex,b≠A5/\∀x c,X.env.cells.lookup x=So c->c≠b
 bs:∀b o,X.base.get? b=So o->X.s₀.heap.get? b=So o/\X.H₀ b=No
 bsz:X.base.objs.size<=Nt
 noex:∀b o,X.base.get? b=So o->b∉X.ex
 exfs:∀b∈X.ex,b∉X.fs
 funs:X.s₀.heap.FunFrames X7 aS
 frf:∀b∈X.fs,X.H₀ b=No
structure Inv(X:Cx)(Y:A8)(Z:Qd0)(H:Hp)(s:Al):Prop where
 ok:X.Ok
 os:s.os=X.s₀.os
 bare:AllBare Y6
 base:Un X.fs X.ex X.H₀ H X.s₀.heap VU
 loc:∃m,s.heap.Ns A5 m/\∀(i:Nat)(x:Str)(v:V),X.N[i]? =So x->Z[i]? =So BO->Vis EW x->∃u,RelV v u/\Look Ue VU m x u
 cell:∀x c,X.env.cells.lookup x=So c->∃v,s.heap.IsCell c v
 free:H A5=No
 freeC:∀x c,X.env.cells.lookup x=So c->H c=No
 pin:∀p∈X.pn++Y,s.heap.get? p.1=So p.2/\H p.1=No/\p.1≠A5/\p.1∉X.fs/\∀v,p.2.data≠.cell v
 hok:HOk Xz X.w H VU
 len:Z.length=X.N.length
section
variable{Z:Qd0}
def Cx.Ok.nofr(ok:X.Ok){o:Obj}(e:X.base.get? b=So o):b∉X.fs:=λg=>by
 have:=(ok.funs.mem g).1
 rw[e]at this;cases this
def Inv.bs(I:AH):∀b o,X.base.get? b=So o->s.heap.get? b=So o/\H b=No:=λb o e=>
 ⟨I.base.keep b o (I.ok.bs b o e).1 (I.ok.bs b o e).2 (I.ok.nofr e) Qaa,I.base.free b o (I.ok.bs b o e).1 (I.ok.bs b o e).2 Qaa⟩
def Inv.bk(I:AH):∀b o,X.base.get? b=So o->s.heap.get? b=So o:=λb o e=>(I.bs b o e).1
def Inv.mod(I:AH):Mod X.K X.mg X7:=cD
def Inv.kIn(I:AH):X.K.In VU:=I.ok.mod.kin.keeps I.bk
def Inv.lt(I:AH):A5<Aa:=let⟨_,g,_⟩:=Yi;g.lt
def Inv.sz(I:AH):Nt<=Aa:=Zq I.ok.above (Nat.le_of_lt I.lt)
def Inv.nofs(I:AH)(h:Aa<=a):a∉X.fs:=λj=>by
 obtain⟨_,o,g,_⟩:=I.ok.funs.mem j
 exact absurd (ZB (Zj g) (Zq I.sz h)) CH
def Inv.cne(I:AH):∀x c,X.env.cells.lookup x=So c->c≠A5:=λx c e z=>by
 obtain⟨v,o,l,q⟩:=I.cell x c e
 obtain⟨m,⟨y,es,r,j,g,_⟩,_⟩:=Yi
 rw[z,j]at l;cases l;rw[g]at q;cases q
def Inv.funs(I:AH):s.heap.FunFrames X7 aS:=by
 have all:∀(l:Bq),(∀b∈frs l,b∈X.fs)->X.s₀.heap.FunFrames X7 l->s.heap.FunFrames X7 l:=by
  intro l;induction l with
  |nil=>intro _ _;trivial
  |cons O r N=>intro q F;obtain⟨y,⟨L,o,g,G,U,B⟩,J⟩:=F;have m:L∈X.fs:=q L (by unfold frs;rw[yH,g];exact fC);obtain⟨sl,e⟩:=I.base.slot L o U (I.ok.frf L m) m λz=>I.ok.exfs L z m;exact⟨y,⟨L,_,g,G,e,B⟩,N (λb j=>q b (by unfold frs;rw[yH,g];exact Zm _ j)) J⟩
 exact all aS (λ_ j=>j) I.ok.funs
def Inv.stack(I:AH):s.heap.FunFrames X7 XB:=by
 rcases I.ok.stk with e|⟨e,g⟩
 ·rw[e];exact I.funs
 ·rw[e];obtain⟨m,j,_⟩:=Yi;refine .cons (by rw[I.ok.kind];decide) g j ?_ I.funs;exact Heap.get?_none_of_le (Zq I.ok.bsz I.ok.above)
def Inv.stkSub(I:AH):∀b∈frs XB,b∈A5::X.fs:=λb g=>by
 rcases I.ok.stk with e|⟨e,j⟩
 ·rw[e]at g;exact Zm _ g
 ·rw[e]at g
  unfold frs at g
  rw[yH,j]at g
  exact g
def Inv.stkFree(I:AH):∀b∈frs XB,H b=No:=λb g=>by
 rcases Zf.mp (I.stkSub b g)with e|g
 ·rw[e];exact I.free
 ·obtain⟨_,o,j,_⟩:=I.ok.funs.mem g
  exact I.base.free b o j Qb8 λz=>I.ok.exfs b z g
def Inv.step{g':Array GenState}{d':Drawn}(I:AH)
  (y:∀b∈ch,Mn/\b≠A5/\(∀x c,X.env.cells.lookup x=So c->c≠b)/\∀p∈X.pn++Y,p.1≠b)
  (keep:∀b o,b≠A5->b∉X.fs->b∉ch->s.heap.get? b=So o->H b=No->h'.get? b=So o)
  (J:∀b o,b≠A5->b∈X.fs->b∉ch->s.heap.get? b=So o->H b=No->∃sl,h'.get? b=So {o with slots:=sl}) (free:∀b o,b∉ch->s.heap.get? b=So o->H b=No->W b=No)
  (there:∀b o,b∉ch->s.heap.get? b=So o->∃U,h'.get? b=So U)
  (tups:∀b xs,H b=So Bb->W b=So Bb) (frzs:∀b o u,H b=So (.frz o u)->W b=So LG) (tbls:∀b ps,H b=So (.tbl ps)->∃more,W b=So (.tbl (ps++more)))
  (ns:∀m,s.heap.Ns A5 m->h'.Ns A5 m) (hok:RZ) (hg:AllBare g'):
  Inv X Y Z W {s with heap:=h',gens:=g',drawn:=d',toks:=t'}:=by
 have neL:∀b o,X.s₀.heap.get? b=So o->b≠A5:=λb o e=>Zu Ng;have F:∀b o,X.s₀.heap.get? b=So o->b∉X.ex->b∉ch:=λb o e g L=>by
  rcases(y b L).1 with z|z
  ·exact g z
  ·exact absurd (ZB (Zj e) z) CH
 have j:∀x c,X.env.cells.lookup x=So c->∀v,s.heap.IsCell c v->h'.IsCell c v:=λx c e v⟨o,N,hd⟩=>by
  have B:c∉ch:=λz=>(y c z).2.2.1 x c e rfl;by_cases hc:c∈X.fs
  ·obtain⟨sl,q⟩:=J c o QdB hc B N He;exact⟨_,q,hd⟩
  ·exact⟨o,keep c o QdB hc B N He,hd⟩
 refine⟨I.ok,I.os,hg,⟨λb o e n L g=>?_,λb o e n L g=>?_,λb o e n g=>?_,λb o e g=>?_,λb xs e=>tups b xs (I.base.tups b xs e),λb o xs e=>frzs b o xs (I.base.frzs b o xs e),λb ps e=>?_⟩,?_,λx c e=>?_,?_,λx c e=>?_,λp hp=>?_,hok,I.len⟩
 ·exact keep b o (neL b o e) L LU (I.base.keep b o e n L g) Te
 ·obtain⟨sl,G⟩:=I.base.slot b o e n L g;obtain⟨sl',O⟩:=J b _ (neL b o e) L LU G Te;exact⟨sl',O⟩
 ·obtain⟨U,G⟩:=I.base.there b o e g;exact free b U LU G Te
 ·obtain⟨U,G⟩:=I.base.there b o e g;exact there b U LU G
 ·obtain⟨m1,G⟩:=I.base.tbls b ps e;obtain⟨m2,O⟩:=tbls b _ G;exact⟨m1++m2,by rw[O,Array.append_assoc]⟩
 ·obtain⟨m,hn,hl⟩:=Yi;refine⟨m,ns m hn,λi x v G O e3=>?_⟩;obtain⟨u,r,l⟩:=hl i x v G O e3;refine⟨u,r,?_⟩;rcases l with l|⟨k,c,e,z⟩
  ·exact .inl l
  ·exact .inr ⟨k,c,e,j x c e _ z⟩
 ·obtain⟨v,z⟩:=I.cell x c e;exact⟨v,j x c e v z⟩
 ·obtain⟨m,⟨o,_,_,N,_⟩,_⟩:=Yi;exact free _ o (λz=>(y _ z).2.1 rfl) N Yl
 ·obtain⟨v,o,N,hd⟩:=I.cell x c e;exact free c o (λz=>(y c z).2.2.1 x c e rfl) N He
 ·obtain⟨e,n,ne,nf,d⟩:=I.pin p hp;have B:p.1∉ch:=λz=>(y p.1 z).2.2.2 p hp rfl;exact⟨keep p.1 p.2 ne nf B e n,free p.1 p.2 B e n,ne,nf,d⟩
def Inv.un(I:AH)(u:Un X.fs [] H W VU h')(y:RZ):Inv X Y Z W {s with heap:=h',toks:=t'}:=by
 obtain⟨m,⟨o,es,L,B,r⟩,_⟩:=id Yi;obtain⟨sl,J⟩:=u.any B Yl Ad;exact I.step (g':=Y6) (d':=Yz) (ch:=[]) (λ_ z=>nomatch z) (λb o _ j _ e n=>u.keep b o e n j Ad) (λb o _ j _ e n=>u.slot b o e n j Ad) (λb o _ e n=>u.free b o e n Ad) (λb o _ e=>u.there b o e Ad) u.tups u.frzs u.tbls (λO F=>by
  obtain⟨N,l,q,g,G⟩:=F;rw[B]at g;cases g;exact⟨_,l,q,J,G⟩) y X8
def Inv.call{g':Array GenState}{d':Drawn}(I:AH)(u:Un G5 ch H W VU h')(B:RZ)(O:AllBare g')
  (j:∀b∈ch,Mn/\b≠A5/\(∀x c,X.env.cells.lookup x=So c->c≠b)/\∀p∈X.pn++Y,p.1≠b):
  Inv X Y Z W {s with heap:=h',gens:=g',drawn:=d',toks:=t'}:=by
 obtain⟨m,⟨o,es,U,G,r⟩,_⟩:=id Yi;obtain⟨sl,F⟩:=u.any G Yl λz=>(j _ z).2.1 rfl;exact I.step (ch:=ch) j (λb o F L g e n=>u.keep b o e n (λz=>(Zf.mp (I.stkSub b z)).elim F L) g) (λb o _ _ g e n=>u.any e n g) (λb o g e n=>u.free b o e n g) (λb o g e=>u.there b o e g) u.tups u.frzs u.tbls (λm' J=>by
  obtain⟨o',q,y,l,N⟩:=J;rw[G]at l;cases l;exact⟨_,q,y,F,N⟩) B O
def Inv.turned{it:Addr}(I:AH)(k:∀b o,b≠it->s.heap.get? b=So o->h'.get? b=So o)(J:H it=No)(l:it≠A5)
  (h1:it∈X.ex\/X.s₀.heap.objs.size<=it) (N:∀x c,X.env.cells.lookup x=So c->c≠it) (B:∀p∈X.pn++Y,p.1≠it):Inv X Y Z H {s with heap:=h',toks:=t'}:=by
 have j:∀b u,H b=So u->b≠it:=λb u e z=>by rw[z,J]at e;cases e
 refine I.step (g':=Y6) (d':=Yz) (ch:=[it]) (λb G=>?_) (λb o _ _ g e _=>k b o (λz=>g (by simp[z])) e) (λb o _ _ g e _=>⟨o.slots,k b o (λz=>g (by simp[z])) e⟩) Oc
  (λb o g e=>⟨o,k b o (λz=>g (by simp[z])) e⟩) (λ_ _ e=>e) (λ_ _ _ e=>e) (λb ps e=>⟨#[],by rw[e];simp⟩) (λm y=>?_) (λb u e=>?_) X8
 ·have e:b=it:=by simpa using G
  subst e;exact⟨h1,l,N,B⟩
 ·obtain⟨o,es,F,L,r⟩:=y;exact⟨o,es,F,k _ o (Ne.symm l) L,r⟩
 ·refine(I.hok b u e).stay (λc v g q=>k c v ?_ q) L9 λ_ _ q=>q;rcases g with z|z
  ·rw[z];exact j b u e
  ·exact j c _ z
def Inv.tok(I:AH)(t:Nat):Inv X Y Z H {s with toks:=t}:=I.un (h':=VU) (t':=t) Un.refl XD
def Inv.kept(I:AH)(k:∀b u,s.heap.get? b=So u->h'.get? b=So u):Inv X Y Z H {s with heap:=h',toks:=t'}:=I.un (Un.kept k) (I.hok.kept k)
def Inv.laid(I:AH)(k:∀b u,s.heap.get? b=So u->h'.get? b=So u)(g:Aa<=a)(new:QK):
  Inv X Y Z ES {s with heap:=h',toks:=t'}:=I.un (Un.laid k g Qbv) (I.hok.laid k g new)
def Inv.write{x e:Addr}(I:AH)(j:Qdf)(l:e=x\/H e=So Gq)(k:∀b u,b≠e->s.heap.get? b=So u->h'.get? b=So u)(g:∃u,h'.get? e=So u)
  (new:ObjOk Xz X.w bP h' x o):Inv X Y Z bP {s with heap:=h',toks:=t'}:=I.un (Un.write j l k g) (I.hok.write j l k g new)
def Inv.pins_of{g:A8}(I:AH)(h:∀p∈g,s.heap.get? p.1=So p.2/\H p.1=No/\p.1≠A5/\p.1∉X.fs/\∀v,p.2.data≠.cell v):Inv X g Z H s:=
 ⟨I.ok,I.os,X8,I.base,Yi,I.cell,Yl,QcC,λp j=>(ZK.mp j).elim (λz=>I.pin p (rJ _ z)) (h p),XD,I.len⟩
def JjQ{N:Ac}(hN:N.Nodup){j:Nat}(a:N[i]? =So x)(b:N[j]? =So x):i=j:=by obtain⟨q,l⟩:=Zz.mp a;obtain⟨m,g⟩:=Zz.mp b;exact(List.getElem_inj hN).mp (l.trans g.symm)
def Jhn{Q:Dl}(I:AH)(hN:Gv)(hi:X.N[i]? =So x)(G:GJ)(r:Fs)
  (h:∀s',Inv X Y KP H s'->(∃a,Heap.SameBut a VU X5/\(a=A5\/X.env.cells.lookup x=So a))->Q () s') (hf:Ms):wpAny M A Pn Q E s:=by
 obtain⟨m,hn,hl⟩:=id Yi;have hcls:(QcO==.class||(QcO==.module&&X.env.locals !=X.env.globals))=Fo:=by rw[I.ok.kind];rfl
 have O:i<Z.length:=by rw[I.len];exact(Zz.mp hi).1
 have cne:=I.cne;have B:∀{a:Addr}{h':Heap},(∃o,s.heap.get? a=So o/\H a=No)->Heap.SameBut a VU h'->HOk Xz X.w H h':=fun{a h'}ha g b ob e=>by
  obtain⟨_,_,J⟩:=ha;refine(I.hok b ob e).stay (λc w' F q=>(g.2 c ?_).trans q) L9 λ_ _ q=>q;rintro rfl;rcases F with rfl|F
  ·rw[J]at e;cases e
  ·rw[J]at F;cases F
 rcases G with N|N
 ·refine wpAny_storeName_local N hn (λh' hn' g=>?_) hcls;obtain⟨oL,_,_,hoL,_⟩:=id hn;refine h _ ⟨I.ok,I.os,X8,W6,⟨_,hn',λj y v' l L e3=>?_⟩,λy c e=>?_,Yl,QcC,λp hp=>?_,B ⟨oL,hoL,Yl⟩ g,by simpa using I.len⟩ ⟨_,g,.inl rfl⟩
  ·exact(g.2 b (Zu Ng)).trans QR
  ·obtain⟨sl,l⟩:=I.base.slot b o e n hb G;exact⟨sl,(g.2 b (Zu Ng)).trans l⟩
  ·obtain⟨o',l⟩:=I.base.there b o e G;exact⟨o',(g.2 b (Zu Ng)).trans l⟩
  ·by_cases U:j=i
   ·subst U;rw[hi]at l;cases l;rw[ZR O]at L;cases L;exact⟨u,r,.inl ⟨N,by simp⟩⟩
   ·rw[Zr (Ne.symm U)]at L;obtain⟨u',r',q⟩:=hl j y v' l L e3;refine⟨u',r',?_⟩;rcases q with⟨k,e⟩|⟨k,c,e,z⟩
    ·refine .inl ⟨k,?_⟩;have:y≠x:=λe=>U (JjQ hN l (e▸hi));simp[this,e]
    ·exact .inr ⟨k,c,e,z.sameBut g (cne y c e)⟩
  ·obtain⟨w',z⟩:=I.cell y c e;exact⟨w',z.sameBut g (cne y c e)⟩
  ·obtain⟨e,n,ne,nf,d⟩:=I.pin p hp;exact⟨(g.2 p.1 ne).trans e,n,ne,nf,d⟩
 ·have hfn:X.fn x=To:=by
   rcases hf with z|z
   ·exact z
   ·rw[z]at N;cases N
  obtain⟨c,F⟩:=I.ok.has x (.inl N);obtain⟨w',z⟩:=I.cell x c F;refine wpAny_storeName_cell YA N F z (λh' hc' g=>?_);obtain⟨oc,hoc,hocd⟩:=id z;refine h {s with heap:=h'} ⟨I.ok,I.os,X8,W6,⟨m,hn.sameBut g (Ne.symm (cne x c F)),λj y v' l L e3=>?_⟩,λy c' e=>?_,Yl,QcC,λp hp=>?_,B ⟨oc,hoc,I.freeC x c F⟩ g,by simpa using I.len⟩ ⟨c,g,.inr F⟩
  ·exact(g.2 b T6).trans QR
  ·obtain⟨sl,l⟩:=I.base.slot b o e n hb G
   exact⟨sl,(g.2 b T6).trans l⟩
  ·obtain⟨o',l⟩:=I.base.there b o e G
   exact⟨o',(g.2 b T6).trans l⟩
  ·by_cases U:j=i
   ·subst U;rw[hi]at l;cases l;rw[ZR O]at L;cases L;exact⟨u,r,.inr ⟨.inl N,c,F,hc'⟩⟩
   ·rw[Zr (Ne.symm U)]at L;obtain⟨u',r',q⟩:=hl j y v' l L e3;refine⟨u',r',?_⟩;rcases q with q|⟨k,c',e,z'⟩
    ·exact .inl q
    ·refine .inr ⟨k,c',e,z'.sameBut g ?_⟩;rintro rfl;exact U (JjQ hN l (I.ok.inj _ _ _ e F▸hi))
  ·by_cases hcc:c'=c
   ·subst hcc;exact⟨_,hc'⟩
   ·obtain⟨w2,z2⟩:=I.cell y c' e;exact⟨w2,z2.sameBut g hcc⟩
  ·obtain⟨e,n,ne,nf,d⟩:=I.pin p hp
   refine⟨(g.2 p.1 ?_).trans e,n,ne,nf,d⟩;intro q;rw[q,hoc]at e;have q':oc=p.2:=sD e;exact d w' (by rw[<-q'];exact hocd)
def Jkx{Q:Dl}(I:AH)(hN:Gv)(hi:X.N[i]? =So x)(l:GJ)(r:Fs)
  (h:∀g,Inv X Y KP H g->Q () g) (j:Ms):wpAny M A Pn Q E s:=
 Jhn I hN hi l r (λg m _=>h g m) j
def Inv.call'{g:Al}(I:AH)(q:g.os=s.os)(u:Un G5 ch H W VU g.heap)(j:HOk Xz X.w W g.heap)(m:AllBare g.gens)
  (l:∀b∈ch,Mn/\b≠A5/\(∀x c,X.env.cells.lookup x=So c->c≠b)/\∀p∈X.pn++Y,p.1≠b):Inv X Y Z W g:=by obtain⟨h',g',d',t',r⟩:=g;have e:r=s.os:=q;subst e;exact I.call (g':=g') (t':=t') (d':=d') u j m l
end
noncomputable abbrev XK:=Value->Option Addr->Hp->Prop
noncomputable abbrev St:=List (Option V)
variable{Z:St}
noncomputable abbrev VK:=V->Hp->Prop
noncomputable abbrev TE:=St->Hp->VK->Prop
variable{ta te:TE}
noncomputable abbrev TT:=St->Hp->Mu->Prop
noncomputable abbrev TA:=St->Hp->(List V->Hp->Prop)->Prop
structure Ends where
 nx:St->Hp->Prop
 rt:VK
 bk:St->Hp->Prop:=λ_ _=>False
 ct:St->Hp->Prop:=λ_ _=>False
variable{t:TA}
noncomputable abbrev TS:=Ends->St->Hp->Prop
inductive EP(X:Cx)(pins:A8)(σ:St)(Q:VK)(u:An)(s':Al):Prop where
 |mk (v:V) (H':Hp) (I:Inv X pins σ H' s') (r:RelV v u) (q:Q v H'):EP X pins σ Q u s'
inductive TP(X:Cx)(pins:A8)(σ:St)(Q:Fu)(b:Bool)(s':Al):Prop where
 |mk (H':Hp) (I:Inv X pins σ H' s') (q:Q b H'):TP X pins σ Q b s'
inductive AP(X:Cx)(pins:A8)(σ:St)(Q:List V->Hp->Prop)(us:AE)(s':Al):Prop where
 |mk (vs:List V) (H':Hp) (I:Inv X pins σ H' s') (r:Vals vs us) (q:Q vs H'):AP X pins σ Q us s'
inductive NP(X:Cx)(pins:A8)(nx:St->Hp->Prop)(s':Al):Prop where
 |mk (σ':St) (H':Hp) (I:Inv X pins σ' H' s') (q:nx σ' H'):NP X pins nx s'
inductive RP(X:Cx)(pins:A8)(rt:VK)(u:An)(s':Al):Prop where
 |mk (v:V) (σ':St) (H':Hp) (I:Inv X pins σ' H' s') (r:RelV v u) (q:rt v H'):RP X pins rt u s'
def SP(X:Cx)(Y:A8)(D:Ends)(f:Flow)(g:Al):Prop:=
 match f with
 |.next=>NP X Y D.nx g
 |.brk=>NP X Y D.bk g
 |.cont=>NP X Y D.ct g
 |.ret u=>RP X Y D.rt u g
def PE(X:Cx)(e:Expr)(t:TE):Prop:=
 ∀(Y:A8)(s:Al)(Z:St)(H:Hp)(Q:VK),Inv X Y Z H s->t Z H Q->wpAny AD X.A MD BP X.xe s
def PT(X:Cx)(e:Expr)(t:TT):Prop:=
 ∀(Y:A8)(s:Al)(Z:St)(H:Hp)(Q:Fu),Inv X Y Z H s->t Z H Q->wpAny AD X.A (isTrue e Ue MD) L8 X.xe s
def PW(X:Cx)(e:Expr)(t:TT):Prop:=
 ∀(g:Sem Value)(Y:A8)(s:Al)(Z:St)(H:Hp)(Q:Fu),Inv X Y Z H s->t Z H Q->wpAny AD X.A (isTrue e Ue g) L8 X.xe s
def PW.pt{t:TT}(h:PW X e t):PT X e t:=h _
def PA(X:Cx)(es:CF)(t:TA):Prop:=
 ∀(pos:Pos)(Y:A8)(s:Al)(Z:St)(H:Hp)(Q:List V->Hp->Prop),Inv X Y Z H s->t Z H Q->wpAny AD X.A (spliced 'Ķ') (AP X Y Z Q) X.xe s
def PS(X:Cx)(st:Stmt)(t:TS):Prop:=
 ∀(Y:A8)(s:Al)(Z:St)(H:Hp)(D:Ends),Inv X Y Z H s->t D Z H->wpAny AD X.A (exec st Ue) (SP X Y D) X.xe s
def PSs(X:Cx)(st:BF)(t:TS):Prop:=
 ∀(Y:A8)(s:Al)(Z:St)(H:Hp)(D:Ends),Inv X Y Z H s->t D Z H->wpAny AD X.A (execs st Ue) (SP X Y D) X.xe s
def thn{j:Type}{t:Sem j}{Q g:j->Shared->Prop}(h:wpAny M A t Q E s)(l:∀a s,Q a s->g a s):wpAny M A t g E s:=ZY h l λ_ _ x=>x
section
def tVar(i:Nat):TE:=λZ H Q=>∃v,Z[i]? =So BO/\Q v H
def tC(v:V):TE:=λ_ H Q=>Q v H
def rA(hN:X.N[i]? =So x)(J:Vis EW x)(y:DW)(hcd:'б' ((x==("__classdict__":Str))=Fo) Ey):PE X Cm QcW:=by
 intro Y s Z H Q I h;obtain⟨v,e,h⟩:=h;obtain⟨m,G,F⟩:=Yi;obtain⟨u,r,l⟩:=F i x v hN e J;have j:EP X Y Z Q u s:=QY;rcases l with⟨q,B⟩|⟨q,c,z,g⟩
 ·exact wpAny_Name (wpAny_loadName_local YA q G B j) y
 ·rcases q with q|q
  ·exact wpAny_Name (wpAny_loadName_cell YA q z g j) y
  ·exact wpAny_Name (wpAny_loadName_free YA q z g j hcd) y
def fY{i j pos}:PE X PY (tC A2):=λ_ _ _ H _ I h=>wpAny_Constant_int ⟨.int i,H,I.tok _,AS,h⟩
def pe_bl{b j pos}:PE X (.Constant (.bool b) j pos) (tC YR):=λ_ _ _ H _ I h=>Constant_bool ⟨.bl b,H,I,rfl,h⟩
def JxH{j pos}:PE X Qg (tC .non):=λ_ _ _ H _ I h=>Constant_none ⟨.non,H,I,rfl,h⟩
def Jrj{x j pos}:PE X PX (tC D2):=λ_ _ _ H _ I h=>Calls.Constant_str ⟨.str x,H,I.tok _,AS,h⟩
def Gl(X:Cx)(x:Str):Prop:=X.env.kindOf x=So .globalImplicit
def nS{Q:Ay}(I:AH)(l:Yt)(g:X.mg x=So u)(h:Q u s)
  (j:DW):wpAny AD X.A (eval Cm Ue) Q E s:=
 Calls.Name_function_global YA l (Calls.loadGlobal_global (by rw[I.ok.glob];exact I.mod.glob.keeps I.bk) g h) j
def rK{Q:Ay}(I:AH)(m:Yt)(g:X.mg x=No)(l:bootBuiltins x=So u)(h:Q u s)
  (r:'б' (x≠"__name__") Ey) (hd:DW):wpAny AD X.A (eval Cm Ue) Q E s:=by obtain⟨y,j,q⟩:=I.mod.blt;exact Calls.Name_function_global YA m (Calls.loadGlobal_builtin (by rw[I.ok.glob];exact I.mod.glob.keeps I.bk) g (by rw[I.ok.blt];exact j.keeps I.bk) ((q x r).trans l) h) hd
def Jtl(j:Yt)(g:X.mg x=So u)(r:Fs)(l:DW):PE X Cm (tC v):=
 λ_ _ _ H _ I h=>nS I j g QY l
def Jui(l:Yt)(g:X.mg x=No)(j:bootBuiltins x=So u)(r:Fs)(m:'б' (x≠"__name__") Ey)(hd:DW):PE X Cm (tC v):=
 λ_ _ _ H _ I h=>rK I l g j QY m hd
noncomputable def t2I (ta tb:TE) (k:Int->Int->Hp->Prop):St->Hp->Prop:=λZ H=>ta Z H λx g=>tb Z g λy l=>∃i j,x=.int i/\y=.int j/\k i j l
variable{a b:Expr}{tb:TE}
def PC(X:Cx)(op:bM)(a b:Expr)(t:TE):Prop:=
 ∀(Y:A8)(s:Al)(Z:St)(H:Hp)(Q:VK),Inv X Y Z H s->t Z H Q->
  wpAny AD X.A E3 (λv j=>wpAny AD X.A (eval b Ue) (λu g=>wpAny AD X.A (compareOp op v u) BP X.xe g) X.xe j) X.xe s
def Jjs(b:Expr)(h:op≠.In)(j:op≠.NotIn):behindInMarks op b=Fo:=by
 have l:(op==CmpOp.In)=Fo:=by cases op<;>first|rfl|exact absurd rfl h
 have g:(op==CmpOp.NotIn)=Fo:=by cases op<;>first|rfl|exact absurd rfl j
 cases b<;>first|rfl|(show(_&&(_||_)&&_)=Fo;rw[l,g,qH,iM,gC])
def tCmp(p:Int->Int->Bool)(ta tb:TE):TE:=λZ H Q=>t2I ta tb (λi j g=>Q (.bl (p i j)) g) Z H
noncomputable abbrev tLt:TE->TE->TE:=tCmp λi j=>decide (i<j)
noncomputable abbrev tGt:TE->TE->TE:=tCmp λi j=>decide (j<i)
noncomputable abbrev tGe:TE->TE->TE:=tCmp λi j=>decide (j<=i)
def tIsN(ta:TE):TE:=λZ H Q=>ta Z H λx g=>Q (.bl (decide (x=.non))) g
def tNotN(ta:TE):TE:=λZ H Q=>ta Z H λx g=>Q (.bl (!decide (x=.non))) g
def RelV.none_iff{x:V}{v:An}(r:RelV x v):(v==Xx)=decide (x=.non):=by
 cases x with
 |non=>cases r;exact(Zx rfl).symm
 |_=>rw[Zs nofun];first|(cases r;rfl)|(obtain⟨t,rfl⟩:=r;rfl)
def JxD{j pos'}(ha:Ce):PC X .Is a Qu (tIsN ta):=by intro Y s Z H Q I h;refine thn CQ λv y g=>?_;obtain⟨x,q,m,r,l⟩:=g;exact Constant_none (is_none_gen ⟨.bl _,q,m,by rw[r.none_iff];rfl,l⟩)
def JsZ{j pos'}(ha:Ce):PC X .IsNot a Qu (tNotN ta):=by intro Y s Z H Q I h;refine thn CQ λv y g=>?_;obtain⟨x,q,m,r,l⟩:=g;exact Constant_none (isnot_none_gen ⟨.bl _,q,m,by rw[r.none_iff];rfl,l⟩)
def tB(t:TE):TT:=λZ H Q=>t Z H λx g=>∃c,x=.bl c/\Q c g
def Jwm{t:TE}(h:PC X op a b t)(h1:F4:=by first|exact Jjs _ AB AB|rfl):PE X F3 t:=λY s Z H Q I g=>wpAny_Compare1 Qab h1
def lR{t:TE}(h:PC X op a b t)(h1:F4:=by first|exact Jjs _ AB AB|rfl):PT X F3 (tB t):=by intro Y s Z H Q I m;refine wpAny_isTrue_Compare1 (thn (h Y s Z H _ I m) λv F h1=>thn h1 λu B r=>thn r λc z⟨x,g,y,j,l⟩=>?_) h1;obtain⟨d,rfl,q⟩:=l;cases j;exact jD ⟨g,y,q⟩
variable{tA tB':TT}{rest:CF}
def tOr(t u:TT):TT:=λZ H Q=>t Z H λc g=>if c=To then Q To g else u Z g Q
def tNot(t:TT):TT:=λZ H Q=>t Z H λc g=>Q (!c) g
def JuJ(g:aL):PW X (.BoolOp .And [a] pos) tA:=by
 intro l Y s Z H Q I h;refine isTrue_and (thn (g Y s Z H Q I h) λc j e=>?_);cases c with
 |true=>exact isTrue_and_nil e
 |false=>exact e
def Jxy(g:aL):PW X (.BoolOp .Or [a] pos) tA:=by
 intro l Y s Z H Q I h;refine isTrue_or (thn (g Y s Z H Q I h) λc j e=>?_);cases c with
 |false=>exact isTrue_or_nil e
 |true=>exact e
def pw_or(ha:aL)(y:PW X (.BoolOp .Or (b::rest) pos) tB'):PW X Me (tOr tA tB'):=by
 intro r Y s Z H Q I h;refine isTrue_or (thn CQ λc q g=>?_);obtain⟨m,l,j⟩:=g;cases c with
 |true=>exact⟨m,l,j⟩
 |false=>exact y r Y q Z m Q l j
def JvY(l:aL):PT X Nc (tNot tA):=by intro Y s Z H Q I h;exact isTrue_not (thn (l Y s Z H (λc g=>Q (!c) g) I h) λc m⟨g,j,q⟩=>⟨g,j,q⟩)
def tAndV(ta tb:TE):TE:=λZ H Q=>ta Z H λx g=>∃c,x=.bl c/\if c=To then tb Z g Q else Q C4 g
def tOrV(ta tb:TE):TE:=λZ H Q=>ta Z H λx g=>∃c,x=.bl c/\if c=To then Q CW g else tb Z g Q
def tNotV(ta:TE):TE:=λZ H Q=>ta Z H λx g=>∃c,x=.bl c/\Q (.bl (!c)) g
def JrD{op}{t:TE}(h:PE X a t):PE X SX t:=λY s Z H Q I g=>BoolOp_one Qab
def JrW(ha:Ce)(q:PE X (.BoolOp .And (b::rest) pos) tb):PE X (.BoolOp .And (a::b::rest) pos) (tAndV ta tb):=by
 intro Y s Z H Q I h;refine BoolOp_and (thn CQ λv y j=>?_);obtain⟨x,l,m,r,g⟩:=j;obtain⟨c,rfl,g⟩:=g;cases r;refine jD ?_;cases c with
 |true=>exact q Y y Z l Q m g
 |false=>exact⟨.bl Fo,l,m,rfl,g⟩
def pe_or(ha:Ce)(q:PE X (.BoolOp .Or (b::rest) pos) tb):PE X Me (tOrV ta tb):=by
 intro Y s Z H Q I h;refine BoolOp_or (thn CQ λv y j=>?_);obtain⟨x,l,m,r,g⟩:=j;obtain⟨c,rfl,g⟩:=g;cases r;refine jD ?_;cases c with
 |false=>exact q Y y Z l Q m g
 |true=>exact⟨.bl To,l,m,rfl,g⟩
def JxW(ha:Ce):PE X Nc (tNotV ta):=by intro Y s Z H Q I h;refine UnaryOp_ (thn CQ λv r j=>?_);obtain⟨x,l,q,m,g⟩:=j;obtain⟨c,rfl,g⟩:=g;cases m;exact not_of (jD ⟨.bl (!c),l,q,rfl,g⟩)
def tIf(t:TT)(ta tb:TE):TE:=λZ H Q=>t Z H λc g=>if c=To then ta Z g Q else tb Z g Q
def JpY(r:PT X c tA)(z:Ce)(y:FL):PE X Ob (tIf tA ta tb):=by
 intro Y s Z H Q I h;refine wpAny_IfExp (thn (r Y s Z H _ I h) λd j g=>?_);obtain⟨q,m,l⟩:=g;cases d with
 |true=>exact z Y j Z q Q m l
 |false=>exact y Y j Z q Q m l
end
def SqL(K:Aj)(H:Hp)(a:Addr)(xs:Av):Prop:=
 Rd H a AA\/
  ∃(o:Obj)(g:B7)(n:Nat),K.lookup a=So o/\o.cls=.type "list"/\o.dict=No/\o.data=.seq g n/\g.size<=sizeLine/\Vals xs Ym
def ModT(K:Aj)(y:Str)(a:Addr):Prop:=PySem.W.nsIn K mainGlobals y=So (So Ar)\/
 ∃(b:Addr)(o:Obj)(g:B7)(n:Nat),PySem.W.nsIn K mainGlobals y=So (So CK)/\K.lookup b=So o/\o.cls=.type "tuple"/\o.data=.seq g n/\Value.ref a∈g.toList
def SqT(K:Aj)(H:Hp)(a:Addr)(xs:Av):Prop:=
 H a=So Bb\/
  ∃(y:Str)(o:Obj)(g:B7)(n:Nat),ModT K y a/\K.lookup a=So o/\o.cls=.type "tuple"/\o.dict=No/\o.data=.seq g n/\g.size<=sizeLine/\Vals xs Ym
noncomputable def absV:Value->Option V
 |.none=>So .non
 |.bool b=>So YR
 |.int i _=>So A2
 |.str x _=>So D2
 |.bytes b _=>So (.byt b)
 |.float b _=>So (.flt b)
 |.ref a=>So Ar
 |.type n=>So (.ty n)
 |_=>No
def RelV.abs{x:V}(r:RelV x u):absV u=So x:=by
 cases x with
 |non=>cases r;rfl
 |bl _=>cases r;rfl
 |int _=>obtain⟨t,rfl⟩:=r;rfl
 |str _=>obtain⟨t,rfl⟩:=r;rfl
 |byt _=>obtain⟨t,rfl⟩:=r;rfl
 |flt _=>obtain⟨t,rfl⟩:=r;rfl
 |ref _=>cases r;rfl
 |ty _=>cases r;rfl
def RelV.inj{x y:V}{u:An}(r:RelV x u)(q:CJ):x=y:=sD (r.abs.symm.trans q.abs)
theorem Vals.inj:∀{xs ys:Av}{us:AE},Vals xs us->Vals ys us->xs=ys
 |_,_,_,.nil,.nil=>rfl
 |_,_,_,.cons r t,.cons r' t'=>by rw[r.inj r',Vals.inj t t']
section
variable{xs ys:Av}
def SqL.of(h:H a=So AA):SqL K H a xs:=.inl QcX
def SqT.of(h:H a=So Bb):SqT K H a xs:=.inl h
theorem Inv.list(I:AH)(h:Io):∃its:List Value,Vals xs its/\PlainL VU a AF/\xs.length<=sizeLine:=by
 rcases h with h|⟨o,its,n,j,g,m,l,q,r⟩
 ·obtain⟨z,its,n,r,e⟩:=h.ok XD;exact⟨its,r,⟨_,n,e,rfl,rfl,rfl⟩,z⟩
 ·refine⟨Qbj,r,⟨o,n,I.kIn a o j,g,m,by simpa using l⟩,?_⟩;have e:=XF;simp only[ZQ]at e;lia
theorem Inv.tuple(I:AH)(h:Im):∃its:List Value,Vals xs its/\IsTup VU a AF/\xs.length<=sizeLine:=by
 rcases h with h|⟨_,o,its,n,_,j,g,_,l,m,r⟩
 ·obtain⟨⟨z,_⟩,its,r,p⟩:=I.hok a _ h;exact Qd5
 ·refine⟨Qbj,r,⟨o,I.kIn a o j,g,n,by simpa using l⟩,?_⟩;have e:=XF;simp only[ZQ]at e;lia
theorem Inv.tupleD(I:AH)(h:Im):∃(its:AE)(o:Obj)(n:Nat),Vals xs its/\s.heap.get? a=So o/\o.cls=.type "tuple"/\o.dict=No/\o.data=.seq AF n/\xs.length<=sizeLine:=by
 rcases h with h|⟨_,o,its,n,_,g,q,m,l,y,r⟩
 ·obtain⟨⟨z,j⟩,its,r,o,e,c,n,d⟩:=I.hok a _ h;exact⟨its,o,n,r,e,c,j _ e,d,z⟩
 ·refine⟨Qbj,o,n,r,I.kIn a o g,q,m,by simpa using l,?_⟩;have e:=XF;simp only[ZQ]at e;lia
def Inv.list_inj(I:AH)(h:Io)(h':SqL X.K H a ys):xs=ys:=by
 obtain⟨j,r,⟨o,n,e,_,_,d⟩,_⟩:=I.list h;obtain⟨g,y,⟨B,z,l,_,_,m⟩,_⟩:=I.list h';rw[e]at l;cases l;rw[d]at m;injection m with q _;have:j=g:=by simpa using kA Array.toList q
 subst this;exact r.inj y
def Inv.tuple_inj(I:AH)(h:Im)(h':SqT X.K H a ys):xs=ys:=by
 obtain⟨j,r,⟨o,e,_,n,d⟩,_⟩:=I.tuple h;obtain⟨g,y,⟨B,l,_,z,m⟩,_⟩:=I.tuple h';rw[e]at l;cases l;rw[d]at m;injection m with q _;have:j=g:=by simpa using kA Array.toList q
 subst this;exact r.inj y
end
section
variable{st:Stmt}{rest:BF}{t u:TS}
def tNext:TS:=λD Z H=>D.nx Z H
def tSeq(t u:TS):TS:=λD Z H=>t {D with nx:=u D} Z H
def JmT:PSs X [] tNext:=λ_ _ Z H _ I h=>wpAny_execs_nil ⟨Z,H,I,h⟩
def JN(h1:Qdg)(m:PSs X rest u):PSs X (st::rest) (tSeq t u):=by
 intro Y s Z H D I h;refine wpAny_execs_cons (thn (h1 Y s Z H {D with nx:=u D} I h) λf j q=>?_);cases f with
 |next=>obtain⟨g,W,l,q⟩:=q;exact m Y j g W D l q
 |ret v=>exact q
 |brk=>exact q
 |cont=>exact q
def mZ(h1:Qdg):PSs X [st] t:=by
 intro Y s Z H D I h;refine wpAny_execs_cons (thn (h1 Y s Z H D I h) λf g q=>?_);cases f with
 |next=>exact wpAny_execs_nil q
 |ret v=>exact q
 |brk=>exact q
 |cont=>exact q
def Inv.quiet(I:AH):interactive Ue=Fo:=by simp[interactive,I.ok.kind]
def KW(te:TE):TS:=λD Z H=>te Z H λ_ g=>D.nx Z g
def zK(he:FK)(hs:'б' (swapsWith e No XH Ue=pure Fo) Ai):PS X QdC (KW te):=by intro Y s Z H D I h;exact wpAny_Expr_any (thn FG λv m⟨x,j,l,q,g⟩=>⟨Z,j,l,g⟩) I.quiet hs
def tRet(te:TE):TS:=λD Z H=>te Z H D.rt
def kN(he:FK):PS X M7 (tRet te):=by intro Y s Z H D I h;exact wpAny_Return_some (thn FG λv q⟨x,j,m,l,g⟩=>⟨x,Z,j,m,l,g⟩)
def tIfS(c:TT)(t u:TS):TS:=λD Z H=>c Z H λb g=>if b=To then t D Z g else u D Z g
def rW{a b:BF}{q:TT}(B:PT X c q)(z:PSs X a t)(y:PSs X b u):PS X (.If c a b pos) (tIfS q t u):=by
 intro Y s Z H D I h;refine wpAny_If (thn (B Y s Z H _ I h) λd l g=>?_);obtain⟨j,r,m⟩:=g;cases d with
 |true=>exact z Y l Z j D r m
 |false=>exact y Y l Z j D r m
end
noncomputable abbrev TG:=V->St->Hp->(St->Hp->Prop)->Prop
noncomputable abbrev TGs:=List V->St->Hp->(St->Hp->Prop)->Prop
def PG(X:Cx)(g:Expr)(t:TG):Prop:=
 ∀(Y:A8)(s:Al)(Z:St)(H:Hp)(v:V)(u:An)(Q:St->Hp->Prop),Inv X Y Z H s->RelV v u->t v Z H Q->
  wpAny AD X.A (assign g Ue u) Pm X.xe s
def PGs(X:Cx)(j:CF)(t:TGs):Prop:=
 ∀(Y:A8)(s:Al)(Z:St)(H:Hp)(vs:Av)(us:AE)(Q:St->Hp->Prop),Inv X Y Z H s->Vals vs us->t vs Z H Q->
  wpAny AD X.A (assignInOrder ((assignEach j Ue).map (·.2)) us) (λ_ g=>NP X Y Q g) X.xe s
def Jex(i:Nat):TG:=λv Z H Q=>Q KP H
def iL(hN:Gv)(hi:X.N[i]? =So x)(j:GJ)(g:Ms):PG X Cm Ex:=by intro Y s Z H v u Q I r h;exact wpAny_assign_Name (Jkx I hN hi j r (λm l=>⟨_,H,l,h⟩) g)
def gNil:TGs:=λvs Z H Q=>vs=[]/\Q Z H
def gCons(t:TG)(u:TGs):TGs:=λvs Z H Q=>∃v r,vs=v::r/\t v Z H λg W=>u r g W Q
def JmH:PGs X [] gNil:=by intro Y s Z H vs us Q I r h;obtain⟨e,h⟩:=h;subst e;cases r;exact assignInOrder_nil ⟨Z,H,I,h⟩
def mU{t:TG}{u:TGs}(h1:PG X e t)(B:PGs X es u)
  (hs:'б' ((assignEach Gi Ue).map (·.2)=assign e Ue::'ή'.map (·.2)) Ai):PGs X Gi (gCons t u):=by
 intro Y s Z H vs us Q I r h;obtain⟨v,G,F,h⟩:=h;subst F;cases r with
 |cons r q=>rw[hs];refine assignInOrder_cons (thn (h1 Y s Z H _ _ _ I r h) λ_ y j=>?_);obtain⟨g,m,l,z⟩:=j;exact B Y y g m _ _ Q l q z
def gTup(K:Aj)(n:Nat)(t:TGs):TG:=λv Z H Q=>∃a g,v=.ref a/\SqT K H a g/\g.length=n/\t g Z H Q
def Jsu{t:TGs}{n:Nat}(B:Cj)(h:PGs X es t)
  (y:'б' ('ή'.length=n) Ai) (hst:'б' ('ή'.findIdx? (·.1)=No) Ai):PG X Qac (gTup X.K n t):=by intro Y s Z H v u Q I r g;obtain⟨a,F,J,G,q,g⟩:=g;subst J;cases r;obtain⟨m,j,z,N⟩:=I.tuple G;refine assign_Tuple_tuple (I.ok.hd B) z (by simp[y,<-q,j.length]) hst λh' l=>?_;have L:Inv X Y Z H {s with heap:=h'}:=I.kept (t':=Xv) λb o e=>l b o (Zu (Zj e)) e;exact h Y _ Z H F _ Q L (by simpa using j) g
def tAsg(te:TE)(g:TG):TS:=λD Z H=>te Z H λx j=>g x Z j D.nx
def gD{g:Pos}(hN:Gv)(hi:X.N[i]? =So x)(j:GJ)(he:FK)(hs:'б' (swapsWith e (So (.Name x g)) XH Ue=pure Fo) Ai)(hf:Ms):
  PS X (.Assign [.Name x g] e pos) (tAsg te Ex):=by intro Y s Z H D I h;refine wpAny_Assign_Name (thn FG λv F⟨y,l,z,m,r⟩=>?_) hs;exact Jkx z hN hi j m (λB q=>⟨_,l,q,r⟩) hf
structure It where
 go:Nat->Hp->Prop
 yld:Nat->Hp->V->Hp->Prop
 stop:Nat->Hp->Prop
def FpOk(X:Cx)(Y:A8)(H:Hp)(b:Addr):Prop:=
 H b=No/\b≠A5/\b∉X.fs/\Mn/\(∀x c,X.env.cells.lookup x=So c->c≠b)/\∀p∈X.pn++Y,p.1≠b
def Inv.fpOk(I:AH)(g:Aa<=b)(j:W b=No):FpOk X Y W b:=by
 refine⟨j,rC (ZB I.lt g),I.nofs g,.inr (Zq I.sz g),λx c e z=>?_,λp l z=>?_⟩
 ·obtain⟨v,q⟩:=I.cell x c e;exact absurd (ZB q.lt (by rw[z];exact g)) CH
 ·exact absurd (ZB (Zj (I.pin p l).1) (by rw[z];exact g)) CH
structure Turn(P:Ba)(w:AQ)(K:Aj)(tg:Expr)(J9:It)(fp:A9)(it:Addr)(tn:Fv):Prop where
 mem:it∈fp
 obj:∀i h,tn i h->∀b∈fp,∃o,h.get? b=So o/\∀v,o.data≠.cell v
 keep:∀i h h',tn i h->(∀b∈fp,∀o,h.get? b=So o->h'.get? b=So o)->tn i h'
 item:∀(X:Cx),Xz=P->X.w=w->X.K=K->X.calm=To->∀(i:Nat)(Y:A8)(s:Al)(Z:St)(H:Hp)(E:Ay),Inv X Y Z H s->(∀b∈fp,FpOk X Y H b)->tn i s.heap->J9.go i H->
  wpAny Bp X.A Dw (λr s1=>∃u,r=So u/\
   wpAny Bp X.A QQ (λ_ s2=>∃x W,Inv X Y Z W s2/\RelV x u/\J9.yld i H x W/\tn Bw aT/\∀b∈fp,W b=No) E s1) E s
 done:∀(X:Cx),Xz=P->X.w=w->X.K=K->X.calm=To->∀(i:Nat)(Y:A8)(s:Al)(Z:St)(H:Hp)(E:Ay),Inv X Y Z H s->(∀b∈fp,FpOk X Y H b)->tn i s.heap->J9.stop i H->
  wpAny Bp X.A Dw (λr s1=>r=No/\Inv X Y Z H s1) E s
 self:∀(A:Bv)(i:Nat)(s:Al)(Q:Ay)(E:Ay),tn i s.heap->Q B8 s->wpAny Bp A (pyIter B8) Q E s
noncomputable abbrev TI:=St->Hp->(It->Hp->Prop)->Prop
def PIE(X:Cx)(Y:A8)(Z:St)(tg:Expr)(R:It->Hp->Prop)(g:An)(q:Al):Prop:=
 ∃(l:Addr)(fp:A9)(m:Fv)(j:It)(W:Hp),g=.ref l/\Inv X Y Z W q/\Turn Xz X.w X.K tg j fp l m/\m 0 q.heap/\(∀b∈fp,FpOk X Y W b)/\R j W
def PI(X:Cx)(tg g:Expr)(l:TI):Prop:=
 ∀(Y:A8)(s:Al)(Z:St)(H:Hp)(R:It->Hp->Prop),Inv X Y Z H s->l Z H R->
  wpAny AD X.A (eval g Ue) (λv j=>wpAny AD X.A (pyIter v) QaW X.xe j) X.xe s
def hX{it:Addr}{o:Obj}{n:Bg}{vs:B7}{Q:Dl}(l:s.heap.get? it=So o)(j:o.cls=.type n)(m:o.data=.fields vs)
  (q:["enumerate","zip","dict_itemiterator","dict_reverseitemiterator","odict_iterator","itertools.zip_longest","itertools.pairwise"].contains n=Fo) (g:Q () s):wpAny M A QQ Q E s:=by
 unfold letOwnedTupleGo;cases tg<;>first
  |exact Zb g
  |(cases u<;>first
    |exact Zb g
    |(refine Za (wpAny_load l ?_);rw[j,m];show wpAny M A (if(["enumerate","zip","dict_itemiterator","dict_reverseitemiterator","odict_iterator","itertools.zip_longest","itertools.pairwise"].contains n&&vs[0]? ==So (rawInt _))=To then _ else _) Q E s;rw[if_neg (by intro h;rw[q,gC]at h;cases h)];exact Zb g))
noncomputable def Itl (K:Aj) (a:Addr):It:=
 ⟨λi H=>∃g x,SqL K H a g/\g[i]? =So x,λi H x W=>W=H/\∀g,SqL K H a g->g[i]? =So x,λi H=>∃g,SqL K H a g/\g.length<=i⟩
noncomputable def Itt (K:Aj) (a:Addr):It:=
 ⟨λi H=>∃g x,SqT K H a g/\g[i]? =So x,λi H x W=>W=H/\∀g,SqT K H a g->g[i]? =So x,λi H=>∃g,SqT K H a g/\g.length<=i⟩
noncomputable def Itr (lo:Int) (n:Nat):It:=⟨λi _=>i<n,λi H x W=>W=H/\x=.int (lo+i),λi _=>n<=i⟩
def JhA(a it:Addr):Turn P w K tg QaC [it] it (λi h=>h.IsListIter it a i)where
 mem:=by simp
 obj:=λi h g b j=>by
  have e:b=it:=by simpa using j
  subst e
  obtain⟨o,e,c,d⟩:=g
  exact⟨o,e,λv z=>by rw[d]at z;cases z⟩
 keep:=λi h h' g k=>g.at λo e=>k it Ad o e
 item:=by
  intro X y G hK hc i Y s Z H E I m g J;subst y G hK;obtain⟨xs,x,q,r⟩:=J;obtain⟨N,U,p,hz⟩:=I.list q;obtain⟨u,hu,ru⟩:=U.get r;obtain⟨F,L,f2,B,O,f5⟩:=m it Ad;refine wpAny_pyNext_list_item g Yv (x:=u) (by simpa using hu) λh' l sb=>?_;have I1:Inv X Y Z H {s with heap:=h'}:=I.turned (t':=Xv) (λb o j e=>(sb.2 b j).trans e) F L B O f5;obtain⟨o,e,c,d⟩:=id l;exact⟨u,rfl,hX (s:={s with heap:=h'}) e c d AB ⟨x,H,I1,ru,⟨rfl,λys hy=>by rw[I.list_inj hy q];exact r⟩,l,λb j=>(m b j).1⟩⟩
 done:=by
  intro X y G hK hc i Y s Z H E I m g J;subst y G hK;obtain⟨xs,q,r⟩:=J;obtain⟨N,U,p,hz⟩:=I.list q;obtain⟨F,L,f2,B,O,f5⟩:=m it Ad;have hl:=U.length;exact wpAny_pyNext_list_end L7 g Yv BR λh' eb=>⟨rfl,I.turned (t':=Xv) Tq F L B O f5⟩
 self:=λ_ _ _ _ _ g h=>wpAny_pyIter_listiter g h
def Jfk(a it:Addr):Turn P w K tg QaD [it] it (λi h=>h.IsTupleIter it a i)where
 mem:=by simp
 obj:=λi h g b j=>by
  have e:b=it:=by simpa using j
  subst e
  obtain⟨o,e,c,d⟩:=g
  exact⟨o,e,λv z=>by rw[d]at z;cases z⟩
 keep:=λi h h' g k=>g.at λo e=>k it Ad o e
 item:=by
  intro X y G U hc i Y s Z H E I m g J;subst y G U;obtain⟨xs,x,q,r⟩:=J;obtain⟨its,O,p,hz⟩:=I.tuple q;obtain⟨u,hu,ru⟩:=O.get r;obtain⟨F,L,f2,B,N,f5⟩:=m it Ad;refine wpAny_pyNext_tuple_item g (show s.heap.IsTuple a AF from p) (x:=u) (by simpa using hu) λh' l sb=>?_;have I1:Inv X Y Z H {s with heap:=h'}:=I.turned (t':=Xv) (λb o j e=>(sb.2 b j).trans e) F L B N f5;obtain⟨o,e,c,d⟩:=id l;exact⟨u,rfl,hX (s:={s with heap:=h'}) e c d AB ⟨x,H,I1,ru,⟨rfl,λys hy=>by rw[I.tuple_inj hy q];exact r⟩,l,λb j=>(m b j).1⟩⟩
 done:=by
  intro X y G U hc i Y s Z H E I m g J;subst y G U;obtain⟨xs,q,r⟩:=J;obtain⟨its,O,p,hz⟩:=I.tuple q;obtain⟨F,L,f2,B,N,f5⟩:=m it Ad;have hl:=O.length;exact wpAny_pyNext_tuple_end L7 g (show s.heap.IsTuple a its.toArray from p) BR λh' eb=>⟨rfl,I.turned (t':=Xv) Tq F L B N f5⟩
 self:=λ_ _ _ _ _ g h=>wpAny_pyIter_tupleiter g h
theorem JkP(it:Addr)(lo:Int)(n:Nat):Turn P w K tg cO [it] it (λi h=>IsRangeIter h it (lo+(i:Nat)*1) ((n:Int)-(i:Nat)) 1)where
 mem:=by simp
 obj:=λi h g b j=>by
  have e:b=it:=by simpa using j
  subst e
  exact⟨_,g,λv z=>by
   have z':Data.fields _=Data.cell v:=z
   cases z'⟩
 keep:=λi h h' g k=>k it Ad _ g
 item:=by
  intro X q B N L i Y s Z H E I m g F;subst q B N;obtain⟨y,G,f2,r,J,O⟩:=m it Ad;have W9:=Walks.range (prog:=Xz) (w:=X.w) (I.ok.hd L) it lo 1 n;refine W9.item i s _ _ F g λv h' U hv l kk=>?_;obtain⟨t,rfl⟩:=hv;have I1:Inv X Y Z H {s with heap:=h',toks:=U}:=I.turned (λb o j e=>kk b o (by simpa using j) e) y G r J O;refine⟨_,rfl,hX (s:={s with heap:=h',toks:=U}) (n:="range_iterator") l rfl rfl AB ⟨.int (lo+i),H,I1,⟨t,?_⟩,Cw,l,λb j=>(m b j).1⟩⟩;rw[Int.mul_one]
 done:=by
  intro X q B N L i Y s Z H E I m g F;subst q B N;obtain⟨y,G,f2,r,J,O⟩:=m it Ad;exact wpAny_pyNext_range_end (I.ok.hd L) g (by have:n<=i:=F;lia) λh' eb=>⟨rfl,I.turned (t':=Xv) Tq y G r J O⟩
 self:=λ_ _ _ _ _ g h=>wpAny_pyIter_rangeiter g h
theorem Jpq{R:It->Hp->Prop}{lo hi:Int}{t u v:Tok}{tk:Nat}(I:AH)(h1:-(2^62)<=lo)(m:lo<2^62)(g:-(2^62)<=hi)(y:hi<2^62)
  (q:R (Itr lo (hi-lo).toNat) H):wpAny AD X.A (pyIter Fi) QaW E {s with heap:=s.heap.push {cls:=.type "range",data:=.fields #[.int lo t,.int hi u,.int 1 v]},toks:=tk}:=by
 refine wpAny_pyIter_range (IsRange.new ..) (small_one h1 m g y) ?_;have I1:Inv X Y Z H {s with heap:=s.heap.push {cls:=.type "range",data:=.fields #[.int lo t,.int hi u,.int 1 v]},toks:=tk}:=I.kept λb o e=>Zd _ e;refine⟨(s.heap.push {cls:=.type "range",data:=.fields #[.int lo t,.int hi u,.int 1 v]}).objs.size,[(s.heap.push {cls:=.type "range",data:=.fields #[.int lo t,.int hi u,.int 1 v]}).objs.size],_,_,H,rfl,
  I1.kept (t':=tk) λb o e=>Zd _ e,JkP _ lo (hi-lo).toNat,?_,λb l=>?_,q⟩
 ·have r:lo+((0:Nat):Int)*1=lo:=by simp
  have j:(((hi-lo).toNat:Nat):Int)-((0:Nat):Int)=Builtin.Range.rangeSize lo hi 1:=by rw[rangeSize_one];split<;>lia
  show IsRangeIter _ _ (lo+((0:Nat):Int)*1) ((((hi-lo).toNat:Nat):Int)-((0:Nat):Int)) 1;rw[r,j];exact Ze _ rfl
 ·have e:b=(s.heap.push {cls:=.type "range",data:=.fields #[.int lo t,.int hi u,.int 1 v]}).objs.size:=by simpa using l
  subst e;exact I1.fpOk (Zh _) E4
def iRng1 (ta:TA):TI:=λZ H R=>ta Z H λvs g=>∃j:Int,vs=[.int j]/\ -(2^62)<=j/\j<2^62/\R (Itr 0 j.toNat) g
def JmM{a:Expr}{ta:TA}(F:Gl X "range")(l:X.mg "range"=No)(z:PA X [a] ta)(hs:'б' (starEach [a] Ue=[HG]) Ai):PI X tg (.Call (.Name "range" p) [a] [] pos) (iRng1 ta):=by
 intro Y s Z H R I h;refine Call_ (rK I F l boot_range (mQ (thn (z pos Y s Z H _ I h) λus L⟨vs,J,G,y,g⟩=>?_) hs rfl));obtain⟨j,e,g,m,q⟩:=g;subst e;cases y with
 |cons r B=>cases B;obtain⟨t,rfl⟩:=r;exact call_range_1 (Jpq G Af Af g m (by simpa using q))
def tFor(G:TI)(g:TG)(z:TS):TS:=λD Z H=>G Z H λq B=>∃l:Nat->Nat->St->Hp->Prop,(∃m,l 0 m Z B)/\∀i m Z H,l i m Z H->
 (q.stop i H/\D.nx Z H)\/(q.go i H/\∃N:St->Hp->Prop,(∀j W,N j W->∃y,y<m/\l Bw y j W)/\∀x W,q.yld i H x W->g x Z W λr F=>z {D with nx:=N,ct:=N,bk:=D.nx} r F)
noncomputable def zF (fp:A9) (h:Heap):List (Addr×Obj):=fp.filterMap λb=>(h.get? b).map λo=>(b,o)
def JbF{o:Obj}(g:b∈fp)(e:h.get? b=So o):(b,o)∈zF fp h:=mD.mpr ⟨b,g,by rw[e];rfl⟩
def JgL{p:Addr×Obj}(l:p∈zF fp h):p.1∈fp/\h.get? p.1=So p.2:=by
 obtain⟨b,g,e⟩:=mD.mp l;cases q:h.get? b with
 |none=>rw[q]at e;cases e
 |some o=>rw[q]at e;have j:(b,o)=p:=sD e;subst j;exact⟨g,q⟩
def Inv.pinned(I:AH)(l:∀b∈fp,FpOk X Y H b)(r:∀b∈fp,∃o,s.heap.get? b=So o/\∀v,o.data≠.cell v):Inv X (Y++zF fp VU) Z H s:=
 I.pins_of λp B=>(ZK.mp B).elim (λz=>I.pin p (ZP _ z)) λz=>by
  obtain⟨g,e⟩:=JgL z
  obtain⟨q,m,y,_⟩:=l p.1 g
  obtain⟨o,j,d⟩:=r p.1 g
  rw[e]at j;cases j
  exact⟨e,q,m,y,d⟩
def Inv.unpinned{pl:A8}(I:Inv X (Y++pl) Z H s):Inv X Y Z H s:=I.pins_of λp g=>I.pin p (ZP _ (rJ _ g))
def Jrx{q:Expr}{O:BF}{wi:TI}{g:TG}{tb:TS}(hp:Tz)(hc:Cj)(hi:PI X tg q wi)(hg:PG X tg g)(y:PSs X O tb)
  (hs:∀x,foldedSetIterable q Ue x=pure x:=by intro _;rfl):PS X (.For tg q O [] pos) (tFor wi g tb):=by
 intro Y s Z H D I h;refine wpAny_For (thn (hi Y s Z H _ I h) λv s1 h1=>thn h1 λitv s2 h2=>?_) hs;obtain⟨it,fp,tn,J9,H2,e,I2,T,st2,f2,W9,⟨m0,w0⟩,turn⟩:=h2;subst e;have z:∀{W:Hp},(∀b∈fp,W b=No)->∀b∈fp,FpOk X Y W b:=λhn b y=>⟨hn b y,(f2 b y).2⟩;refine codeAny_forLoop_any (λn s'=>∃i F W,Inv X Y F W s'/\tn i X5/\(∀b∈fp,W b=No)/\W9 i n F W) ?_ m0 ⟨0,Z,H2,I2,st2,λb y=>(f2 b y).1,w0⟩;rintro n s3⟨i,G,H3,I3,st3,fr3,w3⟩;rcases turn i n G H3 w3 with⟨stop,qn⟩|⟨go,N,hN,step⟩
 ·refine tL hp (thn (T.done X rfl rfl rfl hc i Y s3 G H3 X.xe I3 (z fr3) st3 stop) λr s4 l=>?_);obtain⟨hr,I4⟩:=l;subst hr;exact wpAny_execs_nil ⟨G,H3,I4,qn⟩
 ·refine tL hp (thn (T.item X rfl rfl rfl hc i Y s3 G H3 X.xe I3 (z fr3) st3 go) λr s4 l=>?_);obtain⟨u,hr,h4⟩:=l;subst hr;refine tL hp (thn h4 λ_ s5 l=>?_);obtain⟨x,H5,I5,r5,y5,U,fr5⟩:=l;have I5':=I5.pinned (z fr5) (T.obj _ _ U);refine tL hp (thn (hg _ s5 G H5 x u _ I5' r5 (step x H5 y5)) λ_ s6 l=>?_);obtain⟨σ6,H6,I6,q6⟩:=l;refine tL hp (thn (y _ s6 σ6 H6 _ I6 q6) λf s7 L=>?_);have again:∀{j:St}{J:Hp},Inv X (Y++zF fp Y2) j J s7->N j J->∃m,m<n/\∃i F W,Inv X Y F W s7/\tn i s7.heap/\(∀b∈fp,W b=No)/\W9 i m F W:=fun{j J}B n7=>by obtain⟨m',hm,w7⟩:=hN j J n7;refine⟨m',hm,i+1,j,J,Qbk,T.keep _ _ _ U λb y o e=>(B.pin (b,o) Qf).1,λb y=>?_,w7⟩;obtain⟨o,e,d⟩:=T.obj _ _ U b y;exact(B.pin (b,o) Qf).2.1
  cases f with
  |next=>obtain⟨j,J,B,n7⟩:=L;exact again B n7
  |cont=>obtain⟨j,J,B,n7⟩:=L;exact again B n7
  |brk=>obtain⟨j,J,B,L⟩:=L;exact⟨j,J,Qbk,L⟩
  |ret v=>obtain⟨x7,j,J,B,r7,L⟩:=L;exact⟨x7,j,J,Qbk,r7,L⟩
noncomputable abbrev R2:=V->V->Hp->VK->Prop
variable{r:R2}
def OpR(X:Cx)(f:J4)(r:R2):Prop:=
 ∀(Y:A8)(s:Al)(Z:St)(H:Hp)(x y:V)(v u:An)(Q:VK),Inv X Y Z H s->RelV x v->RelV y u->r x y H Q->
  wpAny AD X.A (f v u) BP X.xe s
def UnR(X:Cx)(f:Value->Sem Value)(r:V->Hp->VK->Prop):Prop:=
 ∀(Y:A8)(s:Al)(Z:St)(H:Hp)(x:V)(v:An)(Q:VK),Inv X Y Z H s->RelV x v->r x H Q->
  wpAny AD X.A (f v) BP X.xe s
def pA(X:Cx)(f:An)(r:List V->Hp->VK->Prop):Prop:=
 ∀(Y:A8)(s:Al)(Z:St)(H:Hp)(g:Av)(us:AE)(Q:VK),Inv X Y Z H s->Vals g us->r g H Q->
  wpAny AD X.A (call f us) BP X.xe s
def TruR(X:Cx)(r:V->Hp->Mu->Prop):Prop:=
 ∀(Y:A8)(s:Al)(Z:St)(H:Hp)(x:V)(v:An)(Q:Fu),Inv X Y Z H s->RelV x v->r x H Q->
  wpAny AD X.A cQ L8 X.xe s
def tOp(r:R2)(ta j:TE):TE:=λZ H Q=>ta Z H λx g=>j Z g λy l=>r x y l Q
def tUn(r:V->Hp->VK->Prop)(ta:TE):TE:=λZ H Q=>ta Z H λx g=>r x g Q
def rI(C:Int->Int->Prop)(g:Int->Int->V):R2:=λx y H Q=>∃i j,x=.int i/\y=.int j/\C i j/\Q DZ H
def rI0(g:Int->Int->V):R2:=λx y H Q=>∃i j,x=.int i/\y=.int j/\Q DZ H
noncomputable def rU (g:Int->V):V->Hp->VK->Prop:=λx H Q=>∃i,x=.int i/\Q (g i) H
section
variable{a b:Expr}{tb tc:TE}
def binT(ha:Ce)(G:FL){R:V->V->Hp->Prop}(I:AH)
  (h:ta Z H λx z=>tb Z z λy j=>R x y j) {Q:Ay} {f:J4}
  (B:∀v u q x y j,Inv X Y Z j q->RelV x v->RelV y u->R x y j->wpAny AD X.A (f v u) Q X.xe q):
  wpAny AD X.A E3 (λv m=>wpAny AD X.A (eval b Ue) (λu l=>wpAny AD X.A (f v u) Q X.xe l) X.xe m) X.xe s:=by refine thn CQ λv N g=>?_;obtain⟨x,z,I1,J,O⟩:=g;refine thn (G Y N Z z _ I1 O) λu q g=>?_;obtain⟨y,j,L,U,F⟩:=g;exact B v u q x y j L J U F
def pe_op{op:b9}(B:OpR X QdD r)(z:Ce)(j:FL):PE X OD Mx:=by intro Y s Z H Q I h;exact wpAny_BinOp (binT z j I h λv u l x y F m g G q=>B Y l Z F x y v u Q m g G q)
def pe_un{op:UnaryOp}{r:V->Hp->VK->Prop}(l:UnR X (unaryOp op) r)(ha:Ce):PE X (.UnaryOp op a pos) (tUn r ta):=by intro Y s Z H Q I h;exact UnaryOp_ (thn CQ λv g⟨x,m,y,q,j⟩=>l Y g Z m x v Q y q j)
def opI{f:J4}{C:Int->Int->Prop}{g:Int->Int->Int}
  (l:∀(i j:Int)(t u:Tok)(s:Al)(Q:Ay)(E:Ay),C i j->Q Oa {s with toks:=Xv+1}->wpAny AD X.A Tp Q E s):
  OpR X f (rI C λi j=>.int DZ):=by intro Y s Z H x y v u Q I m B h;obtain⟨i,j,rfl,rfl,z,q⟩:=h;obtain⟨t,rfl⟩:=m;obtain⟨t',rfl⟩:=B;exact l i j t t' s _ _ z UG
def opI0{f:J4}{g:Int->Int->Int}
  (l:∀(i j:Int)(t u:Tok)(s:Al)(Q:Ay)(E:Ay),Q Oa {s with toks:=Xv+1}->wpAny AD X.A Tp Q E s):
  OpR X f (rI0 λi j=>.int DZ):=by intro Y s Z H x y v u Q I m z h;obtain⟨i,j,rfl,rfl,q⟩:=h;obtain⟨t,rfl⟩:=m;obtain⟨t',rfl⟩:=z;exact l i j t t' s _ _ UG
def opB0{f:J4}{g:Int->Int->Bool}
  (l:∀(i j:Int)(t u:Tok)(s:Al)(Q:Ay)(E:Ay),Q (.bool DZ) s->wpAny AD X.A Tp Q E s):
  OpR X f (rI0 λi j=>.bl DZ):=by intro Y s Z H x y v u Q I m z h;obtain⟨i,j,rfl,rfl,q⟩:=h;obtain⟨t,rfl⟩:=m;obtain⟨t',rfl⟩:=z;exact l i j t t' s _ _ ⟨.bl DZ,H,I,rfl,q⟩
def CDiv(i j:Int):Prop:=0<j/\j<1073741824
def CMul(i j:Int):Prop:=(-(2^64)<i/\i<2^64)\/(-(2^64)<j/\j<2^64)
def CMul.ok{i j:Int}(h:CMul i j):IntMulOk i j:=by
 rcases h with⟨g,l⟩|⟨g,l⟩
 ·exact .of_left OC
 ·exact .of_right OC
def Jvy:OpR X ML (rI0 λi j=>.int (i+j)):=opI0 λ_ _ _ _ _ _ _ q=>add_int q
def Jyj:OpR X Qbw (rI0 λi j=>.int (i-j)):=opI0 λ_ _ _ _ _ _ _ q=>sub_int q
def JwA:OpR X QaX (rI CMul λi j=>.int (i*j)):=opI λ_ _ _ _ _ _ _ g q=>mul_int q g.ok
def JuW:OpR X OV (rI CDiv λi j=>.int (i / j)):=opI λi j _ _ _ _ _ g q=>by
 have l:(0:Int)<j:=g.1
 have m:j<1073741824:=g.2
 exact floordiv_int Af (by rw[Int.fdiv_eq_ediv_of_nonneg i 'g'];exact q) (.inl (PyProof.noPylong_small Af))
def JxY:OpR X Qbx (rI (λ_ j=>0<j) λi j=>.int (i % j)):=opI λi j _ _ _ _ _ g q=>by
 have l:(0:Int)<j:=g
 exact mod_int' Af (by rw[Int.fmod_eq_emod_of_nonneg i 'g'];exact q)
def unI{f:Value->Sem Value}{g:Int->Int}
  (j:∀(i:Int)(t:Tok)(s:Al)(Q:Ay)(E:Ay),Q (.int (g i) Xv) {s with toks:=Xv+1}->wpAny AD X.A (f cK) Q E s):
  UnR X f (rU λi=>.int (g i)):=by intro Y s Z H x v Q I l h;obtain⟨i,rfl,q⟩:=h;obtain⟨t,rfl⟩:=l;exact j i t s _ _ ⟨.int (g i),H,I.tok _,AS,q⟩
def Jys:UnR X (unaryOp .USub) (rU λi=>.int (-i)):=unI λ_ _ _ _ _ q=>neg_int q
end
section
variable{a b:Expr}{tb tc:TE}
def Jse{Q:VK}{k g:Bool}(I:AH)(q:Q (.bl k) H)(e:k=g):EP X Y Z Q QaE s:=by subst e;exact⟨.bl k,H,I,rfl,q⟩
def op_lt:OpR X Rp (rI0 λi j=>.bl (decide (i<j))):=opB0 λ_ _ _ _ _ _ _ q=>lt_int q
def op_le:OpR X QaY (rI0 λi j=>.bl (decide (i<=j))):=opB0 λ_ _ _ _ _ _ _ q=>le_int q
def op_gt:OpR X Qby (rI0 λi j=>.bl (decide (j<i))):=opB0 λ_ _ _ _ _ _ _ q=>gt_int q
def op_ge:OpR X QaZ (rI0 λi j=>.bl (decide (j<=i))):=opB0 λ_ _ _ _ _ _ _ q=>ge_int q
def Jmp:OpR X Rp (λx y H Q=>∃i j,x=.str i/\y=.str j/\Q (.bl (decide (i.cps.toList<j.cps.toList))) H):=by intro Y s Z H x y v u Q I g l h;obtain⟨i,j,rfl,rfl,q⟩:=h;obtain⟨t,rfl⟩:=g;obtain⟨t',rfl⟩:=l;exact lt_str QdE
def JmV:OpR X Qbz (λx y H Q=>∃i j,x=.str i/\y=.str j/\Q (.bl (!(Builtin.Str.occurrences j i 0 j.length 1).isEmpty)) H):=by intro Y s Z H x y v u Q I g l h;obtain⟨i,j,rfl,rfl,q⟩:=h;obtain⟨t,rfl⟩:=g;obtain⟨t',rfl⟩:=l;exact in_str QdE
def Jbk(b:Expr)(h:'б' (op≠.In) Ey)(h2:'б' (op≠.NotIn) Ey):behindInMarks op b=Fo:=by
 have g:(op==CmpOp.In)=Fo:=by cases op<;>first|rfl|exact absurd rfl h
 have j:(op==CmpOp.NotIn)=Fo:=by cases op<;>first|rfl|exact absurd rfl h2
 cases b<;>first|rfl|(show(_&&(_||_)&&_)=Fo;rw[g,j,qH,iM,gC])
def Jop(F:Qbg)(B:Ce)(l:FL)(g:F4):PE X F3 Mx:=by intro Y s Z H Q I h;exact wpAny_Compare1 (binT B l I h λv u m x y G z j J q=>F Y m Z G x y v u Q z j J q) g
def tTest(t:TE):TT:=λZ H Q=>t Z H λx W=>∃k,x=.bl k/\Q k W
def JtS(ho:Qbg)(ha:Ce)(B:FL)(g:F4):PT X F3 (tTest Mx):=by
 intro Y s Z H Q I h;refine wpAny_isTrue_Compare1 (thn CQ λv N⟨x,q,I1,G,O⟩=>thn (B Y N Z q _ I1 O) λu F⟨y,H2,L,r2,m⟩=>
  thn (ho Y F Z H2 x y v u _ L G r2 m) λc s3⟨z,J,j,l,k,e,U⟩=>?_) g
 subst e;cases l;exact jD ⟨J,j,U⟩
def JrV(r l:R2)(ta tb tc:TE):TE:=λZ H Q=>ta Z H λx m=>tb Z m λy q=>r x y q λz g=>∃k,z=.bl k/\
 (if k=To then tc Z g λB j=>l y B j Q else Q C4 g)
def JpR{g:bM}{q:R2}(ho:Qbg)(j:OpR X (compareOp g) q)(ha:Ce)(hb:FL)(hc:PE X c tc)
  (G:lastMarks [op,g] [b,c]=Fo:=by with_unfolding_all rfl):PE X (.Compare a [op,g] [b,c] pos) (JrV r q ta tb tc):=by
 intro Y s Z H Q I h;refine Compare_chain (thn CQ λv s1⟨x,O,I1,r1,q1⟩=>chain_link (thn (hb Y s1 Z O _ I1 q1) λu U⟨y,H2,I2,F,N⟩=>
  thn (ho Y U Z H2 x y v u _ I2 r1 F N) λd L⟨z,B,m,r3,k,e,l⟩=>?_)) G
 subst e;cases r3;refine jD ?_;cases k with
 |false=>exact ite_ff ⟨.bl Fo,B,m,rfl,l⟩
 |true=>exact ite_tt (chain_last (thn (hc Y L Z B _ m l) λw' s4⟨z',J,I4,r4,q4⟩=>j Y s4 Z J y z' u w' Q I4 F r4 q4))
def TruV(K:Aj)(x:V)(H:Hp)(k:Bool):Prop:=
 match x with
 |.non=>k=Fo
 |.bl b=>k=b
 |.int i=>k=(i !=0)
 |.str y=>Yn<=sizeLine/\k=((Yn:Int)!=0)
 |.byt y=>y.size<=sizeLine/\k=((y.size:Int)!=0)
 |.ref p=>(∃g,SqL K H p g/\k=!g.isEmpty)\/(∃g,SqT K H p g/\k=!g.isEmpty)\/∃kvs,H p=So AN/\k=!kvs.isEmpty
 |_=>False
def JkR{κ:Type}{g:Bt}{vs:Cn}(r:KV g vs):(!vs.isEmpty)=!g.isEmpty:=by cases r<;>rfl
def Jfa{xs:Av}{g:AE}(r:Vals xs g):(!g.toArray.isEmpty)=!xs.isEmpty:=by cases r<;>simp
def xK:(sizeLine:Nat)<2^63:=by rw[ZG];decide
theorem Jyq:TruR X (λx H Q=>∃k,TruV X.K x H k/\Q k H):=by
 intro Y s Z H x v Q I z h;obtain⟨k,e,q⟩:=h;have O:=xK;have N:sizeLine=16777216:=ZG;cases x with
 |non=>cases z;have g:k=Fo:=e;subst g;exact truthy_none dP
 |bl b=>cases z;have g:k=b:=e;subst g;exact jD dP
 |int i=>obtain⟨t,rfl⟩:=z;have g:k=(i !=0):=e;subst g;exact PySem.P.truthy_int dP
 |str y=>obtain⟨t,rfl⟩:=z;obtain⟨J,g⟩:y.length<=sizeLine/\k=((Yn:Int)!=0):=e;subst g;exact PySem.P.truthy_str Af Qb1
 |byt y=>obtain⟨t,rfl⟩:=z;obtain⟨J,g⟩:y.size<=sizeLine/\k=((y.size:Int)!=0):=e;subst g;exact PySem.W.truthy_bytes Af Qb1
 |ref p=>
  cases z;have g:(∃l,SqL X.K H p l/\k=!l.isEmpty)\/(∃l,SqT X.K H p l/\k=!l.isEmpty)\/∃kvs,H p=So AN/\k=!kvs.isEmpty:=e;rcases g with⟨l,B,g⟩|⟨l,B,g⟩|⟨kvs,B,g⟩
  ·subst g;obtain⟨F,r,pl,G⟩:=I.list B;have j:=XF;exact wpAny_truthy_list Ye (by simp only[Zo];lia) ⟨H,I.tok _,by rw[Jfa r];exact q⟩
  ·subst g;obtain⟨F,r,pl,G⟩:=I.tuple B;have j:=XF;exact truthy_tuple pl (by simp only[Zo];lia) ⟨H,I.tok _,by rw[Jfa r];exact q⟩
  ·subst g;obtain⟨G,L,vs,r,m⟩:AV<=sizeLine/\(p==sysModules)=Fo/\∃vs,KV kvs vs/\s.heap.DictOf KY p vs:=I.hok p _ B;have j:AV=AJ:=rH r;exact wpAny_truthy_dict L m Af ⟨H,I.tok _,by rw[JkR r];exact q⟩
 |_=>exact(show False from e).elim
def JqV(ha:Ce)(m:∀g,isTrue a Ue g=(do let v<-g;standAt a.pos;holding [v] cQ)):
  PT X a (λZ H Q=>ta Z H λx W=>∃k,TruV X.K x W k/\Q k W):=by intro Y s Z H Q I h;exact isTrue_plain (thn CQ λv q⟨x,j,z,l,y⟩=>Jyq Y q Z j x v Q z l y) (m _)
def Jlt:OpR X ML (λx y H Q=>∃i j,x=.str i/\y=.str j/\i.length+j.length<=sizeLine/\Q (.str (i++j)) H):=by intro Y s Z H x y v u Q I g m h;obtain⟨i,j,rfl,rfl,l,q⟩:=h;obtain⟨t,rfl⟩:=g;obtain⟨t',rfl⟩:=m;exact add_str (λt' z=>⟨.str (i++j),H,I.tok _,AS,q⟩) l
def Jjl:OpR X (inplaceOp .Add) (λx y H Q=>∃i j,x=.str i/\y=.str j/\i.length+j.length<=sizeLine/\Q (.str (i++j)) H):=by intro Y s Z H x y v u Q I g m h;obtain⟨i,j,rfl,rfl,l,q⟩:=h;obtain⟨t,rfl⟩:=g;obtain⟨t',rfl⟩:=m;exact iadd_str (λt' z=>⟨.str (i++j),H,I.tok _,AS,q⟩) l
def xA{x:V}(r:Vals [x] us):∃u,us=[u]/\RelV x u:=by
 cases r with
 |cons j g=>cases g;exact⟨_,rfl,j⟩
def Jwl{x y:V}(r:Vals [x,y] us):∃u g,us=[u,g]/\RelV x u/\RelV y g:=by
 cases r with
 |cons q m=>
  cases m with
  |cons j l=>cases l;exact⟨_,_,rfl,q,j⟩
end
structure ObjM(h:Heap)(x dx C:Addr)(mA:Bk):Prop where
 obj:h.get? x=So PV
 ns:h.Ns1 dx mA
 ne:dx≠x
def Jmk(n:h.Ns1 dx mA):∃j,h.get? dx=So j/\∀name,PySem.W.lookIn name j=So (mA name):=by
 obtain⟨o,es,J,G,F,m,_,l⟩:=n;refine⟨o,G,λname=>?_⟩;have e:=l name;unfold nsFind findBy at e;rw[<-Array.find?_toList]at e;unfold PySem.W.lookIn;rw[F];dsimp only;split
 ·rename_i y q;rw[q]at e;exact kA So e
 ·rename_i q;rw[q]at e;have a:es.toList.any (·.refKey)=Fo:=by rw[List.any_eq_false];intro y B;obtain⟨z,t,g⟩:=m y (Array.mem_toList_iff.mp B);simp[DictEntry.refKey,g]
  have I:¬es.toList.any (·.refKey)=To:=by rw[a];exact ZH
  rw[if_neg I];exact kA So e
def ObjM.look{x:Addr}(I:ObjM h x dx C mA):∃g,PySem.W.InstAt h x PV C (So g)/\∀name,PySem.W.lookIn name g=So (mA name):=
 let⟨g,l,j⟩:=Jmk I.ns
 ⟨g,⟨I.obj,rfl,rfl,l⟩,j⟩
section
variable{x:Addr}{name:Str}{v:An}
def JtG{g:Bool}{Q:Ay}(X:LK)(I:SS)(q:PySem.W.plainGet K C name=To)(z:PySem.W.hasDictIn K C=To)
  (B:PySem.W.findIn K BL name=So No) (m:mA name=So v) (j:PySem.W.handedIn v=To) (h:Q v {s with toks:=Xv+1}):
  wpAny Au A (getAttr Gr name g) Q E s:=by obtain⟨F,l,y⟩:=I.look;exact PySem.W.get_value X l (PySem.W.plainGet_of q).1 (PySem.W.findObj_own z B rfl (by rw[y,m])) j h
def Jrd{pl:Cb}{Q:Value×List Value->Shared->Prop}(X:LK)(I:SS)(g:PySem.W.plainGet K C name=To)
  (j:PySem.W.findIn K BL name=So EN) (z:PySem.W.isFn K Br=To) (q:mA name=No) (h:Q (.ref f,[.ref x]) s):
  wpAny Au A (getMethod Gr name pl) Q E s:=by obtain⟨l,m,y⟩:=I.look;exact PySem.W.method_fn X m (PySem.W.plainGet_of g).1 (PySem.W.plainGet_of g).2 j (ZI.mp z) (by show(PySem.W.lookIn name l).map (·.isSome)=So Fo;rw[y,q];rfl) h
theorem Jvi{ns:Ac}{Q:Dl}(X:LK)(I:SS)
  (hs:PySem.W.findIn K BL "__setattr__"=So T3) (hp:PySem.W.plainOver K C=To) (G:PySem.W.takerIn K C name=So No) (U:PySem.W.hasDictIn K C=To)
  (L:PySem.Within mA ns) (hsz:AK<=sizeLine)
  (h:∀h',ObjM h' x dx C (λy=>if y=name then So v else mA y)->Heap.SameBut dx VU h'->Q () {s with heap:=h',toks:=Xv+2}):
  wpAny Au A (setAttr Gr name v) Q E s:=by obtain⟨od,B,hl⟩:=I.look;refine PySem.W.set_plain X B hs (PySem.W.osa_open (s:={s with toks:=Xv+1}) (r:=No) X B hp G λb=>?_);obtain⟨cd,J,m⟩:=PySem.W.any_some U;have F:s.heap.get? x=So ⟨.ref C,So dx,.plain,#[]⟩:=I.obj;refine Za (Zb (Za (Za (wpAny_loadPart F (Za (PySem.W.Looks.here (s:={s with toks:=Xv+1}) (PySem.W.looks_clsIn X J) ?_))))));rw[m];refine Zb (a:=So dx) (Za (Zb (Za ?_)));refine wpAny_nsSet1 (s:={s with toks:=Xv+1}) I.ns λh' j g=>?_;obtain⟨oD,O,N,q,l,z⟩:=j.count (PySem.Within.cons name v L);refine Za (wpAny_lookBehind q (by rw[l];exact pastItsLine_dict (Zq z (by rw[Zk];lia))) ?_);exact Zb (h _ ⟨(g.2 _ (Ne.symm I.ne)).trans I.obj,j,I.ne⟩ g)
def JpQ{R:Ke}{vs:AE}(X:LK)(l:PySem.W.makesIn K C=To)
  (hi:PySem.W.findIn K BL "__init__"=So EN) (m:PySem.W.typeIn K Br=So (.type "function"))
  (h:codeAny Au (A.under (.builtin "type.__call__" ⟨.ref C::vs,kw⟩)) (.call Br ⟨.ref DU::vs,kw⟩) (PySem.W.InitBack DU R)
   {s with heap:='ŷ'.push Mg}):
  codeAny Au A (.call BL ⟨vs,kw⟩) R s:=by obtain⟨q,g,d,t,y⟩:=s;exact PySem.W.make_core (PySem.W.makes_of X l) (PySem.W.looks_findIn X hi) (λj=>PySem.W.bind_fn X j m) Be h
end
noncomputable def putF (f:Str) (v:V):List (Str×V)->List (Str×V)
 |[]=>[(f,v)]
 |(g,x)::r=>if g=f then(g,v)::r else(g,x)::putF f v r
theorem JdU(f g:Str)(v:V):∀fs:List (Str×V),(putF f v fs).lookup g=if g=f then So v else fs.lookup g
 |[]=>by
  show List.lookup g [(f,v)]=_
  by_cases h:g=f
  ·have j:(g==f)=To:=ZI.mpr h
   simp only[List.lookup,j,if_pos h]
  ·have j:(g==f)=Fo:=ZA.mpr h
   simp only[List.lookup,j,if_neg h]
 |(k,x)::r=>by
  have m:=JdU f g v r
  rw[show putF f v ((k,x)::r)=(if k=f then(k,v)::r else(k,x)::putF f v r)from rfl]
  by_cases l:k=f
  ·rw[if_pos l]
   by_cases h:g=k
   ·have j:(g==k)=To:=ZI.mpr h
    simp only[List.lookup,j,if_pos (h.trans l)]
   ·have j:(g==k)=Fo:=ZA.mpr h
    simp only[List.lookup,j,if_neg (λe:g=f=>h (e.trans l.symm))]
  ·rw[if_neg l]
   by_cases h:g=k
   ·have j:(g==k)=To:=ZI.mpr h
    simp only[List.lookup,j,if_neg (λe:g=f=>l (h.symm.trans e))]
   ·have j:(g==k)=Fo:=ZA.mpr h
    simp only[List.lookup,j]
    exact m
theorem JdM(f:Str)(v:V):∀fs:List (Str×V),f∈(putF f v fs).map (·.1)/\∀g,g∈fs.map (·.1)->g∈(putF f v fs).map (·.1)
 |[]=>⟨by simp[putF],λg h=>by simp at h⟩
 |(k,x)::r=>by
  obtain⟨m,l⟩:=JdM f v r
  rw[show putF f v ((k,x)::r)=(if k=f then(k,v)::r else(k,x)::putF f v r)from rfl]
  by_cases j:k=f
  ·rw[if_pos j]
   subst j
   exact⟨by simp,λg h=>by simpa using h⟩
  ·rw[if_neg j]
   refine⟨?_,λg h=>?_⟩
   ·rw[Zg]
    exact Zm _ m
   ·rw[Zg]at h⊢
    rcases Zf.mp h with e|e
    ·exact Zf.mpr QcY
    ·exact Zm _ (l g e)
theorem JbN(f:Str)(v:V):∀fs:List (Str×V),(putF f v fs).length<=aO+1
 |[]=>by simp[putF]
 |(k,x)::r=>by
  have j:=JbN f v r
  rw[show putF f v ((k,x)::r)=(if k=f then(k,v)::r else(k,x)::putF f v r)from rfl]
  by_cases g:k=f
  ·rw[if_pos g,Zk,Zk];lia
  ·rw[if_neg g,Zk,Zk];lia
def RelO.some_of{o:LX}(r:RelO BO o):∃u,o=So u/\RelV v u:=by
 cases o with
 |none=>exact(show False from r).elim
 |some u=>exact⟨u,rfl,r⟩
def RelO.none_of{o:LX}(r:RelO No o):o=No:=by
 cases o with
 |none=>rfl
 |some u=>exact(show False from r).elim
def Jod(r:Fs):PySem.W.handedIn u=To:=by
 cases v with
 |non=>cases(show u=Xx from r);rfl
 |bl b=>cases(show u=Value.bool b from r);rfl
 |int i=>obtain⟨t,e⟩:=(show∃t,u=Value.int i t from r);cases e;rfl
 |str x=>obtain⟨t,e⟩:=(show∃t,u=Value.str x t from r);cases e;rfl
 |byt b=>obtain⟨t,e⟩:=(show∃t,u=Value.bytes b t from r);cases e;rfl
 |flt b=>obtain⟨t,e⟩:=(show∃t,u=Value.float b t from r);cases e;rfl
 |ref a=>cases(show u=Value.ref a from r);rfl
 |ty n=>cases(show u=Value.type n from r);rfl
section
variable{fs fs':List (Str×V)}
def JiU(g:BE)(e:H a=So DY):∃mA,ObjM h a dx C mA/\(∀f,RelO IG (mA f))/\PySem.Within mA (fs.map (·.1))/\fs.length<=1000/\H dx=So aX:=by obtain⟨d,z,ne,ob,mA,n,r,q⟩:=(show ObjOk P w H h a DY from g a _ e);exact⟨mA,⟨ob,n,ne⟩,r,q,z,d⟩
end
structure Cls(K:Aj)(C:Addr):Prop where
 pg:PySem.W.plainGet K C Yf=To
 hd:PySem.W.hasDictIn K C=To
 po:PySem.W.plainOver K C=To
 sa:PySem.W.findIn K BL "__setattr__"=So T3
def Cls.get{K:Aj}{C:Addr}(c:Y1)(f:Str):PySem.W.plainGet K C f=To:=c.pg
def NoAttr(K:Aj)(C:Addr)(f:Str):Prop:=PySem.W.findIn K BL f=So No
def NoAttr.taker{f:Str}(n:NoAttr K C f):PySem.W.takerIn K C f=So No:=by unfold PySem.W.takerIn;rw[show PySem.W.findIn K '3' f=So No from n];rfl
structure Meth(K:Aj)(C:Addr)(m:Str)(f:Addr):Prop where
 at_:PySem.W.findIn K BL m=So EN
 fn:PySem.W.isFn K Br=To
 kp:PySem.W.keepIn K Br=To
section
variable{fs:List (Str×V)}{f:Str}
def Jlp{b:Bool}{Q:Ay}(I:AH)(e:H a=So DY)(c:IJ)(n:NoAttr X.K C f)(l:fs.lookup f=So v)
  (h:∀u g,Inv X Y Z H g->RelV v u->Q u g):wpAny AD A (getAttr Ar f b) Q E s:=by obtain⟨mA,m,r,_,_,_⟩:=JiU XD e;obtain⟨u,q,j⟩:=RelO.some_of (v:=v) (o:=mA f) (by rw[<-l];exact r f);exact JtG Yx m (c.get f) c.hd n q (Jod j) (h u _ C8 j)
def JeX{m:Str}{g:Addr}{pl:Cb}{Q:Value×List Value->Shared->Prop}(I:AH)(e:H a=So DY)(c:IJ)(k:Meth X.K C m g)(l:fs.lookup m=No)
  (h:Q (.ref g,Cs) s):wpAny AD A (getMethod Ar m pl) Q E s:=by obtain⟨mA,j,r,_,_,_⟩:=JiU XD e;have q:mA m=No:=RelO.none_of (by rw[<-l];exact r m);exact Jrd Yx j (c.get m) k.at_ k.fn q h
theorem JkU{y:V}{Q:Dl}(I:AH)(e:H a=So DY)(c:IJ)(n:NoAttr X.K C f)(hl:fs.length<1000)(O:CJ)
  (h:∀m,Inv X Y Z (upd H a QE) m->Q () m):wpAny AD A (setAttr Ar f u) Q E s:=by
 obtain⟨mA,l,r,F,_,B⟩:=JiU XD e;have G:(fs.map (·.1)).length<=sizeLine:=by rw[Zi,ZG];lia
 refine Jvi Yx l c.sa c.po n.taker c.hd F G λh' j sb=>h _ ?_;have J:∃o,h'.get? dx=So o:=let⟨o,_,_,U,_⟩:=j.ns;⟨o,U⟩;refine I.write (x:=a) (e:=dx) (by rw[e];exact ZT) (.inr B) (λb q L z=>(sb.2 b L).trans z) J ?_;refine⟨by rw[Jb l.ne];exact B,?_,l.ne,j.obj,_,j.ns,λg=>?_,λg N=>?_⟩
 ·have:=JbN f y fs;lia
 ·show RelO ((putF f y fs).lookup g) (if g=f then So u else mA g);rw[JdU];by_cases q:g=f
  ·rw[if_pos q,if_pos q];exact O
  ·rw[if_neg q,if_neg q];exact r g
 ·by_cases q:g=f
  ·rw[q];exact(JdM f y fs).1
  ·refine(JdM f y fs).2 g (F g λz=>N ?_);show(if g=f then So u else mA g)=No;rw[if_neg q];exact z
def Inv.made(I:AH):Inv X Y Z (upd (upd H Aa (.own DU)) DU (.ins C Aa []))
  {s with heap:='ŷ'.push Mg}:=by
 have g:'ŷ'.get? Aa=So Y7:=Ze VU rfl;have l:('ŷ'.push Mg).get? DU=So Mg:=by have:=Ze 'ŷ' (o:=PySem.W.instObj C Aa) rfl;rwa[ZL]at this
 have z:'ŷ'.Ns Aa Qdd:=⟨Y7,#[],_,g,rfl,(λe B=>absurd B Ad),λ_=>rfl⟩;have j:=I.laid (a:=Aa) (o:=.own DU) (h':=s.heap.push Y7) (t':=Xv) OB (Zh _) ⟨_,g⟩;refine j.laid (a:=Aa+1) (o:=.ins C Aa []) (t':=Xv) OB (Nat.le_of_eq (ZL _ _)) ?_;have ne:Aa≠Aa+1:=Zu YS;refine⟨by rw[Jb ne,Je],vB _,ne,l,λ_=>No,(Heap.Ns1.of_empty z).at λo q=>Zd _ q,λ_=>ZT,λy m=>absurd rfl m⟩
def Jtq{O:Env}{f:Str}{Q:Ay}(j:attributeBase e f O cR=eval e O)
  (h:wpAny Au A cR (λo g=>wpAny Au A (getAttr o f To) Q E g) E s):wpAny Au A (eval SW O) Q E s:=
 Attribute_any_ h (by rw[arm_eval_Attribute,j])
end
def tFld(K:Aj)(ta:TE)(f:Str):TE:=λZ H Q=>ta Z H λx g=>∃a C dx fs v,x=.ref a/\g a=So DY/\Cls K C/\NoAttr K C f/\fs.lookup f=So v/\Q v g
def sFld(K:Aj)(ta j:TE)(f:Str):TS:=λD Z H=>j Z H λy l=>ta Z l λx g=>∃a C dx fs,x=.ref a/\g a=So DY/\Cls K C/\NoAttr K C f/\fs.length<1000/\
 D.nx Z (upd g a QE)
def InOp(X:Cx)(op:b9)(g:V->V->Hp->VK->Prop):Prop:=
 ∀(Y:A8)(s:Al)(Z:St)(H:Hp)(x y:V)(u v:An)(Q:VK),Inv X Y Z H s->RelV x u->RelV y v->g x y H Q->wpAny AD X.A (inplaceOp op u v) BP X.xe s
section
variable{o value:Expr}{f:Str}{pos' tpos:Pos}{tv:TE}
def JeP(he:PE X e ta)(y:attributeBase e f Ue MD=eval e Ue):PE X SW (tFld X.K ta f):=by intro Y s Z H Q I h;refine Jtq y (thn FG λu N g=>?_);obtain⟨x,m,G,j,a,C,dx,fs,v,ex,B,c,n,l,q⟩:=g;subst ex;obtain rfl:u=Value.ref a:=j;exact Jlp G B c n l λJ L z F=>⟨v,m,z,F,q⟩
def rR(F:Qdh)(L:HR)(hs:swapsWith value (So (.Attribute o f pos')) XH Ue=pure Fo):PS X (.Assign [.Attribute o f pos'] value pos) (sFld X.K ta tv f):=by intro Y s Z H D I h;refine plainObj_wpAny_Assign_Attribute (thn (L Y s Z H _ I h) λu J⟨y,B,U,O,q⟩=>thn (F Y J Z B _ U q) λm s2⟨x,H2,G,j,a,C,dx,fs,ex,N,c,n,l,z⟩=>?_) hs;subst ex;obtain rfl:m=Value.ref a:=j;exact JkU G N c n l O λs3 g=>⟨Z,_,g,z⟩
end
structure Room(k:Nat)(A:Bv):Prop where
 hd:A.handled=No
 dp:A.depth+3*k+5<recursionLimit
 un:A.units+16*k+200<cLine
theorem Room.mono{j:Nat}(r:Room k A)(h:j<=k):Room j A:=⟨r.hd,by have:=r.dp;lia,by have:=r.un;lia⟩
theorem Room.deeper(r:Qdi)(O:Env):Room k (A.deeper O):=
 ⟨r.hd,by have:=r.dp;show A.depth+1+3*k+5<_;lia,by have:=r.un;show A.units+3+16*k+200<_;lia⟩
theorem Room.in1(r:Qdi):Room k XI:=
 ⟨r.hd,by have:=r.dp;show A.depth+3*k+5<_;lia,by have:=r.un;show A.units+1+16*k+200<_;lia⟩
def JlC:(A.under (.builtin "type.__call__" ⟨.ref C::us,kw⟩)).depth=A.depth+1:=by first|rfl|simp[Around.under,Code.weight,Code.isCreation,Code.isGuard,Code.isCaller,Code.frames,Code.isFrame,guardIds]
def Jle:(A.under (.builtin "type.__call__" ⟨.ref C::us,kw⟩)).units=Yy+1:=by first|rfl|simp[Around.under,Code.cUnits,Code.frames,Code.isFrame]
theorem Room.make(r:Qdi)(C:Addr)(us:AE)(kw:Kf):Room k (A.under (.builtin "type.__call__" ⟨.ref C::us,kw⟩)):=
 ⟨r.hd,by have:=r.dp;rw[JlC];lia,by have:=r.un;rw[Jle];lia⟩
theorem Room.depth(r:Room k A):A.depth<recursionLimit:=by have:=r.dp;lia
theorem Room.units(r:Room k A):A.units+64<cLine:=by have:=r.un;lia
def tNil:TA:=λ_ H Q=>Q [] H
def uQ(ta:TE)(tr:TA):TA:=λZ H Q=>ta Z H λx j=>tr Z j λg l=>Q (x::g) l
def mE:PA X [] tNil:=λ_ _ _ _ H Q I h=>xP ⟨[],H,I,.nil,h⟩
def JP(ha:FK)(y:aM)(hs:CG):PA X Gi (uQ te t):=by intro pos Y s Z H Q I h;rw[hs];show wpAny _ _ (spliced (Xh::backTo pos Lv)) _ _ s;refine zL (thn CQ λu z g=>?_);obtain⟨x,l,L,m,B⟩:=g;exact thn (y pos Y z Z l _ L B) λus N⟨F,G,q,J,j⟩=>⟨x::F,G,q,.cons m J,j⟩
def tTup(t:TA):TE:=λZ H Q=>t Z H λxs g=>Ah<=sizeLine/\∀p,g p=No->Q EF (upd g p Bb)
def tLst(t:TA):TE:=λZ H Q=>t Z H λxs g=>Ah<=sizeLine/\∀p,g p=No->Q EF (upd g p AA)
def Jyu{x1}(h:aM):PE X (.Tuple es x1 pos) (tTup t):=by intro Y s Z H Q I m;refine wpAny_Tuple_spliced (thn Pl λus s1⟨xs,g,j,r,z,q⟩=>⟨by rw[<-r.length];exact z,?_⟩);have l:g Ax=No:=j.hok.fresh (Zh _);refine⟨.ref Ax,upd g Ax Bb,j.laid (t':=X6) OA (Zh _) ?_,rfl,q _ l⟩;exact⟨⟨z,uR⟩,us,r,⟨_,Ze _ rfl,rfl,_,rfl⟩⟩
def Jsk(h:aM):PE X Qb9 (tLst t):=by intro Y s Z H Q I m;refine wpAny_List_spliced (thn Pl λus s1⟨xs,g,j,r,z,q⟩=>⟨by rw[<-r.length];exact z,?_⟩);have l:g Ax=No:=j.hok.fresh (Zh _);refine⟨.ref Ax,upd g Ax AA,j.laid (t':=X6) OA (Zh _) ?_,rfl,q _ l⟩;exact⟨z,us,0,r,Ze _ rfl⟩
noncomputable abbrev Sp:=List V->Hp->VK->XK->Prop
noncomputable abbrev CXT:=List Env->Hp->Shared->XK->Value->Shared->Prop
structure Env0(P:Ba)(w:AQ)(K:Aj)(mg:Bk)(base:Heap)(A:Bv)(outer:Bq)(s:Al)(H:Hp):Prop where
 frames:A.frames=So outer
 mod:Mod K mg base
 bs:∀b o,base.get? b=So o->s.heap.get? b=So o/\H b=No
 bsz:base.objs.size<=Aa
 funs:s.heap.FunFrames base outer
 frf:∀b∈frs outer,H b=No
 hok:HOk P w H VU
 bare:AllBare Y6
inductive CE(outer:Bq)(P:Ba)(w:AQ)(H:Hp)(s:Al)(Q:VK)(u:An)(s':Al):Prop where
 |mk (v:V) (H':Hp):s'.os=s.os->AllBare s'.gens->Un (frs outer) [] H H' s.heap s'.heap->HOk P w H' s'.heap->RelV v u->Q v H'->CE outer P w H s Q u s'
variable{CX:CXT}
def CR(CX:CXT)(g:Bq)(P:Ba)(w:AQ)(H:Hp)(s:Al)(Q:VK)(E:XK)(r:Result)(j:Al):Prop:=
 match r with
 |.ok (.ret u)=>CE g P w H s Q u j
 |.ok _=>False
 |.error e=>CX g H s E e j
structure FnOk(P:Ba)(w:AQ)(K:Aj)(mg:Bk)(base:Heap)(CX:CXT)(k:Nat)(f:Addr)(fd:BG)(ps:Ac)(sp:Sp):Prop where
 len:∀vs H Q E,sp vs H Q E->AJ=Aq
 run:∀(A:Bv)(outer:Bq)(s:Al)(H:Hp)(args:Args)(us:AE)(vs:Av)(Q:VK)(E:XK),Room k A->Env0 P w K mg base A outer s H->BindsTo s fd args (ps.zip us)->Vals vs us->sp vs H Q E->
  codeAny Bp A (.call Br args) (CR CX outer P w H s Q E) s
def FnOk.imp{sp l:Sp}(F:FnOk P w K mg base CX k f fd ps sp)
  (h:∀vs H Q E,l vs H Q E->sp vs H Q E):FnOk P w K mg base CX k f fd ps l:=
 ⟨λvs H Q E q=>F.len vs H Q E (h _ _ _ _ q),λA g s H j us vs Q E B z y G m=>F.run A g s H j us vs Q E B z y G (h _ _ _ _ m)⟩
def Env0.make{g:Bq}(e:Env0 P w K mg base A g s H)(C:Addr)(us:AE)(kw:Kf):
  Env0 P w K mg base (A.under (.builtin "type.__call__" ⟨.ref C::us,kw⟩)) g s H:=⟨by first|exact e.frames|(simpa[Around.under,Code.envs,Code.isFrame,pushEnvs]using e.frames),e.mod,e.bs,e.bsz,e.funs,e.frf,e.hok,e.bare⟩
section
variable{s':Al}
def Inv.env0(I:AH):Env0 Xz X.w X.K X.mg X7 X.A XB s H:=
 ⟨dQ,cD,I.bs,Zq I.ok.bsz I.sz,I.stack,I.stkFree,XD,X8⟩
def Inv.after{Q:VK}(I:AH)(h:CE XB Xz X.w H s Q u s'):EP X Y Z Q u s':=by obtain⟨v,W,y,j,un,m,r,q⟩:=h;obtain⟨B,g,d,t,l⟩:=s';obtain rfl:l=s.os:=y;exact⟨v,W,I.call (h':=B) (g':=g) (d':=d) (t':=t) (ch:=[]) un m j Qe,r,q⟩
end
def tCall(sp:Sp)(g:Av)(E:XK)(t:TA):TE:=λZ H Q=>t Z H λvs j=>sp (vs++g) j Q E
def wQ(C:Addr)(m:Str)(sp:Sp)(g:Av)(E:XK)(ta:TE)(t:TA):TE:=λZ H Q=>ta Z H λx j=>∃a dx fs,x=.ref a/\j a=So DY/\fs.lookup m=No/\
 t Z j λvs l=>sp (x::(vs++g)) l Q E
def tMake(C:Addr)(sp:Sp)(j:Av)(E:XK)(t:TA):TE:=λZ H Q=>t Z H λvs g=>∀x dx,g x=No->g dx=No->dx≠x->
 sp (.ref x::(vs++j)) (upd (upd g dx Gq) x Qca) (λv l=>v=.non/\Q Gr l) E
def Binds(K:Aj)(fd:BG)(ps:Ac)(J:AE):Prop:=
 ∀(s:Al)(us:AE),K.In s.heap->(us++J).length=Aq->BindsTo s fd LH (ps.zip (us++J))
def Binds.all(h:∀us:List Value,Qdw=Aq->bindArgs fd LH=pure LS):Binds K fd ps []:=λs us _ g=>by
 rw[pE]at g⊢
 exact .of_eq (h us g)
def Jck(CX:CXT)(X:Cx)(E:XK):Prop:=∀(Y:A8)(Z:St)(H:Hp)(s:Al)(e:An)(g:Al),Inv X Y Z H s->CX XB H s E e g->X.xe e g
section
variable{sp:Sp}{dvs:Av}{J:AE}{E:XK}{m:Str}{apos:Pos}{o:Expr}
def eY{Q:VK}(F:Hv)(l:Gm)(G:Hn)(z:GI)(q:GG)
  (I:AH) (r:Qbh) (h:sp (vs++dvs) H Q E):wpAny AD X.A (call Br us) BP X.xe s:=by
 have j:Vals (vs++dvs) (us++J):=r.append z;have B:(us++J).length=Aq:=by rw[<-j.length];exact F.len _ _ _ _ h
 refine wpAny_call (kG (F.run X.A XB s H LH (us++J) (vs++dvs) Q E l I.env0 (G s us Yx B) j h) λr y g=>?_);cases r with
 |error e=>exact q Y Z H s e y I g
 |ok fl=>
  cases fl with
  |ret u=>exact I.after g
  |next=>exact False.elim g
  |brk=>exact False.elim g
  |cont=>exact False.elim g
def JoU(F:Hv)(N:Gm)(O:Yt)(l:X.mg x=So Br)(z:PySem.W.keepIn X.K Br=To)(G:Hn)(B:GI)(y:GG)
  (L:IT) (g:DW) (he:CG) (hpl:'б' ('Ķ'.any (·.1)=Fo) Ai):
  PE X TK (tCall sp dvs E t):=by intro Y s Z H Q I h;refine gP (nS I O l ?_ g);refine PySem.W.callWith_K (h₀:=X7) I.ok.mod.kin z (thn (L pos Y s Z H _ I h) λus s1⟨vs,U,j,r,q⟩=>⟨j.kIn,?_⟩) he hpl;exact eY F N G B y j r q
def JiP{pl:Cb}(he:Qdh)(c:IJ)(j:Meth X.K C m f)(F:Hv)(hr:Gm)(hb:Hn)(O:GI)(B:GG)(ha:IT)
  (g:CG) (hpl:'б' ('Ķ'.any (·.1)=Fo) Ai)
  (ht:'б' (eval Qd Ue=(do
   let ov<-eval o Ue
   standAt XM
   let(f,first)<-holding [ov] CN
   callWith pos f first 'μ' Dg)) Ai):
  PE X Qd (wQ C m sp dvs E ta t):=by intro Y s Z H Q I h;refine PySem.W.methodCall_KW (pl:=pl) (thn FG λu U⟨x,N,z,G,a,dx,fs,ex,ea,l,q⟩=>?_) ht;subst ex;obtain rfl:u=Value.ref a:=G;refine JeX z ea c j l ?_;refine PySem.W.callWith_K (first:=Cs) (h₀:=X7) I.ok.mod.kin j.kp (thn (ha pos Y U Z N _ z q) λus s2⟨vs,H2,y,r,L⟩=>⟨y.kIn,?_⟩) g hpl;exact eY (us:=.ref a::us) (vs:=.ref a::vs) F hr hb O B y (.cons rfl r) L
def Jkk{pl:Cb}(he:Qdh)(c:IJ)(j:Meth X.K C m f)(F:Hv)(L:Gm)(G:Hn)(B:GI)(y:GG)
  (O:'б' (eval PU Ue=(do
   let ov<-eval o Ue
   standAt XM
   let(f,first)<-holding [ov] CN
   callWith pos f first 'д' Dg)) Ai):
  PE X PU (wQ C m sp dvs E ta tNil):=by intro Y s Z H Q I h;refine PySem.W.methodCall_KW (pl:=pl) (thn FG λu s1⟨x,U,g,z,a,dx,fs,ex,N,l,q⟩=>?_) O;subst ex;obtain rfl:u=Value.ref a:=z;refine JeX g N c j l ?_;exact PySem.W.callWith_K0 (first:=Cs) g.kIn j.kp (eY (us:=Cs) (vs:=Cs) F L G B y g RG q)
structure Mk(K:Aj)(C f:Addr):Prop where
 makes:PySem.W.makesIn K C=To
 init:PySem.W.findIn K BL "__init__"=So EN
 fn:PySem.W.isFn K Br=To
 kp:PySem.W.keepIn K BL=To
def Jpe{Q:VK}(M:Mk X.K C f)(F:Hv)(O:Room AZ X.A)(L:Hn)(B:GI)
  (y:GG) (I:AH) (r:Qbh)
  (h:∀x dx,H x=No->H dx=No->dx≠x->sp (.ref x::(vs++dvs)) (upd (upd H dx Gq) x Qca) (λv H2=>v=.non/\Q Gr H2) E):
  wpAny AD X.A (call BL us) BP X.xe s:=by
 have l:=h DU Aa (I.hok.fresh (mC _)) E1 (Zu YS);have j:=Inv.made (C:=C) I;have q:Vals (V.ref DU::(vs++dvs)) (Value.ref DU::(us++J)):=.cons rfl (r.append B);have G:(Value.ref DU::us++J).length=Aq:=by have e:=q.length;rw[F.len _ _ _ _ l]at e;exact e.symm
 refine wpAny_call (JpQ (f:=f) Yx M.makes M.init (ZI.mp M.fn) (kG (F.run _ XB _ _ ⟨Value.ref DU::us,[]⟩ (Value.ref DU::(us++J)) _ _ E (O.make C us [])
  (j.env0.make C us []) (L _ (Value.ref DU::us) j.kIn G) q l) λr U g=>?_))
 cases r with
 |error e=>exact y Y Z _ _ e U j g
 |ok fl=>
  cases fl with
  |ret u=>obtain⟨v,W,z,N,ev,q3⟩:=j.after g;subst ev;exact⟨N,⟨V.ref DU,W,z,rfl,q3⟩⟩
  |next=>exact False.elim g
  |brk=>exact False.elim g
  |cont=>exact False.elim g
def Jkn(M:Mk X.K C f)(F:Hv)(l:Room AZ X.A)(y:Yt)(j:X.mg x=So BL)(B:Hn)(z:GI)(q:GG)
  (g:DW):PE X (.Call (.Name x p) [] [] pos) (tMake C sp dvs E tNil):=by intro Y s Z H Q I h;refine gP (nS I y j ?_ g);exact PySem.W.callWith_K0 Yx M.kp (Jpe (us:=[]) M F l B z q I .nil h)
end
structure FnScope(N P:Ac)(sc:Bf):Prop where
 kind:sc.kind=.function
 co:sc.isCoroutine=Fo
 gen:sc.isGenerator=Fo
 nd:N.Nodup
 pre:N.take P.length=P
 par:∀x∈P,sc.names.lookup x=So .local\/sc.names.lookup x=So .cell
 nofree:∀y∈sc.names,y.2≠.free
theorem Jhx{g:Str->Option NameKind}:∀{binds:Kf}{m:Bk},(∀v,(x,v)∉binds)->bindL g binds m x=m x
 |[],_,_=>rfl
 |(n,v)::r,m,h=>by
  unfold bindL
  rw[Jhx λw j=>h w (Zm _ j)]
  split
  ·have:x≠n:=by rintro rfl;exact h v fC
   simp[this]
  ·rfl
theorem Jhz{g:Str->Option NameKind}:∀{binds:Kf}{m:Bk},(∀v,(x,v)∉binds)->bindC g binds m x=m x
 |[],_,_=>rfl
 |(n,v)::r,m,h=>by
  unfold bindC
  rw[Jhz λw j=>h w (Zm _ j)]
  split
  ·rfl
  ·have:x≠n:=by rintro rfl;exact h v fC
   simp[this]
theorem JhI{g:Str->Option NameKind}{x:Str}{v:An}:∀{P:Ac}{vs:AE}{i:Nat}{m:Bk},P.Nodup->P[i]? =So x->vs[i]? =So v->g x=So .local->
  bindL g (P.zip vs) m x=So v
 |[],_,_,_,_,h,_,_=>by simp at h
 |_::_,[],_,_,_,_,h,_=>by simp at h
 |p::P,w::vs,0,m,nd,h1,h2,hk=>by
  simp at h1 h2;subst h1;subst h2
  show bindL g ((p,w)::P.zip vs) m p=_
  unfold bindL
  rw[Jhx λv j=>(oB.mp nd).1 (List.of_mem_zip j).1,if_pos hk]
  simp
 |p::P,w::vs,i+1,m,nd,h1,h2,hk=>by
  show bindL g ((p,w)::P.zip vs) m x=_
  unfold bindL
  exact JhI (i:=i) (oB.mp nd).2 (by simpa using h1) (by simpa using h2) hk
theorem JhF{g:Str->Option NameKind}{x:Str}{v:An}:∀{P:Ac}{vs:AE}{i:Nat}{m:Bk},P.Nodup->P[i]? =So x->vs[i]? =So v->g x≠So .local->
  bindC g (P.zip vs) m x=So v
 |[],_,_,_,_,h,_,_=>by simp at h
 |_::_,[],_,_,_,_,h,_=>by simp at h
 |p::P,w::vs,0,m,nd,h1,h2,hk=>by
  simp at h1 h2;subst h1;subst h2
  show bindC g ((p,w)::P.zip vs) m p=_
  unfold bindC
  rw[Jhz λv j=>(oB.mp nd).1 (List.of_mem_zip j).1,if_neg hk]
  simp
 |p::P,w::vs,i+1,m,nd,h1,h2,hk=>by
  show bindC g ((p,w)::P.zip vs) m x=_
  unfold bindC
  exact JhF (i:=i) (oB.mp nd).2 (by simpa using h1) (by simpa using h2) hk
noncomputable def jC (N:Ac) (vs:Av):St:=vs.map So++List.replicate (N.length-AJ) No
noncomputable def cxOf (CX:CXT) (P:Ba) (w:AQ) (K:Aj) (mg:Bk) (base:Heap) (N:Ac) (j:Str) (g:Bf) (f:Addr) (m:An) (A:Bv) (outer:Bq) (s:Al) (H:Hp) (E:XK):Cx where
 prog:=P
 w:=w
 K:=K
 mg:=mg
 base:=base
 A:=A.deeper S0
 N:=N
 s₀:=s
 H₀:=H
 env:=envOfC j g Aa f m
 outer:=outer
 stack:=envOfC j g Aa f m::outer
 ex:=[]
 calm:=To
 fn:=λ_=>To
 pn:=[]
 xe:=λe q=>wpAny Bp (A.deeper S0) (leaving S0 e) (λ_ l=>CX outer H s E e l) (λy l=>CX outer H s E y l) q
def JjR{g:Bf}{n:Nat}(h:g.names.lookup x=So .cell):∃c,(cellsFrom n g.names []).lookup x=So c:=by have q:=PySem.W.cellsFrom_some g.names n [] QcX;exact sV.mp q
theorem JoC{N:Ac}{l:Str}{g:Bf}{L:An}{j:Bq}{s1:Al}{E:XK}
  (S:FnScope N ps g) (hd:Bh) (B:Env0 P w K mg base A j s H) (hl:AJ=Aq) (r:Qbh)
  (x:InCallC s Aa (bindL '乱'.kindOf LS λ_=>No) (cellsFrom DU g.names []) (bindC '乱'.kindOf LS λ_=>No) s1):
  Inv (cxOf CX P w K mg base N l g f L A j s H E) [] 'տ' H s1:=by
 have hpl:Aq<=N.length:=by have:=kA YE S.pre;rw[List.length_take]at this;lia
 obtain⟨U,tk,rfl,hk⟩:=x.done;have G:∀b:Addr,b∉(cxOf CX P w K mg base N l g f L A j s H E).ex:=λb z=>absurd (show b∈([]:List Addr)from z) Ad;refine⟨⟨B.mod,S.kind,rfl,rfl,Zh _,λy z c U m=>?_,λy F=>?_,λy c _ h=>?_,λ_=>hd,Around.frames_deeper B.frames,.inr Cw,λb z=>absurd z (G b),B.bs,B.bsz,λb _ _=>G b,λb z=>absurd z (G b),B.funs,B.frf⟩,
  rfl,B.bare,Un.kept hk,⟨_,x.toInCall.ns,λi y v U m h3=>?_⟩,λy c h=>⟨_,x.cell y c h⟩,B.hok.fresh (Zh _),λy c h=>?_,λp I=>absurd (show p∈([]:List (Addr×Obj))from I) Ad,B.hok.kept hk,?_⟩
 ·exact name_of_addr x.apart (iQ U) (iQ m)
 ·have F:g.names.lookup y=So .cell\/g.names.lookup y=So .free:=F;rcases F with F|F
  ·exact JjR F
  ·exact absurd rfl (S.nofree _ (iQ F))
 ·exact Nat.le_of_lt Pk
 ·have O:i<AJ:=by
   unfold jC at m;by_cases O:i<AJ
   ·exact O
   ·rw[pG (by simpa using O)]at m;rw[jW]at m;split at m<;>cases m
  have ha:vs[i]? =So v:=by
   unfold jC at m;rw[oG (by simpa using O),xB]at m;cases e:vs[i]? with
   |none=>rw[e]at m;cases m
   |some a=>rw[e]at m;cases m;rfl
  obtain⟨u,hu,rv⟩:=r.get ha;have I:ps[i]? =So y:=by
   rw[<-S.pre,List.getElem?_take_of_lt 'g'];exact U
  have J:ps.Nodup:=by rw[<-S.pre];exact S.nd.sublist Qc
  refine⟨u,rv,?_⟩;rcases S.par y (qM I)with k|k
  ·exact .inl ⟨k,JhI J I hu k⟩
  ·obtain⟨c,e⟩:=JjR (n:=Aa+1) k
   refine .inr ⟨.inl k,c,e,?_⟩;have q:=x.cell y c e;rw[JhF J I hu (by show g.names.lookup y≠_;rw[k];decide)]at q;exact q
 ·exact B.hok.fresh (Nat.le_of_lt Pk)
 ·unfold jC;show _=XA;rw[Zn,Zi,tJ];lia
def eK{name qual:Str}{g:Qdj}{j:BF}{scope:Bf}{dV kV J pm cdv ct oc:An}{an od:Du}
  {osl:Eb} {N ps:Ac} {sp:Sp} (lk:K.lookup f=So ⟨oc,od,.func WA,osl⟩) (hcd:PySem.W.codeIn K cdv qual=To) (S:FnScope N ps scope)
  (len:∀vs H Q E,sp vs H Q E->AJ=Aq)
  (B:∀(A:Bv)(outer:Bq)(s:Al)(H:Hp)(vs:Av)(Q:VK)(E:XK),Room k (A.deeper (envOfC qual scope Aa f cdv))->sp vs H Q E->
   ∃t,PSs Sg j t/\t {nx:=λ_ W=>Q .non W,rt:=Q} 'տ' H):
  FnOk P w K mg base CX AZ f WA ps sp:=by
 refine⟨len,λA outer s H args us vs Q E hr L hb r U=>?_⟩;have hl:=len _ _ _ _ U;have KX:K.In VU:=L.mod.kin.keeps λb o e=>(L.bs b o e).1;have lim:s.heap.NoLimit:=L.mod.nolimit.keeps λb o e=>(L.bs b o e).1;have z:∀y∈ps.zip us,scope.names.lookup y.1=So .local\/(scope.names.lookup y.1=So .cell/\((cellsFrom DU Yb []).lookup y.1).isSome=To):=λ⟨n,v⟩hy=>by
  rcases S.par n (List.of_mem_zip hy).1 with q|q
  ·exact .inl q
  ·exact .inr ⟨q,PySem.W.cellsFrom_some _ _ _ (.inl q)⟩
 refine codeAny_call_function hr.depth (KX _ _ lk) rfl S.co S.gen rfl (PySem.W.codeRec_of KX hcd) (hb _ _ _ _ ?_);refine wpAny_newFunctionEnv_cells S.kind z λO he s1 x=>?_;subst he;refine⟨lim.keeps x.toInCall.keep,codeAny_func ?_⟩;obtain⟨t,ht,hq⟩:=B A outer s H vs Q E (hr.deeper _) U;have I:Inv Sg [] 'տ' H s1:=JoC S hr.hd L hl r x;refine ZY (ht [] s1 'տ' H _ I hq) (λfl s' F=>?_) λe s' F=>F;have G:∀{l:St}{W:Hp}{v:V}{u:An},Inv Sg [] l W s'->RelV v u->Q v W->CE outer P w H s Q u s':=
  fun{l W v u}m rv q=>⟨v,W,m.os,m.bare,m.base,m.hok,rv,q⟩
 cases fl with
 |ret u=>obtain⟨v,l,W,m,rv,q⟩:=F;exact G m rv q
 |next=>obtain⟨l,W,m,q⟩:=F;exact G (v:=V.non) (u:=Xx) m rfl q
 |brk=>obtain⟨_,_,_,q⟩:=F;exact False.elim q
 |cont=>obtain⟨_,_,_,q⟩:=F;exact False.elim q
section
variable{id T:Bg}{r:List V->Hp->VK->Prop}
def tCB(r:List V->Hp->VK->Prop)(t:TA):TE:=λZ H Q=>t Z H λvs g=>r vs g Q
def lT(y:pA X DA r)(G:Yt)(g:X.mg x=No)(F:bootBuiltins x=So DA)(q:IT)(l:'б' (x≠"__name__") Ey)(hdb:DW)
  (he:CG) (hpl:'б' ('Ķ'.any (·.1)=Fo) Ai):PE X TK (tCB r t):=by intro Y s Z H Q I h;refine gP (rK I G g F ?_ l hdb);exact PyProof.Rows.callWith_builtin1 (thn Pj λus z⟨vs,j,J,m,B⟩=>y Y z Z j vs us Q J m B) he hpl
def JhQ(y:pA X EM r)(G:Yt)(g:X.mg x=No)(F:bootBuiltins x=So EM)(q:IT)(l:'б' (x≠"__name__") Ey)(hdb:DW)
  (he:CG) (hpl:'б' ('Ķ'.any (·.1)=Fo) Ai):PE X TK (tCB r t):=by intro Y s Z H Q I h;refine gP (rK I G g F ?_ l hdb);exact mQ (thn Pj λus z⟨vs,j,J,m,B⟩=>y Y z Z j vs us Q J m B) he hpl
end
end L2
namespace HT
open PySem PyProof.Rows
section
variable{prog:Ba}{w:AQ}{A:Bv}{E:Ay}{s:Al}
def JsB{t b:Addr}{vs ws:AE}{Q:Ay}(z:IsTup VU t Ct)(x:P2)(u:vs≠[])
  (h1:ws=[]->Q GM s) (y:ws≠[]->Q Fi {s with heap:=s.heap.push {cls:=.type "tuple",data:=.seq (vs++ws).toArray}})
  (hsz:AJ+AY<=sizeLine):wpAny Au A QD Q E s:=by
 obtain⟨⟨cls,q,data,sl⟩,l,r,n,o⟩:=id z;obtain⟨⟨v,h,m,i⟩,a,g,n2,f⟩:=id x;simp only at r o g f;subst r o g f;have e:Ct++ws.toArray=(vs++ws).toArray:=by simp
 by_cases j:ws=[]
 ·exact concat_meets ⟨_,l,rfl⟩ ⟨_,a,rfl⟩ noFill_tuple_add seq_tuple_add zV iW QcZ
   (tuple_addW1 t b Ct Qbl n n2 q h sl i (by simpa using u) (by simp[j])) ⟨l,a,h1 j⟩
 ·refine concat_meets ⟨_,l,rfl⟩ ⟨_,a,rfl⟩ noFill_tuple_add seq_tuple_add zV iW QcZ
   (tuple_addW2 t b Ct Qbl n n2 q h sl i (by simpa using u) (by simpa using j) (by rw[Zo,Zo];exact hsz)) ⟨l,a,?_⟩
  rw[e];exact y j
noncomputable def sIx (n d:Nat):Option Int->Nat
 |none=>d
 |some v=>if v<0 then(v+(n:Int)).toNat else min QcD n
theorem Jwo(n d:Nat)(b:d<=n)(o:BB):sIx n d o<=n:=by
 cases o with
 |none=>exact b
 |some v=>
  show(if v<0 then(v+(n:Int)).toNat else min QcD n)<=n;by_cases a:v<0
  ·rw[if_pos a];lia
  ·rw[if_neg a];exact Nat.min_le_right _ _
theorem JoK(v:Int)(n d:Nat):(if v<0 then max (v+(n:Int)) 0 else min v (n:Int))=((sIx n d BO:Nat):Int):=by
 show(if v<0 then max (v+(n:Int)) 0 else min v (n:Int))=(((if v<0 then(v+(n:Int)).toNat else min QcD n):Nat):Int);by_cases a:v<0
 ·simp only[if_pos a];lia
 ·simp only[if_neg a];lia
theorem Jlv(lo hi:BB)(n:Nat):Builtin.Slice.sliceAdjust lo hi 1 (n:Int)=(((sIx n 0 lo:Nat):Int),((sIx n n hi:Nat):Int)):=by
 have a:¬((1:Int)<0):=by lia
 unfold Builtin.Slice.sliceAdjust;simp only[a,ZF];refine Prod.ext ?_ ?_
 ·cases lo with
  |none=>rfl
  |some v=>exact JoK v n 0
 ·cases hi with
  |none=>rfl
  |some v=>exact JoK v n n
theorem Jlz(i j:Nat):Builtin.Slice.slicePlaces (i:Int) (j:Int) 1=j-i:=by
 unfold Builtin.Slice.slicePlaces;have a:(1:Int)>0:=by lia
 simp only[a,if_true,Int.ediv_one];split<;>lia
def JeZ{v:An}{o:BB}{Q:Option Int->Shared->Prop}(p:IsPart v o)(h:Q o s):wpAny Au A (Builtin.Slice.slicePartIndex v) Q E s:=by
 cases p with
 |none=>exact slicePart_none h
 |int i t=>exact slicePart_int h
def Jba{sl:Addr}{f e:An}{lo hi:BB}{n:Nat}{Q:Int×Int×Nat->Shared->Prop}(hs:s.heap.IsSliceOf sl f e .none)(pl:IsPart f lo)(g:IsPart e hi)
  (h:Q (((sIx n 0 lo:Nat):Int),1,sIx n n hi-sIx n 0 lo) s):wpAny Au A (Builtin.Slice.sliceApplied Kk (pure (n:Int))) Q E s:=by obtain⟨j,a,i,b⟩:=id hs;unfold Builtin.Slice.sliceApplied Builtin.Slice.sliceFields;refine Za (Za (ZS a b (x:=f) rfl (Za (ZS a b (x:=e) rfl (Za (ZS a b (x:=.none) rfl (Zb ?_)))))));refine Za (slicePart_none ?_);show wpAny _ _ (if((1:Int)==0)=To then _ else _) _ _ s;rw[if_neg 'y'];refine Za (JeZ pl (Za (JeZ g (Za (Zb ?_)))));show wpAny _ _ (match Builtin.Slice.sliceAdjust lo hi 1 (n:Int)with|(lo,hi)=>pure (lo,(1:Int),Builtin.Slice.slicePlaces lo hi 1)) _ _ s;rw[Jlv lo hi n];show wpAny _ _ (pure (((sIx n 0 lo:Nat):Int),(1:Int),Builtin.Slice.slicePlaces ((sIx n 0 lo:Nat):Int) ((sIx n n hi:Nat):Int) 1)) _ _ s;rw[Jlz];exact Zb h
theorem JqQ(xs:B7)(i k:Nat):((List.range k).filterMap fun(m:Nat)=>xs[((i:Int)+(m:Int)*1).toNat]?).toArray=((xs.toList.drop i).take k).toArray:=by
 have e:(fun(m:Nat)=>xs[((i:Int)+(m:Int)*1).toNat]?)=λm=>xs[i+m]?:=by
  funext m;have:((i:Int)+(m:Int)*1).toNat=i+m:=by lia
  rw[this]
 rw[e];have:=pick_run xs i k;rw[List.filterMap_map]at this;have a:((λx=>xs[x]?)∘λx=>i+x)=λm=>xs[i+m]?:=rfl;rw[a]at this;rw[this]
theorem JcO{t sl:Addr}{items:B7}{l j:An}{lo hi:BB}{Q:Ay}(b:NN)(hs:s.heap.IsSliceOf sl l j .none)(pl:IsPart l lo)(o:IsPart j hi)
  (u:¬(sIx Aw 0 lo=0/\sIx Aw Aw hi=Aw))
  (h:Q Fi {s with heap:=s.heap.push {cls:=.type "tuple",data:=.seq ('Ȗ'.take Ga).toArray}})
  (hsz:Aw<=sizeLine):wpAny Au A Oz Q E s:=by
 have a:sizeOk (.seq ('Ȗ'.take Ga).toArray):=by show('Ȗ'.take Ga).toArray.size<=sizeLine;rw[Zo,List.length_take,tP,ZQ];lia
 have y:sIx Aw Aw hi<=Aw:=Jwo _ _ (Zh _) hi;obtain⟨r,f,g,v⟩:=id hs;have e:s.TypeIs Kk "slice":=⟨r,f,g⟩;unfold getItem;try with_reducible refine wA ?_
 first|refine Za (Zb ?_)|skip
 refine Za (wpAny_sequenceKey b.typeIs AB ?_);refine Za (ZM (name:=oS "__getitem__") b.typeIs gQ
  (ZD gQ b.typeIs entry_tuple_getitem ?_ Qt))
 show wpAny _ _ (Builtin.Tuple.tupleItemsOf (.ref t)>>=_) _ _ s;refine Za (tupleItemsOf_ b ?_);refine Za (jF e ?_);rw[if_pos 'y'];refine Za (Jba hs pl o ?_);have i:¬((((sIx Aw 0 lo:Nat):Int)==0&&(1:Int)==1&& Ga==Aw)=To):=by intro q;rw[Zc,Zc]at q;have z:((sIx Aw 0 lo:Nat):Int)=0:=zE q.1.1;have x:sIx Aw Aw hi-sIx Aw 0 lo=Aw:=zE q.2;exact u ⟨by lia,by lia⟩
 show wpAny _ _ (if(((sIx Aw 0 lo:Nat):Int)==0&&(1:Int)==1&& Ga==Aw)=To then _ else _) _ _ s;rw[if_neg i,JqQ];first
  |exact Za (m:=Builtin.Tuple.tupleExact _) (ZJ (Zb ⟨_,rfl,Zb h⟩) a)
  |exact Za (m:=Builtin.Tuple.tupleExact _) (ZJ (Za (Zb (Zb ⟨_,rfl,Zb h⟩))) a)
  |exact Za (Za (m:=Builtin.Tuple.tupleExact _) (ZJ (Zb (Zb ⟨_,rfl,Zb h⟩)) a))
  |exact Za (Za (m:=Builtin.Tuple.tupleExact _) (ZJ (Zb ⟨_,rfl,Zb h⟩) a))
end
end HT
namespace L2
open PySem PySem.Spec PyProof.Rows
variable{X:Cx}{xs:Av}{α:Type}
noncomputable abbrev TO:=St->Hp->(Option Int->Hp->Prop)->Prop
def PO(X:Cx)(e:dN)(t:TO):Prop:=
 ∀(Y:A8)(s:Al)(Z:St)(H:Hp)(Q:Option Int->Hp->Prop),Inv X Y Z H s->t Z H Q->
  wpAny AD X.A (evalPart e Ue) (λu a=>∃o W,Inv X Y Z W a/\IsPart u o/\Q o W) X.xe s
noncomputable def tNoPart:TO:=λ_ H Q=>Q No H
noncomputable def tPart (t:TE):TO:=λZ H Q=>t Z H λx a=>∃i,x=.int i/\Q (So i) a
section
variable{e:Expr}{te:TE}{lo hi:dN}{tl th:TO}{pos p2:Pos}
def JuV:PO X No tNoPart:=by intro Y s Z H Q I h;rw[evalPart_none];exact Zb ⟨No,H,I,.none,h⟩
def JtD(h:FK):PO X (So e) (tPart te):=by intro Y s Z H Q I j;rw[evalPart_some];refine thn (h Y s Z H _ I j) λu m a=>?_;obtain⟨x,b,l,f,g⟩:=a;obtain⟨i,rfl,q⟩:=g;obtain⟨t,rfl⟩:=f;exact⟨So i,b,l,.int i t,q⟩
def SlR(X:Cx)(r:R8):Prop:=
 ∀(Y:A8)(s:Al)(Z:St)(H:Hp)(x:V)(v b a:An)(lo hi:BB)(sl:Addr)(Q:VK),Inv X Y Z H s->RelV x v->s.heap.IsSliceOf sl b a .none->IsPart b lo->IsPart a hi->r x lo hi H Q->
  ∃T id,typeLookup EM "__getitem__"=pure (So DA)/\s.TypeIs v T/\wpAny AD X.A (getItem v Kk) BP X.xe s
def tSl(r:R8)(te:TE)(tl th:TO):TE:=λZ H Q=>te Z H λx a=>tl Z a λl b=>th Z b λu f=>r x l u f Q
def Jph{r:R8}(O:SlR X r)(he:FK)(y:PO X lo tl)(M:PO X hi th):PE X Qb (tSl r te tl th):=by intro Y s Z H Q I h;refine Subscript_ (thn FG λv C f=>?_);obtain⟨x,w,U,B,P⟩:=f;refine wpAny_Slice (thn (y Y C Z w _ U P) λg A⟨l,F,N,pl,o⟩=>thn (M Y A Z F _ N o) λi a f=>?_);obtain⟨u,j,J,z,E⟩:=f;rw[evalPart_none];refine Zb ?_;have L:Inv X Y Z j {a with heap:=a.heap.push {cls:=.type "slice",data:=.fields #[g,i,.none]}}:=J.kept (t':=a.toks) λb ob q=>Zd _ q;obtain⟨T,id,m,W,G⟩:=O Y {a with heap:=a.heap.push {cls:=.type "slice",data:=.fields #[g,i,.none]}} Z j x v g i l u Z2 Q L B (Heap.IsSliceOf.new ..) pl z E;show wpAny AD X.A (subscriptTail e Wk v (.ref Z2)) BP X.xe {a with heap:=a.heap.push {cls:=.type "slice",data:=.fields #[g,i,.none]}};exact tail_any (ops:=[.ref Z2,v]) W m G (by with_unfolding_all rfl)
noncomputable def cutV (xs:Av) (lo hi:BB):List V:=(xs.drop Si).take Se
theorem Jeo(xs:Av)(lo hi:BB):'ȯ'.length<=Ah:=by unfold cutV;rw[List.length_take,tP];lia
def rSlT (K:Aj):V->Option Int->Option Int->Hp->VK->Prop:=λx lo hi H Q=>∃a xs,x=.ref a/\SqT K H a xs/\
 ¬(HT.sIx Ah 0 lo=0/\HT.sIx Ah Ah hi=Ah)/\∀p,H p=No->Q EF (upd H p (.tup 'ȯ'))
def Jxm:SlR X (rSlT X.K):=by
 intro Y s Z H x v z y lo hi sl Q I l m pl u h;obtain⟨a,xs,rfl,j,w,q⟩:=h;cases l;obtain⟨its,r,i,g⟩:=I.tuple j;have f:CL=Ah:=by rw[Zo];exact r.length.symm
 refine⟨"tuple",_,Z3,Z0,?_⟩;refine HT.JcO i m pl u (by rw[f];exact w) ?_ (by rw[f];exact g);rw[f];refine⟨.ref Aa,_,I.laid (t':=Xv) (o:=.tup 'ȯ') SV (Zh _) ?_,rfl,q _ E1⟩;exact⟨⟨Zq Qcb g,uR⟩,_,(r.drop Si).take Se,IsTup.new _ _⟩
def rCatT(K:Aj):R2:=λx y H Q=>∃a b xs ys,x=.ref a/\y=.ref b/\SqT K H a xs/\SqT K H b ys/\xs≠[]/\xs.length+By<=sizeLine/\
 (ys=[]->Q Ar H)/\(ys≠[]->∀p,H p=No->Q EF (upd H p (.tup (xs++ys))))
def Vals.nil_iff{us:AE}(r:Qbf):us=[]↔xs=[]:=by
 cases r with
 |nil=>simp
 |cons _ _=>simp
def Jud:OpR X ML (rCatT X.K):=by intro Y s Z H x y v u Q I m G h;obtain⟨a,b,xs,F,rfl,rfl,C,B,l,i,E,r⟩:=h;cases m;cases G;obtain⟨A,g,J,_⟩:=I.tuple C;obtain⟨j,f,p2,_⟩:=I.tuple B;refine HT.JsB J p2 (λz=>l (g.nil_iff.mp z)) (λz=>⟨.ref a,H,I,rfl,E (f.nil_iff.mp z)⟩) (λz=>?_) (by rw[<-g.length,<-f.length];exact i);refine⟨.ref Aa,_,I.laid (t':=Xv) (o:=.tup (xs++F)) SV (Zh _) ?_,rfl,r (λw=>z (f.nil_iff.mpr w)) _ E1⟩;exact⟨⟨by rw[Zn];exact i,uR⟩,_,g.append f,IsTup.new _ _⟩
end
noncomputable def ixN (n:Nat) (i:Int):Option Nat:=if 0<=i then(if i<n then So i.toNat else No)else if -(n:Int)<=i then So (i+n).toNat else No
def atI  (xs:List α) (i:Int):Option α:=(ixN Ah i).bind λj=>xs[j]?
theorem Jvs{n:Nat}{i:Int}{j:Nat}(h:ixN n i=So j):seqIndex? i n=So j/\j<n/\ -(n:Int)<=i/\i<n:=by
 unfold ixN at h;by_cases b:0<=i
 ·rw[if_pos b]at h;by_cases a:i<n
  ·rw[if_pos a]at h;have e:i.toNat=j:=sD h;exact⟨by rw[seqIndex_of b a,e],by lia,by lia,a⟩
  ·rw[if_neg a]at h;cases h
 ·rw[if_neg b]at h;by_cases a:-(n:Int)<=i
  ·rw[if_pos a]at h;have e:(i+n).toNat=j:=sD h;exact⟨by rw[seqIndex_neg 'g' a,e],by lia,a,by lia⟩
  ·rw[if_neg a]at h;cases h
def JiD{xs:List α}{i:Int}{v:α}(h:atI xs i=So v):∃j,seqIndex? i Ah=So j/\xs[j]? =So v/\j<Ah/\ -(Ah:Int)<=i/\i<Ah:=by
 unfold atI at h;cases e:ixN Ah i with
 |none=>rw[e]at h;cases h
 |some j=>rw[e]at h;obtain⟨g,b,a,f⟩:=Jvs e;exact⟨j,g,h,b,a,f⟩
def qS(b:Expr):Prop:=∀o i,subscripted b Fo o i=operate [o,i] QdF
def IxR(X:Cx)(r:R2):Prop:=
 ∀(b a:Expr)(Y:A8)(s:Al)(Z:St)(H:Hp)(x y:V)(v u:An)(Q:VK),Inv X Y Z H s->RelV x v->RelV y u->r x y H Q->
  subscripted a Fo v u=operate [v,u] (getItem v u)->wpAny AD X.A (subscriptTail b a v u) BP X.xe s
def MtR(X:Cx)(id:Bg)(r:Ka):Prop:=
 ∀(Y:A8)(s:Al)(Z:St)(H:Hp)(x:V)(xs:Av)(v:An)(a:AE)(Q:VK),Inv X Y Z H s->RelV x v->Vals xs a->r x xs H Q->
  wpAny AD X.A (call DA (v::a)) BP X.xe s
section
variable{a b:Expr}{ta tb:TE}{pos:Pos}
def pe_ix{r:R2}(l:IxR X r)(j:Ce)(f:FL)(hs:qS b):PE X M6 Mx:=by intro Y s Z H Q I h;exact Subscript_ (binT j f I h λv u g x y m i e o q=>l a b Y g Z m x y v u Q i e o q (hs _ _))
def rIxL(K:Aj):R2:=λx y H Q=>∃p xs i v,x=.ref p/\y=.int i/\SqL K H p xs/\atI xs i=So v/\Q v H
def rIxT(K:Aj):R2:=λx y H Q=>∃p xs i v,x=.ref p/\y=.int i/\SqT K H p xs/\atI xs i=So v/\Q v H
def rIxS:R2:=λx y H Q=>∃z i c,x=.str z/\y=.int i/\z.length<=sizeLine/\atI XZ i=So c/\Q (.str ⟨#[c]⟩) H
theorem Jvn:IxR X (rIxL X.K):=by
 intro l m Y s Z H x y v u Q I E J h A;obtain⟨p,xs,i,z,rfl,rfl,G,M,q⟩:=h;cases E;obtain⟨t,rfl⟩:=J;obtain⟨its,r,pl,hz⟩:=I.list G;obtain⟨j,f,O,U,P,L⟩:=JiD M;obtain⟨w,B,o⟩:=r.get O;have F:=XF;have W:=xK;have e:EP X Y Z Q w s:=⟨z,H,I,o,q⟩;by_cases C:0<=i
 ·have g:i.toNat=j:=by
   rw[seqIndex_of C L]at f;exact sD f
  exact item_listR Ye C Af (by rw[g];simpa using B) e A
 ·have g:(i+(CL:Int)).toNat=j:=by
   rw[seqIndex_neg 'g' P]at f;rw[Zo,<-F];exact sD f
  exact subscriptTail_builtinR (x:=w) QcP dJ
   (wpAny_getItem_list_neg (Q:=λr N=>r=w/\EP X Y Z Q r N) Ye Af (by rw[Zo]<;>lia) Af (by rw[g];simpa using B) ⟨rfl,e⟩) A
def Jyk:IxR X (rIxT X.K):=by
 intro f g Y s Z H x y v u Q I m B h C;obtain⟨p,xs,i,z,rfl,rfl,A,F,q⟩:=h;cases m;obtain⟨t,rfl⟩:=B;obtain⟨E,r,pl,U⟩:=I.tuple A;obtain⟨j,M,L,N,W,P⟩:=JiD F;obtain⟨w,G,l⟩:=r.get L;have o:=XF;have O:=xK;have e:EP X Y Z Q w s:=⟨z,H,I,l,q⟩;exact subscriptTail_builtinR (x:=w) pl.typeIs slot_tuple_getitem.lookup
  (getItem_tuple (j:=j) (Q:=λr J=>r=w/\EP X Y Z Q r J) pl Af Af (by rw[Zo,<-o];exact M) (by simpa using G) ⟨rfl,e⟩) C
def JxV:IxR X rIxS:=by
 intro e f Y s Z H x y v u Q I l E h m;obtain⟨z,i,c,rfl,rfl,J,A,q⟩:=h;obtain⟨t,rfl⟩:=l;obtain⟨M,rfl⟩:=E;obtain⟨j,g,B,G,F,w⟩:=JiD A;have r:z.cps.toList.length=z.length:=by simp[Str.length]
 rw[r]at g F w;have L:=xK;exact tail_any (sM s z t) slot_str_getitem.lookup (getItem_str (c:=c) (by
  have C:decide (i< -(2^63:Int))=Fo:=Zs Af;have o:decide (i≥2^63)=Fo:=Zs Af;rw[C,o,qH]) (by rw[g];simpa using B) ⟨.str ⟨#[c]⟩,H,I.tok _,AS,q⟩) m
theorem JhG(lo hi:BB)(n:Nat):(sliceBounds lo hi No n).1=((HT.sIx n 0 lo:Nat):Int)/\(sliceBounds lo hi No n).2.1=((HT.sIx n n hi:Nat):Int)/\(sliceBounds lo hi No n).2.2=1:=by
 refine⟨?_,?_,rfl⟩
 ·cases lo with
  |none=>simp[sliceBounds,HT.sIx]
  |some i=>
   simp only[sliceBounds,HT.sIx,Option.getD_none,show(1:Int)>0 by decide,if_true];by_cases h:i<0
   ·simp only[h,if_true]<;>lia
   ·simp only[h,ZF]<;>lia
 ·cases hi with
  |none=>simp[sliceBounds,HT.sIx]
  |some i=>
   simp only[sliceBounds,HT.sIx,Option.getD_none,show(1:Int)>0 by decide,if_true];by_cases h:i<0
   ·simp only[h,if_true]<;>lia
   ·simp only[h,ZF]<;>lia
def Jgn(its:AE)(lo hi:BB):slicePick AF lo hi No=((its.drop (HT.sIx B1 0 lo)).take (HT.sIx B1 B1 hi-HT.sIx B1 0 lo)).toArray:=by obtain⟨f,g,e⟩:=JhG lo hi CL;unfold slicePick;rw[f,g,e];simp only[sliceRange_one,pick_run,Zo]<;>rfl
def rSlL (K:Aj):V->Option Int->Option Int->Hp->VK->Prop:=λx e f H Q=>∃a xs,x=.ref a/\SqL K H a xs/\∀p,H p=No->Q EF (upd H p (.lst (cutV xs e f)))
theorem Jtg:SlR X (rSlL X.K):=by intro Y s Z H x v y w lo hi sl Q I i j pl u h;obtain⟨a,xs,rfl,g,q⟩:=h;cases i;obtain⟨m,r,f,l⟩:=I.list g;have e:=XF;refine⟨"list",_,dJ,f.isList.typeIs,?_⟩;refine wpAny_getItem_list_slice f.isList j pl u .none Ad ?_ (by rw[Zo]<;>lia);rw[Jgn,<-e];refine⟨.ref Aa,_,I.laid (t':=Xv) (o:=.lst 'ȯ') SV (Zh _) ?_,rfl,q _ E1⟩;exact⟨Zq Qcb l,_,0,(r.drop Si).take Se,Ze _ rfl⟩
theorem Jbu:pA X MT (λxs H Q=>∃p ys,xs=Ez/\(SqL X.K H p ys\/SqT X.K H p ys)/\Q (.int By) H):=by
 intro Y s Z H xs o Q I r h;obtain⟨p,ys,rfl,f,q⟩:=h;obtain⟨u,rfl,j⟩:=xA r;cases j;have m:=xK;rcases f with f|f
 ·obtain⟨g,i,pl,l⟩:=I.list f;have e:=YJ;exact Calls.call_len_list Ye (by simp only[Zo]<;>lia) ⟨.int By,H,I.tok _,⟨Xv+1,by rw[Zo,e]⟩,q⟩
 ·obtain⟨g,i,pl,l⟩:=I.tuple f;have e:=YJ;exact len_tuple pl (by simp only[Zo]<;>lia) ⟨.int By,H,I.tok _,⟨Xv+1,by rw[Zo,e]⟩,q⟩
def JhM:pA X MT (λxs H Q=>∃z,xs=[.str z]/\z.length<=sizeLine/\Q (.int cE) H):=by intro Y s Z H xs e Q I r h;obtain⟨z,rfl,f,q⟩:=h;obtain⟨u,rfl,t,rfl⟩:=xA r;have g:=xK;exact len_str Af ⟨.int cE,H,I.tok _,AS,q⟩
theorem JcY:pA X Rg (λxs H Q=>∃p ys,xs=Ez/\(SqL X.K H p ys\/SqT X.K H p ys)/\∀l,H l=No->Q BH (upd H l FN)):=by
 intro Y s Z H xs E Q I r h;obtain⟨p,ys,rfl,v,q⟩:=h;obtain⟨u,rfl,C⟩:=xA r;cases C;have j:∀(its:AE),Vals ys its->By<=sizeLine->∀(f:Heap)(g:Nat),(∀b B,s.heap.get? b=So B->f.get? b=So B)->
   f.get? Aa=So {cls:=.type "list",dict:=No,data:=.seq AF g,slots:=#[]}->EP X Y Z Q Fi {s with heap:=f}:=λits i x f g w e=>
  ⟨.ref Aa,_,I.laid (t':=Xv) w (Zh _) (show ObjOk Xz X.w _ f _ (.lst ys)from⟨x,its,g,i,e⟩),rfl,q _ E1⟩
 rcases v with v|v
 ·obtain⟨its,i,pl,x⟩:=I.list v;have m:=YJ;obtain⟨o,z,A,n,y⟩:=Ye;exact call_list_seq p Be z A y UZ (by simp only[Zo]<;>lia)
 ·obtain⟨its,i,pl,x⟩:=I.tuple v;have m:=YJ;obtain⟨o,z,A,n,y⟩:=pl;exact call_list_seq p cS z A y UZ (by simp only[Zo]<;>lia)
theorem Jcm:pA X MK (λxs H Q=>∃p f,xs=Ez/\((SqL X.K H p f/\∀l,H l=No->Q BH (upd H l (.tup f)))\/(SqT X.K H p f/\Q EF H))):=by
 intro Y s Z H xs y Q I r h;obtain⟨p,f,rfl,h⟩:=h;obtain⟨u,rfl,v⟩:=xA r;cases v;rcases h with⟨i,q⟩|⟨i,q⟩
 ·obtain⟨its,g,pl,j⟩:=I.list i;have m:=Yd;refine call_tuple_list Ye (λh' x=>?_) (by simp only[Zo]<;>lia);have I1:Inv X Y Z H {s with heap:=h'}:=I.kept (t':=Xv) x;have w:Inv X Y Z (upd H Cf (.tup f)) {s with heap:=h'.push {cls:=.type "tuple",data:=.seq AF}}:=
   I1.laid (t':=Xv) SM (Zh _) (show ObjOk Xz X.w _ _ _ (.tup f)from⟨⟨j,uR⟩,its,g,IsTup.new _ _⟩)
  exact⟨.ref Cf,_,w,rfl,q _ E4⟩
 ·obtain⟨its,g,pl,j⟩:=I.tuple i;exact call_tuple_same pl ⟨.ref p,H,I,rfl,q⟩
def tyV(K:Aj)(T:Bg)(x:V)(H:Hp):Prop:=match x with
 |.str _=>T="str"
 |.int _=>T="int"
 |.ref p=>(T="list"/\∃xs,SqL K H p xs)\/(T="tuple"/\∃o,K.lookup p=So o/\o.cls=.type "tuple"/\o.dict=No)\/
   (T="dict"/\((∃kvs,H p=So AN)\/∃kvs,H p=So BA))\/(T="set"/\∃S n,H p=So (.set S n))\/(T="list"/\∃t xs,H p=So Ks)
 |_=>False
def Jry{Y:A8}{Z:St}{H:Hp}{s:Al}{T:Bg}{x:V}{v:An}(I:AH)(r:RelV x v)(ty:tyV X.K T x H):
  s.TypeIs v T/\∀a,v=.ref a->∃ob,s.heap.get? a=So ob/\ob.dict=No:=by
 cases x with
 |str z=>obtain⟨t,rfl⟩:=r;cases(show T="str" from ty);exact⟨sM s z t,λ_ e=>nomatch e⟩
 |int i=>obtain⟨t,rfl⟩:=r;cases(show T="int" from ty);exact⟨typeIs_int s i t,λ_ e=>nomatch e⟩
 |ref p=>
  cases r;rcases ty with⟨rfl,xs,q⟩|⟨rfl,o,f,m,j⟩|⟨rfl,f⟩|⟨rfl,S,n,f⟩|⟨rfl,t,xs,f⟩
  ·obtain⟨h,_,pl,_⟩:=I.list q;refine⟨QcP,λa e=>?_⟩;cases e;obtain⟨o,n,e,c,j,_⟩:=pl;exact⟨o,e,j⟩
  ·refine⟨⟨o,I.kIn p o f,m⟩,λa e=>?_⟩;cases e;exact⟨o,I.kIn _ o f,j⟩
  ·have z:∃o,s.heap.get? p=So o/\o.ExactDict:=by
    rcases f with⟨l,f⟩|⟨l,f⟩
    ·obtain⟨_,_,_,_,o,_,_,e,ex,_⟩:=I.hok p _ f;exact⟨o,e,ex⟩
    ·obtain⟨_,_,_,_,o,_,_,e,ex,_⟩:=I.hok p _ f;exact⟨o,e,ex⟩
   obtain⟨o,e,ex⟩:=z;refine⟨⟨o,e,ex.1⟩,λa g=>?_⟩;cases g;exact⟨o,e,ex.2.1⟩
  ·obtain⟨o,_,_,_,e,ex,_⟩:=I.hok p _ f;refine⟨⟨o,e,ex.1⟩,λa g=>?_⟩;cases g;exact⟨o,e,ex.2.1⟩
  ·obtain⟨_,h,n,_,e⟩:=I.hok p _ f;refine⟨KF,λa g=>?_⟩;cases g;exact KF
 |_=>exact False.elim ty
def tBM0(K:Aj)(T:Bg)(r:Ka)(f:TE):TE:=λZ H Q=>f Z H λx e=>tyV K T x e/\r x [] e Q
def tBM(K:Aj)(T:Bg)(r:Ka)(f:TE)(t:TA):TE:=λZ H Q=>f Z H λx e=>tyV K T x e/\t Z e λxs g=>r x xs g Q
variable{o e:Expr}{es:CF}{to:TE}{t:TA}{name:Str}{apos cpos:Pos}{T id:Bg}{r:Ka}
def JvR(u:PlainAttrs T)(g:Slot T name id)(i:R3)(q:MtR X id r)(ho:PE X o to)
  (f:'б' (attributeBase o name Ue MC=eval o Ue) Ai) (hline:'б' ((YV==aP)=To) Ai):PE X (.Call Qs [] [] cpos) (tBM0 X.K T r to):=by intro Y s Z H Q I h;refine wpAny_Call_method0_late f hline (thn FF λv y j=>?_);obtain⟨x,w,m,l,ty,z⟩:=j;obtain⟨A,B⟩:=Jry m l ty;exact⟨T,id,u,g,i,A,B,kI rfl (PySem.evalArgs_none (q Y y Z w x [] v [] Q m l .nil z))⟩
def yM(y:PlainAttrs T)(g:Slot T name id)(i:R3)(u:MtR X id r)(ho:PE X o to)(C:IT)
  (f:'б' (attributeBase o name Ue MC=eval o Ue) Ai)
  (hfew:'б' (((backTo cpos (starEach Gi Ue)).all (λx=>!x.1)&&(backToKw cpos Lu).all (λx=>x.1.isSome)
   &&decide ((e::es).length+([]:List Keyword).length+(if([]:List Keyword).isEmpty then 0 else 1)<30))=To) Ai)
  (hline:'б' ((YV==aP)=To) Ai) (hs:CG) (hplain:'б' ((backTo cpos Lv).any (·.1)=Fo) Ai):
  PE X (.Call Qs Gi [] cpos) (tBM X.K T r to t):=by intro Y s Z H Q I h;refine wpAny_Call_method_late f hfew hline rfl (thn FF λv E j=>?_);obtain⟨x,z,q,l,ty,F⟩:=j;obtain⟨G,N⟩:=Jry q l ty;refine⟨T,id,y,g,i,G,N,?_⟩;have m:=C cpos Y E Z z _ q F;rw[hs]at m⊢;refine kI (by show(Fo||(backTo cpos Lv).any (·.1))=Fo;rw[hplain]<;>rfl) (pM ?_);exact thn m λJ A⟨M,L,B,O,w⟩=>u Y A Z L x M v J Q B l O w
end
def MtM(X:Cx)(id:Bg)(r:Ka):Prop:=
 ∀(Y:A8)(s:Al)(Z:St)(H:Hp)(x:V)(xs:Av)(v:An)(a:AE)(Q:VK),Inv X Y Z H s->RelV x v->Vals xs a->r x xs H Q->
  wpAny AD X.A (call DA (v::a)) BP X.xe s
def Vals.one:∀{x:V}{us:AE},Vals [x] us->∃u,us=[u]/\RelV x u
 |_,_,.cons r .nil=>HN
def Vals.zero:∀{us:AE},Vals [] us->us=[]
 |_,.nil=>rfl
def Vals.dropLast{us:AE}(h:Qbf):Vals xs.dropLast us.dropLast:=by
 induction h with
 |nil=>exact .nil
 |cons r t a=>
  cases t with
  |nil=>exact .nil
  |cons q b=>exact .cons r a
theorem Jla(l:List α):l.eraseIdx (l.length-1)=l.dropLast:=by
 induction l with
 |nil=>rfl
 |cons a r f=>
  cases r with
  |nil=>rfl
  |cons b r=>
   have e:(a::b::r).length-1=((b::r).length-1)+1:=by have h:(a::b::r).length=XF+2:=rfl;have g:(b::r).length=XF+1:=rfl;lia
   rw[e,List.eraseIdx_cons_succ,f];all_goals rfl
section
variable{Y:A8}{Z:St}{H:Hp}{s:Al}{l b:Addr}{ys zs:Av}
def Inv.lset{its its':AE}{n:Nat}{f:Array Value->Array Value}{t':Nat}(I:AH)(a:H l=So AA)
  (e:s.heap.get? l=So {cls:=.type "list",data:=.seq AF n}) (hf:f AF=its'.toArray) (hv:Vals ys its') (hz:By<=sizeLine):
  Inv X Y Z (upd H l FN) {s with heap:=s.heap.update l Qcc,toks:=t'}:=by have q:=PySem.IsL.update e f;rw[hf]at q;refine I.write (x:=l) (e:=l) (by rw[a];exact trivial) Be (λh u hb g=>(ZO VU Qcc E2).trans g) ⟨_,q⟩ ?_;exact⟨hz,its',_,hv,q⟩
def Inv.lnew{its:AE}{t':Nat}(I:AH)(a:Vals ys its)(hz:By<=sizeLine):
  Inv X Y Z (upd H Aa FN) {s with heap:=s.heap.push {cls:=.type "list",data:=.seq AF},toks:=t'}:=
 I.laid M5 (Zh _) ⟨hz,its,0,a,Ze _ rfl⟩
def Inv.fresh(I:AH):H Aa=No:=I.hok.fresh (Zh _)
def Inv.lstM(I:AH)(a:H l=So AA):Ah<=sizeLine/\∃(its:AE)(n:Nat),Vals xs its/\xs.length=B1/\s.heap.get? l=So {cls:=.type "list",data:=.seq AF n}:=by obtain⟨z,its,n,r,e⟩:=I.hok l _ a;exact⟨z,its,n,r,XF,e⟩
def Jps{n:Nat}(h:n<=sizeLine):Builtin.List.listTooLong n=Fo:=by unfold Builtin.List.listTooLong;exact Zs Af
end
def rAppend:V->List V->Hp->VK->Prop:=λx a H Q=>∃l xs y,x=.ref l/\a=[y]/\H l=So AA/\xs.length<sizeLine/\Q .non (upd H l (.lst (xs++[y])))
theorem Jhd:MtM X "list.append" rAppend:=by intro Y s Z H x o v w Q I f g h;obtain⟨l,xs,y,rfl,rfl,b,j,q⟩:=h;cases f;obtain⟨u,rfl,i⟩:=g.one;obtain⟨z,a,n,r,m,e⟩:=I.lstM b;refine fB Qbu KF Qaz QP (PySem.list_append l a.toArray n u (by rw[Zo];lia)) ⟨e,?_⟩;refine⟨.non,_,I.lset (its':=a++[u]) b e Ad (r.append (.cons i .nil)) ?_,rfl,q⟩;rw[Zn,sG];lia
def rPop:V->List V->Hp->VK->Prop:=λx a H Q=>∃l xs y,x=.ref l/\a=[]/\H l=So AA/\xs[Ah-1]? =So y/\Q y (upd H l (.lst xs.dropLast))
theorem JxS:MtM X "list.pop" rPop:=by
 intro Y s Z H x A v B Q I g m h;obtain⟨l,xs,y,rfl,rfl,f,i,q⟩:=h;cases g;have b:=m.zero;subst b;obtain⟨z,its,n,r,j,e⟩:=I.lstM f;obtain⟨u,o,w⟩:=r.get i;have a:AF[CL-1]? =So u:=by show AF[B1-1]? =So u;rw[<-jI,<-j];exact o
 refine fB F.slot_list_pop KF F.entry_list_pop (F.args_list_pop_1 _) (MeetsSeq.list_pop_last l AF n u a (by rw[Zo];lia)) ⟨e,?_⟩;refine⟨y,_,I.lset (its':=its.dropLast) f e ?_ r.dropLast ?_,w,q⟩
 ·show its.toArray.eraseIdxIfInBounds (CL-1)=its.dropLast.toArray;rw[Zo,List.eraseIdxIfInBounds_toArray,Jla]
 ·rw[List.length_dropLast];lia
end L2
namespace Att
open PySem PySem.W PySem.Calls PyProof.Rows
def JdL{P:Params}{h:Heap}:∀(ns:AU)(vs:AE),WellAll P h vs (ns.map WData.int)->IntsAre vs ns:=by
 intro ns;induction ns with
 |nil=>intro vs w;rw[jG]at w;cases w;exact .nil
 |cons n ns e=>
  intro vs w;rw[Zg]at w;cases w with
  |cons a b=>cases a;exact .cons _ _ (e _ b)
theorem Jmb{l:OpenLaw}{n:Nat}(w:l.most=So n){P:Params}{h:Heap}{args:List WData}{b:AE}
  (e:l.row.toRowW.claim.pre args=To) (o:WellAll P h b args):
  ∃a vs ns,b=Ma/\args=[WData.list (ns.map WData.int)]/\h.get? a=So {cls:=.type "list",data:=.seq Ct}/\IntsAre vs ns/\ns.length<=n:=by
 have m:WShape.hasAll [] args [.list .int]=To:=(pre_splitW e).1;have s:l.pre.holds [] {args:=args}=To:=(pre_splitW e).2;obtain⟨d,r,rfl,B,z⟩:=hasAllW_cons m;obtain rfl:=hasAllW_nil z;obtain⟨C,rfl,u⟩:=hasW_list B;obtain⟨ns,rfl⟩:=items_int u;have g:AK<=n:=by
  unfold OpenLaw.pre at s;have j:(WTm.not (.lt (.lit (.int (n:Int))) (.len (.arg 0)))).holds [] {args:=[.list G4]}=To:=by have j:=(holds_andW s).1;rw[w]at j;exact j
  have i:=condW_of j (w_not (w_lt w_lit (w_len_list (w_arg rfl))));rw[Zi]at i;refine Nat.le_of_not_lt λq=>?_;have v:(n:Int)<((AK:Nat):Int):=by lia
  first
   |(rw[Zx v]at i;exact absurd i (by decide))
   |(simp at i;lia)
 cases o with
 |cons x y=>
  cases y;cases x with
  |list A f=>exact⟨_,_,ns,rfl,rfl,A,JdL ns _ f,g⟩
def JmE(l:OpenLaw)(args:List WData):l.row.toRowW.claim.post args FQ args=To:=
 postW_of (r:=b8) (X:=(To==To))
  (show WShape.has [] FQ .bool=To by first|rfl|decide|simp[WShape.has,WShape.arms,WShape.armsAll])
  (show(WTm.eq .res (.lit FQ)).value [] {args:=args,res:=So FQ,after:=args}=So (.bool (To==To))from w_eq_bool (w_res rfl) w_lit) rfl
def JiZ{l:OpenLaw}{n:Nat}{q:Ba}{loose:Ac}{C:(Str->Option Value)->Heap->Prop}{H:World->Heap->Prop}{d:DefRec}
  (N:l.most=So n) (x:d.params.defaults=[])
  (U:∀(w:AQ)(e b:Al)(mg mb:Bk)(s:Addr)(o:Obj)(pm u g:An)(a:Addr)(vs:AE)(ns:AU),
   Ground q loose [] C w e mg mb b.heap->H w b.heap->
   b.heap.get? s=So o->YC=.func (docDef d.name Z1 X9 d.scope pm u g)->b.heap.CodeRec u d.name->mg d.name=So (.ref s)->
   b.heap.get? a=So {cls:=.type "list",data:=.seq Ct}->IntsAre vs ns->AK<=n->b.gens=#[]->
   codeAny (model aH w) callerA (.call (.ref s) RV) (λr v=>r=.ok (.ret FQ)/\OldK b.heap v.heap/\v.os=b.os/\AllBare v.gens) b):
  WalkO q loose C H b8 d [] (λf vs=>PySem.call f vs):=by intro w e b mg mb G Y9 s o pm u g Z kV O M z B y W I F as j E Y A X;obtain rfl:Z=.none:=Dflts.none B x;obtain rfl:kV=.none:=Dflts.noKw B;obtain⟨a,vs,ns,rfl,rfl,m,h,i⟩:=Jmb N j A;refine enter_call (kG (U w e b mg mb s o pm u g a vs ns G Y9 O (fd_plain M) z y m h i W) λr v P=>?_);obtain⟨rfl,h2,L,h4⟩:=P;exact⟨.inl ⟨.bool To,.bool To,[],rfl,λ_=>rfl,.bool To,JmE l _,λ_=>⟨Qb7,λ_ J=>(nomatch J)⟩⟩,h2,L,h4⟩
end Att
namespace L2
open PySem PySem.Spec PyProof.Rows
variable{H W:Hp}{X:Cx}{a:Addr}{w:AQ}{u:An}{s:Al}{P:Ba}{y:V}{Y:A8}{Z:St}{kvs:Xo}{A:Bv}{E:Ay}{K:Aj}{o:cA}{x:Str}{xs:Xl}{pos:Pos}
theorem JhW:∀{vs:AE}{ns:AU},IntsAre vs ns->Vals Rf vs
 |_,_,.nil=>.nil
 |_,_,.cons n t h=>.cons GQ (JhW h)
def Only(H:Hp):Prop:=∀b,H b=No\/∃o xs,H b=So (.frz o AA)
def Jrb{mg mb:Bk}{CX:CXT}{k:Nat}{fa:Addr}{fd:BG}{sp:Sp}{f:Al}{vs:AE}{ns:AU}
  (KX:K.In f.heap) (N:f.heap.Ns mainGlobals mg) (i:f.heap.Ns builtinsNs mb) (hbb:∀x:Str,x≠"__name__"->mb x=bootBuiltins x) (G:f.heap.NoLimit) (hg:f.gens=#[])
  (ha:f.heap.get? a=So {cls:=.type "list",data:=.seq Ct}) (hi:IntsAre vs ns) (hl:AK<=sizeLine) (hr:Room k callerA)
  (F:∀j:Heap,K.In j->j.Ns mainGlobals mg->FnOk P w K mg j CX k fa fd [x] sp) (hbind:∀(s:Al)(u:An),BindsTo s fd ⟨[u],[]⟩ [(x,u)])
  (hsp:∀H:Hp,Only H->SqL K H a (ns.map V.int)->sp Cs H (λv _=>v=.bl To) λ_ _ _=>False)
  (hCX:∀H e l,CX [] H f Sh e l->False):
  codeAny Bp callerA PR (λr l=>r=.ok (.ret FQ)/\OldK f.heap l.heap/\l.os=f.os/\AllBare l.gens) f:=by
 have rv:=JhW hi;have I:=hi.length;have C:∀H:Hp,Only H->SqL K H a (ns.map V.int)->HOk P w H f.heap->(∀b,H b≠No->b=a)->(H a≠No->K.lookup a=No)->
   codeAny Bp callerA PR (λr l=>r=.ok (.ret FQ)/\OldK f.heap l.heap/\l.os=f.os/\AllBare l.gens) f:=by
  intro H hO hS hok hA hK;have g:∀{b:Addr}{o:Obj},f.heap.get? b=So o->H b=No->'Ȱ'.get? b=So o:=λe n=>JqE e n;have noA:∀{b:Addr}{o:Obj}{L:GL}{M:Nat},f.heap.get? b=So o->YC=.dict L M->H b=No:=fun{b o L M}e d=>by
   cases q:H b with
   |none=>rfl
   |some u=>have e':b=a:=hA b (by rw[q];simp);subst e';rw[ha]at e;cases e;have d':Data.seq Ct _=Data.dict L M:=d;cases d'
  have B:∀{b:Addr}{m:Bk},f.heap.Ns b m->'Ȱ'.Ns b m:=fun{b m}⟨o,L,M,e,d,r⟩=>⟨o,L,M,g e (noA e d),d,r⟩;have U:K.In 'Ȱ':=λb o e=>g (KX b o e) (by
   cases q:H b with
   |none=>rfl
   |some u=>
    have e':b=a:=hA b (by rw[q];simp);subst e';rw[hK (by rw[q];simp)]at e;cases e)
  have hM:Mod K mg 'Ȱ':=⟨U,B N,⟨mb,B i,hbb⟩,let⟨mc,h1,h2⟩:=G;⟨mc,B h1,h2⟩⟩;have e0:Env0 P w K mg 'Ȱ' callerA [] f H:=⟨rfl,hM,λb o e=>Jvj e,Nat.le_of_eq (JoN _ _),trivial,λb i=>absurd (show b∈([]:List Addr)from i) Ad,hok,.of_eq hg⟩;refine kG ((F _ U (B N)).run callerA [] f H RV Cs Cs _ _ hr e0 (hbind f Ar) RG (hsp H hO hS)) λr l h=>?_;cases r with
  |error e=>exact(hCX H e l h).elim
  |ok fl=>
   cases fl with
   |next=>exact False.elim h
   |brk=>exact False.elim h
   |cont=>exact False.elim h
   |ret u=>
    obtain⟨v,W,os,J,un,O,r',q⟩:=h;have q':v=.bl To:=q;subst q';obtain rfl:u=Value.bool To:=r';refine⟨rfl,OldK.of_keep λb o e=>?_,os,J⟩;cases q:H b with
    |none=>exact un.keep b o e q (by intro z;exact absurd (show b∈([]:List Addr)from z) Ad) Ad
    |some u=>
     rcases hO b with z|⟨ob,xs,z⟩
     ·rw[q]at z;cases z
     ·have z2:=un.frzs b ob _ z;obtain⟨e1,_⟩:=hok b _ z;obtain⟨e2,_⟩:=O b _ z2;rw[e]at e1;cases e1;exact e2
 cases hk:K.lookup a with
 |some o=>have e:=KX a o hk;rw[ha]at e;cases e;refine C Qdd (λ_=>.inl rfl) (.inr ⟨_,Ct,_,hk,rfl,rfl,rfl,by rw[Zo,I];exact hl,by simpa using rv⟩) (λb u z=>by have z':(No:Option HO)=So u:=z;cases z') (λb z=>absurd rfl z) λz=>absurd rfl z
 |none=>
  refine C (λb=>if b=a then So (.frz {cls:=.type "list",data:=.seq Ct} (.lst Rf))else No) (λb=>?_) (.inl (.inr ⟨{cls:=.type "list",data:=.seq Ct},if_pos rfl⟩)) (λb u z=>?_) (λb z=>?_) λ_=>hk
  ·by_cases i:b=a
   ·exact .inr ⟨_,_,if_pos i⟩
   ·exact .inl (if_neg i)
  ·by_cases i:b=a
   ·have z':=(if_pos i).symm.trans z;cases z';subst i;exact⟨ha,by rw[Zi];exact hl,vs,_,rv,ha⟩
   ·have z':=(if_neg i).symm.trans z;cases z'
  ·by_cases i:b=a
   ·exact i
   ·exact absurd (if_neg i) z
def JsF{l:Qd1}{n k:Nat}{q:Ba}{loose:Ac}{XP:(Str->Option Value)->Heap->Prop}{YP:World->Heap->Prop}{d:DefRec}{K:Params->PySem.W.Frag}{CX:World->CXT}{sp:World->Sp}
  (hn:l.most=So n) (M:n<=sizeLine) (B:d.params.defaults=[]) (hr:Room k callerA)
  (hY:∀(w:AQ)(h:Heap),YP w h->'ʩ'.In h)
  (F:∀(w:AQ)(mg:Bk)(r:Addr)(h:Heap),'ʩ'.In h->h.Ns mainGlobals mg->mg d.name=So (.ref r)->
   ∃I:FuncData,(∀(s:Al)(u:An),BindsTo s I ⟨[u],[]⟩ [(x,u)])/\
    ∀b:Heap,'ʩ'.In b->b.Ns mainGlobals mg->FnOk aH w 'ʩ' mg b (CX w) k r I [x] (sp w))
  (J:∀(w:AQ)(H:Hp)(a:Addr)(ns:AU),AK<=n->Only H->SqL 'ʩ' H a (ns.map V.int)->sp w Cs H (λv _=>v=.bl To) λ_ _ _=>False)
  (z:∀(w:AQ)(H:Hp)(s:Al)(e:An)(L:Al),CX w [] H s Sh e L->False):
  PySem.W.WalkO q loose XP YP b8 d [] (λf O=>PySem.call f O):=by refine Att.JiZ hn B λw U j mg mb r o pm cd doc a O ns G Y9 ho hd hcd C m i g hg=>?_;have N:=hY w _ Y9;obtain⟨I,hb,hF⟩:=F w mg r _ N G.T.g C;exact Jrb N G.T.g G.T.b G.T.builtins G.T.nolimit hg m i (Zq g M) hr hF hb (λH hO hS=>J w H a ns g hO hS) λH e L=>z w H j e L
noncomputable def kE (s:Stmt) (j:Nat):Stmt:=match s with
 |.ClassDef _ _ _ b _ _ _ _ _ _ _=>b.getD j Pi
 |_=>.Pass ⟨0,0,0,0⟩
noncomputable def pL (s:Stmt):Arguments:=match s with
 |.FunctionDef _ a _ _ _ _ _ _ _ _=>a
 |_=>{posonlyargs:=[],args:=[],vararg:=No,kwonlyargs:=[],kw_defaults:=[],kwarg:=No,defaults:=[]}
noncomputable def Jp (s:Stmt):List Stmt:=match s with
 |.FunctionDef _ _ b _ _ _ _ _ _ _=>b
 |_=>[]
noncomputable def Jd (s:Stmt):Scope:=match s with
 |.FunctionDef _ _ _ _ _ _ b _ _ _=>b
 |_=>{kind:=.function,names:=[],isGenerator:=Fo,isCoroutine:=Fo}
inductive Fune(K:Aj)(x qual:Str)(st:Stmt)(f:Addr)(fd:BG):Prop where
 |mk (oc:Value) (od:Option Addr) (kV doc pm:Value) (an:Option Addr) (cdv ct:Value) (osl:Array (Option Value)) (h:fd=PySem.W.fnOf x qual (pL st) (Jp st) (Jd st) .none kV doc pm an cdv ct/\K.lookup f=So ⟨oc,od,.func fd,osl⟩/\PySem.W.codeIn K cdv qual=To):Fune K x qual st f fd
structure Fun(K:Aj)(x qual:Str)(st:Stmt)(f:Addr)(fd:BG):Prop where
 ex:Fune K x qual st f fd
 kp:PySem.W.keepIn K Br=To
section
variable{mg:Bk}{base:Heap}
def Fun.binds{qual:Str}{st:Stmt}{f:Addr}{fd:BG}{ps:Ac}(F:E0)
  (h:∀(kV doc pm:An)(an:Du)(cdv ct:An)(us:AE),Qdw=Aq->bindArgs Sm LH=pure LS):Binds K fd ps []:=by obtain⟨g,i,kV,doc,pm,an,cdv,ct,e,rfl,j,b⟩:=F.ex;exact .all (h kV doc pm an cdv ct)
def Jri{qual:Str}{st:Stmt}{f:Addr}{g:An}{e an:Du}{b:Eb}{kV doc pm cdv ct:An}(l:K.lookup f=So ⟨g,e,.func Sm,b⟩)
  (c:PySem.W.codeIn K cdv qual=To) (k:PySem.W.keepIn K Br=To):Fun K x qual st f Sm:=⟨⟨g,e,kV,doc,pm,an,cdv,ct,b,rfl,l,c⟩,k⟩
end
def iteF{A B:Prop}(h:B):if Fo=To then A else B:=by rw[if_neg ZH];exact h
def iteT{A B:Prop}(h:A):if To=To then A else B:=by rw[if_pos rfl];exact h
def Same(H W:Hp):Prop:=∀b o,H b=So o->W b=So o
def Same.refl(H:Hp):Same H H:=λ_ _ h=>h
def Same.trans{e f:Hp}(a:Same H e)(b:Same e f):Same H f:=λc o h=>b c o (a c o h)
def Same.free(e:Ca){l:Addr}(h:W l=Option.none):H l=Option.none:=by
 cases q:H l with
 |none=>rfl
 |some o=>rw[e l o q]at h;cases h
def Same.seq{xs:Av}(e:Ca)(h:b5):SqL K W a xs:=by
 rcases h with(h|⟨o,h⟩)|h
 ·exact .inl (.inl (e _ _ h))
 ·exact .inl (.inr ⟨o,e _ _ h⟩)
 ·exact .inr h
section
variable{κ:Type}[DecidableEq κ]
noncomputable def valV (kvs:Bt) (k:κ):Option V:=(kvs.find? λb=>decide (b.1=k)).map (·.2)
noncomputable def putK (kvs:Bt) (k:κ) (v:V):List (κ×V):=
 if(kvs.any λb=>decide (b.1=k))=To then kvs.map (λb=>if b.1=k then(b.1,v)else b)else kvs++[(k,v)]
noncomputable def xI (kvs:Bt) (k:κ):List (κ×V):=kvs.filter λb=>decide (b.1≠k)
def qT{p:κ×V}{r:Bt}{k:κ}(e:p.1=k):valV (p::r) k=So p.2:=by simp[valV,iI,e]
def pT{p:κ×V}{r:Bt}{k:κ}(e:¬p.1=k):valV (p::r) k=valV r k:=by simp[valV,iI,e]
theorem iU(k:κ):∀kvs:List (κ×V),(kvs.any λb=>decide (b.1=k))='亊'.isSome
 |[]=>rfl
 |p::r=>by
  rw[pD]
  by_cases e:p.1=k
  ·simp only[qT e,Zx e,Bool.true_or,fP]
  ·rw[pT e,Zs e,gF];exact iU k r
theorem Jeb(kvs:Bt)(k:κ)(v:V):'ǆ'.length<=AV+1:=by
 unfold putK;split
 ·rw[Zi];lia
 ·rw[Zn,Zk,rD];lia
def RelO.isSome_eq{u:LX}(r:RelO o u):o.isSome=u.isSome:=by
 cases o with
 |none=>cases u with
  |none=>rfl
  |some _=>exact(show False from r).elim
 |some _=>cases u with
  |none=>exact(show False from r).elim
  |some _=>rfl
def RelO.getD{u:LX}{d:V}{d':An}(r:RelO o u)(b:RelV d d'):RelV (o.getD d) (u.getD d'):=by
 cases o with
 |none=>cases u with
  |none=>exact b
  |some _=>exact(show False from r).elim
 |some _=>cases u with
  |none=>exact(show False from r).elim
  |some _=>exact r
def KV.val{kvs:Bt}{vs:Cn}(r:EK)(k:κ):RelO '亊' (valueAt vs k):=by
 unfold KV at r;induction r with
 |nil=>exact ZT
 |@cons p q m f h t j=>
  obtain⟨i,l⟩:=h;by_cases e:p.1=k
  ·have g:q.1=k:=i.symm.trans e;have b:valueAt (q::f) k=So q.2:=by simp[valueAt,iI,g]
   rw[qT e,b];exact l
  ·have g:¬q.1=k:=λz=>e (i.trans z);have b:valueAt (q::f) k=valueAt f k:=by simp[valueAt,iI,g]
   rw[pT e,b];exact j
def KV.any{kvs:Bt}{vs:Cn}(r:EK)(k:κ):(kvs.any λb=>decide (b.1=k))=vs.any λb=>decide (b.1=k):=by
 unfold KV at r;induction r with
 |nil=>rfl
 |cons h t e=>rw[pD,pD,e,h.1]
def KV.repl{kvs:Bt}{vs:Cn}(r:EK)(k:κ)(j:CJ):
  KV (kvs.map λb=>if b.1=k then(b.1,y)else b) (vs.map λb=>if b.1=k then(b.1,u)else b):=by
 unfold KV at r⊢;induction r with
 |nil=>exact .nil
 |@cons p q l m h t g=>
  rw[Zg,Zg];refine .cons ?_ g;obtain⟨f,i⟩:=h;by_cases e:p.1=k
  ·rw[if_pos e,if_pos (f.symm.trans e)];exact⟨f,j⟩
  ·rw[if_neg e,if_neg (λz=>e (f.trans z))];exact⟨f,i⟩
def KV.put{kvs:Bt}{vs:Cn}(r:EK)(k:κ)(b:CJ):KV Qcd (stored vs k u):=by
 unfold putK stored;rw[r.any k];by_cases e:(vs.any λf=>decide (f.1=k))=To
 ·rw[if_pos e,if_pos e];exact r.repl k b
 ·rw[if_neg e,if_neg e];exact Paired.snoc r ⟨rfl,b⟩
def KV.drop{kvs:Bt}{vs:Cn}(r:EK)(k:κ):KV (xI kvs k) (without vs k):=by
 unfold KV at r⊢;unfold xI without;induction r with
 |nil=>exact .nil
 |@cons p q m l h t g=>
  obtain⟨f,i⟩:=h;rw[mF,mF];by_cases e:p.1=k
  ·have a:¬decide (p.1≠k)=To:=by simp[e]
   have b:¬decide (q.1≠k)=To:=by simp[f.symm.trans e]
   rw[if_neg a,if_neg b];exact g
  ·have j:¬q.1=k:=λz=>e (f.trans z);have a:decide (p.1≠k)=To:=by simp[e]
   have b:decide (q.1≠k)=To:=by simp[j]
   rw[if_pos a,if_pos b];exact .cons ⟨f,i⟩ g
def KV.keys{kvs:Bt}{vs:Cn}(r:EK):kvs.map (·.1)=vs.map (·.1):=by
 unfold KV at r;induction r with
 |nil=>rfl
 |cons h t b=>rw[Zg,Zg,b,h.1]
def KV.length{kvs:Bt}{vs:Cn}(r:EK):AV=AJ:=rH r
def Jqn(kvs:Bt)(k:κ):(xI kvs k).length<=AV:=rM _ _
end
def uG{k:Key}(r:RelV (kV k) u):'ѣ'.is k u=To:=by
 cases k with
 |inl i=>obtain⟨t,e⟩:=(show∃t,u=Value.int i t from r);subst e;exact JiS P w i t
 |inr x=>obtain⟨t,e⟩:=(show∃t,u=Value.str x t from r);subst e;exact Jet P w x t
 |non=>cases(show u=Xx from r);rfl
mutual
theorem Jwq{P:Ba}{w:AQ}{H:Hp}{h:Heap}(ok:BE):∀(k:KTr Key){v:V}{u:An},KH H k v->RelV v u->KAt VY h k u
 |.a k,v,u,x,r=>by cases(show v=kV k from x);exact uG r
 |.t ks,v,u,⟨a,xs,e,h1,h2⟩,r=>by
  subst e
  cases(show u=Value.ref a from r)
  obtain⟨_,i,b,o,g,f,n,j⟩:=(show ObjOk P w H h a Bb from ok a _ h1)
  exact⟨a,o,_,n,rfl,g,f,j,by simpa using Jsp ok ks h2 b⟩
theorem Jsp{P:Ba}{w:AQ}{H:Hp}{h:Heap}(ok:BE):∀(ks:G6){xs:Av}{us:AE},KHs H ks xs->Vals xs us->KAts VY h ks us
 |[],_,_,x,r=>by cases x;cases r;rfl
 |k::ks,_,_,⟨v,q,e,h1,h2⟩,r=>by
  subst e
  cases r with
  |cons f b=>exact⟨_,_,rfl,Jwq ok k h1 f,Jsp ok ks h2 b⟩
end
noncomputable abbrev KT (H:Hp):List (List DG×V)->List (List DG×Addr×Value)->Prop:=Paired λp q=>p.1=q.1/\KB H p.1 q.2.1/\RelV p.2 q.2.2
def KT.val(r:LJ)(k:Qcx):RelO '亊' ('ҽ'.map (·.2)):=by
 induction r with
 |nil=>exact ZT
 |@cons p q m f h t j=>
  obtain⟨i,_,l⟩:=h;by_cases e:p.1=k
  ·have g:q.1=k:=i.symm.trans e;have b:atKey (q::f) k=So q.2:=by simp[atKey,iI,g]
   rw[qT e,b];exact l
  ·have g:¬q.1=k:=λz=>e (i.trans z);have b:atKey (q::f) k=atKey f k:=by simp[atKey,iI,g]
   rw[pT e,b];exact j
def KT.repl(r:LJ)(k:Qcx)(l:CJ):
  KT H (kvs.map λf=>if f.1=k then(f.1,y)else f) (xs.map (putAt k u)):=by
 induction r with
 |nil=>exact .nil
 |@cons p q v m h t j=>
  rw[Zg,Zg];refine .cons ?_ j;obtain⟨b,g,i⟩:=h;unfold putAt;by_cases e:p.1=k
  ·rw[if_pos e,if_pos (b.symm.trans e)];exact⟨b,g,l⟩
  ·rw[if_neg e,if_neg (λz=>e (b.trans z))];exact⟨b,g,i⟩
def KT.put(r:LJ)(k:Qcx){b:Addr}(h:KB H k b)(f:CJ):
  KT H Qcd (storedH xs k b u):=by
 have e:(kvs.any λg=>decide (g.1=k))='ҽ'.isSome:=by rw[iU,(r.val k).isSome_eq,Option.isSome_map]
 unfold putK storedH;rw[e];by_cases q:'ҽ'.isSome=To
 ·rw[if_pos q,if_pos q];exact r.repl k f
 ·rw[if_neg q,if_neg q];exact Paired.snoc r ⟨rfl,h,f⟩
def KT.keeps(r:LJ)(f:∀b e,H b=So (.tup e)->W b=So (.tup e)):KT W kvs xs:=
 Paired.mapP r λ_ _ z=>⟨z.1,z.2.1.keep f,z.2.2⟩
section
variable{h:Heap}
def JvW{u:HO}(ok:BE)(e:Rd H a u):ObjOk P w H h a u:=e.ok ok
def vF{kvs:List (Key×V)}(ok:BE)(e:Rd H a AN):AV<=sizeLine/\ED=Fo/\∃b,KV kvs b/\h.DictOf VY a b:=
 show ObjOk P w H h a AN from JvW ok e
def nW{kvs:List (Key×V)}(ok:BE)(e:H a=So AN):AV<=sizeLine/\ED=Fo/\∃b,KV kvs b/\h.DictOf VY a b:=vF ok QcY
def key_of{ks:G6}(ok:BE)(e:KB H ks a):'Џ'.is h ks a:=⟨Jwq ok _ e.1 rfl,e.2⟩
def xG(ok:BE)(e:Rd H a BA):AV<=sizeLine/\ED=Fo/\
  ∃xs,KT H kvs xs/\h.DictOfH 'Џ' a xs:=by
 obtain⟨z,y,xs,r,o,i,j,G,C,g,F,v⟩:=(show ObjOk P w H h a BA from JvW ok e);refine⟨z,y,xs,r,o,i,j,G,C,g,F,λx b=>?_,v⟩;have all:∀{l:List (List (KTr Key)×V)}{m:List (List (KTr Key)×Addr×Value)},KT H l m->∀x∈m,'Џ'.is h x.1 x.2.1:=by
  intro l m q;induction q with
  |nil=>intro x b;exact nomatch b
  |@cons p q J I f t B=>
   intro x b;rcases Zf.mp b with e|b
   ·subst e;exact key_of ok (by rw[<-f.1];exact f.2.1)
   ·exact B x b
 exact all r x b
def JvL(ok:BE)(e:H a=So BA):AV<=sizeLine/\ED=Fo/\
  ∃xs,KT H kvs xs/\h.DictOfH 'Џ' a xs:=xG ok QcY
end
theorem zJ(b:Fx):'Џ'.room XI:=show A.units+1+50<cLine by lia
def NoH(K:Aj)(H:Hp):Prop:=∀b o,K.lookup b=So o->H b=No
def Inv.noH(I:AH):NoH X.K H:=λb o e=>(I.bs b o (I.mod.kin b o e)).2
def DGet(K:Aj)(H:Hp)(a:Addr)(y:V)(r:cA):Prop:=
 (∃kvs k,Rd H a AN/\y=kV k/\r=valV kvs k)\/∃kvs k b,Rd H a BA/\y=.ref b/\(NoH K H->KB H k b)/\r=valV kvs k
def DPut(K:Aj)(H:Hp)(a:Addr)(y v:V)(W:Hp):Prop:=
 (∃kvs k,H a=So AN/\y=kV k/\kvs.length<sizeLine/\W=upd H a (.dK 'ǆ'))\/
 ∃kvs k b,H a=So BA/\y=.ref b/\(NoH K H->KB H k b)/\kvs.length<sizeLine/\W=upd H a (.dT 'ǆ')
def DPut.k{kvs:List (Key×V)}{k:Key}{v:V}(e:H a=So AN)(b:AV<sizeLine):DPut K H a (kV k) v (upd H a (.dK 'ǆ')):=.inl ⟨kvs,k,e,rfl,b,rfl⟩
def DPut.t{b:Addr}{k:G6}{v:V}(e:H a=So BA)(g:NoH K H->KB H k b)(f:AV<sizeLine):
  DPut K H a CK v (upd H a (.dT 'ǆ')):=.inr ⟨kvs,k,b,e,rfl,g,f,rfl⟩
section
variable{v:V}{r:An}
def Inv.big(I:AH):sysModules<Aa:=by have h:mainGlobals<Aa:=(I.mod.glob.keeps I.bk).lt;exact Nat.lt_trans AB h
def JhX{Q:Ay}(M:Fx)(I:AH)(g:DGet X.K H a y BO)(G:CJ)(h:∀j F,Inv X Y Z H F->RelV v j->Q j F):
  wpAny AD A (getItem Ar u) Q E s:=by
 rcases g with⟨kvs,k,e,q,l⟩|⟨kvs,k,b,e,q,L,l⟩
 ·subst q;obtain⟨z,J,N,f,m⟩:=vF XD e;obtain⟨j,C,i⟩:=RelO.some_of (v:=v) (o:=valueAt N k) (by rw[l];exact f.val k);exact wpAny_getItem_of (uG G) m.mapOf C (h j _ C8 i)
 ·subst q;cases(show u=Value.ref b from G);obtain⟨z,J,xs,f,m⟩:=xG XD e;obtain⟨j,C,i⟩:=RelO.some_of (v:=v) (o:='ҽ'.map (·.2)) (by rw[l];exact f.val k);obtain⟨p,O,B⟩:=Option.map_eq_some_iff.mp C;refine wpAny_getItem_heap (zJ M) (key_of XD (L I.noH)) m O ?_;rw[B];exact h j _ C8 i
def d_in{Q:Ay}(G:Fx)(I:AH)(g:KZ)(C:CJ)(h:∀B,Inv X Y Z H B->Q (.bool cG) B):
  wpAny AD A (compareOp .In u Ar) Q E s:=by
 rcases g with⟨kvs,k,e,m,l⟩|⟨kvs,k,b,e,m,F,l⟩
 ·subst m;obtain⟨z,i,J,f,j⟩:=vF XD e;refine wpAny_in_of (uG C) i j.mapOf ?_;rw[<-(f.val k).isSome_eq,<-l];exact h _ C8
 ·subst m;cases(show u=Value.ref b from C);obtain⟨z,i,xs,f,j⟩:=xG XD e;refine wpAny_in_heap (zJ G) Qr i j ?_;have q:=(f.val k).isSome_eq;rw[Option.isSome_map]at q;rw[<-q,<-l];exact h _ C8
def JsH{Q:Ay}(G:Fx)(I:AH)(g:KZ)(C:CJ)(h:∀B,Inv X Y Z H B->Q (.bool (!o.isSome)) B):
  wpAny AD A (compareOp .NotIn u Ar) Q E s:=by
 rcases g with⟨kvs,k,e,m,l⟩|⟨kvs,k,b,e,m,F,l⟩
 ·subst m;obtain⟨z,i,J,f,j⟩:=vF XD e;refine wpAny_notIn_of (uG C) i j.mapOf ?_;rw[<-(f.val k).isSome_eq,<-l];exact h _ C8
 ·subst m;cases(show u=Value.ref b from C);obtain⟨z,i,xs,f,j⟩:=xG XD e;refine wpAny_notIn_heap (zJ G) Qr i j ?_;have q:=(f.val k).isSome_eq;rw[Option.isSome_map]at q;rw[<-q,<-l];exact h _ C8
def jT{h':Heap}{t':Nat}{ob:HO}(I:AH)(f:Mut (H a))(hs:Heap.SameBut a VU h')(h:∃q,h'.get? a=So q)(new:ObjOk Xz X.w (upd H a ob) h' a ob):
  Inv X Y Z (upd H a ob) {s with heap:=h',toks:=t'}:=
 I.write (x:=a) (e:=a) f Be (λb q g z=>(hs.2 b g).trans z) h new
def JrA{h':Heap}{kvs:List (Key×V)}{vs:List (Key×Value)}(z:AV<=sizeLine)(e:ED=Fo)(b:EK)(dd:h'.DictOf VY a vs):
  ObjOk P w W h' a AN:=⟨z,e,vs,b,dd⟩
theorem JgF{Q:Dl}(hu:Fx)(I:AH)(g:DPut X.K H a y v W)(N:CJ)(U:RelV v r)(h:∀s',Inv X Y Z W s'->Q () s'):
  wpAny AD A (setItem Ar u r) Q E s:=by
 rcases g with⟨kvs,k,e,G,l,J⟩|⟨kvs,k,b,e,G,O,l,J⟩
 ·subst G J;obtain⟨z,m,vs,f,F⟩:=nW XD e;have L:AJ<=sizeLine:=by rw[<-f.length];exact z
  have B:'ǆ'.length<=sizeLine:=by have:=Jeb kvs k v;lia
  refine wpAny_setItem_pairs (hsz:=L) (uG N) F λh' i C=>h _ ?_;have he:∃q,h'.get? a=So q:=let⟨q,_,_,j,_⟩:=i;⟨q,j⟩;exact jT I (by rw[e];exact ZT) C he (JrA B m (f.put k U) i)
 ·subst G J;cases(show u=Value.ref b from N);obtain⟨z,m,xs,f,F⟩:=JvL XD e;have L:Ah<=sizeLine:=by rw[<-rH f];exact z
  have B:'ǆ'.length<=sizeLine:=by have:=Jeb kvs k v;lia
  refine wpAny_setItem_heap (hsz:=L) (zJ hu) (key_of XD (O I.noH)) F λh' i C=>h _ ?_;obtain⟨q,es,ep,j,h2,h3,h4,_,h5⟩:=i;refine jT I (by rw[e];exact ZT) C ⟨q,j⟩ ⟨B,m,_,(f.put k (O I.noH) U).keeps λc ys M=>?_,q,es,ep,j,h2,h3,h4,h5⟩;rw[Jb (RW M e (λz=>nomatch z))];exact M
end
section
variable{kvs:List (Key×V)}{k:Key}
def d_pop{v:V}{b:AE}{Q:Ay}(I:AH)(e:H a=So AN)(m:RelV (kV k) u)(l:valV kvs k=So v)(B:b=[]\/∃x,b=[x])
  (h:∀j F,Inv X Y Z (upd H a K5) F->RelV v j->Q j F):wpAny AD A (call (.builtin "dict.pop") (.ref a::u::b)) Q E s:=by
 obtain⟨z,L,G,f,C⟩:=nW XD e;obtain⟨j,O,r⟩:=RelO.some_of (v:=v) (o:=valueAt G k) (by rw[<-l];exact f.val k);have hp:(keyPart u).isSome=To:=by
  cases k with
  |inl i=>obtain⟨t,q⟩:=(show∃t,u=Value.int i t from m);subst q;rfl
  |inr x=>obtain⟨t,q⟩:=(show∃t,u=Value.str x t from m);subst q;rfl
  |non=>cases(show u=Xx from m);rfl
 have M:argsOk "dict.pop" ⟨.ref a::u::b,[]⟩:=by
  rcases B with q|⟨x,q⟩
  ·subst q;exact PySem.F.args_dict_pop_2 _ _
  ·subst q;exact PySem.F.args_dict_pop_3 _ _ _
 refine fM eE C.typeIs PySem.F.entry_dict_pop M (meets_dict_pop_there KY a (uG m) b B hp)
  ⟨G,j,C,by rw[<-f.length];exact z,O,λh' g J=>h j _ ?_ r⟩
 have N:∃q,h'.get? a=So q:=let⟨q,_,_,U,_⟩:=g;⟨q,U⟩;exact jT I (by rw[e];exact ZT) J N (JrA (Zq (Jqn kvs k) z) L (f.drop k) g)
end
def NoSl(i:Expr):Prop:=∀b e,subscripted i Fo b e=operate [b,e] (getItem b e)
def Jsv{prog:Ba}{O:Env}{e b:Expr}{T id:Bg}{Q:Ay}
  (B:typeLookup EM "__getitem__"=pure (So DA)) (hs:NoSl b)
  (h:wpAny Au A cR (λo l=>wpAny Au A (eval b O) (λi f=>f.TypeIs o T/\wpAny Au A QdF Q E f) E l) E s):
  wpAny Au A (eval (.Subscript e b pos) O) Q E s:=by
 refine Subscript_ (ZY h (λo l q=>ZY q (λi f g=>?_) λ_ _ x=>x) λ_ _ x=>x);obtain⟨z,g⟩:=g;unfold subscriptTail;refine Za ?_;rw[getitemInPython_of_ne z.not_modules];refine Za (oJ z B ?_);have m:wpAny Au A (subscripted b Fo o i) (λr j=>wpAny Au A (letTemporaryGo e o r>>=λ_=>pure r) Q E j) E f:=by rw[hs o i];exact wpAny_operating (ZY g (λr j v=>Za (wpAny_letTemporaryGo (Zb v))) λ_ _ x=>x)
 first
  |exact Zb (Za m)
  |exact Za (Zb (Za m))
  |exact Za m
def Jjc(I:AH)(g:KZ):s.TypeIs Ar "dict":=by
 rcases g with⟨kvs,k,e,_,_⟩|⟨kvs,k,b,e,_,_,_⟩
 ·obtain⟨_,_,h,_,f⟩:=vF XD e;exact f.typeIs
 ·obtain⟨_,_,xs,_,f⟩:=xG XD e;exact f.typeIs
def tDGet(K:Aj)(e ty:TE):TE:=λZ H Q=>e Z H λx f=>ty Z f λy b=>∃a v,x=.ref a/\DGet K b a y BO/\Q v b
def tDIn(K:Aj)(ty e:TE):TE:=λZ H Q=>ty Z H λy f=>e Z f λx b=>∃a o,x=.ref a/\DGet K b a y o/\Q (.bl cG) b
def Jte(K:Aj)(ty e:TE):TE:=λZ H Q=>ty Z H λy f=>e Z f λx b=>∃a o,x=.ref a/\DGet K b a y o/\Q (.bl (!o.isSome)) b
def sDPut(K:Aj)(e ty f:TE):TS:=λD Z H=>f Z H λv g=>e Z g λx h=>ty Z h λy i=>∃a b,x=.ref a/\DPut K i a y v b/\D.nx Z b
def sDAug(K:Aj)(g ty h:TE)(m:V->V->Hp->VK->Prop):TS:=λD Z H=>g Z H λx j=>ty Z j λy e=>∃a v,x=.ref a/\DGet K e a y BO/\
 h Z e λi l=>m v i l λz f=>∃b,DPut K f a y z b/\D.nx Z b
section
variable{o i e value:Expr}{pos' tpos:Pos}{td ty tv:TE}
def JtB(z:FE)(ho:EJ)(hi:II)(hs:NoSl i):PE X (.Subscript o i pos) (tDGet X.K td ty):=by intro Y s Z H Q I h;refine Jsv PySem.F.slot_dict_getitem.lookup hs (thn FF λu C⟨x,r,J,m,F⟩=>thn (hi Y C Z r _ J F) λO M b=>?_);obtain⟨y,G,j,B,a,v,ex,g,q⟩:=b;subst ex;obtain rfl:u=Value.ref a:=m;exact⟨Jjc j g,JhX z j g B λN L l f=>⟨v,G,l,f,q⟩⟩
def JrB(r:FE)(hi:II)(C:EJ):PC X .In i o (tDIn X.K ty td):=by intro Y s Z H Q I h;refine thn N9 λN z⟨y,q,J,G,B⟩=>thn Qad λu M b=>?_;obtain⟨x,F,v,j,a,l,ex,g,m⟩:=b;subst ex;obtain rfl:u=Value.ref a:=j;exact d_in r v g G λL f=>⟨.bl l.isSome,F,f,rfl,m⟩
def Joj(r:FE)(hi:II)(C:EJ):PC X .NotIn i o (Jte X.K ty td):=by intro Y s Z H Q I h;refine thn N9 λN z⟨y,q,J,G,B⟩=>thn Qad λu M b=>?_;obtain⟨x,F,v,j,a,l,ex,g,m⟩:=b;subst ex;obtain rfl:u=Value.ref a:=j;exact JsH r v g G λL f=>⟨.bl (!l.isSome),F,f,rfl,m⟩
def eZ(N:FE)(C:EJ)(hi:II)(z:HR)(hs:swapsWith value (So (.Subscript o i pos')) XH Ue=pure Fo):
  PS X (.Assign [.Subscript o i pos'] value pos) (sDPut X.K td ty tv):=by intro Y s Z H D I h;refine wpAny_Assign_Subscript (thn (z Y s Z H _ I h) λr q⟨v,l,I1,M,U⟩=>thn (C Y q Z l _ I1 U) λu m⟨x,F,O,b,j⟩=>thn (hi Y m Z F _ O j) λiv s3⟨y,H3,J,G,a,f,ex,g,B⟩=>?_) hs;subst ex;obtain rfl:u=Value.ref a:=b;exact JgF N J g G M λs4 L=>⟨Z,f,L,B⟩
def JsL{op:b9}{F:V->V->Hp->VK->Prop}(C:FE)(ho:EJ)(hi:II)(hv:HR)(l:InOp X op F)
  (ha:∀j f b,augStore i j f b=(do holding [b,j,f] (setItem j f b);release [b,j,f] [];pure .next)):PS X (.AugAssign (.Subscript o i tpos) op value pos) (sDAug X.K td ty tv F):=by intro Y s Z H D I h;refine wpAny_AugAssign_SubscriptAny (thn FF λu U⟨x,N,I1,J,q1⟩=>thn (hi Y U Z N _ I1 q1) λf s2⟨y,H2,I2,B,a,v,ex,g,M⟩=>?_) ha;subst ex;obtain rfl:u=Value.ref a:=J;refine JhX C I2 g B λw' L I3 r=>thn (hv Y L Z H2 _ I3 M) λw2 s4⟨y2,H3,I4,q,q3⟩=>thn (l Y s4 Z H3 v y2 w' w2 _ I4 r q q3) λw3 s5 m=>?_;obtain⟨z,H4,G,rz,H5,O,q4⟩:=m;exact JgF C G O B rz λs6 I6=>⟨Z,H5,I6,q4⟩
end
def Jpz(h:Heap)(b:sysModules<Bz):ObjOk P w H (h.push {cls:=.type "dict",data:=.dict #[]}) Bz aY:=
 ⟨vB _,ZA.mpr Qa0,[],.nil,Heap.DictOf.new h⟩
def Jku(h:Heap)(b:sysModules<Bz):ObjOk P w H (h.push {cls:=.type "dict",data:=.dict #[]}) Bz aZ:=
 ⟨vB _,ZA.mpr Qa0,[],.nil,_,#[],0,Ze _ rfl,Hl,rfl,rfl,aG⟩
def tDNewK:TE:=λ_ H Q=>∀p,H p=No->Q EF (upd H p aY)
def tDNewT:TE:=λ_ H Q=>∀p,H p=No->Q EF (upd H p aZ)
def JfB:PE X RU tDNewK:=λY s Z H Q I h=>
 wpAny_Dict_empty ⟨.ref Aa,_,I.laid (a:=Aa) (o:=.dK []) (t':=Xv) M5 (Zh _) (Jpz VU I.big),rfl,h _ E1⟩
def Jpm:PE X RU tDNewT:=λY s Z H Q I h=>
 wpAny_Dict_empty ⟨.ref Aa,_,I.laid (a:=Aa) (o:=.dT []) (t':=Xv) M5 (Zh _) N8,rfl,h _ E1⟩
structure M1(X:Cx)(o:Expr)(m:Str)(apos:Pos)(e:Expr)(cpos:Pos):Prop where
 base:attributeBase o m Ue MC=eval o Ue
 few:((backTo cpos OU).all (λx=>!x.1)&&(backToKw cpos Lu).all (λx=>x.1.isSome)
  &&decide (([e]:List Expr).length+([]:List Keyword).length+(if([]:List Keyword).isEmpty then 0 else 1)<30))=To
 line:(YV==aP)=To
 trees:backTo cpos OU=[Xh]
structure M2(X:Cx)(o:Expr)(m:Str)(apos:Pos)(e f:Expr)(cpos:Pos):Prop where
 base:attributeBase o m Ue MC=eval o Ue
 few:((backTo cpos PQ).all (λx=>!x.1)&&(backToKw cpos Lu).all (λx=>x.1.isSome)
  &&decide (([e,f]:List Expr).length+([]:List Keyword).length+(if([]:List Keyword).isEmpty then 0 else 1)<30))=To
 line:(YV==aP)=To
 trees:backTo cpos PQ=[Xh,(Fo,eval f Ue)]
def IsD(H:Hp)(a:Addr):Prop:=(∃kvs,Rd H a AN)\/∃kvs,Rd H a BA
def jY(I:AH)(d:IsD H a):
  s.TypeIs Ar "dict"/\(∀b,Value.ref a=.ref b->∃ob,s.heap.get? b=So ob/\ob.dict=No)/\ED=Fo:=by
 rcases d with⟨kvs,e⟩|⟨kvs,e⟩
 ·obtain⟨_,i,j,_,f⟩:=vF XD e;refine QI;cases q;obtain⟨ob,_,_,g,h,_⟩:=f;exact⟨ob,g,h.2.1⟩
 ·obtain⟨_,i,xs,_,f⟩:=xG XD e;refine QI;cases q;obtain⟨ob,_,_,g,h,_⟩:=f;exact⟨ob,g,h.2.1⟩
section
variable{d:V}{r:An}
def Jyf{Q:Ay}(F:Fx)(I:AH)(g:KZ)(B:CJ)(h:∀v q,Inv X Y Z H q->RelV QdG v->Q v q):
  wpAny AD A (call Ph [.ref a,u]) Q E s:=by
 rcases g with⟨kvs,k,e,m,l⟩|⟨kvs,k,b,e,m,C,l⟩
 ·subst m;obtain⟨z,j,G,f,i⟩:=vF XD e;refine fM sJ Z0 nP UF (meets_dict_get KY a (uG B) j) QU;rw[l];exact(f.val k).getD rfl
 ·subst m;cases(show u=Value.ref b from B);obtain⟨z,j,xs,f,i⟩:=xG XD e;refine fM sJ Z0 nP UF (meetsH_dict_get RF a b j) ⟨zJ F,k,xs,key_of XD (C I.noH),i,h _ _ C8 ?_⟩;rw[l];exact(f.val k).getD rfl
def Jwr{Q:Ay}(G:Fx)(I:AH)(g:KZ)(B:CJ)(C:RelV d r)(h:∀v q,Inv X Y Z H q->RelV (o.getD d) v->Q v q):
  wpAny AD A (call Ph [.ref a,u,r]) Q E s:=by
 rcases g with⟨kvs,k,e,m,l⟩|⟨kvs,k,b,e,m,F,l⟩
 ·subst m;obtain⟨z,j,J,f,i⟩:=vF XD e;refine fM sJ Z0 nP US (meets_dict_get_default KY a (uG B) j r) QU;rw[l];exact(f.val k).getD C
 ·subst m;cases(show u=Value.ref b from B);obtain⟨z,j,xs,f,i⟩:=xG XD e;refine fM sJ Z0 nP US (meetsH_dict_get_default RF a b j r) ⟨zJ G,k,xs,key_of XD (F I.noH),i,h _ _ C8 ?_⟩;rw[l];exact(f.val k).getD C
end
def Jxw(K:Aj)(f ty:TE):TE:=λZ H Q=>f Z H λx b=>∃a,x=.ref a/\IsD b a/\ty Z b λy e=>∃o,DGet K e a y o/\Q QdG e
def Jxk(K:Aj)(g ty f:TE):TE:=λZ H Q=>g Z H λx b=>∃a,x=.ref a/\IsD b a/\ty Z b λy h=>f Z h λz e=>∃o,DGet K e a y o/\Q (o.getD z) e
def JxP(f ty:TE):TE:=λZ H Q=>f Z H λx b=>∃a,x=.ref a/\IsD b a/\ty Z b λy e=>∃kvs k v,e a=So AN/\y=kV k/\valV kvs k=So v/\Q v (upd e a K5)
section
variable{o e f:Expr}{apos cpos:Pos}{td ty tx:TE}
def Jpa(G:FE)(ho:EJ)(J:Qdk)(m:M1 X o "get" apos e cpos):PE X (.Call QC [e] [] cpos) (Jxw X.K td ty):=by intro Y s Z H Q I h;refine yL m.base m.few m.line kM sJ eF (thn FF λu v b=>?_);obtain⟨x,r,j,l,a,ex,d,M⟩:=b;subst ex;obtain rfl:u=Value.ref a:=l;obtain⟨N,F,_⟩:=jY j d;refine⟨N,F,?_⟩;rw[m.trees];refine kI rfl (pM (zL (thn (J Y v Z r _ j M) λiv s2⟨y,z,L,B,U,g,q⟩=>xP ?_)));exact Jyf G L g B λw' O C i=>⟨_,z,C,i,q⟩
def Jqp(U:FE)(ho:EJ)(he:Qdk)(l:PE X f tx)(m:M2 X o "get" apos e f cpos):PE X (.Call QC [e,f] [] cpos) (Jxk X.K td ty tx):=by
 intro Y s Z H Q I h;refine yL m.base m.few m.line kM sJ eF (thn FF λu C b=>?_);obtain⟨x,v,j,q,a,ex,d,q1⟩:=b;subst ex;obtain rfl:u=Value.ref a:=q;obtain⟨t1,N,_⟩:=jY j d;refine⟨t1,N,?_⟩;rw[m.trees];refine kI rfl (pM (zL (thn (he Y C Z v _ j q1) λiv B⟨y,G,I2,J,r⟩=>
  zL (thn (l Y B Z G _ I2 r) λfv s3⟨z,O,L,rz,ov,g,F⟩=>xP ?_))))
 exact Jwr U L g J rz λw' s4 M i=>⟨_,O,M,i,F⟩
def Jqy(ho:EJ)(J:Qdk)(m:M1 X o "pop" apos e cpos):PE X (.Call (.Attribute o "pop" apos) [e] [] cpos) (JxP td ty):=by intro Y s Z H Q I h;refine yL m.base m.few m.line kM eE PySem.F.type_dict_pop (thn FF λu z b=>?_);obtain⟨x,r,i,j,a,ex,d,M⟩:=b;subst ex;obtain rfl:u=Value.ref a:=j;obtain⟨O,F,_⟩:=jY i d;refine⟨O,F,?_⟩;rw[m.trees];refine kI rfl (pM (zL (thn (J Y z Z r _ i M) λiv s2⟨y,H2,L,B,kvs,k,v,N,G,l,q⟩=>xP ?_)));subst G;exact d_pop L N B l Be λw' U C g=>⟨v,_,C,g,q⟩
end
end L2
namespace Pu
open PySem
variable{α β:Type}{E:DE}{nt:Nat}
inductive D where
 | non | bl (b:Bool) | int (i:Int) | str (x:Str) | tup (ds:List D) | lst (ds:List D)
 | dct (t z:Bool) (ks vs:List D) | exc (c:Str) | fn (x:Str) (i:Nat)
 | obj (a:Nat) (ns:List Str) (fs:List D)
 | mls (t:Str) (ds:List D) | adr (b:Nat)
 deriving Inhabited
inductive Rs(α:Type)where
 |ok (a:α)|ex (c:Str)|sk
variable{P:D->Prop}
noncomputable def Rs.bind :Rs α->(α->Rs β)->Rs β
 |.ok a,f=>f a
 |.ex c,_=>.ex c
 |.sk,_=>.sk
noncomputable def Rs.calm :Rs α->Rs α
 |.ok a=>.ok a
 |.ex _=>.sk
 |.sk=>.sk
@[simp]def Rs.calm_ok(a:α):(Rs.ok a).calm=.ok a:=rfl
def Rs.Good(r:Rs α)(P:α->Prop)(E:DE):Prop:=
 match r with
 |.ok a=>P a
 |.ex c=>E c
 |.sk=>False
@[simp]def Rs.bo(a:α)(f:α->Rs β):(Rs.ok a).bind f=f a:=rfl
@[simp]def Rs.bind_ex(c:Str)(f:α->Rs β):(Rs.ex c:Rs α).bind f=.ex c:=rfl
@[simp]def Rs.bind_stuck(f:α->Rs β):(Rs.sk:Rs α).bind f=.sk:=rfl
def Rs.bind_assoc{b:Type}(r:Rs α)(f:α->Rs β)(g:β->Rs b):'ր'.bind g=r.bind λa=>(f a).bind g:=by cases r<;>rfl
def Rs.gB{r:Rs α}{f:α->Rs β}{P:β->Prop}:'ր'.Good P E↔r.Good (λa=>(f a).Good P E) E:=by cases r<;>rfl
def Rs.good_calm{r:Rs α}{P:α->Prop}{b:DE}(h:r.calm.Good P E):r.Good P b:=by
 cases r with
 |ok a=>exact h
 |ex c=>exact h.elim
 |sk=>exact h
def Rs.Good.mono{r:Rs α}{P b:α->Prop}{e:DE}(h:Gk)(f:∀a,P a->b a)(g:∀c,E c->e c):r.Good b e:=by
 cases r with
 |ok a=>exact f a h
 |ex c=>exact g c h
 |sk=>exact h
def Rs.Good.imp{r:Rs α}{P b:α->Prop}(h:Gk)(e:∀a,P a->b a):r.Good b E:=h.mono e λ_ x=>x
mutual
def D.eqv:D->D->Bool
 |.non,.non=>To
 |.bl a,.bl b=>a==b
 |.bl a,.int b=>(if a then 1 else 0)==b
 |.int a,.bl b=>a==(if b then 1 else 0)
 |.int a,.int b=>a==b
 |.str a,.str b=>a==b
 |.tup as,.tup bs=>eqvs as bs
 |.lst as,.lst bs=>eqvs as bs
 |_,_=>Fo
def eqvs:List D->List D->Bool
 |[],[]=>To
 |a::as,b::bs=>D.eqv a b&&eqvs as bs
 |_,_=>Fo
end
mutual
def D.imm:D->Bool
 |.non=>To
 |.bl _=>To
 |.int _=>To
 |.str _=>To
 |.exc _=>To
 |.fn _ _=>To
 |.tup J=>imms J
 |.lst _=>Fo
 |.dct _ z _ a=>z&&imms a
 |.obj _ _ _=>Fo
 |.mls _ _=>Fo
 |.adr _=>Fo
def imms:List D->Bool
 |[]=>To
 |d::J=>D.imm d&&imms J
end
mutual
def D.dep:D->Nat
 |.non=>0
 |.bl _=>0
 |.int _=>0
 |.str _=>0
 |.tup J=>deps J+1
 |.lst J=>deps J+1
 |.dct _ _ _ _=>1000
 |.exc _=>1000
 |.fn _ _=>1000
 |.obj _ _ _=>1000
 |.mls _ _=>1000
 |.adr _=>1000
def deps:List D->Nat
 |[]=>0
 |d::J=>max (D.dep d) (deps J)
end
mutual
theorem wR:∀d:D,bO<=900->d.eqv d=To
 |.non,_=>rfl
 |.bl b,_=>ZE b
 |.int i,_=>ZE i
 |.str x,_=>ZE x
 |.tup J,h=>JiL J (vP h)
 |.lst J,h=>JiL J (vP h)
 |.dct _ _ _ _,h=>by simp only[D.dep]at h;lia
 |.exc _,h=>by simp only[D.dep]at h;lia
 |.fn _ _,h=>by simp only[D.dep]at h;lia
 |.obj _ _ _,h=>by simp only[D.dep]at h;lia
 |.mls _ _,h=>by simp only[D.dep]at h;lia
 |.adr _,h=>by simp only[D.dep]at h;lia
theorem JiL:∀J:List D,deps J<=900->eqvs J J=To
 |[],_=>rfl
 |d::J,h=>by rw[show eqvs (d::J) (d::J)=(d.eqv d&&eqvs J J)from rfl,wR d (Zq (Nat.le_max_left _ _) h),JiL J (Zq (Nat.le_max_right _ _) h)];rfl
end
def iX(x y:Str):(D.str x).eqv YW=(x==y):=rfl
def JvN(a b:D)(as bs:Ak):eqvs (a::as) (b::bs)=(a.eqv b&&eqvs as bs):=rfl
noncomputable def ixn (n:Nat) (i:Int):Option Nat:=if 0<=i then(if i<n then So i.toNat else No)else if -(n:Int)<=i then So (i+n).toNat else No
def atD  (xs:List α) (i:Int):Option α:=(ixn Ah i).bind λj=>xs[j]?
noncomputable def six (n d:Nat):Option Int->Nat
 |none=>d
 |some v=>if v<0 then(v+(n:Int)).toNat else min QcD n
def cutD  (xs:List α) (lo hi:BB):List α:=(xs.drop (six Ah 0 lo)).take (six Ah Ah hi-six Ah 0 lo)
noncomputable def lD:Nat:=16777216
noncomputable def Rs.ofOpt :Option α->Rs α
 |some a=>.ok a
 |none=>.sk
noncomputable def vM (x:Str):List D:=x.cps.toList.map λc=>.str ⟨#[c]⟩
def D.walk:D->Rs YX
 |.tup J=>.ok J
 |.lst J=>.ok J
 |.str x=>.ok (vM x)
 |_=>.sk
def D.truth:D->Rs Bool
 |.non=>.ok Fo
 |.bl b=>.ok b
 |.int i=>.ok (i !=0)
 |.str x=>if x.length<=lD then .ok ((Xy:Int)!=0)else .sk
 |.tup J=>.ok (!J.isEmpty)
 |.lst J=>.ok (!J.isEmpty)
 |_=>.sk
noncomputable def D.bound:D->Rs (Option Int)
 |.non=>.ok No
 |.int i=>.ok (So i)
 |_=>.sk
noncomputable def ltS (a b:Str):Bool:=decide (a.cps.toList<b.cps.toList)
def insS (x:Str):List Str->List Str
 |[]=>[x]
 |y::ys=>if x==y then y::ys else if ltS x y then x::y::ys else y::insS x ys
def Jn:List Str->List Str
 |[]=>[]
 |x::xs=>insS x (Jn xs)
noncomputable def mkS (l:As):Str:=⟨l.toArray⟩
noncomputable def Jr (sep:As):List (List Nat)->List Nat
 |[]=>[]
 |[x]=>x
 |x::y::r=>x++(sep++Jr sep (y::r))
noncomputable def yQ (x:Nat):List (List Nat)->List C9
 |[]=>[[x]]
 |p::r=>(x::p)::r
def Jv (c:Nat):List Nat->List C9
 |[]=>[[]]
 |x::l=>if x=c then[]::Jv c l else yQ x (Jv c l)
noncomputable def cutL (c:Nat):List Nat->List Nat×Option C9
 |[]=>([],No)
 |x::l=>if x=c then([],So l)else(x::(cutL c l).1,(cutL c l).2)
def yG (x:As) (c:Nat):D:=match cutL c x with
 |(a,So b)=>.tup [.str Qar,.str (mkS [c]),.str (mkS b)]
 |(_,No)=>.tup [.str (mkS x),.str Ts,.str Ts]
noncomputable def JM:List D->Option I0
 |[]=>So []
 |.str x::J=>(JM J).map (x::·)
 |_::_=>No
inductive O1 where
 |neg|not|isN|notN|len|all|any|tuple|list|sset|lset|truth|isStr|isTup|range|enum|asI|rows|items|dictP|join|fld (f:Str)|sortD|isO (ns:List Str)
inductive O2 where
 |add|sub|mul|fdiv|mod|eq|ne|lt|le|gt|ge|isin|idx|zip|rep|dIn (t:Bool)|dNi (t:Bool)|dGet (t:Bool)|joinS|splitS|partS|ends|strt|dGz (t:Bool)
noncomputable def smallI (i:Int):Bool:=decide (-(2^64)<i)&&decide (i<2^64)
noncomputable def midI (i:Int):Bool:=decide (-(2^62)<=i)&&decide (i<2^62)
noncomputable def JO (a:D):Bool:=decide (a.dep<=20)
noncomputable def upTo (lo:Int) (n:Nat):List D:='ϑ'.map fun(k:Nat)=>D.int (lo+(k:Int))
noncomputable def Jw (k:Nat):List D->List D
 |[]=>[]
 |d::J=>.tup [.int k,d]::Jw AZ J
noncomputable def zipD:List D->List D->List D
 |a::as,b::bs=>.tup [a,b]::zipD as bs
 |_,_=>[]
noncomputable def jB:List D->Option (List Bool)
 |[]=>So []
 |.bl b::J=>(jB J).map (b::·)
 |_::_=>No
noncomputable def digs (cs:As):Nat:=cs.foldl (λa c=>a*10+(c-48)) 0
noncomputable def uK:D->Option Str
 |.str x=>if x.length<=1000 then So x else No
 |.int i=>if i.natAbs<2^64 then So (toString i:Bg)else No
 |_=>No
def fH:List D->Option Str
 |[]=>So Yf
 |d::J=>match uK d,fH J with
  |some x,So y=>if x.length+y.length<=2000 then So (x++y)else No
  |_,_=>No
noncomputable def xD (kp:D->Bool):List D->Option (List D×List D)
 |[]=>So ([],[])
 |d::J=>match d with
  |.tup [k,v]=>if kp k then(xD kp J).map λp=>(k::p.1,v::p.2)else No
  |_=>No
noncomputable def keyN:D->Bool
 |.str _=>To
 |.non=>To
 |_=>Fo
noncomputable abbrev Jyl:List D->Option (List D×List D):=xD keyN
noncomputable def banD (x:Str):Bool:=x==oS "any"||x==oS "number"||x==oS "one"||x==oS "rest"||x==oS "word"||x==oS ":"||x==oS "#"||x==oS "*"
noncomputable def keyB:D->Bool
 |.int _=>To
 |.str _=>To
 |.non=>To
 |_=>Fo
noncomputable def keyI:D->Bool
 |.int _=>To
 |_=>Fo
def keyS:D->Bool
 |.str x=>!banD x
 |_=>Fo
def banC:D->Nat
 |.str x=>if banD x then 1 else 0
 |_=>0
mutual
def JF:D->Bool
 |.int _=>To
 |.str _=>To
 |.non=>To
 |.tup J=>decide ('Ҿ'.sum<=1)&&Jz J
 |_=>Fo
def Jz:List D->Bool
 |[]=>To
 |d::J=>JF d&&Jz J
end
def keyD (t:Bool):D->Bool
 |.tup J=>t&&(J.all keyI||J.all keyS||(JF (.tup J)&&decide (deps J<=7)))
 |d=>!t&&keyB d
noncomputable def gA (k:D):List D->List D->Option D
 |a::ks,v::vs=>if a.eqv k then So v else gA k ks vs
 |_,_=>No
noncomputable def setD (k v:D):List D->List D->List D
 |a::ks,u::vs=>(if a.eqv k then v else u)::setD k v ks vs
 |_,vs=>vs
def putD (k v:D) (ks vs:Ak):List D×List D:=if ks.any λa=>a.eqv k then(ks,setD k v ks vs)else(ks++[k],vs++[v])
noncomputable def Jss:List D->Option cT
 |[]=>So []
 |.int i::J=>(Jss J).map (i::·)
 |_::_=>No
noncomputable def lexI:List Int->List Int->Bool
 |[],[]=>Fo
 |[],_::_=>To
 |_::_,[]=>Fo
 |i::is,j::js=>if i=j then lexI is js else decide (i<j)
def keysOf:List D->Option (List cT)
 |[]=>So []
 |.tup ks::J=>match Jss ks,keysOf J with
  |some k,So r=>So (k::r)
  |_,_=>No
 |_::_=>No
noncomputable def lN (J:Ak):Rs D:=match Jyl J with
 |some (ks,vs)=>if ks.Pairwise (λa b=>a.eqv b=Fo)/\ks.length<=1000 then .ok (.dct Fo To ks vs)else .sk
 |none=>.sk
def dspD (t:Bool) (ks vs:Ak):Rs D:=match t with
 |true=>match ks,vs with
  |[],[]=>.ok (.dct To To [] [])
  |[k],[v]=>if keyD To k then .ok (.dct To To [k] [v])else .sk
  |_,_=>.sk
 |false=>if ks.all keyB&&decide (ks.Pairwise λa b=>a.eqv b=Fo)&&decide (AC=AJ)&&decide (AC<=15)then .ok (.dct Fo To ks vs)else .sk
noncomputable def isiD (f:D->Bool):D->Rs D
 |.dct _ _ _ _=>.sk
 |.exc _=>.sk
 |.fn _ _=>.sk
 |.obj _ _ _=>.sk
 |.mls _ _=>.sk
 |.adr _=>.sk
 |d=>.ok (.bl (f d))
noncomputable def onII (a b:D) (k:Int->Int->Rs D):Rs D:=match a with
 |.int i=>match b with
  |.int j=>k i j
  |_=>.sk
 |_=>.sk
noncomputable def onSS (a b:D) (k:Str->Str->Rs D):Rs D:=match a with
 |.str i=>match b with
  |.str j=>k i j
  |_=>.sk
 |_=>.sk
def Jhm{a b:D}{k:Str->Str->Rs D}(h:(onSS a b k).Good P E):∃i j,a=.str i/\b=.str j/\(k i j).Good P E:=by
 cases a<;>first|exact(show False from h).elim|skip
 cases b<;>first|exact(show False from h).elim|exact Qay
noncomputable def onQ (a:D) (k:List D->Rs D):Rs D:=match a with
 |.tup J=>k J
 |.lst J=>k J
 |_=>.sk
def Jft{a:D}{k:List D->Rs D}(h:(onQ a k).Good P E):∃J,(a=.tup J\/a=.lst J)/\(k J).Good P E:=by cases a<;>first|exact(show False from h).elim|exact⟨_,.inl rfl,h⟩|exact⟨_,.inr rfl,h⟩
noncomputable def onD (a:D) (k:Bool->List D->List D->Rs D):Rs D:=match a with
 |.dct t _ ks b=>k t ks b
 |_=>.sk
def JjA{a:D}{k:Bool->List D->List D->Rs D}(h:(onD a k).Good P E):∃t z ks b,a=.dct t z ks b/\(k t ks b).Good P E:=by cases a<;>first|exact(show False from h).elim|exact⟨_,_,_,_,rfl,h⟩
def qL{a b:D}{k:Int->Int->Rs D}(h:(onII a b k).Good P E):∃i j,a=.int i/\b=.int j/\(k i j).Good P E:=by
 cases a<;>first|exact(show False from h).elim|skip
 cases b<;>first|exact(show False from h).elim|exact Qay
def op1 (o:O1) (d:D):Rs D:=
 match o with
 |.neg=>match d with
  |.int i=>.ok (.int (-i))
  |_=>.sk
 |.not=>match d with
  |.bl b=>.ok (.bl !b)
  |_=>.sk
 |.isN=>match d with
  |.non=>.ok CW
  |_=>.ok C4
 |.notN=>match d with
  |.non=>.ok C4
  |_=>.ok CW
 |.len=>match d with
  |.tup J=>.ok QaF
  |.lst J=>.ok QaF
  |.mls _ J=>.ok QaF
  |.str x=>if x.length<=lD then .ok (.int Xy)else .sk
  |_=>.sk
 |.all=>match d with
  |.lst J=>match jB J with
   |some bs=>.ok (.bl (bs.all id))
   |none=>.sk
  |_=>.sk
 |.any=>match d with
  |.lst J=>match jB J with
   |some bs=>.ok (.bl (bs.any id))
   |none=>.sk
  |_=>.sk
 |.tuple=>match d with
  |.tup J=>.ok Gp
  |.lst J=>.ok Gp
  |_=>.sk
 |.list=>match d with
  |.tup J=>.ok Bc
  |.lst J=>.ok Bc
  |_=>.sk
 |.sset=>match d with
  |.lst J=>match JM J with
   |some e=>if e.length<60 then .ok (.lst ((Jn e).map .str))else .sk
   |none=>.sk
  |_=>.sk
 |.lset=>match d with
  |.lst J=>match JM J with
   |some e=>if e.length<60 then .ok (.int (Jn e).length)else .sk
   |none=>.sk
  |_=>.sk
 |.truth=>d.truth.bind λb=>.ok YR
 |.isStr=>isiD (λd=>match d with
   |.str _=>To
   |_=>Fo) d
 |.isTup=>isiD (λd=>match d with
   |.tup _=>To
   |_=>Fo) d
 |.range=>match d with
  |.int i=>if midI i then .ok (.lst (upTo 0 i.toNat))else .sk
  |_=>.sk
 |.enum=>onQ d λJ=>.ok (.lst (Jw 0 J))
 |.asI=>match d with
  |.int i=>.ok A2
  |_=>.sk
 |.rows=>match d with
  |.tup J=>.ok Gp
  |.lst J=>.ok Bc
  |_=>.sk
 |.fld f=>match d with
  |.obj _ h fs=>match(h.zip fs).lookup f with
   |some v=>.ok v
   |none=>.sk
  |_=>.sk
 |.items=>match d with
  |.dct _ To ks j=>.ok (.lst (zipD ks j))
  |_=>.sk
 |.dictP=>match d with
  |.tup J=>lN J
  |.lst J=>lN J
  |_=>.sk
 |.join=>match d with
  |.lst J=>match fH J with
   |some x=>.ok D2
   |none=>.sk
  |_=>.sk
 |.isO h=>match d with
  |.obj a g fs=>if g=h then .ok (.obj a g fs)else .sk
  |_=>.sk
 |.sortD=>match d with
  |.dct Fo _ ks _=>match JM ks with
   |some e=>if e.Nodup/\e.length<60 then .ok (.lst ((Jn e).map .str))else .sk
   |none=>.sk
  |_=>.sk
noncomputable def repS (x:Str) (k:Int):Str:=⟨(List.replicate k.toNat x.cps).foldl (·++·) #[]⟩
noncomputable def Jvk (x:Str) (c:Nat):Bool:=decide (c∈x.cps.toList)
def op2 (o:O2) (a b:D):Rs D:=
 match o with
 |.add=>match a,b with
  |.int i,.int j=>.ok (.int (i+j))
  |.str x,.str y=>if x.length+y.length<=lD then .ok (.str (x++y))else .sk
  |.tup xs,.tup ys=>if Ah+By<=lD then .ok (.tup (xs++ys))else .sk
  |.lst xs,.lst ys=>if Ah+By<=lD then .ok (.lst (xs++ys))else .sk
  |_,_=>.sk
 |.sub=>onII a b λi j=>.ok (.int (i-j))
 |.mul=>match a,b with
  |.int i,.int j=>if smallI i||smallI j then .ok (.int (i*j))else .sk
  |.str x,.int k=>if 2<=k/\k<=1000/\1<=Xy/\x.length<=1000 then .ok (.str (repS x k))else .sk
  |_,_=>.sk
 |.fdiv=>onII a b λi j=>if 0<j/\j<1073741824 then .ok (.int (i / j))else .sk
 |.mod=>onII a b λi j=>if 0<j then .ok (.int (i % j))else .sk
 |.eq=>if JO a&&JO b then .ok (.bl (a.eqv b))else .sk
 |.ne=>if JO a&&JO b then .ok (.bl (!a.eqv b))else .sk
 |.lt=>match a with
  |.int i=>match b with
   |.int j=>.ok (.bl (decide (i<j)))
   |_=>.sk
  |.str x=>match b with
   |.str y=>.ok (.bl (ltS x y))
   |_=>.sk
  |_=>.sk
 |.le=>onII a b λi j=>.ok (.bl (decide (i<=j)))
 |.gt=>onII a b λi j=>.ok (.bl (decide (j<i)))
 |.ge=>onII a b λi j=>.ok (.bl (decide (j<=i)))
 |.isin=>match a,b with
  |.str x,.str y=>if x.cps=#[x.cps.getD 0 0]then .ok (.bl (Jvk y (x.cps.getD 0 0)))else .sk
  |a,.tup J=>if JO (.tup J)&&JO a then .ok (.bl PP)else .sk
  |a,.lst J=>if JO Bc&&JO a then .ok (.bl PP)else .sk
  |_,_=>.sk
 |.idx=>match a,b with
  |.tup J,.int i=>Rs.ofOpt (atD J i)
  |.lst J,.int i=>Rs.ofOpt (atD J i)
  |.str x,.int i=>if x.length<=lD then Rs.ofOpt ((atD XG i).map λc=>.str ⟨#[c]⟩)else .sk
  |_,_=>.sk
 |.zip=>onQ a λxs=>onQ b λys=>.ok (.lst '事')
 |.rep=>match a,b with
  |.lst J,.int k=>if midI k&&decide (Ae*k.toNat<=lD)then .ok (.lst (List.replicate k.toNat J).flatten)else .sk
  |_,_=>.sk
 |.dIn e=>onD b λt ks _=>if t=e/\keyD t a=To then .ok (.bl (ks.any λd=>d.eqv a))else .sk
 |.dNi e=>onD b λt ks _=>if t=e/\keyD t a=To then .ok (.bl (!ks.any λd=>d.eqv a))else .sk
 |.dGet e=>onD a λt ks f=>if t=e/\keyD t b=To then Rs.ofOpt (gA b ks f)else .sk
 |.dGz e=>onD a λt ks f=>if t=e/\keyD t b=To then .ok ((gA b ks f).getD a7)else .sk
 |.joinS=>match a,b with
  |.str s,.lst J=>match JM J with
   |some xs=>if s.length<=1000/\(Jr XS (xs.map (·.cps.toList))).length<=20000 then .ok (.str (mkS (Jr XS (xs.map (·.cps.toList)))))else .sk
   |none=>.sk
  |.str s,.tup J=>match JM J with
   |some xs=>if s.length<=1000/\(Jr XS (xs.map (·.cps.toList))).length<=20000 then .ok (.str (mkS (Jr XS (xs.map (·.cps.toList)))))else .sk
   |none=>.sk
  |_,_=>.sk
 |.splitS=>onSS a b λx y=>if x.length<=20000/\y.cps=#[y.cps.getD 0 0]then .ok (.lst ((Jv Qa1 XG).map λl=>.str SN))else .sk
 |.partS=>onSS a b λx y=>if x.length<=20000/\y.cps=#[y.cps.getD 0 0]then .ok (yG XG Qa1)else .sk
 |.ends=>onSS a b λx y=>.ok (.bl (decide (0+y.length<=Xy)&&(x.cps.extract (x.length-y.length) (x.length-y.length+y.length)==y.cps)))
 |.strt=>onSS a b λx y=>.ok (.bl (decide (0+y.length<=Xy)&&(x.cps.extract 0 (0+y.length)==y.cps)))
inductive Px where
 |var (i:Nat)|con (d:D)|un (o:O1) (a:Px)|bi (o:O2) (a b:Px)|and (a b:Px)|or (a b:Px)|ite (c a b:Px)|nil|cons (a as:Px)|tup (as:Px)|dis (as:Px)|call (f:Nat) (as:Px)|sl (a lo hi:Px)|walk (a:Px)|comp (nt:Nat) (src c e:Px)|dsp (t:Bool) (ks vs:Px)
 deriving Inhabited
noncomputable def usesP:Px->Nat->Bool
 |.var j,i=>j==i
 |.con _,_=>Fo
 |.un _ a,i=>usesP a i
 |.bi _ a b,i=>usesP a i||usesP b i
 |.and a b,i=>usesP a i||usesP b i
 |.or a b,i=>usesP a i||usesP b i
 |.ite c a b,i=>usesP c i||usesP a i||usesP b i
 |.nil,_=>Fo
 |.cons a b,i=>usesP a i||usesP b i
 |.tup a,i=>usesP a i
 |.dis a,i=>usesP a i
 |.call _ a,i=>usesP a i
 |.sl a b c,i=>usesP a i||usesP b i||usesP c i
 |.walk a,i=>usesP a i
 |.comp nt s c e,i=>usesP s i||usesP c (i+(if nt=0 then 1 else nt))||usesP e (i+(if nt=0 then 1 else nt))
 |.dsp _ a b,i=>usesP a i||usesP b i
def sepP (M:As) (p:Px):Bool:=M.all λi=>!usesP p i
mutual
def D.noL:D->Bool
 |.lst _=>Fo
 |.tup J=>noLs J
 |.dct _ _ _ a=>noLs a
 |.obj _ _ fs=>noLs fs
 |.mls _ J=>noLs J
 |_=>To
def noLs:List D->Bool
 |[]=>To
 |d::J=>D.noL d&&noLs J
end
noncomputable def noLI:Option (Option D)->Bool
 |some (So d)=>d.noL
 |_=>To
noncomputable abbrev Fm:=List (Option D)
variable{O:Fm}
noncomputable def zW:List D->Rs Fm
 |[x,.tup [y,z]]=>.ok OI
 |_=>.sk
def iA (nt:Nat) (d:D):Rs Fm:=
 if nt=0 then .ok [So d]else match d with
  |.tup J=>if nt=5 then zW J else if Ae=nt then .ok (J.map So)else .sk
  |_=>.sk
def Jjv{J:Ak}{r:Rs Fm}(h:zW J=r):r=.sk\/∃x y z,J=[x,.tup [y,z]]/\r=.ok OI:=by
 unfold zW at h;split at h
 ·exact .inr ⟨_,_,_,rfl,h.symm⟩
 ·exact .inl h.symm
def Jgj{d:D}{c:Str}(h:iA nt d=.ex c):False:=by
 unfold iA at h;split at h
 ·cases h
 ·split at h
  ·split at h
   ·rcases Jjv h with z|⟨_,_,_,_,z⟩<;>cases z
   ·split at h<;>cases h
  ·cases h
def JY (nt:Nat) (c e:Fm->Rs D) (O:Fm):List D->Rs YX
 |[]=>.ok []
 |d::J=>(iA nt d).bind λa=>(c (a++O)).calm.bind λb=>match b with
  |.bl To=>(e (a++O)).bind λy=>(JY nt c e O J).bind λf=>.ok (y::f)
  |.bl Fo=>JY nt c e O J
  |_=>.sk
noncomputable abbrev CallD:=Nat->List D->Rs D
noncomputable def D.asL:D->Rs YX
 |.lst J=>.ok J
 |_=>.sk
def evD (U:Ag):Px->Fm->Rs D
 |.var i,O=>match O[i]? with
  |some (So d)=>.ok d
  |_=>.sk
 |.con d,_=>.ok d
 |.un o a,O=>'ƀ'.bind (op1 o)
 |.bi o a b,O=>'ƀ'.bind λx=>(evD U b O).bind λy=>op2 o x y
 |.and a b,O=>'ƀ'.bind λx=>match x with
  |.bl To=>evD U b O
  |.bl Fo=>.ok C4
  |_=>.sk
 |.or a b,O=>'ƀ'.bind λx=>match x with
  |.bl To=>.ok CW
  |.bl Fo=>evD U b O
  |_=>.sk
 |.ite c a b,O=>'ԗ'.bind λx=>match x with
  |.bl To=>evD U a O
  |.bl Fo=>evD U b O
  |_=>.sk
 |.nil,_=>.ok GD
 |.cons a as,O=>'ƀ'.bind λx=>'ǎ'.bind λy=>y.asL.bind λJ=>.ok (.lst (x::J))
 |.tup as,O=>'ǎ'.bind λy=>y.asL.bind λJ=>if Ae<=lD then .ok (.tup J)else .sk
 |.dis as,O=>'ǎ'.bind λy=>y.asL.bind λJ=>if Ae<=lD then .ok Bc else .sk
 |.call f as,O=>'ǎ'.bind λy=>y.asL.bind λJ=>U f J
 |.sl a lo hi,O=>'ƀ'.bind λx=>(evD U lo O).bind λl=>l.bound.bind λl=>(evD U hi O).bind λh=>h.bound.bind λh=>match x with
  |.tup J=>.ok (.tup L6)
  |.lst J=>.ok (.lst L6)
  |.str x=>if x.length<=20000 then .ok (.str UE)else .sk
  |_=>.sk
 |.walk a,O=>'ƀ'.bind λx=>x.walk.bind λJ=>.ok Bc
 |.comp nt src c e,O=>'Ф'.bind λs=>s.asL.bind λJ=>if Ae<=lD then(JY nt Xp 'ԡ' O J).bind λj=>.ok (.lst j)else .sk
 |.dsp t k v,O=>(evD U k O).bind λx=>(evD U v O).bind λy=>x.asL.bind λks=>y.asL.bind λg=>dspD t ks g
inductive Sx where
 |skip|seq (a b:Sx)|set (m:Bool) (i:Nat) (e:Px)|own (i:Nat) (e:Px)|app (m:Bool) (i:Nat) (e:Px)|ext (m:Bool) (i:Nat) (e:Px)|eff (e:Px)|ret (e:Px)|ite (c:Px) (a b:Sx)|loop (m:Bool) (ts:List Nat) (nt:Nat) (src:Px) (body:Sx)|brk|raise (c:Str) (p:Px)|whl (n:Nat) (c:Px) (body:Sx)|put (m t:Bool) (i:Nat) (k v:Px)|ownD (t:Bool) (i:Nat)|retF (i:Nat)|movF (i j:Nat)
 deriving Inhabited
inductive Fw where
 |nx|rt (d:D)|bk|ct
noncomputable def zA:List Nat->List (Option D)->Fm->Fm
 |i::is,s::ss,O=>zA is ss LR
 |_,_,O=>O
def forL (ts:As) (nt:Nat) (a:Fm->Rs (Fw×Fm)):List D->Fm->Rs (Fw×Fm)
 |[],O=>.ok YF
 |d::J,O=>(iA nt d).bind λb=>(a (zA ts b O)).bind λr=>match r with
  |(.nx,env2)=>forL ts nt a J env2
  |(.ct,env2)=>forL ts nt a J env2
  |(.bk,env2)=>.ok GK
  |(.rt d,env2)=>.ok LY
noncomputable def whlL (c:Fm->Rs D) (a:Fm->Rs (Fw×Fm)):Nat->Fm->Rs (Fw×Fm)
 |0,_=>.sk
 |n+1,O=>(c O).bind λb=>match b with
  |.bl To=>(a O).bind λr=>match r with
   |(.nx,env2)=>whlL c a n env2
   |(.ct,env2)=>whlL c a n env2
   |(.bk,env2)=>.ok GK
   |(.rt d,env2)=>.ok LY
  |.bl Fo=>.ok YF
  |_=>.sk
noncomputable def txtOk:D->Bool
 |.str x=>decide (Xy<=1000)&&x.cps.toList.all λc=>decide (c<256)
 |_=>Fo
def fK:D->Bool
 |.lst J=>J.all txtOk
 |_=>Fo
noncomputable def mutS:Sx->Bool
 |.seq a b=>mutS a||mutS b
 |.app _ _ _=>To
 |.ext _ _ _=>To
 |.ite _ a b=>mutS a||mutS b
 |.loop _ _ _ _ b=>mutS b
 |.whl _ _ b=>mutS b
 |.put _ _ _ _ _=>To
 |.movF _ _=>To
 |_=>Fo
noncomputable def lC (M:As):Nat->Fm->Fm
 |_,[]=>[]
 |j,s::O=>(if j∈M then No else s)::lC M (j+1) O
def exD (U:Ag):Sx->Fm->Rs (Fw×Fm)
 |.skip,O=>.ok YF
 |.seq a b,O=>(exD U a O).bind λr=>match r with
  |(.nx,env2)=>exD U b env2
  |r=>.ok r
 |.set m i e,O=>'ƣ'.bind λd=>if m&&!d.imm then .sk else .ok QcH
 |.own i e,O=>'ƣ'.bind λd=>match d with
  |.lst J=>if !imms J then .sk else .ok O6
  |_=>.sk
 |.ownD t i,O=>.ok Vb
 |.retF i,O=>match O[i]? with
  |some (So (.dct t Fo ks vs))=>.ok (.rt Nu,O)
  |_=>.sk
 |.app m i e,O=>match O[i]? with
  |some (So (.lst J))=>'ƣ'.bind λd=>if(m&&!d.imm)||!decide (Ae<lD)then .sk else .ok (.nx,O.set i (So (.lst (J++[d]))))
  |_=>.sk
 |.ext m i e,O=>match O[i]? with
  |some (So (.lst J))=>'ƣ'.bind λy=>y.asL.bind λf=>if(m&&!imms f)||!decide (Ae+f.length<=lD)then .sk else .ok (.nx,O.set i (So (.lst (J++f))))
  |_=>.sk
 |.eff e,O=>'ƣ'.bind λ_=>.ok YF
 |.ret e,O=>'ƣ'.bind λd=>.ok aK
 |.ite c a b,O=>'ԗ'.bind λx=>match x with
  |.bl To=>exD U a O
  |.bl Fo=>exD U b O
  |_=>.sk
 |.loop m ts nt src body,O=>'Ф'.bind λs=>s.asL.bind λJ=>if m&&(mutS body||!imms J)then .sk else forL ts nt (exD U body) J O
 |.brk,O=>.ok (.bk,O)
 |.raise c p,O=>'ǈ'.bind λd=>if fK d then .ex c else .sk
 |.whl n c body,O=>whlL Xp (exD U body) n O
 |.put m t' i k v,O=>match O[i]? with
  |some (So (.dct t Fo ks vs))=>(evD U v O).bind λy=>(evD U k O).bind λx=>if(m&&!y.imm)||!(t==t')||!keyD t x||!decide (AC<1000)then .sk else .ok (.nx,O.set i (So (.dct t Fo (putD x y ks vs).1 (putD x y ks vs).2)))
  |_=>.sk
 |.movF i j,O=>match O[j]? with
  |some (So (.dct t Fo ks vs))=>.ok (.nx,'Ǟ'.set j No)
  |_=>.sk
theorem tU{M:As}:∀(O:Fm)(j i:Nat),(lC M j O)[i]? =(O[i]?).map λs=>if j+i∈M then No else s
 |[],_,_=>by simp[lC]
 |s::O,j,0=>by simp[lC]
 |s::O,j,i+1=>by
  have:=tU (M:=M) O (j+1) i
  simp only[lC,lF,this]
  rw[show j+1+i=j+'{' by lia]
def JnA{d:D}{new:Fm}(h:iA nt d=.ok new):new.length=if nt=0 then 1 else nt:=by
 unfold iA at h;split at h
 ·rename_i q;cases h;simp[q]
 ·rename_i q;split at h
  ·split at h
   ·rename_i e;subst e;rcases Jjv h with z|⟨_,_,_,_,z⟩
    ·cases z
    ·cases z;rfl
   ·split at h
    ·rename_i e;cases h;simp[q,e]
    ·cases h
  ·cases h
theorem Jec{c e f h:Fm->Rs D}{env':Fm}(b:∀a:Fm,Yo=(if nt=0 then 1 else nt)->c (a++O)=f (a++env'))(i:∀a:Fm,Yo=(if nt=0 then 1 else nt)->e (a++O)=h (a++env')):
  ∀J,JY nt c e O J=JY nt f h env' J
 |[]=>rfl
 |d::J=>by
  have j:=Jec b i J
  unfold JY
  cases l:iA nt d with
  |ok a=>
   have g:=JnA l
   simp only[Rs.bo,b a g,i a g,j]
  |ex x=>rfl
  |sk=>rfl
theorem JmY(U:Ag):∀(p:Px)(O env':Fm),(∀i,usesP p i=To->O[i]? =env'[i]?)->evD U p O=evD U p env':=by
 intro p;induction p with
 |var j=>intro O env' h;simp only[evD,h j (by simp[usesP])]
 |con d=>intro O env' h;rfl
 |un o a g=>intro O env' h;simp only[evD,g O env' λi q=>h i '?']
 |bi o a b g l=>intro O env' h;simp only[evD,g O env' λi q=>h i '?',l O env' λi q=>h i '?']
 |and a b g l=>intro O env' h;simp only[evD,g O env' λi q=>h i '?',l O env' λi q=>h i '?']
 |or a b g l=>intro O env' h;simp only[evD,g O env' λi q=>h i '?',l O env' λi q=>h i '?']
 |ite c a b r g l=>intro O env' h;simp only[evD,r O env' λi q=>h i '?',g O env' λi q=>h i '?',l O env' λi q=>h i '?']
 |nil=>intro O env' h;rfl
 |cons a b g l=>intro O env' h;simp only[evD,g O env' λi q=>h i '?',l O env' λi q=>h i '?']
 |tup a g=>intro O env' h;simp only[evD,g O env' λi q=>h i '?']
 |dis a g=>intro O env' h;simp only[evD,g O env' λi q=>h i '?']
 |call f a g=>intro O env' h;simp only[evD,g O env' λi q=>h i '?']
 |sl a b c g l r=>intro O env' h;simp only[evD,g O env' λi q=>h i '?',l O env' λi q=>h i '?',r O env' λi q=>h i '?']
 |walk a g=>intro O env' h;simp only[evD,g O env' λi q=>h i '?']
 |dsp t a b g l=>intro O env' h;simp only[evD,g O env' λi q=>h i '?',l O env' λi q=>h i '?']
 |comp nt s c e x r w=>
  intro O env' h;have app:∀(u:Px),(∀i,usesP u (i+(if nt=0 then 1 else nt))=To->O[i]? =env'[i]?)->∀m:Fm,m.length=(if nt=0 then 1 else nt)->∀i,usesP u i=To->(m++O)[i]? =(m++env')[i]?:=λu z m v i y=>by
   by_cases q:i<m.length
   ·rw[oG q,oG q]
   ·rw[pG 'g',pG 'g'];refine z _ ?_;rw[show i-m.length+(if nt=0 then 1 else nt)=i by lia];exact y
  simp only[evD,x O env' λi q=>h i '?'];rw[show JY nt 'ʦ' 'ԡ' O=JY nt 'ʦ' 'ԡ' env' from funext λJ=>Jec (λm v=>r _ _ (app c N7 m v)) (λm v=>w _ _ (app e N7 m v)) J]
def pH(U:Ag){M:As}{p:Px}(O:Fm)(h:Dd):evD U p (lC M 0 O)=evD U p O:=by
 refine JmY U p _ _ λi e=>?_;have b:i∉M:=λa=>by have:=uB.mp h i a;rw[e]at this;simp at this
 rw[tU];simp only[eM,if_neg b];cases O[i]? <;>rfl
noncomputable def Jf:Rs (Fw×Fm)->Rs D
 |.ok (.nx,_)=>.ok .non
 |.ok (.rt d,_)=>.ok d
 |.ok _=>.sk
 |.ex c=>.ex c
 |.sk=>.sk
structure DefD where
 slots:Nat
 params:Nat
 body:Sx
noncomputable def JC (n:Nat) (J:Ak):Fm:=J.map So++List.replicate (n-Ae) No
def runD (defs:Ci):Nat->CallD
 |0=>λ_ _=>.sk
 |k+1=>λf J=>match defs[f]? with
  |some d=>if Ae=Z1 then Jf (exD CC X9 G7)else .sk
  |none=>.sk
def Rs.ofOpt_ex{o:Option α}{c:Str}:Rs.ofOpt o≠.ex c:=by cases o<;>simp[Rs.ofOpt]
noncomputable def oI:Px->Bool
 |.var _=>To
 |.con _=>To
 |_=>Fo
def mO(U:Ag){p:Px}(h:oI p=To):evD U p O=.sk\/∃d,evD U p O=.ok d:=by
 cases p with
 |var i=>
  simp only[evD];cases O[i]? with
  |none=>exact .inl rfl
  |some o=>cases o with
   |none=>exact .inl rfl
   |some d=>exact .inr ⟨d,rfl⟩
 |con d=>exact .inr ⟨d,rfl⟩
 |_=>cases h
def oK:Px->Bool
 |.nil=>To
 |.cons a p=>oI a&&oK p
 |_=>Fo
def JhR(U:Ag){p:Px}:oK p=To->evD U p O=.sk\/∃J,evD U p O=.ok Bc:=by
 induction p with
 |nil=>exactλ_=>.inr ⟨[],rfl⟩
 |cons a p _ e=>
  intro h;simp only[oK,Zc]at h;simp only[evD];rcases mO U (O:=O) h.1 with q|⟨d,q⟩
  ·rw[q];exact .inl rfl
  ·rcases e h.2 with b|⟨J,b⟩
   ·rw[q,b];exact .inl rfl
   ·rw[q,b];exact .inr ⟨d::J,rfl⟩
 |_=>exactλh=>Bool.noConfusion h
def JvT(a b:D)(c:Str):op2 .idx a b≠.ex c:=by intro h;cases a<;>first|(cases h;done)|(cases b<;>first|(cases h;done)|exact Rs.ofOpt_ex h|(simp only[op2]at h;split at h;exact Rs.ofOpt_ex h;cases h))
noncomputable def isIdx:O2->Bool
 |.idx=>To
 |_=>Fo
def noEx:Px->Bool
 |.tup a=>oK a
 |.bi o a b=>isIdx o&&(oI a&&oI b)
 |p=>oI p
def oZ(U:Ag)(p:Px)(O:Fm)(c:Str)(h:noEx p=To):evD U p O≠.ex c:=by
 have f:∀{p:Px},oI p=To->evD U p O≠.ex c:=λh e=>by rcases mO U (O:=O) h with q|⟨d,q⟩<;>(rw[q]at e;cases e)
 cases p with
 |tup a=>
  intro e;simp only[evD]at e;rcases JhR U (O:=O) (show oK a=To from h)with q|⟨J,q⟩
  ·rw[q]at e;cases e
  ·rw[q]at e;simp only[Rs.bo,D.asL]at e;split at e<;>cases e
 |bi o a b=>
  simp only[noEx,Zc]at h;obtain⟨r,l,j⟩:=h;have m:o=.idx:=by cases o<;>first|rfl|cases r
  subst m;intro e;simp only[evD]at e;rcases mO U (O:=O) l with q|⟨d,q⟩
  ·rw[q]at e;cases e
  ·rw[q]at e;simp only[Rs.bo]at e;rcases mO U (O:=O) j with g|⟨i,g⟩
   ·rw[g]at e;cases e
   ·rw[g]at e;exact JvT d i c e
 |_=>exact f h
theorem JfF(x:Str):∀(l:Ac)(w:Str),w∈insS x l↔w=x\/w∈l
 |[],w=>by simp[insS]
 |y::ys,w=>by
  unfold insS
  split
  ·next h=>
   have:x=y:=by simpa using h
   subst this
   simp
  ·split
   ·simp
   ·simp only[Zf,JfF x ys w]
    constructor
    ·rintro(h|h|h)<;>simp[h]
    ·rintro(h|h|h)<;>simp[h]
theorem Jy:∀(l:Ac)(w:Str),w∈Jn l↔w∈l
 |[],w=>Iff.rfl
 |y::ys,w=>by
  unfold Jn
  rw[JfF,Jy ys w]
  simp
def LtS(a b:Str):Prop:=a.cps.toList<b.cps.toList
def LtS.irrefl(a:Str):¬LtS a a:=List.lt_irrefl _
def LtS.trans{a b c:Str}(h:LtS a b)(h':LtS b c):LtS a c:=List.lt_trans h h'
def LtS.asymm{a b:Str}(h:LtS a b)(h':LtS b a):False:=LtS.irrefl a (h.trans h')
def LtS.total{a b:Str}(h:¬LtS a b)(f:a≠b):LtS b a:=by
 by_cases z:LtS b a
 ·exact z
 ·exfalso;apply f;have e:a.cps.toList=b.cps.toList:=List.le_antisymm (List.not_lt.mp z) (List.not_lt.mp h);cases a with
  |mk x=>cases b with
   |mk y=>have:x=y:=Array.toList_inj.mp e;rw[this]
theorem Jgz(x:Str):∀l:List Str,l.Pairwise LtS->(insS x l).Pairwise LtS
 |[],_=>by simp[insS]
 |y::ys,h=>by
  obtain⟨f,g⟩:=qG.mp h
  unfold insS
  split
  ·exact h
  ·next b=>
   have b:x≠y:=by simpa using b
   split
   ·next a=>
    have a:LtS x y:=ZZ (p:=XG<y.cps.toList) a
    refine qG.mpr ⟨λz e=>?_,h⟩
    rcases Zf.mp e with rfl|e
    ·exact a
    ·exact a.trans (f z e)
   ·next a=>
    have a:¬LtS x y:=λz=>a (Zx (p:=XG<y.cps.toList) z)
    refine qG.mpr ⟨λz e=>?_,Jgz x ys g⟩
    rcases(JfF x ys z).mp e with rfl|e
    ·exact LtS.total a b
    ·exact f z e
theorem JI:∀l:List Str,(Jn l).Pairwise LtS
 |[]=>Qb7
 |x::xs=>Jgz x _ (JI xs)
theorem JdR:∀a b:List Str,a.Pairwise LtS->b.Pairwise LtS->(∀k,k∈a↔k∈b)->a=b
 |[],[],_,_,_=>rfl
 |[],y::b,_,_,h=>by
  have:=(h y).mpr Ad
  simp at this
 |x::a,[],_,_,h=>by
  have:=(h x).mp Ad
  simp at this
 |x::a,y::b,hx,hy,h=>by
  obtain⟨j,m⟩:=qG.mp hx
  obtain⟨i,l⟩:=qG.mp hy
  have e:x=y:=by
   rcases Zf.mp ((h x).mp Ad)with e|e
   ·exact e
   ·rcases Zf.mp ((h y).mpr Ad)with g|g
    ·exact g.symm
    ·exact((i x e).asymm (j y g)).elim
  subst e;rw[JdR a b m l λk=>?_];constructor
  ·intro f
   rcases Zf.mp ((h k).mp (by simp[f]))with e|e
   ·subst e;exact((LtS.irrefl _) (j _ f)).elim
   ·exact e
  ·intro f
   rcases Zf.mp ((h k).mpr (by simp[f]))with e|e
   ·subst e;exact((LtS.irrefl _) (i _ f)).elim
   ·exact e
theorem JnK:∀l:List Str,(Jn l).length<=l.length:=by
 have ins:∀(x:Str)(l:Ac),(insS x l).length<=XN+1:=by
  intro x l;induction l with
  |nil=>simp[insS]
  |cons y e a=>
   unfold insS;split
   ·simp
   ·split
    ·simp
    ·simp only[Zk];lia
 intro l;induction l with
 |nil=>simp[Jn]
 |cons x b a=>unfold Jn;have:=ins x (Jn b);simp only[Zk];lia
def eV(l:Ac)(h:l.Pairwise LtS):l.Nodup:=h.imp fun{a b}z e=>by
 subst e
 exact LtS.irrefl _ z
mutual
def Ji:D->Bool
 |.non=>To
 |.bl _=>To
 |.int _=>To
 |.str _=>To
 |.exc _=>To
 |.fn _ _=>To
 |.adr _=>To
 |.tup J=>Ja J
 |.lst J=>Ja J
 |.dct _ z _ a=>z&&Ja a
 |.obj _ _ _=>Fo
 |.mls _ _=>Fo
def Ja:List D->Bool
 |[]=>To
 |d::J=>Ji d&&Ja J
end
noncomputable def plE:Fm->Bool
 |[]=>To
 |none::O=>plE O
 |some d::O=>Ji d&&plE O
theorem fT:∀{O:Fm}{i:Nat}{d:D},plE O=To->O[i]? =So Bd->Ji d=To
 |[],_,_,_,h=>by simp at h
 |none::O,0,d,_,h=>by simp at h
 |some x::O,0,d,p,h=>by simp at h;subst h;simp only[plE,Zc]at p;exact p.1
 |none::O,i+1,d,p,h=>fT (O:=O) (i:=i) p (by simpa using h)
 |some x::O,i+1,d,p,h=>by simp only[plE,Zc]at p;exact fT (i:=i) p.2 (by simpa using h)
def JnT{i j:Nat}{d:D}(p:plE L5=To)(h:O[j]? =So Bd)(n:j≠i):Ji d=To:=fT p (by rw[Zr (Ne.symm n)];exact h)
theorem Jfc:∀{J:Ak}{i:Nat}{d:D},Ja J=To->J[i]? =So d->Ji d=To
 |[],_,_,_,h=>by simp at h
 |x::J,0,d,p,h=>by simp at h;subst h;simp only[Ja,Zc]at p;exact p.1
 |x::J,i+1,d,p,h=>by simp only[Ja,Zc]at p;exact Jfc (i:=i) p.2 (by simpa using h)
inductive Rc where
 |ok (d st:D)|ex (c:Str) (st:D)|sk
def Rc.Good(r:Rc)(P:D->D->Prop)(E:Str->D->Prop):Prop:=match r with
 |.ok d a=>P d a
 |.ex c a=>E c a
 |.sk=>False
noncomputable abbrev CallB:=Nat->D->List D->Rc
inductive Rx where
 |ok (d:D) (env:Fm)|ex (c:Str) (env:Fm)|sk
def Rx.Good(r:Rx)(P:D->Fm->Prop)(E:D8):Prop:=match r with
 |.ok d O=>P d O
 |.ex c O=>E c O
 |.sk=>False
noncomputable def Rx.bind (r:Rx) (f:D->Fm->Rx):Rx:=match r with
 |.ok d O=>f d O
 |.ex c O=>.ex c O
 |.sk=>.sk
def Rx.gB{r:Rx}{f:D->Fm->Rx}{P:D->Fm->Prop}{E:D8}:'ր'.Good P E↔r.Good (λd O=>(f d O).Good P E) E:=by cases r<;>rfl
def Rx.Good.imp{r:Rx}{P a:D->Fm->Prop}{E b:D8}(h:Gk)(f:∀d e,P d e->a d e)(g:∀c e,E c e->b c e):r.Good a b:=by
 cases r with
 |ok d e=>exact f d e h
 |ex c e=>exact g c e h
 |sk=>exact h
inductive Bx where
 |pur (p:Px)|call (r:Bool) (f i:Nat) (ns:List Str) (as:Px)|bi (o:O2) (a b:Bx)|isN (a:Bx)|or (a b:Bx)|and (a b:Bx)
noncomputable def Rx.of (O:Fm):Rs D->Rx
 |.ok d=>.ok d O
 |.ex c=>.ex c O
 |.sk=>.sk
noncomputable def Rx.lay (r:Bool) (O:Fm) (i:Nat):Rc->Rx
 |.ok d a=>.ok d (O.set i (So a))
 |.ex c a=>if r then .ex c (O.set i (So a))else .sk
 |.sk=>.sk
def evB (U:Ag) (bc:AI):Bx->Fm->Rx
 |.pur p,O=>.of O 'ǈ'
 |.call r f i ns as,O=>match O[i]? with
  |some (So (.obj a ns' fs))=>if ns'=ns then match evD U as O with
   |.ok (.lst J)=>if plE (O.set i No)&&Ja J then .lay r O i (bc f CD J)else .sk
   |.ex c=>if r then .ex c O else .sk
   |_=>.sk else .sk
  |_=>.sk
 |.bi o a b,O=>'ϒ'.bind λx e=>(evB U bc b e).bind λy g=>if Ji x then .of g (op2 o x y)else .sk
 |.isN a,O=>'ϒ'.bind λx e=>.of e (op1 .isN x)
 |.or a b,O=>'ϒ'.bind λx e=>match x with
  |.bl To=>.ok CW e
  |.bl Fo=>evB U bc b e
  |_=>.sk
 |.and a b,O=>'ϒ'.bind λx e=>match x with
  |.bl To=>evB U bc b e
  |.bl Fo=>.ok C4 e
  |_=>.sk
inductive Bs where
 |lift (p:Sx)|seq (a b:Bs)|ite (t:Bx) (a b:Bs)|eff (e:Bx)|set (i:Nat) (e:Bx)|ret (p:Px)|loop (ts:List Nat) (nt:Nat) (src:Px) (body:Bs)|raise (c:Str) (p:Px)|newL (f:Str)|appF (f:Str) (p:Px)|putK (f:Str) (k p:Px)|popK (f:Str) (k:Px)|retB (e:Bx)|setI (i:Nat) (e:Bx)|goB (k:Nat) (c:Str) (ns:List Str)|retG (i:Nat) (ns:List Str) (f g:Str) (n:Int)
inductive Rq where
 |ok (f:Fw) (env:Fm)|ex (c:Str) (env:Fm)|sk
def Rq.Good(r:Rq)(P:Fw->Fm->Prop)(E:D8):Prop:=match r with
 |.ok d O=>P d O
 |.ex c O=>E c O
 |.sk=>False
noncomputable def Rq.bind (r:Rq) (f:Fw->Fm->Rq):Rq:=match r with
 |.ok d O=>f d O
 |.ex c O=>.ex c O
 |.sk=>.sk
noncomputable def Rx.next (r:Rx) (f:D->Fm->Rq):Rq:=match r with
 |.ok d O=>f d O
 |.ex c O=>.ex c O
 |.sk=>.sk
def Rq.gB{r:Rq}{f:Fw->Fm->Rq}{P:Fw->Fm->Prop}{E:D8}:'ր'.Good P E↔r.Good (λd O=>(f d O).Good P E) E:=by cases r<;>rfl
def Rx.good_next{r:Rx}{f:D->Fm->Rq}{P:Fw->Fm->Prop}{E:D8}:(r.next f).Good P E↔r.Good (λd O=>(f d O).Good P E) E:=by cases r<;>rfl
def Rq.Good.imp{r:Rq}{P a:Fw->Fm->Prop}{E b:D8}(h:Gk)(f:∀d e,P d e->a d e)(g:∀c e,E c e->b c e):r.Good a b:=by
 cases r with
 |ok d e=>exact f d e h
 |ex c e=>exact g c e h
 |sk=>exact h
noncomputable def JwL (w:Bool):Rs (Fw×Fm)->Rq
 |.ok (.rt d,O)=>if w then .sk else .ok YT O
 |.ok (f,O)=>.ok f O
 |_=>.sk
def forB (ts:As) (nt:Nat) (b:Fm->Rq):List D->Fm->Rq
 |[],O=>.ok .nx O
 |d::J,O=>match iA nt d with
  |.ok e=>(b (zA ts e O)).bind λf a=>match f with
   |.nx=>forB ts nt b J a
   |.ct=>forB ts nt b J a
   |.bk=>.ok .nx a
   |.rt d=>.ok YT a
  |_=>.sk
noncomputable def putN  (f:Str) (v:α):List Str->List α->List α
 |n::ns,x::xs=>if n=f then v::xs else x::putN f v ns xs
 |_,xs=>xs
noncomputable def vI:D->Bool
 |.dct _ _ _ a=>Ja a
 |.mls _ J=>Ja J
 |d=>Ji d
def chgF (f:Str) (d':D) (O:Fm):Rq:=match O with
 |some (.obj a ns fs)::env'=>if ns.contains f&&fs.all vI&&plE env'&&decide (AK<1000)then .ok .nx Mp else .sk
 |_=>.sk
noncomputable def othD (m:Bool) (f:Str):D->Bool
 |.mls t J=>(!m||!(t==f))&&Ja J
 |.dct _ _ _ a=>m&&Ja a
 |d=>Ji d
def chgM (m:Bool) (f:Str) (g:D->Option D) (O:Fm):Rq:=match O with
 |some (.obj a ns fs)::env'=>match(ns.zip fs).lookup f with
  |some d=>match g d with
   |some d'=>if plE env'&&(putN f D.non ns fs).all (othD m f)then .ok .nx Mp else .sk
   |none=>.sk
  |none=>.sk
 |_=>.sk
noncomputable def delD (k:D):List D->List D->List D×List D
 |a::ks,v::vs=>if a.eqv k then delD k ks vs else(a::(delD k ks vs).1,v::(delD k ks vs).2)
 |ks,vs=>(ks,vs)
noncomputable def appG (f:Str) (d:D):D->Option D
 |.mls t J=>if t==f&&Ja J&&decide (Ae<1000)then So (.mls t (J++[d]))else No
 |_=>No
def putG (x y:D):D->Option D
 |.dct Fo Fo ks a=>if Ja a&&decide (AC<1000)then So (.dct Fo Fo (putD x y ks a).1 (putD x y ks a).2)else No
 |_=>No
def popG (x:D):D->Option D
 |.dct Fo Fo ks b=>if Ja b&&ks.any (λa=>a.eqv x)then So (.dct Fo Fo (delD x ks b).1 (delD x ks b).2)else No
 |_=>No
noncomputable def sA (f:Str) (ns:Ac) (fs:Ak):Option YX:=match(ns.zip fs).lookup f with
 |some (.mls t J)=>if t==f then So J else No
 |_=>No
def goS (bc:AI) (k:Nat) (n:Int) (f g:Str) (a:Nat) (ns:Ac) (fs:Ak) (J es:Ak):Option D->Rc
 |none=>.sk
 |some b=>match b with
  |.tup e=>match atD e 0,atD e 1,atD e n with
   |some w,So x,So y=>match bc k (.obj a ns (putN g (.mls g (es++[b])) ns (putN f QX ns fs))) [x,y]with
    |.ok _ b=>.ok w b
    |_=>.sk
   |_,_,_=>.sk
  |_=>.sk
def goD (bc:AI) (k:Nat) (c:Str) (n:Int) (f g:Str) (a:Nat) (ns:Ac) (fs:Ak):Rc:=match sA f ns fs with
 |none=>.sk
 |some J=>match sA g ns fs with
  |none=>.sk
  |some b=>
   if !(f==g)&&Ja J&&Ja b&&decide (YK<1000)&&(putN f .non ns fs).all (othD To f)&&(putN g .non ns (putN f (.mls f J.dropLast) ns fs)).all (othD To g)then
    if J.isEmpty then .ex c CD else goS bc k n f g a ns fs J.dropLast b J.getLast?
   else .sk
noncomputable def Rc.at (O:Fm):Rc->Rq
 |.ok d st=>.ok YT (So st::O)
 |.ex c st=>.ex c (So st::O)
 |.sk=>.sk
def exO (w:Bool) (U:Ag) (bc:AI):Bs -> Fm -> Rq
 | .lift p,O=>JwL w (exD U p O)
 | .seq a b,O=>(exO w U bc a O).bind λf j=>match f with
  | .nx=>exO w U bc b j
  | f=>.ok f j
 | .ite t a b,O=>(evB U bc t O).next λx h=>match x with
  | .bl To=>exO w U bc a h
  | .bl Fo=>exO w U bc b h
  | _=>.sk
 | .eff e,O=>'ϓ'.next λ_ h=>.ok .nx h
 | .set i e,O=>'ϓ'.next λd h=>if Ji d then .ok .nx (h.set i Bd) else .sk
 | .ret p,O=>match evD U p O with
  | .ok d=>.ok YT O
  | .ex c=>.ex c O
  | .sk=>.sk
 | .loop ts nt src body,O=>match evD U src O with
  | .ok (.lst J)=>if Ja J && imms J then forB ts nt (exO w U bc body) J O else .sk
  | .ex c=>.ex c O
  | _=>.sk
 | .raise c p,O=>match evD U p O with
  | .ok d=>if fK d then .ex c O else .sk
  | _=>.sk
 | .newL f,O=>chgF f (.mls f []) O
 | .appF f p,O=>match evD U p O with
  | .ok d=>if Ji d then chgM To f (appG f d) O else .sk
  | _=>.sk
 | .putK f k p,O=>match evD U p O with
  | .ok y=>match evD U k O with
   | .ok x=>if Ji y && keyD Fo x then chgM Fo f (putG x y) O else .sk
   | _=>.sk
  | _=>.sk
 | .popK f k,O=>match evD U k O with
  | .ok x=>if keyD Fo x then chgM Fo f (popG x) O else .sk
  | _=>.sk
 | .retB e,O=>'ϓ'.next λd h=>.ok YT h
 | .setI i e,O=>'ϓ'.next λd h=>if Ji d && d.imm then .ok .nx (h.set i Bd) else .sk
 | .goB k c ns,O=>match O with
  | some (.obj a ns' fs) :: So (.str f) :: So (.str g) :: So (.int n) :: _=>if ns' = ns then (goD bc k c n f g a ns fs).at [] else .sk
  | _=>.sk
 | .retG i ns f g n,O=>match O with
  | some (.obj a ns' fs) :: env'=>if ns' = ns then if plE env' && (sA f ns fs).isSome && (sA g ns fs).isSome then (bc i CD Hq).at env' else .sk else .sk
  | _=>.sk
structure DefB where
 slots:Nat
 params:Nat
 body:Bs
noncomputable def wC:D->D->Bool
 |.obj a _ _,.obj b _ _=>a==b
 |_,_=>Fo
def ansB (s0:D):Rq->Rc
 |.ok .nx (So st::_)=>if wC s0 st then .ok .non st else .sk
 |.ok (.rt d) (So st::_)=>if wC s0 st then .ok d st else .sk
 |.ex c (So st::_)=>if wC s0 st then .ex c st else .sk
 |_=>.sk
def runB (defs:Ci) (bdefs:EI):Nat->CallB
 |0=>λ_ _ _=>.sk
 |k+1=>λf st J=>match bdefs[f]? with
  |some b=>if Ae+1=b.params then ansB st (exO To CC Dq b.body (JC b.slots (st::J)))else .sk
  |none=>.sk
noncomputable def nsS:List Str:=[oS "tables",oS "done",oS "undone"]
def Jlx (a:Nat):D:=.obj a nsS [.dct Fo Fo [] [],.mls FB [],.mls FH []]
def mutB:Bs->Bool
 |.lift p=>mutS p
 |.seq a b=>mutB a||mutB b
 |.ite _ a b=>mutB a||mutB b
 |.loop _ _ _ b=>mutB b
 |_=>Fo
noncomputable def fsS (ks vs J es:Ak):List D:=[.dct Fo Fo ks vs,.mls FB J,.mls FH es]
end Pu
namespace Rd
open PySem PySem.Spec PyProof.Rows L2 PySem.W
variable{H:Hp}{P:Ba}{w:AQ}{s s':Al}{h base B:Heap}{A:Bv}{C a:Addr}{mg:Bk}
def HOk.onB{h':Heap}(ok:BE)(tr:∀b u,H b=So u->∃o,B.get? b=So o)(k1:B.StaysIn h)(k2:B.StaysIn h'):HOk P w H h':=λa o e=>
 ObjOk.stay (ok a o e) (λb u g q=>by
  have j:∃o,B.get? b=So o:=by
   rcases g with rfl|g
   ·exact tr _ _ e
   ·exact tr _ _ g
  obtain⟨ob,f⟩:=j;have i:=k1 b ob f;rw[q]at i;cases i;exact k2 b _ f) Ij (λ_ _ z=>z)
def ObjOk.has{o:HO}(x:MW):∃ob,h.get? a=So ob:=by
 cases o with
 |lst g=>obtain⟨_,_,_,_,e⟩:=x;exact⟨_,e⟩
 |lsm _ g=>obtain⟨_,_,_,_,e⟩:=x;exact⟨_,e⟩
 |tup g=>obtain⟨_,_,_,ob,e,_⟩:=x;exact⟨_,e⟩
 |dK b=>obtain⟨_,_,_,_,ob,_,_,e,_⟩:=x;exact⟨_,e⟩
 |dT b=>obtain⟨_,_,_,_,ob,_,_,e,_⟩:=x;exact⟨_,e⟩
 |set S n=>obtain⟨ob,_,_,_,e,_⟩:=x;exact⟨_,e⟩
 |ins C l fs=>obtain⟨_,_,_,e,_⟩:=x;exact⟨_,e⟩
 |own y=>obtain⟨_,e⟩:=x;exact⟨_,e⟩
 |xd fs=>obtain⟨_,⟨_,_,_,e,_⟩,_⟩:=x;exact⟨_,e⟩
 |rng i j=>obtain⟨_,_,_,e⟩:=x;exact⟨_,e⟩
 |frz ob u=>obtain⟨e,_⟩:=x;exact⟨_,e⟩
 |tbl m=>obtain⟨_,_,_,_,e,_⟩:=x;exact⟨_,e⟩
 |met f y=>exact⟨_,(show h.get? a=So _ from x)⟩
 |ext q=>obtain⟨_,⟨_,e⟩,_⟩:=x;exact⟨_,e⟩
def HOk.has(ok:BE){b:Addr}{u:HO}(e:H b=So u):∃o,h.get? b=So o:=ObjOk.has (ok b u e)
inductive CXi(P:Ba)(w:AQ)(outer:Bq)(H:Hp)(s:Al)(E:XK)(e:An)(s':Al):Prop where
 |mk (a C:Addr) (H':Hp) (B:Heap) (a0:Value):e=.ref a->s'.os=s.os->AllBare s'.gens->Un (frs outer) [] H H' s.heap s'.heap->HOk P w H' s'.heap->Heap.FlyingW B outer a (.ref C) a0 s'.heap->(∀b u,H' b=So u->∃o,B.get? b=So o)->(∀b o,s.heap.get? b=So o->b∉frs outer->(H b=No->B.get? b=So o)/\∃o',B.get? b=So o')->E (.ref C) No H'->CXi P w outer H s E e s'
noncomputable def CXr (P:Ba) (w:AQ):CXT:=CXi P w
def Jpu(B:Heap)(l:Bq)(e:Addr)(b a0 fl:An)(h:Heap):Prop:=B.StaysIn h/\B.get? e=No/\h.FunFrames B l/\h.TracedAtW B e b a0 fl
section
variable{M:Model}{E:Ay}{O:Env}{outer:Bq}{L e:Addr}{cls a0 fl:An}{Q:Dl}
def JhS(z:A.frames=So Cy)(l:O.frame=So L)(x:Ul)(G:∀j,Heap.HeldW B Cy e cls a0 L j->s.heap.UpToSlots j->Q () {s with heap:=j}):wpAny M A N6 Q E s:=by
 obtain⟨X,v,J,r⟩:=x;by_cases U:fl=rawInt L
 ·subst U;exact wpAny_noteFrame_againW l r (G VU ⟨X,v,J,r⟩ (Heap.UpToSlots.refl _))
 ·obtain⟨oe,W,T,oT,ts,Y,⟨hc,h0⟩,I,Z,y,u,m,g,F⟩:=r;subst hc;unfold noteFrame;simp only[l];refine Za (ZS Y I Z ?_);rw[if_pos 'j'];refine Za (ZS m g F ?_);rw[if_neg (by simpa using U)];refine Za (sC m g (tV.mp F).1 ?_);have oth:∀b,b≠T->(s.heap.update T (Obj.mapFields (·.setIfInBounds 3 Xx))).get? b=s.heap.get? b:=λb hb=>ZO _ _ E2;have N:∀b o,s.heap.get? b=So o->(∀W,o.data≠.fields W)->b≠T:=λb o hb f q=>by rw[q,m]at hb;injection hb with hb;subst hb;exact f ts g
  refine wpAny_entryW z (J.of_keeps λb o hb f=>⟨o,'亞'.trans hb,rfl⟩) l ((oth e (Ne.symm u)).trans Y) (λb o i=>(oth b λq=>by
   rw[q,y]at i;cases i).trans (X b o i)) v I (tV.mp Z).1 h0 λj hN=>?_
  obtain⟨x1,x2,x3,x4⟩:=hN;exact G j ⟨x1,v,x2,x3⟩ λb o hb f=>x4 b o ('亞'.trans hb) f
def Jlg(f:A.frames=So Cy)(l:O.frame=So L)(x:Ul)(q:∀g,Heap.FlyingW B outer e cls a0 g->s.heap.UpToSlots g->Q () {s with heap:=g}):wpAny M A (leaving O IQ) Q E s:=by unfold leaving;refine Za (JhS f l x λz b m=>?_);refine wpAny_landsW b λr j i=>?_;obtain⟨y,o,⟨_,_,u⟩,v⟩:=j;exact q r ⟨y,o,u,v⟩ (m.trans i)
end
structure FlyIn(X:Cx)(C a:Addr)(W:Hp)(s':Al):Prop where
 inv:∃Y Z,Inv X Y Z W s'/\((∃h vs,Heap.MadeExcOf h X5 a BL vs/\Inv X Y Z W {s' with heap:=h})\/
  ∃B a0 fl,Jpu B XB a BL a0 fl X5/\(∀b u,W b=So u->∃o,B.get? b=So o)/\(∀b o,X.s₀.heap.get? b=So o->b∉frs X.stack->b∉X.ex->(X.H₀ b=No->B.get? b=So o)/\∃o',B.get? b=So o')/\∀p∈X.pn,B.get? p.1=So p.2)
noncomputable def cxE (CX:CXT) (P:Ba) (w:AQ) (K:Aj) (mg:Bk) (base:Heap) (N:Ac) (O:Env) (fn:Str->Bool) (cm:Bool) (A:Bv) (outer:Bq) (s:Al) (H:Hp) (E:XK):Cx where
 prog:=P
 w:=w
 K:=K
 mg:=mg
 base:=base
 A:=A.deeper O
 N:=N
 s₀:=s
 H₀:=H
 env:=O
 outer:=outer
 stack:=O::outer
 ex:=[]
 calm:=cm
 fn:=fn
 pn:=[]
 xe:=λe s'=>wpAny Bp (A.deeper O) (leaving O e) (λ_ b=>CX outer H s E e b) (λf b=>CX outer H s E f b) s'
section
variable{K:Aj}{N:Ac}{O:Env}{fn:Str->Bool}{cm:Bool}{outer:Bq}{W:Hp}{E:XK}
def JkA(g:O.frame=So Aa){Y:A8}{Z:Bl}{h1 h':Heap}{a0:An}(I:Inv 'ƞ' Y Z W {s' with heap:=h1})
  (fl:Heap.FlyingW B outer a BL a0 h') (k1:B.StaysIn h1) (up:h1.UpToSlots h') (tr:∀b u,W b=So u->∃o,B.get? b=So o)
  (kp:∀b o,s.heap.get? b=So o->b∉frs Cy->(H b=No->B.get? b=So o)/\∃r,B.get? b=So r) (hE:Qdl):CXr P w outer H s E Ar {s' with heap:=h'}:=by
 have j:∀b o,s.heap.get? b=So o->b∉frs outer->b∉frs Cy:=λb o f l m=>by
  unfold frs at m;rw[yH,g]at m;rcases Zf.mp m with e|m
  ·have:=Zj f;rw[e]at this;exact absurd this CH
  ·exact l m
 have u:=I.base;refine⟨a,C,W,B,a0,rfl,I.os,X8,⟨?_,?_,?_,?_,u.tups,u.frzs,u.tbls⟩,HOk.onB XD tr k1 fl.1,fl,tr,λb o f l=>kp b o f (j b o f l),hE⟩
 ·intro b o f l g _;exact fl.1 b o ((kp b o f (j b o f g)).1 l)
 ·intro b o f l g _;obtain⟨sl,y⟩:=u.slot b o f l g (by show b∉([]:List Addr);simp);obtain⟨_,z,i,x⟩:=(show s.heap.FunFrames base outer from I.ok.funs).mem g;rw[f]at i;cases i;obtain⟨q,v⟩:=up b _ y x;exact⟨q,v⟩
 ·intro b o f l _;exact u.free b o f l (by show b∉([]:List Addr);simp)
 ·intro b o f _;by_cases g:b∈frs outer
  ·obtain⟨_,z,i,x⟩:=(show s.heap.FunFrames base outer from I.ok.funs).mem g;rw[f]at i;cases i;obtain⟨sl,y⟩:=u.slot b o f Qb8 g (by show b∉([]:List Addr);simp);obtain⟨q,v⟩:=up b _ y x;exact⟨_,v⟩
  ·obtain⟨r,e⟩:=(kp b o f (j b o f g)).2;exact⟨r,fl.1 b r e⟩
def JlM(f:O.frame=So Aa)(F:FlyIn 'ƞ' C a W s')(hE:Qdl):'ƞ'.xe Ar s':=by
 obtain⟨Y,Z,I,L⟩:=F.inv;have M:'ƞ'.stack=O::outer:=rfl;show wpAny Bp (A.deeper (O)) (leaving (O) Ar) _ _ s';have l:(A.deeper (O)).frames=So Cy:=dQ;rcases L with⟨h,vs,J,i⟩|⟨B,a0,U,fl,tr,kp,_⟩
 ·have y:∀r∈(O::outer),∀b,r.frame=So b->b∈frs Cy:=λr x b g=>mD.mpr ⟨r,x,g⟩;have G:(hideAll h (frs Cy)).StaysIn h:=λb o q=>of_hideAll _ q;refine wpAny_leaves_madeW l f G (funFrames_hide i.stack y) J λh' t fl _ _ m=>?_;refine JkA f (B:=hideAll h (frs Cy)) (h1:=h) i fl G ((Heap.UpToSlots.of_keeps J.keeps).trans m) (λb u e=>?_) (λb o g j=>Qeh) hE
  ·obtain⟨o,ho⟩:=HOk.has i.hok e;exact⟨o,hideAll_get _ ho λz=>by rw[i.stkFree b z]at e;cases e⟩
  ·refine hideAll_get _ (i.base.keep b o g h0 (λz=>j ?_) (by show b∉([]:List Addr);simp)) j;exact mD.mpr (by obtain⟨e,x,f⟩:=mD.mp z;exact⟨e,.tail _ x,f⟩)
  ·obtain⟨X,e⟩:=i.base.there b o g (by show b∉([]:List Addr);simp);exact⟨X,hideAll_get _ e j⟩
 ·refine Jlg l f fl λh' v m=>?_;exact JkA f (h1:=X5) I v fl.1 m tr (λb o g j=>kp b o g j (by show b∉([]:List Addr);simp)) hE
end
def lO{K:Aj}{N:Ac}{g:Str}{b:Bf}{f:Addr}{i:An}{e:Bq}{W:Hp}{E:XK}(F:FlyIn 'Ϲ' C a W s')(hE:Qdl):'Ϲ'.xe Ar s':=
 JlM (O:=envOfC g b Aa f i) (fn:=λ_=>To) (cm:=To) rfl F hE
def JfD{X:Cx}{Y:A8}{Z:Bl}{E:XK}{e:An}(I:AH)(h:CXr Xz X.w XB H s E e s'):∃a C W,e=.ref a/\FlyIn X C a W s'/\E BL No W:=by
 obtain⟨a,C,W,B,a0,rfl,M,N,u,q,fl,J,r,hE⟩:=h;have G:Inv X Y Z W s':=I.call' M u q N Qe;have g:∀b,b∉X.fs->b≠A5->b∉frs XB:=λb h1 h2 x=>by
  rcases Zf.mp (I.stkSub b x)with e|e
  ·exact h2 e
  ·exact h1 e
 refine⟨a,C,W,rfl,⟨Y,Z,G,.inr ⟨B,a0,.none,fl,J,λb o m i f=>?_,λp O=>?_⟩⟩,hE⟩;rotate_left
 ·obtain⟨q1,F,L,U,_⟩:=I.pin p (rJ _ O);exact(r p.1 p.2 q1 (g p.1 U L)).1 F
 have l:b∉X.fs:=λz=>i (by
  rcases I.ok.stk with e|⟨e,_⟩
  ·rw[e];exact z
  ·rw[e];obtain⟨e',he,y⟩:=mD.mp z;exact mD.mpr ⟨e',.tail _ he,y⟩)
 constructor
 ·intro v;have j:=I.base.keep b o m v l f;exact(r b o j i).1 (I.base.free b o m v f)
 ·obtain⟨o1,j⟩:=I.base.there b o m f;exact(r b o1 j i).2
def JiM{M:Model}{E:Ay}{O:Env}{outer:Bq}{L e:Addr}{g:An}{l:AE}{Q:Dl}
  (q:A.frames=So Cy) (r:O.frame=So L) (i:base.StaysIn h) (z:h.FunFrames base Cy) (f:Heap.MadeExcOf h VU e g l)
  (y:∀m a0,Heap.HeldW base Cy e g a0 L m->s.heap.UpToSlots m->Q () {s with heap:=m}):wpAny M A N6 Q E s:=by
 obtain⟨t,u,I,W⟩:=f.there;have fresh:∀b,h.get? b=No->base.get? b=No:=λb j=>by
  cases J:base.get? b with
  |none=>rfl
  |some F=>have:=i b F J;rw[j]at this;cases this
 unfold noteFrame;simp only[r];refine Za (ZS (x:=Xx) u rfl rfl ?_);rw[if_neg (show¬((Value.none !=Value.none)=To) by decide)];refine wpAny_entryW (a0:=.ref t) q (z.of_keeps λb o j _=>⟨o,f.keeps b o j,rfl⟩) r u (λb o j=>f.keeps b o (i b o j)) (fresh e f.new) rfl (by show 1<6;decide) rfl λm hN=>?_;obtain⟨U,v,G,N⟩:=hN;exact y m GM ⟨U,fresh e f.new,v,G⟩ N
noncomputable def nmK:Value->Str
 |.str n _=>n
 |_=>Yf
def JuI(P:Ba){K:Aj}{x:Str}{b:AE}{f:Bg}(M:Mod K mg base)(l:PySem.W.nsIn K mainGlobals x=So BC)(q:excIn K C b f=To):OwnCls x C b f mg base:=by obtain⟨mb,m,r⟩:=M.blt;obtain⟨o,j,E,F,v,k,i⟩:=id M.glob;refine PySem.W.own_of_in (p:=P) (loose:=j.toList.map λe=>nmK Ys) (mb:=mb) M.kin ⟨M.glob,m,M.nolimit,r,λy _ h _ _ _=>?_⟩ l q;rw[<-i];refine Option.map_eq_none_iff.mpr (Array.find?_eq_none.mpr λe g z=>h (Zv.mpr ⟨e,by simpa using g,?_⟩));obtain⟨n,t,u⟩:=k e g;rw[u]at z⊢;exact zE z
section
variable{X:Cx}{x:Str}{e:Expr}{te:TE}{np cpos pos:Pos}{bs0:AE}{Bn nid iid:Bg}
def JqP(f:Cj)(M:Yt)(J:PySem.W.nsIn X.K mainGlobals x=So BC)(u:X.mg x=So BL)(O:excIn X.K C bs0 nid=To)(l:ExcBaseFacts Bn nid iid bs0)(ha:FK)(j:QW)
  (hs:J5):PS X Wy (λD Z H=>te Z H λv W=>([v]:List V).length=1/\∀a s',FlyIn X C a W s'->X.xe Ar s'):=by
 intro Y s Z H D I h;obtain⟨tl,N,nm,qn,bs,F,sn,sub,ab,col,dd,k0,k1,k2,k3,k5,mN,E,hN,i,T⟩:=(JuI Xz cD J O).obj;refine wpAny_Raise_call_subT (C:=C) (nm:=nm) (q:=qn) (N:=N) (bs:=bs) (bm:=tl) (hdct:=F) (sn:=sn) (sub:=sub) (ab:=ab) (col:=col) (dd:=dd) (k0:=k0) (k1:=k1) (k2:=k2) (k3:=k3) (k5:=k5)
  l (mN:=mN) (T.hasType l.hasBase) (I.ok.hd f) (by rw[hs];rfl) i (nS I M u LV j)
 have o:=(JP ha mE hs) cpos Y s Z H (λvs W=>AJ=1/\∀a s',FlyIn X C a W s'->X.xe Ar s') I h;rw[hs]at o⊢;refine pM (ZY o (λr m U=>?_) λ_ _ z=>z);obtain⟨vs,H2,g,rv,L,y⟩:=U;have G:r.length<=sizeLine:=by rw[<-rv.length,L];decide
 refine⟨rfl,G,g.bk _ _ E,hN.keeps g.bk,T.keeps g.bk,λh' a b=>?_⟩;exact y a _ ⟨Y,Z,g.kept (t':=m.toks) b.keeps,.inl ⟨m.heap,r,b,g⟩⟩
end
end Rd
namespace Rd
open PySem PySem.Spec PyProof.Rows L2 Pu
variable{H W:Hp}{d:D}{Z:Bl}{xs:Av}{s:Al}{X:Cx}{x:Str}{J:Ak}{a Cd:Addr}{Y:A8}{pos:Pos}{v:V}{pc ps pe:Px}{o:O2}{scope:Bf}{A:Bv}{E:Ay}{N:Ac}{nm:Bj}{elt iter tg:Expr}{ifs:CF}{its:AE}{nt:Nat}{cs:B6}{prog:Ba}{fp:A9}{α:Type}{P:D->Prop}
noncomputable def keyV:L2.Key->D
 |.inl n=>.int n
 |.inr x=>.str x
 |.non=>.non
mutual
def iC:KTr L2.Key->D
 |.a k=>keyV k
 |.t ks=>.tup a8
def yC:List (KTr Yk)->List D
 |[]=>[]
 |k::ks=>iC k::yC ks
end
def DK(H:Hp)(a:Addr)(t z:Bool)(ks:Ak)(xs:Av):Prop:=match t with
 |true=>∃kvs:List (List (KTr Yk)×V),(match z with
  |true=>∃o,H a=So (.frz o BA)
  |false=>H a=So BA)/\ks=kvs.map (λp=>.tup (yC p.1))/\xs=kvs.map (·.2)
 |false=>∃kvs:List (L2.Key×V),(match z with
  |true=>∃o,H a=So (.frz o AN)
  |false=>H a=So AN)/\ks=kvs.map (λp=>keyV p.1)/\xs=kvs.map (·.2)
def DK.mono{t z:Bool}{ks:Ak}(e:∀o,H a=So o->W a=So o)(h:Rj):DK W a t z ks xs:=by
 cases t<;>cases z<;>obtain⟨b,g,f⟩:=h
 ·exact Qd6
 ·exact⟨b,let⟨o,h⟩:=g;⟨o,e _ h⟩,f⟩
 ·exact Qd6
 ·exact⟨b,let⟨o,h⟩:=g;⟨o,e _ h⟩,f⟩
noncomputable def clsN (ns:Ac):Str:=if ns.contains (oS "rows")then oS "Board" else oS "Site"
mutual
def Rep(K:Aj)(H:Hp):D->V->Prop
 |.non,v=>v=.non
 |.bl b,v=>v=.bl b
 |.int i,v=>v=.int i
 |.str x,v=>v=.str x
 |.tup J,v=>∃a xs,v=.ref a/\SqT K H a xs/\Reps K H J xs
 |.lst J,v=>∃a xs,v=.ref a/\SqL K H a xs/\Reps K H J xs
 |.dct t z ks vs,v=>∃a xs,v=.ref a/\DK H a t z ks xs/\Reps K H vs xs
 |.exc c,v=>∃a o C,v=.ref a/\H a=So (.frz o Sk)/\o.cls=.ref C/\PySem.W.nsIn K mainGlobals c=So BC
 |.fn x _,v=>∃f,v=.ref f/\PySem.W.nsIn K mainGlobals x=So EN
 |.obj a ns fs,v=>v=.ref a/\∃C e xs,H a=So (.ins C e Xc)/\PySem.W.nsIn K mainGlobals D7=So BC/\ns.length=aO/\Reps K H fs xs
 |.mls t J,v=>∃a xs,v=.ref a/\H a=So (.lsm t xs)/\Reps K H J xs
 |.adr b,v=>v=.ref b
def Reps(K:Aj)(H:Hp):List D->List V->Prop
 |[],xs=>xs=[]
 |d::J,xs=>∃x r,xs=x::r/\Rep K H d x/\Reps K H J r
end
def SqT.same{K:Aj}(e:Ca)(h:b6):SqT K W a xs:=by
 rcases h with h|h
 ·exact .inl (e _ _ h)
 ·exact .inr h
mutual
theorem Rep.mono{K:Aj}{H W:Hp}(e:Ca):∀(d:D){v:V},Rep K H d v->Rep K W d v
 |.non,_,h=>h
 |.bl _,_,h=>h
 |.int _,_,h=>h
 |.str _,_,h=>h
 |.tup J,_,⟨a,xs,e1,h1,h2⟩=>⟨a,xs,e1,SqT.same e h1,Reps.mono e J h2⟩
 |.lst J,_,⟨a,xs,e1,h1,h2⟩=>⟨a,xs,e1,e.seq h1,Reps.mono e J h2⟩
 |.dct t z ks vs,_,⟨a,xs,e1,h1,h2⟩=>⟨a,xs,e1,h1.mono (e a),Reps.mono e vs h2⟩
 |.exc c,_,⟨a,o,C,e1,h1,h2⟩=>⟨a,o,C,e1,e _ _ h1,h2⟩
 |.fn x _,_,h=>h
 |.obj a ns fs,_,⟨e1,C,dx,xs,h1,h2,h3,h5⟩=>⟨e1,C,dx,xs,e _ _ h1,h2,h3,Reps.mono e fs h5⟩
 |.mls t J,_,⟨a,xs,e1,h1,h2⟩=>⟨a,xs,e1,e _ _ h1,Reps.mono e J h2⟩
 |.adr _,_,h=>h
theorem Reps.mono{K:Aj}{H W:Hp}(e:Ca):∀(J:Ak){xs:Av},Reps K H J xs->Reps K W J xs
 |[],_,h=>h
 |d::J,_,⟨x,r,e1,h1,h2⟩=>⟨x,r,e1,Rep.mono e d h1,Reps.mono e J h2⟩
end
theorem Reps.length{K:Aj}{H:Hp}:∀{J:Ak}{xs:Av},Reps K H J xs->Ah=Ae
 |[],_,h=>by cases h;rfl
 |d::J,_,⟨x,r,e1,h1,h2⟩=>by subst e1;simp[Reps.length h2]
theorem Reps.get{K:Aj}{H:Hp}:∀{J:Ak}{xs:Av}{i:Nat}{d:D},Reps K H J xs->J[i]? =So d->∃x,xs[i]? =So x/\Rep K H d x
 |[],_,_,_,_,e=>by simp at e
 |d::J,_,0,d',⟨x,r,e1,h1,h2⟩,e=>by subst e1;simp at e;subst e;exact⟨x,rfl,h1⟩
 |d::J,_,i+1,d',⟨x,r,e1,h1,h2⟩,e=>by
  subst e1
  obtain⟨y,b,f⟩:=Reps.get (i:=i) h2 (by simpa using e)
  exact⟨y,by simpa using b,f⟩
theorem Reps.get'{K:Aj}:∀{J:Ak}{xs:Av}{i:Nat}{x:V},Reps K H J xs->xs[i]? =So x->∃d,J[i]? =So d/\Rep K H d x
 |[],_,_,_,h,e=>by cases h;simp at e
 |d::J,_,0,d',⟨x,r,e1,h1,h2⟩,e=>by subst e1;simp at e;subst e;exact⟨d,rfl,h1⟩
 |d::J,_,i+1,d',⟨x,r,e1,h1,h2⟩,e=>by
  subst e1
  obtain⟨y,b,f⟩:=Reps.get' (i:=i) h2 (by simpa using e)
  exact⟨y,by simpa using b,f⟩
theorem Reps.append{K:Aj}:∀{J es:Ak}{xs ys:Av},Reps K H J xs->Reps K H es ys->Reps K H (J++es) (xs++ys)
 |[],_,_,_,h,h'=>by cases h;exact h'
 |d::J,es,_,ys,⟨x,r,e1,h1,h2⟩,h'=>by subst e1;exact⟨x,r++ys,rfl,h1,Reps.append h2 h'⟩
theorem Reps.take{K:Aj}:∀(n:Nat){J:Ak}{xs:Av},Reps K H J xs->Reps K H (J.take n) (xs.take n)
 |0,_,_,h=>by simp[Reps]
 |n+1,[],_,h=>by cases h;simp[Reps]
 |n+1,d::J,_,⟨x,r,e1,h1,h2⟩=>by subst e1;exact⟨x,r.take n,rfl,h1,Reps.take n h2⟩
theorem Reps.drop{K:Aj}:∀(n:Nat){J:Ak}{xs:Av},Reps K H J xs->Reps K H (J.drop n) (xs.drop n)
 |0,_,_,h=>by simpa using h
 |n+1,[],_,h=>by cases h;simp[Reps]
 |n+1,d::J,_,⟨x,r,e1,h1,h2⟩=>by subst e1;exact Reps.drop n h2
def Reps.nil_iff{K:Aj}(h:FW):xs=[]↔J=[]:=by
 have:=cI;constructor
 ·intro e;subst e;cases J with
  |nil=>rfl
  |cons _ _=>simp at this
 ·intro e;subst e;exact h
def Reps.one{K:Aj}(h:Dt):Reps K H [d] [v]:=⟨v,[],rfl,h,rfl⟩
def Tups(K:Aj)(H W:Hp):Prop:=(∀a xs,SqT K H a xs->SqT K W a xs)/\∀a o u,H a=So (.frz o u)->W a=So LG
def Tups.of{K:Aj}(e:Ca):Tups K H W:=⟨λ_ _ h=>SqT.same e h,λ_ _ _ h=>e _ _ h⟩
mutual
theorem Rep.tups{K:Aj}{H W:Hp}(e:Tups K H W):∀(d:D){v:V},d.imm=To->Rep K H d v->Rep K W d v
 |.non,_,_,h=>h
 |.bl _,_,_,h=>h
 |.int _,_,_,h=>h
 |.str _,_,_,h=>h
 |.tup J,_,i,⟨a,xs,e1,h1,h2⟩=>⟨a,xs,e1,e.1 _ _ h1,Reps.tups e J (by simpa[D.imm]using i) h2⟩
 |.lst J,_,i,_=>by simp[D.imm]at i
 |.dct t z ks vs,_,i,⟨a,xs,e1,h1,h2⟩=>by
  simp only[D.imm,Zc]at i
  refine⟨a,xs,e1,?_,Reps.tups e vs i.2 h2⟩
  obtain⟨rfl,_⟩:=i
  cases t<;>obtain⟨b,⟨o,f⟩,g⟩:=h1
  ·exact⟨b,⟨o,e.2 _ _ _ f⟩,g⟩
  ·exact⟨b,⟨o,e.2 _ _ _ f⟩,g⟩
 |.exc c,_,_,⟨a,o,C,e1,h1,h2⟩=>⟨a,o,C,e1,e.2 _ _ _ h1,h2⟩
 |.fn x _,_,_,h=>h
 |.obj a ns fs,_,i,_=>by simp[D.imm]at i
 |.mls _ _,_,i,_=>by simp[D.imm]at i
 |.adr _,_,i,_=>by simp[D.imm]at i
theorem Reps.tups{K:Aj}{H W:Hp}(e:Tups K H W):∀(J:Ak){xs:Av},imms J=To->Reps K H J xs->Reps K W J xs
 |[],_,_,h=>h
 |d::J,_,i,⟨x,r,e1,h1,h2⟩=>by
  simp only[imms,Zc]at i
  exact⟨x,r,e1,Rep.tups e d i.1 h1,Reps.tups e J i.2 h2⟩
end
noncomputable def hid (L:A9) (H:Hp):Hp:=λa=>if a∈L then No else H a
noncomputable def Chgb:HO->Prop
 |.lst _=>True
 |.dK _=>True
 |.dT _=>True
 |_=>False
def Ows(L:A9)(H:Hp):Prop:=∀a∈L,∃o,H a=So o/\Chgb o
def ItOk(b:It):Prop:=∀(L:A9)(i:Nat)(H:Hp)(x:V)(W:Hp),Ows L H->b.yld i H x W->b.yld i Bm x IP
section
variable{L L':A9}{H1:Hp}{o:HO}
def Jt(h:a∉L):hid L H a=H a:=by unfold hid;rw[if_neg h]
def fG(h:a∈L):hid L H a=No:=by unfold hid;rw[if_pos h]
def hU(h:hid L H a=So o):a∉L/\H a=So o:=by
 unfold hid at h;split at h
 ·cases h
 ·rename_i q;exact⟨q,h⟩
def hid_same:Same Bm H:=λa o h=>(hU h).2
def JqN(k:∀a o,H a=So o->a∉L->W a=So o/\a∉L'):Same Bm (hid L' W):=λa o h=>by
 obtain⟨f,g⟩:=hU h
 obtain⟨b,e⟩:=k a o g f
 rw[Jt e];exact b
def JD:hid [] H=H:=by funext a;exact Jt Ad
def yZ(h:a∉L):hid L ES=upd Bm a o:=by
 funext b;by_cases q:b=a
 ·subst q;rw[Jt h,Je,Je]
 ·rw[Jb q];by_cases r:b∈L
  ·rw[fG r,fG r]
  ·rw[Jt r,Jt r,Jb q]
end
def ReadOk(K:Aj)(H:Hp)(Z:Bl)(O:Fm):Prop:=∀(i:Nat)(d:D),O[i]? =So Bd->∃v,Z[i]? =So BO/\Rep K H d v
def ReadOk.mono{K:Aj}{O:Fm}(r:ReadOk K H Z O)(e:Ca):ReadOk K W Z O:=λi d h=>
 let⟨v,f,b⟩:=r i d h
 ⟨v,f,b.mono e⟩
def XE(X:Cx)(C:Addr)(H:Hp):Prop:=∀a b,FlyIn X C a H b->X.xe Ar b
def XW(X:Cx)(H:Hp)(c:Str):Prop:=∀C W,X.mg c=So BL->Same H W->XE X C W
def XW.mono{c:Str}(e:Ca)(h:XW X H c):XW X W c:=λC f b s=>h C f b (e.trans s)
def Out(X:Cx)(H:Hp)(Q:VK)(d:D):Prop:=∀v W,Same H W->Rep X.K W d v->Q v W
def Out.mono{b:Hp}{Q:VK}(h:dO)(e:Same H b):Out X b Q d:=λv W f r=>h v W (e.trans f) r
def Out.now{Q:VK}(h:dO)(r:HQ):Q v H:=h v H D6 r
inductive tI(X:Cx)(call:Ag)(p:Px)(σ:Bl)(H:Hp)(Q:VK):Prop where
 |mk:∀env,ReadOk X.K H σ env->(evD call p env).Good (Out X H Q) (XW X H)->tI X call p σ H Q
inductive tT(X:Cx)(call:Ag)(p:Px)(σ:Bl)(H:Hp)(Q:Mu):Prop where
 |mk:∀env,ReadOk X.K H σ env->((evD call p env).Good (λd=>∃b,d=.bl b/\∀H',Same H H'->Q b H') Az)->tT X call p σ H Q
inductive tA(X:Cx)(call:Ag)(p:Px)(σ:Bl)(H:Hp)(Q:(List V->Hp->Prop)):Prop where
 |mk:∀env,ReadOk X.K H σ env->((evD call p env).Good (λd=>∃ds,d=.lst ds/\∀vs H',Same H H'->Reps X.K H' ds vs->Q vs H') Az)->tA X call p σ H Q
section
variable{U:Ag}{e a b c:Expr}{es:CF}{p pa pb:Px}
def PE.weak{t t':TE}(h:PE X e t)(f:∀Z H Q,t' Z H Q->t Z H Q):PE X e t':=λY s Z H Q I g=>h Y s Z H Q I LQ
def PT.weak{t t':TT}(h:PT X e t)(f:∀Z H Q,t' Z H Q->t Z H Q):PT X e t':=λY s Z H Q I g=>h Y s Z H Q I LQ
def PW.weak{t t':TT}(h:PW X e t)(f:∀Z H Q,t' Z H Q->t Z H Q):PW X e t':=λw Y s Z H Q I g=>h w Y s Z H Q I LQ
def PA.weak{t t':TA}(h:aM)(f:∀Z H Q,t' Z H Q->t Z H Q):PA X es t':=λp Y s Z H Q I g=>h p Y s Z H Q I LQ
def tI.then{O:Fm}{Q:VK}{k:D->Rs D}(r:Ri)(h:('ǈ'.bind k).Good Cu Az){f:VK}
  (g:∀d v W,Same H W->Rep X.K W d v->ReadOk X.K W Z O->(k d).Good (Out X W Q) (XW X W)->f v W):tI X U p Z H f:=by refine⟨O,r,'ħ'.imp λd i v W s j=>g d v W s j (r.mono s) (i.mono (λl o=>o.mono s) λc x=>x.mono s)⟩
def JvI{i:Nat}(hN:X.N[i]? =So x)(j:Vis EW x)(m:QW)(f:(x==("__classdict__":Str))=Fo):PE X Cm (tI X U B3):=by
 refine PE.weak (rA hN j m f) λZ H Q g=>?_;obtain⟨O,r,h⟩:=g;simp only[evD]at h;cases q:O[i]? with
 |none=>rw[q]at h;exact h.elim
 |some o=>
  cases o with
  |none=>rw[q]at h;exact h.elim
  |some d=>rw[q]at h;obtain⟨v,u,l⟩:=r i d q;exact⟨v,u,Out.now h l⟩
def JB{i:Int}{j}:PE X PY (tI X U (.con A2)):=PE.weak fY λZ H Q⟨O,r,h⟩=>Out.now h rfl
def qI{i:Bool}{j}:PE X (.Constant (.bool i) j pos) (tI X U (.con (.bl i))):=PE.weak pe_bl λZ H Q⟨O,r,h⟩=>Out.now h rfl
def lY{j}:PE X Qg (tI X U Ei):=PE.weak JxH λZ H Q⟨O,r,h⟩=>Out.now h rfl
def JG{j}:PE X PX (tI X U (.con D2)):=PE.weak Jrj λZ H Q⟨O,r,h⟩=>Out.now h rfl
def Jwt(X:Cx)(x:Str)(d:D):Prop:=∃v u,X.mg x=So u/\RelV v u/\∀H,Rep X.K H d v
def JsQ(i:Yt)(h:Jwt X x d)(j:QW):PE X Cm Qae:=by obtain⟨v,u,f,r,g⟩:=h;exact PE.weak (Jtl i f r j) λZ H Q⟨O,r,h⟩=>Out.now h (g H)
def rD2(X:Cx)(o:O2):R2:=λx y H Q=>∃g f,Rep X.K H g x/\Rep X.K H f y/\(op2 o g f).Good Cu Az
def tI.two{Q:VK}(h:tI X U Lf Z H Q):tOp KC GX LP Z H Q:=by obtain⟨O,r,h⟩:=h;refine tI.then r h λg x z B i j u=>?_;refine tI.then j u λl y C f q w m=>?_;exact⟨g,l,i.mono f,q,m⟩
def nN{op:b9}(f:OpR X QdD KC)(i:AO)(g:BJ):PE X OD Mw:=
 PE.weak (pe_op f i g) λZ H Q h=>h.two
def kK{op:bM}(g:QZ)(j:AO)(i:BJ)(f:F4):PE X F3 Mw:=
 PE.weak (Jop g j i f) λZ H Q h=>h.two
def tT.asTest{Q:Fu}(h:tT X U p Z H Q):tI X U p Z H λx W=>∃k,x=.bl k/\Q k W:=by obtain⟨O,r,h⟩:=h;refine⟨O,r,h.imp λd f v W s g=>?_⟩;obtain⟨b,e,q⟩:=f;subst e;exact⟨b,g,q W s⟩
def nK{op:bM}(g:QZ)(j:AO)(i:BJ)(f:F4):PT X F3 (tT X U Lf):=
 PT.weak (JtS g j i f) λZ H Q h=>h.asTest.two
def pI_ix(f:IxR X KC)(i:AO)(g:BJ)(hs:qS b):PE X M6 Mw:=
 PE.weak (pe_ix f i g hs) λZ H Q h=>h.two
def tT.or{Q:Fu}(h:tT X U bQ Z H Q):tOr Kr (tT X U pb) Z H Q:=by
 obtain⟨O,r,h⟩:=h;refine⟨O,r,'ħ'.imp λd f=>?_⟩;cases d with
 |bl b=>
  refine O3;cases b with
  |false=>exact iteF ⟨O,r.mono s,f.mono (λd⟨g,e,q⟩=>⟨g,e,λi j=>q i (s.trans j)⟩) λc x=>x.mono s⟩
  |true=>obtain⟨g,e,q⟩:=f;cases e;exact iteT (q W s)
 |_=>exact f.elim
def tR{op}(f:Qdm):PW X SX Kr:=by
 cases op
 ·exact JuJ f
 ·exact Jxy f
def zQ{rest:CF}(g:Qdm)(f:PW X (.BoolOp .Or (b::rest) pos) (tT X U pb)):PW X Me (tT X U bQ):=
 PW.weak (pw_or g f) λZ H Q h=>h.or
def JrE(i:Qdm):PT X Nc (tT X U QdH):=by
 refine PT.weak (JvY i) λZ H Q f=>?_;obtain⟨O,r,h⟩:=f;refine⟨O,r,'ħ'.imp λd g=>?_⟩;cases d with
 |bl b=>obtain⟨j,e,q⟩:=g;cases e;exact⟨b,rfl,q⟩
 |_=>exact g.elim
def Juk{K:Aj}{b:Bool}(r:Dt)(h:d.truth=.ok b):TruV K v H b:=by
 cases d with
 |non=>cases r;simp only[D.truth]at h;cases h;rfl
 |bl c=>cases r;simp only[D.truth]at h;cases h;rfl
 |int i=>cases r;simp only[D.truth]at h;cases h;rfl
 |str x=>
  cases r;simp only[D.truth]at h;split at h
  ·rename_i q;cases h;exact⟨by rw[ZG];exact q,rfl⟩
  ·cases h
 |tup J=>obtain⟨a,xs,rfl,g,f⟩:=r;simp only[D.truth]at h;cases h;refine .inr (.inl ⟨xs,g,?_⟩);have:=Yp;cases J<;>cases xs<;>simp_all
 |lst J=>obtain⟨a,xs,rfl,g,f⟩:=r;simp only[D.truth]at h;cases h;refine .inl ⟨xs,g,?_⟩;have:=Yp;cases J<;>cases xs<;>simp_all
 |_=>simp only[D.truth]at h;cases h
def Jqe{c:Str}(h:d.truth=.ex c):False:=by cases d<;>simp only[D.truth]at h<;>first|cases h|(split at h<;>cases h)
def JsN{c:Str}(h:d.walk=.ex c):False:=by cases d<;>simp only[D.walk]at h<;>cases h
def JrL(u:AO)(m:∀f,isTrue a Ue f=(do let v<-f;standAt a.pos;holding [v] cQ)):PT X a (tT X U (.un .truth pa)):=by
 refine PT.weak (JqV u m) λZ H Q j=>?_;obtain⟨O,r,h⟩:=j;refine⟨O,r,'ħ'.imp λd g v W s l=>?_⟩;simp only[op1]at g;cases i:d.truth with
 |ok b=>rw[i]at g;obtain⟨w,e,q⟩:=g;cases e;exact⟨b,Juk l i,q W s⟩
 |ex c=>exact(Jqe i).elim
 |sk=>rw[i]at g;exact g.elim
def Jxl{op}(f:AO):PE X SX GX:=JrD f
def Jyh{rest:CF}(l:AO)(i:PE X (.BoolOp .And (b::rest) pos) LP):PE X (.BoolOp .And (a::b::rest) pos) (tI X U (.and pa pb)):=by
 refine PE.weak (JrW l i) λZ H Q g=>?_;obtain⟨O,r,h⟩:=g;refine tI.then r h λd v W s j q f=>?_;cases d with
 |bl b=>
  cases j;refine⟨b,rfl,?_⟩;cases b with
  |true=>exact iteT ⟨O,q,f⟩
  |false=>exact iteF QbA
 |_=>exact f.elim
def pI_or{rest:CF}(l:AO)(i:PE X (.BoolOp .Or (b::rest) pos) LP):PE X Me (tI X U bQ):=by
 refine PE.weak (pe_or l i) λZ H Q g=>?_;obtain⟨O,r,h⟩:=g;refine tI.then r h λd v W s j q f=>?_;cases d with
 |bl b=>
  cases j;refine⟨b,rfl,?_⟩;cases b with
  |true=>exact iteT QbA
  |false=>exact iteF ⟨O,q,f⟩
 |_=>exact f.elim
def Jxa(j:AO):PE X Nc (tI X U QdH):=by
 refine PE.weak (JxW j) λZ H Q f=>?_;obtain⟨O,r,h⟩:=f;refine tI.then r h λd v W s i q g=>?_;cases d with
 |bl b=>cases i;exact⟨b,rfl,Out.now g rfl⟩
 |_=>exact g.elim
def JvK(i:Qbp)(l:AO)(j:BJ):PE X Ob (tI X U (.ite pc pa pb)):=by
 refine PE.weak (JpY i l j) λZ H Q g=>?_;obtain⟨O,r,h⟩:=g;refine⟨O,r,'ħ'.imp λd f=>?_⟩;cases d with
 |bl b=>
  refine O3;cases b with
  |true=>exact iteT WG
  |false=>exact iteF WG
 |_=>exact f.elim
def Jm:PA X [] (tA X U .nil):=by refine PA.weak mE λZ H Q f=>?_;obtain⟨O,r,h⟩:=f;obtain⟨J,e,q⟩:=h;cases e;exact q [] H D6 rfl
def Jc(w:PE X e GX)(z:PA X es (tA X U pb))(hs:CG):PA X Gi (tA X U (.cons pa pb)):=by
 refine PA.weak (JP w z hs) λZ H Q f=>?_;obtain⟨O,r,h⟩:=f;refine⟨O,r,'ħ'.imp λd m v W s u=>?_⟩;refine⟨O,r.mono s,((Rs.gB.mp m).imp λy g=>?_).mono (λ_ x=>x) λc x=>x.mono s⟩;cases y with
 |lst J=>refine⟨J,rfl,λj B i l=>?_⟩;obtain⟨C,e,q⟩:=g;cases e;exact q (v::j) B (s.trans i) ⟨v,j,rfl,u.mono i,l⟩
 |_=>exact g.elim
def wG{a:Addr}{K:Aj}(h:H a=No)(r:FW):Same H (upd H a Bb)/\Rep K (upd H a Bb) Gp Ar:=by
 have s:Same H (upd H a Bb):=λb o e=>by rw[Jb (Jh e h)];exact e
 exact⟨s,a,xs,rfl,SqT.of Je,r.mono s⟩
def zG{a:Addr}{K:Aj}(h:H a=No)(r:FW):Same H (upd H a AA)/\Rep K Re Bc Ar:=by
 have s:Same H Re:=λb o e=>by rw[Jb (Jh e h)];exact e
 exact⟨s,a,xs,rfl,SqL.of Je,r.mono s⟩
def gE{k:Nat}(h:Qbq):PE X Qac (tI X U (.tup p)):=by
 refine PE.weak (Jyu h) λZ H Q g=>?_;obtain⟨O,r,h⟩:=g;refine⟨O,r,'ħ'.imp λd f=>?_⟩;cases d with
 |lst J=>
  simp only[D.asL,Rs.bo]at f;refine⟨J,rfl,λq W s rs=>?_⟩;split at f
  ·rename_i m;refine⟨by rw['ƚ',ZG];exact m,λa j=>?_⟩;obtain⟨i,l⟩:=wG j rs;exact f _ _ (s.trans i) l
  ·exact f.elim
 |_=>exact f.elim
def OutF(X:Cx)(H:Hp)(Q:VK)(d:D):Prop:=∃J,d=.lst J/\∀l xs W,Same H W->H l=No->W l=So AA->Reps X.K W J xs->Q BH W
inductive tF(X:Cx)(call:Ag)(p:Px)(σ:Bl)(H:Hp)(Q:VK):Prop where
 |mk:∀env,ReadOk X.K H σ env->(evD call p env).Good (OutF X H Q) (XW X H)->tF X call p σ H Q
end
structure Gw where
 prog:Program
 w:World
 K:PySem.W.Frag
 mg:Str->Option Value
 base:Heap
 A:Around
variable{G:Gw}
noncomputable def gwOf (X:Cx):Gw:=⟨Xz,X.w,X.K,X.mg,X7,X.A⟩
noncomputable def visB (nm:Bj) (x:Str):Bool:=match nm.lookup x with
 |some .local=>To
 |some .cell=>To
 |some .free=>To
 |_=>Fo
noncomputable def celB (nm:Bj) (x:Str):Bool:=match nm.lookup x with
 |some .cell=>To
 |some .free=>To
 |_=>Fo
noncomputable def locB (nm:Bj) (x:Str):Bool:=match nm.lookup x with
 |some .local=>To
 |some .cell=>To
 |_=>Fo
noncomputable def gloB (nm:Bj) (x:Str):Bool:=match nm.lookup x with
 |some .globalImplicit=>To
 |_=>Fo
structure Ctx(X:Cx)(G:Gw)(N:Ac)(nm:Bj):Prop where
 g:gwOf X=G
 hN:X.N=N
 nd:N.Nodup
 vis:∀x,visB nm x=To->Vis EW x
 cel:∀x,celB nm x=To->X.env.kindOf x=So .cell\/X.env.kindOf x=So .free
 glo:∀x,gloB nm x=To->Gl X x
 sto:∀x,locB nm x=To->Loc EW x/\(X.fn x=To\/X.env.scope.names.lookup x=So .local)
 calm:X.calm=To
 un:X.A.units+64<cLine
 fr:∃e0 out0 L,XB=e0::out0/\e0.frame=So L/\X.env.frame=So L
def Ctx.K(C:Am):X.K=G.K:=by rw[<-C.g];rfl
def Ctx.mg(C:Am):X.mg=G.mg:=by rw[<-C.g];rfl
def Walk(K:Aj)(e:It)(H:Hp)(J:Ak):Prop:=∀W,Same H W->
 (∀i,i<Ae->e.go i W)/\e.stop Ae W/\∀i x b,i<Ae->e.yld i W x b->Same W b/\∃d,J[i]? =So d/\Rep K b d x
inductive tW(X:Cx)(call:Ag)(p:Px)(σ:Bl)(H:Hp)(R:(It->Hp->Prop)):Prop where
 |mk:∀env,ReadOk X.K H σ env->((evD call p env).Good (λd=>∃ds,d=.lst ds/\∀J H',Same H H'->Walk X.K J H' ds->ItOk J->R J H') Az)->tW X call p σ H R
noncomputable def vA (cs:B6):List (Str×NameKind)->List (Str×Addr)->List (Str×Addr)
 |[],acc=>acc
 |(n,k)::r,acc=>match k,cs.lookup n with
  |.free,So a=>vA cs r ((n,a)::acc)
  |_,_=>vA cs r acc
theorem JaT{O:Env}:∀(e:Bj)(b:B6),(∀y∈e,y.2=.free->∃c,O.cells.lookup y.1=So c)->
  (forIn e b λx r=>if(x.2==YL)=To then do let a<-cellOf O x.1;pure (ForInStep.yield ((x.1,a)::r))else pure SL:Sem (List (Str×Addr)))=pure (vA QcE e b)
 |[],b,_=>rfl
 |(n,k)::r,b,h=>by
  rw[oP]
  by_cases g:k=.free
  ·subst g
   obtain⟨c,l⟩:=h (n,.free) (.head _) rfl
   have f:O.cells.lookup n=So c:=l
   have q:cellOf O n=pure c:=by unfold cellOf;rw[f]
   simp only[ZE,if_true,q]
   have i:=JaT r ((n,c)::b) λy j=>h y (.tail _ j)
   simp only[vA,f]
   exact i
  ·have u:(k==YL)=Fo:=by simpa using g
   simp only[u,Zl,ZF]
   have i:=JaT r b λy j=>h y (.tail _ j)
   have m:vA QcE ((n,k)::r) b=vA QcE r b:=by
    cases k<;>first|rfl|exact absurd rfl g
   rw[m];exact i
def JeF{O:Env}(h:∀y∈scope.names,y.2=.free->∃c,O.cells.lookup y.1=So c):closureFor scope O=pure (vA QcE Yb []):=by have e:=JaT (O:=O) Yb [] h;unfold closureFor;simp only[bind_pure];exact e
theorem vU:∀(f:Bj)(b:B6),(∀x c,b.lookup x=So c->cs.lookup x=So c)->∀x c,(vA cs f b).lookup x=So c->cs.lookup x=So c
 |[],b,h=>h
 |(n,k)::r,b,h=>by
  intro x c
  have keep:=vU r b h x c
  unfold vA
  split
  ·rename_i a j
   refine vU r _ (λy d e=>?_) x c
   by_cases g:y=n
   ·subst g
    simp only[Zp,ZE]at e
    cases e
    exact j
   ·have i:(y==n)=Fo:=by simpa using g
    simp only[Zp,i]at e
    exact h y d e
  ·exact keep
theorem JcC:∀(e:Bj)(b:B6)(x:Str),(∃c,b.lookup x=So c)->∃c,(vA cs e b).lookup x=So c
 |[],b,x,h=>h
 |(n,k)::r,b,x,h=>by
  unfold vA
  split
  ·refine JcC r _ x ?_
   by_cases f:x=n
   ·subst f;exact⟨_,by simp only[Zp,ZE];rfl⟩
   ·have i:(x==n)=Fo:=by simpa using f
    obtain⟨c,g⟩:=h
    exact⟨c,by simp only[Zp,i];exact g⟩
  ·exact JcC r b x h
theorem pU:∀(b:Bj)(f:B6)(x:Str),(x,YL)∈b->(∃c,cs.lookup x=So c)->∃c,(vA cs b f).lookup x=So c
 |[],f,x,h,_=>nomatch h
 |(n,k)::r,f,x,h,g=>by
  rcases Zf.mp h with e|i
  ·cases e
   obtain⟨c,g⟩:=g
   unfold vA
   rw[g]
   exact JcC r _ _ ⟨c,by simp only[Zp,ZE]⟩
  ·unfold vA
   split
   ·exact pU r _ x i g
   ·exact pU r f x i g
noncomputable def relk (O:Env) (p:Str×NameKind):Str×NameKind:=if(p.2==YL&&O.scope.kind==.function&&O.kindOf p.1==So .cell)=To then(p.1,XX)else(p.1,p.2)
def vZ(O:Env)(n:Str)(k:cB):relk O (n,k)=(n,k)\/(k=.free/\relk O (n,k)=(n,.cell)):=by
 unfold relk;split
 ·rename_i b;simp only[Zc,ZI]at b;exact .inr ⟨b.1.1,rfl⟩
 ·exact .inl rfl
def Jfo(scope:Bf)(O:Env):'ӎ'.names=scope.names.map a9:=rfl
theorem JbL{O:Env}{x:Str}:∀{b:Bj}{k:cB},b.lookup x=So k->(b.map a9).lookup x=So k\/(k=.free/\(b.map a9).lookup x=So .cell)
 |[],_,h=>by simp at h
 |(n,k')::r,k,h=>by
  rw[Zg]
  by_cases f:x=n
  ·subst f
   simp only[Zp,ZE]at h
   cases h
   rcases vZ O x k' with e|⟨j,e⟩
   ·rw[e];exact .inl (by simp only[Zp,ZE])
   ·rw[e];exact .inr ⟨j,by simp only[Zp,ZE]⟩
  ·have g:(x==n)=Fo:=by simpa using f
   simp only[Zp,g]at h
   have i:=JbL (O:=O) h
   rcases vZ O n k' with e|⟨_,e⟩<;>rw[e]<;>simp only[Zp,g]<;>exact i
theorem JgU{O:Env}{x:Str}:∀{b:Bj},b.lookup x=No->(b.map a9).lookup x=No
 |[],_=>rfl
 |(n,k')::r,h=>by
  rw[Zg]
  by_cases f:x=n
  ·subst f;simp only[Zp,ZE]at h;cases h
  ·have g:(x==n)=Fo:=by simpa using f
   simp only[Zp,g]at h
   have i:=JgU (O:=O) h
   rcases vZ O n k' with e|⟨_,e⟩<;>rw[e]<;>simp only[Zp,g]<;>exact i
def Jq{O:Env}{k:cB}(h:scope.names.lookup x=So k):'ӎ'.names.lookup x=So k\/(k=.free/\(relabel scope O).names.lookup x=So .cell):=JbL h
def mL{O:Env}{k:cB}(h:'ӎ'.names.lookup x=So k):scope.names.lookup x=So k\/(k=.cell/\scope.names.lookup x=So .free):=by
 rw[Jfo]at h;cases q:scope.names.lookup x with
 |none=>rw[JgU q]at h;cases h
 |some f=>
  rcases JbL (O:=O) q with z|⟨b,e⟩
  ·rw[z]at h;cases h;exact .inl rfl
  ·rw[e]at h;cases h;subst b;exact .inr Cw
theorem mem_of_lookup{α:Type}:∀{l:List (Str×α)}{x:Str}{a:α},l.lookup x=So a->(x,a)∈l
 |[],_,_,h=>by simp at h
 |(n,b)::r,x,a,h=>by
  by_cases e:x=n
  ·subst e;simp only[Zp,ZE]at h;cases h;exact .head _
  ·have f:(x==n)=Fo:=by simpa using e
   simp only[Zp,f]at h
   exact .tail _ (mem_of_lookup h)
def JgB{w:AQ}{R:Ke}{b:Expr}{it C:An}{O:Env}(I:Nat->Shared->Prop)
  (turn:∀n s,I n s->wpAny Au A (pyNext it) (λr g=>match r with
   |none=>R (.ok .next) g
   |some v=>wpAny Au A (letOwnedTupleGo b it v) (λ_ j=>wpAny Au A (assign b O v) (λ_ q=>
     wpAny Au A (forIn ifs To λc r=>if r=To then do let ok<-isTrue c O (eval c O);pure (ForInStep.yield ok)else pure SL) (λok f=>
      if ok=To then wpAny Au A (eval elt O) (λx u=>
       wpAny Au A (PySem.call (.builtin "list.append") [C,x]) (λ_ z=>∃m,m<n/\I m z) Hx u) Hx f
      else∃m,m<n/\I m f) Hx q) Hx j) Hx g) Hx s)
  (n:Nat) (h:I n s):
  codeAny Au A (.compLoop Wi 0 it C O) R s:=by
 refine codeAny_loop rfl I (λn s hI=>?_) n h;show wpAny _ A ((compTurn Wi 0 it C O).onRaise (λx=>do noteFrame x O;theTreesLotGoes x)) _ _ s;refine wpAny_noted ?_;rw[compTurn_list];refine Za (wpAny_standAt (Za (ZY (turn n s hI) (λr g y=>?_) λ_ _ l=>l)));cases r with
 |none=>exact Zb y
 |some v=>
  refine Za (ZY y (λ_ j F=>?_) λ_ _ l=>l);refine Za (ZY F (λ_ q U=>Za (ZY U (λok f B=>?_) λ_ _ l=>l)) λ_ _ l=>l);cases ok with
  |false=>exact Zb ⟨rfl,B⟩
  |true=>exact Za (Za (ZY B (λx u L=>Za (ZY L (λ_ z M=>Zb (Zb ⟨rfl,M⟩)) λ_ _ l=>l)) λ_ _ l=>l))
noncomputable def dum (n:Str):Str:=⟨n.cps.push 0⟩
def hidN (ls N:Ac):List Str:=N.map λn=>if ls.contains n then dum n else n
theorem JiW:∀(b:Bj)(n:Nat)(e:B6)(x:Str)(c:Addr),(cellsFrom n b e).lookup x=So c->e.lookup x=So c\/(n<=c/\(x,XX)∈b)
 |[],_,_,_,_,h=>.inl h
 |(y,k)::r,n,e,x,c,h=>by
  unfold cellsFrom at h
  split at h
  ·rename_i j
   rw[ZI]at j
   subst j
   rcases JiW r (n+1) _ x c h with q|⟨f,g⟩
   ·by_cases i:x=y
    ·subst i
     simp only[Zp,ZE,ZU]at q
     subst q
     exact .inr ⟨Zh _,by simp⟩
    ·have l:(x==y)=Fo:=by simpa using i
     simp only[Zp,l]at q
     exact .inl q
   ·exact .inr ⟨vP f,by simp[g]⟩
  ·rcases JiW r n e x c h with q|⟨f,g⟩
   ·exact .inl q
   ·exact .inr ⟨f,by simp[g]⟩
theorem pX:∀(f:Bj)(n:Nat)(b:B6),(∀x c,b.lookup x=So c->c<n)->(∀x y c,b.lookup x=So c->b.lookup y=So c->x=y)->∀x y c,(cellsFrom n f b).lookup x=So c->(cellsFrom n f b).lookup y=So c->x=y
 |[],_,_,_,h=>h
 |(z,k)::r,n,b,hlt,h=>by
  unfold cellsFrom
  split
  ·refine pX r (n+1) _ (λx c e=>?_) λx y c l j=>?_
   ·by_cases g:x=z
    ·subst g
     simp only[Zp,ZE,ZU]at e
     subst e;exact ZaU _
    ·have i:(x==z)=Fo:=by simpa using g
     simp only[Zp,i]at e
     exact wB (hlt x c e)
   ·by_cases g:x=z<;>by_cases m:y=z
    ·rw[g,m]
    ·subst g
     have i:(y==x)=Fo:=by simpa using m
     simp only[Zp,ZE,ZU]at l
     simp only[Zp,i]at j
     subst l
     exact absurd (hlt y _ j) CH
    ·subst m
     have i:(x==y)=Fo:=by simpa using g
     simp only[Zp,ZE,ZU]at j
     simp only[Zp,i]at l
     subst j
     exact absurd (hlt x _ l) CH
    ·have i:(x==z)=Fo:=by simpa using g
     have q:(y==z)=Fo:=by simpa using m
     simp only[Zp,i]at l
     simp only[Zp,q]at j
     exact h x y c l j
  ·exact pX r n b hlt h
theorem JiB:∀(b:Bj)(n:Nat)(f:B6)(x:Str),(x,XX)∉b->(cellsFrom n b f).lookup x=f.lookup x
 |[],_,_,_,_=>rfl
 |(y,k)::r,n,f,x,h=>by
  unfold cellsFrom
  split
  ·rename_i g
   rw[ZI]at g
   rw[JiB r _ _ x λq=>h (by simp[q])]
   have i:x≠y:=λe=>h (by simp[e,g])
   have j:(x==y)=Fo:=by simpa using i
   simp only[Zp,j]
  ·exact JiB r _ _ x λq=>h (by simp[q])
theorem TR:∀(e:Bj)(n:Nat)(b:B6)(x:Str),(∃c,b.lookup x=So c)->∃c,(cellsFrom n e b).lookup x=So c
 |[],_,_,_,h=>h
 |(y,k)::r,n,b,x,h=>by
  unfold cellsFrom
  split
  ·refine TR r _ _ x ?_
   by_cases f:x=y
   ·exact⟨n,by simp[Zp,f]⟩
   ·have g:(x==y)=Fo:=by simpa using f
    simpa only[Zp,g]using h
  ·exact TR r _ _ x h
theorem Jrw:∀(b:Bj)(n:Nat)(e:B6)(x:Str),(x,XX)∈b->∃c,(cellsFrom n b e).lookup x=So c
 |[],_,_,_,h=>by cases h
 |(y,k)::r,n,e,x,h=>by
  unfold cellsFrom
  rcases Zf.mp h with q|q
  ·cases q
   simp only[ZE,if_true]
   exact TR r _ _ _ ⟨n,by simp[Zp]⟩
  ·split<;>exact Jrw r _ _ x q
theorem nZ:∀(b:Bj)(h:Heap)(f:B6)(x:Str)(c:Addr),(cellsFrom Bz b f).lookup x=So c->f.lookup x=So c\/(Bz<=c/\(pushCells h b).IsCell c No)
 |[],_,_,_,_,e=>.inl e
 |(y,k)::r,h,f,x,c,e=>by
  unfold cellsFrom at e
  unfold pushCells
  split at e
  ·rename_i g
   rw[if_pos g]
   have i:(h.push {cls:=.type "cell",data:=.cell No}).objs.size=Bz+1:=ZL ..
   rw[<-i]at e
   rcases nZ r (h.push {cls:=.type "cell",data:=.cell No}) _ x c e with q|⟨u,l⟩
   ·by_cases j:x=y
    ·subst j
     simp only[Zp,ZE,ZU]at q
     subst q
     exact .inr ⟨Zh _,_,zO _ _ _ _ FU,rfl⟩
    ·have m:(x==y)=Fo:=by simpa using j
     simp only[Zp,m]at q
     exact .inl q
   ·exact .inr ⟨by lia,l⟩
  ·rename_i g
   rw[if_neg g]
   exact nZ r h f x c e
theorem tX{lo:Nat}:∀(b:Bj)(n:Nat)(f:B6)(x:Str),lo<=n->((x,XX)∈b\/∀c,f.lookup x=So c->lo<=c)->∀c,(cellsFrom n b f).lookup x=So c->lo<=c
 |[],_,_,_,_,h,c,e=>by
  rcases h with h|h
  ·cases h
  ·exact h c e
 |(y,k)::r,n,f,x,hn,h,c,e=>by
  unfold cellsFrom at e
  split at e
  ·refine tX r (n+1) _ x (Nat.le_succ_of_le hn) ?_ c e
   by_cases i:x=y
   ·refine .inr λj g=>?_
    subst i
    simp only[Zp,ZE,ZU]at g
    subst g;exact hn
   ·have m:(x==y)=Fo:=by simpa using i
    rcases h with h|h
    ·rcases Zf.mp h with q|q
     ·cases q;exact absurd rfl i
     ·exact .inl q
    ·refine .inr λj g=>?_
     simp only[Zp,m]at g
     exact h j g
  ·rename_i l
   refine tX r n f x hn ?_ c e
   rcases h with h|h
   ·rcases Zf.mp h with q|q
    ·cases q;exact absurd (ZE _) l
    ·exact .inl q
   ·exact .inr h
def iO (X:Cx) (ls:Ac) (scope:Bf) (C:Addr) (s:Al) (H:Hp) (fp:A9) (E:Ay):Cx:=
 {X with N:=ls++hidN ls X.N,s₀:=s,H₀:=H,env:=compEnvC scope (cellsFrom (C+1) Yb (vA X.env.cells Yb [])) C Ue,outer:=XB,ex:=fp,fn:=λx=>scope.names.lookup x==So .cell,pn:=[],xe:=E}
def Jwh (N:Ac) (nm:Bj) (ls:Ac) (b:Bj):Bool:=
 b.all λy=>(y.2 !=.cell||(b.lookup y.1==So .cell&&ls.contains y.1))&&(y.2 !=.free||celB nm y.1)&&(y.2 !=.local||(b.lookup y.1==So .local&&(ls.contains y.1||!N.contains y.1)))
structure ScOk(N:Ac)(nm:Bj)(ls:Ac)(sc:Bf):Prop where
 kind:sc.kind=.function
 nd:(ls++hidN ls N).Nodup
 all:Jwh N nm ls XQ=To
 no:∀n∈N,ls.contains n=To->sc.names.lookup (dum n)=No
section
variable{ls:Ac}{sc:Bf}
def ScOk.at(h:EU){y:Str×NameKind}(b:y∈sc.names):(y.2=.cell->sc.names.lookup y.1=So .cell/\y.1∈ls)/\(y.2=.free->celB nm y.1=To)/\(y.2=.local->sc.names.lookup y.1=So .local/\(y.1∈ls\/y.1∉N)):=by
 have q:=uB.mp h.all y b;simp only[Zc,bne_iff_ne,nB,ZI,ZV,qJ,Zw,oE]at q;refine⟨λe=>?_,λe=>?_,λe=>?_⟩
 ·rcases q.1.1 with z|z
  ·exact absurd e z
  ·exact z
 ·rcases q.1.2 with z|z
  ·exact absurd e z
  ·exact z
 ·rcases q.2 with z|z
  ·exact absurd e z
  ·exact z
def ScOk.fcell(h:EU)(b:sc.names.lookup x=So .free):(x,XX)∉sc.names:=λq=>by
 have:=((h.at q).1 rfl).1
 rw[b]at this;cases this
def ScOk.cells(h:EU)(C:Am)(ok:X.Ok):∀y∈sc.names,y.2=.free->∃c,X.env.cells.lookup y.1=So c:=λy b e=>ok.has _ (C.cel _ ((h.at b).2.1 e))
def Jqj(C:Am)(h:EU):Ctx QB G De XQ where
 g:=C.g
 hN:=by show ls++hidN ls X.N=_;rw[C.hN]
 nd:=h.nd
 vis:=λx b=>by
  show Vis 'Ǵ' x
  unfold visB at b
  split at b
  ·rename_i e
   rcases Jq (O:=Ue) e with z|⟨z,_⟩
   ·exact .inl z
   ·cases z
  ·rename_i e
   rcases Jq (O:=Ue) e with z|⟨z,_⟩
   ·exact .inr YY
   ·cases z
  ·rename_i e
   rcases Jq (O:=Ue) e with z|⟨_,z⟩
   ·exact .inr bA
   ·exact .inr YY
  ·cases b
 cel:=λx b=>by
  show(relabel sc Ue).names.lookup x=So .cell\/(relabel sc Ue).names.lookup x=So .free
  unfold celB at b
  split at b
  ·rename_i e
   rcases Jq (O:=Ue) e with z|⟨z,_⟩
   ·exact .inl z
   ·cases z
  ·rename_i e
   rcases Jq (O:=Ue) e with z|⟨_,z⟩
   ·exact .inr z
   ·exact .inl z
  ·cases b
 glo:=λx b=>by
  show(relabel sc Ue).names.lookup x=So .globalImplicit
  unfold gloB at b
  split at b
  ·rename_i e
   rcases Jq (O:=Ue) e with z|⟨z,_⟩
   ·exact z
   ·cases z
  ·cases b
 sto:=λx b=>by
  show Loc 'Ǵ' x/\((sc.names.lookup x==So .cell)=To\/(relabel sc Ue).names.lookup x=So .local)
  unfold locB at b
  split at b
  ·rename_i e
   rcases Jq (O:=Ue) e with z|⟨z,_⟩
   ·exact⟨.inl z,.inr z⟩
   ·cases z
  ·rename_i e
   rcases Jq (O:=Ue) e with z|⟨z,_⟩
   ·exact⟨.inr z,.inl (by rw[e];rfl)⟩
   ·cases z
  ·cases b
 calm:=Yg
 un:=C.un
 fr:=C.fr
noncomputable abbrev uE (its:AE) (n:Nat):Obj:={cls:=.type "list",dict:=No,data:=.seq AF n}
theorem JpH{g:Heap}{tk:Nat}{m:Bk}{h0:Heap}(C:Am)(h:EU)(hh:g=pushCells h0 XQ)(h0s:h0.objs.size=Cd+1)(I:AH)
  (hf:∀b∈fp,FpOk X Y H b) (ho:∀b∈fp,∃o,s.heap.get? b=So o) (hC:Cd=Aa+1) (hns:g.Ns Cd m) (keep:∀b o,s.heap.get? b=So o->g.get? b=So o)
  (hacc:g.get? Aa=So (uE [] 0)):
  Inv QB [(Aa,uE [] 0)] (List.replicate BM No++Z) H {s with heap:=g,toks:=tk}:=by
 subst hC
 have sub:∀x c,'Œ'.lookup x=So c->X.env.cells.lookup x=So c:=vU XQ [] λx c e=>by simp at e
 have old':∀x c,'Œ'.lookup x=So c->c<Aa:=λx c e=>by
  obtain⟨v,o,h1,h2⟩:=I.cell x c (sub x c e)
  exact Zj h1
 have L:∀x c,(cellsFrom (Aa+1+1) XQ 'Œ').lookup x=So c->X.env.cells.lookup x=So c\/(Aa+1+1<=c/\g.IsCell c No):=λx c e=>by
  rw[<-h0s]at e
  rcases nZ XQ h0 _ x c e with q|⟨q1,q2⟩
  ·exact .inl (sub x c q)
  ·exact .inr ⟨h0s▸q1,hh▸q2⟩
 have stk:∀b∈frs XB,b<Aa:=λb F=>by
  obtain⟨_,o,ho,_⟩:=I.stack.mem F
  exact Zj ho
 refine⟨⟨cD,h.kind,I.ok.glob,I.ok.blt,mC _,pX _ _ _ (λx c e=>wB (wB (old' x c e))) λx y c e1 e2=>I.ok.inj x y c (sub x c e1) (sub y c e2),λx hk=>?_,λx c z e=>?_,I.ok.hd,dQ,.inl rfl,λb F=>?_,I.bs,Zq I.ok.bsz I.sz,λb o e F=>?_,λb F hz=>?_,I.stack,I.stkFree⟩,
  rfl,X8,Un.kept keep,⟨m,hns,λi x v hN B hv=>?_⟩,λx c e=>?_,?_,λx c e=>?_,λp hp=>?_,I.hok.kept keep,?_⟩
 ·--every cell name has its cell
  have hk':'Ǵ'.names.lookup x=So .cell\/(relabel sc Ue).names.lookup x=So .free:=hk
  have j:sc.names.lookup x=So .free\/sc.names.lookup x=So .cell:=by
   rcases hk' with z|z
   ·rcases mL z with q|⟨_,q⟩
    ·exact .inr q
    ·exact .inl q
   ·rcases mL z with q|⟨q,_⟩
    ·exact .inl q
    ·cases q
  rcases j with j|j
  ·have hm:=mem_of_lookup j
   exact TR _ _ _ _ (pU XQ [] x hm (h.cells C I.ok (x,.free) hm rfl))
  ·exact Jrw _ _ _ _ (mem_of_lookup j)
 ·have z':sc.names.lookup x=So .cell:=by
   have z2:(sc.names.lookup x==So .cell)=To:=z
   simpa using z2
  have U:(cellsFrom (Aa+1+1) XQ 'Œ').lookup x=So c:=e
  have:=tX (lo:=Aa+1+1) _ _ _ _ (Zh _) (.inl (mem_of_lookup z')) c U
  show Aa<=c
  lia
 ·obtain⟨o,e⟩:=ho b F
  refine⟨Zu (wB (Zj e)),λx c U=>?_⟩
  rcases L x c U with q|⟨q,_⟩
  ·exact(hf b F).2.2.2.2.1 x c q
  ·have:=Zj e
   exactλee=>oQ _ (ZB (wB (wB this)) (ee▸q))
 ·rcases(hf b F).2.2.2.1 with z|z
  ·exact I.ok.noex b o e z
  ·exact absurd (ZB (Zj (I.ok.bs b o e).1) z) CH
 ·rcases Zf.mp (I.stkSub b hz)with z|z
  ·exact(hf b F).2.1 z
  ·exact(hf b F).2.2.1 z
 ·--a name that the block sees
  have f:(ls++hidN ls X.N)[i]? =So x:=hN
  by_cases hi:i<BM
  ·rw[oG (by simpa using hi)]at B
   rw[jW]at B
   split at B<;>cases B
  ·have hi':BM<=i:=Nat.le_of_not_lt hi
   rw[pG hi']at f
   rw[pG (by simpa using hi')]at B
   rw[tJ]at B
   obtain⟨f,hxl⟩:X.N[i-BM]? =So x/\x∉ls:=by
    unfold hidN at f
    rw[xB]at f
    cases q:X.N[i-BM]? with
    |none=>rw[q]at f;cases f
    |some n=>
     rw[q]at f
     simp only[Option.map_some,ZU]at f
     by_cases hc:ls.contains n=To
     ·rw[if_pos hc]at f
      have hno:=h.no n (by rw[<-C.hN];exact qM q) hc
      rw[f]at hno
      have M:'Ǵ'.names.lookup x=So .local\/(relabel sc Ue).names.lookup x=So .cell\/(relabel sc Ue).names.lookup x=So .free:=hv
      exfalso
      rcases M with z|z|z<;>rcases mL z with q|⟨_,q⟩<;>(rw[hno]at q;cases q)
     ·rw[if_neg hc]at f
      subst f
      exact⟨rfl,by simpa using hc⟩
   have hxN:x∈N:=by rw[<-C.hN];exact qM f
   have j:sc.names.lookup x=So .free:=by
    have M:'Ǵ'.names.lookup x=So .local\/(relabel sc Ue).names.lookup x=So .cell\/(relabel sc Ue).names.lookup x=So .free:=hv
    rcases M with z|z|z
    ·rcases mL z with q|⟨q,_⟩
     ·have w:=((h.at Qaf).2.2 rfl).2
      rcases w with w|w
      ·exact absurd w hxl
      ·exact absurd hxN w
     ·cases q
    ·rcases mL z with q|⟨_,q⟩
     ·exact absurd ((h.at Qaf).1 rfl).2 hxl
     ·exact q
    ·rcases mL z with q|⟨q,_⟩
     ·exact q
     ·cases q
   have hm:=mem_of_lookup j
   have hk:=C.cel x ((h.at hm).2.1 rfl)
   have hvX:Vis EW x:=by
    rcases hk with z|z
    ·exact .inr YY
    ·exact .inr bA
   obtain⟨m0,_,hl⟩:=Yi
   obtain⟨u,r,l⟩:=hl (i-BM) x v f B hvX
   refine⟨u,r,.inr GP⟩
   ·show(relabel sc Ue).names.lookup x=So .cell\/(relabel sc Ue).names.lookup x=So .free
    rcases Jq (O:=Ue) j with z|⟨_,z⟩
    ·exact .inr z
    ·exact .inl z
   ·rcases l with⟨z,_⟩|⟨_,c,e,z⟩
    ·rcases hk with w|w<;>(rw[w]at z;cases z)
    ·obtain⟨c',U⟩:=pU (cs:=X.env.cells) XQ [] x hm ⟨c,e⟩
     have e2:=sub x c' U
     rw[e]at e2
     cases e2
     obtain⟨o,h1,h2⟩:=z
     exact⟨c,(JiB _ _ _ _ (h.fcell j)).trans U,o,keep _ _ h1,h2⟩
 ·rcases L x c e with q|⟨_,q⟩
  ·obtain⟨v,o,h1,h2⟩:=I.cell x c q
   exact⟨v,o,keep _ _ h1,h2⟩
  ·exact⟨No,q⟩
 ·exact I.hok.fresh (mC _)
 ·rcases L x c e with q|⟨q,_⟩
  ·exact I.freeC x c q
  ·exact I.hok.fresh Af
 ·have e:p=(Aa,uE [] 0):=by simpa[iO]using hp
  subst e
  exact⟨hacc,I.hok.fresh (Zh _),Zu YS,λF=>oQ _ (stk _ F),λv z=>(by cases z)⟩
 ·show(List.replicate BM No++Z).length=(ls++hidN ls X.N).length
  rw[Zn,Zn,tJ,I.len]
  unfold hidN
  rw[Zi]
end
open PySem.SeqAt (EqAt RcAt RcNeAt)
theorem JjF:∀{as bs:Ak},eqvs as bs=To->as.length=Qdx
 |[],[],_=>rfl
 |[],_::_,h=>nomatch h
 |_::_,[],h=>nomatch h
 |a::as,b::bs,h=>by
  simp[JjF (qV.mp h).2]
theorem JcH:∀e bs:List D,e.length=bs.length->eqvs e bs=(List.range e.length).all λj=>(e.getD j .non).eqv (bs.getD j .non)
 |[],[],_=>rfl
 |a::e,b::bs,h=>by
  have f:=JcH e bs (by simpa using h)
  rw[Zk,yV,fF,sL]
  rw[JvN,f]
  rfl
def JoQ{as bs:Ak}(h:as.length≠bs.length):eqvs as bs=Fo:=by
 cases e:eqvs as bs with
 |false=>rfl
 |true=>exact absurd (JjF e) h
theorem sS:∀{J:Ak}{n j:Nat},deps J<=n->'Ǣ'.dep<=n
 |[],n,j,_=>by simp[D.dep]
 |d::J,n,0,h=>by simp only[deps]at h;simp;lia
 |d::J,n,j+1,h=>by
  simp only[deps]at h
  have:=sS (J:=J) (n:=n) (j:=j) Af
  simpa using this
section
variable{X:Cx}{Y:A8}{Z:Bl}{H:Hp}{s:Al}
def JgM(I:BU){ys:Av}(h1:Io)(i:SqT X.K H a ys):False:=by obtain⟨its,_,l,_⟩:=I.list h1;obtain⟨b,_,j,_⟩:=I.tuple i;obtain⟨o,e,c,_⟩:=l.isList;obtain⟨m,g,f,_⟩:=j;rw[e]at g;cases g;rw[c]at f;injection f with h;exact absurd h AB
inductive KD(X:Cx)(H:Hp):D->V->Prop
 |non:KD X H .non .non
 |bl (b:Bool):KD X H (.bl b) (.bl b)
 |int (i:Int):KD X H (.int i) (.int i)
 |str (x:Str):KD X H (.str x) (.str x)
 |tup {ds:List D} {a:Addr} {xs:List V} (h:SqT X.K H a xs) (r:Reps X.K H ds xs):KD X H (.tup ds) (.ref a)
 |lst {ds:List D} {a:Addr} {xs:List V} (h:SqL X.K H a xs) (r:Reps X.K H ds xs):KD X H (.lst ds) (.ref a)
def kd(p:d.dep<1000)(r:HQ):KD X H d v:=by
 cases d with
 |non=>cases r;exact .non
 |bl b=>cases r;exact .bl b
 |int i=>cases r;exact .int i
 |str x=>cases r;exact .str x
 |tup J=>obtain⟨a,xs,rfl,f,e⟩:=r;exact .tup f e
 |lst J=>obtain⟨a,xs,rfl,f,e⟩:=r;exact .lst f e
 |_=>simp[D.dep]at p
theorem JfE{n:Nat}(b:∀{d d':D}{v:V},bO<=n->d'.dep<1000->Rep X.K H d v->Rep X.K H d' v->d=d'):∀{J es:Ak}{xs:Av},deps J<=n->deps es<1000->Reps X.K H J xs->Reps X.K H es xs->J=es
 |[],es,xs,_,_,h,h'=>by
  cases h
  cases es with
  |nil=>rfl
  |cons _ _=>obtain⟨_,_,e,_⟩:=h';cases e
 |d::J,[],_,_,_,⟨_,_,e,_⟩,h'=>by cases e;cases h'
 |d::J,c::es,_,p,p',⟨x,r,e,h1,h2⟩,⟨x',r',e1,h3,h4⟩=>by
  cases e;cases e1
  simp only[deps]at p p'
  rw[b 'g' 'g' h1 h3,JfE b 'g' 'g' h2 h4]
def Rep.inj(I:BU)(n:Nat):n<1000->∀{d d':D}{v:V},bO<=n->d'.dep<1000->Rep X.K H d v->Rep X.K H d' v->d=d':=by
 induction n using Nat.strongRecOn with
 |_ n j=>
  intro m d d' v p f r i;have k:=kd Af r;have l:=kd f i;clear r i;rcases k with _|_|_|_|⟨e,g⟩|⟨e,g⟩<;>rcases l with _|_|_|_|⟨b,h⟩|⟨b,h⟩<;>first|rfl|skip
  ·cases I.tuple_inj e b;simp only[D.dep]at p f;rw[JfE (n:=n-1) (λq=>j (n-1) Af Af q) 'g' 'g' g h]
  ·exact(JgM I b e).elim
  ·exact(JgM I e b).elim
  ·cases I.list_inj e b;simp only[D.dep]at p f;rw[JfE (n:=n-1) (λq=>j (n-1) Af Af q) 'g' 'g' g h]
def JjZ(I:BU)(b:FY)(f:GS){j:Nat}(h:j<CL):∃v,Rep X.K H 'Ǣ' v/\RelV v AF[j]:=by
 have r:j<B1:=by simpa using h
 have y:=Yp;have w:=YK;have m:J[j]? =So 'Ǣ':=by rw[lM,ZC 'g'];rfl
 obtain⟨v,i,l⟩:=b.get m;obtain⟨u,g,q⟩:=f.get i;refine⟨v,l,?_⟩;have:AF[j]=u:=by have e:its[j]? =So u:=g;rw[ZC r]at e;simpa using e
 rw[this];exact q
inductive KU(X:Cx)(H:Hp)(s:Al):D->Value->Prop
 |non:KU X H s .non .none
 |bl (b:Bool):KU X H s (.bl b) (.bool b)
 |int (i:Int) (t:Tok):KU X H s (.int i) (.int i t)
 |str (x:Str) (t:Tok):KU X H s (.str x) (.str x t)
 |tup {ds:List D} {a:Addr} {xs:List V} {its:List Value} (r:Reps X.K H ds xs) (v:Vals xs its) (p:IsTup s.heap a 'Ɔ'):KU X H s (.tup ds) (.ref a)
 |lst {ds:List D} {a:Addr} {xs:List V} {its:List Value} (r:Reps X.K H ds xs) (v:Vals xs its) (p:s.heap.IsList a 'Ɔ'):KU X H s (.lst ds) (.ref a)
def ku(I:BU){u:An}(p:d.dep<1000)(r:HQ)(q:Fs):KU X H s d u:=by
 cases kd p r with
 |non=>cases q;exact .non
 |bl b=>cases q;exact .bl b
 |int i=>obtain⟨t,rfl⟩:=q;exact .int i t
 |str x=>obtain⟨t,rfl⟩:=q;exact .str x t
 |tup e f=>cases q;obtain⟨its,h,g,_⟩:=I.tuple e;exact .tup f h g
 |lst e f=>cases q;obtain⟨its,h,g,_⟩:=I.list e;exact .lst f h g.isList
def EqAt.rc{u b:An}{k:Bool}(q:KU X H s d u)(h:RcAt A s u b k)(g:u=b->k=To):EqAt A s u b k:=λprog w E Q f=>by
 unfold eqBool
 refine wA (gI (λe=>?_) λ_=>?_)
 ·rw[g (zE e)]at f
  exact Za (kB (Zb f))
 ·cases q<;>exact Za (h prog w E _ (jD f))
theorem fX(I:BU)(n:Nat):∀(A:Bv)(d d':D){v v':V}{u B:An},bO<=n->n<=900->d'.dep<1000->Rep X.K H d v->Rep X.K H d' v'->RelV v u->RelV v' B->Yy+n+1<cLine->
  RcAt A s u B (d.eqv d')/\RcNeAt A s u B (!d.eqv d')/\EqAt A s u B (d.eqv d'):=by
 induction n using Nat.strongRecOn with
 |_ n ih=>
  intro A d d' v v' u B p hn C r U q O hu;have k:=ku I Af r q;have k':=ku I C U O;suffices z:RcAt A s u B (d.eqv d')/\RcNeAt A s u B (!d.eqv d')from⟨z.1,z.2,EqAt.rc k z.1 λe=>by subst e;cases q.inj O;rw[<-Rep.inj I n 'g' p C r U];exact wR d Af⟩
  have b:A.units<cLine:=by lia
  have M:∀{J i:Ak}{xs ys:Av}{its its2:AE},(D.tup J).dep<=n->(D.tup i).dep<1000->Reps X.K H J xs->Reps X.K H i ys->Vals xs its->Vals ys its2->∀j(g1:j<CL)(g2:j<EY),EqAt XI s AF[j] its2.toArray[j] ('Ǣ'.eqv QbB):=λz1 z2 w y m h j g1 g2=>by obtain⟨w1,k1,k2⟩:=JjZ I w m g1;obtain⟨w2,k3,k4⟩:=JjZ I y h g2;simp only[D.dep]at z1 z2;exact(ih (n-1) Af XI _ _ (sS Af) Af (xH (sS (Zh _)) Af) k1 k3 k2 k4 (by show A.units+1+(n-1)+1<cLine;lia)).2.2
  clear ih r U q O;rcases k with _|_|_|_|@⟨J,_,_,its,w,m,f⟩|@⟨J,_,_,its,w,m,f⟩<;>rcases k' with _|_|_|_|@⟨i,_,_,its2,y,h,g⟩|@⟨i,_,_,its2,y,h,g⟩
  ·exact⟨.none_none,.none_none⟩
  ·exact⟨.none_bool _,.none_bool _⟩
  ·exact⟨.none_int _ _,.none_int _ _⟩
  ·exact⟨.none_str _ _,.none_str _ _⟩
  ·exact⟨.none_tuple g b,.none_tuple g b⟩
  ·exact⟨.none_list g b,.none_list g b⟩
  ·exact⟨.bool_none _,.bool_none _⟩
  ·exact⟨.bool_bool _ _,.bool_bool _ _⟩
  ·exact⟨.bool_int _ _ _,.bool_int _ _ _⟩
  ·exact⟨.bool_str _ _ _,.bool_str _ _ _⟩
  ·exact⟨.bool_tuple _ g b,.bool_tuple _ g b⟩
  ·exact⟨.bool_list _ g b,.bool_list _ g b⟩
  ·exact⟨.int_none _ _,.int_none _ _⟩
  ·exact⟨.int_bool _ _ _,.int_bool _ _ _⟩
  ·exact⟨.int_int _ _ _ _,.int_int _ _ _ _⟩
  ·exact⟨.int_str _ _ _ _,.int_str _ _ _ _⟩
  ·exact⟨.int_tuple _ _ g b,.int_tuple _ _ g b⟩
  ·exact⟨.int_list _ _ g b,.int_list _ _ g b⟩
  ·exact⟨.str_none _ _,.str_none _ _⟩
  ·exact⟨.str_bool _ _ _,.str_bool _ _ _⟩
  ·exact⟨.str_int _ _ _ _,.str_int _ _ _ _⟩
  ·exact⟨.str_str _ _ _ _,.str_str _ _ _ _⟩
  ·exact⟨.str_tuple _ _ g b,.str_tuple _ _ g b⟩
  ·exact⟨.str_list _ _ g b,.str_list _ _ g b⟩
  ·exact⟨.tuple_none f b,.tuple_none f b⟩
  ·exact⟨.tuple_bool _ f b,.tuple_bool _ f b⟩
  ·exact⟨.tuple_int _ _ f b,.tuple_int _ _ f b⟩
  ·exact⟨.tuple_str _ _ f b,.tuple_str _ _ f b⟩
  ·have F:CL=Ae:=by rw[Zo,<-m.length,w.length]
   have L:EY=i.length:=by rw[Zo,<-h.length,y.length]
   have ev:((List.range (min CL EY)).all (λj=>'Ǣ'.eqv QbB)&&its.toArray.size==EY)=eqvs J i:=by
    rw[F,L];by_cases l:Ae=YJ
    ·rw[JcH J i l,<-l,Nat.min_self];simp
    ·rw[JoQ l];simp[l]
   show RcAt A s _ _ (eqvs J i)/\RcNeAt A s _ _ (!eqvs J i);rw[<-ev];exact⟨.tuples f g b MJ,.tuples f g b MJ⟩
  ·exact⟨.tuple_list f g b,.tuple_list f g b⟩
  ·exact⟨.list_none f b,.list_none f b⟩
  ·exact⟨.list_bool _ f b,.list_bool _ f b⟩
  ·exact⟨.list_int _ _ f b,.list_int _ _ f b⟩
  ·exact⟨.list_str _ _ f b,.list_str _ _ f b⟩
  ·exact⟨.list_tuple f g b,.list_tuple f g b⟩
  ·have F:CL=Ae:=by rw[Zo,<-m.length,w.length]
   have L:EY=i.length:=by rw[Zo,<-h.length,y.length]
   show RcAt A s _ _ (eqvs J i)/\RcNeAt A s _ _ (!eqvs J i);by_cases l:Ae=YJ
   ·rw[JcH J i l,<-F];exact⟨.lists f g (by rw[F,L,l]) b MJ,.lists f g (by rw[F,L,l]) b MJ⟩
   ·rw[JoQ l];have hb:('Ɖ' !=EY)=To:=by rw[F,L];simpa using l
    exact⟨.lists_lengths f g hb b,.lists_lengths f g hb b⟩
end
section
variable{U:Ag}{c:Expr}{p:Px}
def PIf(X:Cx)(ifs:CF)(t:TT):Prop:=∀(Y:A8)(s:Al)(Z:Bl)(H:Hp)(Q:Fu),L2.Inv X Y Z H s->t Z H Q->
 wpAny AD X.A (forIn ifs To λc r=>if r=To then do let ok<-isTrue c Ue (eval c Ue);pure (ForInStep.yield ok)else pure SL) L8 X.xe s
def yR:PIf X [] (tT X U BV):=λY s Z H Q I⟨O,r,b,e,q⟩=>by
 cases e
 exact wpAny_tests_nil ⟨H,I,q H D6⟩
def wY(h:PT X c cU):PIf X [c] cU:=λY s Z H Q I w=>wpAny_tests_one (h Y s Z H Q I w)
def JoS:∀{l:List α},XN=2->∃a b,l=[a,b]
 |[a,b],_=>⟨a,b,rfl⟩
def TgOk(X:Cx)(tg:Expr)(nt m:Nat):Prop:=∀(Y:A8)(s:Al)(f g:Bl)(H:Hp)(d:D)(v:V)(u:An)(b:Fm)(Q:L2.St->Hp->Prop),Yp=m->L2.Inv X Y (f++g) H s->RelV v u->Rep X.K H d v->iA nt d=.ok b->
 (∀e:L2.St,e.length=m->YK=m->(∀(i:Nat)(h:D),b[i]? =So (So h)->∃w,e[i]? =So (So w)/\Rep X.K H h w)->Q (e++g) H)->
 wpAny AD X.A (assign tg Ue u) Pm X.xe s
def JxX(hN:X.N[0]? =So x)(nd:Gv)(g:GJ)(f:Ui):TgOk X Cm 0 1:=by
 intro Y s l m H d v u q Q j I r w b h;refine iL (pos:=pos) nd hN g f Y s (l++m) H v u Q I r ?_;obtain⟨z,rfl⟩:=List.length_eq_one_iff.mp j;simp only[iA,if_true]at b;cases b;refine h [So v] rfl rfl λi y e=>?_;cases i with
 |zero=>simp at e;subst e;exact⟨v,rfl,w⟩
 |succ i=>simp at e
def JvH{y:Str}{k:Nat}{l m:Pos}(hN:X.N[0]? =So x)(j:X.N[1]? =So y)(nd:Gv)(w:GJ)(q:Ui)
  (B:Loc EW y) (O:X.fn y=To\/X.env.scope.names.lookup y=So .local) (hc:Cj):TgOk X (.Tuple [.Name x l,.Name y m] k pos) 2 2:=by
 intro Y s L M H d v u new Q F I r rd b h;refine Jsu (pos:=pos) hc (mU (iL (pos:=l) nd hN w q) (mU (iL (pos:=m) nd j B O) JmH)) rfl rfl Y s (L++M) H v u Q I r ?_;unfold iA at b;rw[if_neg 'y']at b;cases d with
 |tup J=>
  dsimp only at b;rw[if_neg 'y']at b;split at b
  ·rename_i C;cases b;obtain⟨a,xs,rfl,hq,hr⟩:=rd;obtain⟨d0,d1,rfl⟩:=JoS C;obtain⟨g,r0,e0,h0,f,r1,e1,h1,z⟩:=hr;subst e1;subst z;subst e0;refine⟨a,[g,f],rfl,hq,rfl,g,[f],rfl,f,[],rfl,rfl,?_⟩;obtain⟨l0,l1,rfl⟩:=JoS F;refine h [So g,So f] rfl rfl λi d' e=>?_;rcases i with _|_|i
   ·simp at e;subst e;exact⟨g,rfl,h0⟩
   ·simp at e;subst e;exact⟨f,rfl,h1⟩
   ·simp at e
  ·cases b
 |_=>cases b
end
def Jer{J:List α}{i:Nat}{d:α}(h:J[i]? =So d):J.drop i=d::J.drop Bw:=by obtain⟨b,e⟩:=Zz.mp h;rw[List.drop_eq_getElem_cons b,e]
def ReadOk.front{K:Aj}{lo hi:Bl}{new O:Fm}(h:lo.length=new.length)(j:∀(i:Nat)(d':D),new[i]? =So (So d')->∃w,lo[i]? =So (So w)/\Rep K H d' w)(r:ReadOk K H hi O):ReadOk K H (lo++hi) (new++O):=by
 intro i d e;by_cases g:i<new.length
 ·rw[oG g]at e;obtain⟨w,f,b⟩:=j i d e;exact⟨w,by rw[oG 'g'];exact f,b⟩
 ·rw[pG 'g']at e;obtain⟨w,f,b⟩:=r _ d e;exact⟨w,by rw[pG 'g',h];exact f,b⟩
section
variable{ls:Ac}{sc:Bf}{U:Ag}
def Jdf{M:Model}{e:Addr}{f:B6}{j:Str}{h:Du}{i:An}{g:Env}{b:Addr}{Q:Env->Shared->Prop}
  (m:Q (newEnv scope Aa e (cellsFrom DU Yb f) j h i (So g) b) {s with heap:=pushCells (s.heap.push {cls:=.type "dict",data:=.dict #[]}) Yb}):
  wpAny M A (newFunctionEnv scope e f [] j h i (So g) b) Q E s:=by simp only[newFunctionEnv,fP,if_true];refine Za (wpAny_alloc ?_);refine Za (wpAny_layCells _ (λname kind cells=>by cases l:kind==XX<;>simp[l]) _ _ _ _ ?_);rw[show({s with heap:=s.heap.push {cls:=.type "dict",data:=.dict #[]}}:Shared).heap.objs.size='Ɓ'+1 from ZL ..];rw[wO];exact Za (Zb (Zb m))
def JiR(X:Cx)(Cd:Addr)(x:An)(e:Al):Prop:=∃m,e.heap.Ns Cd m/\∀f,Heap.SameBut Cd e.heap f->∀b:Env,b.locals=Cd->wpAny AD X.A (PySem.passOn "comprehension.variables-let-go" x b:Sem Value) (λ_ _=>False) X.xe {e with heap:=f}
def JtH{e:An}{O env':Env}(h:O.frame=env'.frame):noteFrame e O=noteFrame e env':=by unfold noteFrame PySem.frameOf;rw[h]
structure Sib(X X':Cx):Prop where
 code:X'.env.code=X.env.code
 qual:X'.env.qual=Qbm
 base:X'.base=X7
 mg:X'.mg=X.mg
 tb:∀P ps,X.H₀ P=So (.tbl ps)->∃more,X'.H₀ P=So (.tbl (ps++more))
def Jtb{H2:Hp}{s2 s':Al}{E':Ay}{Cc:Addr}{ce:Env}(C:Am)(I2:L2.Inv X Y Z H2 s2)(f2:∀b∈fp,FpOk X Y H2 b)(hCd:AR<=Cd)
  (F:FlyIn 'ɔ' Cc a W s') (hx:∀s5,FlyIn X Cc a W s5->X.xe Ar s5) (hce:ce.frame=X.env.frame):notedBy AD X.A ce (JiR X Cd) Ar s':=by
 obtain⟨e0,f,L,i,hf0,hfx⟩:=C.fr;obtain⟨ps,σ',I',hxx⟩:=F.inv;have hfr:X.A.frames=So (e0::f):=by rw[<-i];exact I2.ok.frames
 show wpAny _ X.A (noteFrame Ar ce) _ _ s';rw[JtH (env':=e0) (hce.trans (hfx.trans hf0.symm))];have hstk:∀b,b∉X.fs->b≠A5->b∉frs XB:=λb h1 h2 hm=>by
  rcases Zf.mp (I2.stkSub b hm)with e|e
  ·exact h2 e
  ·exact h1 e
 have rest:∀(B:Heap)(a0:An)(h1 h4:Heap),L2.Inv 'ɔ' ps σ' W {s' with heap:=h1}->B.StaysIn h1->(∀b u,W b=So u->∃o,B.get? b=So o)->
   (∀b o,s2.heap.get? b=So o->b∉frs X.stack->b∉fp->(H2 b=No->B.get? b=So o)/\∃o',B.get? b=So o')->Heap.HeldW B (e0::f) a (.ref Cc) a0 L h4->h1.UpToSlots h4->JiR X Cd Ar {s' with heap:=h4}:=by
  intro B a0 h1 h4 I1 k1 tr kp g up;obtain⟨m,hn,_⟩:=I1.loc;have hn4:h4.Ns Cd m:=up.ns hn;refine⟨m,hn4,λM hsb cenv _=>?_⟩;obtain⟨g1,g2,g3,oe,vs,T,oT,ts,he,hcls,hd,hv1,hnT,hTe,hT,I,h3⟩:=g;obtain⟨oC,esC,epC,hoC,hdC,_⟩:=hn4;have hfC:W Cd=No:=I1.free;have neC:∀b o vs,h4.get? b=So o->YC=.fields vs->b≠Cd:=λb o vs hb hd' q=>by
   rw[q,hoC]at hb;cases hb;rw[hdC]at hd';cases hd'
  have he5:=(hsb.2 a (neC a oe vs he hd)).trans he;have hT5:=(hsb.2 T (neC T oT ts hT I)).trans hT;have hsz3:3<ts.size:=(tV.mp h3).1;unfold PySem.passOn;refine Za (ZS he5 hd hv1 ?_);rw[if_neg (show¬((Value.ref T==Value.none)=To)from by simp)];have go:∀(v:An),X.xe Ar {s' with heap:=M.update T (Obj.mapFields (·.setIfInBounds 3 v))}:=λv=>by
   refine hx _ ?_;have hT6:(M.update T (Obj.mapFields (·.setIfInBounds 3 v))).get? T=So (Obj.mapFields (·.setIfInBounds 3 v) oT):=ZX _ hT5 (wV (yJ I _));have oth:∀b,b≠T->(M.update T (Obj.mapFields (·.setIfInBounds 3 v))).get? b=M.get? b:=λb hb=>ZO _ _ E2;have B5:∀b o,b≠Cd->B.get? b=So o->(M.update T (Obj.mapFields (·.setIfInBounds 3 v))).get? b=So o:=λb o hb hB=>(oth b λq=>by rw[q,hnT]at hB;cases hB).trans ((hsb.2 b hb).trans (g1 b o hB));have hB':∀{b o},b≠Cd->B.get? b=So o->'Ő'.get? b=So o:=λhb hB=>oM _ hB (by simpa using hb);have w:∀{b o},'Ő'.get? b=So o->b≠Cd/\B.get? b=So o:=fun{b o}q=>⟨λz=>(by
    rw[PySem.W.hideAll_none [Cd] (by simp[z])]at q;cases q),PySem.W.of_hideAll _ q⟩
   have noB':∀{b},B.get? b=No->'Ő'.get? b=No:=fun{b}q=>by
    cases z:'Ő'.get? b with
    |none=>rfl
    |some o=>rw[(w z).2]at q;cases q
   have j:∀b o,s2.heap.get? b=So o->b≠Cd:=λb o q=>Zu (ZB (Zj q) hCd);have frm:∀b o,h1.get? b=So o->(∀vs,o.data≠.fields vs)->b≠Cd->∃sl,(M.update T (Obj.mapFields (·.setIfInBounds 3 v))).get? b=So {o with slots:=sl}:=λb o hb hnf hne=>by
    obtain⟨sl,e4⟩:=up b o hb hnf;exact⟨sl,(oth b λq=>by
     rw[q,hT]at e4;injection e4 with e4;exact hnf ts (by have:=kA Obj.data e4;rw[I]at this;exact this.symm)).trans ((hsb.2 b hne).trans e4)⟩
   have U1:Un G5 fp H2 W aT h1:=I1.base;have fo:∀b∈frs XB,∃o,s2.heap.get? b=So o/\∀vs,o.data≠.fields vs:=λb hb=>(I2.stack.mem hb).2;have nfp:∀b∈frs XB,b∉fp:=λb hb hm=>by obtain⟨_,q1,q2,_⟩:=f2 b hm;exact hstk b q2 q1 hb
   have slt:∀b o,s2.heap.get? b=So o->H2 b=No->b∈frs X.stack->∃sl,(M.update T (Obj.mapFields (·.setIfInBounds 3 v))).get? b=So {o with slots:=sl}:=λb o hb h0 hf=>by obtain⟨sl,e1⟩:=U1.slot b o hb h0 hf (nfp b hf);obtain⟨o',ho',hnf⟩:=fo b hf;rw[hb]at ho';cases ho';obtain⟨sl2,e2⟩:=frm b _ e1 hnf cV;exact⟨sl2,e2⟩
   have un:Un G5 fp H2 W aT (M.update T (Obj.mapFields (·.setIfInBounds 3 v))):=by
    refine⟨λb o hb h0 hf hp=>B5 b o cV ((kp b o hb hf hp).1 h0),λb o hb h0 hf hp=>slt b o hb h0 hf,U1.free,λb o hb hp=>?_,U1.tups,U1.frzs,U1.tbls⟩;by_cases hf:b∈frs XB
    ·obtain⟨sl,e⟩:=slt b o hb (I2.stkFree b hf) hf;exact⟨_,e⟩
    ·obtain⟨o',e⟩:=(kp b o hb hf hp).2;exact⟨o',B5 b o' cV e⟩
   have trB:∀b u,W b=So u->∃o,'Ő'.get? b=So o:=λb u e=>by obtain⟨o,q⟩:=tr b u e;exact⟨o,hB' (λz=>by rw[z,hfC]at e;cases e) q⟩
   have st6:'Ő'.StaysIn (M.update T (Obj.mapFields (·.setIfInBounds 3 v))):=λb o q=>B5 b o (w q).1 (w q).2;have ff:(M.update T (Obj.mapFields (·.setIfInBounds 3 v))).FunFrames 'Ő' XB:=by
    have base:∀l:List Env,(∀b∈frs l,b∈frs XB)->h4.FunFrames B l->(M.update T (Obj.mapFields (·.setIfInBounds 3 v))).FunFrames 'Ő' l:=by
     intro l;induction l with
     |nil=>intro _ _;trivial
     |cons en r ih=>intro hs hl;obtain⟨hk,⟨L1,o1,hf1,hn1,ho1,hd1⟩,hr⟩:=hl;have hL1:L1∈frs XB:=hs L1 (by unfold frs;rw[yH,hf1];exact fC);obtain⟨o2,y,_⟩:=fo L1 hL1;refine⟨hk,⟨L1,o1,hf1,noB' hn1,?_,hd1⟩,ih (λb hb=>hs b (by unfold frs;rw[yH,hf1];exact Zm _ hb)) hr⟩;exact(oth L1 λq=>by rw[q,hT]at ho1;cases ho1;exact hd1 ts I).trans ((hsb.2 L1 (j L1 o2 y)).trans ho1)
    rw[i];exact base (e0::f) (λb hb=>by rw[i];exact hb) g3
   refine⟨⟨Y,Z,I2.call' (ch:=fp) I1.os un (HOk.onB I1.hok trB (λb o q=>k1 b o (w q).2) st6) I1.bare (λb hb=>?_),.inr ⟨PySem.W.hideAll B [Cd],a0,v,⟨st6,noB' g2,ff,oe,vs,T,_,_,(oth a (Ne.symm hTe)).trans he5,hcls,hd,hv1,noB' hnT,hTe,hT6,yJ I _,by simp[hsz3]⟩,trB,λb o hb hn hnx=>?_,λp hp=>?_⟩⟩⟩
   ·obtain⟨_,f1',f2',f3',f4',f5'⟩:=f2 b hb;exact Oh
   ·have nfs:b∉X.fs:=λz=>hn (by
     rcases I2.ok.stk with e|⟨e,_⟩
     ·rw[e];exact z
     ·rw[e];obtain⟨e',he',hf'⟩:=mD.mp z;exact mD.mpr ⟨e',.tail _ he',hf'⟩)
    have np:b∉fp:=λz=>by
     rcases(f2 b z).2.2.2.1 with q|q
     ·exact hnx q
     ·exact absurd (ZB (Zj hb) q) CH
    obtain⟨o2,y⟩:=I2.base.there b o hb hnx;have q:=kp b o2 y hn np;refine Qeh
    ·have e2:=I2.base.keep b o hb h0 nfs hnx
     rw[y]at e2;cases e2;exact hB' (j b _ y) (q.1 (I2.base.free b _ hb h0 hnx))
    ·obtain⟨o',e⟩:=q.2
     exact⟨o',hB' (j b _ y) e⟩
   ·obtain⟨q1,q2,q3,q4,_⟩:=I2.pin p (rJ _ hp);exact hB' (j _ _ q1) ((kp p.1 p.2 q1 (hstk p.1 q4 q3) λz=>(f2 _ z).2.2.2.2.2 p (rJ _ hp) rfl).1 q2)
  have fly:wpAny AD X.A (do setFlight Ar cenv.frame;throw Ar:Sem Value) (λ_ _=>False) X.xe {s' with heap:=M}:=by
   refine Za ?_;unfold setFlight;refine Za (ZS he5 hd hv1 ?_);rw[if_pos 'j'];exact sC hT5 I hsz3 (wpAny_throw (go _))
  first
   |exact Za (Zb fly)
   |exact fly
 rcases hxx with⟨h,vs,hm,Ih⟩|⟨B,a0,flv,fl,tr,kp,_⟩
 ·have hk:(PySem.W.hideAll h (frs (e0::f))).StaysIn h:=λb o q=>PySem.W.of_hideAll _ q;have hin:∀O∈(e0::f),∀b,O.frame=So b->b∈frs (e0::f):=λO he b hb=>mD.mpr ⟨O,he,hb⟩;have hs0:'ɔ'.stack=e0::f:=i;have hstk2:h.FunFrames X7 (e0::f):=by rw[<-hs0];exact Ih.stack
  refine JiM hfr hf0 hk (PySem.W.funFrames_hide hstk2 hin) hm λh' a0 g up=>?_;refine rest _ a0 h h' Ih hk (λb u e=>?_) (λb o hb hn hp=>?_) g ((Heap.UpToSlots.of_keeps hm.keeps).trans up)
  ·obtain⟨o,ho⟩:=HOk.has Ih.hok e;exact⟨o,oM _ ho λz=>by rw[Ih.stkFree b (by rw[hs0];exact z)]at e;cases e⟩
  ·rw[i]at hn;refine⟨λh0=>oM _ (Ih.base.keep b o hb h0 (by show b∉frs XB;rw[i];exact hn) hp) hn,?_⟩;obtain⟨o',e⟩:=Ih.base.there b o hb hp;exact⟨o',oM _ e hn⟩
 ·have fl':Jpu B (e0::f) a (.ref Cc) a0 flv X5:=by rw[<-i];exact fl
  exact JhS hfr hf0 fl' λh' g up=>rest B a0 X5 h' I' fl.1 tr kp g up
inductive CI(X:Cx)(call:Ag)(X':Cx)(ac:Addr)(tn:Fv)(fp:A9)(H H2:Hp)(n:Nat)(σ:Bl)(nt:Nat)(pc pe:Px)(env:Fm)(ds:Ak)(Gd:List D->Prop):Nat->Shared->Prop
 |mk (i:Nat) (lo:L2.St) (H':Hp) (its:List Value) (k:Nat) (ys:List V) (done:List D) (s':Shared):L2.Inv X' [(ac,uE its k)] (lo++σ) H' s'->lo.length=n->tn i s'.heap->(∀b∈fp,H' b=No)->Same H2 H'->Vals ys its->Reps X.K H' done ys->done.length<=i->i<='ƃ'->(JY nt (evD call pc) (evD call pe) env (ds.drop i)).Good (λrest=>Gd (done++rest)) Az->
  CI X call X' ac tn fp H H2 n σ nt pc pe env ds Gd (Ae-i) s'
theorem JhL{O:Fm}{Gd:List D->Prop}{RR0:Value->Addr->Result->Shared->Prop}(C:Am)(h:EU)(hsrc:GC)
  (htg:∀g,Ctx g G De sc.names->TgOk g tg nt BM) (hif:∀g,Ctx g G De sc.names->PIf g ifs (tT g U pc)) (helt:∀g,Ctx g G De sc.names->Sib X g->PE g elt (tI g U pe))
  (I:BU) (r:Ri) (hw:tW X U ps Z H λJ9 W=>∃J,Walk X.K J9 W J/\Same H W/\J.length<=lD/\(JY nt Kw Kv O J).Good Gd Az)
  (hok:∀(M:Addr)(ys:Av)(Hf:Hp)(Cd:Addr)(m:Bk)(s4:Al)(dn:Ak),L2.Inv X Y Z Hf s4->s4.heap.Ns Cd m->FpOk X Y Hf Cd->Hf M=So (.lst ys)->H M=No->Same H Hf->Reps X.K Hf dn ys->Gd dn->RR0 (.ref M) Cd (.ok .next) s4) (hRR:∀M Cd x s',JiR X Cd x s'->RR0 M Cd (.error x) s'):
  wpAny AD X.A Qce (λx s₁=>wpAny AD X.A (pyIter x) (λit s₂=>wpAny AD X.A (newList []) (λM s₃=>
   wpAny AD X.A (newFunctionEnv sc X.env.globals 'Œ' [] Qbm No .none (So Ue)) (λcenv s₄=>
    codeAny AD X.A (.compStart Gf 0 it M {cenv with scope:=relabel sc Ue}) (RR0 M cenv.locals) s₄) X.xe s₃) X.xe s₂) X.xe s₁) X.xe s:=by
 refine thn (hsrc Y s Z H _ I hw) λv s1 h1=>thn h1 λitv s2 h2=>?_;obtain⟨it,fp,tn,J9,H2,rfl,I2,T,st2,f2,J,hW,s02,hz,hG2⟩:=h2;refine ZJ (Jdf ?_);dsimp only;generalize hH2:s2.heap.push {cls:=.type "list",dict:=No,data:=.seq ([]:List Value).toArray}=Hh;obtain⟨j,l⟩:∃j,j=pushCells (Hh.push {cls:=.type "dict",data:=.dict #[]}) XQ:=AS;rw[<-l];have hns₁:j.Ns XT Qdd:=l▸(Heap.Ns.new Hh KO).keeps (zO _ _);have hC:Hh.objs.size=AR+1:=by rw[<-hH2,ZL]
 have hlt:∀b o,s2.heap.get? b=So o->b<AR:=λb o e=>Zj e;have old:∀b o,s2.heap.get? b=So o->j.get? b=So o:=λb o e=>by rw[l];exact zO _ _ _ _ (Zd _ (hH2▸Zd _ e))
 have hacc:j.get? AR=So (uE [] 0):=by rw[l];exact zO _ _ _ _ (Zd _ (hH2▸Ze _ rfl))
 have fpl:∀b∈fp,b<AR:=λb hb=>by obtain⟨o,e,_⟩:=T.obj _ _ st2 b hb;exact hlt b o e
 let RR:Result->Shared->Prop:=RR0 (.ref AR) XT;let ce:Env:=compEnvC sc (cellsFrom (XT+1) XQ 'Œ') XT Ue;let E':Value->Shared->Prop:=notedBy AD X.A ce λe s'=>RR (.error e) s';let g:Cx:=iO X ls sc XT s2 H2 fp E';have C':Ctx g G De XQ:=Jqj C h;have SB:Sib X g:=⟨rfl,rfl,rfl,rfl,λP ps z=>I2.base.tbls P ps z⟩;have I4:L2.Inv g [(AR,uE [] 0)] (List.replicate BM No++Z) H2 {s2 with heap:=j}:=
  JpH C h l (ZL ..) I2 f2 (λb hb=>let⟨o,e,_⟩:=T.obj _ _ st2 b hb;⟨o,e⟩) hC hns₁ old hacc
 have sub:∀x c,'Œ'.lookup x=So c->X.env.cells.lookup x=So c:=vU XQ [] λx c e=>by simp at e
 have stat:∀{W:Hp}{o:Obj},(∀b∈fp,W b=No)->∀b∈fp,FpOk g [(AR,o)] W b:=fun{W o}hn b hb=>by
  have hb':=fpl b hb;refine⟨hn b hb,?_,I4.ok.exfs b hb,.inl hb,(I4.ok.exf b hb).2,λp hp=>?_⟩
  ·show b≠Hh.objs.size;rw[hC];exact Zu (wB hb')
  ·have e:p=(AR,o):=by simpa[g,iO]using hp
   rw[e];exact rC hb'
 have loop:∀s₃:Shared,s₃={s2 with heap:=j}->
   codeAny AD X.A (.compLoop Gf 0 B8 (.ref AR) ce) RR s₃:=by
  rintro s₃ rfl;refine JgB (CI X U g AR tn fp H H2 BM Z nt pc pe O J Gd) ?_ Ae
   (.mk 0 (List.replicate BM No) H2 [] 0 [] [] _ I4 tJ (T.keep _ _ _ st2 (λb hb o e=>old b o e)) (λb hb=>(f2 b hb).1) KL .nil rfl (Zh _) Xj (by simpa using hG2))
  rintro _ s'⟨i,lo,W,its,k,ys,done,_,I',hlo,st,fr,sm,hv,hr,hdl,hil,hg⟩;by_cases hi:i<Ae
  ·have go:=(hW W sm).1 i hi
   refine thn (T.item g rfl rfl rfl C'.calm i _ s' (lo++Z) W g.xe I' (stat fr) st go) λr' s4 zz0=>?_;obtain⟨u,hr',h4⟩:=zz0;subst hr';refine thn h4 λ_ s5 zz0=>?_;obtain⟨x,H5,I5,r5,y5,st5,fr5⟩:=zz0;obtain⟨s45,d,hd,rd⟩:=(hW W sm).2.2 i x H5 hi y5;rw[Jer hd]at hg;simp only[JY]at hg;replace hg:=Rs.gB.mp hg;cases hb:iA nt d with
   |sk=>rw[hb]at hg;exact hg.elim
   |ex c=>exact(Jgj hb).elim
   |ok new=>
    rw[hb]at hg;replace hg:=Rs.gB.mp hg;have I5p:=I5.pinned (stat fr5) (T.obj _ _ st5);refine thn (htg g C' _ s5 lo Z H5 d x u new (λσ' H''=>∃w:L2.St,σ'=w++Z/\w.length=BM/\H5=H''/\ReadOk X.K H5 (w++Z) (new++O)) hlo I5p r5 rd hb λw l1 l2 hn=>
     ⟨w,rfl,l1,rfl,ReadOk.front (l1.trans l2.symm) hn (r.mono ('ա'.trans s45))⟩) λ_ s6⟨σ6,H6,I6,w,e6,l6,e7,rd6⟩=>?_
    subst e6;subst e7;refine thn (hif g C' _ s6 _ _ (λb H7=>Same H5 H7/\(if b=To then((evD U pe (new++O)).bind λy=>'丟'.bind λys=>Rs.ok (y::ys)).Good (λrest=>Gd (done++rest)) Az
     else(JY nt Kw Kv O KS).Good (λrest=>Gd (done++rest)) Az)) I6 ⟨new++O,rd6,Rs.good_calm (hg.mono (λd' hd'=>?_) λc z=>z)⟩) λok s7⟨H7,I7,L,q7⟩=>?_
    ·cases d' with
     |bl b=>
      refine⟨b,rfl,λH7 L=>⟨L,?_⟩⟩;cases b with
      |true=>exact iteT hd'
      |false=>exact iteF hd'
     |_=>exact hd'.elim
    have tn7:∀{s9:Al}{H9:Hp}{o:Obj}{σ9:Bl},L2.Inv g ([(AR,o)]++zF fp Y2) σ9 H9 s9->tn Bw s9.heap/\∀b∈fp,H9 b=No:=fun{s9 H9 o σ9}I9=>by refine⟨T.keep _ _ _ st5 λb hb o' e=>(I9.pin (b,o') Qq).1,λb hb=>?_⟩;obtain⟨o',e,_⟩:=T.obj _ _ st5 b hb;exact(I9.pin (b,o') Qq).2.1
    cases ok with
    |false=>
     rw[if_neg ZH];have q7':'丟'.Good (λrest=>Gd (done++rest)) Az:=by rw[if_neg ZH]at q7;exact q7
     obtain⟨t7,f7⟩:=tn7 I7;exact⟨Ae- Bw,by lia,.mk Bw w H7 its k ys done _ I7.unpinned l6 t7 f7 ((sm.trans s45).trans L) hv (hr.mono (s45.trans L)) Af Af q7'⟩
    |true=>
     rw[if_pos rfl];rw[if_pos rfl]at q7;replace q7:=Rs.gB.mp q7;refine thn (helt g C' SB _ s7 _ _ (λv8 H8=>Same H7 H8/\∃y,Rep X.K H8 y v8/\(JY nt Kw Kv O KS).Good (λrest=>Gd (done++(y::rest))) Az) I7
      ⟨new++O,rd6.mono L,q7.mono (λy hy v8 H8 s78 r8=>⟨s78,y,r8,Rs.gB.mp hy⟩) λc z C0 H0 hm0 s0 a0 s0' F0=>ZY (Jtb C I2 f2 (by rw[hC];exact mC _) F0 (λs5 F5=>z C0 H0 hm0 (('ա'.trans s45).trans (L.trans s0)) a0 s5 F5) rfl) (λ_ _ e=>hRR _ _ _ _ e) λ_ _ e=>hRR _ _ _ _ e⟩) λu8 s8⟨v8,H8,I8,r8,s78,y,ry,q8⟩=>?_
     have e8:=(I8.pin Rk Ad).1;have hlen:B1<=lD:=by have h1:=hv.length;have h2:=hr.length;lia
     refine fB Qbu ⟨_,e8,rfl⟩ Qaz QP (PySem.list_append s2.heap.objs.size its.toArray k u8 (by rw[Zo,ZG];exact hlen)) ⟨e8,?_⟩;have q9:=PySem.IsL.update e8 (λx=>x.push u8);have hpush:its.toArray.push u8=(its++[u8]).toArray:=by simp
     rw[hpush]at q9;obtain⟨k9,q9⟩:∃k9,(s8.heap.update AR TJ).get? AR=So (uE (its++[u8]) k9):=⟨_,q9⟩;have f:=(I8.pin Rk Ad).2;have I8u:L2.Inv g (zF fp Y2) (w++Z) H8 s8:=I8.pins_of λp hp=>I8.pin p (ZP _ (ZP _ hp));have I9:L2.Inv g (zF fp Y2) (w++Z) H8 {s8 with heap:=s8.heap.update AR TJ,toks:=s8.toks}:=by
      refine I8u.turned (it:=AR) (λb o hb e=>(ZO s8.heap _ E2).trans e) f.1 f.2.1 (.inr (Zh _)) (λx c e=>?_) (λp hp=>?_)
      ·rcases JiW _ _ _ _ _ e with q|⟨q,_⟩
       ·obtain⟨v0,o0,h0,_⟩:=I2.cell x c (sub x c q);exact Zu (hlt c o0 h0)
       ·rw[hC]at q;exact rC (ZB (wB YS) q)
      ·have hp':p∈zF fp Y2:=by simpa[g,iO]using hp
       exact Zu (fpl _ (JgL hp').1)
     have I10:L2.Inv g ([(AR,uE (its++[u8]) k9)]++zF fp Y2) (w++Z) H8 {s8 with heap:=s8.heap.update AR TJ,toks:=s8.toks}:=
      I9.pins_of λp hp=>(ZK.mp hp).elim (λz=>by
       have e:p=(AR,uE (its++[u8]) k9):=by simpa using z
       subst e;exact⟨q9,f.1,f.2.1,f.2.2.1,λv z=>(by cases z)⟩) λz=>I9.pin p (ZP _ z)
     obtain⟨t10,f10⟩:=tn7 I10;refine⟨Ae- Bw,by lia,.mk Bw w H8 (its++[u8]) _ (ys++[v8]) (done++[y]) _ I10.unpinned l6 t10 f10 (((sm.trans s45).trans L).trans s78) (hv.append (.cons r8 .nil)) ((hr.mono ((s45.trans L).trans s78)).append QdI) ?_ Af ?_⟩
     ·rw[Zn,sG];lia
     ·simpa using q8
  ·--the end
   have hie:i=Ae:=by lia
   subst hie;rw[List.drop_length]at hg;simp only[JY]at hg;have hg':Gd done:=by have hg2:Gd (done++[]):=hg;simpa using hg2
   refine thn (T.done g rfl rfl rfl C'.calm Ae _ s' (lo++Z) W g.xe I' (stat fr) st (hW W sm).2.1) λr' s4 zz0=>?_;obtain⟨hr',I5⟩:=zz0;subst hr';obtain⟨m',hn',_⟩:=I5.loc;have f:=I5.pin Rk Ad;have hlen:By<=sizeLine:=by have h2:=hr.length;rw[ZG];have h3:lD=16777216:=rfl;lia
   have HC:W XT=No:=I5.free;have okH:HOk Xz X.w Mf QcF:=by
    intro b o e;by_cases hb:b=AR
    ·subst hb;rw[Je]at e;cases e;exact⟨hlen,its,k,hv,f.1⟩
    ·rw[Jb hb]at e;have ok5:ObjOk Xz X.w W QcF b o:=I5.hok b o e;refine ok5.stay (λc w' hc q=>q) (λc q=>?_) (λc xs q=>?_) λc o' u' q=>?_
     ·by_cases B:c=AR
      ·subst B;rw[f.2.1]at q;cases q
      ·rw[Jb B];exact q
     ·by_cases B:c=AR
      ·subst B;rw[f.2.1]at q;cases q
      ·rw[Jb B];exact q
     ·by_cases B:c=AR
      ·subst B;rw[f.2.1]at q;cases q
      ·rw[Jb B];exact q
   have un:Un G5 fp H2 Mf aT QcF:=by
    have U9:Un G5 fp H2 W aT QcF:=I5.base;have ne1:∀b o,s2.heap.get? b=So o->b≠AR:=λb o e=>Zu (hlt b o e);have neH:∀b u,H2 b=So u->b≠AR:=λb u e z=>by rw[z,I2.hok.fresh (Zh _)]at e;cases e
    refine⟨U9.keep,U9.slot,λb o e n h2=>?_,U9.there,λb xs e=>?_,λb o u e=>?_,λb ps' e=>?_⟩
    ·rw[Jb (ne1 b o e)];exact U9.free b o e n h2
    ·rw[Jb (neH b _ e)];exact U9.tups b xs e
    ·rw[Jb (neH b _ e)];exact U9.frzs b o u e
    ·rw[Jb (neH b _ e)];exact U9.tbls b ps' e
   have If:L2.Inv X Y Z Mf s4:=I2.call' (ch:=fp) I5.os un okH I5.bare λb hb=>by obtain⟨_,f1',f2',f3',f4',f5'⟩:=f2 b hb;exact Oh
   have sH:Same W Mf:=λb o e=>by rw[Jb (Jh e f.2.1)];exact e
   have hCn:upd W AR FN XT=No:=by rw[Jb (by rw[hC];exact Nat.succ_ne_self _)];exact HC
   exact hok AR ys _ XT m' s4 done If hn' (I2.fpOk (by rw[hC];exact mC _) hCn) Je (s02.free (I2.hok.fresh (Zh _))) ('ա'.trans sH) (hr.mono sH) hg'
 exact codeAny_compStart_list (loop _ rfl) (T.self _ 0 _ _ _ (T.keep _ _ _ st2 λb hb o e=>old b o e) (loop _ rfl))
def Jhc{O:Fm}{Q:VK}(r:Ri)(i:(evD U Kg O).Good (OutF X H Q) Az):
  tW X U ps Z H λe W=>∃J,Walk X.K e W J/\Same H W/\J.length<=lD/\(JY nt Kw Kv O J).Good (λg=>OutF X H Q (.lst g)) Az:=by
 refine⟨O,r,(Rs.gB.mp i).imp λd b=>?_⟩;cases d with
 |lst J=>
  simp only[D.asL,Rs.bo]at b;split at b
  ·rename_i h;exact⟨J,rfl,λe W f w _=>⟨J,w,f,h,Rs.gB.mp b⟩⟩
  ·exact b.elim
 |_=>exact b.elim
def JrJ{h':Heap}(I:BU)(f:FpOk X Y H Cd)(g:Heap.SameBut Cd VU h'):L2.Inv X Y Z H {s with heap:=h'}:=by obtain⟨j,h,r,i,m,l⟩:=f;exact I.turned (t':=Xv) (λb o q e=>(g.2 b q).trans e) j h i m l
def Jmv(C:Am)(h:EU)(i:GC)
  (l:∀b,Ctx b G De sc.names->TgOk b tg nt BM) (u:∀b,Ctx b G De sc.names->PIf b ifs (tT b U pc)) (j:∀b,Ctx b G De sc.names->Sib X b->PE b elt (tI b U pe))
  (hs:∀x,foldedSetIterable iter Ue x=pure x:=by intro _;rfl):PE X Gf IF:=by rintro Y s Z H Q I⟨O,r,hG⟩;rw[eval_ListComp];refine wpAny_comprehension_free (use:=No) rfl hs PN h.kind (λy B e=>((h.at B).2.2 e).1) (JhL (RR0:=λg C=>compPost AD X.A X.xe No BP g C) C h i l u j I r (Jhc r hG) ?_ λ_ _ _ _ e=>e);intro g M w Cd m s4 dn L F f ha h0 sm rs hg;refine⟨m,F,λh' q=>⟨.ref g,w,JrJ L f q,rfl,?_⟩⟩;obtain⟨ds',e',z⟩:=hg;cases e';exact z g M w sm h0 ha rs
def Jfe{u B:Pos}{i:Nat}{y:Str}(C:Am)(h:EU)(hi:X.N[i]? =So y)(hy:locB nm y=To)(l:GC)
  (F:∀g,Ctx g G De sc.names->TgOk g tg nt BM) (L:∀g,Ctx g G De sc.names->PIf g ifs (tT g U pc)) (z:∀g,Ctx g G De sc.names->PE g elt (tI g U pe))
  (hs:∀x,foldedSetIterable iter Ue x=pure x:=by intro _;rfl):PS X (.Assign [.Name y B] Gf u) (tAsg IF Ex):=by
 obtain⟨w,M⟩:=C.sto y hy;have nd:X.N.Nodup:=by rw[C.hN];exact C.nd
 have sw:∃b,swapsWith Gf (So (.Name y B)) u.line Ue=pure b:=AS;obtain⟨b,sw⟩:=sw;cases b with
 |false=>exact gD nd hi w (Jmv C h l F L OT hs) sw M
 |true=>
  rintro Y s Z H D I⟨O,r,hG⟩;rw[exec_Assign_Name_used _ _ _ _ sw];refine Za (wpAny_standAt (Za ?_));show wpAny _ X.A (do let _<-comprehension Gf sc Ue _ (newList []) Fo Qce (So Tv)) _ _ s;refine Za (ZY (wpAny_comprehension_free (use:=So Tv) (Q:=λ_ s'=>SP X Y D .next s') rfl hs PN h.kind (λy hy e=>((h.at hy).2.2 e).1)
   (JhL (RR0:=λj C=>compPost AD X.A X.xe (So Tv) (λ_ s'=>SP X Y D .next s') j C) C h l F L OT I r (Jhc r hG) ?_ λ_ _ _ _ e=>e)) (λ_ s' hq=>Zb (Zb hq)) λ_ _ e=>e)
  intro j ys Hf Cd m s4 dn If hn f ha h0 sm rs hg;show wpAny _ X.A (assign (.Name y B) Ue (.ref j)) _ _ s4;refine wpAny_assign_Name (Jhn If nd hi w (v:=.ref j) rfl (λs5 I5⟨ad,sb,had⟩=>?_) M);have hne:Cd≠ad:=by
   rcases had with q|q
   ·rw[q];exact f.2.1
   ·exact Ne.symm (f.2.2.2.2.1 y ad q)
  refine⟨m,hn.sameBut sb hne,λh' hsb=>⟨_,Hf,JrJ I5 f hsb,?_⟩⟩;obtain⟨ds',e',hQ⟩:=hg;cases e';exact hQ j ys Hf sm h0 ha rs
end
def JnH(l b:Addr)(items e:B7)(n n2:Nat)(dd f:Du)(sl i:Eb)(q:Aw+e.size<=sizeLine):
  Meets (Builtin.«list.__add__» Py) (λ_ R s=>s.heap.get? l=So {cls:=.type "list",dict:=dd,data:=.seq items n,slots:=sl}/\s.heap.get? b=So {cls:=.type "list",dict:=f,data:=.seq e n2,slots:=i}/\R (.ok (.ret Qcf)) {s with heap:=s.heap.push {cls:=Value.type "list",data:=Data.seq (items++e)},toks:=Xv}):=
 .of_wp λprog w A R s h=>by
  obtain⟨I,g,d,F,z⟩:=s;obtain⟨j,m,h⟩:=h;have r:=QcQ;have y:=dM;have B:=eC;have u:=dX;have C:=dY
  wp_walk using AutoSeq1.wpAny_loadPart' j,AutoSeq1.wpAny_loadPart' m;exact FV
def JlH{w:AQ}{l b:Addr}{items e:B7}{Q:Ay}(C:Oj)(I:s.heap.IsList b e)
  (h:Q Fi {s with heap:=s.heap.push {cls:=.type "list",data:=.seq (items++e)}}) (hsz:Aw+e.size<=sizeLine):wpAny Au A (binaryOp .Add BH CK) Q E s:=by obtain⟨⟨cls,B,data,sl⟩,y,u,n,r⟩:=id C;obtain⟨⟨z,j,m,q⟩,g,i,n2,f⟩:=id I;simp only at u r i f;subst u r i f;exact concat_meets ⟨_,y,rfl⟩ ⟨_,g,rfl⟩ PySem.noFill_list_add PySem.seq_list_add F.slot_list_add F.entry_list_add (F.args_list_add_2 _ _) (JnH l b items e n n2 B j sl q hsz) ⟨y,g,h⟩
def Jpl{w:AQ}{t b:Addr}{ws:AE}{Q:Ay}(F:IsTup VU t ([]:List Value).toArray)(C:P2)
  (h:Q CK s):wpAny Au A QD Q E s:=by
 obtain⟨⟨z,B,q,sl⟩,u,r,n,m⟩:=id F;obtain⟨⟨y,i,j,l⟩,f,g,n2,e⟩:=id C;simp only at r m g e;subst r m g e;exact concat_meets ⟨_,u,rfl⟩ HM noFill_tuple_add seq_tuple_add zV iW QcZ
   (tuple_addW0 t b ([]:List Value).toArray Qbl n n2 B i sl l Ad) ⟨u,f,h⟩
def yI{n:Nat}(h:n<=lD):n<=sizeLine:=by rw[ZG];exact h
def JxZ{a b:D}{E:DE}(h:(op2 .add a b).Good P E):(∃i j,a=.int i/\b=.int j)\/(∃i j,a=.str i/\b=.str j)\/(∃i j,a=.tup i/\b=.tup j)\/∃i j,a=.lst i/\b=.lst j:=by cases a<;>first|exact(show False from h).elim|(cases b<;>first|exact(show False from h).elim|exact .inl EV|exact .inr (.inl EV)|exact .inr (.inr (.inl EV))|exact .inr (.inr (.inr EV)))
theorem JuX:OpR X ML (rD2 X .add):=by
 rintro Y s Z H x y v u Q I m r⟨dx,dy,B,C,h⟩;rcases JxZ h with⟨i,j,rfl,rfl⟩|⟨i,j,rfl,rfl⟩|⟨J,es,rfl,rfl⟩|⟨J,es,rfl,rfl⟩
 ·exact Jvy Y s Z H x y v u Q I m r ⟨_,_,B,C,Out.now h rfl⟩
 ·simp only[op2]at h;split at h
  ·rename_i w;exact Jlt Y s Z H x y v u Q I m r ⟨_,_,B,C,yI w,Out.now h rfl⟩
  ·exact h.elim
 ·simp only[op2]at h;split at h
  ·rename_i w;obtain⟨a,xs,rfl,z,f⟩:=B;obtain⟨b,ys,rfl,q,g⟩:=C;have l1:=Yp;have M:=Yd;by_cases hx:xs=[]
   ·subst hx;have hd:J=[]:=f.nil_iff.mp rfl;subst hd;cases m;cases r;obtain⟨its,l,p1,_⟩:=I.tuple z;obtain⟨e,F,U,_⟩:=I.tuple q;cases l;exact Jpl p1 U ⟨.ref b,H,I,rfl,Out.now h ⟨b,ys,rfl,q,g⟩⟩
   ·refine Jud Y s Z H _ _ v u Q I m r ⟨a,b,xs,ys,rfl,rfl,z,q,hx,yI (by rw[l1,M];exact w),λhy=>?_,λhy p hp=>?_⟩
    ·have he:es=[]:=g.nil_iff.mp hy;subst he;exact Out.now h ⟨a,xs,rfl,z,by simpa using f⟩
    ·obtain⟨L,l⟩:=wG (K:=X.K) hp (f.append g);exact h _ _ L l
  ·exact h.elim
 ·simp only[op2]at h;split at h
  ·rename_i w;obtain⟨a,xs,rfl,z,f⟩:=B;obtain⟨b,ys,rfl,q,g⟩:=C;have l1:=Yp;have M:=Yd;cases m;cases r;obtain⟨its,l,p1,_⟩:=I.list z;obtain⟨e,F,U,_⟩:=I.list q;have l3:=XN;have l4:=F.length;have O:Ah+By<=sizeLine:=yI (by rw[l1,M];exact w);refine JlH p1.isList U.isList ?_ (by rw[Zo,Zo];lia);have ea:AF++e.toArray=(its++e).toArray:=by simp
   rw[ea];obtain⟨L,w1⟩:=zG (K:=X.K) (xs:=xs++ys) I.fresh (f.append g);exact⟨.ref _,_,I.lnew (t':=Xv) (l.append F) (by rw[Zn];exact O),rfl,h _ _ L w1⟩
  ·exact h.elim
def JuM:OpR X Qbw (rD2 X .sub):=by rintro Y s Z H x y v u Q I b g⟨l,m,e,f,h⟩;obtain⟨i,j,rfl,rfl,q⟩:=qL h;exact Jyj Y s Z H x y v u Q I b g Hr
theorem Jjy(xs:Array α):∀(n:Nat)(b:Array α),((List.replicate n xs).foldl (·++·) b).size=b.size+n*xs.size
 |0,b=>by simp
 |n+1,b=>by
  rw[List.replicate_succ,gG,Jjy xs n,Array.size_append,Nat.succ_mul]
  lia
def JwI{a b:D}{E:DE}(h:(op2 .mul a b).Good P E):(∃i j,a=.int i/\b=.int j)\/∃i j,a=.str i/\b=.int j:=by cases a<;>first|exact(show False from h).elim|(cases b<;>first|exact(show False from h).elim|exact .inl EV|exact .inr EV)
theorem JtO:OpR X QaX (rD2 X .mul):=by
 rintro Y s Z H x y v u Q I f m⟨M,U,g,l,h⟩;rcases JwI h with⟨i,j,rfl,rfl⟩|⟨i,j,rfl,rfl⟩
 ·simp only[op2]at h;split at h
  ·rename_i b;refine JwA Y s Z H x y v u Q I f m ⟨i,j,g,l,?_,Out.now h rfl⟩;simp only[smallI,nB,Zc,Zw]at b;exact b
  ·exact h.elim
 ·simp only[op2]at h;split at h
  ·rename_i b;obtain⟨h1,h2,L,C⟩:=b;have B:x=V.str i:=g;have w:y=V.int j:=l;subst B w;obtain⟨t,rfl⟩:=f;obtain⟨O,rfl⟩:=m;have F:i.length*j.toNat<=1000*1000:=Nat.mul_le_mul C Af;have r:PySem.Builtin.Str.tooLong (i.length*j.toNat)=Fo:=by unfold PySem.Builtin.Str.tooLong;rw[Zs];have:=ZG;lia
   have z:(j==1||i.length==0)=Fo:=by rw[ZN,ZA,ZA];lia
   refine P.mul_str ?_ (λ_ _ q=>?_) (λ_ _=>r) ?_
   ·rw[Zs 'g',Zs 'g'];rfl
   ·have:(1000:Int)<=(2^63-1) / j:=by
     refine(Int.le_ediv_iff_mul_le Af).mpr ?_;lia
    lia
   ·rw[if_neg 'g',if_neg (by rw[z];exact ZH)];refine⟨?_,⟨.str (repS i j),H,I.tok _,AS,Out.now h rfl⟩⟩;have e:(⟨'Է'.foldl (·++·) #[]⟩:Str).length=i.length*j.toNat:=by show('Է'.foldl (·++·) #[]).size=_;rw[Jjy,Nat.mul_comm];simp[Str.length]
    rw[e];have:=ZG;lia
  ·exact h.elim
def Jqr:OpR X OV (rD2 X .fdiv):=by
 rintro Y s Z H x y v u Q I e m⟨q,r,g,l,h⟩;obtain⟨i,j,rfl,rfl,b⟩:=qL h;split at b
 ·rename_i f;exact JuW Y s Z H x y v u Q I e m QT
 ·exact b.elim
def JsD:OpR X Qbx (rD2 X .mod):=by
 rintro Y s Z H x y v u Q I e m⟨q,r,g,l,h⟩;obtain⟨i,j,rfl,rfl,b⟩:=qL h;split at b
 ·rename_i f;exact JxY Y s Z H x y v u Q I e m QT
 ·exact b.elim
def JnI(q:X.A.units+64<cLine):OpR X (compareOp .Eq) (rD2 X .eq):=by
 rintro Y s Z H x y v u Q I i m⟨b,e,j,l,h⟩;have f:(if(JO b&&JO e)=To then Rs.ok (.bl (b.eqv e))else .sk:Rs D).Good Cu Az:=h;split at f
 ·rename_i g;simp only[JO,Zc,Zw]at g;exact(fX I 20 X.A b e g.1 Af Af j l i m Af).1 Xz X.w X.xe _ UQ
 ·exact f.elim
def Jrp(q:X.A.units+64<cLine):OpR X (compareOp .NotEq) (rD2 X .ne):=by
 rintro Y s Z H x y v u Q I i m⟨b,e,j,l,h⟩;have f:(if(JO b&&JO e)=To then Rs.ok (.bl (!b.eqv e))else .sk:Rs D).Good Cu Az:=h;split at f
 ·rename_i g;simp only[JO,Zc,Zw]at g;exact(fX I 20 X.A b e g.1 Af Af j l i m Af).2.1 Xz X.w X.xe _ UQ
 ·exact f.elim
def lt_cs{a b:D}{E:DE}(h:(op2 .lt a b).Good P E):(∃i j,a=.int i/\b=.int j)\/∃i j,a=.str i/\b=.str j:=by cases a<;>first|exact(show False from h).elim|(cases b<;>first|exact(show False from h).elim|exact .inl EV|exact .inr EV)
def uX:OpR X Rp (rD2 X .lt):=by
 rintro Y s Z H x y v u Q I b g⟨l,m,e,f,h⟩;rcases lt_cs h with⟨i,j,rfl,rfl⟩|⟨i,j,rfl,rfl⟩
 ·exact op_lt Y s Z H x y v u Q I b g Hr
 ·exact Jmp Y s Z H x y v u Q I b g Hr
def JxA:OpR X QaY (rD2 X .le):=by rintro Y s Z H x y v u Q I b g⟨l,m,e,f,h⟩;obtain⟨i,j,rfl,rfl,q⟩:=qL h;exact op_le Y s Z H x y v u Q I b g Hr
def sX:OpR X Qby (rD2 X .gt):=by rintro Y s Z H x y v u Q I b g⟨l,m,e,f,h⟩;obtain⟨i,j,rfl,rfl,q⟩:=qL h;exact op_gt Y s Z H x y v u Q I b g Hr
def rX:OpR X QaZ (rD2 X .ge):=by rintro Y s Z H x y v u Q I b g⟨l,m,e,f,h⟩;obtain⟨i,j,rfl,rfl,q⟩:=qL h;exact op_ge Y s Z H x y v u Q I b g Hr
theorem nX:∀{J:Ak}{j:Nat}{d:D},J[j]? =So d->bO<=deps J
 |[],_,_,h=>by simp at h
 |a::J,0,d,h=>by simp at h;subst h;simp only[deps];lia
 |a::J,j+1,d,h=>by
  have:=nX (J:=J) (j:=j) (d:=d) (by simpa using h)
  simp only[deps];lia
open Classical in
noncomputable def eU (J:Ak) (its:AE) (d:D) (y:An):Bool:=decide (∃(j:Nat)(b:D),its[j]? =So y/\J[j]? =So b/\b.eqv d=To)
open Classical in
def Jxv(I:BU)(q:FY)(r:GS)(pd:deps J<1000){d':D}{j:Nat}{y:An}(h1:its[j]? =So y)(g:J[j]? =So d'):
  eU J its d y=d'.eqv d:=by
 have same:∀k b,its[k]? =So y->J[k]? =So b->b=d':=λk b h f=>by
  obtain⟨U,C,w⟩:=q.get g
  obtain⟨L,u,F⟩:=q.get f
  obtain⟨O,i,z⟩:=r.get C
  obtain⟨M,l,B⟩:=r.get u
  rw[h1]at i;cases i
  rw[h]at l;cases l
  have:=z.inj B
  subst this
  exact Rep.inj I _ pd (nX f) (xH (nX g) pd) F w
 cases e:d'.eqv d with
 |true=>exact Zx ⟨j,d',h1,g,e⟩
 |false=>
  refine Zs ?_
  rintro⟨k,b,h,f,m⟩
  rw[same k b h f,e]at m
  cases m
open Classical in
theorem JrG(I:BU)(g:FY)(h:GS)(pd:deps J<1000)(d:D):its.toArray.any '亍'=J.any λf=>f.eqv d:=by
 have w:=cI
 have r:=Yd
 rw[show its.toArray.any '亍'=its.any '亍' by simp,Bool.eq_iff_iff,uH,uH]
 constructor
 ·rintro⟨y,u,e⟩
  obtain⟨j,f,_,l,q⟩:=ZZ e
  exact⟨f,qM l,q⟩
 ·rintro⟨f,m,e⟩
  obtain⟨j,i⟩:=jP m
  have b:j<B1:=by
   have:=(Zz.mp i).1
   lia
  refine⟨its[j],sP b,?_⟩
  rw[Jxv I g h pd (ZC b) i]
  exact e
theorem Jrk(L:X.A.units+64<cLine)(I:BU)(f:FY)(h:GS){x:V}{v:An}(C:Rep X.K H d x)(l:RelV x v)(m:deps J<=20)(u:d.dep<=20):
  ∀y,y∈AF->EqAt YH s y v (eU J its d y):=by
 intro y q;have g:y∈its:=by simpa using q
 obtain⟨j,e⟩:=jP g;have F:=cI;have M:=Yp;have B:=(Zz.mp e).1;have b:J[j]? =So 'Ǣ':=by rw[lM,ZC 'g'];rfl
 rw[Jxv I f h 'g' e b];obtain⟨U,z,r⟩:=f.get b;obtain⟨O,i,w⟩:=h.get z;rw[e]at i;cases i;exact(fX I 20 YH _ d (sS m) AB Af r C w l (by show X.A.units+1+20+1<cLine;lia)).2.2
def Jpb(h:x.cps=#[x.cps.getD 0 0]):x=⟨#[x.cps.getD 0 0]⟩:=by obtain⟨c⟩:=x;show Str.mk c=_;rw[<-h]
def Jrv(F:X.A.units+64<cLine):OpR X Qbz (rD2 X .isin):=by
 rintro Y s Z H x y v u Q I m B⟨b,L,q,r,h⟩;cases L with
 |str z=>
  cases b with
  |str w=>
   simp only[op2]at h;split at h
   ·rename_i i;refine JmV Y s Z H x y v u Q I m B ⟨w,z,q,r,?_⟩;have e:=PySem.StrLaws.found_one z (w.cps.getD 0 0);rw[<-Jpb i]at e;rw[e];exact Out.now h rfl
   ·exact h.elim
  |_=>exact(show False from h).elim
 |tup J=>
  have f:(if(JO (.tup J)&&JO b)=To then Rs.ok (.bl PM)else .sk:Rs D).Good Cu Az:=by cases b<;>exact h
  split at f
  ·rename_i i;have g:deps J+1<=20/\b.dep<=20:=by simpa[JO,D.dep]using i
   obtain⟨a,xs,rfl,C,l⟩:=r;cases B;obtain⟨its,j,p,_⟩:=I.tuple C;refine SeqAt.in_tupleAt (eU J its b) p (Jrk F I l j q m Af g.2) OH;rw[JrG I l j 'g'];exact Out.now f rfl
  ·exact f.elim
 |lst J=>
  have f:(if(JO Bc&&JO b)=To then Rs.ok (.bl PM)else .sk:Rs D).Good Cu Az:=by cases b<;>exact h
  split at f
  ·rename_i i;have g:deps J+1<=20/\b.dep<=20:=by simpa[JO,D.dep]using i
   obtain⟨a,xs,rfl,C,l⟩:=r;cases B;obtain⟨its,j,p,_⟩:=I.list C;refine SeqAt.in_listAt (eU J its b) Yv (Jrk F I l j q m Af g.2) OH;rw[JrG I l j 'g'];exact Out.now f rfl
  ·exact f.elim
 |_=>cases b<;>exact(show False from h).elim
def JmS{K:Aj}{i:Int}(b:FW)(h:atD J i=So d):∃x,atI xs i=So x/\Rep K H d x:=by
 have l:=YK;unfold atD at h;unfold atI;have e:L2.ixN Ah i=ixn Ae i:=by rw[l];rfl
 rw[e];cases q:ixn Ae i with
 |none=>rw[q]at h;cases h
 |some j=>rw[q]at h;exact b.get h
def JwO:IxR X (rD2 X .idx):=by
 rintro b e Y s Z H x y v u Q I f B⟨M,O,l,r,h⟩g;cases M<;>first|exact(show False from h).elim|(cases O<;>first|exact(show False from h).elim|skip)
 ·rename_i z i;simp only[op2]at h;split at h
  ·rename_i L;cases q:atD XZ i with
   |none=>rw[q]at h;exact h.elim
   |some c=>rw[q]at h;exact JxV b e Y s Z H x y v u Q I f B ⟨z,i,c,l,r,yI L,q,Out.now h rfl⟩ g
  ·exact h.elim
 ·rename_i J i;simp only[op2]at h;cases q:atD J i with
  |none=>rw[q]at h;exact h.elim
  |some d=>rw[q]at h;obtain⟨a,xs,rfl,C,m⟩:=l;obtain⟨w,F,j⟩:=JmS m q;exact Jyk b e Y s Z H _ y v u Q I f B U8 g
 ·rename_i J i;simp only[op2]at h;cases q:atD J i with
  |none=>rw[q]at h;exact h.elim
  |some d=>rw[q]at h;obtain⟨a,xs,rfl,C,m⟩:=l;obtain⟨w,F,j⟩:=JmS m q;exact Jvn b e Y s Z H _ y v u Q I f B U8 g
end Rd
namespace HT
open PySem PyProof.Rows
def JcR{prog:Ba}{w:AQ}{A:Bv}{E:Ay}{s:Al}{t sl:Addr}{items:B7}{m l:An}{lo hi:BB}{Q:Ay}(e:NN)(hs:s.heap.IsSliceOf sl m l .none)(pl:IsPart m lo)(u:IsPart l hi)
  (r:sIx Aw 0 lo=0/\sIx Aw Aw hi=Aw) (h:Q GM s):wpAny Au A Oz Q E s:=by
 obtain⟨v,i,j,z⟩:=id hs;have f:s.TypeIs Kk "slice":=⟨v,i,j⟩;unfold getItem;try with_reducible refine wA ?_
 first|refine Za (Zb ?_)|skip
 refine Za (wpAny_sequenceKey e.typeIs AB ?_);refine Za (ZM (name:=oS "__getitem__") e.typeIs gQ
  (ZD gQ e.typeIs entry_tuple_getitem ?_ Qt))
 show wpAny _ _ (Builtin.Tuple.tupleItemsOf (.ref t)>>=_) _ _ s;refine Za (tupleItemsOf_ e ?_);refine Za (jF f ?_);rw[if_pos 'y'];refine Za (Jba hs pl u ?_);have a:(((sIx Aw 0 lo:Nat):Int)==0&&(1:Int)==1&& Ga==Aw)=To:=by rw[r.1,r.2];simp
 show wpAny _ _ (if(((sIx Aw 0 lo:Nat):Int)==0&&(1:Int)==1&& Ga==Aw)=To then _ else _) _ _ s;rw[if_pos a];have b:∀{g:E5},g To s->wpAny Au XI (Builtin.Tuple.tupleIsExact GM) g E s:=fun{g}q=>by obtain⟨o,y,x,n,B⟩:=id e;unfold Builtin.Tuple.tupleIsExact;refine Za (jF (T:="tuple") ⟨o,y,x⟩ ?_);exact Zb q
 first
  |exact Za (b (by simp only[if_true];exact Za (kB (Zb ⟨_,rfl,Zb h⟩))))
  |exact Za (wpAny_of_in1 (b (by simp only[if_true];exact Za (kB (Zb ⟨_,rfl,Zb h⟩)))))
end HT
namespace Rd
open PySem PySem.Spec PyProof.Rows L2 Pu
open PySem.SeqAt (EqAt RcAt RcNeAt)
variable{H H0 H1 W:Hp}{a l it b:Addr}{K:Aj}{Z σ':Bl}{X:Cx}{s:Al}{i k j n ep sl:Nat}{w:AQ}{A:Bv}{prog P:Ba}{E:Ay}{N ks:Ac}{pos p1 p2 px apos tp np:Pos}{M:As}{Y:A8}{t lb t1 t2 m z:Bool}{G:Gw}{nm:Bj}{xs:Av}{x y:Str}{p pa pb:Px}{J:Ak}{O:Fm}{L L1:A9}{e tg:Expr}{h h':Heap}{o:O1}{v:V}{elts:CF}{items:B7}{α:Type}{es:Ki}{bs:List Bool}{st:Stmt}
section
variable{X:Cx}{U:Ag}{e a b c:Expr}{es:CF}{p pa pb pc pl ph:Px}{pos:Pos}
def Jgg{lo hi:BB}(f:FW):Reps K H (cutD J lo hi) 'ȯ':=by
 have l:=Yp;have e:cutV xs lo hi=(xs.drop (six Ae 0 lo)).take (six Ae Ae hi-six Ae 0 lo):=by unfold cutV;rw[l];rfl
 rw[e];exact(f.drop _).take _
def JlK{v:An}{o:BB}(h:IsPart v o):∃p:Option (Int×Tok),v=partValue p/\p.map (·.1)=o:=by
 cases h with
 |none=>exact⟨No,rfl,rfl⟩
 |int i t=>exact⟨So (i,t),rfl,rfl⟩
theorem Jhb(n:Nat)(lo hi:BB):Builtin.Str.strSliceIndices lo hi 1 n=(List.range (six n n hi-six n 0 lo)).map λk=>six n 0 lo+k:=by
 have g:∀a b:Nat,sliceRange (a:Int) (b:Int) 1=(List.range (b-a)).map λk=>a+k:=λa b=>by
  unfold sliceRange;have e:(if(a:Int)<b then((b:Int)-a+1-1) / 1 else 0).toNat=b-a:=by split<;>simp<;>lia
  simp only[show(1:Int)>0 by decide,if_true,e];refine rG λk _=>?_;lia
 have f:∀(v:BB)(d:Nat),(match v with|none=>(d:Int)|some i=>max 0 (min (if i<0 then i+(n:Int)else i) n))=((six n d v:Nat):Int):=λv d=>by
  cases v with
  |none=>rfl
  |some i=>
   unfold six;by_cases h:i<0
   ·simp only[h,if_true];lia
   ·simp only[h,ZF];lia
 rw[<-g];have r:=f lo 0;have q:=f hi n;unfold Builtin.Str.strSliceIndices;simp only[show(1:Int)>0 by decide,if_true];rw[<-r,<-q];cases lo<;>cases hi<;>rfl
theorem Joo(x:Str)(lo hi:BB):Txt.slice x lo hi=mkS Uv:=by
 have g:x.cps.toList.length=x.length:=ZQ;have f:∀(d:Nat),d<=x.length->∀v,six Xy d v<=x.length:=λd r v=>by
  cases v with
  |none=>exact r
  |some i=>simp only[six];split<;>lia
 have C:=f 0 Xj lo;have B:=f Xy (Zh _) hi;have F:'ϱ'.filterMap (x.cps[·]?)=Pu.cutD XG lo hi:=by
  rw[Jhb,Pu.cutD,g];have:=StrLaws.picks XG (six Xy Xy hi-six Xy 0 lo);generalize six Xy 0 lo=a at C this;generalize six Xy Xy hi=b at B this;by_cases h:a<=b
  ·rw[<-this a 'g'];simp only[jI]
  ·rw[show b-a=0 by lia];simp
 unfold Txt.slice;rw[F];split
 ·rename_i h;have u:'ϱ'.length=x.length:=by simpa using h
  rw[Jhb,Zi,wH]at u;have q:six Xy 0 lo=0:=by lia
  have I:six Xy Xy hi=x.length:=by lia
  rw[Pu.cutD,g,q,I,Nat.sub_zero,List.drop_zero,<-g,List.take_length];rfl
 ·rfl
def rSlD (X:Cx):V->Option Int->Option Int->Hp->VK->Prop:=λx f g H Q=>∃d,Rep X.K H d x/\(match d with
 |.tup J=>Rs.ok (.tup (cutD J f g))
 |.lst J=>.ok (.lst (cutD J f g))
 |.str x=>if x.length<=20000 then .ok (.str (mkS (Pu.cutD XG f g)))else .sk
 |_=>.sk:Rs D).Good Cu Az
def slD:SlR X (rSlD X):=by
 rintro Y s Z H x v vl vu lo hi sl Q I C hs pl pu⟨d,r,h⟩;cases d with
 |tup J=>
  obtain⟨a,xs,rfl,B,h2⟩:=r;by_cases hw:HT.sIx Ah 0 lo=0/\HT.sIx Ah Ah hi=Ah
  ·cases C;obtain⟨its,r,ht,hz⟩:=I.tuple B;have f:CL=Ah:=by rw[Zo];exact r.length.symm
   refine⟨"tuple",_,Z3,ht.typeIs,HT.JcR ht hs pl pu (by rw[f];exact hw) ⟨.ref a,H,I,rfl,Out.now h ⟨a,xs,rfl,B,?_⟩⟩⟩;have e:=Jgg (lo:=lo) (hi:=hi) h2;have e2:cutV xs lo hi=xs:=by unfold cutV;rw[hw.1,hw.2];simp
   rw[e2]at e;exact e
  ·refine Jxm Y s Z H _ v vl vu lo hi sl Q I C hs pl pu ⟨a,xs,rfl,B,hw,λp hp=>?_⟩;obtain⟨s1,q1⟩:=wG (K:=X.K) hp (Jgg (lo:=lo) (hi:=hi) h2);exact h _ _ s1 q1
 |lst J=>obtain⟨a,xs,rfl,B,h2⟩:=r;refine Jtg Y s Z H _ v vl vu lo hi sl Q I C hs pl pu ⟨a,xs,rfl,B,λp hp=>?_⟩;obtain⟨s1,q1⟩:=zG (K:=X.K) hp (Jgg (lo:=lo) (hi:=hi) h2);exact h _ _ s1 q1
 |str x=>
  cases r;obtain⟨t,rfl⟩:=C;have h:(if x.length<=20000 then Rs.ok (D.str (mkS Uv))else Rs.sk:Rs D).Good Cu Az:=h;split at h
  ·rename_i hz;obtain⟨q,e1,e2⟩:=JlK pl;obtain⟨g,e3,e4⟩:=JlK pu;obtain⟨o,ho,hc,hd⟩:=hs;subst e1 e3 e2 e4;refine⟨"str",_,F.slot_str_getitem.lookup,sM _ _ _,wpAny_getItem_str_slice (l:=q) (u:=g) (st:=No) ⟨o,ho,hc,hd⟩ rfl (post_val_or_str ⟨?_,λt' k=>?_⟩)⟩
   ·exact Zq (Txt.slice_le x _ _) (Zq hz (show 20000<=sizeLine by rw[ZG];decide))
   ·refine⟨.str (Txt.slice x (q.map (·.1)) (g.map (·.1))),H,I.tok _,AS,?_⟩;rw[Joo];exact Out.now h rfl
  ·exact h.elim
 |_=>exact h.elim
def tO (X:Cx) (U:Ag) (p:Px):TO:=λZ H Q=>∃O,ReadOk X.K H Z O/\('ǈ'.bind D.bound).Good (λo=>∀W,Same H W->Q o W) Az
def pS:PO X No (tO X U Ei):=λY s Z H Q I⟨O,r,h⟩=>JuV Y s Z H Q I (h H D6)
def iS(h:Cg):PO X (So e) (tO X U (.un .asI p)):=λY s Z H Q I⟨O,r,f⟩=>JtD h Y s Z H Q I (by
 simp only[evD,Rs.bind_assoc]at f
 refine⟨O,r,(Rs.gB.mp f).imp λd g v W q u=>?_⟩
 cases d with
 |int i=>exact⟨i,u,g W q⟩
 |_=>exact(show False from g).elim)
def jU{lo hi:dN}{p2:Pos}(he:PE X e GX)(hl:PO X lo (tO X U pl))(hu:PO X hi (tO X U ph)):PE X Qb (tI X U (.sl pa pl ph)):=by refine PE.weak (Jph slD he hl hu) λZ H Q q=>?_;obtain⟨O,r,h⟩:=q;refine tI.then r h λd v H1 s1 rv B F=>?_;rw[<-Rs.bind_assoc]at F;refine⟨O,B,(Rs.gB.mp F).imp λl C H2 f=>?_⟩;rw[<-Rs.bind_assoc]at C;refine⟨O,B.mono f,((Rs.gB.mp C).imp λu I H3 g=>?_).mono (λ_ x=>x) λc x=>x.mono f⟩;refine⟨d,rv.mono bR,?_⟩;have h4:=I.mono (λd'(o:Out X H1 Q d')=>o.mono bR) λc(x:XW X H1 c)=>x.mono bR;cases d<;>exact h4
def tF.of{Q:VK}(h:tI X U p Z H Q)(u:∀O d,ReadOk X.K H Z O->evD U p O=.ok d->∃J,d=.lst J):tF X U p Z H Q:=by
 obtain⟨O,r,h⟩:=h;refine Dc;cases q:evD U p O with
 |ok d=>rw[q]at h;obtain⟨J,rfl⟩:=u O d r q;exact⟨J,rfl,λl xs W s B g f=>h _ _ s ⟨l,xs,rfl,SqL.of g,f⟩⟩
 |ex c=>rw[q]at h;exact h
 |sk=>rw[q]at h;exact h
noncomputable def isL:Px->Bool
 |.comp _ _ _ _=>To
 |.dis _=>To
 |_=>Fo
def Joc{d:D}(h:isL p=To)(e:evD U p O=.ok d):∃J,d=.lst J:=by
 cases p with
 |comp u a b c=>
  simp only[evD]at e;cases q:evD U a O with
  |ok f=>
   rw[q]at e;cases f with
   |lst J=>
    simp only[Rs.bo,D.asL]at e;split at e
    ·cases g:JY u (evD U b) Xp O J with
     |ok r=>rw[g]at e;cases e;exact⟨r,rfl⟩
     |ex c=>rw[g]at e;cases e
     |sk=>rw[g]at e;cases e
    ·cases e
   |_=>cases e
  |ex c=>rw[q]at e;cases e
  |sk=>rw[q]at e;cases e
 |dis a=>
  simp only[evD]at e;cases q:evD U a O with
  |ok f=>
   rw[q]at e;cases f with
   |lst J=>
    simp only[Rs.bo,D.asL]at e;split at e
    ·cases e;exact⟨J,rfl⟩
    ·cases e
   |_=>cases e
  |ex c=>rw[q]at e;cases e
  |sk=>rw[q]at e;cases e
 |_=>cases h
def jJ(h:Qdn)(g:isL p=To):PE X e Gh:=PE.weak h λZ H Q f=>tF.of f λO d _ q=>Joc g q
def nY(h:Qbq):PE X Qb9 (tF X U (.dis p)):=by
 refine PE.weak (Jsk h) λZ H Q g=>?_;obtain⟨O,r,h⟩:=g;refine⟨O,r,'ħ'.imp λd f=>?_⟩;cases d with
 |lst J=>
  simp only[D.asL,Rs.bo]at f;refine⟨J,rfl,λC W s rs=>?_⟩;split at f
  ·rename_i I;refine⟨by rw['ƚ',ZG];exact I,λa u=>?_⟩;obtain⟨q,r2⟩:=zG u rs;obtain⟨F,e',B⟩:=f;cases e';exact B a C _ (s.trans q) (s.free u) Je (rs.mono q)
  ·exact f.elim
 |_=>exact f.elim
def rC1 (X:Cx) (o:O1):List V->Hp->VK->Prop:=λxs H Q=>∃x d,xs=[x]/\Rep X.K H d x/\(op1 o d).Good Cu Az
def tC1{Q:VK}(h:O5):tCB QaG (tA X U (.cons pa .nil)) Z H Q:=by obtain⟨O,r,h⟩:=h;refine Dc;simp only[evD];refine Rs.gB.mpr ('ħ'.imp λd u=>?_);simp only[Rs.bo,D.asL];refine⟨[d],rfl,λC W s f=>?_⟩;obtain⟨x,F,g,B,q⟩:=f;cases q;subst g;exact⟨x,d,rfl,B,u.mono Oy λ_ x=>x.mono s⟩
section
variable{G:Gw}{N:Ac}{nm:Bj}{x:Str}{id T:Bg}{p1:Pos}
def jR(C:Am)(q:pA X DA QaG)(F:AO)(u:gloB nm x=To)(g:G.mg x=No)(r:bootBuiltins x=So DA)(B:x≠"__name__")(f:QW)
  (hs:Sv):PE X PL SK:=
 PE.weak (lT q bS (by rw[C.mg];exact g) r (Jc F Jm hs) B f hs rfl) λZ H Q h=>tC1 h
def kX(C:Am)(q:pA X EM QaG)(F:AO)(u:gloB nm x=To)(g:G.mg x=No)(r:bootBuiltins x=So EM)(B:x≠"__name__")(f:QW)
  (hs:Sv):PE X PL SK:=
 PE.weak (JhQ q bS (by rw[C.mg];exact g) r (Jc F Jm hs) B f hs rfl) λZ H Q h=>tC1 h
end
def Inv.kind(I:BU){a:Addr}{o f:HO}(h:H a=So o)(B:Mut (So o))(hn:ObjOk Xz X.w H VU a o->ObjOk Xz X.w (upd H a f) VU a f):L2.Inv X Y Z (upd H a f) s:=by
 have ne:∀{b u},H b=So u->Mut (So u)=False->upd H a f b=H b:=fun{b u}e m=>Jb λz=>by
  subst z
  rw[h]at e;cases e
  rw[m]at B;exact B
 have r:∀{b},H b=No->upd H a f b=No:=fun{b}e=>by rw[Jb λz=>by rw[z,h]at e;cases e];exact e
 exact{
  ok:=I.ok,os:=I.os,bare:=X8
  base:=⟨I.base.keep,I.base.slot,λb g hb h0 F=>r (I.base.free b g hb h0 F),I.base.there,λb xs q=>by rw[ne '亠' rfl];exact I.base.tups b xs q,λb g u q=>by rw[ne (I.base.frzs b g u q) rfl];exact I.base.frzs b g u q,λb qs q=>by
   obtain⟨m,e⟩:=I.base.tbls b qs q
   exact⟨m,by rw[ne e rfl];exact e⟩⟩
  loc:=Yi,cell:=I.cell,free:=r Yl,freeC:=λx c e=>r He
  pin:=λp C=>⟨(I.pin p C).1,r (I.pin p C).2.1,(I.pin p C).2.2⟩
  hok:=I.hok.write (by rw[h];exact B) Be K2 (HOk.has XD h) (hn (I.hok a o h))
  len:=I.len}
def Inv.asL(I:BU){a:Addr}{t:Str}(h:H a=So Ks):L2.Inv X Y Z Re s:=Inv.kind I h trivial id
def Inv.asM(I:BU){a:Addr}(t:Str)(h:H a=So AA):L2.Inv X Y Z (upd H a Ks) s:=Inv.kind I h trivial id
def Jwx{a:Addr}{o u:HO}(h:H a=So o):upd (upd H a u) a o=H:=funext λb=>by
 by_cases q:b=a
 ·subst q;rw[Je,h]
 ·rw[Jb q,Jb q]
def JwN:pA X MT (rC1 X .len):=by
 rintro Y s Z H xs B Q I q⟨x,d,e,r,h⟩;subst e;cases d with
 |str z=>
  simp only[op1]at h;split at h
  ·rename_i hz;exact JhM Y s Z H _ B Q I q ⟨z,by rw[show x=V.str z from r],yI hz,Out.now h rfl⟩
  ·exact h.elim
 |tup J=>obtain⟨a,ys,rfl,f,g⟩:=r;exact Jbu Y s Z H _ B Q I q ⟨a,ys,rfl,.inr f,by rw[g.length];exact Out.now h rfl⟩
 |lst J=>obtain⟨a,ys,rfl,f,g⟩:=r;exact Jbu Y s Z H _ B Q I q ⟨a,ys,rfl,.inl f,by rw[g.length];exact Out.now h rfl⟩
 |mls t J=>obtain⟨a,ys,rfl,f,g⟩:=r;refine thn (Jbu Y s Z _ _ B (λv W=>v=.int By/\W=upd H a FN) (Inv.asL I f) q ⟨a,ys,rfl,.inl (.inl (.inl Je)),rfl,rfl⟩) λu s1 F=>?_;obtain⟨v,H1,I1,C,e1,e2⟩:=F;subst e1 e2;have I2:=Inv.asM I1 t (xs:=ys) Je;rw[Jwx f]at I2;exact⟨_,H,I2,C,by rw[g.length];exact Out.now h rfl⟩
 |_=>exact(show False from h).elim
def JpM:pA X MK (rC1 X .tuple):=by
 rintro Y s Z H xs B Q I u⟨x,d,e,r,h⟩;subst e;cases d with
 |tup J=>obtain⟨a,f,rfl,g,q⟩:=r;exact Jcm Y s Z H _ B Q I u ⟨a,f,rfl,.inr ⟨g,Out.now h ⟨a,f,rfl,g,q⟩⟩⟩
 |lst J=>obtain⟨a,f,rfl,g,q⟩:=r;refine Jcm Y s Z H _ B Q I u ⟨a,f,rfl,.inl ⟨g,λl C=>?_⟩⟩;obtain⟨F,q1⟩:=wG (K:=X.K) C q;exact h _ _ F q1
 |_=>exact(show False from h).elim
def JuQ:pA X Rg (rC1 X .list):=by
 rintro Y s Z H xs us Q I F⟨x,d,e,r,h⟩;subst e;cases d with
 |tup J=>obtain⟨a,u,rfl,C,B⟩:=r;refine JcY Y s Z H _ us Q I F ⟨a,u,rfl,.inr C,λl f=>?_⟩;obtain⟨g,q⟩:=zG (K:=X.K) f B;exact h _ _ g q
 |lst J=>obtain⟨a,u,rfl,C,B⟩:=r;refine JcY Y s Z H _ us Q I F ⟨a,u,rfl,.inl C,λl f=>?_⟩;obtain⟨g,q⟩:=zG (K:=X.K) f B;exact h _ _ g q
 |_=>exact(show False from h).elim
theorem zZ:∀{J:Ak}{bs:List Bool}{xs:Av},jB J=So bs->Reps K H J xs->xs=bs.map V.bl
 |[],_,_,h,r=>by
  simp only[jB]at h
  cases h
  cases r
  rfl
 |d::J,bs,_,h,⟨x,r,e,h1,h2⟩=>by
  subst e
  cases d with
  |bl b=>
   simp only[jB]at h
   cases q:jB J with
   |none=>rw[q]at h;cases h
   |some f=>
    rw[q]at h
    cases h
    have:=zZ q h2
    subst this
    cases h1
    rfl
  |_=>simp[jB]at h
def JoO:'乞'.all Pg=bs.all id:=by
 induction bs with
 |nil=>rfl
 |cons b bs f=>rw[Zk,yV,fF,sL];simp only[fF,<-f];rfl
def Jms:'乞'.any Pg=bs.any id:=by
 induction bs with
 |nil=>rfl
 |cons b bs f=>rw[Zk,yV,pD,rL];simp only[pD,<-f];rfl
theorem Jkz(r:Cj)(I:BU){a:Addr}(h1:SqL X.K H a (bs.map V.bl)){Q:Ay}{g:Bool}{tr:Nat->Bool}
  (hq:∀h' C,(∀b o,s.heap.get? b=So o->h'.get? b=So o)->Q QaE {s with heap:=h',toks:=C}):
  wpAny AD YH Ii (λit f=>∃I fp wr n P St tr,it=.ref I/\Walks Xz X.w YH I fp wr n P St/\St 0 f.heap/\TruthOf Xz X.w YH P tr/\n=Qdx/\tr=(λi=>bs.getD i Fo)/\
   ∀h' C,(∀b o,b∉wr->f.heap.get? b=So o->h'.get? b=So o)->Q QaE {f with heap:=h',toks:=C}) X.xe s:=by
 obtain⟨its,rv,p,hz⟩:=I.list h1;have hh:X.A.in1.handled=No:=by show X.A.handled=No;exact I.ok.hd r
 refine xJ Yv ?_;obtain⟨o,ho,_⟩:=Yv;have hlt:a<Aa:=Zj ho;refine⟨Aa,_,_,_,_,_,λi=>bs.getD i Fo,rfl,Walks.list hh Aa a (Zu hlt) AF,⟨CP,p.isList.push _⟩,?_,?_,rfl,λh' C k=>?_⟩
 ·intro i v Q' E' s' hv q;have B:its[i]? =So v:=by simpa using hv
  have F:=Qdy;have hi:i<B1:=(Zz.mp B).1;have hbi:(bs.map V.bl)[i]? =So (V.bl (bs.getD i Fo)):=by rw[xB,lM,ZC (by rw[Zi]at F;lia)];rfl
  obtain⟨u,e1,e2⟩:=rv.get hbi;rw[B]at e1;cases e1;cases e2;exact jD q
 ·have F:=Qdy;rw[Zi]at F;rw[Zo];exact F.symm
 ·refine hq h' C λb o e=>k b o ?_ EH;intro hb;have:b=Aa:=by simpa using hb
  rw[this]at e;exact oQ _ (Zj e)
def Jye(f:Cj):pA X (.builtin "all") (rC1 X .all):=by
 rintro Y s Z H xs us Q I rv⟨x,d,e,r,h⟩;subst e;cases d with
 |lst J=>
  simp only[op1]at h;cases q:jB J with
  |none=>rw[q]at h;exact h.elim
  |some bs=>rw[q]at h;obtain⟨a,ys,rfl,h1,h2⟩:=r;have:=zZ q h2;subst this;obtain⟨u,rfl,F⟩:=xA rv;cases F;refine call_all_walk (thn (Jkz (g:=bs.all id) (tr:=λ_=>To) f I h1 (Q:=EP X Y Z Q) λh' C k=>Vt) λit s2 B=>?_);obtain⟨I',fp,wr,n,Pz,Sz,tr,e1,W9,st,tt,e2,e3,hq⟩:=B;subst e2;subst e3;refine Wn;rw[JoO];exact hq h' C k
 |_=>exact(show False from h).elim
def JxR(f:Cj):pA X (.builtin "any") (rC1 X .any):=by
 rintro Y s Z H xs us Q I rv⟨x,d,e,r,h⟩;subst e;cases d with
 |lst J=>
  simp only[op1]at h;cases q:jB J with
  |none=>rw[q]at h;exact h.elim
  |some bs=>rw[q]at h;obtain⟨a,ys,rfl,h1,h2⟩:=r;have:=zZ q h2;subst this;obtain⟨u,rfl,F⟩:=xA rv;cases F;refine call_any_walk (thn (Jkz (g:=bs.any id) (tr:=λ_=>To) f I h1 (Q:=EP X Y Z Q) λh' C k=>Vt) λit s2 B=>?_);obtain⟨I',fp,wr,n,Pz,Sz,tr,e1,W9,st,tt,e2,e3,hq⟩:=B;subst e2;subst e3;refine Wn;rw[Jms];exact hq h' C k
 |_=>exact(show False from h).elim
def tI.un1{Q:VK}{f:VK}(h:O5)(g:∀d v W,Same H W->Rep X.K W d v->(op1 o d).Good (Out X W Q) (XW X W)->f v W):tI X U pa Z H f:=by obtain⟨O,r,h⟩:=h;exact tI.then r h λd v W s u _ q=>g d v W s u q
def JlJ{d:D}(r:Dt):op1 .isN d=.ok (.bl (decide (v=.non)))/\op1 .notN d=.ok (.bl (!decide (v=.non))):=by
 cases d with
 |non=>cases r;rw[Zx rfl];exact Cw
 |_=>rw[Zs (by rintro rfl;first|(cases r;done)|(obtain⟨_,_,e,_⟩:=r;cases e;done)|(obtain⟨e,_⟩:=r;cases e;done)|(obtain⟨_,e,_⟩:=r;cases e;done)|(obtain⟨_,_,_,e,_⟩:=r;cases e))];exact Cw
def JvG{j p'}(q:AO):PT X (.Compare a [.Is] OG pos) (tT X U (.un .isN pa)):=
 PT.weak (lR (JxD q)) λZ H Q h=>h.asTest.un1 λd v W s g f=>by rw[(JlJ g).1]at f;exact Out.now f rfl
def Jml{j p'}(q:AO):PT X (.Compare a [.IsNot] OG pos) (tT X U (.un .notN pa)):=
 PT.weak (lR (JsZ q)) λZ H Q h=>h.asTest.un1 λd v W s g f=>by rw[(JlJ g).2]at f;exact Out.now f rfl
def JxN(q:AO):PE X (.UnaryOp .USub a pos) (tI X U (.un .neg pa)):=by
 refine PE.weak (pe_un Jys q) λZ H Q h=>h.un1 λd v W s g f=>?_;cases d with
 |int i=>exact⟨i,g,Out.now f rfl⟩
 |_=>exact(show False from f).elim
def tI.chain{o1 F:O2}{Q:VK}(h:tI X U (.and (.bi o1 pa pb) (.bi F pb pc)) Z H Q):JrV (rD2 X o1) (rD2 X F) GX LP (tI X U pc) Z H Q:=by
 obtain⟨O,r,h⟩:=h;simp only[evD,Rs.bind_assoc]at h;refine tI.then r h λdx x H1 s1 r1 B f=>?_;cases u:evD U pb O with
 |ok dy=>
  rw[u]at f;refine⟨O,B,?_⟩;rw[u];intro y I q r2;have h2:=f.mono (λd(o:Out X H1 Q d)=>o.mono q) λc(x:XW X H1 c)=>x.mono q;simp only[Rs.bo]at h2;refine⟨dx,dy,r1.mono q,r2,(Rs.gB.mp h2).imp λdz C z H3 g r3=>?_⟩;cases dz with
  |bl k=>
   refine⟨k,r3,?_⟩;cases k with
   |true=>have h3:=C.mono (λd(o:Out X I Q d)=>o.mono g) λc(x:XW X I c)=>x.mono g;refine iteT (tI.then (B.mono (q.trans g)) h3 λdw w H4 s4 r4 q4 h4=>⟨dy,dw,r2.mono (g.trans s4),r4,h4⟩)
   |false=>exact iteF (C _ _ g rfl)
  |_=>exact C.elim
 |ex c=>exact⟨O,B,by rw[u]at f⊢;exact f⟩
 |sk=>rw[u]at f;exact f.elim
def Jpp{r q:O2}{op f:bM}(C:OpR X Lc (rD2 X r))(g:OpR X (compareOp f) (rD2 X q))(I:AO)(F:BJ)(B:PE X c (tI X U pc))
  (u:lastMarks [op,f] [b,c]=Fo):PE X (.Compare a [op,f] [b,c] pos) (tI X U (.and (.bi r pa pb) (.bi q pb pc))):=PE.weak (JpR C g I F B u) λZ H Q h=>h.chain
end
noncomputable def qK (t:Bool):String:=if t then "tuple_iterator" else "list_iterator"
def IsIt(t:Bool)(h:Heap)(it a:Addr)(i:Nat):Prop:=∃o,h.get? it=So o/\o.cls=.type (qK t)/\o.data=.fields #[.ref a,.int i 0]
def IsSq(t:Bool)(h:Heap)(a:Addr)(items:B7):Prop:=match t with
 |true=>h.IsTuple a items
 |false=>h.IsList a items
def IsIt.stay(x:Qd2)(k:∀o,h.get? it=So o->h'.get? it=So o):IsIt t h' it a i:=let⟨o,e,r⟩:=x;⟨o,k o e,r⟩
def IsSq.stay(x:IsSq t h a items)(k:∀o,h.get? a=So o->h'.get? a=So o):IsSq t h' a items:=by
 cases t
 ·exact let⟨o,e,r⟩:=(show h.IsList a items from x);(show h'.IsList a items from⟨o,k o e,r⟩)
 ·exact let⟨o,e,r⟩:=(show h.IsTuple a items from x);(show h'.IsTuple a items from⟨o,k o e,r⟩)
def IsIt.lt(x:Qd2):it<Bz:=let⟨_,e,_⟩:=x;Zj e
def lV{x:An}{Q:Ay}(hit:NK)(I:Oi)(u:items[i]? =So x)
  (C:∀h',IsIt t h' it a Bw->Heap.SameBut it VU h'->Q x {s with heap:=h'}):wpAny Au A UR Q E s:=by
 cases t with
 |false=>exact wpAny_nextOf_list_item (l:=a) (i:=i) hit I u C
 |true=>obtain⟨o,f,B,g⟩:=id hit;obtain⟨ol,r,_,U,q⟩:=(show s.heap.IsTuple a items from I);have ty:s.TypeIs B8 "tuple_iterator":=⟨o,f,B⟩;unfold Builtin.SmallTypes.nextOf;refine Za (ZM (name:=oS "__next__") ty kQ (ZD kQ ty b0 ?_ UY));show wpAny _ _ (field B8 0>>=_) _ _ s;refine Za (ZS f g (x:=.ref a) rfl ?_);show wpAny _ _ (if(Value.ref a==Xx)=To then _ else _) _ _ s;rw[if_neg (show¬((Value.ref a==Value.none)=To)from ZH)];show wpAny _ _ (field B8 1>>=_) _ _ s;refine Za (ZS f g (x:=.int i 0) rfl ?_);show wpAny _ _ (seqItems? Ar>>=_) _ _ s;refine Za (uC r q ?_);simp only[qF,u];refine Za (sC f g Ad (Zb ⟨x,rfl,Zb (C _ ?_ (sF ..))⟩));refine⟨_,ZX _ f (wV (yJ g _)),(Obj.cls_mapFields ..).trans B,?_⟩;rw[yJ g];simp[rawInt]
def JcE{Q:Ay}(u:Bh)(hit:NK)(C:Oi)(B:items[i]? =No)
  (hE:∀h' e,Heap.ExtBut it VU h'->(∃o,h'.get? e=So o/\o.cls=.type "StopIteration")->E IQ {s with heap:=h'}):wpAny Au A UR Q E s:=by
 cases t with
 |false=>exact wpAny_nextOf_list_end u (l:=a) (i:=i) hit C B hE
 |true=>
  obtain⟨o,f,I,q⟩:=id hit;obtain⟨ol,r,_,U,g⟩:=(show s.heap.IsTuple a items from C);have ty:s.TypeIs B8 "tuple_iterator":=⟨o,f,I⟩;unfold Builtin.SmallTypes.nextOf;refine Za (ZM (name:=oS "__next__") ty kQ (ZD kQ ty b0 ?_ UY));show wpAny _ _ (field B8 0>>=_) _ _ s;refine Za (ZS f q (x:=.ref a) rfl ?_);show wpAny _ _ (if(Value.ref a==Xx)=To then _ else _) _ _ s;rw[if_neg (show¬((Value.ref a==Value.none)=To)from ZH)];show wpAny _ _ (field B8 1>>=_) _ _ s;refine Za (ZS f q (x:=.int i 0) rfl ?_);show wpAny _ _ (seqItems? Ar>>=_) _ _ s;refine Za (uC r g ?_);simp only[qF,B];refine Za (kB (Za (sC f q Ad ?_)));show wpAny _ _ (newExc Nh []>>=_) _ _ _;refine Za ?_;simp only[newExc,newTuple];refine Za (ZJ ?_ (by size_fits));refine Za (m:=firstArgMember _ _) (wpAny_of_eq (a:=Xx) (by first|rfl|(simp only[firstArgMember];rfl)) (ZJ ?_ (by size_fits)));delta raiseNew;refine Za (wpAny_handled ?_);first|rw[show A.in1.handled=No from u]|rw[u]
  refine Za (Zb (wpAny_throw ?_));exact hE _ _ (((sF ..).extBut.push _).push _) F6
def JjK(F:Bh)(t:Bool)(it a:Addr)(q:a≠it)(items:B7):
  Draws prog w A it [it,a] Aw (λi v=>items[i]? =So v) (λi h=>IsIt t h it a i/\IsSq t h a items)where
 live:=λ_ _ st=>let⟨o,C,_⟩:=st.1;⟨o,C⟩
 frame:=λ_ _ _ st r=>⟨st.1.stay λo e=>r it Ad o e,st.2.stay λo e=>r a Ad o e⟩
 item:=λi s Q E u st B=>lV st.1 st.2 (x:=items[i]) (by simp[u]) λh' g f=>B _ h' Xv (by simp[u]) ⟨g,st.2.stay λo e=>f.extBut a o q e⟩ f
 done:=λs Q E st hE=>JcE F st.1 st.2 Ad hE
def Sq(K:Aj)(t:Bool)(H:Hp)(a:Addr)(xs:Av):Prop:=match t with
 |true=>SqT K H a xs
 |false=>SqL K H a xs
def Sq.same(e:Ca)(h:Sq K t H a xs):Sq K t W a xs:=by
 cases t
 ·exact Same.seq e (show SqL K H a xs from h)
 ·exact SqT.same e (show SqT K H a xs from h)
section
variable{ys:Av}
def xE(I:BU)(h:MG):∃its:List Value,Vals xs its/\IsSq t VU a AF/\xs.length<=sizeLine:=by
 cases t
 ·obtain⟨its,r,p,z⟩:=I.list h;exact⟨its,r,Yv,z⟩
 ·obtain⟨its,r,p,z⟩:=I.tuple h;exact Qd5
def mY(I:BU)(h:MG)(h':Sq X.K t H a ys):xs=ys:=by
 cases t
 ·exact I.list_inj h h'
 ·exact I.tuple_inj h h'
def qW(I:BU)(h:MG){o:Obj}(e:s.heap.get? b=So o)(r:o.cls≠.type "list")(g:o.cls≠.type "tuple"):a≠b:=by
 rintro rfl;obtain⟨u,_,p,_⟩:=xE I h;cases t
 ·obtain⟨B,f,q,_⟩:=(show s.heap.IsList a _ from p);rw[e]at f;cases f;exact r q
 ·obtain⟨B,f,q,_⟩:=(show s.heap.IsTuple a _ from p);rw[e]at f;cases f;exact g q
end
def Ite (K:Aj) (t:Bool) (a:Addr):It:=
 ⟨λi H=>∃xs x,Sq K t H a xs/\xs[i]? =So x,λi H x W=>∃T v,H T=No/\x=.ref T/\W=upd H T (.tup [.int i,v])/\∀xs,Sq K t H a xs->xs[i]? =So v,λi H=>∃xs,Sq K t H a xs/\xs.length=i⟩
def rO{tk:Nat}{ch:A9}(I:BU)(B:∀b∈ch,FpOk X Y H b)(k:∀b o,b∉ch->s.heap.get? b=So o->h'.get? b=So o):
  L2.Inv X Y Z H {s with heap:=h',toks:=tk}:=by
 refine I.step (g':=Y6) (d':=Yz) (ch:=ch) (λb g=>?_) (λb o _ _ f e _=>k b o f e) (λb o _ _ f e _=>⟨o.slots,k b o f e⟩) Oc (λb o f e=>⟨o,k b o f e⟩) (λ_ _ e=>e) (λ_ _ _ e=>e) (λb ps e=>⟨#[],by rw[e];simp⟩) (λm F=>?_) (λb u e=>?_) X8
 ·obtain⟨_,U,_,f3,f4,f5⟩:=B b g;exact⟨f3,U,f4,f5⟩
 ·obtain⟨o,es,ep,ho,r⟩:=F;exact⟨o,es,ep,k _ o (λg=>(B _ g).2.1 rfl) ho,r⟩
 ·refine(I.hok b u e).stay (λc v f q=>k c v ?_ q) L9 λ_ _ q=>q;intro g;have C:=(B c g).1;rcases f with z|z
  ·rw[<-z,C]at e;cases e
  ·rw[C]at z;cases z
def Jca{tk:Nat}{ch:A9}{o:HO}(I:BU)(U:∀b∈ch,FpOk X Y H b)(k:∀b o,b∉ch->s.heap.get? b=So o->h'.get? b=So o)
  (hp:Aa<=a) (new:QK):L2.Inv X Y Z ES {s with heap:=h',toks:=tk}:=by
 have hn:H a=No:=I.hok.fresh hp;have f:∀b u,H b=So u->b≠a:=λb u e z=>by rw[z,hn]at e;cases e
 have ne2:∀b ob,s.heap.get? b=So ob->b≠a:=λb ob e=>Zu (ZB (Zj e) hp);refine I.step (g':=Y6) (d':=Yz) (ch:=ch) (λb B=>?_) (λb o _ _ g e _=>k b o g e) (λb o _ _ g e _=>⟨o.slots,k b o g e⟩) (λb ob _ e n=>by rw[Jb (ne2 b ob e)];exact n) (λb o g e=>⟨o,k b o g e⟩)
  (λb xs e=>by rw[Jb (f b _ e)];exact e) (λb ob u e=>by rw[Jb (f b _ e)];exact e) (λb ps e=>⟨#[],by rw[Jb (f b _ e),e];simp⟩) (λm hm=>?_) (λb u e=>?_) X8
 ·obtain⟨_,f1,_,f3,f4,f5⟩:=U b B;exact⟨f3,f1,f4,f5⟩
 ·obtain⟨o,es,ep,ho,r⟩:=hm;exact⟨o,es,ep,k _ o (λB=>(U _ B).2.1 rfl) ho,r⟩
 ·by_cases B:b=a
  ·subst B;rw[Je]at e;cases e;exact new
  ·rw[Jb B]at e;refine(I.hok b u e).stay (λc v g q=>k c v ?_ q) (λc q=>?_) (λc xs q=>?_) λc o' u' q=>by rw[Jb (f c _ q)];exact q
   ·intro F;have C:=(U c F).1;rcases g with z|z
    ·rw[<-z,C]at e;cases e
    ·rw[C]at z;cases z
   ·rw[Jb (f c _ q)];exact q
   ·rw[Jb (f c _ q)];exact q
def Jng{tpos:Pos}(t:Bool)(a it e:Addr)(hne:e≠it):
  Turn P w K OS (Ite K t a) [e,it] e (λi h=>(∃f,IsEnum h e it i f)/\IsIt t h it a i)where
 mem:=by simp
 obj:=λi h st b g=>by
  obtain⟨⟨f,B⟩,o,ho,hc,hd⟩:=st
  rcases Zf.mp g with rfl|g
  ·exact⟨_,B,λv z=>by cases z⟩
  ·have e:b=it:=by simpa using g
   subst e
   exact⟨o,ho,λv z=>by rw[hd]at z;cases z⟩
 keep:=λi h h' st q=>⟨let⟨f,B⟩:=st.1;⟨f,q e Ad _ B⟩,st.2.stay λo x=>q it Ad o x⟩
 item:=by
  intro X hP hw hK hc i Y s Z H E I hf st hg;subst hP hw hK;obtain⟨xs,x,F,hx⟩:=hg;obtain⟨its,rv,p,hz⟩:=xE I F;obtain⟨u,hu,ru⟩:=rv.get hx;obtain⟨⟨f,B⟩,hit⟩:=st;obtain⟨o,ho,r,hod⟩:=id hit;have na:a≠it:=qW I F ho (by rw[r];cases t<;>simp[qK]) (by rw[r];cases t<;>simp[qK]);have nae:a≠e:=qW I F B Ad Ad;have hlt:i<CL:=by have:=(Zz.mp hu).1;simpa using this
  have D:=JjK (prog:=Xz) (w:=X.w) (A:=YH) (show X.A.in1.handled=No from I.ok.hd hc) t it a na AF;refine wpAny_pyNext_enum_itemD D B ⟨hit,p⟩ hlt hne (by simp[hne,Ne.symm nae]) λy h' tk hP ho' hs' hT hsz hk=>?_;have hy:y=u:=by
   have e1:AF[i]? =So y:=hP;have e2:AF[i]? =So u:=by simpa using hu
   rw[e1]at e2;exact sD e2
  subst hy;refine⟨_,rfl,wpAny_letOwnedTupleGo_enum ho' λh2 he2 C=>?_⟩;have hel:e<Aa:=Zj B;have hil:it<Aa:=hit.lt;have U:∀b o,b∉[e,it]->s.heap.get? b=So o->h2.get? b=So o:=λb o g q=>by have h1:b≠e:=λz=>g (by simp[z]);have h3:b≠it:=λz=>g (by simp[z]);exact(C.2 b h1).trans (hk b o h1 h3 q)
  have hT2:h2.get? Aa=So {cls:=.type "tuple",data:=.seq #[.int i tk,y]}:=(C.2 _ (rC hel)).trans hT;have hfr:H Aa=No:=I.hok.fresh (Zh _);have I2:L2.Inv X Y Z (upd H Aa (.tup [.int i,x])) {s with heap:=h2,toks:=tk+1}:=
   Jca I hf U (Zh _) ⟨⟨by rw[ZG];show 2<=_;decide,λo q=>by rw[hT2]at q;cases q;rfl⟩,[.int i tk,y],.cons ⟨tk,rfl⟩ (.cons ru .nil),_,hT2,rfl,_,rfl⟩
  refine⟨.ref Aa,_,I2,rfl,⟨Aa,x,hfr,rfl,rfl,λzs hzs=>by rw[mY I hzs F];exact hx⟩,⟨⟨_,by simpa using he2⟩,hs'.1.stay λo q=>(C.2 it hne.symm).trans q⟩,λb g=>?_⟩;rcases Zf.mp g with rfl|g
  ·rw[Jb (Zu hel)];exact(hf b Ad).1
  ·have e:b=it:=by simpa using g
   subst e;rw[Jb (Zu hil)];exact(hf b Ad).1
 done:=by
  intro X hP hw hK hc i Y s Z H E I hf st hg;subst hP hw hK;obtain⟨xs,F,hx⟩:=hg;obtain⟨its,rv,p,hz⟩:=xE I F;obtain⟨⟨f,B⟩,hit⟩:=st;obtain⟨o,ho,r,hod⟩:=id hit;have na:a≠it:=qW I F ho (by rw[r];cases t<;>simp[qK]) (by rw[r];cases t<;>simp[qK]);have hl:=Qdy;have hin:i=CL:=by rw[Zo,<-hl,hx]
  have D:=JjK (prog:=Xz) (w:=X.w) (A:=YH) (show X.A.in1.handled=No from I.ok.hd hc) t it a na AF;refine wpAny_pyNext_enum_endD D B (by rw[<-hin];exact⟨hit,p⟩) λh' hx'=>⟨rfl,rO (tk:=Xv) I hf λb o g q=>hx' b o (λz=>g (by simp[z])) q⟩
 self:=λA i s Q E st h=>let⟨⟨f,B⟩,_⟩:=st;wpAny_pyIter_enum B h
structure Apart(z TI TO i1 i2:Addr):Prop where
 all:[z,TI,TO,i1,i2].Nodup
def Apart.ne{z TI TO g f:Addr}(D:Apart z TI TO g f):TI≠z/\TO≠z/\g≠z/\f≠z/\TI≠TO/\TI≠g/\TI≠f/\TO≠g/\TO≠f/\g≠f:=by have h:=D.all;simp only[oB,Zf,Zy,fA,not_or]at h;obtain⟨⟨u,I,q,a4⟩,⟨F,U,b3⟩,⟨C,B⟩,r,_⟩:=h;exact⟨Ne.symm u,Ne.symm I,Ne.symm q,Ne.symm a4,F,U,b3,C,B,r⟩
section
variable{z TI TO i1 i2 l1 l2:Addr}{xs ys:B7}{x y a b:An}
def Juv{Q:Ay}(D:RY)(hz:Qk)(hTI:Va)(hTO:NJ)(h1:OL)(h2:OK)
  (hl1:NI) (hl2:NH) (n1:l1∉[z,TO,i1,i2]) (n2:l2∉[z,TO,i1,i2]) (hx:xs[k]? =So x) (hy:ys[k]? =So y)
  (hQ:∀h',IsZip h' z TI TO (rawInt Aa)->IsPair h' TO x y->IsIt t1 h' i1 l1 AZ->IsIt t2 h' i2 l2 AZ->IsPair h' Aa x y->(∀c o,c∉[z,TO,i1,i2]->s.heap.get? c=So o->h'.get? c=So o)->Q Fi {s with heap:=h'}):
  wpAny Au A (Builtin.«zip.__next__» Qb2) (λfin s'=>∃v,fin=.done (.ret v)/\Q v s') E s:=by
 obtain⟨d1,d2,d3,d4,d5,d6,d7,d8,d9,d10⟩:=D.ne;simp only[Zf,Zy,fA,not_or]at n1 n2;obtain⟨m1,m2,m3,m4⟩:=n1;obtain⟨o1,o2,o3,o4⟩:=n2;show wpAny _ _ (field EG 2>>=_) _ _ _;refine Za (ZS hz rfl (x:=.bool Fo) rfl ?_);show wpAny _ _ (field EG 3>>=_) _ _ _;refine Za (ZS hz rfl (x:=.ref TI) rfl (Za (uC hTI rfl ?_)));show wpAny _ _ (Builtin.SmallTypes.ownedTupleIsFree (.ref z)>>=_) _ _ _;refine Za ?_;unfold Builtin.SmallTypes.ownedTupleIsFree;refine Za (ZS hz rfl (x:=.none) rfl (Zb ?_));simp only[if_true];refine Za (kB (Za (ZS hz rfl (x:=.ref TO) rfl (Za (qC hz Ad λg1 I U=>?_)))));replace I:IsZip g1 z TI TO .ellipsis:=I;refine Za ?_;simp only[List.zipIdx_cons,List.zipIdx_nil,oP,wO];refine Za (Za (wpAny_onRaise ?_));show wpAny _ _ (Builtin.SmallTypes.nextOf (.ref i1)>>=_) _ _ _;refine Za (lV (h1.stay λo e=>U.extBut _ _ d3 e) (hl1.stay λo e=>U.extBut _ _ m1 e) hx λg2 k1 s2=>Zb ?_);have F:IsPair g2 TO a b:=s2.extBut _ _ d8 (U.extBut _ _ d2 hTO);refine Za (uC F rfl (Za (pV F λg3 u s3=>?_)));replace u:IsPair g3 TO x b:=u;refine Za (wpAny_letGo (Zb ?_));refine Za (Za (wpAny_onRaise ?_));show wpAny _ _ (Builtin.SmallTypes.nextOf (.ref i2)>>=_) _ _ _;refine Za (lV (h2.stay λo e=>s3.extBut _ _ Ig (s2.extBut _ _ QdJ (U.extBut _ _ d4 e))) (hl2.stay λo e=>s3.extBut _ _ o2 (s2.extBut _ _ o3 (U.extBut _ _ o1 e))) hy λg4 k2 s4=>Zb ?_);have C:IsPair g4 TO x b:=s4.extBut _ _ d9 u;refine Za (uC C rfl (Za (pV C λf g s5=>?_)));replace g:IsPair f TO x y:=g;refine Za (wpAny_letGo (Zb (Zb (Za (uC g rfl (Za (wpAny_newTuple ?_)))))));have hsz:f.objs.size=Aa:=by rw[s5.1,s4.1,s3.1,s2.1,U.1]
 have hz5:IsZip f z TI TO .ellipsis:=s5.extBut _ _ Ie (s4.extBut _ _ (Ne.symm d4) (s3.extBut _ _ Ie (s2.extBut _ _ Ic I)));have kp:∀c o,c∉[z,TO,i1,i2]->s.heap.get? c=So o->f.get? c=So o:=λc o r e=>by simp only[Zf,Zy,fA,not_or]at r;exact s5.extBut _ _ r.2.1 (s4.extBut _ _ r.2.2.2 (s3.extBut _ _ r.2.1 (s2.extBut _ _ r.2.2.1 (U.extBut _ _ r.1 e))))
 have e1:IsIt t1 f i1 l1 AZ:=k1.stay λo e=>s5.extBut _ _ (Ne.symm d8) (s4.extBut _ _ d10 (s3.extBut _ _ (Ne.symm d8) e));have e2:IsIt t2 f i2 l2 AZ:=k2.stay λo e=>s5.extBut _ _ Ig e;have zl:z<f.objs.size:=Zj hz5;show wpAny _ _ (Builtin.SmallTypes.ownedTupleHandOut EG (.ref dS)>>=_) _ _ _;refine Za ?_;unfold Builtin.SmallTypes.ownedTupleHandOut;have hz6:IsZip (f.push {cls:=.type "tuple",data:=.seq #[x,y]}) z TI TO .ellipsis:=Zd _ hz5;refine Za (qC hz6 Ad λg7 hz7 s7=>?_);replace hz7:IsZip g7 z TI TO OR:=hz7;refine qC hz7 Ad λg8 B s8=>?_;replace B:IsZip g8 z TI TO OR:=B;have up:∀c o,c≠z->f.get? c=So o->g8.get? c=So o:=λc o r e=>s8.extBut _ _ r (s7.extBut _ _ r EH);have hT8:IsPair g8 dS x y:=s8.extBut _ _ (rC zl) (s7.extBut _ _ (rC zl) FU);rw[hsz]at B hT8;refine Zb Il;show Q (.ref dS) _;rw[hsz];exact hQ g8 B (up _ _ d2 g) (e1.stay λo e=>up _ o d3 e) (e2.stay λo e=>up _ o d4 e) hT8 λc o r e=>up c o (λq=>r (by simp[q])) (kp c o r e)
def JwT{Q:Fin->Shared->Prop}(hh:Bh)(D:RY)(hz:Qk)(hTI:Va)(hTO:NJ)(h1:OL)(h2:OK)
  (hl1:NI) (hl2:NH) (n1:l1∉[z,TO,i1,i2]) (n2:l2∉[z,TO,i1,i2]) (hend:xs[k]? =No\/ys[k]? =No)
  (hE:∀h' e,(∀c o,c∉[z,TO,i1,i2]->s.heap.get? c=So o->h'.get? c=So o)->(∃o,h'.get? e=So o/\o.cls=.type "StopIteration")->E IQ {s with heap:=h'}):
  wpAny Au A (Builtin.«zip.__next__» Qb2) Q E s:=by
 obtain⟨d1,d2,d3,d4,d5,d6,d7,d8,d9,d10⟩:=D.ne;simp only[Zf,Zy,fA,not_or]at n1 n2;obtain⟨m1,m2,m3,m4⟩:=n1;obtain⟨o1,o2,o3,o4⟩:=n2;show wpAny _ _ (field EG 2>>=_) _ _ _;refine Za (ZS hz rfl (x:=.bool Fo) rfl ?_);show wpAny _ _ (field EG 3>>=_) _ _ _;refine Za (ZS hz rfl (x:=.ref TI) rfl (Za (uC hTI rfl ?_)));show wpAny _ _ (Builtin.SmallTypes.ownedTupleIsFree (.ref z)>>=_) _ _ _;refine Za ?_;unfold Builtin.SmallTypes.ownedTupleIsFree;refine Za (ZS hz rfl (x:=.none) rfl (Zb ?_));simp only[if_true];refine Za (kB (Za (ZS hz rfl (x:=.ref TO) rfl (Za (qC hz Ad λg1 B C=>?_)))));replace B:IsZip g1 z TI TO .ellipsis:=B;refine Za ?_;simp only[List.zipIdx_cons,List.zipIdx_nil,oP,wO];refine Za (Za (wpAny_onRaise ?_));show wpAny _ _ (Builtin.SmallTypes.nextOf (.ref i1)>>=_) _ _ _;have f:∀c,c∉[z,TO,i1,i2]->c≠z/\c≠TO/\c≠i1/\c≠i2:=λc r=>by simpa[not_or]using r
 cases hx:xs[k]? with
 |none=>
  refine Za (JcE hh Vk Vr hx λg2 e F he=>?_);obtain⟨oe,g,u⟩:=he;have hz2:IsZip g2 z TI TO .ellipsis:=F _ _ Ic B;have hez:e≠z:=λq=>by subst q;rw[hz2]at g;cases g;simp at u
  exact qC hz2 Ad λg3 _ U=>hE g3 e (λc o r q=>U.extBut _ _ (f c r).1 (F _ _ (f c r).2.2.1 (C.extBut _ _ (f c r).1 q))) ⟨oe,U.extBut _ _ hez g,u⟩
 |some x=>
  have hy:ys[k]? =No:=by rcases hend with q|q;(·rw[hx]at q;cases q);exact q
  refine Za (lV Vk Vr hx λg2 k1 F=>Zb ?_);have I:IsPair g2 TO a b:=F.extBut _ _ d8 (C.extBut _ _ d2 hTO);refine Za (uC I rfl (Za (pV I λg3 hTO3 U=>Za (wpAny_letGo (Zb ?_)))));refine Za (Za (wpAny_onRaise ?_));show wpAny _ _ (Builtin.SmallTypes.nextOf (.ref i2)>>=_) _ _ _;refine Za (JcE hh (h2.stay λo e=>U.extBut _ _ Ig (F.extBut _ _ QdJ (C.extBut _ _ d4 e))) (hl2.stay λo e=>U.extBut _ _ o2 (F.extBut _ _ o3 (C.extBut _ _ o1 e))) hy λg4 e s4 he=>?_);obtain⟨oe,g,u⟩:=he;have hz4:IsZip g4 z TI TO .ellipsis:=s4 _ _ (Ne.symm d4) (U.extBut _ _ Ie (F.extBut _ _ Ic B));have hez:e≠z:=λq=>by subst q;rw[hz4]at g;cases g;simp at u
  exact qC hz4 Ad λg5 _ s5=>hE g5 e (λc o r q=>s5.extBut _ _ (f c r).1 (s4 _ _ (f c r).2.2.2 (U.extBut _ _ (f c r).2.1 (F.extBut _ _ (f c r).2.2.1 (C.extBut _ _ (f c r).1 q))))) ⟨oe,s5.extBut _ _ hez g,u⟩
end
def Jkw{f:Av}(I:BU)(h:Sq X.K t H l f)(g:FpOk X Y H b):l≠b:=by
 rintro rfl;have mod:∀o,X.K.lookup l=So o->False:=λo e=>by
  have r:=I.mod.kin l o e;rcases g.2.2.2.1 with q|q
  ·exact I.ok.noex l o r q
  ·exact absurd (ZB (Zj (I.ok.bs l o r).1) q) CH
 have B:∀u,Rd H l u->False:=λu q=>by rcases q with q|⟨o,q⟩<;>(rw[g.1]at q;cases q)
 cases t
 ·rcases(show SqL X.K H l f from h)with q|⟨o,_,_,q,_⟩
  ·exact B _ q
  ·exact mod o q
 ·rcases(show SqT X.K H l f from h)with q|⟨_,o,_,_,_,q,_⟩
  ·exact B _ (.inl q)
  ·exact mod o q
def Itz (K:Aj) (t1 t2:Bool) (q g:Addr):It:=
 ⟨λi H=>∃xs f x y,Sq K t1 H q xs/\Sq K t2 H g f/\xs[i]? =So x/\f[i]? =So y,
  λi H x W=>∃T u v,H T=No/\x=.ref T/\W=upd H T (.tup [u,v])/\(∀xs,Sq K t1 H q xs->xs[i]? =So u)/\∀f,Sq K t2 H g f->f[i]? =So v,
  λi H=>∃xs f,Sq K t1 H q xs/\Sq K t2 H g f/\(xs[i]? =No\/f[i]? =No)⟩
def Jwg(z TI TO g f r q:Addr)(t1 t2:Bool)(i:Nat)(h:Heap):Prop:=IsZip h z TI TO .none/\IsPair h TI (.ref g) (.ref f)/\(∃a b,IsPair h TO a b)/\IsIt t1 h g r i/\IsIt t2 h f q i
def JpN{tpos:Pos}(t1 t2:Bool)(l1 l2 z TI TO i1 i2:Addr)(D:RY):
  Turn P w K OS (Itz K t1 t2 l1 l2) [z,TI,TO,i1,i2] z (Jwg z TI TO i1 i2 l1 l2 t1 t2)where
 mem:=by simp
 obj:=λi h st b g=>by
  obtain⟨h1,C,⟨a,c,h3⟩,⟨o4,h4,_,h4'⟩,⟨o5,h5,_,h5'⟩⟩:=st
  simp only[Zf,Zy,fA]at g
  rcases g with rfl|rfl|rfl|rfl|rfl
  ·exact⟨_,h1,λv q=>by cases q⟩
  ·exact⟨_,C,λv q=>by cases q⟩
  ·exact⟨_,h3,λv q=>by cases q⟩
  ·exact⟨_,h4,λv q=>by rw[h4']at q;cases q⟩
  ·exact⟨_,h5,λv q=>by rw[h5']at q;cases q⟩
 keep:=λi h h' st q=>let⟨h1,C,⟨a,c,h3⟩,h4,h5⟩:=st;⟨q z Ad _ h1,q TI Ad _ C,⟨a,c,q TO Ad _ h3⟩,h4.stay λo e=>q i1 Ad o e,h5.stay λo e=>q i2 Ad o e⟩
 item:=by
  intro X hP hw hK r i Y s Z H E I hf st hg;subst hP hw hK;obtain⟨xs,ys,x,y,q1,q2,hx,hy⟩:=hg;obtain⟨its,rv,p1,_⟩:=xE I q1;obtain⟨its2,rv2,p2,_⟩:=xE I q2;obtain⟨u,hu,ru⟩:=rv.get hx;obtain⟨v,hv,rw2⟩:=rv2.get hy;obtain⟨hz,B,⟨a,b,U⟩,j1,j2⟩:=st;have f:∀{t:Bool}{l:Addr}{zs:Av},Sq X.K t H l zs->l∉[z,TO,i1,i2]:=fun{t l zs}q g=>
   Jkw I q (hf l (by simp only[Zf,Zy,fA]at g⊢;rcases g with e|e|e|e<;>simp[e])) rfl
  have hT:s.TypeIs EG "zip":=⟨_,hz,rfl⟩;unfold pyNext;refine Za (nE (ZM (name:=oS "__next__") hT yO (ZD yO hT QcR
   (Juv D hz B U j1 j2 p1 p2 (f q1) (f q2) (x:=u) (y:=v) (by simpa using hu) (by simpa using hv) λh' a1 a2 a3 a4 a5 a6=>Zb ?_) Pf)))
  refine⟨_,rfl,wpAny_letOwnedTupleGo_zip a1 λC b1 b2=>?_⟩;obtain⟨d1,d2,d3,d4,_⟩:=D.ne;have zl:z<Aa:=Zj hz;have kp:∀c o,c∉[z,TI,TO,i1,i2]->s.heap.get? c=So o->C.get? c=So o:=λc o r e=>by simp only[Zf,Zy,fA,not_or]at r;exact(b2.2 c r.1).trans (a6 c o (by simp[r]) e)
  have hT2:IsPair C Aa u v:=(b2.2 _ (rC zl)).trans a5;have I2:L2.Inv X Y Z (upd H Aa (.tup [x,y])) {s with heap:=C,toks:=Xv}:=
   Jca I hf kp (Zh _) ⟨⟨by rw[ZG];show 2<=_;decide,λo q=>by rw[show C.get? 'Ɓ'=So _ from hT2]at q;cases q;rfl⟩,[u,v],.cons ru (.cons rw2 .nil),_,hT2,rfl,_,rfl⟩
  have hTI2:IsPair C TI (.ref i1) (.ref i2):=(b2.2 _ d1).trans (a6 TI _ (by obtain⟨_,_,_,_,d5,d6,d7,_⟩:=D.ne;simp[d1,d5,d6,d7]) B);refine⟨.ref Aa,_,I2,rfl,⟨Aa,x,y,I.hok.fresh (Zh _),rfl,rfl,λzs q=>by rw[mY I q q1];exact hx,λzs q=>by rw[mY I q q2];exact hy⟩,
   ⟨b1,hTI2,⟨u,v,(b2.2 _ d2).trans a2⟩,a3.stay λo e=>(b2.2 _ d3).trans e,a4.stay λo e=>(b2.2 _ d4).trans e⟩,λb g=>?_⟩
  have hbl:b<Aa:=by
   simp only[Zf,Zy,fA]at g;rcases g with rfl|rfl|rfl|rfl|rfl
   ·exact zl
   ·exact Zj B
   ·exact Zj U
   ·exact j1.lt
   ·exact j2.lt
  rw[Jb (Zu hbl)];exact(hf b g).1
 done:=by
  intro X hP hw hK r i Y s Z H E I hf st hg;subst hP hw hK;obtain⟨xs,ys,q1,q2,hx⟩:=hg;obtain⟨its,rv,p1,_⟩:=xE I q1;obtain⟨its2,rv2,p2,_⟩:=xE I q2;obtain⟨hz,B,⟨a,b,U⟩,j1,j2⟩:=st;have f:∀{t:Bool}{l:Addr}{zs:Av},Sq X.K t H l zs->l∉[z,TO,i1,i2]:=fun{t l zs}q g=>
   Jkw I q (hf l (by simp only[Zf,Zy,fA]at g⊢;rcases g with e|e|e|e<;>simp[e])) rfl
  have hT:s.TypeIs EG "zip":=⟨_,hz,rfl⟩;unfold pyNext;refine Za (nE (ZM (name:=oS "__next__") hT yO (ZD yO hT QcR
   (JwT (show X.A.in1.handled=No from I.ok.hd r) D hz B U j1 j2 p1 p2 (f q1) (f q2) ?_ λh' e hk he=>?_) Pf)))
  ·rcases hx with q|q
   ·exact .inl (by simpa using rv.none_of q)
   ·exact .inr (by simpa using rv2.none_of q)
  ·obtain⟨o,ho,hoc⟩:=he;refine Za (nF (T:="StopIteration") (b:=To) ⟨o,ho,hoc⟩ gM (Zb ⟨rfl,rO (tk:=Xv) I hf λc o r e=>hk c o ?_ e⟩));simp only[Zf,Zy,fA,not_or]at r⊢;exact⟨r.1,r.2.2.1,r.2.2.2⟩
 self:=λA i s Q E st h=>wpAny_pyIter_zip st.1 h
noncomputable abbrev mS (t:Bool) (l:Addr):Obj:={cls:=.type (qK t),data:=.fields #[.ref l,.int 0 0]}
def oU{xs:B7}{Q:Ay}(h:IsSq t VU l xs)(f:Q Fi {s with heap:=s.heap.push (mS t l)}):wpAny Au A (pyIter BH) Q E s:=by
 cases t
 ·exact xJ (show s.heap.IsList l xs from h) f
 ·exact eP (show s.heap.IsTuple l xs from h) f
def IsSq.push{xs:B7}(x:IsSq t h a xs)(o:Obj):IsSq t (h.push o) a xs:=x.stay λ_ e=>Zd _ e
noncomputable abbrev zh1 (h:Heap) (t:Bool) (l:Addr):Heap:=h.push (mS t l)
noncomputable abbrev zh3 (h:Heap) (t1 t2:Bool) (f g:Addr):Heap:='丰'.push {cls:=.type "tuple",data:=.seq #[.ref Bz,.ref (zh1 h t1 f).objs.size]}
noncomputable abbrev zh4 (h:Heap) (t1 t2:Bool) (f g:Addr):Heap:=(zh3 h t1 t2 f g).push {cls:=.type "tuple",data:=.seq #[.none,.none]}
noncomputable abbrev zipOb (a b:Addr):Obj:={cls:=.type "zip",data:=.fields #[.none,.bool Fo,.bool Fo,.ref a,.ref b]}
noncomputable abbrev zh5 (h:Heap) (t1 t2:Bool) (f g:Addr):Heap:=(zh4 h t1 t2 f g).push (zipOb '丰'.objs.size (zh3 h t1 t2 f g).objs.size)
def JsJ(f q:Addr)(xs ys:B7)(t1 t2:Bool):
  Meets (Builtin.«zip.__new__» ⟨[.type "zip",.ref f,.ref q],[]⟩) (λ_ R s=>IsSq t1 VU f xs/\IsSq t2 VU q ys/\R (.ok (.ret (.ref 'Ν'.objs.size))) {s with heap:=zh5 VU t1 t2 f q}):=
 .of_wp λprog w A R s h=>by
  obtain⟨hp,g,d,I,F⟩:=s;obtain⟨u,C,h⟩:=h
  have U:=sub_zip
  have r:IsSq t1 (Shared.heap ⟨hp,g,d,I,F⟩) f xs:=u
  have B:IsSq t2 (Shared.heap ⟨hp.push (mS t1 f),g,d,I,F⟩) q ys:=C.push _
  wp_walk using oU r,oU B
  exact FV
open AutoSeq1 (wpAny_loadPart')
def JuT(l:Addr)(items:B7)(n:Nat)(dct:Du)(sl:Eb):
  Meets (Builtin.«enumerate.__new__» ⟨[.type "enumerate",.ref l],[]⟩) (λ_ R s=>s.heap.get? l=So {cls:=.type "tuple",dict:=dct,data:=.seq items n,slots:=sl}/\
   R (.ok (.ret (.ref 'Ʒ'.objs.size))) {s with heap:='Ʒ'.push {cls:=.type "enumerate",data:=.fields #[.none,.bool Fo,.ref Aa,rawInt 0,.none,.none]}}):=
 .of_wp λprog w A R s h=>by
  obtain⟨u,g,d,C,B⟩:=s;obtain⟨f,h⟩:=h
  have q:=sub_enumerate
  have r:IsSq To (Shared.heap ⟨u,g,d,C,B⟩) l items:=(show Heap.IsTuple u l items from⟨_,f,rfl,n,rfl⟩)
  wp_walk using zH f
  refine wpAny_stack_any λst=>Zb ?_
  split
  ·rename_i c _ _ _ _ _
   cases(c==Value.type "enumerate")<;>(wp_walk using zH f,oU r;exact FV)
  ·wp_walk using zH f,oU r;exact FV
def JoJ{Q:Ay}(B:IsSq t VU l items)
  (h:∀h',IsEnum h' DU Aa 0 .none->IsIt t h' Aa l 0->(∀b o,s.heap.get? b=So o->h'.get? b=So o)->Q (.ref DU) {s with heap:=h'}):
  wpAny Au A (PySem.call (.type "enumerate") [.ref l]) Q E s:=by
 cases t with
 |false=>exact call_enumerate_list (show s.heap.IsList l items from B) λh' a b _ d=>h h' a b d
 |true=>
  obtain⟨⟨c,dct,C,sl⟩,I,g,n,f⟩:=(show s.heap.IsTuple l items from B);replace g:c=.type "tuple":=g;replace f:C=.seq items n:=f;subst g f;refine callType_new F.called_enumerate AB (F.typeCall_enumerate_1 _) (F.newCall_enumerate_1 _) (λobj=>F.args_object_init_2 obj _) F.entry_enumerate_new (JuT l items n dct sl) ⟨I,?_⟩;have u:'Ʒ'.objs.size=Aa+1:=ZL ..;have r:IsEnum ('Ʒ'.push {cls:=.type "enumerate",data:=.fields #[.none,.bool Fo,.ref Aa,rawInt 0,.none,.none]}) DU Aa 0 .none:=by have q:=Ze 'Ʒ' (o:={cls:=.type "enumerate",data:=.fields #[.none,.bool Fo,.ref Aa,rawInt 0,.none,.none]}) rfl;rw[u]at q;exact q
  show _/\_;rw[u];exact⟨HL,h _ r ⟨_,Zd _ FU,rfl,rfl⟩ λb o x=>Zd _ (Zd _ x)⟩
def JlF{f q:Addr}{xs ys:B7}{Q:Ay}(C:IsSq t1 VU f xs)(U:IsSq t2 VU q ys)
  (h:∀h',Jwg (Aa+4) (Aa+2) (Aa+3) Aa DU f q t1 t2 0 h'->(∀c o,s.heap.get? c=So o->h'.get? c=So o)->Q (.ref (Aa+4)) {s with heap:=h'}):
  wpAny Au A (PySem.call (.type "zip") [.ref f,.ref q]) Q E s:=by
 refine callType_new F.called_zip AB (F.typeCall_zip_2 _ _) (F.newCall_zip_2 _ _) (λobj=>F.args_object_init_3 obj _ _) F.entry_zip_new (JsJ f q xs ys t1 t2) ⟨C,U,?_⟩;have u:'ɩ'.objs.size=Aa+1:=ZL ..;have B:(zh1 'ɩ' t2 q).objs.size=Aa+2:=by rw[ZL,u]
 have I:'也'.objs.size=Aa+3:=by rw[ZL,B]
 have z4:'Ν'.objs.size=Aa+4:=by rw[ZL,I]
 have p1:∀(g:Heap)(o o':Obj)(b:Addr),g.get? b=So o->(g.push o').get? b=So o:=λg o o' b e=>Zd _ e;have r:'ǂ'.get? 'Ν'.objs.size=So _:=Ze _ rfl;have g4:'ǂ'.get? '也'.objs.size=So _:=p1 _ _ _ _ FU;have g3:'ǂ'.get? (zh1 'ɩ' t2 q).objs.size=So _:=p1 _ _ _ _ RT;have g2:'ǂ'.get? 'ɩ'.objs.size=So _:=p1 _ _ _ _ QbC;have g1:'ǂ'.get? Aa=So _:=p1 _ _ _ _ (p1 _ _ _ _ QbC);show _/\_;rw[B,I,z4]at r;rw[u,B]at g3;rw[I]at g4;rw[u]at g2;rw[z4];exact⟨HL,h _ ⟨r,g3,⟨_,_,g4⟩,⟨_,g1,rfl,rfl⟩,⟨_,g2,rfl,rfl⟩⟩ λc o x=>p1 _ _ _ _ (p1 _ _ _ _ (p1 _ _ _ _ (p1 _ _ _ _ (p1 _ _ _ _ x))))⟩
def oY{d:D}(r:Dt)(h:d=.tup J\/d=.lst J):∃t a xs,v=.ref a/\Sq K t H a xs/\Reps K H J xs:=by
 rcases h with rfl|rfl
 ·obtain⟨a,xs,e,g,f⟩:=r;exact⟨To,a,xs,e,g,f⟩
 ·obtain⟨a,xs,e,g,f⟩:=r;exact⟨Fo,a,xs,e,g,f⟩
theorem JcX:∀(J:Ak)(k i:Nat),(Jw k J)[i]? =(J[i]?).map λd=>.tup [.int ((k+i:Nat):Int),d]
 |[],_,_=>by simp[Jw]
 |d::J,k,0=>by simp[Jw]
 |d::J,k,i+1=>by
  have:=JcX J AZ i
  simp only[Jw,lF,this]
  rw[show k+1+i=k+'{' by lia]
theorem Jbe:∀(J:Ak)(k:Nat),(Jw k J).length=Ae
 |[],_=>rfl
 |d::J,k=>by simp[Jw,Jbe J]
theorem Jko:∀(as bs:Ak)(i:Nat)(a b:D),as[i]? =So a->bs[i]? =So b->(zipD as bs)[i]? =So (.tup [a,b])
 |a::as,b::bs,0,_,_,h,h'=>by simp at h h';simp[zipD,h,h']
 |a::as,b::bs,i+1,_,_,h,h'=>by simpa[zipD]using Jko as bs i _ _ (by simpa using h) (by simpa using h')
 |[],_,_,_,_,h,_=>by simp at h
 |_::_,[],_,_,_,_,h'=>by simp at h'
theorem JfC:∀(as bs:Ak),(zipD as bs).length=min as.length Qdx
 |[],_=>by simp[zipD]
 |_::_,[]=>by simp[zipD]
 |a::as,b::bs=>by simp[zipD,JfC as bs]
theorem JlO(I:BU)(h1:MG)(r:FY):Walk X.K (Ite X.K t a) H (Jw 0 J):=by
 intro W sm;have l:=XF;have f:=Sq.same sm h1;have g:=r.mono sm;refine⟨λi q=>?_,⟨xs,f,by rw[Jbe];exact l⟩,λi x U q⟨T,v,u,e1,B,hv⟩=>?_⟩
 ·rw[Jbe]at q;exact⟨xs,xs[i]'(by lia),f,ZC Af⟩
 ·subst e1;subst B;obtain⟨d,C,rd⟩:=g.get' (hv xs f);obtain⟨s1,F⟩:=wG (K:=X.K) (J:=[.int i,d]) (xs:=[.int i,v]) u ⟨_,_,rfl,rfl,_,_,rfl,rd,rfl⟩;refine⟨s1,_,by rw[JcX,C];rfl,?_⟩;simpa using F
theorem Jqb(I:BU){ys:Av}{es:Ak}(h1:Sq X.K t1 H a xs)(r:FY)(C:Sq X.K t2 H b ys)(B:Reps X.K H es ys):Walk X.K (Itz X.K t1 t2 a b) H (zipD J es):=by
 intro W sm;have l:=XF;have l':=B.length;have g:=Sq.same sm h1;have f:=Sq.same sm C;refine⟨λi q=>?_,⟨xs,ys,g,f,?_⟩,λi x H'' q⟨T,u,v,F,e1,U,hu,hv⟩=>?_⟩
 ·rw[JfC]at q;exact⟨xs,ys,xs[i]'(by lia),ys[i]'(by lia),g,f,ZC Af,ZC Af⟩
 ·rw[JfC];by_cases hh:Ae<=es.length
  ·exact .inl (lP Af)
  ·exact .inr (lP Af)
 ·subst e1;subst U;obtain⟨d,hd,rd⟩:=(r.mono sm).get' (hu xs g);obtain⟨e,he,re⟩:=(B.mono sm).get' (hv ys f);obtain⟨s1,r1⟩:=wG (K:=X.K) (J:=[d,e]) (xs:=[u,v]) F ⟨_,_,rfl,rd,_,_,rfl,re,rfl⟩;exact⟨s1,_,Jko _ _ _ _ _ hd he,r1⟩
theorem JkM(h1:b6)(g:FW)(inj:∀W u,Same H W->SqT K W a u->True):Walk K QaD H J:=by intro W sm;have l:=Yd;have f:=SqT.same sm h1;refine⟨λi C=>⟨xs,xs[i]'(by lia),f,ZC Af⟩,⟨xs,f,by lia⟩,λi x q C⟨e,r⟩=>?_⟩;subst e;obtain⟨d,B,F⟩:=(g.mono sm).get' (r xs f);exact⟨Same.refl _,d,B,F⟩
theorem JjM(h1:b5)(g:FW):Walk K QaC H J:=by intro W sm;have l:=Yd;have f:=Same.seq sm h1;refine⟨λi B=>⟨xs,xs[i]'(by lia),f,ZC Af⟩,⟨xs,f,by lia⟩,λi x q B⟨e,r⟩=>?_⟩;subst e;obtain⟨d,u,C⟩:=(g.mono sm).get' (r xs f);exact⟨Same.refl _,d,u,C⟩
def Jli{lo:Int}:Walk K cO H (upTo lo n):=by
 intro W sm;have l:(upTo lo n).length=n:=by simp[Pu.upTo]
 refine⟨λi f=>by rw[l]at f;exact f,by show n<=_;rw[l];exact Zh _,λi x g f⟨e,q⟩=>?_⟩;subst e;refine⟨Same.refl _,.int (lo+i),?_,q⟩;rw[l]at f;simp[Pu.upTo,List.getElem?_range f]
noncomputable def Its (x:Str):It:=⟨λi _=>i<Qbn,λi H v W=>W=H/\∃c,x.cps[i]? =So c/\v=.str ⟨#[c]⟩,λi _=>i=Qbn⟩
def JpL:Walk K (Its x) H (vM x):=by
 intro W sm;have l:(vM x).length=x.cps.size:=by simp[vM]
 refine⟨λi f=>by rw[l]at f;exact f,l,λi v g f⟨e,c,q,r⟩=>?_⟩;subst e;refine⟨Same.refl _,.str ⟨#[c]⟩,?_,r⟩;unfold vM;rw[xB,jI,q];rfl
def JkF(f:Bh)(I:Addr)(x:Str)(t:Tok):Walks P w A I [I] [I] Qbn (SignAt x) (λi h=>h.IsStrIter I QbD x t i):=by
 cases g:x.cps.all (·<128)
 ·rw[show strIterType x="str_iterator" by simp[strIterType,g]];exact Walks.strWide f I x t
 ·rw[show strIterType x="str_ascii_iterator" by simp[strIterType,g]];exact Walks.strAscii f I x t
def Jpw(x:Str)(t:Tok)(I:Addr):Turn P w K (.Name y px) (Its x) [I] I (λi h=>h.IsStrIter I QbD x t i)where
 mem:=by simp
 obj:=λi h st b f=>by
  have e:b=I:=by simpa using f
  subst e
  obtain⟨o,h1,_,h3⟩:=st
  exact⟨o,h1,λv q=>by rw[h3]at q;cases q⟩
 keep:=λi h h' st k=>let⟨o,h1,h2⟩:=st;⟨o,k I Ad o h1,h2⟩
 item:=by
  intro X B F hK hc i Y s Z H E g r st U;subst B F hK;refine(JkF (g.ok.hd hc) I x t).item i s _ _ U st λv h' tk hv st' kk=>?_;obtain⟨c,u,C,rfl⟩:=hv;have I1:L2.Inv X Y Z H {s with heap:=h',toks:=tk}:=rO g r λb o f e=>kk b o f e;exact⟨_,rfl,Zb ⟨.str ⟨#[c]⟩,H,I1,⟨u,rfl⟩,⟨rfl,c,C,rfl⟩,st',λb f=>(r b f).1⟩⟩
 done:=by
  intro X B F hK hc i Y s Z H E g r st U;subst B F hK;have e:i=x.cps.size:=U;subst e;exact(JkF (g.ok.hd hc) I x t).done s _ _ st λh' tk kk=>⟨rfl,rO g r λb o f e=>kk b o f e⟩
 self:=λA i s Q E st h=>by
  cases ha:x.cps.all (·<128)
  ·rw[show strIterType x="str_iterator" by simp[strIterType,ha]]at st;exact wpAny_pyIter_striter_wide st h
  ·rw[show strIterType x="str_ascii_iterator" by simp[strIterType,ha]]at st;exact wpAny_pyIter_striter_ascii st h
def Jso:ItOk QaC:=λL i H x W _⟨e,h⟩=>⟨by rw[e],λxs q=>h xs (hid_same.seq q)⟩
def Jsn:ItOk QaD:=λL i H x W _⟨e,h⟩=>⟨by rw[e],λxs q=>h xs (SqT.same hid_same q)⟩
def Jrg{lo:Int}:ItOk cO:=λL i H x W _⟨e,h⟩=>⟨by rw[e],h⟩
def Jxb:ItOk (Its x):=λL i H v W _⟨e,h⟩=>⟨by rw[e],h⟩
def Jaw{T:Addr}(g:Qcy)(h:H T=No):T∉L:=λf=>by
 obtain⟨o,e,_⟩:=g T f
 rw[h]at e;cases e
def JtU:ItOk (Ite K t a):=λL i H x W C⟨T,v,g,u,r,B⟩=>by
 have f:=Jaw C g
 exact⟨T,v,by rw[Jt f];exact g,u,by rw[r,yZ f],λxs q=>B xs SU⟩
def JwR:ItOk (Itz K t1 t2 a b):=λL i H x W I⟨T,u,v,g,B,r,C,F⟩=>by
 have f:=Jaw I g
 exact⟨T,u,v,by rw[Jt f];exact g,B,by rw[r,yZ f],λxs q=>C xs SU,λxs q=>F xs SU⟩
section
variable{U:Ag}{a b l:Expr}
def uN(hl:PE X l Gh):PI X (.Name y px) l (tW X U (.walk p)):=by
 rintro Y s Z H R I⟨O,r,h⟩;refine thn (hl Y s Z H (λv W=>∃d J,Rep X.K W d v/\d.walk=.ok J/\Same H W/\∀J9 H2,Same H H2->Walk X.K J9 H2 J->ItOk J9->R J9 H2) I ⟨O,r,'ħ'.imp λd B v W s1 rv=>?_⟩) λv s1⟨x,H1,I1,r1,d,J,rd,C,F,f⟩=>?_
 ·cases q:d.walk with
  |ok J=>rw[q]at B;obtain⟨ds',e,f⟩:=B;cases e;exact⟨d,J,rv,q,s1,f⟩
  |ex c=>exact(JsN q).elim
  |sk=>rw[q]at B;exact B.elim
 cases d with
 |tup es=>
  cases C;obtain⟨a,xs,rfl,u,h2⟩:=rd;cases r1;obtain⟨its,rv,pt,hz⟩:=I1.tuple u;refine eP (show s1.heap.IsTuple a AF from pt) ⟨Ax,[Ax],_,_,H1,rfl,I1.kept (t':=X6) λb o e=>Zd _ e,Jfk a _,CP,λb g=>?_,f _ _ F (JkM u h2 λ_ _ _ _=>trivial) Jsn⟩;have e:b=Ax:=by simpa using g
  subst e;exact I1.fpOk (Zh _) E4
 |lst es=>
  cases C;obtain⟨a,xs,rfl,u,h2⟩:=rd;cases r1;obtain⟨its,rv,pt,hz⟩:=I1.list u;refine xJ pt.isList ⟨Ax,[Ax],_,_,H1,rfl,I1.kept (t':=X6) λb o e=>Zd _ e,JhA a _,CP,λb g=>?_,f _ _ F (JjM u h2) Jso⟩;have e:b=Ax:=by simpa using g
  subst e;exact I1.fpOk (Zh _) E4
 |str z=>
  cases C;have hx:x=V.str z:=rd;subst hx;obtain⟨t,rfl⟩:=r1;refine wpAny_pyIter_strU ⟨Ax,[Ax],_,_,H1,rfl,I1.kept (t':=X6) λb o e=>Zd _ e,Jpw z t _,CP,λb g=>?_,f _ _ F JpL Jxb⟩;have e:b=Ax:=by simpa using g
  subst e;exact I1.fpOk (Zh _) E4
 |_=>cases C
def pZ(hl:PE X l Gh):PI X Sf l (tW X U Ws):=by
 rintro Y s Z H R I⟨O,r,h⟩;simp only[evD,Rs.bind_assoc]at h;refine thn (hl Y s Z H (λv W=>∃d J,Rep X.K W d v/\(d=.tup J\/d=.lst J)/\Same H W/\∀B C,Same H C->Walk X.K B C J->ItOk B->R B C) I ⟨O,r,'ħ'.imp λd u v W s1 q=>?_⟩) λv s1⟨x,H1,I1,r1,d,J,rd,hw,s2,f⟩=>?_
 ·cases d with
  |tup J=>obtain⟨F,e,f⟩:=u;cases e;exact⟨_,J,q,.inl rfl,s1,f⟩
  |lst J=>obtain⟨F,e,f⟩:=u;cases e;exact⟨_,J,q,.inr rfl,s1,f⟩
  |_=>exact(show False from u).elim
 rcases hw with rfl|rfl
 ·obtain⟨a,xs,rfl,g,h2⟩:=rd;cases r1;obtain⟨its,q,pt,hz⟩:=I1.tuple g;refine eP (show s1.heap.IsTuple a AF from pt) ⟨Ax,[Ax],_,_,H1,rfl,I1.kept (t':=X6) λb o e=>Zd _ e,Jfk a _,CP,λb hb=>?_,f _ _ s2 (JkM g h2 λ_ _ _ _=>trivial) Jsn⟩;have e:b=Ax:=by simpa using hb
  subst e;exact I1.fpOk (Zh _) E4
 ·obtain⟨a,xs,rfl,g,h2⟩:=rd;cases r1;obtain⟨its,q,pt,hz⟩:=I1.list g;refine xJ pt.isList ⟨Ax,[Ax],_,_,H1,rfl,I1.kept (t':=X6) λb o e=>Zd _ e,JhA a _,CP,λb hb=>?_,f _ _ s2 (JjM g h2) Jso⟩;have e:b=Ax:=by simpa using hb
  subst e;exact I1.fpOk (Zh _) E4
def Jhu(C:Am)(F:AO)(hg:gloB nm "range"=To)(q:G.mg "range"=No)(hs:starEach [a] Ue=[HG]):PI X tg (.Call (.Name "range" p1) [a] [] pos) (tW X U (.un .range pa)):=by
 rintro Y s Z H R I⟨O,r,h⟩;refine JmM G1 (by rw[C.mg];exact q) (Jc (U:=U) F Jm hs) hs Y s Z H R I Dc;simp only[evD];refine Rs.gB.mpr ('ħ'.imp λd f=>?_);cases d with
 |int i=>
  simp only[op1]at f;split at f
  ·rename_i g;simp only[midI,Zc,Zw]at g;obtain⟨ds',e,B⟩:=f;cases e;refine⟨[.int i],rfl,λvs W s1 u=>?_⟩;obtain⟨v,r',e1,h1,h2⟩:=u;cases h2;cases h1;subst e1;exact⟨i,rfl,g.1,g.2,B _ _ s1 Jli Jrg⟩
  ·exact f.elim
 |_=>exact(show False from f).elim
def Jtj(C:Am)(ha:AO)(hg:gloB nm "enumerate"=To)(hm:G.mg "enumerate"=No)(hs:starEach [a] Ue=[HG]):
  PI X Sf (.Call (.Name "enumerate" p1) [a] [] pos) (tW X U (.un .enum pa)):=by
 rintro Y s Z H R I⟨O,r,h⟩;refine Call_ (rK I G1 (by rw[C.mg];exact hm) boot_enumerate (mQ (thn (Jc (U:=U) ha Jm hs pos Y s Z H (λvs W=>∃d J v,vs=[v]/\Rep X.K W d v/\(d=.tup J\/d=.lst J)/\Same H W/\∀F H2,Same H H2->Walk X.K F H2 (Jw 0 J)->ItOk F->R F H2) I Dc) λus s1 zz=>?_) hs rfl))
 ·simp only[evD];refine Rs.gB.mpr ('ħ'.imp λd hd=>?_);refine⟨[d],rfl,λvs W s1 rs=>?_⟩;obtain⟨v,r',e1,h1,h2⟩:=rs;cases h2;subst e1;obtain⟨J,w1,g⟩:=Jft hd;obtain⟨_,e,B⟩:=g;cases e;exact⟨_,J,v,rfl,h1,w1,s1,B⟩
 obtain⟨vs,H1,q,r1,d,J,v,e1,rd,hw,s2,B⟩:=zz;subst e1;obtain⟨t,l,xs,rfl,q1,q2⟩:=oY rd hw;obtain⟨u,rfl,ru⟩:=xA r1;cases ru;obtain⟨its,rv,pt,hz⟩:=xE q q1;refine JoJ pt λh' he hit kp=>wpAny_pyIter_enum he ⟨Ax+1,[Ax+1,Ax],_,_,H1,rfl,q.kept (t':=X6) kp,Jng t l Ax (Ax+1) (Nat.succ_ne_self _),⟨⟨_,he⟩,hit⟩,λb hb=>?_,B _ _ s2 (JlO q q1 q2) JtU⟩;have f:Ax<=b:=by
  simp only[Zf,Zy,fA]at hb;rcases hb with rfl|rfl
  ·exact mC _
  ·exact Zh _
 exact q.fpOk f (q.hok.fresh f)
def JxM(C:Am)(ha:AO)(hb:BJ)(hg:gloB nm "zip"=To)(hm:G.mg "zip"=No)(hs:starEach [a,b] Ue=HG::starEach [b] Ue)
  (F:starEach [b] Ue=[(Fo,eval b Ue)]):PI X Sf (.Call (.Name "zip" p1) [a,b] [] pos) (tW X U (.bi .zip pa pb)):=by
 rintro Y s Z H R I⟨O,r,h⟩;refine Call_ (rK I G1 (by rw[C.mg];exact hm) boot_zip (mQ (thn (Jc (U:=U) ha (Jc hb Jm F) hs pos Y s Z H (λvs W=>∃d J v f es v',vs=[v,v']/\Rep X.K W d v/\(d=.tup J\/d=.lst J)/\Rep X.K W f v'/\(f=.tup es\/f=.lst es)/\Same H W/\∀J9 H2,Same H H2->Walk X.K J9 H2 (zipD J es)->ItOk J9->R J9 H2) I Dc)
  λus s1 zz=>?_) hs (by rw[F];rfl)))
 ·simp only[evD];refine Rs.gB.mpr ('ħ'.imp λd hd=>?_);refine Rs.gB.mpr ((Rs.gB.mpr ((Rs.gB.mp hd).imp λf hd'=>?_)));refine⟨[d,f],rfl,λvs W s1 rs=>?_⟩;obtain⟨v,r',e1,h1,v',r'',e2,h2,h3⟩:=rs;cases h3;subst e2;subst e1;obtain⟨J,w1,g⟩:=Jft hd';obtain⟨es,w2,g⟩:=Jft g;obtain⟨_,e,hR⟩:=g;cases e;exact⟨d,J,v,f,es,v',rfl,h1,w1,h2,w2,s1,hR⟩
 obtain⟨vs,H1,q,r1,d,J,v,f,es,v',e1,rd,hw,rd',hw',s2,hR⟩:=zz;subst e1;obtain⟨t,l,xs,rfl,q1,q2⟩:=oY rd hw;obtain⟨t',l',ys,rfl,q3,q4⟩:=oY rd' hw';obtain⟨u,u',rfl,ru,ru'⟩:=Jwl r1;cases ru;cases ru';obtain⟨its,rv,pt,hz⟩:=xE q q1;obtain⟨its2,rv2,pt2,hz2⟩:=xE q q3;have ap:Apart (Ax+4) (Ax+2) (Ax+3) Ax (Ax+1):=⟨by simp[oB]⟩;refine JlF pt pt2 λh' st kp=>wpAny_pyIter_zip st.1 ⟨Ax+4,_,_,_,H1,rfl,q.kept (t':=X6) kp,JpN t t' l l' _ _ _ _ _ ap,st,λb hb=>?_,hR _ _ s2 (Jqb q q1 q2 q3 q4) JwR⟩;have B:Ax<=b:=by simp only[Zf,Zy,fA]at hb;rcases hb with rfl|rfl|rfl|rfl|rfl<;>first|exact Zh _|exact Nat.le_add_right _ _
 exact q.fpOk B (q.hok.fresh B)
end
noncomputable def uni (L:A9) (H H1:Hp):Hp:=λa=>if a∈L then H a else H1 a
section
variable{L':A9}{o:HO}
def JU(h:a∉L):uni L H H1 a=H1 a:=by unfold uni;rw[if_neg h]
def kL(h:a∈L):uni L H H1 a=H a:=by unfold uni;rw[if_pos h]
def jS(h:∀a∈L,H1 a=No):hid L G0=H1:=by
 funext a;by_cases q:a∈L
 ·rw[fG q,h a q]
 ·rw[Jt q,JU q]
def JfK(s:Same Bm H1):Same H G0:=λa o h=>by
 by_cases q:a∈L
 ·rw[kL q];exact h
 ·rw[JU q];exact s a o (by rw[Jt q];exact h)
def Ows.tup(h:Qcy):Tups K H Bm:=by
 have f:∀b o,H b=So o->¬Chgb o->b∉L:=λb o e B r=>by obtain⟨u,g,c⟩:=h b r;rw[e]at g;cases g;exact B c
 refine⟨λb xs q=>?_,λb o u q=>by rw[Jt '仛'];exact q⟩;rcases q with q|q
 ·exact .inl (by rw[Jt '仛'];exact q)
 ·exact .inr q
end
section
variable{ps:A8}{s':Al}
def Chgc:HO->Prop
 |.lsm _ _=>True
 |.ins _ _ _=>True
 |.own _=>True
 |o=>Chgb o
structure OwC(L:A9)(H:Hp):Prop where
 all:∀a∈L,∃o,H a=So o/\Chgc o
 own:∀b a,b∈L->H b=So (.own a)->a∈L/\∃C fs,H a=So QdK
 dx:∀a C d fs,a∈L->H a=So (.ins C d fs)->d∈L
def Ows.c(h:Qcy):OwC L H where
 all:=λa g=>by
  obtain⟨o,e,c⟩:=h a g
  exact⟨o,e,by cases o<;>first|exact c|exact c.elim⟩
 own:=λb a q e=>by obtain⟨o,f,c⟩:=h b q;rw[e]at f;cases f;exact c.elim
 dx:=λa C d fs g e=>by obtain⟨o,f,c⟩:=h a g;rw[e]at f;cases f;exact c.elim
def Inv.obj(I:BU)(r:Qcz)(q:a∈L):∃ob,s.heap.get? a=So ob/\∀v,ob.data≠.cell v:=by
 obtain⟨o,h,F⟩:=r.all a q;have:=I.hok a o h;cases o with
 |lst xs=>obtain⟨_,f,n,_,e⟩:=this;exact⟨_,e,λv z=>by cases z⟩
 |lsm _ xs=>obtain⟨_,f,n,_,e⟩:=this;exact⟨_,e,λv z=>by cases z⟩
 |dK g=>obtain⟨_,_,vs,_,ob,es,ep,e,c,d,_⟩:=this;exact⟨ob,e,λv z=>by rw[d]at z;cases z⟩
 |ins C dx fs=>obtain⟨_,_,_,e,_⟩:=this;exact⟨_,e,λv z=>by cases z⟩
 |own b=>obtain⟨_,C,fs,B⟩:=r.own a b q h;obtain⟨_,_,_,_,mA,⟨U,es,ep,u,d,_⟩,_⟩:=I.hok b _ B;exact⟨U,u,λv z=>by rw[d]at z;cases z⟩
 |dT g=>obtain⟨_,_,xs,_,ob,es,ep,e,c,d,_⟩:=this;exact⟨ob,e,λv z=>by rw[d]at z;cases z⟩
 |_=>exact F.elim
theorem JkK(I:BU)(g:Qcz):∀L1:List Addr,(∀a∈L1,a∈L)->∃ps:List (Addr×Obj),ps.map (·.1)=L1/\∀p∈ps,s.heap.get? p.1=So p.2/\∀v,p.2.data≠.cell v
 |[],_=>⟨[],rfl,by simp⟩
 |a::L1,h=>by
  obtain⟨ob,r,q⟩:=Inv.obj I g (h a Ad)
  obtain⟨ps,u,C⟩:=JkK I g L1 λb B=>h b (by simp[B])
  refine⟨(a,ob)::ps,by simp[u],λp f=>?_⟩
  rcases Zf.mp f with rfl|f
  ·exact⟨r,q⟩
  ·exact C p f
def Inv.fsFree(I:BU)(f:b∈X.fs):H b=No:=by obtain⟨_,o,g,_⟩:=I.ok.funs.mem f;exact I.base.free b o g (I.ok.frf b f) λz=>I.ok.exfs b z f
def Inv.hide(I:BU)(F:Qcz):∃ps:List (Addr×Obj),ps.map (·.1)=L/\(∀p∈ps,s.heap.get? p.1=So p.2)/\L2.Inv X (ps++Y) Z Bm s:=by
 obtain⟨ps,e1,e2⟩:=JkK I F L λ_ z=>z
 have B:∀p∈ps,p.1∈L:=λp f=>by rw[<-e1];exact nD f
 have g:∀b o,H b=So o->¬Chgc o->b∉L:=λb o e nc U=>by
  obtain⟨u,r,c⟩:=F.all b U
  rw[e]at r;cases r;exact nc c
 have C:∀b,H b=No->hid L H b=No:=λb e=>by unfold hid;split<;>first|rfl|exact e
 refine⟨ps,e1,λp f=>(e2 p f).1,?_⟩
 exact{
  ok:=I.ok,os:=I.os,bare:=X8
  base:=⟨I.base.keep,I.base.slot,λb o q n x=>C b Qa,I.base.there,λb xs q=>by
    have:=I.base.tups b xs q
    rw[Jt 'δ'];exact this,
   λb o u q=>by
    have:=I.base.frzs b o u q
    rw[Jt 'δ'];exact this,
   λb qs q=>by
    obtain⟨m,this⟩:=I.base.tbls b qs q
    exact⟨m,by rw[Jt 'δ'];exact this⟩⟩
  loc:=Yi,cell:=I.cell,free:=C _ Yl,freeC:=λx c e=>C _ He
  pin:=λp f=>by
   have hp':p∈ps\/p∈X.pn++Y:=by
    simp only[ZK]at f⊢
    rcases f with h|h|h
    ·exact .inr QcX
    ·exact .inl h
    ·exact .inr Qc0
   rcases hp' with f|f
   ·obtain⟨o,r,_⟩:=F.all p.1 (B p f)
    refine⟨(e2 p f).1,fG (B p f),λz=>?_,λz=>?_,(e2 p f).2⟩
    ·rw[z,I.free]at r;cases r
    ·rw[Inv.fsFree I z]at r;cases r
   ·obtain⟨q1,q2,q3⟩:=I.pin p f
    exact⟨q1,C _ q2,q3⟩
  hok:=λa o e=>by
   obtain⟨h1,h2⟩:=hU e
   exact(I.hok a o h2).stay K2 (λb q=>by rw[Jt λU=>h1 (F.own b a U q).1];exact q) (λb xs q=>by rw[Jt '仜'];exact q) λb o' u' q=>by rw[Jt '仜'];exact q
  len:=I.len}
def Inv.unhide(I:BU)(hL:Qcz)(e1:ps.map (·.1)=L)(e2:∀p∈ps,s.heap.get? p.1=So p.2)(sm:∀b xs,hid L H b=So Bb->H1 b=So Bb)(f:L2.Inv X (ps++Y) σ' H1 s'):(∀a∈L,H1 a=No)/\L2.Inv X Y σ' G0 s':=by
 have F:∀b o,H b=So o->¬Chgc o->b∉L:=λb o e nc hm=>by
  obtain⟨u,e3,c⟩:=hL.all b hm
  rw[e]at e3;cases e3;exact nc c
 have g:∀a∈L,∃ob,s.heap.get? a=So ob/\s'.heap.get? a=So ob/\H1 a=No:=λa B=>by
  rw[<-e1]at B
  obtain⟨p,hp,rfl⟩:=Zv.mp B
  obtain⟨q1,q2,_⟩:=f.pin p (by simp[hp])
  exact⟨p.2,e2 p hp,q1,q2⟩
 have U:∀b,H b=No->b∉L:=λb e hm=>by
  obtain⟨o,e3,_⟩:=hL.all b hm
  rw[e]at e3;cases e3
 have tp:∀b xs,H b=So Bb->uni L H H1 b=So Bb:=λb xs q=>by
  have hb:=F b _ q λz=>z
  rw[JU hb];exact sm b _ (by rw[Jt hb];exact q)
 refine⟨λa B=>let⟨_,_,_,h⟩:=g a B;h,?_⟩
 exact{
  ok:=I.ok,os:=f.os,bare:=f.bare
  base:=⟨f.base.keep,f.base.slot,λb o q n x=>by rw[JU (U b Qa)];exact f.base.free b o q n x,f.base.there,
   λb xs q=>by rw[JU (F b _ '亠' λz=>z)];exact f.base.tups b xs q,
   λb o u q=>by rw[JU (F b _ (I.base.frzs b o u q) λz=>z)];exact f.base.frzs b o u q,
   λb qs q=>by
    obtain⟨m,this⟩:=I.base.tbls b qs q
    rw[JU (F b _ this λz=>z)];exact f.base.tbls b qs q⟩
  loc:=f.loc,cell:=f.cell
  free:=by rw[JU (U _ Yl)];exact f.free
  freeC:=λx c e=>by rw[JU (U _ He)];exact f.freeC x c e
  pin:=λp hp=>by
   obtain⟨q1,q2,q3⟩:=f.pin p (by
    simp only[ZK]at hp⊢
    rcases hp with h|h
    ·exact .inl h
    ·exact .inr Qc0)
   exact⟨q1,by rw[JU (U _ (I.pin p hp).2.1)];exact q2,q3⟩
  hok:=λa o e=>by
   by_cases B:a∈L
   ·rw[kL B]at e
    obtain⟨u,e3,hc⟩:=hL.all a B
    rw[e]at e3;cases e3
    have:=I.hok a o e
    have trB:∀{b:Addr}{x:Obj},b∈L->s.heap.get? b=So x->s'.heap.get? b=So x:=fun{b x}hb q=>by
     obtain⟨ob,h1,h2,_⟩:=g b hb
     rw[h1]at q;cases q;exact h2
    have tr:∀{x:Obj},s.heap.get? a=So x->s'.heap.get? a=So x:=trB B
    cases o with
    |lst xs=>obtain⟨z,its,n,r,q⟩:=this;exact NF
    |lsm _ xs=>obtain⟨z,its,n,r,q⟩:=this;exact NF
    |own y=>obtain⟨x,q⟩:=this;exact⟨x,tr q⟩
    |ins C dx fs=>
     obtain⟨d,z,ne,q,mA,⟨od,es,ep,q2,c⟩,r⟩:=this
     have hd:=hL.dx a C dx fs B e
     exact⟨by rw[kL hd];exact d,z,ne,tr q,mA,⟨od,es,ep,trB hd q2,c⟩,r⟩
    |dK kvs=>obtain⟨z,y,vs,r,ob,es,ep,q,c⟩:=this;exact⟨z,y,vs,r,ob,es,ep,tr q,c⟩
    |dT kvs=>obtain⟨z,y,xs,r,ob,es,ep,q,c⟩:=this;exact⟨z,y,xs,Paired.mapP r λp q z=>⟨z.1,z.2.1.keep tp,z.2.2⟩,ob,es,ep,tr q,c⟩
    |_=>exact hc.elim
   ·rw[JU B]at e
    have nz:∀b o,H1 b=So o->b∉L:=λb o q hm=>by
     obtain⟨_,_,_,h⟩:=g b hm
     rw[q]at h;cases h
    exact(f.hok a o e).stay K2 (λb q=>by rw[JU (nz b _ q)];exact q) (λb xs q=>by rw[JU (nz b _ q)];exact q) λb o' u' q=>by rw[JU (nz b _ q)];exact q
  len:=f.len}
end
def OutH(X:Cx)(L:A9)(H:Hp)(Q:VK)(d:D):Prop:=∀v W,Same H W->(∀a∈L,W a=H a)->Rep X.K IP d v->Q v W
inductive tH(X:Cx)(call:Ag)(p:Px)(σ:Bl)(H:Hp)(Q:VK):Prop where
 |mk:∀env L,Ows L H->ReadOk X.K (hid L H) σ env->(evD call p env).Good (OutH X L H Q) (XW X (hid L H))->tH X call p σ H Q
def OutFH(X:Cx)(L:A9)(H:Hp)(Q:VK)(d:D):Prop:=∃J,d=.lst J/\∀l xs W,Same H W->(∀a∈L,W a=H a)->H l=No->W l=So AA->Reps X.K IP J xs->Q BH W
inductive tFH(X:Cx)(call:Ag)(p:Px)(σ:Bl)(H:Hp)(Q:VK):Prop where
 |mk:∀env L,Ows L H->ReadOk X.K (hid L H) σ env->(evD call p env).Good (OutFH X L H Q) (XW X (hid L H))->tFH X call p σ H Q
section
variable{U:Ag}
def zN(he:Cg):PE X e (tH X U p):=by
 rintro Y s Z H Q I⟨O,L,C,r,h⟩;obtain⟨ps,e1,e2,I'⟩:=Inv.hide I C.c;refine ZY (he (ps++Y) s Z Bm (λv H1=>Same Bm H1/\((∀a∈L,H1 a=No)->Q v G0)) I' ⟨O,r,h.mono (λd F v H1 B g=>⟨B,λf=>F v _ (JfK B) Sb ?_⟩) λc z=>z⟩)
  (λu B⟨v,H1,I1,g,sm,q⟩=>?_) λ_ _ z=>z
 ·rw[jS f];exact g
 ·obtain⟨f,I2⟩:=Inv.unhide I C.c e1 e2 S7 I1;exact⟨v,_,I2,g,q f⟩
end
def tWH (X:Cx) (U:Ag) (p:Px):TI:=λZ H R=>∃O L,Ows L H/\ReadOk X.K Bm Z O/\(evD U p O).Good (λd=>∃J,d=.lst J/\∀f W,Same H W->(∀a∈L,W a=H a)->Walk X.K f IP J->ItOk f->R f W) (XW X Bm)
section
variable{U:Ag}{iter:Expr}
def Jyy(hi:PI X tg iter (tW X U p)):PI X tg iter (tWH X U p):=by
 rintro Y s Z H R I⟨O,L,hL,r,h⟩;obtain⟨ps,e1,e2,I'⟩:=Inv.hide I hL.c;refine ZY (hi (ps++Y) s Z Bm (λf H1=>Same Bm H1/\((∀a∈L,H1 a=No)->R f G0)) I' ⟨O,r,h.mono (λd⟨J,ed,hd⟩=>⟨J,ed,λf H1 B w ok=>⟨B,λu=>hd f _ (JfK B) Sb ?_ ok⟩⟩) λc z=>z⟩)
  (λv B q1=>ZY q1 (λitv s2 zz=>?_) λ_ _ z=>z) λ_ _ z=>z
 ·rw[jS u];exact w
 ·obtain⟨it,fp,tn,f,H1,e3,I1,T,t0,hf,sm,q⟩:=zz;obtain⟨u,I2⟩:=Inv.unhide I hL.c e1 e2 S7 I1;refine⟨it,fp,tn,f,_,e3,I2,T,t0,λb hb=>?_,q u⟩;obtain⟨f0,f1,f2,f3,f4,f5⟩:=hf b hb;have C:b∉L:=λF=>by rw[<-e1]at F;obtain⟨p,g,rfl⟩:=Zv.mp F;exact f5 p (by simp[g]) rfl
  exact⟨by rw[JU C];exact f0,f1,f2,f3,f4,λp g=>f5 p (by
   simp only[ZK]at g⊢;rcases g with h|h
   ·exact .inl h
   ·exact .inr Qc0)⟩
end
noncomputable def owA (O:Fm) (Z:Bl) (i:Nat):Option Addr:=match O[i]?,Z[i]? with
 |some (So _),So (So (.ref l))=>So l
 |_,_=>No
def Ow (M:As) (O:Fm) (Z:Bl):List Addr:=M.filterMap (owA O Z)
def owA_iff:owA O Z i=So l↔∃d,O[i]? =So Bd/\Z[i]? =So Cz:=by
 unfold owA;constructor
 ·intro h;split at h
  ·rename_i d m f g;cases h;exact⟨d,f,g⟩
  ·cases h
 ·rintro⟨d,f,g⟩;rw[f,g]
def mem_Ow:l∈Ow M O Z↔∃i∈M,∃d,O[i]? =So Bd/\Z[i]? =So Cz:=by
 unfold Ow;rw[mD];constructor
 ·rintro⟨i,f,h⟩;exact⟨i,f,owA_iff.mp h⟩
 ·rintro⟨i,f,h⟩;exact⟨i,f,owA_iff.mpr h⟩
def Jgv{env':Fm}(h:∀i∈M,owA O Z i=owA env' σ' i):Ow M O Z=Ow M env' σ':=by
 unfold Ow;induction M with
 |nil=>rfl
 |cons i M g=>simp only[yH,h i (.head _),g λj f=>h j (.tail _ f)]
def JsV{s:AL}{t:cA}(h:j≠i):owA LR (Z.set i t) j=owA O Z j:=by unfold owA;rw[Zr (Ne.symm h),Zr (Ne.symm h)]
def tE{s:AL}{t:cA}(h:i∉M):Ow M LR (Z.set i t)=Ow M O Z:=Jgv λj f=>JsV λe=>h (e▸f)
noncomputable def OwnIs (K:Aj) (f H:Hp) (l:Addr):D->Prop
 |.lst J=>∃xs,H l=So AA/\Reps K f J xs
 |.dct t z ks g=>z=Fo/\∃xs,DK H l t Fo ks xs/\Reps K f g xs
 |_=>False
def OwnIs.mono{r f:Hp}{d:D}(h:Qd3)(e:Same r f)(k:∀o,H l=So o->W l=So o):OwnIs K f W l d:=by
 cases d with
 |lst J=>obtain⟨xs,q,g⟩:=h;exact⟨xs,k _ q,g.mono e⟩
 |dct t z ks B=>obtain⟨u,xs,q,g⟩:=h;exact⟨u,xs,q.mono k,g.mono e⟩
 |_=>exact h.elim
def OwnIs.chg{r:Hp}{d:D}(h:Qd3):∃o,H l=So o/\Chgb o:=by
 cases d with
 |lst J=>obtain⟨xs,f,q⟩:=h;exact⟨_,f,trivial⟩
 |dct t z ks B=>
  obtain⟨C,xs,f,q⟩:=h;cases t<;>obtain⟨u,g,_⟩:=f
  ·exact Hk
  ·exact Hk
 |_=>exact h.elim
def OwnIs.rep{q:Hp}{d:D}(h:OwnIs K q H l d)(e:Same q H):Rep K H d BH:=by
 cases d with
 |lst J=>obtain⟨xs,g,f⟩:=h;exact⟨l,xs,rfl,SqL.of g,f.mono e⟩
 |dct t z ks r=>obtain⟨rfl,xs,g,f⟩:=h;exact⟨l,xs,rfl,g,f.mono e⟩
 |_=>exact h.elim
structure EnvOk(K:Aj)(M:As)(H0 H:Hp)(Z:Bl)(O:Fm):Prop where
 same:Same H0 H
 len:Z.length=O.length
 read:∀(i:Nat)(d:D),i∉M->O[i]? =So Bd->∃v,Z[i]? =So BO/\Rep K Da d v
 own:∀(i:Nat)(d:D),i∈M->O[i]? =So Bd->∃l,Z[i]? =So Cz/\H0 l=No/\OwnIs K Da H l d
 apart:∀(i j:Nat)(l:Addr)(d d':D),i∈M->j∈M->i≠j->O[i]? =So Bd->O[j]? =So (So d')->Z[i]? =So Cz->Z[j]? ≠So Cz
structure Fz(L:A9)(H:Hp)(L':A9)(W:Hp):Prop where
 keep:∀a o,H a=So o->a∉L->W a=So o
 own:∀l∈L',l∈L\/H l=No
section
variable{L2:A9}{H2:Hp}
def Fz.of(s:IH)(h:∀l∈L1,l∈L\/H l=No):Fz L H L1 H1:=⟨λa o e _=>s a o e,h⟩
def Fz.sm(s:IH):Fz L H L H1:=.of s λ_ h=>.inl h
def Fz.trans(a:Fz L H L1 H1)(b:Fz L1 H1 L2 H2):Fz L H L2 H2 where
 keep:=λc o e g=>b.keep c o (a.keep c o e g) λf=>by
  rcases a.own c f with h|h
  ·exact g h
  ·rw[e]at h;cases h
 own:=λl r=>by
  rcases b.own l r with h|h
  ·exact a.own l h
  ·by_cases f:l∈L
   ·exact .inl f
   ·cases q:H l with
    |none=>exact .inr rfl
    |some o=>rw[a.keep l o q f]at h;cases h
def Fz.hid(a:Fz L H L1 H1):Same Bm (hid L1 H1):=JqN λb o e f=>⟨a.keep b o e f,λg=>by
 rcases a.own b g with h|h
 ·exact f h
 ·rw[e]at h;cases h⟩
end
def EnvOk.ows(e:CO):Ows BZ H:=λa B=>by
 obtain⟨i,r,d,u,g⟩:=mem_Ow.mp B
 obtain⟨l,f,_,q⟩:=e.own i d r u
 rw[g]at f;cases f
 exact q.chg
def EnvOk.same0(e:CO):Same H0 Da:=λa o h=>by
 have r:a∉Ow M O Z:=λC=>by
  obtain⟨i,u,d,B,q⟩:=mem_Ow.mp C
  obtain⟨l,f,g,_⟩:=e.own i d u B
  rw[q]at f;cases f
  rw[h]at g;cases g
 rw[Jt r];exact e.same a o h
def EnvOk.readOk(e:CO):ReadOk K H Z O:=λi d h=>by
 by_cases q:i∈M
 ·obtain⟨l,g,_,f⟩:=e.own i d q h
  exact⟨_,g,f.rep hid_same⟩
 ·obtain⟨v,g,f⟩:=e.read i d q h
  exact⟨v,g,f.mono hid_same⟩
def EnvOk.readHid(e:CO):ReadOk K Da Z (lC M 0 O):=λi d h=>by
 rw[tU]at h
 cases q:O[i]? with
 |none=>rw[q]at h;cases h
 |some s=>
  rw[q]at h
  simp only[Option.map_some,eM,ZU]at h
  split at h
  ·cases h
  ·rename_i f
   subst h
   exact e.read i d f q
def EnvOk.grow(e:CO)(s:Ca):EnvOk K M H0 W Z O where
 same:=e.same.trans s
 len:=e.len
 read:=λi d q h=>let⟨v,f,g⟩:=e.read i d q h;⟨v,f,g.mono (Fz.sm s).hid⟩
 own:=λi d q h=>let⟨l,f,r,g⟩:=e.own i d q h;⟨l,f,r,g.mono (Fz.sm s).hid (s l)⟩
 apart:=e.apart
theorem JQ{l:List α}{a b:α}(h:(l.set i a)[j]? =So b):(j=i/\b=a/\i<XN)\/(j≠i/\l[j]? =So b):=by
 by_cases q:j=i
 ·subst q;by_cases f:j<XN
  ·rw[ZR f]at h;cases h;exact .inl ⟨rfl,rfl,f⟩
  ·rw[lP (by rw[mB];lia)]at h;cases h
 ·rw[Zr 'ǯ']at h;exact .inr ⟨q,h⟩
def EnvOk.put(e:CO){d:D}(g:i∉M)(r:Rep K Da d v):EnvOk K M H0 H KP E9 where
 same:=YN
 len:=by rw[mB,mB];exact e.len
 read:=λj u f h=>by
  rw[tE g]
  rcases JQ h with⟨rfl,hd,hl⟩|⟨q,h⟩
  ·cases hd;exact⟨v,ZR (by rw[e.len];exact hl),r⟩
  ·rw[Zr 'ǯ'];exact e.read j u f h
 own:=λj u f h=>by
  rw[tE g]
  rcases JQ h with⟨rfl,_,_⟩|⟨q,h⟩
  ·exact absurd f g
  ·rw[Zr 'ǯ'];exact e.own j u f h
 apart:=λj k l d1 U f B q I F C=>by
  have n1:j≠i:=λz=>g (z▸f)
  have n2:k≠i:=λz=>g (z▸B)
  rw[Zr 'ӂ']at I C
  rw[Zr 'Ӄ']at F⊢
  exact e.apart j k l d1 U f B q I F C
theorem Jrm{d:D}(b:Addr)(h:b∈Ow M E9 Ho):b=l\/b∈Ow M O Z:=by
 obtain⟨j,u,r,g,f⟩:=mem_Ow.mp h;by_cases q:j=i
 ·subst q;by_cases B:j<Z.length
  ·rw[ZR B]at f;cases f;exact .inl rfl
  ·rw[lP (by rw[mB];lia)]at f;cases f
 ·rw[Zr 'ǯ']at g f;exact .inr (mem_Ow.mpr ⟨j,u,r,g,f⟩)
def EnvOk.putOwn(e:CO)(s:Ca){d:D}(h0:H l=No)(hl:∀Hh,Tups K W Hh->OwnIs K Hh W l d):
  EnvOk K M H0 W Ho E9/\Fz BZ H RE W:=by
 have fz:Fz BZ H RE W:=.of s λb hb=>by
  rcases Jrm b hb with rfl|h
  ·exact .inr h0
  ·exact .inl h
 have ows:Ows RE W:=λb hb=>by
  rcases Jrm b hb with rfl|h
  ·exact(hl W (Tups.of KL)).chg
  ·obtain⟨o,h1,h2⟩:=e.ows b h;exact⟨o,s _ _ h1,h2⟩
 refine⟨{
  same:=e.same.trans s
  len:=by rw[mB,mB];exact e.len
  read:=λj d' u h=>?_
  own:=λj d' u h=>?_
  apart:=λj k m d1 d2 u U B h1 h2 h3 I=>?_},fz⟩
 ·rcases JQ h with⟨rfl,hd,g⟩|⟨B,h⟩
  ·cases hd
   exact⟨.ref l,ZR (by rw[e.len];exact g),(hl _ ows.tup).rep hid_same|>λr=>by
    have ho:l∉Ow M (O.set j Bd) (Z.set j Cz):=λhm=>by
     obtain⟨k,U,d2,k1,C⟩:=mem_Ow.mp hm
     by_cases q:k=j
     ·exact u (q▸U)
     ·rw[Zr 'ǯ']at k1 C
      obtain⟨l',f,_,g3⟩:=e.own k d2 U k1
      rw[C]at f;cases f
      obtain⟨o,g4,_⟩:=g3.chg
      rw[h0]at g4;cases g4
    have:=hl _ (ows.tup)
    cases d with
    |lst J=>obtain⟨xs,F,q2⟩:=this;exact⟨l,xs,rfl,SqL.of (by rw[Jt ho];exact F),q2⟩
    |dct t z ks vs=>obtain⟨rfl,xs,F,q2⟩:=this;exact⟨l,xs,rfl,F.mono λo q=>by rw[Jt ho];exact q,q2⟩
    |_=>exact this.elim⟩
  ·obtain⟨v,f,g2⟩:=e.read j d' u h
   exact⟨v,by rw[Zr (Ne.symm B)];exact f,g2.mono fz.hid⟩
 ·rcases JQ h with⟨rfl,hd,g⟩|⟨B,h⟩
  ·cases hd;exact⟨l,ZR (by rw[e.len];exact g),e.same.free h0,hl _ ows.tup⟩
  ·obtain⟨m,f,g0,g2⟩:=e.own j d' u h
   exact⟨m,by rw[Zr (Ne.symm B)];exact f,g0,g2.mono fz.hid (s m)⟩
 ·have old:∀q dq,q∈M->q≠i->O[q]? =So (So dq)->Z[q]? ≠So Cz:=λq dq hq hqi hqe hqs=>by
   obtain⟨l',f,_,g3⟩:=e.own q dq hq hqe
   rw[f]at hqs;cases hqs
   obtain⟨o,g4,_⟩:=g3.chg
   rw[h0]at g4;cases g4
  rcases JQ h1 with⟨F,_,g⟩|⟨n1,k1⟩
  ·rw[F,ZR (by rw[e.len];exact g)]at h3
   cases h3
   rcases JQ h2 with⟨q,_,_⟩|⟨n2,C⟩
   ·exact B (F.trans q.symm)
   ·rw[Zr 'Ӄ']at I
    exact old k d2 U n2 C I
  ·rw[Zr 'ӂ']at h3
   rcases JQ h2 with⟨q2,_,g⟩|⟨n2,C⟩
   ·rw[q2,ZR (by rw[e.len];exact g)]at I
    cases I
    exact old j d1 u n1 k1 h3
   ·rw[Zr 'Ӄ']at I
    exact e.apart j k m d1 d2 u U B k1 C h3 I
def JiK{o:HO}(h:l∈L):hid L Kq=hid L H:=by
 funext b;by_cases q:b∈L
 ·rw[fG q,fG q]
 ·rw[Jt q,Jt q,Jb (λz:b=l=>q (by rw[z];exact h))]
def EnvOk.change(e:CO){d d':D}{o:HO}(hi:i∈M)(u:O[i]? =So Bd)(hs:Z[i]? =So Cz)(new:OwnIs K Da Kq l d'):
  EnvOk K M H0 Kq Z (O.set i (So d'))/\Fz BZ H (Ow M RS Z) Kq:=by
 have hl:l∈Ow M O Z:=mem_Ow.mpr ⟨i,hi,d,u,hs⟩;obtain⟨l',B,h0,h2⟩:=e.own i d hi u;rw[hs]at B;cases B;have iσ:i<O.length:=(Zz.mp u).1;have ow:Ow M RS Z=Ow M O Z:=Jgv λj g=>by
  by_cases q:j=i
  ·subst q;rw[owA_iff.mpr ⟨d,u,hs⟩];exact owA_iff.mpr ⟨d',ZR iσ,hs⟩
  ·unfold owA;rw[Zr 'ǯ']
 have hh:hid (Ow M RS Z) Kq=hid BZ H:=by rw[ow,JiK hl]
 refine⟨⟨λb ob q=>?_,by rw[mB];exact e.len,λj dj g h=>?_,λj dj g h=>?_,λj k m d1 d2 g hk r B h2 h3=>?_⟩,⟨λa ob q r=>?_,λb hb=>.inl (by rw[ow]at hb;exact hb)⟩⟩
 ·rw[Jb (Jh q h0)];exact e.same b ob q
 ·rw[hh];rcases JQ h with⟨rfl,_,_⟩|⟨r,h⟩
  ·exact absurd hi g
  ·exact e.read j dj g h
 ·rw[hh];rcases JQ h with⟨rfl,hd,_⟩|⟨r,h⟩
  ·cases hd;exact⟨l,hs,h0,new⟩
  ·obtain⟨m,g1,g0,g2⟩:=e.own j dj g h;have U:m≠l:=λz=>e.apart i j l _ _ hi g (Ne.symm r) u h hs (z▸g1);exact⟨m,g1,g0,g2.mono KL λob q=>by rw[Jb U];exact q⟩
 ·have f:∀(q:Nat)(C:D),(O.set i (So d'))[q]? =So (So C)->∃I,O[q]? =So (So I):=λq C F=>by
   rcases JQ F with⟨rfl,_,_⟩|⟨_,F⟩
   ·exact⟨_,u⟩
   ·exact⟨C,F⟩
  obtain⟨e1,k1⟩:=f j d1 B;obtain⟨e2,k2⟩:=f k d2 h2;exact e.apart j k m e1 e2 g hk r k1 k2 h3
 ·rw[Jb (λz:a=l=>r (by rw[z];exact hl))];exact q
def Chg(m:Bool)(L:A9)(H:Hp)(f:A9)(W:Hp):Prop:=Fz L H f W/\(m=Fo->Same H W)
section
variable{n:Bool}{L2:A9}{H2:Hp}
def Chg.of(s:IH):Chg m L H L H1:=⟨Fz.sm s,λ_=>s⟩
def Chg.trans(a:MF)(b:Chg n L1 H1 L2 H2):Chg (m||n) L H L2 H2:=⟨a.1.trans b.1,λh=>by
 simp only[ZN]at h
 exact(a.2 h.1).trans (b.2 h.2)⟩
def Chg.weak(a:MF)(h:n=Fo->m=Fo):Chg n L H L1 H1:=⟨a.1,λq=>a.2 (h q)⟩
end
def OutS(X:Cx)(M:As)(H0:Hp)(L:A9)(H:Hp)(m:Bool)(D:Ends)(r:Fw×Fm):Prop:=match r.1 with
 |.nx=>∀σ' W,EnvOk X.K M H0 W σ' r.2->Chg m L H (Ow M r.2 σ') W->D.nx σ' W
 |.rt d=>∀v W,Same H0 W->Rep X.K W d v->D.rt v W
 |.bk=>∀σ' W,EnvOk X.K M H0 W σ' r.2->Chg m L H (Ow M r.2 σ') W->D.bk σ' W
 |.ct=>∀σ' W,EnvOk X.K M H0 W σ' r.2->Chg m L H (Ow M r.2 σ') W->D.ct σ' W
inductive tS(X:Cx)(call:Ag)(M:As)(H0:Hp)(p:Sx)(D:Ends)(σ:Bl)(H:Hp):Prop where
 |mk:∀env,EnvOk X.K M H0 H σ env->(exD call p env).Good (OutS X M H0 (Ow M env σ) H (mutS p) D) (XW X H0)->tS X call M H0 p D σ H
def OutS.after{n k:Bool}{D:Ends}{r:Fw×Fm}(h:OutS X M H0 L H k D r)(c:MF)(F:k=Fo->m=Fo/\n=Fo):OutS X M H0 L1 H1 n D r:=by
 obtain⟨f,e⟩:=r;have B:∀{C:A9}{W:Hp},Chg n L1 H1 C W->Chg k L H C W:=λI=>(c.trans I).weak λq=>by obtain⟨a,b⟩:=F q;rw[a,b];rfl
 cases f with
 |nx=>exactλσ' W u g=>h σ' W u (B g)
 |rt d=>exact h
 |bk=>exactλσ' W u g=>h σ' W u (B g)
 |ct=>exactλσ' W u g=>h σ' W u (B g)
section
variable{U:Ag}{c:Expr}{pc:Px}{a b:Sx}{rest sa sb:BF}
def PS.weak{t t':TS}(h:Qdg)(f:∀D Z H,t' D Z H->t D Z H):PS X st t':=λY s Z H D I g=>h Y s Z H D I (f D Z H g)
def PSs.weak{f:BF}{t t':TS}(h:PSs X f t)(g:∀D Z H,t' D Z H->t D Z H):PSs X f t':=λY s Z H D I q=>h Y s Z H D I (g D Z H q)
def yF:PSs X [] (tS X U M H0 .skip):=PSs.weak JmT λD Z H⟨O,e,h⟩=>h Z H e (Chg.of D6)
def sE(h:PS X st MI):PSs X [st] MI:=mZ h
def wN(h1:PS X st MI)(F:PSs X rest Ro):PSs X (st::rest) (tS X U M H0 IY):=by
 refine PSs.weak (JN h1 F) λD Z H⟨O,e,h⟩=>Dv;refine(Rs.gB.mp h).imp λr C=>?_;obtain⟨f,g⟩:=r;have I:mutS IY=Fo->mutS a=Fo:=λq=>(ZN.mp q).1;cases f with
 |nx=>intro σ' W B u;refine⟨g,B,C.imp λr2 F=>F.after u λq=>ZN.mp q⟩
 |rt d=>exact C
 |bk=>exactλσ' W B u=>C σ' W B (u.weak I)
 |ct=>exactλσ' W B u=>C σ' W B (u.weak I)
def wI(g:Cg):PS X M7 (tS X U M H0 (.ret p)):=by refine PS.weak (kN g) λD Z H⟨O,e,h⟩=>La;exact(Rs.gB.mp h).mono (λd f v W s r=>f v W Qa2 r) λc z=>z.mono YN
def lI(F:Qbp)(C:PSs X sa MI)(B:PSs X sb Ro):PS X Qag (tS X U M H0 IE):=by
 refine PS.weak (rW F C B) λD Z H⟨O,e,h⟩=>La;refine(Rs.gB.mp h).mono (λd g=>?_) λc z=>z.mono YN;cases d with
 |bl k=>
  refine⟨k,rfl,λW s=>?_⟩;have f:∀{q:Sx},(mutS IE=Fo->mutS q=Fo)->(exD U q O).Good (OutS X M H0 BZ H (mutS IE) D) (XW X H0)->tS X U M H0 q D Z W:=λu hg=>
   ⟨O,e.grow s,hg.imp λr I=>I.after (m:=Fo) (Chg.of s) λz=>⟨rfl,u z⟩⟩
  cases k with
  |true=>exact iteT (f (λz=>(ZN.mp z).1) g)
  |false=>exact iteF (f (λz=>(ZN.mp z).2) g)
 |_=>exact g.elim
def Jmx(g:i∉M)(f:Dd){D:Ends}(h:OJ):tAsg (tH X U p) Ex D Z H:=by obtain⟨O,e,h⟩:=h;simp only[exD,gC,Zl,ZF]at h;refine Ua;rw[pH U O f];exact(Rs.gB.mp h).mono (λd q v W s k r=>q _ _ ('Ȟ'.put g r) (by rw[tE g];exact Chg.of s)) λc z=>z.mono Y3
def JnX{D:Ends}(h:tS X U M H0 (.own i p) D Z H):tAsg IZ Ex D Z H:=by
 obtain⟨O,e,h⟩:=h;refine⟨O,Yw,'ħ'.mono (λd f=>?_) λc z=>z.mono YN⟩;cases d with
 |lst J=>
  simp only at f;split at f
  ·exact f.elim
  ·rename_i q;have g:imms J=To:=by simpa using q
   refine⟨J,rfl,λl xs W s B F r=>?_⟩;obtain⟨u,C⟩:=e.putOwn s (i:=i) (d:=.lst J) B λI tp=>⟨xs,F,Reps.tups tp J g r⟩;exact f _ _ u ⟨C,λ_=>s⟩
 |_=>exact f.elim
def Jwe(C:Am)(hi:N[i]? =So x)(g:locB nm x=To)(q:i∉M)(f:Dd)(B:Cg)(hs:Mr):
  PS X F8 N5:=by obtain⟨u,r⟩:=C.sto x g;exact PS.weak (gD CU (by rw[C.hN];exact hi) u (zN B) hs r) λD Z H h=>Jmx q f h
def JwF(C:Am)(hi:N[i]? =So x)(f:locB nm x=To)(r:Qdn)(hs:Mr):
  PS X F8 Qp:=by obtain⟨q,g⟩:=C.sto x f;exact PS.weak (gD CU (by rw[C.hN];exact hi) q r hs g) λD Z H h=>JnX h
def JpE  {te:TE} (I:QcA) {D:Ends}   (h:tS X U M H0 (.app m i p) D Z H)
  (F:∀ O,EnvOk X.K M H0 H Z O -> ∀ Q,'ǈ'.Good (λd=>∀ v H1,Same H H1 -> (m = To -> d.imm = To) -> Rep X.K Ib d v -> Q v H1) IM -> (∀ d,evD U p O = .ok d -> m = To -> d.imm = To) -> te Z H Q) :
  ∃ l,Z[i]? = So Cz /\ (∃ xs,H l = So AA) /\ te Z H λv H1=>∃ xs,H1 l = So AA /\ Ah < sizeLine /\ D.nx Z (upd H1 l (.lst (xs ++ [v]))):=by
 obtain ⟨O,e,h⟩:=h;simp only [exD] at h;cases q:O[i]? with
 | none=>rw [q] at h; exact h.elim
 | some o=>
  rw [q] at h;cases o with
  | none=>exact h.elim
  | some d=>
   cases d with
   | lst J=>
    obtain ⟨l,f,h0,xs,hl,hr⟩:=e.own i _ I q;refine ⟨l,f,⟨xs,hl⟩,F O e _ ('ħ'.imp λd B v H1 r him r1=>?_) λd ed hm=>?_⟩
    ·split at B
     ·exact B.elim
     ·rename_i g;simp only [nB,not_or,ZV,rP,oE,Decidable.not_not] at g;have C:=r _ _ hl;have u:Ae < lD:=by simpa using g.2
      refine ⟨xs,C,by rw [hr.length,ZG]; exact u,?_⟩;obtain ⟨e2,f2⟩:=(e.grow r).change (d':=.lst (J ++ [d])) (o:=.lst (xs ++ [v])) I q f ⟨_,Je,(hr.mono (Fz.sm r).hid).append (Reps.one r1)⟩;exact B Z _ e2 ⟨(Fz.sm r).trans f2,λz=>by cases z⟩
    ·rw [ed] at h;simp only [Rs.bo] at h;split at h
     ·exact h.elim
     ·rename_i g;simp only [nB,not_or,hm,lG] at g;simpa using g.1
   | _=>exact h.elim
def Jvz  (C:Am) (hi:N[i]? = So x) (hx:visB nm x = To) (B:QW) (F:(x == ("__classdict__" : Str)) = Fo) (hM:QcA) (I:Dd) (he:Cg)
  (u:DH) {f:Pos} (hs:J5):PS X WH Uq:=by
 refine PS.weak (zK (yM jM lW kW Jhd (rA (by rw [C.hN]; exact hi) (C.vis x hx) B F) OQ rfl (by rw [hs]; rfl) u hs rfl) rfl) λD Z H h=>?_;obtain ⟨l,hσ,⟨xs,u⟩,h⟩:=JpE (te:=tH X U p) hM h λO e Q g _=>⟨lC M 0 O,Ow M O Z,e.ows,aQ,by
  rw [pH U O I];exact g.mono (λd q v W s k r=>q v W s (λz=>by cases z) r) λc z=>z.mono Y3⟩
 obtain ⟨O,L,k1,k2,k3⟩:=h;refine ⟨.ref l,hσ,.inl ⟨rfl,xs,SqL.of u⟩,O,L,k1,k2,k3.imp λd q v H1 s1 kk r1=>?_⟩;simp only [tNil];obtain ⟨ys,g1,g2,g3⟩:=q v H1 s1 kk r1;exact ⟨l,ys,v,rfl,rfl,g1,g2,g3⟩
end
inductive gS(X:Cx)(M:As)(H0:Hp)(ts:As)(nt:Nat)(v:V)(σ:Bl)(H:Hp)(Q:(L2.St->Hp->Prop)):Prop where
 |mk:∀env d new,EnvOk X.K M H0 H σ env->Rep X.K (hid (Ow M env σ) H) d v->iA nt d=.ok new->(∀σ',EnvOk X.K M H0 H σ' (zA ts new env)->Ow M (zA ts new env) σ'=Ow M env σ->Q σ' H)->gS X M H0 ts nt v σ H Q
section
variable{U:Ag}{z:Str}{l:Nat}{p3:Pos}
def Jxu(C:Am)(hi:N[i]? =So x)(q:locB nm x=To)(f:i∉M):PG X Cm Qah:=by obtain⟨h1,F⟩:=C.sto x q;rintro Y s Z H v u Q I r⟨O,d,B,e,rd,g,h⟩;refine iL (pos:=pos) (i:=i) CU (by rw[C.hN];exact hi) h1 F Y s Z H v u Q I r ?_;simp only[iA,if_true]at g;cases g;exact h _ (e.put f rd) (tE f)
def JwC(C:Am)(hi:N[i]? =So x)(hx:locB nm x=To)(q:i∉M)(hj:N[j]? =So y)(hy:locB nm y=To)(g:j∉M):PG X T8 Ox:=by
 obtain⟨h1,h2⟩:=C.sto x hx;obtain⟨h3,h4⟩:=C.sto y hy;rintro Y s Z H v u Q I r⟨O,d,new,e,rd,f,h⟩;refine Jsu (pos:=pos) Yg (mU (iL (i:=i) (pos:=p1) CU (by rw[C.hN];exact hi) h1 h2) (mU (iL (i:=j) (pos:=p2) CU (by rw[C.hN];exact hj) h3 h4) JmH)) rfl rfl Y s Z H v u Q I r ?_;unfold iA at f;rw[if_neg 'y']at f;cases d with
 |tup J=>
  dsimp only at f;rw[if_neg 'y']at f;split at f
  ·rename_i hd;cases f;obtain⟨a,xs,rfl,hq,hr⟩:=rd;match J,hd with
   |[d0,d1],_=>obtain⟨F,r0,e0,k0,B,r1,e1,k1,e2⟩:=hr;subst e1;subst e2;subst e0;exact⟨a,[F,B],rfl,SqT.same hid_same hq,rfl,F,[B],rfl,B,[],rfl,rfl,h _ ((e.put q k0).put g (by rw[tE q];exact k1)) (by rw[show zA [i,j] ([d0,d1].map So) O=(O.set i (So d0)).set j (So d1)from rfl,tE g,tE q])⟩
  ·cases f
 |_=>cases f
theorem JqK{g:Sx}{ts:As}{nt:Nat}{D:Ends}{J:Gu}{J9:It}(e:EnvOk X.K M H0 H1 Z O)(s1:IH)
  (wk:∀F W,Chg D4 BZ H1 F W->Ows F W->(∀i,i<Ae->J9.go i W)/\J9.stop Ae W/\∀i x H'',i<Ae->J9.yld i W x H''->Same W H''/\∃d,J[i]? =So d/\Rep X.K (hid F H'') d x)
  (h:(forL ts nt QaH J O).Good Tu IM):
  ∃W9:Nat->Nat->L2.St->Hp->Prop,(∃m,W9 0 m Z H1)/\∀i m Z H,W9 i m Z H->(J9.stop i H/\D.nx Z H)\/(J9.go i H/\∃Nn:L2.St->Hp->Prop,(∀σ' W,Nn σ' W->∃m',m'<m/\W9 Bw m' σ' W)/\
   ∀x W,J9.yld i H x W->gS X M H0 ts nt x Z W λB I=>tS X U M H0 g {D with nx:=Nn,ct:=Nn,bk:=D.nx} B I):=by
 refine⟨λi m σ' W=>∃u,EnvOk X.K M H0 W σ' u/\Chg D4 BZ H1 (Ow M u σ') W/\i<=Ae/\m=Ae-i/\(forL ts nt QaH (J.drop i) u).Good Tu IM,
  ⟨Ae,O,e,Chg.of KL,vB _,rfl,by simpa using h⟩,?_⟩
 rintro i m σ' W⟨u,e',c',hi,rfl,C⟩;obtain⟨w1,w2,w3⟩:=wk _ W c' e'.ows;have cH:∀{F:A9}{Hz:Hp},Chg D4 BZ H1 F Hz->Chg D4 BZ H F Hz:=λz=>((Chg.of (m:=Fo) s1).trans z).weak λq=>by rw[q];rfl
 by_cases hlt:i<Ae
 ·refine .inr ⟨w1 i hlt,λB I=>∃m',m'<Ae-i/\∃u,EnvOk X.K M H0 I B u/\Chg D4 BZ H1 (Ow M u B) I/\i+1<=Ae/\m'=Ae- Bw/\(forL ts nt QaH KS u).Good Tu IM,λB I q=>q,λx I hy=>?_⟩;obtain⟨s2,d,hd,rd⟩:=w3 i x I hlt hy;rw[Jer hd]at C;simp only[forL]at C;replace C:=Rs.gB.mp C;cases hb:iA nt d with
  |sk=>rw[hb]at C;exact C.elim
  |ex c=>exact(Jgj hb).elim
  |ok new=>
   rw[hb]at C;refine⟨u,d,new,e'.grow s2,rd,hb,λσ3 e3 ow3=>⟨zA ts new u,e3,(Rs.gB.mp C).imp λr hr=>?_⟩⟩;have c2:Chg D4 BZ H1 (Ow M u σ') I:=(c'.trans (n:=Fo) (Chg.of s2)).weak λq=>by rw[q];rfl
   have cc:∀{F:A9}{Hz:Hp},Chg D4 (Ow M (zA ts new u) σ3) I F Hz->Chg D4 BZ H1 F Hz:=λz=>by rw[ow3]at z;exact(c2.trans z).weak λq=>by rw[q];rfl
   obtain⟨f,env4⟩:=r;cases f with
   |nx=>exactλσ4 H4 e4 c4=>⟨_,by lia,env4,e4,cc c4,by lia,rfl,hr⟩
   |ct=>exactλσ4 H4 e4 c4=>⟨_,by lia,env4,e4,cc c4,by lia,rfl,hr⟩
   |bk=>exactλσ4 H4 e4 c4=>hr σ4 H4 e4 (cH (cc c4))
   |rt d=>exact hr
 ·have he:i=Ae:=by lia
  subst he;rw[List.drop_length]at C;exact .inl ⟨w2,C σ' W e' (cH c')⟩
variable{iter:Expr}{body:BF}{src:Px}{sb:Sx}{ts:As}{nt:Nat}
def qX(C:Am)(hp:Tz)(hi:PI X tg iter (tW X U src))(hg:PG X tg (gS X M H0 ts nt))(hb:PSs X body (tS X U M H0 sb))(g:sepP M src=To)
  (hs:∀x,foldedSetIterable iter Ue x=pure x):PS X (.For tg iter body [] pos) (tS X U M H0 (.loop Fo ts nt src sb)):=by
 refine PS.weak (Jrx hp Yg (Jyy hi) hg hb hs) λD Z H⟨O,e,h⟩=>Ua;rw[pH U O g];refine(Rs.gB.mp h).mono (λd r=>?_) λc z=>z.mono Y3;cases d with
 |lst J=>simp only[Pu.D.asL,Rs.bo,gC,Zl,ZF]at r;refine⟨J,rfl,λJ9 W I kk w ok=>JqK (U:=U) (e.grow I) I (λL' u q ow=>?_) r⟩;have sh:Same cW (hid L' u):=q.1.hid;obtain⟨a1,a2,a3⟩:=w u (sh.trans hid_same);refine⟨a1,a2,λi x f hi F=>⟨(a3 i x f hi F).1,?_⟩⟩;have B:=ok L' i u x f ow F;exact((w _ sh).2.2 i x _ hi B).2
 |_=>exact r.elim
end
def spI(K:Aj)(mg:Bk)(U:Ag)(g:Nat):Sp:=λf H Q E=>∃J,Reps K H J f/\(U g J).Good (λd=>∀v W,Same H W->Rep K W d v->Q v W) (λc=>∀C W,mg c=So BL->Same H W->E BL No W)
theorem Room.out(r:Room k Yr):Room k A:=⟨r.hd,r.dp,by have:=r.un;simp only[Around.in1]at this;lia⟩
inductive Calleee(G:Gw)(call:Ag)(fi:Nat)(x:Str):Prop where
 |mk (kk:Nat) (f:Addr) (fd:FuncData) (ps:List Str) (h:FnOk G.prog G.w G.K G.mg G.base (CXr G.prog G.w) kk f fd ps (spI G.K G.mg call fi)/\Room kk G.A.in1.in1/\G.mg x=So (.ref f)/\PySem.W.keepIn G.K (.ref f)=To/\Binds G.K fd ps []):Calleee G call fi x
structure Callee(G:Gw)(U:Ag)(fi:Nat)(x:Str):Prop where
 ex:Calleee G U fi x
section
variable{U:Ag}{es:CF}{fi:Nat}
def Juu(C:Am)(hc:Callee G U fi x)(hg:gloB nm x=To)(hdb:QW)(ha:Ed)(he:CG)
  (hpl:'б' ('Ķ'.any (·.1)=Fo) Ai):PE X S6 (tI X U (.call fi p)):=by
 obtain⟨kk,f,fd,ps,F,hr,hm,hk,hb⟩:=hc.ex;have hr:=Room.out hr;have hG:=C.g;subst hG;have hp:Jck RD X (λcls _ W=>∀C,cls=.ref C->XE X C W):=λY Z H s e s' I hc=>by obtain⟨a,C,W,rfl,F,hE⟩:=JfD I hc;exact hE C rfl a s' F
 refine PE.weak (JoU F hr (C.glo x hg) hm hk hb .nil hp ha hdb he hpl) λZ H Q⟨O,r,h⟩=>Dc;refine(Rs.gB.mp h).imp λd q=>?_;cases d with
 |lst J=>simp only[D.asL,Rs.bo]at q;refine⟨J,rfl,λvs W s rs=>?_⟩;show spI X.K X.mg U fi (vs++[]) W Q _;rw[pE];exact⟨J,rs,q.mono (λd o v B u rv=>o v B (s.trans u) rv) λc z C B g u C' e=>by cases e;exact z C B g (s.trans u)⟩
 |_=>exact q.elim
end
def JgI{d:D}(h:(JC n J)[i]? =So Bd):J[i]? =So d:=by
 unfold JC at h;by_cases f:i<Ae
 ·rw[oG (by simpa using f),xB]at h;cases q:J[i]? with
  |none=>rw[q]at h;cases h
  |some g=>rw[q]at h;cases h;rfl
 ·rw[pG (by simpa using f),jW]at h;split at h<;>cases h
section
variable{mg:Bk}{base:Heap}{defs:Ci}{fi:Nat}{d:DefD}
theorem xU{vs:Av}(hs:d.slots=XA)(hl:Ae<=XA)(B:∀i∈M,Ae<=i)(r:Reps K H J vs):EnvOk K M H H ID G7:=by
 have l:=XF;have get:∀(i:Nat)(f:D),(JC Yq J)[i]? =So (So f)->∃v,(L2.jC N vs)[i]? =So BO/\Rep K H f v:=λi f h=>by have h':=JgI h;obtain⟨v,u,F⟩:=r.get h';refine⟨v,?_,F⟩;have g:i<AJ:=(Zz.mp u).1;unfold L2.jC;rw[oG (by simpa using g),xB,u];rfl
 have no:∀(i:Nat)(f:D),i∈M->(JC Yq J)[i]? =So (So f)->False:=λi f g h=>by have h':=JgI h;have:=(Zz.mp h').1;have:=B i g;lia
 have I:Ow M G7 ID=[]:=by
  cases q:Ow M G7 (L2.jC N vs)with
  |nil=>rfl
  |cons b t=>obtain⟨i,g,f,u,_⟩:=mem_Ow.mp (show b∈Ow M G7 ID by rw[q];simp);exact(no i f g u).elim
 refine⟨Same.refl H,?_,λi f _ h=>by rw[I,JD];exact get i f h,λi f g h=>(no i f g h).elim,λi j l C U g _ _ h=>(no i C g h).elim⟩;unfold L2.jC JC;rw[Zn,Zn,Zi,Zi,tJ,tJ,hs,l]
structure HX(X:Cx)(nm:Bj):Prop where
 sc:X.env.scope.names=nm
 pass:PassesOwn AD X.A Ue X.xe
 stk:X.stack=Ue::X.outer
 frm:X.env.frame=So A5
 ex:X.ex=[]
theorem Jxf{qual:Str}{f:Addr}{fd:BG}{ps:Ac}(F:E0)(S:K3)(hd:defs[fi]? =So d)(hs:d.slots=XA)(hp:d.params=Aq)(hM:∀i∈M,Aq<=i)(hpN:Aq<=XA)
  (B:∀(X:Cx)(A:Bv)(H0:Hp),Ctx X AM N 'Ɯ'.names->Room j A->HX X 'Ɯ'.names->PSs X Ew (tS X CC M H0 X9)):
  FnOk P w K mg base A0 (j+1) f fd ps (spI K mg RC fi):=by
 have U:∀J,runD defs AZ fi J=if Ae=Z1 then Jf (exD CC X9 G7)else .sk:=λJ=>by
  simp only[runD,hd]
 obtain⟨oc,od,kV,doc,pm,an,cdv,ct,osl,rfl,lk,hcd⟩:=F.ex
 refine eK lk hcd S (λvs H Q E h=>?_) (λA I s H vs Q E hr h=>?_)
 ·obtain⟨J,r,g⟩:=h
  rw[U]at g
  split at g
  ·rename_i q
   rw[r.length,q,hp]
  ·exact g.elim
 ·obtain⟨J,r,g⟩:=h
  rw[U]at g
  split at g
  ·rename_i q
   have C:Ctx (cxOf A0 P w K mg base N qual Ug f cdv A I s H E) ⟨P,w,K,mg,base,A.deeper (envOfC qual Ug Aa f cdv)⟩ N 'Ɯ'.names:={
    g:=rfl
    hN:=rfl
    nd:=S.nd
    vis:=λy u=>by
     show Vis Ug y
     unfold visB at u
     split at u
     ·rename_i z;exact .inl z
     ·rename_i z;exact .inr YY
     ·rename_i z;exact .inr bA
     ·cases u
    cel:=λy u=>by
     show(Jd st).names.lookup y=So .cell\/(Jd st).names.lookup y=So .free
     unfold celB at u
     split at u
     ·rename_i z;exact .inl z
     ·rename_i z;exact .inr z
     ·cases u
    glo:=λy u=>by
     show(Jd st).names.lookup y=So .globalImplicit
     unfold gloB at u
     split at u
     ·rename_i z;exact z
     ·cases u
    sto:=λy u=>by
     show Loc Ug y/\(To=To\/_)
     unfold locB at u
     split at u
     ·rename_i z;exact Og
     ·rename_i z;exact Of
     ·cases u
    calm:=rfl
    un:=hr.units
    fr:=O0}
   refine⟨_,B _ _ H C hr Lh,JC Yq J,xU hs Af (λi hi=>by have:=hM i hi;lia) r,?_⟩
   cases q2:exD CC X9 (JC Yq J)with
   |ok r2=>
    rw[q2]at g
    obtain⟨fl,env2⟩:=r2
    cases fl with
    |nx=>exactλσ' W e' _=>g .non W e'.same rfl
    |rt dd=>exactλv W s' r'=>g v W s' r'
    |bk=>exact g.elim
    |ct=>exact g.elim
   |ex c=>
    rw[q2]at g
    exactλC2 H2 hm s2 a s' F=>lO F (g C2 H2 hm s2)
   |sk=>rw[q2]at g;exact g.elim
  ·exact g.elim
def Jmr{f:Addr}{fd:BG}{ps:Ac}:FnOk P w K mg base A0 0 f fd ps (spI K mg (runD defs 0) fi):=
 ⟨λr H Q E⟨_,_,h⟩=>h.elim,λA g s H q u r Q E _ _ _ _⟨_,_,h⟩=>h.elim⟩
end
section
variable{U:Ag}
open PySem.AutoSeq1 in
def Jll(t:Bool)(l:Addr)(items:B7)(n:Nat)(b:Addr)(f:B7)(I:¬(!items.isEmpty&&Builtin.List.listTooLong (Aw+f.size))=To)(r:Aw<=sizeLine)(C:Aw+f.size<=sizeLine+1):
  Meets (Builtin.«list.extend» Py) (λ_ R s=>s.heap.get? l=So {cls:=.type "list",dict:=No,data:=.seq items n,slots:=#[]}/\(∃F n2 sl,s.heap.get? b=So {cls:=.type (if t then "tuple" else "list"),dict:=F,data:=.seq f n2,slots:=sl})/\R (.ok (.ret Xx)) {s with heap:=s.heap.update l (Obj.mapSeq λx=>x++f),toks:=Xv}):=
 .of_wp λprog w A R s h=>by
  obtain⟨hp,g,d,tk,os⟩:=s;obtain⟨u,⟨F,n2,sl,B⟩,h⟩:=h;have f1:=QcQ;have f2:=dM;have f3:=eC;have f4:=dX;have f5:=dY
  have q:(items++f).size<=sizeLine+1:=by rw[Array.size_append];exact C
  cases t with
  |true=>
   simp only[if_true]at B
   wp_walk using(nJ u rfl (hz:=r) (_hz':=q)),zH u,zH B;exact FV
  |false=>
   simp only[Zl,ZF]at B
   wp_walk using(nJ u rfl (hz:=r) (_hz':=q)),zH u,zH B;exact FV
def rExtS (K:Aj):V->List V->Hp->VK->Prop:=λx g H Q=>∃l b xs f,x=.ref l/\g=[.ref b]/\H l=So AA/\(SqL K H b f\/SqT K H b f)/\xs.length+f.length<=sizeLine/\Q .non (upd H l (.lst (xs++f)))
theorem Jvc:MtM X "list.extend" (rExtS X.K):=by
 intro Y s Z H x vs v us Q I rx rv h;obtain⟨l,b,xs,zs,rfl,rfl,hH,hB,hz,q⟩:=h;cases rx;obtain⟨u,rfl,ru⟩:=rv.one;cases ru;obtain⟨z,its,n,r,hl,e⟩:=I.lstM hH;obtain⟨t,its2,g,hb⟩:∃(t:Bool)(its2:AE),Vals zs its2/\∃dd n2 sl,s.heap.get? b=So {cls:=.type (if t then "tuple" else "list"),dict:=dd,data:=.seq its2.toArray n2,slots:=sl}:=by
  rcases hB with h|h
  ·obtain⟨its2,g,⟨o,n2,e2,B,d2,C⟩,_⟩:=I.list h;obtain⟨c,dd,da,sl⟩:=o;simp only at B C;subst B;subst C;exact⟨Fo,its2,g,dd,n2,sl,e2⟩
  ·obtain⟨its2,g,⟨o,e2,B,n2,C⟩,_⟩:=I.tuple h;obtain⟨c,dd,da,sl⟩:=o;simp only at B C;subst B;subst C;exact⟨To,its2,g,dd,n2,sl,e2⟩
 have hl2:=Yd;have hsz:CL+EY<=sizeLine:=by rw[Zo,Zo];lia
 have f:¬(!its.toArray.isEmpty&&Builtin.List.listTooLong (CL+EY))=To:=by rw[Jps hsz,iM];exact ZH
 refine fB F.slot_list_extend KF F.entry_list_extend (F.args_list_extend_2 _ _)
  (Jll t l AF n b its2.toArray f (by rw[Zo];lia) Af) ⟨e,hb,?_⟩
 refine⟨.non,_,I.lset (its':=its++its2) hH e Ad (r.append g) ?_,rfl,q⟩;rw[Zn];lia
def Jqs  (hM:QcA) {D:Ends}   (h:tS X U M H0 (.ext m i p) D Z H) :
  ∃ O l xs,EnvOk X.K M H0 H Z O /\ Z[i]? = So Cz /\ H l = So AA /\ 'ǈ'.Good (λd=>∃ es,d = .lst es /\ (m = To -> imms es = To) /\ ∀ r H1,Same H H1 -> Reps X.K Ib es r -> ∃ ys,H1 l = So FN /\ By + r.length <= sizeLine /\ D.nx Z (upd H1 l (.lst (ys ++ r)))) IM:=by
 obtain ⟨O,e,h⟩:=h;simp only [exD] at h;cases q:O[i]? with
 | none=>rw [q] at h; exact h.elim
 | some o=>
  rw [q] at h;cases o with
  | none=>exact h.elim
  | some d=>
   cases d with
   | lst J=>
    obtain ⟨l,g,h0,xs,F,hr⟩:=e.own i _ hM q;refine ⟨O,l,xs,e,g,F,'ħ'.imp λd f=>?_⟩;cases d with
    | lst es=>
     simp only [Pu.D.asL,Rs.bo] at f;split at f
     ·exact f.elim
     ·rename_i C;simp only [nB,not_or,rP,Bool.and_eq_false_iff] at C;have B:Ae + es.length <= lD:=by simpa using C.2
      refine ⟨es,rfl,λhm=>?_,λr H1 u I=>⟨xs,u _ _ F,by rw [hr.length,I.length,ZG]; exact B,?_⟩⟩
      ·rcases C.1 with z | z
       ·rw [hm] at z; cases z
       ·simpa using z
      ·obtain ⟨e2,f2⟩:=(e.grow u).change (d':=.lst (J ++ es)) (o:=.lst (xs ++ r)) hM q g ⟨_,Je,(hr.mono (Fz.sm u).hid).append I⟩;exact f Z _ e2 ⟨(Fz.sm u).trans f2,λz=>by cases z⟩
    | _=>exact f.elim
   | _=>exact h.elim
def Jxd  (C:Am) (hi:N[i]? = So x) (hx:visB nm x = To) (I:QW) (hd2:(x == ("__classdict__" : Str)) = Fo) (hM:QcA) (hsp:Dd) (he:Cg)
  (B:DH) {r:Pos} (hs:J5):PS X (.Expr Wp r) UO:=by
 refine PS.weak (zK (yM jM PySem.F.slot_list_extend PySem.F.type_list_extend Jvc (rA (by rw [C.hN]; exact hi) (C.vis x hx) I hd2) OQ rfl (by rw [hs]; rfl) B hs rfl) rfl) λD Z H h=>?_;obtain ⟨O,l,xs,e,hσ,B,g⟩:=Jqs hM h;simp only [evD,Rs.bind_assoc] at g;refine ⟨.ref l,hσ,.inl ⟨rfl,xs,SqL.of B⟩,lC M 0 O,Ow M O Z,e.ows,aQ,?_⟩;rw [pH U O hsp];refine (Rs.gB.mp g).mono (λd f v H1 s1 kk r1=>?_) λc z=>z.mono Y3;simp only [tNil];cases d with
 | tup es=>obtain ⟨F,e1,_,f⟩:=f;cases e1;obtain ⟨b,q,rfl,q1,u⟩:=r1;obtain ⟨ys,g1,g2,g3⟩:=f q H1 s1 u;exact ⟨l,b,ys,q,rfl,rfl,g1,.inr (SqT.same hid_same q1),g2,g3⟩
 | lst es=>obtain ⟨F,e1,_,f⟩:=f;cases e1;obtain ⟨b,q,rfl,q1,u⟩:=r1;obtain ⟨ys,g1,g2,g3⟩:=f q H1 s1 u;exact ⟨l,b,ys,q,rfl,rfl,g1,.inl (hid_same.seq q1),g2,g3⟩
 | _=>exact (show False from f).elim
end
noncomputable def wK:D->String
 |.non=>"NoneType"
 |.bl _=>"bool"
 |.int _=>"int"
 |.str _=>"str"
 |.tup _=>"tuple"
 |.lst _=>"list"
 |_=>""
def JpA{Q:Ay}{c:An}{k:Bool}{d:D}{x:V}{u:An}(I:BU)(r:Rep X.K H d x)(f:RelV x u)(U:wK d≠"")
  (e:PySem.W.kitOne X.K Qcg c=So k) (h:∀F,Q (.bool k) {s with toks:=F}):wpAny AD A (PySem.call P9 [u,c]) Q E s:=by
 cases d with
 |non=>cases r;cases(show u=Xx from f);exact mJ PySem.W.kitx_none Yx ZT e (λz=>nomatch z) h
 |bl y=>cases r;cases(show u=Value.bool y from f);exact mJ PySem.W.kitx_bool Yx ZT e (λz=>nomatch z) h
 |int i=>cases r;obtain⟨t,rfl⟩:=f;exact mJ PySem.W.kitx_int Yx ZT e (λz=>nomatch z) h
 |str y=>cases r;obtain⟨t,rfl⟩:=f;exact mJ PySem.W.kitx_str Yx ZT e (λz=>nomatch z) h
 |tup J=>obtain⟨a,xs,rfl,C,_⟩:=r;cases(show u=Value.ref a from f);obtain⟨g,_,p,_⟩:=I.tuple C;obtain⟨o,q,B,_⟩:=p;exact mJ PySem.W.kitx_tuple Yx ⟨o,q,B⟩ e (λz=>nomatch z) h
 |lst J=>obtain⟨a,xs,rfl,C,_⟩:=r;cases(show u=Value.ref a from f);obtain⟨g,_,p,_⟩:=I.list C;obtain⟨o,q,B,_⟩:=Yv;exact mJ PySem.W.kitx_list Yx ⟨o,q,B⟩ e (λz=>nomatch z) h
 |_=>exact absurd rfl U
example (K:Aj):PySem.W.kitOne K (.type "str") MK=So Fo:=by
 first|rfl|decide|(unfold PySem.W.kitOne PySem.W.kitCls;simp)
section
variable{U:Ag}{a b:Expr}
def eR(o:O1)(T:Bg):Prop:=∀(K:Aj)(d:D),(wK d≠""/\∃k,PySem.W.kitOne K Qcg EM=So k/\op1 o d=.ok (.bl k))\/op1 o d=.sk
def Jnf:eR .isStr "str":=λK d=>by cases d<;>first|exact .inl ⟨by simp[wK],_,by rfl,by rfl⟩|exact .inr rfl
def JtE:eR .isTup "tuple":=λK d=>by cases d<;>first|exact .inl ⟨by simp[wK],_,by rfl,by rfl⟩|exact .inr rfl
def Jwa{T:Bg}(hi:eR o T):pA X P9 (λxs H Q=>∃x d,xs=[x,.ty T]/\Rep X.K H d x/\(op1 o d).Good Cu Az):=by
 rintro Y s Z H xs us Q I u⟨x,d,e,r,h⟩;subst e;obtain⟨u1,f,rfl,B,r2⟩:=Jwl u;cases(show f=Value.type T from r2);rcases hi X.K d with⟨hp,k,F,g⟩|e;rotate_left
 ·rw[e]at h;exact h.elim
 rw[g]at h;exact JpA I r B hp F λC=>⟨.bl k,H,I.kept (t':=C) (λ_ _ q=>q),rfl,Out.now h rfl⟩
def cIsi{T:Bg}(hi:eR o T)(C:Am)(B:G.mg "isinstance"=No)(F:G.mg y=No)(hv:bootBuiltins y=So EM)(ha:AO)(hg:gloB nm "isinstance"=To)(u:gloB nm y=To)(hn:y≠"__name__")(g:(y==("__debug__":Str))=Fo)
  (hs:starEach [a,.Name y p2] Ue=HG::starEach [.Name y p2] Ue):PE X (.Call (.Name "isinstance" p1) [a,.Name y p2] [] pos) SK:=by refine PE.weak (lT (Jwa hi) G1 (by rw[C.mg];exact B) PyProof.Rows.boot_isinstance (JP ha (JP (Jui (v:=.ty T) bS (by rw[C.mg];exact F) hv rfl hn g) mE rfl) hs) Ab Ab hs rfl) λZ H Q f=>?_;obtain⟨O,r,h⟩:=f;refine⟨O,r,'ħ'.imp λd I v W s rv=>?_⟩;exact⟨v,d,rfl,rv,I.mono Oy λ_ q=>q.mono s⟩
def zM{a:Addr}(f:ModT K y a){its:AE}{sl:Eb}(v:K.lookup a=So ⟨.type "tuple",No,.seq AF n,sl⟩)(hz:B1<=1000)(r:GS)(rs:∀H,Reps K H J xs)(H:Hp):Rep K H Gp Ar:=
 ⟨a,xs,rfl,.inr ⟨y,_,AF,n,f,v,rfl,rfl,rfl,yI (Zq (by simpa using hz) AB),by simpa using r⟩,rs H⟩
end
noncomputable def mH (es:List (Int×Value)):List Str:=es.map λe=>strOf e.2
def TS(prog:Ba)(w:AQ)(lb:Bool)(h:Heap)(a:Addr)(ks:Ac):Prop:=
 ∃o es ep t,(h.get? a=So o/\o.ExactSet/\o.data=.set es ep t)/\ElemsOf 'ù' YB/\(t.fits Xw=To/\es.size<scanBound)/\t.led=lb/\(es.size≠0->t.plain=Fo)/\(mH YB).Perm ks/\ks.Nodup
def TS.stay(x:Qax)(k:∀o,h.get? a=So o->h'.get? a=So o):TS prog w lb h' a ks:=
 let⟨o,es,ep,t,⟨e,g⟩,f⟩:=x
 ⟨o,es,ep,t,⟨k o e,g⟩,f⟩
def TS.there(x:Qax):∃o,h.get? a=So o:=let⟨o,_,_,_,⟨e,_⟩,_⟩:=x;⟨o,e⟩
def JoB(t:EA)(n:Nat):(t.orStandIn n).led=t.led:=by unfold SetTable.orStandIn;split<;>rfl
def JuD(t:EA)(es:Ki)(h:Int)(x:An):(layNew t es h x).2.1.led=t.led:=by
 unfold layNew;split
 ·exact JoB ..
 ·rfl
def Jma(t:EA)(es:Ki)(n:Nat):(relayAll t es n).2.1.led=t.led/\(t.plain=Fo->(relayAll t es n).2.1.plain=Fo):=by
 unfold relayAll;split
 ·rename_i r f q;have e:r.led=t.led/\r.plain=t.plain:=by
   unfold SetTable.relaid SetTable.laid at q;cases g:SetTable.layClean (SetTable.sizeAbove n-1) (es.map (·.1))with
   |none=>rw[g]at q;cases q
   |some u=>rw[g]at q;cases q;exact Cw
  dsimp only;split
  ·exact⟨e.1,λz=>e.2.trans z⟩
  ·exact ND
 ·exact ND
def vY{k:Str}{v:An}(h:'ù'.is k v=To):∃t,v=.str k t:=Value.isStrOf_shape h
def key_of{es:List (Int×Value)}(h:ElemsOf 'ù' es)(k:Str):k∈mH es↔∃e∈es,'ù'.is k e.2=To:=by
 unfold mH;rw[Zv];constructor
 ·rintro⟨e,g,rfl⟩;obtain⟨⟨r,f,_⟩,_⟩:=h e g;obtain⟨t,q⟩:=vY f;refine⟨e,g,?_⟩;rw[q]at f⊢;exact f
 ·rintro⟨e,g,f⟩;obtain⟨t,q⟩:=vY f;exact⟨e,g,by rw[q];rfl⟩
def JjE{o:Obj}{f:Ki}{t t':EA}(C:s.heap.get? a=So o)(u:o.ExactSet)(r:o.data=.set es ep t)
  (h1:ElemsOf 'ù' f.toList) (F:t'.fits f.size=To) (B:f.size<scanBound) (U:t'.led=lb) (h5:t'.plain=Fo) (h6:(mH f.toList).Perm ks) (I:ks.Nodup):
  TS prog w lb '习' a ks/\(s.heap.update a Tw).get? a=So {o with data:=.set f (ep+1) t'}:=by
 have g:'习'.get? a=So {o with data:=.set f (ep+1) t'}:=by have q:=ZX Tw C (by rw[putSet_of f t' r];rfl);rwa[putSet_of f t' r]at q
 exact⟨⟨_,f,ep+1,t',⟨g,u,rfl⟩,h1,⟨F,B⟩,U,λ_=>h5,h6,I⟩,g⟩
def JoL{b:Bool}{Q:Dl}(h:Q () s):wpAny Au A (match b with|true=>rule "set.scan.the-table-gave-way"|false=>pure ()) Q E s:=by
 cases b
 ·exact Zb h
 ·exact kB h
theorem Jwb{tk:Tok}{Q:E5}(hS:TS prog w lb VU a ks)(hb:AC+1<scanBound)
  (h:∀b h',Heap.SameBut a VU h'->TS prog w lb h' a (if x∈ks then ks else ks++[x])->Q b {s with heap:=h'}):wpAny Au A (setAddHashed a FS (hashStr w x)) Q E s:=by
 obtain⟨o,es,ep,t,⟨ho,hx,U⟩,f,⟨hf,hz⟩,hl,hp,hk,hn⟩:=hS;have hlen:es.size=AC:=by have:=hk.length_eq;simpa[mH]using this
 have F:'ù'.is x FS=To:=by simp[PySem.strKind,Value.isStrOf]
 have C:x∈ks↔∃e∈es.toList,'ù'.is x e.2=To:=(hk.mem_iff).symm.trans (key_of f x);have hh:hashStr w x='ù'.hash x:=rfl;rw[hh];unfold setAddHashed setAddHashedIn;refine wA (Za (wJ ho U hf ?_));dsimp only;rw[byScan_of rfl hz f];simp only[if_true];unfold setAddByScan;refine Za (Za (kB (Za (wpAny_setScan_of F ho U hf f ?_))));cases hr:List.findIdx? (λe=>'ù'.is x e.2) YB with
 |some j=>dsimp only;obtain⟨hj,hpj,_⟩:=List.findIdx?_eq_some_iff_getElem.mp hr;have g:x∈ks:=C.mpr ⟨_,sP hj,hpj⟩;refine Zb (Zb ?_);have q:=h Fo VU (Heap.SameBut.refl a VU) (by rw[if_pos g];exact⟨o,es,ep,t,⟨ho,hx,U⟩,f,⟨hf,hz⟩,hl,hp,hk,hn⟩);cases s;exact q
 |none=>
  dsimp only;have g:¬x∈ks:=λz=>by obtain⟨e,he,hp⟩:=C.mp z;have:=List.findIdx?_eq_none_iff.mp hr e he;rw[hp]at this;cases this
  rw[if_neg g]at h;have a1:=layNew_perm t es ('ù'.hash x) FS;have a2:=layNew_fits t es ('ù'.hash x) FS;have a3:=JuD t es ('ù'.hash x) FS;generalize layNew t es ('ù'.hash x) FS=L at a1 a2 a3⊢;obtain⟨es1,t1,wd,gv⟩:=L;dsimp only at a1 a2 a3⊢;rw[Array.toList_push]at a1;have b1:ElemsOf 'ù' es1.toList:=(f.push F rfl).perm a1;have b2:(mH es1.toList).Perm (ks++[x]):=by have c1:=a1.map λe:Int×Value=>strOf e.2;rw[ZW]at c1;exact c1.trans (hk.append_right [x])
  have b3:(ks++[x]).Nodup:=by rw[vH];refine⟨hn,by simp,λu hu v hv e=>?_⟩;rw[yB]at hv;subst hv e;exact g hu
  have b4:es1.size<scanBound:=by have:=b2.length_eq;simp only[mH,Zi,ZQ,Zn,sG]at this;lia
  refine Za (JoL ?_);have B:∀t2:SetTable,t2.led=lb->t2.plain=Fo->t2.fits es1.size=To->wpAny Au A (do
    storeSet a es1 t2;if(!wd&&t2.tooFull)=To then do
      (match(relayAll t2 es1 F2).2.2 with|true=>rule "set.scan.the-table-gave-way"|false=>pure ());storeSet a (relayAll t2 es1 F2).1 (relayAll t2 es1 F2).2.1;pure (So To)
     else pure (So To)) (λr s'=>wpAny Au A (match r with
      |some I=>pure I
      |none=>setAddHashedIn a FS ('ù'.hash x) 99999) Q E s') E s:=by
   intro t2 c1 c2 c3;refine Za (wpAny_storeSet_of ho U ?_ (fits_of_scanBound b4));obtain⟨T1,g1⟩:=JjE (s:=s) ho hx U b1 c3 b4 c1 c2 b2 b3;have u1:=sF VU a (Obj.putSet es1 t2);split
   ·have d1:=relayAll_perm t2 es1 F2
    have d2:=relayAll_fits t2 es1 F2;have d3:=Jma t2 es1 F2;generalize relayAll t2 es1 F2=R at d1 d2 d3⊢;obtain⟨es2,t3,gv2⟩:=R;dsimp only at d1 d2 d3⊢;refine Za (JoL ?_);have z2:es2.size=es1.size:=by simpa using d1.length_eq
    refine Za (wpAny_storeSet_of g1 rfl ?_ (fits_of_scanBound (by rw[z2];exact b4)));obtain⟨T2,_⟩:=JjE (s:={s with heap:=s.heap.update a (Obj.putSet es1 t2)}) g1 hx rfl (b1.perm d1) d2 (by rw[z2];exact b4) (d3.1.trans c1) (d3.2 c2) ((d1.map _).trans b2) b3;exact Zb (Zb (h To _ (u1.trans (sF _ a _)) T2))
   ·exact Zb (Zb (h To _ u1 T1))
  split
  ·refine Za ?_;rw[hashByValue_scannable 8 (x:=.str x tk) rfl];refine Zb ?_;exact B _ QdL rfl (SetTable.fits_plain_off a2)
  ·rename_i np;refine Za (Zb ?_);simp only[if_true];exact B _ QdL (by simpa using np) a2
noncomputable def addS (ks:Ac) (x:Str):List Str:=if x∈ks then ks else ks++[x]
def metS (ws:Ac):List Str:=ws.foldl addS []
def JnD(ws:Ac)(x:Str):metS (ws++[x])=addS 'Н' x:=by unfold metS;rw[uP];rfl
def Job(val:Nat->Str)(i:Nat):metS ((List.range Bw).map val)=addS (metS ('ϔ'.map val)) Qas:=by rw[List.range_succ,ZW];exact JnD _ _
def JqB(ws:Ac):∀(ks:Ac)(k:Str),k∈ws.foldl addS ks↔k∈ks\/k∈ws:=by
 induction ws with
 |nil=>intro ks k;simp
 |cons x ws f=>
  intro ks k;rw[gG,f];unfold addS;split
  ·rename_i h;constructor
   ·rintro(z|z)<;>simp[z]
   ·rintro(z|z)
    ·exact .inl z
    ·rcases Zf.mp z with rfl|z
     ·exact .inl h
     ·exact .inr z
  ·simp[or_assoc]
def Jkh(ws:Ac)(k:Str):k∈metS ws↔k∈ws:=by rw[metS,JqB];simp
theorem Jrh(ws:Ac):∀ks:List Str,'仞'.length<=AC+AY:=by
 induction ws with
 |nil=>intro ks;simp
 |cons x ws f=>
  intro ks;rw[gG];have:=f (addS ks x);have g:(addS ks x).length<=AC+1:=by unfold addS;split<;>simp
  simp only[Zk];lia
def Jgl(ws:Ac):'Н'.length<=AY:=by have:=Jrh ws [];simpa[metS]using this
section
variable{R:Ke}{I:Addr}{fp wr:A9}{G:Array GenState->Array GenState->Prop}{P:Nat->Value->Prop}{St:Nat->Shared->Prop}
theorem Jsx(W9:WalksS prog w XI I fp wr G n P St)(S:Addr)(hSf:S∉fp)(val:Nat->Str)(C:∀i v,P i v->∃t,v=.str Qas t)(u:n+1<scanBound):
  ∀(k i:Nat)(s:Al),n-i=k->i<=n->St i s->TS prog w lb VU S (metS ('ϔ'.map val))->
   (∀g,Moved (S::wr) G s g->TS prog w lb g.heap S (metS ('ϑ'.map val))->R N4 g)->codeAny Au A (.builtin "set.update.loop" ⟨[.ref S,.ref I],[]⟩) R s:=by
 have f:S∉wr:=λh=>hSf (W9.sub _ h);have q:∀b∈wr,b∈S::wr:=λb u=>Zm _ u;intro k;induction k with
 |zero=>
  intro i s hk hi r hS hR;obtain rfl:i=n:=by lia
  refine pF dZ ?_;rw[uF gW _];show wpAny _ XI (pyNext (.ref I)>>=_) _ _ s;refine Za (W9.done s _ _ r λg B=>?_);show wpAny _ XI (ret Xx) _ _ g;exact Zb (hR g (B.mono q) (hS.stay λo e=>B.heap S o f e))
 |succ k ih=>
  intro i s hk hi r hS hR;have hlt:i<n:=by lia
  refine pF dZ ?_;rw[uF gW _];show wpAny _ XI (pyNext (.ref I)>>=_) _ _ s;refine Za (W9.item i s _ _ hlt r λv g hP hst' B=>?_);obtain⟨t,rfl⟩:=C i v hP;have hS':=hS.stay λo e=>B.heap S o f e;show wpAny _ XI (holding [Value.str Qas t] (setAdd S (.str Qas t))>>=_) _ _ g;refine Za (wA ?_);unfold setAdd;refine wA (Za ('ù'.pyHash (k:=val i) (by simp[PySem.strKind,Value.isStrOf]) ?_));have room:(metS ('ϔ'.map val)).length+1<scanBound:=by have:=Jgl ('ϔ'.map val);simp only[Zi,wH]at this;lia
  refine Jwb (s:={g with toks:=g.toks+1}) hS' room λ_ h' hsb hS2=>?_;have hSi:TS prog w lb h' S (metS ((List.range Bw).map val)):=by rw[Job];exact hS2
  refine Zb ⟨iF gW _,ih Bw _ Af hlt (W9.frame _ g _ _ hst' (mC _) λb u o e=>?_) hSi λs'' hm'' U=>?_⟩
  ·rw[hsb.2 b (λh:b=S=>hSf (by rw[<-h];exact u))];exact e
  ·refine hR s'' (Moved.trans W9.gtrans ((B.mono q).then_heap (mC _) λb o u e=>?_) hm'') U;rw[hsb.2 b (λh:b=S=>u (by rw[h];exact fC))];exact e
end
noncomputable abbrev byT (w:AQ):Bool:=w.params.followText "set-order"
noncomputable abbrev newS (w:AQ):Obj:={cls:=.type "set",dict:=No,data:=.set #[] 0 (.fresh 0 0 (!byT w))}
def Jvb(a:An){Q:Ay}(h:Q Fi {s with heap:=s.heap.push (newS w)}):codeAny Au A (.call (.builtin "set.__new__") Ta) (wants Q E) s:=by refine codeAny_of_tree ?_;show wpAny _ XI (do checkBuiltinCall "set.__new__" Ta;again (.builtin "set.__new__" Ta)) _ _ s;refine Za (wpAny_of_eq (F.newCall_set_1 a) (Zb ⟨iF F.plain_set_new _,pF F.entry_set_new ?_⟩));rw[uF F.plain_set_new _];unfold Builtin.«set.__new__» Builtin.Frozenset.newClass;have sub:=sub_set_self;obtain⟨r,g,d,f,q⟩:=s;dsimp only;wp_walk;refine uJ (Zb ?_);dsimp only;simp only[newObj];refine Za (wpAny_alloc (Zb (Zb h)))
def Jnj{ws:Ac}{Q:Ay}(hh:Bh)(hl:Oj)(hi:StrsAre items.toList ws)(hb:Aw+1<scanBound)
  (h:∀(h':Heap)(tk:Nat),TS prog w (!byT w) h' Aa (metS ws)->(∀b o,b<Aa->s.heap.get? b=So o->h'.get? b=So o)->Q Fi {s with heap:=h',toks:=tk}):
  wpAny Au A (call IC [.ref l]) Q E s:=by
 obtain⟨c,tl,hmro⟩:=F.called_set.mro;have hmade:=F.called_set.made;have hsub:=F.called_set.sub;refine wpAny_call (codeAny_of_tree ?_);show wpAny _ _ (callAny IC _) _ _ _;refine Zb ⟨Code.quiet_builtin _ Ab,pF F.entry_type_call ?_⟩;rw[Around.under_plain (weight_type_call_type "set" [.ref l] []) rfl];have h1:=F.called_set.notType;have h2:=F.called_set.canCreate;have hct:=F.typeCall_set_1 BH;repeat(any_goals(first|assumption|wp_step))
 refine kG (Jvb BH (E:=E) (Q:=λobj C=>obj=.ref Aa/\C={s with heap:=s.heap.push (newS w)}) Cw) λr C hr=>?_;cases r with
 |error e=>exact hr
 |ok fl=>
  cases fl with
  |ret obj=>
   obtain⟨rfl,rfl⟩:=hr;have hS:'Ȏ'.get? Aa=So Qc1:=Ze _ rfl;have hT:Shared.TypeIs {s with heap:=s.heap.push (newS w)} '.' "set":=⟨_,hS,rfl⟩;have hli:=F.called_set.init.lookup;have hbi:=F.called_set.init.bind Fi;repeat(any_goals(first|assumption|wp_step))
   refine kG (codeAny_call_builtin (R:=wants (λr B=>r=.none/\∃h' tk,B={s with heap:=h',toks:=tk}/\TS prog w (!byT w) h' Aa (metS ws)/\
     (∀b o,b<Aa->s.heap.get? b=So o->h'.get? b=So o)) E) F.called_set.init.plain F.entry_set_init (check_set_init_1 hT ?_)) λr₂ B f=>?_
   ·obtain⟨ol,hol,hcl,nl,hdl⟩:=hl;obtain⟨ocls,U,odata,u⟩:=ol;simp only at hcl hdl;subst hcl;subst hdl;have hol':'Ȏ'.get? l=So {cls:=.type "list",dict:=U,data:=.seq items nl,slots:=u}:=Zd _ hol;have hsls:=F.sub_list_set;have hslf:=F.sub_list_frozenset;have hne:(Value.type "list"==Value.type "dict")=Fo:=by decide
    have hl1:'Ȏ'.IsList l items:=⟨_,hol',rfl,nl,rfl⟩;unfold Builtin.«set.__init__» noKeywords Builtin.Frozenset.updateFrom;generalize hPI:pyIter=PI;wp_walk;subst hPI;refine xJ hl1 (Za (wpAny_runValue ?_));have hlS:l<Aa:=Zj hol;have hh3:A.in1.in1.in1.handled=No:=by simp[hh]
    have hneI:l≠(s.heap.push Qc1).objs.size:=by rw[ZL];exact Zu (wB hlS)
    have hSf:Aa∉['Ȏ'.objs.size,l]:=by rw[ZL];simp only[Zf,Zy,fA,not_or];exact⟨Zu YS,rC hlS⟩
    have hlen:Aw=AY:=by have:=hi.strs;rw[<-this];simp
    have hval:∀(i:Nat)(v:An),items[i]? =So v->∃t,v=.str ((λi=>ws.getD i ⟨#[]⟩) i) t:=λi v hv=>by
     have hv':items.toList[i]? =So v:=by rw[jI];exact hv
     obtain⟨x,t,e⟩:=hi.all v (qM hv');have q:=kA (λl:List Str=>l[i]?) hi.strs;simp only[xB,hv',Option.map_some]at q;refine⟨t,?_⟩;rw[e]at q⊢;simp only[lM,<-q];rfl
    have hws:(List.range Aw).map (λi=>ws.getD i ⟨#[]⟩)=ws:=by rw[hlen];refine List.ext_getElem Ad λi h1 h2=>?_;simp[lM,h2]
    refine Jsx (lb:=!byT w) ((Walks.list hh3 _ l hneI items).toS) Aa hSf (λi=>ws.getD i ⟨#[]⟩) hval hb (Aw-0) 0 _ Af Xj ⟨CP,(hl1.push _)⟩ ?hS0 ?hR;case hS0=>
     refine⟨newS w,#[],0,.fresh 0 0 (!byT w),⟨Zd _ hS,Hl,rfl⟩,λe he=>by simp at he,⟨rfl,by decide⟩,rfl,λz=>absurd rfl z,vO _,aG⟩
    case hR=>
     intro s' hm g;rw[hws]at g;obtain⟨h',g',d',tk',os'⟩:=s';have eg:g'=s.gens:=hm.gens;have ed:d'=s.drawn:=hm.drawn;have eo:os'=s.os:=hm.os;subst eg;subst ed;subst eo;show wpAny _ _ _ _ _ _;refine Zb ?_;show wpAny _ _ (ret Xx) _ _ _;refine Zb ⟨rfl,h',tk',rfl,g,λb o hb e=>?_⟩;have hb1:b≠Aa:=Zu hb;have hb2:b≠(s.heap.push Qc1).objs.size:=by rw[ZL];exact Zu (wB hb)
     exact hm.heap b o (by simp only[Zf,Zy,fA,not_or];exact⟨hb1,hb2⟩) (Zd _ EH)
   ·cases r₂ with
    |error e=>exact f
    |ok I=>
     cases I with
     |ret r=>
      obtain⟨rfl,h',tk,rfl,g,hk'⟩:=f;repeat(any_goals(first|assumption|wp_step))
      exact h _ _ g hk'
     |_=>exact f.elim
  |_=>exact hr.elim
def JtV:entryFor table "set.__iter__"=So Builtin.«frozenset.__iter__»:=entryFor_alias (id':="frozenset.__iter__") (by kernel_rfl) rfl Ab (by kernel_rfl)
def kT:entryFor table "set_iterator.__next__"=So Builtin.«set_iterator.__next__»:=entryFor_of_tree (by kernel_rfl)
def at_next:Slot "set_iterator" "__next__" "set_iterator.__next__":=.of (owner:="set_iterator") (n:="__next__") (by rw[xO,kP];kernel_rfl) Ab Ab Ab (by first|exact .inl Ab|exact .inr Ab) (by rw[uO];kernel_rfl)
def JjH:Manifest.owners.lookup (String.ofList 'Ǘ'.reverse)=So Manifest.sig_set_iterator:=by kernel_rfl
def wU(a:An):argsOk "set_iterator.__next__" ⟨[a],[]⟩:=by unfold argsOk;rw[signature?_of (id:="set_iterator.__next__") (n:=['_','_','t','x','e','n','_','_']) (o:='Ǘ') (by kernel_rfl) JjH];kernel_rfl
def Jon{src:Source}{Q:Nat->Shared->Prop}(f:n≠0)(h:∀i d,i<n->Q i {s with drawn:=d}):wpAny Au A (choose src n) Q E s:=λg p _=>⟨f,h _ _ (Nat.mod_lt _ (Nat.pos_of_ne_zero f))⟩
theorem JcD:∀(xs:List α)(i:Nat)(h:i<Ah),(xs[i]::xs.eraseIdx i).Perm xs
 |x::xs,0,h=>vO _
 |x::xs,i+1,h=>by
  simp only[List.getElem_cons_succ,List.eraseIdx_cons_succ]
  exact(List.Perm.swap ..).trans ((JcD xs i (by simpa using h)).cons x)
theorem JkD:∀(n:Nat)(xs:List α)(s:Al)(Q:List α->Shared->Prop),Ah=n->(∀f d,f.Perm xs->Q f {s with drawn:=d})->wpAny Au A (drawOrder n xs) Q E s
 |0,[],s,Q,_,h=>by
  unfold drawOrder
  refine Zb ?_
  have:=h [] Yz (vO _)
  cases s;exact this
 |n+1,x::xs,s,Q,hl,h=>by
  unfold drawOrder
  refine Za (Jon Ad λi d g=>?_)
  have r:(x::xs)[i]? =So (x::xs)[i]:=ZC g
  rw[r]
  dsimp only
  refine Za (JkD n _ _ _ (by rw[List.length_eraseIdx_of_lt g];lia) λf q u=>Zb ?_)
  refine h _ q ?_
  exact(List.Perm.cons _ u).trans (JcD _ i g)
 |0,x::xs,s,Q,hl,_=>by simp at hl
 |n+1,[],s,Q,hl,_=>by simp at hl
theorem Jhk(next:Nat->Nat):∀(fuel k:Nat)(left:List α)(out:Array α),left.length=fuel->(pickOrder.go next fuel k left out).toList.Perm (out.toList++left)
 |0,k,left,out,h=>by
  have:left=[]:=fW.mp h
  subst this
  simp[pickOrder.go]
 |fuel+1,k,left,out,h=>by
  have f:next k % left.length<left.length:=Nat.mod_lt _ Af
  unfold pickOrder.go
  rw[ZC f]
  dsimp only
  refine(Jhk next fuel AZ _ _ (by rw[List.length_eraseIdx_of_lt f];lia)).trans ?_
  rw[Array.toList_push,List.append_assoc]
  exact(List.Perm.append_left _ (JcD _ _ f))
def IsSI(h:Heap)(it:Addr)(first:An)(i:Nat)(a:Addr)(n ep:Nat):Prop:=h.get? it=So {cls:=.type "set_iterator",data:=.fields #[first,.int i 0,.ref a,.int n 0,.int ep 0]}
structure SetAt(h:Heap)(a:Addr)(o:Obj)(es:Ki)(ep:Nat)(t:EA):Prop where
 ho:h.get? a=So o
 hx:o.ExactSet
 hd:o.data=.set es ep t
 hf:t.fits Xw=To
def SetAt.stay{o:Obj}{t:EA}(x:SetAt h a o es ep t)(k:∀o,h.get? a=So o->h'.get? a=So o):SetAt h' a o es ep t:=⟨k _ x.ho,x.hx,x.hd,x.hf⟩
section
variable{o:Obj}{t:EA}
def IsSI.ty{h:Heap}{first:An}{i n:Nat}{s:Al}(x:QV):s.TypeIs B8 "set_iterator":=⟨_,x,rfl⟩
def JmL{Q:Fin->Shared->Prop}(f:Bh)(hE:∀h' e,(∀b o,s.heap.get? b=So o->h'.get? b=So o)->(∃o,h'.get? e=So o/\o.cls=.type "StopIteration")->E IQ {s with heap:=h'}):
  wpAny Au A (do raiseNew (<-newExc Nh [])) Q E s:=by refine Za ?_;simp only[newExc,newTuple];refine Za (ZJ ?_ (by size_fits));refine Za (m:=firstArgMember _ _) (wpAny_of_eq (a:=Xx) (by first|rfl|(simp only[firstArgMember];rfl)) (ZJ ?_ (by size_fits)));delta raiseNew;refine Za (wpAny_handled ?_);rw[f];refine Za (Zb (wpAny_throw ?_));exact hE _ _ PK F6
def JhC{nx:Nat}{x:An}{Q:Dm}(hit:Vz)(hs:GA)(f:∀(r:Ay)(g:Mj),g (So (x,nx)) s->wpAny Au XI M4 g r s)
  (u:∀h',IsSI h' it (.int nx 0) Bw a Xw ep->Heap.SameBut it VU h'->Q (So x) {s with heap:=h'}):wpAny Au A Dw Q E s:=by unfold pyNext;refine Za (nE (ZM (name:=oS "__next__") (hit.ty (h:=VU)) at_next (ZD at_next (hit.ty (h:=VU)) kT ?_ (wU _))));show wpAny _ _ (fieldsOf B8>>=_) _ _ s;refine Za (mG hit rfl ?_);show wpAny _ _ (setEntries a>>=_) _ _ s;refine Za (nM Z7 Z8 aA ?_);show wpAny _ _ (if(((Xw:Nat):Int)!=(Xw:Int))=To then _ else _) _ _ s;rw[if_neg 'j'];show wpAny _ _ (setNext a sl i ep>>=_) _ _ s;refine Za (f _ _ ?_);refine Za (sC hit rfl Ad ?_);have q:(s.heap.update it (Obj.mapFields (·.setIfInBounds 0 (rawInt (nx:Int))))).get? it=So {cls:=.type "set_iterator",data:=.fields #[.int nx 0,.int i 0,.ref a,.int Xw 0,.int ep 0]}:=ZX _ hit rfl;refine Za (sC q rfl Ad (Zb ⟨x,rfl,Zb (u _ ?_ ((sF ..).trans (sF ..)))⟩));exact ZX _ q rfl
def JgG{Q:Dm}(F:Bh)(hit:Vz)(hs:GA)(f:∀(C:Ay)(r:Mj),r No s->wpAny Au XI M4 r C s)
  (B:∀h',(∀b o,b≠it->s.heap.get? b=So o->h'.get? b=So o)->Q No {s with heap:=h'}):wpAny Au A Dw Q E s:=by unfold pyNext;refine Za (nE (ZM (name:=oS "__next__") (hit.ty (h:=VU)) at_next (ZD at_next (hit.ty (h:=VU)) kT ?_ (wU _))));show wpAny _ _ (fieldsOf B8>>=_) _ _ s;refine Za (mG hit rfl ?_);show wpAny _ _ (setEntries a>>=_) _ _ s;refine Za (nM Z7 Z8 aA ?_);show wpAny _ _ (if(((Xw:Nat):Int)!=(Xw:Int))=To then _ else _) _ _ s;rw[if_neg 'j'];show wpAny _ _ (setNext a sl i ep>>=_) _ _ s;refine Za (f _ _ ?_);refine Za (sC hit rfl Ad ?_);refine JmL F λh' e u U=>?_;obtain⟨I,g,q⟩:=U;refine Za (nF (T:="StopIteration") (b:=To) ⟨I,g,q⟩ gM (Zb (B h' λb o hb e=>u b o ?_)));exact(ZO _ _ E2).trans e
def Jlw{tp:Addr}{ord:B7}{e:Int×Value}{Q:Dm}(hit:Vm)(hs:GA)(f:s.heap.get? tp=So {cls:=.type "tuple",data:=.seq ord})(hj:ord[i]? =So (.int (j:Int) 0))(he:es[j]? =So e)
  (hQ:∀h',IsSI h' it (.ref tp) Bw a Xw ep->Heap.SameBut it VU h'->Q (So e.2) {s with heap:=h'}):wpAny Au A Dw Q E s:=by
 unfold pyNext;refine Za (nE (ZM (name:=oS "__next__") (hit.ty (h:=VU)) at_next (ZD at_next (hit.ty (h:=VU)) kT ?_ (wU _))));show wpAny _ _ (fieldsOf B8>>=_) _ _ s;refine Za (mG hit rfl ?_);show wpAny _ _ (setEntries a>>=_) _ _ s;refine Za (nM Z7 Z8 aA ?_);show wpAny _ _ (if(((Xw:Nat):Int)!=(Xw:Int))=To then _ else _) _ _ s;rw[if_neg 'j'];show wpAny _ _ (seqItems? (.ref tp)>>=_) _ _ s;refine Za (uC f rfl ?_);simp only[qF,hj];refine Za ?_;unfold setNextDrawn;refine Za (wJ Z7 Z8 aA ?_);simp only[bne_self_eq_false,Zl,ZF,he];first|refine Za (Zb (Zb ?_))|refine Zb ?_
 refine Za (sC hit rfl Ad (Zb ⟨e.2,rfl,Zb (hQ _ ?_ (sF ..))⟩));exact ZX _ hit rfl
def Jew{tp:Addr}{ord:B7}{Q:Dm}(F:Bh)(hit:Vm)(hs:GA)(q:s.heap.get? tp=So {cls:=.type "tuple",data:=.seq ord})(hj:ord[i]? =No)
  (hQ:∀h',(∀b o,b≠it->s.heap.get? b=So o->h'.get? b=So o)->Q No {s with heap:=h'}):wpAny Au A Dw Q E s:=by unfold pyNext;refine Za (nE (ZM (name:=oS "__next__") (hit.ty (h:=VU)) at_next (ZD at_next (hit.ty (h:=VU)) kT ?_ (wU _))));show wpAny _ _ (fieldsOf B8>>=_) _ _ s;refine Za (mG hit rfl ?_);show wpAny _ _ (setEntries a>>=_) _ _ s;refine Za (nM Z7 Z8 aA ?_);show wpAny _ _ (if(((Xw:Nat):Int)!=(Xw:Int))=To then _ else _) _ _ s;rw[if_neg 'j'];show wpAny _ _ (seqItems? (.ref tp)>>=_) _ _ s;refine Za (uC q rfl ?_);simp only[qF,hj];refine Za (sC hit rfl Ad ?_);have u:(s.heap.update it (Obj.mapFields (·.setIfInBounds 0 (rawInt 0)))).get? it=So {cls:=.type "set_iterator",data:=.fields #[.int 0 0,.int i 0,.ref a,.int Xw 0,.int ep 0]}:=ZX _ hit rfl;refine Za (sC u rfl Ad ?_);refine JmL F λh' e r C=>?_;obtain⟨B,g,f⟩:=C;refine Za (nF (T:="StopIteration") (b:=To) ⟨B,g,f⟩ gM (Zb (hQ h' λb o hb e=>r b o ?_)));exact(ZO _ _ E2).trans ('Э'.trans e)
def Jni(hs:GA)(f:byT w=To)(q:Ay)(g:Mj)(h:g (((pickOrder Ku es)[i]?).map λe=>(e.2,sl)) s):wpAny Au A M4 g q s:=by
 unfold setNext;refine Za (wJ Z7 Z8 aA ?_);unfold setsByText;refine Za (Za (uJ (Zb ?_)));show wpAny _ _ (if byT w=To then _ else _) _ _ s;rw[if_pos f];simp only[bne_self_eq_false,Zl,ZF];first|refine Za (Zb ?_)|skip
 unfold setWalk;refine Za (Za (wJ Z7 Z8 aA ?_));unfold setsByText;refine Za (Za (uJ (Zb ?_)));show wpAny _ _ (if byT w=To then _ else _) _ _ s;rw[if_pos f];refine Za (uJ (Zb ?_));exact Zb h
def JrY(hs:GA)(q:byT w=Fo)(h1:es.size<=1)(u:es.size=0\/t.led=To)(r:Ay)(f:Mj)
  (h:f (match es[SetTable.below QcG sl]?,t.place[SetTable.below QcG sl]? with
   |some (_,x),So j=>So (x,j+1)
   |_,_=>No) s):wpAny Au A M4 f r s:=by
 unfold setNext;refine Za (wJ Z7 Z8 aA ?_);unfold setsByText;refine Za (Za (uJ (Zb ?_)));show wpAny _ _ (if byT w=To then _ else _) _ _ s;rw[if_neg (by rw[q];decide)];have B:(!t.plain&&decide (Xw>1))=Fo:=by rw[Zs 'g',iM]
 show wpAny _ _ (if(!t.plain&&decide (Xw>1))=To then _ else _) _ _ s;rw[if_neg (by rw[B];decide)];have g:(!t.led&&!es.isEmpty)=Fo:=by
  rcases u with z|z
  ·have:es.isEmpty=To:=by simpa[Array.isEmpty]using z
   rw[this];simp
  ·rw[z];rfl
 show wpAny _ _ ((if(!t.led&&!es.isEmpty)=To then _ else _)>>=_) _ _ s;rw[if_neg (by rw[g];decide)];refine Za (Zb (Zb h))
end
def JpU:entryFor table "set_iterator.__iter__"=So Builtin.«dict_keyiterator.__iter__»:=entryFor_alias (id':="dict_keyiterator.__iter__") (by kernel_rfl) rfl Ab (by kernel_rfl)
def Jki:Slot "set_iterator" "__iter__" "set_iterator.__iter__":=.of (owner:="set_iterator") (n:="__iter__") (by rw[xO,kP];kernel_rfl) Ab Ab Ab (by first|exact .inl Ab|exact .inr Ab) (by rw[uO];kernel_rfl)
def JkV(a:An):argsOk "set_iterator.__iter__" ⟨[a],[]⟩:=by unfold argsOk;rw[signature?_of (id:="set_iterator.__iter__") (n:=['_','_','r','e','t','i','_','_']) (o:='Ǘ') (by kernel_rfl) JjH];kernel_rfl
section
variable{o:Obj}{t:EA}
def JdH{first:An}{Q:Ay}(hit:QV)(h:Q B8 s):wpAny Au A (pyIter B8) Q E s:=by refine wL (hit.ty (h:=VU)) Jki (ZD Jki (hit.ty (h:=VU)) JpU ?_ (JkV _));show wpAny _ _ (ret B8) _ _ s;exact Zb ⟨_,rfl,"set_iterator",_,(hit.ty (h:=VU)),at_next.lookup,h⟩
def JnJ(hh:Bh)(I:byT w=To)(r:a≠it):Walks prog w A it [it,a] [it] ('Ѕ'.toList.map (·.2)).length (λi v=>('Ѕ'.toList.map (·.2))[i]? =So v)
  (λi h=>IsSI h it (.int (0:Nat) 0) i a Xw ep/\SetAt h a o es ep t)where
 sub:=λb f=>by simp at f;simp[f]
 frame:=λi h h' st F=>⟨F it Ad _ st.1,st.2.stay λo e=>F a Ad o e⟩
 item:=λi s Q E hi st u=>by
  have g:i<(pickOrder Ku es).size:=by simpa using hi
  refine JhC (sl:=0) (nx:=0) (x:=(pickOrder Ku es)[i].2) st.1 st.2 (λB C q=>Jni st.2 I B C ?_) λh' g1 U=>?_
  ·rw[nG g];exact q
  ·refine u _ h' Xv ?_ ⟨g1,st.2.stay λo e=>(U.2 a r).trans e⟩ λb o f e=>(U.2 b λz=>f (by simp[z])).trans e
   rw[xB,jI,nG g];rfl
 done:=λs Q E st u=>by
  refine JgG (sl:=0) hh st.1 st.2 (λB C q=>Jni st.2 I B C ?_) λh' k=>u h' Xv λb o f e=>k b o (λz=>f (by simp[z])) e
  rw[Array.getElem?_eq_none 'j'];exact q
 self:=λi s Q E st h=>JdH st.1 h
def JkZ{tp:Addr}{ord:As}(hh:Bh)(u:a≠it)(q:tp≠it)(ho:∀j∈ord,j<Xw):Walks prog w A it [it,a,tp] [it] (ord.map λj=>(es.getD j Qde).2).length (λi v=>(ord.map λj=>(es.getD j Qde).2)[i]? =So v)
  (λi h=>IsSI h it (.ref tp) i a Xw ep/\SetAt h a o es ep t/\h.get? tp=So {cls:=.type "tuple",data:=.seq (ord.map λj:Nat=>Value.int (j:Int) 0).toArray})where
 sub:=λb g=>by simp at g;simp[g]
 frame:=λi h h' st r=>⟨r it Ad _ st.1,st.2.1.stay λo e=>r a Ad o e,r tp Ad _ st.2.2⟩
 item:=λi s Q E U st B=>by
  have f:i<ord.length:=by simpa using U
  have F:ord[i]<es.size:=ho _ (sP f)
  refine Jlw (j:=ord[i]) (e:=es[ord[i]]) st.1 st.2.1 st.2.2 (by simp[f]) (nG F) λh' I C=>?_
  refine B _ h' Xv ?_ ⟨I,st.2.1.stay λo e=>(C.2 a u).trans e,(C.2 tp q).trans st.2.2⟩ λb o g e=>(C.2 b λz=>g (by simp[z])).trans e
  rw[xB,ZC f]
  simp[Array.getD,F]
 done:=λs Q E st B=>Jew hh st.1 st.2.1 st.2.2 Ad λh' k=>B h' Xv λb o g e=>k b o (λz=>g (by simp[z])) e
 self:=λi s Q E st h=>JdH st.1 h
theorem JqW(hh:Bh)(hT:byT w=Fo)(u:a≠it)(h1:es.size<=1)(hl:es.size=0\/t.led=To):Walks prog w A it [it,a] [it] (es.toList.map (·.2)).length (λi v=>(es.toList.map (·.2))[i]? =So v)
  (λi h=>IsSI h it (.int ((if i=0 then 0 else t.place.getD 0 0+1:Nat):Nat) 0) i a Xw ep/\SetAt h a o es ep t)where
 sub:=λb f=>by simp at f;simp[f]
 frame:=λi h h' st hk=>⟨hk it Ad _ st.1,st.2.stay λo e=>hk a Ad o e⟩
 item:=λi s Q E hi st B=>by
  have r:i<es.size:=by simpa using hi
  have i0:i=0:=by lia
  subst i0
  have hsz:es.size=1:=by lia
  have I:t.place.size=1:=by
   have:=st.2.hf;simp only[SetTable.fits,Zc,ZI]at this;lia
  have f:SetTable.below QcG 0=0:=by
   unfold SetTable.below;rw[I];simp[SetTable.below.go]
  refine JhC (sl:=0) (nx:=t.place.getD 0 0+1) (x:=es[0].2) st.1 st.2 (λC F q=>JrY st.2 hT h1 hl C F ?_) λh' g1 g2=>?_
  ·rw[f,nG r,nG (show 0<t.place.size by lia)]
   have:t.place.getD 0 0=t.place[0]:=by simp[Array.getD,I]
   rw[this]at q;exact q
  ·refine B _ h' Xv ?_ ⟨g1,st.2.stay λo e=>(g2.2 a u).trans e⟩ λb o f e=>(g2.2 b λz=>f (by simp[z])).trans e
   rw[xB,jI,nG r];rfl
 done:=λs Q E st B=>by
  rw[Zi,ZQ]at st;refine JgG hh st.1 st.2 (λC F q=>JrY st.2 hT h1 hl C F ?_) λh' k=>B h' Xv λb o f e=>k b o (λz=>f (by simp[z])) e;have I:t.place.size=es.size:=by
   have:=st.2.hf;simp only[SetTable.fits,Zc,ZI]at this;exact this.1
  have g:es.size<=SetTable.below QcG (if es.size=0 then 0 else t.place.getD 0 0+1):=by
   by_cases z:es.size=0
   ·lia
   ·have z1:es.size=1:=by lia
    rw[if_neg z];have U:t.place.size=1:=by lia
    unfold SetTable.below;rw[U];have h0:t.place[0]? =So (t.place[0]'(by lia)):=nG Af;simp[SetTable.below.go,h0,z1]
  rw[Array.getElem?_eq_none g];exact q
 self:=λi s Q E st h=>JdH st.1 h
def Jpt{Q:Ay}(hS:TS prog w (!byT w) VU a ks)(hk:AC<=4000)
  (hQ:∀(h1:Heap)(d:Drawn)(I:Addr)(fp:A9)(vs:AE)(ks':Ac)(St:Fv),(∀b o,s.heap.get? b=So o->h1.get? b=So o)->(∀b∈fp,b=a\/s.heap.objs.size<=b)->Aa<=I->
   (∀A':Around,A'.handled=No->Walks prog w A' I fp [I] AJ (λi v=>vs[i]? =So v) St)->St 0 h1->StrsAre vs ks'->ks'.Perm ks->Q (.ref I) {s with heap:=h1,drawn:=d}):wpAny Au A Ii Q E s:=by
 obtain⟨o,es,ep,t,⟨g,hx,hd⟩,hel,⟨hf,hz⟩,hl,hp,hkp,hn⟩:=hS;have sa:SetAt VU a o es ep t:=⟨g,hx,hd,hf⟩;have hty:s.TypeIs Ar "set":=⟨o,g,hx.1⟩;have B:a<Aa:=Zj g;have allS:∀e∈es.toList,∃x u,e.2=.str x u:=λe he=>by obtain⟨⟨k,hk,_⟩,_⟩:=hel e he;obtain⟨u,q⟩:=vY hk;exact⟨k,u,q⟩
 have r:∀l:List (Int×Value),l.Perm es.toList->StrsAre (l.map (·.2)) ((l.map (·.2)).map strOf)/\((l.map (·.2)).map strOf).Perm ks:=λl pl=>by
  refine⟨strsAre_map _ λv hv=>?_,?_⟩
  ·obtain⟨e,he,rfl⟩:=Zv.mp hv;exact allS e (pl.mem_iff.mp he)
  ·rw[Zt];exact(pl.map _).trans hkp
 refine wL hty Qeg (ZD Qeg hty JtV ?_ (F.args_set_iter_1 _));unfold Builtin.«frozenset.__iter__» Builtin.Frozenset.slot0 slotArgs;simp only[List.isEmpty_nil,qD,Zl,ZF,bind_assoc,rD,bne_self_eq_false];unfold Builtin.Frozenset.addrOf Builtin.Frozenset.sizeOf;refine Za (Zb ?_);try dsimp only
 refine Za (Zb ?_);refine Za (Za (nM g hd hf (Zb ?_)));unfold setDrawn;refine Za (Za (wJ g hd hf ?_));unfold setsByText;refine Za (Za (uJ (Zb ?_)));refine Zb ?_;show wpAny _ _ (if(!byT w&&(!t.plain&&decide (Xw>1)))=To then _ else _) _ _ s;have z1:es.size<=sizeLine:=fits_of_scanBound hz;by_cases f:(!byT w&&(!t.plain&&decide (Xw>1)))=To
 ·rw[if_pos f];refine Za (JkD _ _ _ _ Ad λord d po=>?_);refine Za (wpAny_newTuple ?_ (by rw[Zi,po.length_eq,wH];exact z1));refine Za (wpAny_setEpoch_of (Zd _ g) hd hf ?_);refine Za (ZJ (Zb Wm));have oj:∀j∈ord,j<es.size:=λj hj=>by simpa using po.mem_iff.mp hj
  have pl:((ord.map λj=>es.getD j Qde)).Perm YB:=by
   have c1:=po.map λj=>es.getD j Iq;refine c1.trans (List.Perm.of_eq ?_);refine List.ext_getElem Ad λi h1 h2=>?_;have h3:i<es.size:=by simpa using h2
   simp[Array.getD,h3]
  obtain⟨U,C⟩:=r _ pl;have em:(ord.map λj=>es.getD j Iq).map (·.2)=ord.map λj=>(es.getD j Iq).2:=by rw[Zt];rfl
  rw[em]at U C;refine hQ _ d _ [_,a,Aa] _ _ _ PK (λb hb=>?_) ?_ (λA' hA=>JkZ (tp:=Aa) (ord:=ord) hA ?_ ?_ oj) ⟨Ze _ rfl,sa.stay λo e=>Zd _ EH,Zd _ FU⟩ U C
  ·simp only[Zf,Zy,fA]at hb;rcases hb with rfl|rfl|rfl
   ·right;show _<=(Heap.push _ _).objs.size;rw[ZL];exact mC _
   ·exact .inl rfl
   ·exact .inr (Zh _)
  ·show _<=(Heap.push _ _).objs.size;rw[ZL];exact mC _
  ·show a≠(Heap.push _ _).objs.size;rw[ZL];exact Zu (wB B)
  ·show Aa≠(Heap.push _ _).objs.size;rw[ZL];exact Zu YS
 ·rw[if_neg f];refine Za (Zb ?_);refine Za (wpAny_setEpoch_of g hd hf ?_);refine Za (ZJ (Zb Wm));have fpo:∀b∈[Aa,a],b=a\/s.heap.objs.size<=b:=λb hb=>by
   simp only[Zf,Zy,fA]at hb;rcases hb with rfl|rfl
   ·exact .inr (Zh _)
   ·exact .inl rfl
  have kp:∀(x:Obj)b o,s.heap.get? b=So o->(s.heap.push x).get? b=So o:=λx b o e=>Zd _ e;cases hT:byT w with
  |true=>
   have pl:'Ѕ'.toList.Perm YB:=by have:=Jhk Ku Xw 0 YB #[] Ad;simpa[pickOrder]using this
   obtain⟨U,C⟩:=r _ pl;exact hQ _ Yz _ _ _ _ _ (kp _) fpo (Zh _) (λA' hA=>JnJ (o:=o) (t:=t) hA hT (Zu B)) Vj U C
  |false=>
   have few:es.size<=1:=by
    by_cases z:es.size<=1
    ·exact z
    ·exfalso;apply f;rw[hT,hp 'g',Zx 'g'];rfl
   obtain⟨U,C⟩:=r _ (vO _);rw[hT]at hl;exact hQ _ Yz _ _ _ _ _ (kp _) fpo (Zh _) (λA' hA=>JqW (o:=o) (t:=t) hA hT (Zu B) few (.inr hl)) Vj U C
end
def JpI{Q:E5}(g:s.TypeIs Ar "set")(h:Q Fo s):wpAny Au A (Builtin.List.listLengthHint Ar) Q E s:=by unfold Builtin.List.listLengthHint;refine Za (oJ g F.slot_set_len.lookup ?_);generalize hid:("set.__len__":String)=id0;wp_delta;rw[show splitId id0=So ("set","__len__")from by subst hid;decide+kernel];subst hid;refine Za (nF (T:="set") (b:=To) g (by rw[uO];kernel_rfl) (gI Pe (λ_=>gI (λ_=>?_) Pd)));exact Za QdM
theorem Jif{Q:List Value->Shared->Prop}(hh:Bh)(hS:TS prog w (!byT w) VU a ks)(hk:AC<60)
  (hQ:∀(h1:Heap)(d:Drawn)(tk:Nat)(vs:AE)(q:Ac),(∀b o,s.heap.get? b=So o->h1.get? b=So o)->Aa<=h1.objs.size->StrsAre vs q->q.Perm ks->Q vs {s with heap:=h1,drawn:=d,toks:=tk}):wpAny Au A (collect Ar) Q E s:=by
 obtain⟨oa,hoa⟩:=hS.there;have hty:∀u:Shared,TS prog w (!byT w) u.heap a ks->u.TypeIs Ar "set":=λu⟨o,_,_,_,⟨e,x,_⟩,_⟩=>⟨o,e,x.1⟩;have hne:Aa≠a:=rC (Zj hoa);unfold collect;refine Za (wpAny_runValue (pF eG ?_));rw[uF F.plain_proto_collect _];show wpAny _ XI (newList []>>=λl=>again (.builtin "list.__iadd__" ⟨[l,.ref a],[]⟩)) _ _ s;refine Za (ZJ ?_);refine Zb Vs;rw[uF eW _];show wpAny _ XI (Builtin.List.listExtendWith Fi Ar Fi) _ _ _;unfold Builtin.List.listExtendWith;have U:TS prog w (!byT w) (s.heap.push {cls:=.type "list",data:=.seq ([]:List Value).toArray}) a ks:=hS.stay λo e=>Zd _ e;refine Za (jF (hty {s with heap:=s.heap.push {cls:=.type "list",data:=.seq ([]:List Value).toArray}} U) ?_);have h1:Builtin.List.listSameRef Fi Ar=Fo:=by simp[Builtin.List.listSameRef,hne]
 have h2:(Value.type "set"==Value.type "list")=Fo:=by decide
 have h3:(Value.type "set"==Value.type "tuple")=Fo:=by decide
 simp only[h1,h2,h3,qH,Zl,ZF];refine Za (Jpt (s:={s with heap:=s.heap.push {cls:=.type "list",data:=.seq ([]:List Value).toArray}}) U Af λC d I fp vs q St kp fpo hI W9 st q1 q2=>?_);have hsz:(s.heap.push {cls:=.type "list",data:=.seq ([]:List Value).toArray}).objs.size=Aa+1:=ZL ..;have hSf:Aa∉fp:=λz=>by
  rcases fpo _ z with e|e
  ·exact hne e
  ·change(s.heap.push {cls:=.type "list",data:=.seq ([]:List Value).toArray}).objs.size<=_ at e;rw[hsz]at e;lia
 have hIS:Aa≠I:=λz=>by change(s.heap.push {cls:=.type "list",data:=.seq ([]:List Value).toArray}).objs.size<=_ at hI;rw[hsz]at hI;lia
 have hlen:AJ=AC:=by have:=q2.length_eq;rw[<-q1.strs,Zi]at this;exact this
 have hnl:AJ<=sizeLine:=by rw[ZG];lia
 have hL1:C.get? Aa=So {cls:=.type "list",data:=.seq #[]}:=kp _ _ FU;have hh1:A.in1.in1.handled=No:=by simp[hh]
 have key:∀(g:Heap)(c:Nat)(tk:Nat),St 0 g->(∀b o,b≠Aa->C.get? b=So o->g.get? b=So o)->g.get? Aa=So {cls:=.type "list",data:=.seq #[] c}->
   codeAny Au A (.builtin "list.extend.loop" ⟨[.ref Aa,.ref I,.ref Aa],[]⟩) (λr u=>match r with
    |.ok (.ret v)=>wpAny Au A (match v with
     |.ref a=>do match(<-load a).data with
      |.seq xs _=>pure xs.toList
      |_=>unsupported "internal:collect"
     |_=>unsupported "internal:collect") Q E u
    |.ok _=>False
    |.error e=>E e u) {s with heap:=g,drawn:=d,toks:=tk}:=by
  intro g c tk st' kp' hL;refine codeAny_extend_loopS (W9 XI (by simp[hh])).toS hnl Aa hSf _ AJ 0 _ #[] c rfl (vB _) st' hL (ItemsOf.nil _) λu f c' hm hS' B=>?_;have e2:f.toList=vs:=by
   refine List.ext_getElem (by simpa using B.1) λi a1 a2=>?_;have a3:i<f.size:=by simpa using a1
   have:vs[i]? =So f[i]:=B.2 i f[i] (nG a3);rw[ZC a2]at this;simpa using(sD this).symm
  show wpAny _ _ (load Aa>>=_) _ _ u;refine Za (wpAny_load hS' (Zb ?_));obtain⟨g',ge',d',tk',os'⟩:=u;have eg:ge'=s.gens:=hm.gens;have ed:d'=d:=hm.drawn;have eo:os'=s.os:=hm.os;subst eg ed eo;show Q f.toList _;rw[e2];refine hQ g' d' tk' vs q (λb o e=>?_) (Nat.le_of_lt (Zj hS')) q1 q2;have hb:b<Aa:=Zj e;refine hm.heap b o ?_ (kp' b o (Zu hb) (kp b o EH));simp only[Zf,Zy,fA,not_or];refine⟨Zu hb,λz=>?_⟩;change(s.heap.push {cls:=.type "list",data:=.seq ([]:List Value).toArray}).objs.size<=_ at hI;rw[hsz]at hI;have hb':b<Aa:=hb;rw[z]at hb';exact absurd (ZB hb' (vP hI)) CH
 have hS2:TS prog w (!byT w) C a ks:=U.stay λo e=>kp a o e;refine Za (wA (JpI (hty {s with heap:=C,drawn:=d} hS2) ?_));refine gI (λ_=>?_) (λ_=>Zb ⟨iF iP _,key C 0 Xv st (λb o _ e=>e) hL1⟩);refine Za (kB (Za ?_));show wpAny _ XI (updateSeq Aa (·.push .none)>>=λ_=>updateSeq Aa (·.pop)) _ _ _;refine Za (nJ hL1 rfl ?_);have hL2:=ZX (Obj.mapSeq (·.push Xx)) hL1 rfl;refine nJ (hz:=by seq_fits) hL2 rfl ?_;have hL3:=ZX (Obj.mapSeq (·.pop)) hL2 rfl;have oth:∀b o,b≠Aa->C.get? b=So o->((C.update Aa (Obj.mapSeq (·.push Xx))).update Aa (Obj.mapSeq (·.pop))).get? b=So o:=λb o hb e=>'Э'.trans ('Э'.trans e);exact Zb ⟨iF iP _,key _ _ Xv ((W9 XI (by simp[hh])).frame 0 _ _ st λb hb o e=>oth b o (λz=>hSf (z▸hb)) e) oth hL3⟩
theorem Jhj{Q:Ay}(hh:Bh)(hS:TS prog w (!byT w) VU a ks)(hk:AC<60)
  (h:∀(h':Heap)(d:Drawn)(tk:Nat)(l:Addr)(vs:AE)(r:Ac)(e:Nat),(∀b o,s.heap.get? b=So o->h'.get? b=So o)->Aa<=l->h'.get? l=So (seqObj "list" Ct e)->StrsAre vs r->r.Perm ks->PyProof.Rows.sortedS r=To->Q BH {s with heap:=h',drawn:=d,toks:=tk}):
  wpAny Au A (call M3 Cs) Q E s:=by
 obtain⟨oa,hoa⟩:=hS.there;refine Calls.call_function_entry kind_sorted plain_sorted entry_sorted Qa3 ?_;unfold Builtin.«sorted»;refine Za (m:=checkCount "sorted" 1 1 _) (Zb (Za (Jif (by simp[hh]) hS hk λC d tk vs ks' kp F B U=>?_)));have hlen:AJ=AC:=by have:=U.length_eq;rw[<-B.strs,Zi]at this;exact this
 refine Za (wpAny_newList ?_ (by rw[ZG];lia));have f:(C.push S5).get? C.objs.size=So S5:=Ze _ rfl;refine Za (wA (ZD slot_list_sort HM entry_list_sort (list_sort_treeK strKind_oneLt (s:={s with heap:=C.push S5,drawn:=d,toks:=tk}) f B.keysOf (λv₁ I rest e=>keyKind_strs (by rw[<-e];exact B)) Af λu a1 a2=>Il) N3));obtain⟨r,b1,b2,b3⟩:=sorted_out_str B a1 a2;obtain⟨e,he⟩:=sortedHeap_at (out:=(arrOf u).map (·.2)) f;refine Zb ⟨_,rfl,h _ d tk C.objs.size ((arrOf u).map (·.2)).toList r e (λb o q=>?_) F (by rw[Array.toArray_toList];exact he) b1 (b2.trans U) b3⟩;have q':=kp b o q;have g:=Zj q';rw[sortedHeap_old (Zu g) (by rw[ZL];exact wB g)];exact Zd _ q'
noncomputable def SetO (X:Cx) (a:Addr) (ks:Ac):HO:=.ext λh=>TS Xz X.w (!byT X.w) h a ks
section
theorem JdV:∀{ws:Ac}{f:AE},Vals Rb f->StrsAre f ws
 |[],_,.nil=>.nil
 |x::ws,_,.cons ⟨t,e⟩ r=>by subst e;exact .cons x t (JdV r)
theorem JdG:∀{ws:Ac}{f:AE},StrsAre f ws->Vals Rb f
 |_,_,.nil=>.nil
 |_,_,.cons x t r=>.cons GQ (JdG r)
def JoP(I:BU)(d:Drawn):L2.Inv X Y Z H {s with drawn:=d}:=⟨I.ok,I.os,X8,I.base,Yi,I.cell,Yl,QcC,I.pin,XD,I.len⟩
def rSet (X:Cx):List V->Hp->VK->Prop:=λxs H Q=>∃p f,xs=Ez/\SqL X.K H p (f.map YQ)/\f.length<60/\∀l,H l=No->Q BH (upd H l (SetO X l (metS f)))
theorem Jyc(F:Cj):pA X IC (rSet X):=by intro Y s Z H xs us Q I r h;obtain⟨p,ws,rfl,hq,hl,q⟩:=h;obtain⟨u,rfl,C⟩:=xA r;cases C;obtain⟨its,g,pl,hz⟩:=I.list hq;have f:=Yd;rw[Zi]at f;refine Jnj (items:=AF) (ws:=ws) (I.ok.hd F) Ye (by simpa using JdV g) (by rw[Zo,<-f];show _<4096;lia) λh' tk B U=>?_;obtain⟨o,ho⟩:=B.there;exact⟨.ref Aa,_,I.laid (t':=tk) (λb o e=>U b o (Zj e) e) (Zh _) (show ObjOk Xz X.w _ h' _ (SetO X Aa 'Н')from⟨B,⟨o,ho⟩,λh1 h2 z k=>TS.stay z k⟩),rfl,q _ E1⟩
theorem JmF(hc:Cj):pA X M3 (λxs H Q=>∃p ks,xs=Ez/\H p=So (SetO X p ks)/\ks.length<60/\∀(l:Addr)(f:Ac),H l=No->f.Perm ks->PyProof.Rows.sortedS f=To->Q BH UN):=by
 intro Y s Z H xs us Q I r h;obtain⟨p,ks,rfl,hq,hl,q⟩:=h;obtain⟨u,rfl,U⟩:=xA r;cases U;have hS:TS Xz X.w (!byT X.w) VU p ks:=(I.hok p _ hq).1;refine Jhj L7 hS hl λh' d F l vs f e kp g hg C B q3=>?_;have hz:AJ=AC:=by have:=B.length_eq;rw[<-C.strs,Zi]at this;exact this
 have I1:L2.Inv X Y Z UN {s with heap:=h',drawn:=d,toks:=F}:=
  (JoP I d).laid (t':=F) kp g ⟨by rw[Zi,B.length_eq,ZG];lia,vs,e,JdG C,hg⟩
 exact⟨.ref l,_,I1,rfl,q l f Qbv B q3⟩
theorem Jww:pA X MT (λxs H Q=>∃p ks,xs=Ez/\H p=So (SetO X p ks)/\ks.length<60/\Q (.int AC) H):=by
 intro Y s Z H xs us Q I r h;obtain⟨p,ks,rfl,hq,hl,q⟩:=h;obtain⟨u,rfl,U⟩:=xA r;cases U;obtain⟨o,es,ep,t,⟨ho,F,hd⟩,hel,⟨C,hz⟩,_,_,B,_⟩:=(I.hok p _ hq).1;have f:es.size=AC:=by have:=B.length_eq;simpa[mH]using this
 have g:((Xw:Nat):Int)<2^63:=by
  have:((Xw:Nat):Int)<60:=by lia
  exact Int.lt_trans this AB
 refine call_len_set ho F hd C g ?_;refine⟨.int AC,H,I.kept (t':=Xv+1+1) (λb o e=>e),⟨_,by rw[f]⟩,q⟩
theorem Jeg:∀(p:Str)(l:Ac),risingS p l=To->(p::l).Nodup->(p::l).Pairwise LtS
 |p,[],_,_=>by simp
 |p,x::r,h,hn=>by
  simp only[risingS,Zc,ZV]at h
  obtain⟨q,u⟩:=h
  rw[ltCps_eq]at q
  have n1:¬LtS x p:=by simpa[LtS]using q
  obtain⟨B,C⟩:=oB.mp hn
  have g:=Jeg x r u C
  have px:LtS p x:=LtS.total n1 λe=>B (by simp[e])
  refine qG.mpr ⟨λz f=>?_,g⟩
  rcases Zf.mp f with rfl|f
  ·exact px
  ·exact px.trans ((qG.mp g).1 z f)
def Jhh{f ws:Ac}(h1:f.Perm ks)(u:PyProof.Rows.sortedS f=To)(r:ks.Nodup)(q:∀k,k∈ks↔k∈ws):f=Pu.Jn ws:=by
 have g:f.Nodup:=h1.symm.nodup r;have B:f.Pairwise LtS:=by
  cases f with
  |nil=>exact List.Pairwise.nil
  |cons p l=>exact Jeg p l u g
 exact JdR _ _ B (JI ws) λk=>(h1.mem_iff.trans (q k)).trans (Jy ws k).symm
def JkT(ws:Ac):∀ks:List Str,ks.Nodup->'仞'.Nodup:=by
 induction ws with
 |nil=>intro ks h;exact h
 |cons x ws q=>
  intro ks h;rw[gG];refine q _ ?_;unfold addS;split
  ·exact h
  ·rename_i f;rw[vH];refine⟨h,by simp,λu r v g e=>?_⟩;rw[yB]at g;subst g e;exact f r
def JeN(ws:Ac):'Н'.Nodup:=JkT ws [] aG
def JmW(ws:Ac):'Н'.length='Ғ'.length:=by have f:'Н'.Perm 'Ғ':=(List.perm_ext_iff_of_nodup (JeN ws) (eV _ (JI ws))).mpr λk=>(Jkh ws k).trans (Jy ws k).symm;exact f.length_eq
theorem sO:∀{J:Ak}{ws:Ac},JM J=So ws->J=ws.map XO
 |[],ws,h=>by cases h;rfl
 |.str x::J,ws,h=>by
  simp only[JM]at h
  cases q:JM J with
  |none=>rw[q]at h;cases h
  |some f=>rw[q]at h;cases h;rw[sO q];rfl
 |.non::J,ws,h=>by cases h
 |.bl _::J,ws,h=>by cases h
 |.int _::J,ws,h=>by cases h
 |.tup _::J,ws,h=>by cases h
 |.lst _::J,ws,h=>by cases h
theorem Jgp:∀{ws:Ac}{xs:Av},Reps K H 'ɇ' xs->xs=ws.map YQ
 |[],xs,h=>by cases h;rfl
 |w::ws,xs,h=>by
  obtain⟨x,r,rfl,f,g⟩:=h
  cases f
  rw[Jgp g];rfl
theorem Jfr:∀f:List Str,Reps K H (f.map XO) (f.map YQ)
 |[]=>rfl
 |w::f=>⟨.str w,f.map YQ,rfl,rfl,Jfr f⟩
variable{U:Ag}{a:Expr}{p3:Pos}
def Jsb(C:Am)(q:AO)(f:gloB nm "set"=To)(g:G.mg "set"=No)(hs:Sv):PE X (.Call Vc [a] [] p3) (tCB (rSet X) (uQ GX tNil)):=
 JhQ (Jyc Yg) (C.glo _ f) (by rw[C.mg];exact g) boot_set (JP q mE hs) Ab Ab hs rfl
def JtC(C:Am)(ha:AO)(hg:gloB nm "sorted"=To)(hm:G.mg "sorted"=No)(F:gloB nm "set"=To)(B:G.mg "set"=No)(hs:DN):PE X (.Call Ov OF [] pos) (tI X U (.un .sset pa)):=by
 refine PE.weak (lT (JmF Yg) G1 (by rw[C.mg];exact hm) Ab UM Ab Ab rfl rfl) λZ H Q h=>?_;obtain⟨O,r,h⟩:=h;refine⟨O,r,'ħ'.imp λd f=>λv H1 s1 rv=>?_⟩;show∃p g,[v]=Ez/\_;cases d with
 |lst J=>
  obtain⟨p,xs,rfl,h1,h2⟩:=rv;simp only[op1]at f;cases q:JM J with
  |none=>rw[q]at f;exact f.elim
  |some g=>
   rw[q]at f;have e:=sO q;subst e;have e2:=Jgp h2;subst e2;simp only at f;split at f
   ·rename_i u;refine Uw;show∃p' ks,Qdr=[.ref p']/\_;refine⟨l,metS g,rfl,Je,xH (Jgl g) u,λl2 ss I a1 a2=>?_⟩;have e3:=Jhh a1 a2 (JeN g) (Jkh g);subst e3;have s2:Same H1 QdN:=λb o e=>by rw[Jb (Jh e hl)];exact e
    obtain⟨s3,r3⟩:=zG (K:=X.K) (H:=upd H1 l SJ) I (Jfr (Pu.Jn g));exact f _ _ (s1.trans (s2.trans s3)) r3
   ·exact f.elim
 |_=>exact f.elim
def JtJ(C:Am)(ha:AO)(hg:gloB nm "len"=To)(I:G.mg "len"=No)(F:gloB nm "set"=To)(B:G.mg "set"=No)(hs:DN):PE X (.Call Qa4 OF [] pos) (tI X U (.un .lset pa)):=by
 refine PE.weak (lT Jww G1 (by rw[C.mg];exact I) PySem.boot_len UM Ab Ab rfl rfl) λZ H Q h=>?_;obtain⟨O,r,h⟩:=h;refine⟨O,r,'ħ'.imp λd f=>λv H1 s1 rv=>?_⟩;show∃p g,[v]=Ez/\_;cases d with
 |lst J=>
  obtain⟨p,xs,rfl,h1,h2⟩:=rv;simp only[op1]at f;cases q:JM J with
  |none=>rw[q]at f;exact f.elim
  |some g=>
   rw[q]at f;have e:=sO q;subst e;have e2:=Jgp h2;subst e2;simp only at f;split at f
   ·rename_i u;refine Uw;show∃p' ks,Qdr=[.ref p']/\_;refine⟨l,metS g,rfl,Je,xH (Jgl g) u,?_⟩;have s2:Same H1 QdN:=λb o e=>by rw[Jb (Jh e hl)];exact e
    rw[JmW];exact f _ _ FJ rfl
   ·exact f.elim
 |_=>exact f.elim
end
noncomputable def plainN (x:Str):Bool:=!(x==("__debug__":Str))&&!(x==("__classdict__":Str))
def chkV (N:Ac) (nm:Bj) (i:Nat) (x:Str):Bool:=(N[i]? ==So x)&&visB nm x&&plainN x
def chkS (N:Ac) (nm:Bj) (i:Nat) (x:Str):Bool:=(N[i]? ==So x)&&locB nm x&&plainN x
def chkG (nm:Bj) (x:Str):Bool:=gloB nm x&&plainN x
section
variable{X:Cx}{U:Ag}{G:Gw}{N:Ac}{nm:Bj}{e a b c:Expr}{es:CF}{p pa pb pc pl ph:Px}{pos p1 p2 p3:Pos}{x y:Str}
def plainN.d(h:plainN x=To):(x==("__debug__":Str))=Fo/\(x==("__classdict__":Str))=Fo:=by simpa[plainN]using h
def vV(C:Am){i:Nat}(h:Gx):PE X Cm (tI X U B3):=by simp only[chkV,Zc,ZI]at h;obtain⟨g,f⟩:=plainN.d h.2;exact JvI (by rw[C.hN];exact h.1.1) (C.vis x h.1.2) g f
def vC(G:Gw)(x:Str)(d:D):Prop:=∃v u,G.mg x=So u/\RelV v u/\∀H,Rep G.K H d v
def vG(C:Am){d:D}(f:vC G x d)(h:chkG nm x=To):PE X Cm Qae:=by simp only[chkG,Zc]at h;obtain⟨q,F⟩:=plainN.d h.2;obtain⟨v,u,B,r,g⟩:=f;exact JsQ (C.glo x h.1) ⟨v,u,by rw[C.mg];exact B,r,λH=>by rw[C.K];exact g H⟩ q
def cF(C:Am){g:Nat}(q:Callee G U g x)(h:chkG nm x=To)(u:Ed)(r:Ly)(f:'Ķ'.any (·.1)=Fo):
  PE X S6 (tI X U (.call g p)):=by simp only[chkG,Zc]at h;exact Juu C q h.1 (plainN.d h.2).1 u r f
def cLen(C:Am)(f:G.mg "len"=No)(q:AO)(g:gloB nm "len"=To)(hs:DN):PE X (.Call Qa4 [a] [] pos) (tI X U (.un .len pa)):=jR C JwN q g f PySem.boot_len Ab Ab hs
def cAll(C:Am)(f:G.mg "all"=No)(q:AO)(g:gloB nm "all"=To)(hs:DN):PE X (.Call (.Name "all" p1) [a] [] pos) (tI X U (.un .all pa)):=jR C (Jye Yg) q g f boot_all Ab Ab hs
def cAny(C:Am)(f:G.mg "any"=No)(q:AO)(g:gloB nm "any"=To)(hs:DN):PE X (.Call (.Name "any" p1) [a] [] pos) (tI X U (.un .any pa)):=jR C (JxR Yg) q g f boot_any Ab Ab hs
def JrQ(C:Am)(f:G.mg "tuple"=No)(q:AO)(g:gloB nm "tuple"=To)(hs:DN):PE X (.Call (.Name "tuple" p1) [a] [] pos) (tI X U (.un .tuple pa)):=kX C JpM q g f PyProof.Rows.boot_tuple Ab Ab hs
def cList(C:Am)(f:G.mg "list"=No)(q:AO)(g:gloB nm "list"=To)(hs:DN):PE X (.Call (.Name "list" p1) [a] [] pos) (tI X U (.un .list pa)):=kX C JuQ q g f PyProof.Rows.boot_list Ab Ab hs
def eEq(C:Am)(g:AO)(f:BJ):PE X Tt (tI X U Rn):=kK cX g f C5
def eNe(C:Am)(g:AO)(f:BJ):PE X UD (tI X U QbE):=kK (Jrp C.un) g f C5
def eLt(g:AO)(f:BJ):PE X QO (tI X U QbF):=kK uX g f C5
def eGt(g:AO)(f:BJ):PE X QN (tI X U QbG):=kK sX g f C5
def eGe(g:AO)(f:BJ):PE X Up (tI X U QbH):=kK rX g f C5
def eIn(C:Am)(q:AO)(g:BJ)(f:behindInMarks .In b=Fo):PE X Nl (tI X U Qai):=kK (Jrv C.un) q g f
def tEq(C:Am)(g:AO)(f:BJ):PT X Tt (tT X U Rn):=nK cX g f C5
def tNe(C:Am)(g:AO)(f:BJ):PT X UD (tT X U QbE):=nK (Jrp C.un) g f C5
def tLt(g:AO)(f:BJ):PT X QO (tT X U QbF):=nK uX g f C5
def tGt(g:AO)(f:BJ):PT X QN (tT X U QbG):=nK sX g f C5
def tGe(g:AO)(f:BJ):PT X Up (tT X U QbH):=nK rX g f C5
def tIn(C:Am)(q:AO)(g:BJ)(f:behindInMarks .In b=Fo):PT X Nl (tT X U Qai):=nK (Jrv C.un) q g f
def eIx(g:AO)(f:BJ)(hs:qS b):PE X M6 (tI X U (.bi .idx pa pb)):=pI_ix JwO g f hs
def eAdd(g:AO)(f:BJ):PE X (.BinOp a .Add b pos) (tI X U (.bi .add pa pb)):=nN JuX g f
def eSub(g:AO)(f:BJ):PE X (.BinOp a .Sub b pos) (tI X U (.bi .sub pa pb)):=nN JuM g f
def eMul(g:AO)(f:BJ):PE X (.BinOp a .Mult b pos) (tI X U (.bi .mul pa pb)):=nN JtO g f
def eMod(g:AO)(f:BJ):PE X (.BinOp a .Mod b pos) (tI X U (.bi .mod pa pb)):=nN JsD g f
def eDiv(g:AO)(f:BJ):PE X (.BinOp a .FloorDiv b pos) (tI X U (.bi .fdiv pa pb)):=nN Jqr g f
def gOne(C:Am)(h:chkS N nm 0 x=To):TgOk X Cm 0 1:=by simp only[chkS,Zc,ZI]at h;obtain⟨f,g⟩:=C.sto x h.1.2;exact JxX (by rw[C.hN];exact h.1.1) CU f g
def gTwo(C:Am)(h:chkS N nm 0 x=To)(h':chkS N nm 1 y=To):TgOk X T8 2 2:=by simp only[chkS,Zc,ZI]at h h';obtain⟨q,r⟩:=C.sto x h.1.2;obtain⟨f,g⟩:=C.sto y h'.1.2;exact JvH (by rw[C.hN];exact h.1.1) (by rw[C.hN];exact h'.1.1) CU q r f g Yg
def scB (N:Ac) (nm:Bj) (ls:Ac) (f:Bf):Bool:=(f.kind==.function)&&decide (ls++hidN ls N).Nodup&&Jwh N nm ls f.names&&N.all (λn=>!ls.contains n||(f.names.lookup (dum n)).isNone)
def scO{ls:Ac}{f:Bf}(h:scB N nm ls f=To):ScOk N nm ls f:=by simp only[scB,Zc,ZI,Zw]at h;refine⟨h.1.1.1,h.1.1.2,h.1.2,λn q g=>?_⟩;have:=uB.mp h.2 n q;simp only[g,qD,gF,Option.isNone_iff_eq_none]at this;exact this
variable{M:As}{H0:Hp}{i j l:Nat}{px:Pos}
def chkA (N:Ac) (nm:Bj) (M:As) (i:Nat) (x:Str):Bool:=chkS N nm i x&&!M.contains i
def chkA.at(h:FD):N[i]? =So x/\locB nm x=To/\i∉M:=by simp only[chkA,chkS,Zc,ZI,ZV,qJ,oE]at h;exact⟨h.1.1.1,h.1.1.2,h.2⟩
def chkO (N:Ac) (nm:Bj) (M:As) (i:Nat) (x:Str):Bool:=chkS N nm i x&&M.contains i&&visB nm x
def chkO.at(h:Dj):N[i]? =So x/\locB nm x=To/\plainN x=To/\i∈M/\visB nm x=To:=by simp only[chkO,chkS,Zc,ZI,qJ,Zw]at h;exact⟨h.1.1.1.1,h.1.1.1.2,h.1.1.2,h.1.2,h.2⟩
def aSet(C:Am)(h:FD)(u:Cg)(f:Dd)(hs:Nz):PS X F8 N5:=by obtain⟨r,q,g⟩:=chkA.at h;exact Jwe C r q g f u hs
def aOwn(C:Am)(h:Dj)(q:Qdn)(hs:Nz):PS X F8 Qp:=by obtain⟨g,f,r,u,B⟩:=chkO.at h;exact JwF C g f q hs
section
variable{elt tg iter:Expr}{ifs:CF}{ps pe:Px}{nt:Nat}{ls:Ac}{sc:Bf}
def Jyp(h:PS X st (tAsg IZ Ex)):PS X st (tAsg (tFH X U p) Ex):=by
 rintro Y s Z H D I⟨O,L,hL,r,g⟩;obtain⟨ps,e1,e2,I'⟩:=Inv.hide I hL.c;refine ZY (h (ps++Y) s Z Bm ⟨λσ' H1=>Same Bm H1/\((∀a∈L,H1 a=No)->D.nx σ' G0),λ_ _=>False,λ_ _=>False,λ_ _=>False⟩ I' ⟨O,r,g.mono (λd⟨J,ed,hd⟩=>⟨J,ed,λl xs H1 C h0 F rv=>⟨C,λB=>?_⟩⟩) λc z=>z⟩)
  (λf C q=>?_) λ_ _ z=>z
 ·have hl:l∉L:=λhm=>by rw[B l hm]at F;cases F
  exact hd l xs _ (JfK C) Sb (by rw[Jt hl]at h0;exact h0) (by rw[JU hl];exact F) (by rw[jS B];exact rv)
 ·cases f with
  |next=>obtain⟨σ',H1,I1,sm,q⟩:=q;obtain⟨B,I2⟩:=Inv.unhide I hL.c e1 e2 S7 I1;exact⟨σ',_,I2,q B⟩
  |brk=>obtain⟨_,_,_,q⟩:=q;exact q.elim
  |cont=>obtain⟨_,_,_,q⟩:=q;exact q.elim
  |ret u=>obtain⟨_,_,_,_,_,q⟩:=q;exact q.elim
def Jpj(I:i∉M)(r:Dd)(hl:isL p=To){D:Ends}(h:OJ):tAsg (tFH X U p) Ex D Z H:=by
 obtain⟨O,L,B,F,f⟩:=Jmx I r h;refine⟨O,L,B,F,?_⟩;cases q:evD U p O with
 |ok d=>
  rw[q]at f;obtain⟨J,rfl⟩:=Joc hl q;refine⟨J,rfl,λl xs H1 s1 kk h0 h1 rv=>f _ _ s1 kk ?_⟩;have g:l∉L:=λC=>by obtain⟨o,u,_⟩:=B l C;rw[h0]at u;cases u
  exact⟨l,xs,rfl,SqL.of (by rw[Jt g];exact h1),rv⟩
 |ex c=>rw[q]at f;exact f
 |sk=>rw[q]at f;exact f.elim
noncomputable def tgN:Expr->List Str
 |.Name x _=>[x]
 |.Tuple es _ _=>es.filterMap λe=>match e with
  |.Name x _=>So x
  |_=>No
 |_=>[]
noncomputable abbrev cN (tg:Expr) (N:Ac):List Str:=tgN tg++hidN 'ѥ' N
def JwQ(C:Am)(h:FD)(F:scB N nm 'ѥ' sc=To)(g:GC)(B:∀f,Ctx f G D3 sc.names->TgOk f tg nt 'ѥ'.length)(u:∀f,Ctx f G D3 sc.names->PIf f ifs bT)
  (r:∀f,Ctx f G D3 sc.names->PE f elt bU) (I:sepP M Kg=To) (hs:∀x,foldedSetIterable iter Ue x=pure x):PS X WQ (tS X U M H0 (.set Fo i Kg)):=by obtain⟨h1,h2,h3⟩:=chkA.at h;exact PS.weak (Jyp (Jfe C (scO F) (by rw[C.hN];exact h1) h2 g B u r hs)) λD Z H q=>Jpj h3 I rfl q
def aOwnC(C:Am)(h:Dj)(B:scB N nm 'ѥ' sc=To)(g:GC)(F:∀f,Ctx f G D3 sc.names->TgOk f tg nt 'ѥ'.length)(u:∀f,Ctx f G D3 sc.names->PIf f ifs bT)
  (r:∀f,Ctx f G D3 sc.names->PE f elt bU) (hs:∀x,foldedSetIterable iter Ue x=pure x):PS X WQ (tS X U M H0 (.own i Kg)):=by obtain⟨h1,I,h3,h4,h5⟩:=chkO.at h;exact PS.weak (Jfe C (scO B) (by rw[C.hN];exact h1) I g F u r hs) λD Z H q=>JnX q
def wM(C:Am)(B:scB N nm 'ѥ' sc=To)(g:GC)(u:∀f,Ctx f G D3 sc.names->TgOk f tg nt 'ѥ'.length)(r:∀f,Ctx f G D3 sc.names->PIf f ifs bT)
  (q:∀f,Ctx f G D3 sc.names->PE f elt bU) (hs:∀x,foldedSetIterable iter Ue x=pure x):PE X Gf IF:=Jmv C (scO B) g u r (λf F _=>q f F) hs
end
def aApp{f:Pos}(C:Am)(h:Dj)(he:Cg)(B:DH)(g:Dd)(hs:NA):
  PS X WH Uq:=by obtain⟨h1,h2,q,F,I⟩:=chkO.at h;obtain⟨u,r⟩:=plainN.d q;exact Jvz C h1 I u r F g he B hs
def aExt{f:Pos}(C:Am)(h:Dj)(he:Cg)(B:DH)(g:Dd)(hs:NA):
  PS X (.Expr Wp f) UO:=by obtain⟨h1,h2,q,F,I⟩:=chkO.at h;obtain⟨u,r⟩:=plainN.d q;exact Jxd C h1 I u r F g he B hs
def lOne(C:Am)(h:FD):PG X Cm Qah:=by obtain⟨g,q,f⟩:=chkA.at h;exact Jxu C g q f
def lTwo(C:Am)(h:FD)(h':chkA N nm M j y=To):PG X T8 Ox:=by obtain⟨B,q,f⟩:=chkA.at h;obtain⟨u,g,r⟩:=chkA.at h';exact JwC C B q f u g r
end
inductive ExcCe(G:Gw)(x:Str):Prop where
 |mk C (h:PySem.W.nsIn G.K mainGlobals x=So (So (.ref C))/\G.mg x=So (.ref C)/\∃bs nid iid Bn,PySem.W.excIn G.K C bs nid=To/\ExcBaseFacts Bn nid iid bs):ExcCe G x
structure ExcC(G:Gw)(x:Str):Prop where
 ex:ExcCe G x
inductive tM(X:Cx)(call:Ag)(p:Px)(σ:Bl)(H:Hp)(Q:VK):Prop where
 |mk:∀env,ReadOk X.K H σ env->(((evD call p env).bind λd=>if fK d then .ok d else .sk).Good (λd=>∀v H',Same H H'->Q v H') Az)->tM X call p σ H Q
section
variable{U:Ag}{cpos:Pos}
def Jfx(C:Am)(hc:ExcC G x)(r:chkG nm x=To)(he:PE X e (tM X U p))(hs:J5):
  PS X Wy (tS X U M H0 (.raise x p)):=by
 obtain⟨B,g1,g2,bs,nid,iid,Bn,hq,I⟩:=hc.ex;simp only[chkG,Zc]at r;have f:X.mg x=So (.ref B):=by rw[C.mg];exact g2
 refine PS.weak (JqP Yg (C.glo x r.1) (by rw[C.K];exact g1) f (by rw[C.K];exact hq) I he (plainN.d r.2).1 hs) λD Z H⟨O,g,h⟩=>⟨O,g.readOk,?_⟩;simp only[exD]at h;cases q:evD U p O with
 |ok d=>
  rw[q]at h;simp only[Rs.bo]at h⊢;by_cases u:fK d=To
  ·rw[if_pos u]at h⊢;exactλv W s=>⟨rfl,λa s' F=>h B W f (g.same.trans s) a s' F⟩
  ·rw[if_neg u]at h;exact h.elim
 |ex c=>rw[q]at h;exact(show XW X H0 c from h).mono g.same
 |sk=>rw[q]at h;exact h.elim
def xQ{z:Str}{k}:PE X (.Constant YZ k pos) (tM X U .nil):=PE.weak Jrj λZ H Q⟨O,r,h⟩=>h _ H D6
def JT(x y:Str):(x++y).length=Xy+y.length:=PySem.strLen_append x y
end
def jE(a b:Yk):(keyV a).eqv (keyV b)=decide (a=b):=by cases a<;>cases b<;>first|exact(Zs nofun).symm|exact(Zx rfl).symm|exact(Jrz _ _).symm|exact(Jru _ _).symm
def lL{d:D}(h:keyD Fo d=To):∃k,d=keyV k:=by
 cases d with
 |int i=>exact⟨.inl i,rfl⟩
 |str x=>exact⟨.inr x,rfl⟩
 |non=>exact⟨.non,rfl⟩
 |_=>simp[keyD,keyB]at h
def fJ{k:Yk}{y:V}(r:Rep K H EE y):y=kV k:=by cases k<;>cases r<;>rfl
noncomputable def uI (k:MV):D:=.tup (yC k)
mutual
theorem Jqk:∀a b:KTr Yk,(iC a).eqv (iC b)=decide (a=b)
 |.a k,.a j=>by rw[iC,iC,jE];exact oF.mpr ⟨λz=>by rw[z],λz=>by injection z⟩
 |.a k,.t js=>by rw[Zs (λz=>nomatch z)];cases k<;>rfl
 |.t ks,.a j=>by rw[Zs (λz=>nomatch z)];cases j<;>rfl
 |.t ks,.t js=>by rw[iC,iC,D.eqv,JdY ks js];exact oF.mpr ⟨λz=>by rw[z],λz=>by injection z⟩
theorem JdY:∀a b:List (KTr Yk),eqvs (yC a) (yC b)=decide (a=b)
 |[],[]=>by simp[yC,eqvs]
 |[],_::_=>by simp[yC,eqvs]
 |_::_,[]=>by simp[yC,eqvs]
 |x::a,y::b=>by simp only[yC,eqvs,Jqk x y,JdY a b,qB,Bool.decide_and]
end
def uT(a b:MV):(uI a).eqv (uI b)=decide (a=b):=by show eqvs _ _=_;exact JdY a b
mutual
theorem Jua:∀{d:D},JF d=To->∃k,d=iC k/\kDep k=bO
 |.non,_=>⟨.a .non,rfl,rfl⟩
 |.bl _,h=>by simp[JF]at h
 |.int i,_=>⟨.a QcU,rfl,rfl⟩
 |.str x,_=>⟨.a QcV,rfl,rfl⟩
 |.tup J,h=>by
  simp only[JF,Zc]at h
  obtain⟨ks,e,q⟩:=Jgb h.2
  exact⟨.t ks,by rw[iC,e],by simp only[kDep,D.dep,q]⟩
 |.lst _,h=>by simp[JF]at h
 |.dct _ _ _ _,h=>by simp[JF]at h
 |.exc _,h=>by simp[JF]at h
 |.fn _ _,h=>by simp[JF]at h
 |.obj _ _ _,h=>by simp[JF]at h
 |.mls _ _,h=>by simp[JF]at h
 |.adr _,h=>by simp[JF]at h
theorem Jgb:∀{J:Ak},Jz J=To->∃ks,J=yC ks/\rE ks=deps J
 |[],_=>QcI
 |d::J,h=>by
  simp only[Jz,Zc]at h
  obtain⟨k,f,g⟩:=Jua h.1
  obtain⟨ks,r,q⟩:=Jgb h.2
  exact⟨k::ks,by rw[yC,<-f,<-r],by simp only[rE,deps,g,q]⟩
end
mutual
theorem JrT{K:Aj}{H:Hp}:∀(k:KTr Yk){v:V},KH H k v->Rep K H (iC k) v
 |.a k,v,h=>by cases(show v=kV k from h);cases k<;>rfl
 |.t ks,v,⟨a,xs,e,h1,h2⟩=>⟨a,xs,e,.inl h1,Jom ks h2⟩
theorem Jom{K:Aj}{H:Hp}:∀(ks:MV){xs:Av},KHs H ks xs->Reps K H a8 xs
 |[],_,h=>h
 |k::ks,_,⟨v,r,e,h1,h2⟩=>⟨v,r,e,JrT k h1,Jom ks h2⟩
end
def banV:Value->Nat
 |.str x _=>if banD x then 1 else 0
 |_=>0
def Ban2(K:Aj)(b:Addr):Prop:=∃(o:Obj)(f:B7)(n:Nat),K.lookup b=So o/\o.cls=.type "tuple"/\o.data=.seq f n/\2<='Ї'.sum
def NoKT(K:Aj):Prop:=∀(y:Str)(b:Addr)(o:Obj)(f:B7)(n:Nat),ModT K y b->K.lookup b=So o->o.cls=.type "tuple"->YC=.seq f n->2<='Ї'.sum\/∃c,Value.ref c∈f.toList/\Ban2 K c
def JtX{d:D}{u:An}(h:JF d=To)(r:Dt)(q:Fs):banC d=banV u:=by
 cases d with
 |non=>cases r;cases q;rfl
 |int i=>cases r;obtain⟨t,rfl⟩:=q;rfl
 |str x=>cases r;obtain⟨t,rfl⟩:=q;rfl
 |tup J=>obtain⟨a,xs,rfl,_⟩:=r;cases q;rfl
 |_=>simp[JF]at h
theorem xZ:∀{J:Ak}{xs:Av}{us:AE},Jz J=To->Reps K H J xs->Vals xs us->'Ҿ'.sum=(us.map banV).sum
 |[],_,_,_,r,q=>by cases r;cases q;rfl
 |d::J,_,_,h,⟨x,r,e,h1,h2⟩,q=>by
  subst e
  simp only[Jz,Zc]at h
  cases q with
  |cons f g=>simp only[Zg,iB,JtX h.1 h1 f,xZ h.2 h2 g]
theorem Jyz(hH:aR){d:D}{c:Addr}(h:JF d=To)(r:Rep K H d (.ref c))(z:Ban2 K c):False:=by
 obtain⟨o,C,n,g,z2,F,z4⟩:=z;cases d with
 |tup J=>
  obtain⟨a,xs,e,f,U⟩:=r;cases e;simp only[JF,Zc,Zw]at h;rcases f with f|⟨y,o',q,n',q0,u,q2,_,B,q4,I⟩
  ·rw[hH _ _ g]at f;cases f
  ·rw[g]at u;cases u;rw[F]at B;cases B;have:=xZ h.2 U I;lia
 |non=>cases r
 |int i=>cases r
 |str x=>cases r
 |_=>simp[JF]at h
theorem Jsr(u:aR){c:Addr}(z:Ban2 K c):∀{J:Ak}{xs:Av}{us:AE},Jz J=To->Reps K H J xs->Vals xs us->Value.ref c∈us->False
 |[],_,_,_,r,q,f=>by cases r;cases q;cases f
 |d::J,_,_,h,⟨x,r,e,h1,h2⟩,q,f=>by
  subst e
  simp only[Jz,Zc]at h
  cases q with
  |cons g B=>
   rcases Zf.mp f with e|f
   ·subst e
    have:x=.ref c:=by
     cases x<;>first|exact(kA V.ref (Value.ref.inj g).symm)|(cases g;done)|(obtain⟨_,g⟩:=g;cases g)
    subst this;exact Jyz u h.1 h1 z
   ·exact Jsr u z h.2 h2 B f
mutual
theorem Jst{K:Aj}{H:Hp}(u:aR)(q:NoKT K):∀(k:KTr Yk){v:V},JF (iC k)=To->Rep K H (iC k) v->KH H k v
 |.a k,v,_,h=>fJ h
 |.t ks,v,hk,⟨a,xs,e,g,h2⟩=>by
  simp only[iC,JF,Zc,Zw]at hk
  rcases g with g|⟨y,o,f,n,F,I,C,_,U,q4,r⟩
  ·exact⟨a,xs,e,g,JmZ u q ks hk.2 h2⟩
  ·rcases q y a o f n F I C U with z|⟨c,B,z⟩
   ·have:=xZ hk.2 h2 r
    lia
   ·exact(Jsr u z hk.2 h2 r B).elim
theorem JmZ{K:Aj}{H:Hp}(g:aR)(f:NoKT K):∀(ks:MV){xs:Av},Jz a8=To->Reps K H a8 xs->KHs H ks xs
 |[],_,_,h=>h
 |k::ks,_,hk,⟨x,r,e,h1,h2⟩=>by
  simp only[yC,Jz,Zc]at hk
  exact⟨x,r,e,Jst g f k hk.1 h1,JmZ g f ks hk.2 h2⟩
end
def Juc{d:D}(h:keyD To d=To):∃J,d=.tup J/\JF d=To/\deps J<=7:=by
 cases d with
 |tup J=>
  refine⟨J,rfl,?_⟩;simp only[keyD,lG,nB,Zc,Zw]at h;rcases h with(h|h)|h
  ·have:∀J:List D,J.all keyI=To->'Ҿ'.sum=0/\Jz J=To/\deps J=0:=λJ=>by
    induction J with
    |nil=>intro;exact Hl
    |cons d J r=>intro h;simp only[fF,Zc]at h;obtain⟨g,f,q⟩:=r h.2;cases d<;>first|(simp[keyI]at h;done)|simp[banC,g,Jz,JF,f,deps,D.dep,q]
   obtain⟨g,f,q⟩:=this J h;simp[JF,g,f,q]
  ·have:∀J:List D,J.all keyS=To->'Ҿ'.sum=0/\Jz J=To/\deps J=0:=λJ=>by
    induction J with
    |nil=>intro;exact Hl
    |cons d J r=>intro h;simp only[fF,Zc]at h;obtain⟨g,f,q⟩:=r h.2;cases d<;>first|(simp[keyS]at h;done)|(simp only[keyS,ZV]at h;simp[banC,h.1,g,Jz,JF,f,deps,D.dep,q])
   obtain⟨g,f,q⟩:=this J h;simp[JF,g,f,q]
  ·exact h
 |_=>simp[keyD,keyB]at h
def Jvh(h:aR):NoH K Bm:=λb o e=>by
 by_cases q:b∈L
 ·exact fG q
 ·rw[Jt q];exact h b o e
theorem xS{d:D}{y:V}(B:NoKT K)(u:keyD To d=To)(r:Rep K H d y):∃b k,y=.ref b/\d=uI k/\(NoH K H->KB H k b):=by obtain⟨J,rfl,g,F⟩:=Juc u;have f:=g;simp only[JF,Zc]at f;obtain⟨ks,e,q⟩:=Jgb f.2;subst e;obtain⟨b,xs,rfl,_⟩:=id r;exact⟨b,ks,rfl,rfl,λC=>⟨Jst C B Fp g r,by lia⟩⟩
section
variable{κ:Type}[DecidableEq κ]{g:κ->D}
theorem look_of(u:∀a b,(g a).eqv (g b)=decide (a=b)){k:κ}:∀{f:Bt}{vs:Ak},Reps K H vs (f.map (·.2))->match gA (g k) (f.map λp=>g p.1) vs with
  |some d=>∃v,valV f k=So v/\Rep K H d v
  |none=>valV f k=No
 |[],vs,h=>by
  cases vs with
  |nil=>rfl
  |cons _ _=>obtain⟨_,_,e,_⟩:=h;cases e
 |p::f,vs,h=>by
  cases vs with
  |nil=>cases h
  |cons d vs=>
   obtain⟨x,r,e,F,C⟩:=h
   simp only[Zg,qB]at e
   obtain⟨rfl,rfl⟩:=e
   simp only[Zg,gA,u]
   by_cases q:p.1=k
   ·simp only[q,decide_true,if_true]
    exact⟨p.2,qT q,F⟩
   ·simp only[q,decide_false,Zl,ZF]
    have B:=look_of u (k:=k) C
    rw[pT q];exact B
def mR(q:∀a b,(g a).eqv (g b)=decide (a=b)){k:κ}(f:Bt):((f.map λp=>g p.1).any λd=>d.eqv (g k))=(valV f k).isSome:=by rw[<-iU,rL];simp only[pC,q]
def vK(F:∀a b,(g a).eqv (g b)=decide (a=b)){k:κ}{d:D}(C:Dt){f:Bt}{vs:Ak}(h:Reps K H vs (f.map (·.2))):
  (putD (g k) d (f.map λp=>g p.1) vs).1=(putK f k v).map (λp=>g p.1)/\Reps K H (putD (g k) d (f.map λp=>g p.1) vs).2 ((putK f k v).map (·.2)):=by
 have B:=mR F (k:=k) f;rw[<-iU]at B;unfold putD putK;rw[B];by_cases q:(f.any λkv=>decide (kv.1=k))=To
 ·rw[if_pos q,if_pos q];refine GP
  ·show f.map _=_;rw[Zt];refine rG λp _=>?_;show g p.1=g (if p.1=k then(p.1,v)else p).1;split<;>rfl
  ·clear q B;show Reps K H (setD _ _ _ _) _;induction f generalizing vs with
   |nil=>
    cases vs with
    |nil=>rfl
    |cons _ _=>obtain⟨_,_,e,_⟩:=h;cases e
   |cons p f U=>
    cases vs with
    |nil=>cases h
    |cons u vs=>
     obtain⟨x,r,e,h1,h2⟩:=h;simp only[Zg,qB]at e;obtain⟨rfl,rfl⟩:=e;simp only[Zg,setD,F];refine⟨_,_,rfl,?_,U h2⟩;by_cases I:p.1=k
     ·simp only[I,decide_true,if_true];exact C
     ·simp only[I,decide_false,Zl,ZF];exact h1
 ·rw[if_neg q,if_neg q];refine⟨by simp,?_⟩;simp only[ZW,Zg,jG];exact h.append (Reps.one C)
end
def dk_k{ks:Ak}(h:DK H a Fo z ks xs):∃kvs:List (L2.Key×V),Rd H a AN/\ks=kvs.map (λp=>keyV p.1)/\xs=kvs.map (·.2):=by
 cases z<;>obtain⟨kvs,g,f⟩:=h
 ·exact Qbr
 ·exact Qbs
def dk_t{ks:Ak}(h:DK H a To z ks xs):∃kvs:List (List (KTr Yk)×V),Rd H a BA/\ks=kvs.map (λp=>uI p.1)/\xs=kvs.map (·.2):=by
 cases z<;>obtain⟨kvs,g,f⟩:=h
 ·exact Qbr
 ·exact Qbs
section
variable{X:Cx}{U:Ag}{G:Gw}{N:Ac}{nm:Bj}{e a b:Expr}{p pa pb:Px}{pos p1:Pos}{x:Str}{i:Nat}{M:As}{H0:Hp}{px:Pos}
def lS{ks vs:Ak}{g:D}{x y:V}(hK:t=To->NoKT X.K)(r1:Rep X.K H (.dct t z ks vs) x)(C:Rep X.K H g y)(u:keyD t g=To):∃l o,x=.ref l/\DGet X.K H l y o/\(ks.any λd=>d.eqv g)=cG/\∀d,gA g ks vs=So d->∃v,o=So v/\Rep X.K H d v:=by
 obtain⟨l,xs,rfl,F,B⟩:=r1;cases t with
 |false=>obtain⟨f,q,rfl,rfl⟩:=dk_k F;obtain⟨k,rfl⟩:=lL u;have:=fJ C;subst this;refine⟨l,valV f k,rfl,.inl ⟨f,k,q,rfl,rfl⟩,mR jE f,λd r=>?_⟩;have:=look_of jE (k:=k) B;rw[r]at this;exact this
 |true=>obtain⟨f,q,rfl,rfl⟩:=dk_t F;obtain⟨b,k,rfl,rfl,I⟩:=xS (hK rfl) u C;refine⟨l,valV f k,rfl,.inr ⟨f,k,b,q,rfl,I,rfl⟩,mR uT f,λd r=>?_⟩;have:=look_of uT (k:=k) B;rw[r]at this;exact this
def eX(C:Am){t':Bool}(hK:FA)(ha:AO)(hb:BJ)(hs:NoSl b):PE X M6 (tI X U (.bi (.dGet t') pa pb)):=by
 have hu:=C.un;refine PE.weak (JtB Af ha hb hs) λZ H Q B=>?_;obtain⟨O,r,h⟩:=B;refine tI.then r h λdx x H1 s1 r1 q1 h1=>tI.then q1 h1 λdy y H2 s2 r2 q2 h2=>?_;obtain⟨t,z,ks,vs,rfl,f⟩:=JjA h2;split at f
 ·rename_i u;obtain⟨rfl,u⟩:=u;obtain⟨l,o,e1,g,_,I⟩:=lS (by rw[C.K];exact hK) (r1.mono s2) r2 u;cases q:gA dy ks vs with
  |none=>rw[q]at f;exact f.elim
  |some d=>rw[q]at f;obtain⟨v,F,rv⟩:=I d q;subst F;exact⟨l,v,e1,g,Out.now f rv⟩
 ·exact f.elim
def oX{g:Bool->Bool}{t':Bool}{r u:D}{x y:V}{P:D->Prop}{E:DE}(I:t'=To->NoKT X.K)(C:Rep X.K H r x)(r2:Rep X.K H u y)
  (h:(onD u λt ks _=>if t=t'/\keyD t r=To then .ok (.bl (g (ks.any λd=>d.eqv r)))else .sk).Good P E):∃l o,y=.ref l/\DGet X.K H l x o/\P (.bl (g cG)):=by
 obtain⟨t,z,ks,vs,rfl,f⟩:=JjA h;split at f
 ·rename_i q;obtain⟨rfl,q⟩:=q;obtain⟨l,o,e1,B,F,_⟩:=lS I r2 C q;rw[F]at f;exact⟨l,o,e1,B,f⟩
 ·exact f.elim
def eDIn(C:Am){t':Bool}(hK:FA)(ha:AO)(B:BJ)(u:behindInMarks .In b=Fo):PE X Nl (tI X U Pc):=by have hu:=C.un;refine PE.weak (Jwm QdO u) λZ H Q f=>?_;obtain⟨O,r,h⟩:=f;refine tI.then r h λdx x H1 s1 I q1 h1=>tI.then q1 h1 λdy y H2 F r2 q2 h2=>?_;obtain⟨l,o,e1,g,q⟩:=oX (g:=id) (by rw[C.K];exact hK) cY r2 h2;exact Tx
def tDIn(C:Am){t':Bool}(hK:FA)(ha:AO)(B:BJ)(u:'б' (behindInMarks .In b=Fo) Ai):PT X Nl (tT X U Pc):=by have hu:=C.un;refine PT.weak (lR QdO u) λZ H Q f=>?_;obtain⟨O,r,h⟩:=f.asTest;refine tI.then r h λdx x H1 s1 I q1 h1=>tI.then q1 h1 λdy y H2 F r2 q2 h2=>?_;obtain⟨l,o,e1,g,q⟩:=oX (g:=id) (by rw[C.K];exact hK) cY r2 h2;exact Tx
def tDNi(C:Am){t':Bool}(hK:FA)(ha:AO)(B:BJ)(u:behindInMarks .NotIn b=Fo):PT X (.Compare a [.NotIn] [b] pos) (tT X U (.bi (.dNi t') pa pb)):=by have hu:=C.un;refine PT.weak (lR (Joj Af ha B) u) λZ H Q f=>?_;obtain⟨O,r,h⟩:=f.asTest;refine tI.then r h λdx x H1 s1 I q1 h1=>tI.then q1 h1 λdy y H2 F r2 q2 h2=>?_;obtain⟨l,o,e1,g,q⟩:=oX (g:=not) (by rw[C.K];exact hK) cY r2 h2;exact Tx
def JvM(C:Am)(h:Dj)(hs:swapsWith Tg Ft XH Ue=pure Fo):PS X P8 (tS X U M H0 (.ownD Fo i)):=by
 obtain⟨h1,I,h3,h4,h5⟩:=chkO.at h;obtain⟨F,r⟩:=C.sto x I;refine PS.weak (gD CU (by rw[C.hN];exact h1) F JfB hs r) λD Z H f=>?_;obtain⟨O,e,h⟩:=f;intro l g;have s:Same H (upd H l aY):=λb o q=>by rw[Jb 'Θ'];exact q
 obtain⟨u,B⟩:=e.putOwn s (i:=i) (d:=.dct Fo Fo [] []) g λHh tp=>U7;exact h _ _ u ⟨B,λ_=>s⟩
def Jxh(C:Am)(h:Dj)(hs:swapsWith Tg Ft XH Ue=pure Fo):PS X P8 (tS X U M H0 (.ownD To i)):=by
 obtain⟨h1,I,h3,h4,h5⟩:=chkO.at h;obtain⟨F,r⟩:=C.sto x I;refine PS.weak (gD CU (by rw[C.hN];exact h1) F Jpm hs r) λD Z H f=>?_;obtain⟨O,e,h⟩:=f;intro l g;have s:Same H (upd H l aZ):=λb o q=>by rw[Jb 'Θ'];exact q
 obtain⟨u,B⟩:=e.putOwn s (i:=i) (d:=.dct To Fo [] []) g λHh tp=>U7;exact h _ _ u ⟨B,λ_=>s⟩
theorem aPut{b v:Expr}{pk pv:Px}{ps:Pos}(C:Am){t':Bool}(hK:FA)(h:Dj)(hb:PE X b M9)(hv:RI)(h1:sepP M pk=To)(h2:sepP M pv=To)
  (hs:swapsWith v QM XH Ue=pure Fo):PS X Vq (tS X U M H0 (.put Fo t' i pk pv)):=by
 obtain⟨g1,g2,g3,g4,g5⟩:=chkO.at h;obtain⟨d1,d2⟩:=plainN.d g3;have hu:=C.un;refine PS.weak (eZ Af (rA (by rw[C.hN];exact g1) L4 d1 d2) (zN hb) (zN hv) hs) λD Z H zz0=>?_;obtain⟨O,e,h⟩:=zz0;simp only[exD]at h;cases q:O[i]? with
 |none=>rw[q]at h;exact h.elim
 |some o=>
  rw[q]at h;cases o with
  |none=>exact h.elim
  |some d=>
   cases d with
   |dct t z ks vs=>
    cases z with
    |true=>exact h.elim
    |false=>
     simp only at h;obtain⟨l,F,h0,hz,xs,hl,hr⟩:=e.own i _ g4 q;refine Ua;rw[pH U O h2];refine(Rs.gB.mp h).mono (λdv hdv v H1 s1 k1 r1=>?_) λc z=>z.mono Y3;have I:=e.grow s1;refine⟨.ref l,F,lC M 0 O,Ow M O Z,I.ows,I.readHid,?_⟩;rw[pH U O h1];refine(Rs.gB.mp hdv).mono (λdk g y f s2 k2 r2=>?_) λc z=>z.mono I.same0;split at g
     ·exact g.elim
     ·rename_i r;simp only[gC,gF,nB,not_or,ZV,rP,Bool.not_eq_false,oE,Decidable.not_not,ZI,ZA,ne_eq]at r;obtain⟨⟨htt,hc1⟩,hc2⟩:=r;have r:=iD hc1 hc2;subst htt;have e2:=I.grow s2;have f2:Same Da cZ:='ӆ'.hid;have f3:Same Ib cZ:=(Fz.sm s2).hid;have u:∀ob,OwnIs X.K cZ (upd f l ob) l (.dct t Fo (putD dk dv ks vs).1 (putD dk dv ks vs).2)->D.nx Z (upd f l ob):=λob nw=>by obtain⟨e3,f4⟩:=e2.change (o:=ob) g4 q F nw;exact g _ _ e3 ⟨'ӆ'.trans f4,λz=>by cases z⟩
      cases t with
      |true=>
       obtain⟨b',k,rfl,rfl,hb'⟩:=xS (by rw[C.K];exact hK rfl) r.1 r2;obtain⟨kvs,w1,rfl,rfl⟩:=hl;have w2:f l=So BA:=s2 _ _ (s1 _ _ w1);have B:AV<1000:=by simpa using r.2
       have hb2:NoH X.K f->KB f k b':=λz=>(hb' (Jvh z)).keep λ_ _ q=>hid_same _ _ q;refine⟨l,_,rfl,DPut.t (k:=k) w2 hb2 (by show _<16777216;lia),u _ ?_⟩;obtain⟨p1,p2⟩:=vK uT (k:=k) (r1.mono f3) KA;exact Li
      |false=>
       obtain⟨k,rfl⟩:=lL r.1;have hy:=fJ r2;subst hy;obtain⟨kvs,w1,rfl,rfl⟩:=hl;have w2:f l=So AN:=s2 _ _ (s1 _ _ w1);have B:AV<1000:=by simpa using r.2
       refine⟨l,_,rfl,DPut.k (k:=k) w2 (by show _<16777216;lia),u _ ?_⟩;obtain⟨p1,p2⟩:=vK jE (k:=k) (r1.mono f3) KA;exact Li
   |_=>exact h.elim
end
def tZ(I:BU){kvs:GB}(e:H l=So AN):∃o,L2.Inv X Y Z (upd H l (.frz o AN)) s:=by obtain⟨z,B,u,f,r⟩:=nW XD e;obtain⟨o,es,ep,g,_⟩:=id r;exact⟨o,I.write (t':=Xv) (x:=l) (e:=l) (h':=VU) (by rw[e];exact ZT) Be K2 ⟨o,g⟩ ⟨g,z,B,u,f,r⟩⟩
def JmX(I:BU){kvs:List (List (KTr Yk)×V)}(e:H l=So BA):∃o,L2.Inv X Y Z (upd H l (.frz o BA)) s:=by obtain⟨z,u,xs,g,o,es,ep,f,C,r,F,B⟩:=(show ObjOk Xz X.w H VU l BA from I.hok l _ e);refine⟨o,I.write (t':=Xv) (x:=l) (e:=l) (h':=VU) (by rw[e];exact ZT) Be K2 ⟨o,f⟩ ⟨f,z,u,xs,KT.keeps g λb U q=>?_,o,es,ep,f,C,r,F,B⟩⟩;rw[Jb (RW q e (λz=>nomatch z))];exact q
section
variable{U:Ag}{a b:Expr}
def aRetF(C:Am)(h:Dj):PS X (.Return Ft pos) (tS X U M H0 (.retF i)):=by
 obtain⟨g1,g2,g3,g4,g5⟩:=chkO.at h;obtain⟨d1,d2⟩:=plainN.d g3;rintro Y s Z H D I⟨O,e,h⟩;simp only[exD]at h;cases q:O[i]? with
 |none=>rw[q]at h;exact h.elim
 |some o=>
  rw[q]at h;cases o with
  |none=>exact h.elim
  |some d=>
   cases d with
   |dct t z ks vs=>
    cases z with
    |true=>exact h.elim
    |false=>
     obtain⟨l,hσ,h0,hz,xs,hl,hr⟩:=e.own i _ g4 q;have hlo:l∈Ow M O Z:=mem_Ow.mpr ⟨i,g4,_,q,hσ⟩;have F:∀ob,Rep X.K FT Nu BH->D.rt BH FT:=λob r=>h _ _ (λb o' B=>by rw[Jb (Jh B h0)];exact e.same b o' B) r;have rr:∀ob,Reps X.K FT vs xs:=λob=>hr.mono λb o' B=>by
      by_cases z:b∈Ow M O Z
      ·rw[fG z]at B;cases B
      ·rw[Jt z]at B;rw[Jb (λk:b=l=>z (k▸hlo))];exact B
     refine ZY (kN (rA (by rw[C.hN];exact g1) L4 d1 d2) Y s Z H ⟨λ_ _=>False,λv W=>v=.ref l/\W=H,λ_ _=>False,λ_ _=>False⟩ I ⟨.ref l,hσ,rfl,rfl⟩) (λf s1 r=>?_) λ_ _ z=>z;cases f with
     |next=>obtain⟨_,_,_,z⟩:=r;exact z.elim
     |brk=>obtain⟨_,_,_,z⟩:=r;exact z.elim
     |cont=>obtain⟨_,_,_,z⟩:=r;exact z.elim
     |ret u=>
      obtain⟨v,σ',W,I',rv,rfl,rfl⟩:=r;cases t with
      |false=>obtain⟨g,w1,rfl,rfl⟩:=hl;obtain⟨o,I2⟩:=tZ I' w1;exact WX
      |true=>obtain⟨g,w1,rfl,rfl⟩:=hl;obtain⟨o,I2⟩:=JmX I' w1;exact WX
   |_=>exact h.elim
end
end Rd
namespace Rd
open PySem PySem.Spec PyProof.Rows L2
open Sem (wp)
variable{A:Bv}{prog:Ba}{a:Addr}
def JfP:typeLookup MK "keys"=pure No:=by rw[xO,kP];kernel_rfl
def JdE{w:AQ}{E:Ay}{s:Al}{o:Obj}{xs:B7}{k:Nat}{Q:Dm}
  (q:s.heap.get? a=So o) (v:o.cls=.type "tuple") (f:o.data=.seq xs k) (u:o.dict=No) (z:Bh)
  (h:∀m l,(∀b o,s.heap.get? b=So o->m.get? b=So o)->Q No {s with heap:=m,toks:=l}):
  wpAny Au A (getAttr? Ar "keys") Q E s:=by
 obtain⟨c,dct,x,sl⟩:=o;simp only at v f u;subst v f u;obtain⟨B,g,d,l,y⟩:=s;have r:∀j,(Qd7:Shared).TypeIs Ar "tuple":=λ_=>⟨_,q,rfl⟩;have C:=sub_AttributeError;have J:=F.slot_tuple_getattribute.lookup;have H:=F.slot_tuple_getattribute.bind Ar;have L:=am_tuple_getattr_none;unfold getAttr? getAttrBy? getAttrBy;repeat(any_goals(first|assumption|exact r _|((with_reducible show wpAny _ _ (call (Value.builtin "tuple.__getattribute__") _ _) _ _ _);refine fB F.slot_tuple_getattribute (r _) am_entry_tuple_getattribute (F.args_tuple_getattribute_2 _ _) (meets_getattribute_miss_tuple a xs k sl "keys" _ JfP Ab (by size_fits)) P0)|wp_step))
 obtain⟨M,G,I⟩:=i.there;show wpAny _ _ Ve _ _ _;unfold getattributeRaised;repeat(any_goals(first|assumption|wp_step))
 exact h _ _ i.keeps
def Jhp:typeLookup Rg "keys"=pure No:=by rw[xO,kP];kernel_rfl
def JeB{w:AQ}{E:Ay}{s:Al}{o:Obj}{xs:B7}{k:Nat}{Q:Dm}
  (q:s.heap.get? a=So o) (v:o.cls=.type "list") (f:o.data=.seq xs k) (u:o.dict=No) (z:Bh)
  (h:∀m l,(∀b o,s.heap.get? b=So o->m.get? b=So o)->Q No {s with heap:=m,toks:=l}):
  wpAny Au A (getAttr? Ar "keys") Q E s:=by
 obtain⟨c,dct,x,sl⟩:=o;simp only at v f u;subst v f u;obtain⟨B,g,d,l,y⟩:=s;have r:∀j,(Qd7:Shared).TypeIs Ar "list":=λ_=>⟨_,q,rfl⟩;have C:=sub_AttributeError;have J:=F.slot_list_getattribute.lookup;have H:=F.slot_list_getattribute.bind Ar;have L:=am_list_getattr_none;unfold getAttr? getAttrBy? getAttrBy;repeat(any_goals(first|assumption|exact r _|((with_reducible show wpAny _ _ (call (Value.builtin "list.__getattribute__") _ _) _ _ _);refine fB F.slot_list_getattribute (r _) am_entry_list_getattribute (F.args_list_getattribute_2 _ _) (meets_getattribute_miss_list a xs k sl "keys" _ Jhp Ab (by size_fits)) P0)|wp_step))
 obtain⟨M,G,I⟩:=i.there;show wpAny _ _ Ve _ _ _;unfold getattributeRaised;repeat(any_goals(first|assumption|wp_step))
 exact h _ _ i.keeps
def jV:plainId "dict.update.loop"=To:=by decide+kernel
def Jci:entryFor table "dict.update.loop"=So Builtin.«dict.update.loop»:=entryFor_of_tree (by kernel_rfl)
section
variable{w:AQ}{R:Ke}{I d:Addr}{fp wr:A9}{n:Nat}{P:Nat->Value->Prop}{St:Fv}{κ:Type}[DecidableEq κ]{knd:KeyKind prog w κ}
noncomputable def xC (rows:Cn) (i:Nat):List (κ×Value):=(rows.take i).foldl (λa r=>stored a r.1 r.2) []
def JnC(a:Cn)(k:κ)(v:An):(stored a k v).length<=Yo+1:=by unfold stored;split<;>simp
def JcN{rows:Cn}{i:Nat}{r:κ×Value}(h:rows[i]? =So r):xC rows Bw=stored '亓' r.1 r.2:=by unfold xC;rw[vL,h];simp[uP]
def Jgh(rows:Cn):∀i,'亓'.length<=i
 |0=>by simp[xC]
 |i+1=>by
  cases h:rows[i]? with
  |none=>
   have:xC rows Bw=xC rows i:=by unfold xC;rw[vL,h];simp
   rw[this];exact Nat.le_succ_of_le Ia
  |some r=>rw[JcN h];exact Zq (JnC _ _ _) (Nat.succ_le_succ Ia)
theorem JpV(W9:Walks prog w XI I fp wr n P St)(Z:d∉fp)(U:Heap){Dk:Fv}(r:∀i h g,Dk i h->(∀b o,b∉wr->h.get? b=So o->g.get? b=So o)->Dk i g)
  (hit:∀i v,P i v->∃b N L,v=.ref b/\b∉wr/\b≠d/\IsTup U b #[N,L]/\∀(s:Al)(Q:Dl)(E:Ay),Dk i s.heap->(∀b o,b∉wr->b≠d->U.get? b=So o->s.heap.get? b=So o)->
   (∀g B,Dk Bw g->(∀b,b≠d->g.get? b=s.heap.get? b)->Q () {s with heap:=g,toks:=B})->wpAny Au XI QbI Q E s):
  ∀(k i:Nat)(s:Al)(t:Tok)(j:Int),n-i=k->i<=n->St i s.heap->Dk i s.heap->(∀b o,b∉wr->b≠d->U.get? b=So o->s.heap.get? b=So o)->
  (∀g B,Dk n g->(∀b o,b∉wr->b≠d->U.get? b=So o->g.get? b=So o)->R N4 {s with heap:=g,toks:=B})->
  codeAny Au A (.builtin "dict.update.loop" ⟨[.ref d,.ref I,.int j t,.none],[]⟩) R s:=by
 intro k;induction k with
 |zero=>
  intro i s t j hk hi y W l X;have hin:i=n:=by lia
  subst hin;refine pF Jci ?_;rw[uF jV _];show wpAny _ XI (pyNext (.ref I)>>=_) _ _ s;refine Za (W9.done s _ _ y λg B f=>?_);show wpAny _ _ (Builtin.Dict.addKeywords d []>>=_) _ _ _;refine Za (Zb (Zb ?_));exact X g B QdP λb o x C q=>f b o x IB
 |succ k ih=>
  intro i s t j hk hi y W l X;have M:i<n:=by lia
  refine pF Jci ?_;rw[uF jV _];show wpAny _ XI (pyNext (.ref I)>>=_) _ _ s;refine Za (W9.item i s _ _ M y λv g B hP O f=>?_);obtain⟨b,N,L,rfl,J,Y,⟨ob,g1,g2,m,g3⟩,H⟩:=hit i v hP;have G:=f b ob J (l b ob J Y g1);have hT:({s with heap:=g,toks:=B}:Shared).TypeIs CK "tuple":=⟨ob,G,g2⟩;refine Za ?_;try with_reducible refine wA ?_
  refine Za (wpAny_tryCatch ?_);show wpAny _ _ (Builtin.Dict.pairItems CK) _ _ _;unfold Builtin.Dict.pairItems;refine Za (jF hT ?_);rw[if_pos (by rfl)];refine Za (uC G g3 (Zb ?_));show wpAny _ _ (holding [N,L] QbI) _ _ _;try with_reducible refine wA ?_
  refine H _ _ _ QdP (λb o x C q=>f b o x IB) λh'' tk'' F u=>?_;refine Zb QcJ;refine ih Bw _ _ _ Af M (W9.frame _ _ _ O λb hb o e=>u b (λz=>Z (by rw[<-z];exact hb))▸e) F (λb o x C q=>?_) λh3 tk3 q1 q2=>X h3 tk3 q1 q2;exact(u b C).trans (f b o x IB)
def Jes{E:Ay}{s:Al}{o:Obj}{f:B7}{m:Nat}(T:Bool)(ho:s.heap.get? a=So o)(O:o.cls=.type (if T then "tuple" else "list"))(hd:o.dict=No)(j:o.data=.seq f m)(Y:Bh)
  {Dk:Fv} (d0:Dk 0 (s.heap.push {cls:=.type "dict",data:=.dict #[]})) (hkeep:∀i h h',Dk i h->(∀b o,(b=Aa\/∃q,s.heap.get? b=So q)->h.get? b=So o->h'.get? b=So o)->Dk i h')
  (hit:∀(i:Nat)(v:An),f[i]? =So v->∃b Z xv,v=Value.ref b/\IsTup VU b #[Z,xv]/\∀(B:Al)(Q:Dl)(E:Ay),Dk i B.heap->(∀b o,s.heap.get? b=So o->B.heap.get? b=So o)->
   (∀h' r,Dk Bw h'->(∀b,b≠Aa->h'.get? b=B.heap.get? b)->Q () {B with heap:=h',toks:=r})->wpAny Au Yr (dictSet Aa Z xv) Q E B) {Q:Ay}
  (h:∀h' r,Dk f.size h'->(∀b o,s.heap.get? b=So o->h'.get? b=So o)->Q Qcf {s with heap:=h',toks:=r}):
  wpAny Au A (call KO Ma) Q E s:=by
 refine callType_codes (Q₁:=λobj x=>obj=.ref Aa/\x={s with heap:=s.heap.push {cls:=.type "dict",data:=.dict #[]}}) F.kt_called_dict (F.kt_typeCall_dict_1 _) F.entry_dict_init (kt_code_dict_new _ Cw) ?_;rintro obj x⟨rfl,rfl⟩;have u:(s.heap.push {cls:=.type "dict",data:=.dict #[]}).DictOf 'ϝ' Aa []:=Heap.DictOf.new VU;have l:(s.heap.push {cls:=.type "dict",data:=.dict #[]}).get? a=So o:=Zd _ ho;have hT1:({s with heap:=s.heap.push {cls:=.type "dict",data:=.dict #[]}}:Shared).TypeIs Ar (if T then "tuple" else "list"):=⟨o,l,O⟩;refine⟨u.typeIs,F.args_dict_init_2 _ _,?_⟩;unfold Builtin.«dict.__init__»;refine Za ?_;unfold Builtin.Dict.selfAndRest;refine Za (uV u.typeIs ?_);show wpAny _ _ (pure (Aa,Ma)) _ _ _;refine Zb ?_;show wpAny _ _ (Builtin.Dict.updateFrom "dict.__init__" Aa Ar [] .none) _ _ _;unfold Builtin.Dict.updateFrom;refine Za (jF hT1 ?_);rw[if_pos (by cases T<;>rfl)];have H:∀h' r,(∀b o,(s.heap.push {cls:=.type "dict",data:=.dict #[]}).get? b=So o->h'.get? b=So o)->wpAny Au Yr Ii (λit y=>∃I fp wr St,it=.ref I/\y.os=s.os/\y.gens=Y6/\y.drawn=Yz/\Walks prog w Yr I fp wr f.size (λi v=>f[i]? =So v) St/\St 0 y.heap/\s.heap.objs.size∉fp/\(∀b o,s.heap.get? b=So o->b∉wr)/\∀b o,h'.get? b=So o->y.heap.get? b=So o) E {s with heap:=h',toks:=r}:=by
  intro h' r G;have hD':=G _ _ (Ze (o:={cls:=.type "dict",data:=.dict #[]}) VU rfl);have C:Aa<Cf:=Zj hD';have J:=Zj ho;have X:a≠Cf:=λe=>by rw[e]at J;exact Nat.lt_asymm J C
  have W:Aa∉[Cf,a]:=by
   intro e;simp only[Zf,Zy,fA]at e;rcases e with e|e
   ·exact Zu C e
   ·exact rC J e
  have g:∀b o,s.heap.get? b=So o->b∉[Cf]:=λb o q e=>by have h1:=Zj q;simp only[Zf,Zy,fA]at e;rw[e]at h1;exact Nat.lt_asymm h1 C
  cases T with
  |true=>have N:h'.IsTuple a f:=Oe;refine eP N ?_;exact⟨Cf,[Cf,a],[Cf],(λi h=>h.IsTupleIter Cf a i/\h.IsTuple a f),rfl,rfl,rfl,rfl,Walks.tuple (A:=Yr) Y _ a X f,Qb3,W,g,λb o q=>Zd _ q⟩
  |false=>have N:h'.IsList a f:=Oe;refine xJ N ?_;exact⟨Cf,[Cf,a],[Cf],(λi h=>h.IsListIter Cf a i/\h.IsList a f),rfl,rfl,rfl,rfl,Walks.list (A:=Yr) Y _ a X f,Qb3,W,g,λb o q=>Zd _ q⟩
 have L:∀{Q':Dm}{E':Ay},(∀h' r,(∀b o,(s.heap.push {cls:=.type "dict",data:=.dict #[]}).get? b=So o->h'.get? b=So o)->Q' No {s with heap:=h',toks:=r})->wpAny Au Yr (getAttr? Ar "keys") Q' E' {s with heap:=s.heap.push {cls:=.type "dict",data:=.dict #[]}}:=by
  intro Q' E' hq;cases T with
  |true=>exact JdE l O j hd Y hq
  |false=>exact JeB l O j hd Y hq
 refine Za (L λh' r G=>?_);simp only[Option.isNone_none,if_true];refine Za (kB (Za (thn (H h' r G) λit y zz0=>?_)));obtain⟨I,fp,wr,Sz,e1,e2,e3,e4,W9,st,hf,g,kp⟩:=zz0;subst e1;refine Zb QcJ;have hdw:Aa∉wr:=λz=>hf (W9.sub _ z);refine JpV W9 hf VU (Dk:=Dk) (λi h1 h2 U M=>hkeep i h1 h2 U λb o hb=>M b o (by rcases hb with rfl|⟨q,hq⟩;exact hdw;exact g b q hq)) (λi v hv=>?_) f.size 0 y _ _ Af Xj st ?_ (λb o _ _ q=>kp _ _ (G _ _ Qc2)) λh3 tk3 U M=>?_
 ·obtain⟨b,Z,xv,h2,h3,h4⟩:=hit i v hv;obtain⟨ob,g1,g2⟩:=h3;exact⟨b,Z,xv,h2,g b ob g1,Zu (Zj g1),⟨ob,g1,g2⟩,λB Q E U M q3=>h4 B Q E U (λb o q=>M b o (g b o q) (Zu (Zj q)) q) q3⟩
 ·exact hkeep _ _ _ d0 λb o _ q=>kp _ _ (G _ _ q)
 ·refine LV;have:=h h3 tk3 U λb o q=>M b o (g b o q) (Zu (Zj q)) q;obtain⟨hp',g',d',t',os'⟩:=y;simp only at e2 e3 e4;subst e2 e3 e4;exact this
end
end Rd
namespace Rd
open PySem PySem.Spec PyProof.Rows L2 Pu
variable{X:Cx}{pos p1 p2 px p3:Pos}{G:Gw}{N:Ac}{nm:Bj}{s:Al}{H H0:Hp}{a v e b:Expr}{pa pv pk p:Px}{w:AQ}{d:Addr}{prog:Ba}{A:Bv}{E:Ay}{ks J:Ak}{xs:Av}{o od:Obj}{i ep:Nat}{t:Bool}{x y:Str}{Y:A8}{Z:Bl}{M:As}{es:GL}{K:Aj}{κ:Type}{vs:CF}
def Jly[DecidableEq κ]{a:Cn}{k:κ}{v:An}(h:k∉a.map (·.1)):stored a k v=a++[(k,v)]:=by unfold stored;rw[if_neg];intro q;obtain⟨p,f,g⟩:=uH.mp q;exact h (Zv.mpr ⟨p,f,ZZ g⟩)
theorem JbV[DecidableEq κ]{rows:Cn}(h:(rows.map (·.1)).Nodup):∀i,xC rows i=rows.take i
 |0=>by simp[xC]
 |i+1=>by
  cases q:rows[i]? with
  |none=>
   have:xC rows Bw=xC rows i:=by unfold xC;rw[vL,q];simp
   rw[this,JbV h i,vL,q];simp
  |some r=>
   rw[JcN q,JbV h i,vL,q,Jly]
   ·rfl
   ·intro g
    obtain⟨u,e⟩:=Zz.mp q
    obtain⟨p,z,m⟩:=Zv.mp g
    obtain⟨j,B,l⟩:=List.mem_take_iff_getElem.mp z
    have f:j<i:=by lia
    have:=(List.pairwise_iff_getElem.mp h) j i BR (by simpa using u) f
    simp[l,e,m]at this
def JkY{f:D->Bool}{d:D}{vs:Ak}(h:xD f (d::J)=So (ks,vs)):∃k v,∃p:List D×List D,d=.tup [k,v]/\f k=To/\xD f J=So (p.1,p.2)/\ks=k::p.1/\vs=v::p.2:=by
 simp only[xD]at h;split at h
 ·split at h
  ·rename_i g;cases q:xD f J with
   |none=>rw[q]at h;cases h
   |some p=>rw[q]at h;cases h;exact⟨_,_,p,rfl,g,rfl,rfl,rfl⟩
  ·cases h
 ·cases h
def Jtc{P:D->Bool}(I:BU):∀{J ks vs:Ak}{xs:Av}{its:AE},xD P J=So (ks,vs)->Reps X.K H J xs->Vals xs its->
  ∃(rs:List (V×V))(us:List (Value×Value)),Reps X.K H ks (rs.map (·.1))/\Reps X.K H vs (rs.map (·.2))/\Paired (λr u=>RelV r.1 u.1/\RelV r.2 u.2) rs us/\us.length=B1/\(∀k∈ks,P k=To)/\
   ∀(i:Nat)(v:An),its[i]? =So v->∃b u,us[i]? =So u/\v=Value.ref b/\IsTup VU b #[u.1,u.2]:=by
 intro J;induction J with
 |nil=>intro ks vs xs its h r C;cases h;cases r;cases C;exact⟨[],[],rfl,rfl,.nil,rfl,λk g=>by simp at g,λi v h=>by simp at h⟩
 |cons d J ih=>
  intro ks vs xs its h r C;obtain⟨x,xr,rfl,r1,r2⟩:=r;cases C with
  |@cons _ u _ ur U B=>
  obtain⟨k,v,p,rfl,g,q,rfl,rfl⟩:=JkY h;obtain⟨rs,us,e1,e2,e3,e4,e6,e5⟩:=ih q r2 B;obtain⟨a,ys,rfl,g1,g2⟩:=r1;obtain⟨y0,yr,rfl,g3,y1,yr',rfl,W,g5⟩:=g2;cases g5;obtain⟨F,rt,ht,_⟩:=I.tuple g1;cases rt with
  |@cons _ O _ ur0 m rt=>
  cases rt with
  |@cons _ L _ ur1 l rt=>
  cases rt;cases U;refine⟨(y0,y1)::rs,(O,L)::us,⟨_,_,rfl,g3,e1⟩,⟨_,_,rfl,W,e2⟩,.cons ⟨m,l⟩ e3,by simp[e4],λk' j=>by rcases Zf.mp j with rfl|z;exact g;exact e6 _ z,λi v f=>?_⟩;cases i with
  |zero=>simp only[kF,ZU]at f;subst f;exact⟨a,(O,L),rfl,rfl,ht⟩
  |succ i=>simp only[lF]at f⊢;exact e5 i v f
def JxC:∀{ks:Ak}{rs:List (V×V)}{us:List (Value×Value)},Reps X.K H ks (rs.map (·.1))->Paired (λr u=>RelV r.1 u.1/\RelV r.2 u.2) rs us->(∀k∈ks,keyN k=To)->
  ∃(f:GB)(rows:List (L2.Key×Value)),ks=f.map (λp=>keyV p.1)/\rs.map (·.2)=f.map (·.2)/\KV f rows/\rows.length=Qdw/\∀(i:Nat)(u:Value×Value),us[i]? =So u->∃k,rows[i]? =So (k,u.2)/\(JA Xz X.w).is k u.1=To:=by
 intro ks rs us r rv;induction rv generalizing ks with
 |nil=>intro _;cases ks with
  |nil=>exact⟨[],[],rfl,rfl,.nil,rfl,λi u h=>by simp at h⟩
  |cons k ks=>obtain⟨_,_,e,_⟩:=r;cases e
 |@cons p q ps qs l t U=>
  intro B;cases ks with
  |nil=>cases r
  |cons k ks=>
   obtain⟨x,xr,e,C,W⟩:=r;simp only[Zg,qB]at e;obtain⟨rfl,rfl⟩:=e;obtain⟨f,rows,e1,I,e3,O,L⟩:=U W λP h'=>B P (Zm _ h');obtain⟨p1,p2⟩:=p;obtain⟨m,F⟩:=q;obtain⟨g,ek,hs⟩:∃g,k=keyV g/\(JA Xz X.w).is g m=To:=by
    have:=B k Ad;cases k<;>first|(cases this;done)|skip
    ·have z:RelV p1 m:=l.1;rw[show p1=V.non from C]at z;cases z;exact⟨.non,rfl,rfl⟩
    ·have z:RelV p1 m:=l.1;rw[show p1=V.str _ from C]at z;obtain⟨t,rfl⟩:=z;exact⟨.inr _,rfl,Jet _ _ _ _⟩
   refine⟨(g,p2)::f,(g,F)::rows,by rw[ek,e1];rfl,by simp only[Zg];rw[I],.cons ⟨rfl,l.2⟩ e3,by simp[O],λi u j=>?_⟩;cases i with
   |zero=>simp only[kF,ZU]at j;subst j;exact⟨g,rfl,hs⟩
   |succ i=>simp only[lF]at j⊢;exact L i u j
def Jlh{f:GB}(h:(f.map (λp=>keyV p.1)).Pairwise (λa b=>a.eqv b=Fo)):(f.map (·.1)).Nodup:=by rw[List.pairwise_map]at h;unfold List.Nodup;rw[List.pairwise_map];refine h.imp fun{a b}q e=>?_;rw[jE,oE]at q;exact q e
noncomputable def frzO (fz:Bool) (o:Obj) (ob:HO):HO:=if fz then .frz o ob else ob
def OutD(X:Cx)(H:Hp)(Q:VK)(d:D):Prop:=∀ks vs,d=.dct Fo To ks vs->∃f:Bool,∀l(kvs:GB)o,H l=No->ks=kvs.map (λp=>keyV p.1)->Reps X.K QA vs (kvs.map (·.2))->Q BH QA
def OutD.of{Q:VK}{d:D}(h:dO):OutD X H Q d:=λks vs e=>⟨To,λl f o g m j=>by
 subst e
 exact h _ _ (λb ob e=>by rw[Jb (Jh e g)];exact e) ⟨l,_,rfl,⟨f,⟨o,Je⟩,m,rfl⟩,j⟩⟩
theorem JgS(g:Cj)(I:BU){a:Addr}{its:AE}{m:Nat}(T:Bool)(W:GS)(U:s.heap.get? a=So o)(hc:o.cls=.type (if T then "tuple" else "list"))(hd:o.dict=No)(z:o.data=.seq AF m)(hz:Ah<=sizeLine)(r:FY)
  {Q:VK} (h:(lN J).Good (OutD X H Q) Az) {E:Ay}:wpAny AD X.A (call KO Ma) BP E s:=by
 unfold lN at h;split at h
 ·rename_i ks vs q;split at h
  ·rename_i hk;obtain⟨rs,us,f1,f2,f3,f4,f6,f5⟩:=Jtc I q r W;obtain⟨kvs,rows,e1,f7,L,P,e5⟩:=JxC f1 f3 f6;have e4:BN=B1:=P.trans f4;have e2:Reps X.K H vs (kvs.map (·.2)):=by rw[<-f7];exact f2
   subst e1;have hn:=Jlh hk.1;have hn2:(rows.map (·.1)).Nodup:=by rw[<-L.keys];exact hn
   refine Jes (Dk:=λi h=>h.DictOf KY Aa '亓') T U hc hd z (I.ok.hd g) (Heap.DictOf.new VU) (λi h1 h2 q1 O=>?_) (λi v hv=>?_) λh' tk hD O=>?_
   ·obtain⟨o,es,ep,U,r⟩:=q1;exact⟨o,es,ep,O _ _ Be U,r⟩
   ·have C:its[i]? =So v:=by simpa using hv
    obtain⟨b,u,g1,g2,g3⟩:=f5 i v C;obtain⟨k,g4,g5⟩:=e5 i u g1;have hlt:i<B1:=(Zz.mp C).1;refine⟨b,u.1,u.2,g2,g3,λs1 Q E q1 q2 q3=>wpAny_dictSet_pairs (hsz:=Zq Ia (by rw[W.length]at hz;lia)) g5 q1 λh'' l B=>?_⟩;exact q3 _ _ (by rw[JcN g4];exact l) B.2
   have hsz:CL=BN:=by rw[Zo,e4]
   rw[JbV hn2,hsz,List.take_length]at hD;obtain⟨F,es,ep,f,hr⟩:=hD;have hl:AV<=sizeLine:=by rw[L.length,e4,<-W.length];exact hz
   have j:=I.hok.fresh (Zh Aa);have sm:∀ob,Same H (upd H Aa ob):=λob b ob' e=>by rw[Jb (Jh e j)];exact e
   have big:=ZA.mpr (Ne.symm (Zu I.big));obtain⟨fz,h⟩:=h _ _ rfl;cases fz with
   |true=>exact⟨.ref Aa,upd H Aa (.frz F AN),I.laid O (Zh _) ⟨f,hl,big,rows,L,F,es,ep,f,hr⟩,rfl,h _ kvs F j rfl Qa5⟩
   |false=>exact⟨.ref Aa,upd H Aa AN,I.laid O (Zh _) ⟨hl,big,rows,L,F,es,ep,f,hr⟩,rfl,h _ kvs F j rfl Qa5⟩
  ·exact h.elim
 ·exact h.elim
def Jqf(f:Cj):pA X KO (λxs H Q=>∃x d,xs=[x]/\Rep X.K H d x/\(op1 .dictP d).Good (OutD X H Q) Az):=by
 rintro Y s Z H xs U Q I O⟨x,d,e,r,h⟩;subst e;cases d with
 |tup J=>obtain⟨a,P,rfl,L,F⟩:=r;obtain⟨u,rfl,g⟩:=xA O;cases g;obtain⟨B,o,n,z,q,C,j,l,m⟩:=I.tupleD L;exact JgS f I To z q C j l m F h
 |lst J=>obtain⟨a,P,rfl,L,F⟩:=r;obtain⟨u,rfl,g⟩:=xA O;cases g;obtain⟨B,z,⟨o,n,q,C,j,l⟩,m⟩:=I.list L;exact JgS f I Fo z q C j l m F h
 |_=>exact(show False from h).elim
def Jut(f:Cj):pA X KO (rC1 X .dictP):=λY s Z H xs g Q I j⟨x,d,e,r,h⟩=>Jqf f Y s Z H xs g Q I j ⟨x,d,e,r,h.imp λ_ z=>OutD.of z⟩
section
variable{U:Ag}
def Jya(C:Am)(f:G.mg "dict"=No)(h:AO)(g:gloB nm "dict"=To)(hs:DN):PE X (.Call (.Name "dict" p1) [a] [] pos) (tI X U (.un .dictP pa)):=kX C (Jut Yg) h g f PyProof.Rows.boot_dict Ab Ab hs
end
section
variable{U:Ag}
theorem JgD{f g:Type}{R:f->g->Prop}:∀{xs:List f}{us:List g},Ah=us.length->(∀(j:Nat)x u,xs[j]? =So x->us[j]? =So u->R x u)->Paired R xs us
 |[],[],_,_=>.nil
 |x::xs,u::us,h,k=>.cons (k 0 x u rfl rfl) (JgD (by simpa using h) λj x u a b=>k (j+1) x u (by simpa using a) (by simpa using b))
end
section
variable{U:Ag}{k:Expr}
theorem eDsp1(C:Am)(hK:NoKT G.K)(hk:PE X k M9)(hv:RI):PE X (.Dict [So k] [v] pos) (tI X U (.dsp To (.cons pk .nil) (.cons pv .nil))):=by
 rintro Y s Z H Q I⟨O,r,h⟩;simp only[evD,Rs.bind_assoc,dspD]at h;have hn:=I.hok.fresh (Zh Aa);have I1:=I.laid (a:=Aa) (o:=.dT []) (h':=s.heap.push {cls:=.type "dict",data:=.dict #[]}) (t':=Xv) M5 (Zh _) N8;have eH:hid [Aa] ME=H:=by
  funext c;by_cases q:c=Aa
  ·rw[fG (by simp[q]),q,hn]
  ·rw[Jt (by simpa using q),Jb q]
 have hL:Ows [Aa] ME:=λc W=>by
  have:c=Aa:=by simpa using W
  exact⟨.dT [],by rw[this];exact Je,ZT⟩
 obtain⟨ps,g1,g2,I2⟩:=Rd.Inv.hide I1 hL.c;rw[eH]at I2;refine wpAny_Dict_any rfl rfl Ad Ad ?_;refine pairTrees_cons_walk (thn (hk (ps++Y) _ Z H (λx l=>∃d,Same H l/\Rep X.K l d x/\((evD U pv O).bind λy=>if keyD To d then .ok (.dct To To [d] [y])else .sk).Good Cu Az) I2 Dc) λu s1⟨x,l,J1,rx,d,e1,e3,e4⟩=>?_)
 ·refine(Rs.gB.mp h).mono (λd m x l sm rx=>⟨d,sm,rx,?_⟩) λc W=>W;simpa only[Rs.bo,D.asL]using m
 refine thn (hv (ps++Y) s1 Z l (λy f=>∃L,Same l f/\Rep X.K f L y/\(if keyD To d then Rs.ok (D.dct To To [d] [L])else .sk).Good Cu Az) J1 ⟨O,r.mono e1,?_⟩) λw2 s2⟨y,f,J2,ry,L,f1,f2,f3⟩=>?_
 ·exact(Rs.gB.mp e4).mono (λL m y f sm ry=>⟨L,sm,ry,m⟩) λc W=>W.mono e1
 refine pairTrees_nil_walk ?_;obtain⟨u1,J3⟩:=Rd.Inv.unhide I1 hL.c g1 g2 (λb xs q=>(show Same _ _ by rw[eH];exact e1.trans f1) b _ q) J2;have j:=u1 Aa Ad;have g:uni [Aa] ME f Aa=So aZ:=by rw[kL 'j'];exact Je
 split at f3
 ·rename_i hkd;have hKX:NoKT X.K:=by rw[C.K];exact hK
  obtain⟨b,ks,rfl,rfl,hb⟩:=xS hKX hkd e3;cases(show u=Value.ref b from rx);have F:=(hb J1.noH).keep λ_ _ q=>f1 _ _ q;have nb:b≠Aa:=let⟨_,q⟩:=F.tup;Jh q j;have B:KB V9 ks b:=F.keep λc xs q=>by rw[JU (by simpa using Jh q j)];exact q
  obtain⟨z,m,xs,rel,dd⟩:=JvL J3.hok g;cases rel;unfold storeAll;rw[oP];refine Za (Za (wpAny_dictSet_heap (hsz:=vB _) (show X.A.units+50<cLine by have:=C.un;lia) (L2.key_of J3.hok B) dd λh' dd' hs=>Zb ?_));show wpAny _ _ (forIn [] PUnit.unit _) _ _ _;rw[wO];refine Zb ?_;obtain⟨q,es,ep,hq,h2,h3,h4,_,h5⟩:=dd';have st:storedH [] ks b w2=[(ks,b,w2)]:=rfl;rw[st]at h4 h5;have hob:ObjOk Xz X.w OP h' Aa WC:=
   ⟨hq,by rw[ZG];show 1<=_;decide,m,[(ks,b,w2)],.cons ⟨rfl,B.keep (λc xs q=>by rw[Jb (RW q g (λz=>nomatch z))];exact q),ry⟩ .nil,q,es,ep,hq,h2,h3,h4,h5⟩
  have I3:=jT (t':=s2.toks+(JeE Xz X.w).draws ks) J3 (by rw[g];exact ZT) hs ⟨q,hq⟩ hob;have P:Same f OP:=λc ob e=>by have nc:=Jh e j;rw[Jb nc,JU (by simpa using nc)];exact e
  exact⟨.ref Aa,_,I3,rfl,f3 _ _ ((e1.trans f1).trans P) ⟨_,_,rfl,⟨[(ks,y)],⟨q,Je⟩,rfl,rfl⟩,Reps.one (f2.mono P)⟩⟩
 ·exact f3.elim
end
section
variable{U:Ag}{pe:Px}
def PJV(X:Cx)(U:Ag)(vs:CF)(p:Px):Prop:=∀(Y:A8)(s:Al)(Z:Bl)(H:Hp)(O:Fm)(f:Str)(Q:Str->Shared->Prop)(J:Ak)(y:Str),L2.Inv X Y Z H s->ReadOk X.K H Z O->evD U p O=.ok Bc->fH J=So y->
 f.length+y.length<=1000000->(∀g h,L2.Inv X Y Z h g->Same H h->Q (f++y) g)->Joins AD X.A X.xe Ou f Q s
def Jme(x:Str):x++Str.empty=x:=by cases x with|mk c=>show Str.mk (c++#[])=_;simp
def JhE(x y z:Str):x++y++z=x++(y++z):=by cases x with|mk a=>cases y with|mk b=>cases z with|mk c=>exact kA Str.mk (Array.append_assoc ..)
def Jun:PJV X U [] .nil:=λY s Z H O g Q J y I r h f j k=>by
 cases h
 cases f
 have:=k s H I D6
 rw[Jme]at this
 exact this
def Jff{d:D}(h:fH (d::J)=So y):∃a b,uK d=So a/\fH J=So b/\y=a++b:=by
 unfold fH at h;split at h
 ·rename_i a b g f;split at h
  ·cases h;exact⟨a,b,g,f,rfl⟩
  ·cases h
 ·cases h
theorem Jpf(he:PE X e (tI X U pe))(hs:oI pe=To)(h:PJV X U vs p):PJV X U (.FormattedValue e (-1) No pos::vs) (.cons pe p):=by
 intro Y s Z H O m Q J y I r f hy hl kk;simp only[evD]at f;rcases mO U (O:=O) hs with q|⟨d,q⟩
 ·rw[q]at f;cases f
 rw[q]at f;simp only[Rs.bo]at f;cases C:evD U p O with
 |ex c=>rw[C]at f;cases f
 |sk=>rw[C]at f;cases f
 |ok d2=>
  rw[C]at f;cases d2 with
  |lst es=>
   simp only[Pu.D.asL,Rs.bo]at f;cases f;obtain⟨a,b,g,e2,rfl⟩:=Jff hy;rw[JT]at hl;have rest:∀(l:Al)j,L2.Inv X Y Z j l->Same H j->Joins AD X.A X.xe Ou (m++a) Q l:=λl j L sm=>
    h Y l Z j O (m++a) Q es b L (r.mono sm) C e2 (by rw[JT];lia) λs2 H2 I2 P=>by rw[JhE];exact kk s2 H2 I2 (sm.trans P)
   have hz:(m++a).length<=sizeLine:=by rw[JT,ZG];lia
   refine wpAny_FormattedValue_plain (ZY (he Y s Z H (λv W=>Rep X.K W d v/\Same H W) I ⟨O,r,by rw[q];exactλv W l F=>⟨F,l⟩⟩) (λu l⟨v,j,L,F,hv,sm⟩=>?_) λ_ _ z=>z);cases d with
   |str z=>
    cases hv;obtain⟨t,rfl⟩:=F;simp only[uK]at g;split at g
    ·rename_i B;cases g;exact formatField_str (λt' tk=>⟨_,t',rfl,hz,rest _ j (L.tok tk) sm⟩) (by rw[ZG];lia)
    ·cases g
   |int i=>
    cases hv;obtain⟨t,rfl⟩:=F;simp only[uK]at g;split at g
    ·rename_i B;cases g;refine formatField_int_small ?_ ⟨_,_,rfl,hz,rest _ j (L.tok _) sm⟩;by_cases h0:i.natAbs=0
     ·rw[h0];decide
     ·exact ZB ((Nat.log2_lt h0).mpr B) AB
    ·cases g
   |_=>simp[uK]at g
  |_=>cases f
theorem eFst{j l:Expr}(h:PJV X U (j::l::vs) p)(u:oK p=To):PE X (.JoinedStr (j::l::vs) pos) (tI X U (.un .join p)):=by
 rintro Y s Z H Q I⟨O,r,g⟩;simp only[evD]at g;rcases JhR U (O:=O) u with q|⟨J,q⟩
 ·rw[q]at g;exact g.elim
 rw[q]at g;simp only[Rs.bo,op1]at g;cases f:fH J with
 |none=>rw[f]at g;exact g.elim
 |some y=>
  rw[f]at g;have F:y.length<=2000:=by
   cases J with
   |nil=>cases f;decide
   |cons d J=>
    unfold fH at f;split at f
    ·split at f
     ·rename_i B;cases f;rw[JT];exact B
     ·cases f
    ·cases f
  refine wpAny_JoinedStr (h Y s Z H O Yf _ J y I r q f (by show 0+_<=_;lia) λL m C sm=>⟨?_,.str _,m,C.tok _,AS,?_⟩)
  ·rw[JT];show 0+_<=16777216;lia
  ·have z:Str.empty++y=y:=by cases y with|mk c=>show Str.mk (#[]++c)=_;simp
   rw[z];exact g _ _ sm rfl
end
section
variable{it:Addr}{ok ov:An}
theorem Jre{e:DictEntry}{Q:Dm}(hit:Vy)(u:s.heap.get? d=So od)(B:Ec)(hx:es[i]? =So e)
  (hQ:∀U,IsItemIterOut U it d Bw Xw ep Ys Yj Aa->U.get? Aa=So {cls:=.type "tuple",data:=.seq #[e.key,Yj]}->
   (∀b o,b≠it->s.heap.get? b=So o->U.get? b=So o)->Q (So Fi) {s with heap:=U}):
  wpAny Au A Dw Q E s:=by
 obtain⟨j,g,P,O,I⟩:=s;have C:Shared.TypeIs ⟨j,g,P,O,I⟩ B8 "dict_itemiterator":=Qd8;have own:Builtin.Dict_items.ownsTuple "dict_itemiterator"=To:=by decide
 unfold pyNext;refine Za (nE (ZM (name:=oS "__next__") C eQ (ZD eQ C aU ?_ Vi)));refine Za (Zb (Za (Za ?_)));refine Za (fQ C (Zb (Za (mG hit rfl ?_))));simp only[own,if_true];show wpAny _ _ (if Fb=To then _ else _) _ _ _;rw[if_neg (show¬(Fb=To)from ZH)];refine Za (Zb (Za (vJ u B ?_)));rw[if_neg 'j'];refine Za (Zb (Za (lJ u B ?_)));rw[if_neg 'j'];refine Zb ?_;simp only[show¬((i:Int)<0)from by lia,ZF,qF,hx];refine Za (Za (fQ C (Zb (Za (xV C ?_)))));show wpAny _ _ (setField B8 3 (rawInt ((i:Int)+1))>>=_) _ _ ⟨j,g,P,O,I⟩;refine Za (qC hit Ad λh r m=>?_);replace m:Heap.SameBut it j h:=m;replace r:IsItemIter h it d Bw Xw ep ok ov:=by unfold IsItemIter;rw[show((i+1:Nat):Int)=(i:Int)+1 by lia];simpa[rawInt]using r
 have z:Shared.TypeIs ⟨h,g,P,O,I⟩ B8 "dict_itemiterator":=HL;refine Za (wA (Za (xV z (Za (xV z ?_)))));show wpAny _ _ (Builtin.Dict_items.pairFromOwner B8 6 Ys Yj) _ _ ⟨h,g,P,O,I⟩;unfold Builtin.Dict_items.pairFromOwner;refine Za (wpAny_newTuple ?_);have z1:h.objs.size=j.objs.size:=m.1;have il:it<j.objs.size:=Zj hit;have ne:j.objs.size≠it:=rC il;show wpAny _ _ (Builtin.Dict_items.ownedTupleIsFree B8>>=_) _ _ ⟨h.push {cls:=.type "tuple",data:=.seq #[e.key,Yj]},g,P,O,I⟩;have L:(h.push {cls:=.type "tuple",data:=.seq #[e.key,Yj]}).get? j.objs.size=So {cls:=.type "tuple",data:=.seq #[e.key,Yj]}:=by rw[<-z1];exact Ze _ rfl
 have f:IsItemIter (h.push {cls:=.type "tuple",data:=.seq #[e.key,Yj]}) it d Bw Xw ep ok ov:=Zd _ r;have k2:∀b o,b≠it->j.get? b=So o->(h.push {cls:=.type "tuple",data:=.seq #[e.key,Yj]}).get? b=So o:=λb o l q=>Zd _ (m.extBut b o l q);rw[z1];generalize h.push {cls:=.type "tuple",data:=.seq #[e.key,Yj]}=h2 at L f k2⊢;refine Za ?_;unfold Builtin.Dict_items.ownedTupleIsFree;refine Za (ZS f rfl (x:=.none) rfl (Zb ?_));simp only[if_true];refine Za (ZS f rfl (x:=ok) rfl (Za (ZS f rfl (x:=ov) rfl ?_)));refine Za (qC f Ad λW he3 hs3=>Za (qC (show IsItemIter W it d Bw Xw ep Ys ov from he3) Ad λh4 he4 hs4=>?_));refine Za (qC (show IsItemIter h4 it d Bw Xw ep Ys Yj from he4) Ad λh5 he5 hs5=>?_);refine Za (qC (show IsItemIterOut h5 it d Bw Xw ep Ys Yj j.objs.size from he5) Ad λh6 he6 hs6=>?_);have kk:∀b o,b≠it->h2.get? b=So o->h6.get? b=So o:=λb o l q=>
  (show Heap.SameBut it h5 h6 from hs6).extBut b o l ((show Heap.SameBut it h4 h5 from hs5).extBut b o l ((show Heap.SameBut it W h4 from hs4).extBut b o l ((show Heap.SameBut it h2 W from hs3).extBut b o l q)))
 exact Za (wpAny_letGo (Zb (Zb ⟨_,rfl,Zb (hQ h6 he6 (kk _ _ ne L) λb o l q=>kk b o l (k2 b o l q))⟩)))
theorem JsO{Q:Dm}(O:Bh)(hit:Vy)(h:s.heap.get? d=So od)(j:Ec)(I:es[i]? =No)
  (L:∀B,(∀b o,b≠it->s.heap.get? b=So o->B.get? b=So o)->Q No {s with heap:=B}):
  wpAny Au A Dw Q E s:=by
 obtain⟨r,g,z,u,q⟩:=s;have l:Shared.TypeIs ⟨r,g,z,u,q⟩ B8 "dict_itemiterator":=Qd8;have own:Builtin.Dict_items.ownsTuple "dict_itemiterator"=To:=by decide
 unfold pyNext;refine Za (nE (ZM (name:=oS "__next__") l eQ (ZD eQ l aU ?_ Vi)));refine Za (Zb (Za (Za ?_)));refine Za (fQ l (Zb (Za (mG hit rfl ?_))));simp only[own,if_true];show wpAny _ _ (if Fb=To then _ else _) _ _ _;rw[if_neg (show¬(Fb=To)from ZH)];refine Za (Zb (Za (vJ h j ?_)));rw[if_neg 'j'];refine Za (Zb (Za (lJ h j ?_)));rw[if_neg 'j'];refine Zb ?_;simp only[show¬((i:Int)<0)from by lia,ZF,qF,I];refine Za (Za (fQ l (Zb ?_)));show wpAny _ _ (setField B8 2 .none>>=_) _ _ ⟨r,g,z,u,q⟩;refine Za (qC hit Ad λC P f=>?_);replace f:Heap.SameBut it r C:=f;show wpAny _ _ (newExc Nh []>>=_) _ _ ⟨C,g,z,u,q⟩;refine Za ?_;simp only[newExc,newTuple];refine Za (ZJ (Za (m:=firstArgMember _ _) (wpAny_of_eq (a:=Xx) (by first|rfl|(simp only[firstArgMember];rfl)) (ZJ ?_ (by size_fits)))) (by size_fits));delta raiseNew;refine Za (wpAny_handled ?_);rw[show A.in1.handled=No from O];refine Za (Zb (wpAny_throw ?_));refine Za (nF (T:="StopIteration") (b:=To) F6 gM ?_);exact Zb (L _ ((f.extBut.push _).push _))
end
def KR(H:Hp)(d:D)(v:V):Prop:=(∃c,d=keyV c/\v=kV c)\/∃c,d=uI c/\KH H (.t c) v
def KR.rep{d:D}{v:V}(h:KR H d v):Rep K H d v:=by
 rcases h with⟨c,rfl,rfl⟩|⟨c,rfl,h⟩
 ·cases c<;>rfl
 ·exact JrT (.t c) h
def KR.hid{L:A9}{d:D}{v:V}(j:Qcy)(h:KR H d v):KR Bm d v:=by
 rcases h with h|⟨c,e,h⟩
 ·exact .inl h
 ·refine .inr ⟨c,e,KH.keep (λb xs q=>?_) _ h⟩;rw[Jt λz=>?_]
  ·exact q
  ·obtain⟨o,f,g⟩:=j b z;rw[q]at f;cases f;exact g
def Jjr{Q:Ay}(l:s.heap.get? d=So od)(j:od.cls=.type "dict")(g:(d==sysModules)=Fo)
  (h:Q Fi {s with heap:=s.heap.push {cls:=.type "dict_items",data:=.fields #[.ref d]}}):wpAny Au A (call (.builtin "dict.items") [.ref d]) Q E s:=by have f:s.TypeIs D0 "dict":=⟨od,l,j⟩;refine ZD F.slot_dict_items f F.entry_dict_items ?_ (F.args_dict_items_1 _);unfold Builtin.«dict.items»;refine Za ?_;unfold Builtin.Dict.noArgs;refine Za (uV f ?_);show wpAny _ _ (pure d) _ _ s;refine Zb ?_;show wpAny _ _ (Builtin.Dict.showsAll d>>=_) _ _ s;unfold Builtin.Dict.showsAll;rw[if_neg (by rw[g];exact ZH)];exact Za (Zb (Za (ZJ (Zb FV))))
theorem Jkr{v:Addr}{Q:Ay}(g:s.heap.IsItemsView v d)(l:s.heap.get? d=So od)(f:Ec)
  (q:Q Fi {s with heap:=s.heap.push {cls:=.type "dict_itemiterator",data:=.fields #[.none,.bool Fo,.ref d,.int 0 0,.int Xw 0,.int ep 0,.none,.none]}}):wpAny Au A (pyIter (.ref v)) Q E s:=by
 obtain⟨r,j,m,h⟩:=id g;have own:Builtin.Dict_items.ownsTuple "dict_itemiterator"=To:=by decide
 refine wL g.typeIs eD (ZD eD g.typeIs F.entry_dict_items_iter ?_ (F.args_dict_items_iter_1 _));unfold Builtin.«dict_items.__iter__»;refine Za (Zb (Za ?_));unfold Builtin.Dict_items.dictOf;refine Za (ZS j h (x:=.ref d) rfl (Zb (Za ?_)));unfold Builtin.Dict_items.newIterator;refine Za (vJ l f (Za (lJ l f ?_)));simp only[own,if_true];refine ZJ (Zb ⟨_,rfl,"dict_itemiterator",_,F6,Z4,?_⟩) (by simp only[sizeOk,Builtin.Dict_items.ownedTupleFields,Zo,Zn,Zk,rD,ZG];lia);simpa[rawInt,Builtin.Dict_items.ownedTupleFields]using q
def DKo(H:Hp)(d:Addr)(t:Bool)(o:Obj)(ks:Ak)(xs:Av):Prop:=match t with
 |true=>∃kvs:List (List (KTr Yk)×V),H d=So (.frz o BA)/\ks=kvs.map (λp=>uI p.1)/\xs=kvs.map (·.2)
 |false=>∃kvs:List (L2.Key×V),H d=So (.frz o AN)/\ks=kvs.map (λp=>keyV p.1)/\xs=kvs.map (·.2)
def DKo.of(h:DK H d t To ks xs):∃o,DKo H d t o ks xs:=by cases t<;>obtain⟨f,⟨o,q⟩,g,j⟩:=h<;>exact⟨o,f,q,g,j⟩
def DKo.same{W:Hp}(s:Ca)(h:Hm):DKo W d t o ks xs:=by cases t<;>obtain⟨f,q,g,j⟩:=h<;>exact⟨f,s _ _ q,g,j⟩
def DKo.inj{H:Hp}{d:Addr}{t:Bool}{o z:Obj}{ks g:Ak}{xs f:Av}(h:Hm)(h':DKo H d t z g f):ks=g/\xs=f:=by cases t<;>obtain⟨B,q,C,u⟩:=h<;>obtain⟨r,m,l,j⟩:=h'<;>rw[q]at m<;>cases m<;>exact⟨C.trans l.symm,u.trans j.symm⟩
def DKo.len(h:Hm):AC=Ah:=by cases t<;>obtain⟨f,_,rfl,rfl⟩:=h<;>simp
def Iti (K:Aj) (t:Bool) (d:Addr) (o:Obj):It:=
 ⟨λi H=>∃ks xs,DKo H d t o ks xs/\i<Ah,
  λi H x W=>∃T f y,H T=No/\x=.ref T/\W=upd H T (.tup [f,y])/\∀ks xs,DKo H d t o ks xs->xs[i]? =So y/\∃k,ks[i]? =So k/\KR H k f,
  λi H=>∃ks xs,DKo H d t o ks xs/\xs.length=i⟩
def Jxn:ItOk IA:=λL i H x W g⟨T,r,y,h,z,j,B⟩=>by
 have f:=Jaw g h
 refine⟨T,r,y,by rw[Jt f];exact h,z,by rw[j,yZ f],λks xs q=>?_⟩
 obtain⟨l,k,u,m⟩:=B ks xs (q.same hid_same)
 exact⟨l,k,u,m.hid g⟩
theorem zU{f g:Type}{R:f->g->Prop}:∀{xs:List f}{us:List g}{i:Nat}{x:f},Paired R xs us->xs[i]? =So x->∃u,us[i]? =So u/\R x u
 |_,_,_,_,.nil,e=>by simp at e
 |_,_,0,_,.cons r t,e=>by simp at e;subst e;exact HN
 |_,_,i+1,_,.cons r t,e=>by
  obtain⟨u,j,h⟩:=zU (i:=i) t (by simpa using e)
  exact⟨u,by simpa using j,h⟩
theorem rT(I:BU)(h:Hm):s.heap.get? d=So o/\o.cls=.type "dict"/\o.dict=No/\(d==sysModules)=Fo/\∃es ep,YC=.dict es ep/\es.size=Ah/\
  ∀i,i<Ah->∃e k kv y,es[i]? =So e/\ks[i]? =So k/\xs[i]? =So y/\RelV y Yj/\RelV kv Ys/\KR H k kv:=by
 cases t with
 |true=>
  obtain⟨kvs,q,rfl,rfl⟩:=h;obtain⟨B,g1,O,ys,r,o',es,ep,g,l,F,g7,P⟩:=I.hok d _ q;rw[B]at g;cases g;have C:es.size=AV:=by have:=kA YE g7;rw[Zi,<-rH r]at this;simpa using this
  refine⟨B,l.1,l.2.1,O,es,ep,F,by simp[C],λi L=>?_⟩;have f:i<AV:=by simpa using L
  obtain⟨⟨k,b,v⟩,U,e2,W,e4⟩:=zU r (ZC f);have ee:es[i]? =So (entryOfKey RF (k,b,v)):=by rw[<-jI,g7,xB,U];rfl
  refine⟨_,uI (kvs[i]).1,.ref b,(kvs[i]).2,ee,by simp[f],by simp[f],e4,rfl,.inr ⟨_,rfl,W.1⟩⟩
 |false=>
  obtain⟨kvs,q,rfl,rfl⟩:=h;obtain⟨B,g1,O,ys,r,o',es,ep,g,l,F,g7,P,g9⟩:=I.hok d _ q;rw[B]at g;cases g;have C:es.size=AV:=by have:=P.length;rw[<-rH r]at this;simpa using this
  refine⟨B,l.1,l.2.1,O,es,ep,F,by simp[C],λi L=>?_⟩;have f:i<AV:=by simpa using L
  obtain⟨⟨k,v⟩,U,e2,W⟩:=zU r (ZC f);have m:i<es.size:=by lia
  obtain⟨hk,hv⟩:=P.get? (e:=es[i]) (by simp[m]) U;have rk:RelV (kV (kvs[i]).1) es[i].key:=by
   rw[e2];rcases Js hk with⟨j,t,u,z⟩|⟨y,t,u,z⟩|⟨u,z⟩
   ·rw[u,z];exact GQ
   ·rw[u,z];exact GQ
   ·rw[u,z];rfl
  refine⟨es[i],keyV (kvs[i]).1,kV (kvs[i]).1,(kvs[i]).2,by simp[m],by simp[f],by simp[f],by rw[hv];exact W,rk,.inl Qd9⟩
def JlV:entryFor table "dict_itemiterator.__iter__"=So Builtin.«dict_keyiterator.__iter__»:=entryFor_alias (id':="dict_keyiterator.__iter__") (by kernel_rfl) (by first|rfl|decide+kernel) Ab (by kernel_rfl)
def JkI{P:Ba}{C:CF}{k:Nat}{L:Pos}(t:Bool)(d it:Addr)(o:Obj)(es:GL)(ep:Nat)(g:o.data=.dict es ep):
  Turn P w K (.Tuple C k L) IA [it] it (λi h=>∃ok l,IsItemIter h it d i Xw ep ok l)where
 mem:=by simp
 obj:=λi h⟨ok,l,f⟩b m=>by
  have e:b=it:=by simpa using m
  subst e
  exact⟨_,f,λv z=>by cases z⟩
 keep:=λi h h'⟨ok,l,f⟩q=>⟨ok,l,q it Ad _ f⟩
 item:=by
  rintro X hP hw hK hc i Y s Z H E I W⟨ok,l,f⟩⟨ks,xs,hq,hi⟩;subst hP hw hK;obtain⟨g0,_,_,_,es',ep',O,g2,g3⟩:=rT I hq;rw[g]at O;cases O;obtain⟨e,k',kv,y,e1,e2,e3,e4,e5,e6⟩:=g3 i hi;refine Jre f g0 g e1 λh' he u hk=>⟨_,rfl,wpAny_letOwnedTupleGo_items he λh2 he2 j=>?_⟩;have U:it<Aa:=Zj f;have r:∀b o,b∉[it]->s.heap.get? b=So o->h2.get? b=So o:=λb o m q=>by have h1:b≠it:=λz=>m (by simp[z]);exact(j.2 b h1).trans (hk b o h1 q)
  have B:h2.get? Aa=So {cls:=.type "tuple",data:=.seq #[e.key,Yj]}:=(j.2 _ (rC U)).trans u;have hfr:H Aa=No:=I.hok.fresh (Zh _);have I2:L2.Inv X Y Z (upd H Aa (.tup [kv,y])) {s with heap:=h2,toks:=Xv}:=
   Jca I W r (Zh _) ⟨⟨by rw[ZG];show 2<=_;decide,λo q=>by rw[B]at q;cases q;rfl⟩,[e.key,Yj],.cons e5 (.cons e4 .nil),_,B,rfl,_,rfl⟩
  refine⟨.ref Aa,_,I2,rfl,⟨Aa,kv,y,hfr,rfl,rfl,λks' xs' hq'=>?_⟩,⟨_,_,he2⟩,λb m=>?_⟩
  ·obtain⟨rfl,rfl⟩:=hq.inj hq';exact⟨e3,k',e2,e6⟩
  ·have e:b=it:=by simpa using m
   subst e;rw[Jb (Zu U)];exact(W b Ad).1
 done:=by
  rintro X hP hw hK hc i Y s Z H E I W⟨ok,l,f⟩⟨ks,xs,hq,hi⟩;subst hP hw hK;obtain⟨g0,_,_,_,es',ep',O,g2,g3⟩:=rT I hq;rw[g]at O;cases O;exact JsO L7 f g0 g (by simp[g2,hi]) λh' hx'=>⟨rfl,rO (tk:=Xv) I W λb o m q=>hx' b o (λz=>m (by simp[z])) q⟩
 self:=λA i s Q E⟨ok,l,f⟩h=>by
  have u:s.TypeIs B8 "dict_itemiterator":=HM;refine wL u bK (ZD bK u JlV ?_ (F.args_dict_itemiterator_iter_1 _));show wpAny _ _ (ret B8) _ _ s;exact Zb ⟨_,rfl,"dict_itemiterator",_,u,Z4,h⟩
theorem JjU{vs:Ak}(h1:Hm)(B:Reps K H vs xs):Walk K IA H '井':=by
 intro W sm;have l:=B.length;have l2:=h1.len;have g:=h1.same sm;have j:=B.mono sm;have lz:∀(a b:Ak),Yo=b.length->(zipD a b).length=b.length:=by
  intro a;induction a with
  |nil=>intro b e;cases b with
   |nil=>rfl
   |cons _ _=>simp at e
  |cons x a m=>intro b e;cases b with
   |nil=>simp at e
   |cons y b=>simp[zipD,m b (by simpa using e)]
 have gz:∀(a b:Ak)(i:Nat)(x y:D),a[i]? =So x->b[i]? =So y->(zipD a b)[i]? =So (.tup [x,y]):=by
  intro a;induction a with
  |nil=>intro b i x y e;simp at e
  |cons z a m=>intro b i x y h f;cases b with
   |nil=>simp at f
   |cons u b=>cases i with
    |zero=>simp at h f;subst h f;rfl
    |succ i=>simp only[lF]at h f;simp only[zipD,lF];exact m b i x y h f
 have q:'井'.length=Ah:=by rw[lz ks vs 'g'];lia
 refine⟨λi I=>⟨ks,xs,g,by lia⟩,⟨ks,xs,g,q.symm⟩,λi x O I⟨T,kv,y,C,h,f,U⟩=>?_⟩;subst h;subst f;obtain⟨g1,k,g2,g3⟩:=U ks xs g;obtain⟨r,F,rd⟩:=j.get' g1;obtain⟨P,L⟩:=wG (K:=K) (J:=[k,r]) (xs:=[kv,y]) C ⟨_,_,rfl,g3.rep,_,_,rfl,rd,rfl⟩;exact⟨P,_,gz ks vs i k r g2 F,L⟩
section
variable{U:Ag}{ap tp:Pos}{elts:CF}{kk:Nat}
def JoV(ha:AO)(L:VR)(hl:(Qbo==XH)=To):
  PI X M0 PJ (tW X U (.un .items pa)):=by
 rintro Y s Z H R I⟨O,r,h⟩;refine yL L rfl hl kM eA eB (thn (ha Y s Z H (λv W=>∃t ks vs d xs,v=.ref d/\DK W d t To ks xs/\Reps X.K W vs xs/\Same H W/\∀C F,Same H F->Walk X.K C F (zipD ks vs)->ItOk C->R C F) I Dc) λu s1 zz=>?_)
 ·refine(Rs.gB.mp h).imp λdd m v W s1 rv=>?_;cases dd with
  |dct t z ks vs=>
   cases z with
   |true=>obtain⟨J,e,B⟩:=m;cases e;obtain⟨d,xs,rfl,P,l⟩:=rv;exact⟨t,ks,vs,d,xs,rfl,P,l,s1,B⟩
   |false=>exact(show False from m).elim
  |_=>exact(show False from m).elim
 obtain⟨v,H1,j,ru,t,ks,vs,d,xs,e1,P,l,s2,B⟩:=zz;subst e1;cases(show u=Value.ref d from ru);obtain⟨o,q3⟩:=DKo.of P;obtain⟨g,gc,gd,gm,es,ep,g1,g2,g3⟩:=rT j q3;refine⟨⟨o,g,gc⟩,λb e=>by cases e;exact⟨o,g,gd⟩,?_⟩;refine kI rfl (PySem.evalArgs_none ?_);refine Jjr g gc gm ?_;refine Jkr CP (Zd _ g) g1 ?_;have kp:∀b ob,s1.heap.get? b=So ob->((s1.heap.push {cls:=.type "dict_items",data:=.fields #[.ref d]}).push {cls:=.type "dict_itemiterator",data:=.fields #[.none,.bool Fo,.ref d,.int 0 0,.int Xw 0,.int ep 0,.none,.none]}).get? b=So ob:=λb ob q=>Zd _ Qc2;refine⟨_,[_],_,_,H1,rfl,j.kept (t':=X6) kp,JkI t d _ o es ep g1,Qi,λb L=>?_,B _ _ s2 (JjU q3 l) Jxn⟩;have f:Ax<=b:=by
  have e:b=(s1.heap.push {cls:=.type "dict_items",data:=.fields #[.ref d]}).objs.size:=by simpa using L
  rw[e,ZL];exact mC _
 exact j.fpOk f (j.hok.fresh f)
end
def dk{p:Prop}(h:'б' p Kb):p:=h
section
variable{it:Addr}
def Jra{Q:Ay}(j:(d==sysModules)=Fo)(h:s.heap.get? d=So od)(l:od.cls=.type "dict")(f:Ec)
  (m:Q Fi {s with heap:=s.heap.push {cls:=.type "dict_keyiterator",data:=.fields #[.ref d,.int 0 0,.int Xw 0,.int ep 0]}}):
  wpAny Au A (pyIter D0) Q E s:=by have g:s.TypeIs D0 "dict":=⟨_,h,l⟩;refine wL g QcS (ZD QcS g F.entry_dict_iter ?_ (F.args_dict_iter_1 _));unfold Builtin.«dict.__iter__»;refine Za ?_;unfold Builtin.Dict.dictSlotNone;refine Za (uV g (show wpAny _ _ (pure (Value.ref d)) _ _ s from Zb ?_));show wpAny _ _ (Builtin.Dict.showsAll d>>=_) _ _ s;unfold Builtin.Dict.showsAll;rw[if_neg (by rw[j];exact ZH)];refine Za (Zb (Za (vJ h f (Za (lJ h f ?_)))));refine Za (ZJ (Zb ⟨_,rfl,"dict_keyiterator",_,F6,F.slot_dict_keyiterator_next.lookup,?_⟩));simpa[rawInt]using m
theorem JpS{e:DictEntry}{Q:Dm}(hit:UT)(h:s.heap.get? d=So od)(j:Ec)(r:es[i]? =So e)
  (z:∀q,q.IsKeyIter it d Bw Xw ep->Heap.SameBut it VU q->Q (So Ys) {s with heap:=q}):wpAny Au A Dw Q E s:=by
 obtain⟨o,m,u,l⟩:=id hit;have g:Builtin.Dict_items.ownsTuple "dict_keyiterator"=Fo:=by decide
 unfold pyNext;refine Za (nE (ZM (name:=oS "__next__") XU nQ (ZD nQ XU bL ?_ Vd)));refine Za (Zb (Za (Za ?_)));refine Za (zP XU (Zb (Za (mG m l ?_))));simp only[g,Zl,ZF];show wpAny _ _ (if Fb=To then _ else _) _ _ s;rw[if_neg (show¬(Fb=To)from ZH)];refine Za (Zb (Za (vJ h j ?_)));rw[if_neg 'j'];refine Za (Zb (Za (lJ h j ?_)));rw[if_neg 'j'];refine Zb ?_;simp only[show¬((i:Int)<0)from by lia,ZF,qF,r];refine Za (Za (zP XU (Zb (Za (wpAny_isOneOf_keyiter XU ?_)))));show wpAny _ _ (setField B8 1 (rawInt ((i:Int)+1))>>=_) _ _ s;refine Za (sC m l Ad ?_);have f:(s.heap.update it (Obj.mapFields (·.setIfInBounds 1 (rawInt ((i:Int)+1))))).IsKeyIter it d Bw Xw ep:=
  ⟨_,ZX _ m (wV (yJ l _)),(Obj.cls_mapFields ..).trans u,by rw[yJ l];simp[rawInt]⟩
 refine Za (wA (Za (wpAny_isOneOf_keyiter (s:={s with heap:=s.heap.update it (Obj.mapFields (·.setIfInBounds 1 (rawInt ((i:Int)+1))))}) f.typeIs ?_)));show wpAny _ _ (pure Ys) _ _ _;exact Zb (Zb ⟨_,rfl,Zb (z _ f (sF ..))⟩)
theorem JtY{Q:Dm}(z:Bh)(hit:UT)(g:s.heap.get? d=So od)(h:Ec)(r:es[i]? =No)
  (u:∀q,Heap.ExtBut it VU q->Q No {s with heap:=q}):wpAny Au A Dw Q E s:=by
 obtain⟨o,j,B,l⟩:=id hit;have f:Builtin.Dict_items.ownsTuple "dict_keyiterator"=Fo:=by decide
 unfold pyNext;refine Za (nE (ZM (name:=oS "__next__") XU nQ (ZD nQ XU bL ?_ Vd)));refine Za (Zb (Za (Za ?_)));refine Za (zP XU (Zb (Za (mG j l ?_))));simp only[f,Zl,ZF];show wpAny _ _ (if Fb=To then _ else _) _ _ s;rw[if_neg (show¬(Fb=To)from ZH)];refine Za (Zb (Za (vJ g h ?_)));rw[if_neg 'j'];refine Za (Zb (Za (lJ g h ?_)));rw[if_neg 'j'];refine Zb ?_;simp only[show¬((i:Int)<0)from by lia,ZF,qF,r];refine Za (Za (zP XU (Zb ?_)));show wpAny _ _ (setField B8 0 .none>>=_) _ _ s;refine Za (sC j l Ad ?_);show wpAny _ _ (newExc Nh []>>=_) _ _ _;refine Za ?_;simp only[newExc,newTuple];refine Za (ZJ (Za (m:=firstArgMember _ _) (wpAny_of_eq (a:=Xx) (by first|rfl|(simp only[firstArgMember];rfl)) (ZJ ?_ (by size_fits)))) (by size_fits));delta raiseNew;refine Za (wpAny_handled ?_);rw[show A.in1.handled=No from z];refine Za (Zb (wpAny_throw ?_));refine Za (nF (T:="StopIteration") (b:=To) F6 gM ?_);exact Zb (u _ (((sF ..).extBut.push _).push _))
def JlP(F:Bh)(I d:Addr)(r:d≠I)(od:Obj)(es:GL)(ep:Nat)(m:Ec):
  Walks prog w A I [I,d] [I] Xw (λi v=>∃e,es[i]? =So e/\v=Ys) (λi h=>h.IsKeyIter I d i Xw ep/\h.get? d=So od)where
 sub:=λb g=>by simp at g;simp[g]
 frame:=λ_ _ _ f B=>⟨f.1.at λo e=>B I Ad o e,B d Ad _ f.2⟩
 item:=λi s Q E C f j=>JpS f.1 f.2 m (e:=es[i]) (by simp[C]) λu q l=>j _ u Xv ⟨es[i],by simp[C],rfl⟩ ⟨q,l.extBut d od r f.2⟩ λb o g e=>l.extBut b o (λh=>g (by simp[h])) e
 done:=λs Q E f j=>JtY F f.1 f.2 m Ad λu z=>j u Xv λb o g e=>z b o (λh=>g (by simp[h])) e
 self:=λ_ _ _ _ f j=>wpAny_pyIter_keyiter f.1 j
end
section
variable[DecidableEq κ]{kd:HeapKind prog w κ}{xs:List (κ×Addr×Value)}
def Jqm{Q:E5}(g:s.TypeIs D0 "dict")(h:Q Fo s):wpAny Au A (Builtin.List.listLengthHint D0) Q E s:=by unfold Builtin.List.listLengthHint;refine Za (oJ g F.slot_dict_len.lookup ?_);generalize hid:("dict.__len__":String)=id0;wp_delta;rw[show splitId id0=So ("dict","__len__")from by subst hid;decide+kernel];subst hid;refine Za (nF (T:="dict") (b:=To) g (by rw[uO];kernel_rfl) ?_);refine gI Pe (λ_=>?_);refine gI (λ_=>?_) Pd;exact Za QdM
theorem Jlj{R:Ke}(hh:Bh)(hd:(d==sysModules)=Fo)(O:s.heap.get? d=So od)(hc:od.cls=.type "dict")(r:Ec)(hlen:es.size<=2^24)
  (S:Addr) (z:An) (B:Nat) (hS:s.heap.get? S=So {cls:=.type "list",data:=.seq #[] B})
  (hR:∀h' tk j P,(∀b o,b≠S->s.heap.get? b=So o->h'.get? b=So o)->h'.get? S=So {cls:=.type "list",dict:=No,data:=.seq j P,slots:=#[]}->
   ItemsOf (λi v=>∃e,es[i]? =So e/\v=Ys) j es.size->R (.ok (.ret z)) {s with heap:=h',toks:=tk}):
  wpAny Au XI (Builtin.List.listExtendWith (.ref S) D0 z)
   (λfin I=>match fin with|.done f=>R (.ok f) I|.again P=>P.quiet=To/\codeAny Au A P R I) (λe I=>R (.error e) I) s:=by
 have C:S≠d:=λe=>by rw[e,O]at hS;cases hS;cases r
 have L:S≠Aa:=Zu (Zj hS);have hdI:d≠Aa:=Zu (Zj O);have hSf:S∉[Aa,d]:=λhm=>by
  rcases Zf.mp hm with e|e
  ·exact L e
  ·exact C (yB.mp e)
 have W9:=(JlP (prog:=prog) (w:=w) (A:=XI) hh Aa d hdI od es ep r).toS;have U:∀(h:Heap)(u tk:Nat),h.IsKeyIter Aa d 0 Xw ep->(∀b o,b≠S->s.heap.get? b=So o->h.get? b=So o)->
   h.get? S=So {cls:=.type "list",data:=.seq #[] u}->codeAny Au A (.builtin "list.extend.loop" ⟨[.ref S,.ref Aa,z],[]⟩) R {s with heap:=h,toks:=tk}:=by
  intro h u tk hit hk g;refine codeAny_extend_loopS W9 (by rw[ZG];lia) S hSf z Xw 0 _ #[] u rfl (vB _) ⟨hit,hk d _ C.symm O⟩ g (ItemsOf.nil _) λI j P hm hS' W=>?_;rw[Moved.eq_with hm];refine hR I.heap I.toks j P (λb o hb e=>hm.heap b o (λm=>?_) (hk b o hb e)) hS' W;rcases Zf.mp m with e'|m
  ·exact hb e'
  ·exact absurd (Zj e) (by rw[yB.mp m];exact oQ _)
 unfold Builtin.List.listExtendWith;refine Za (jF (T:="dict") ⟨_,O,hc⟩ ?_);have h1:Builtin.List.listSameRef (.ref S) D0=Fo:=by simp[Builtin.List.listSameRef,C]
 have h2:(Value.type "dict"==Value.type "list")=Fo:=by decide
 have h3:(Value.type "dict"==Value.type "tuple")=Fo:=by decide
 simp only[h1,h2,h3,qH,Zl,ZF];refine Za (Jra hd O hc r ?_);refine Za (wA (Jqm (d:=d) ⟨_,Zd _ O,hc⟩ ?_));have l:(s.heap.push {cls:=.type "dict_keyiterator",data:=.fields #[.ref d,.int 0 0,.int Xw 0,.int ep 0]}).IsKeyIter Aa d 0 Xw ep:=CP;have g:=Zd {cls:=.type "dict_keyiterator",data:=.fields #[.ref d,.int 0 0,.int Xw 0,.int ep 0]} hS;refine gI (λ_=>?_) (λ_=>Zb ⟨iF iP _,U _ B _ l (λb o _ e=>Zd _ e) g⟩);refine Za (kB ?_);refine Za ?_;show wpAny _ _ (updateSeq S (·.push .none)>>=λ_=>updateSeq S (·.pop)) _ _ _;refine Za (nJ g rfl ?_);have q:=ZX (Obj.mapSeq (·.push Xx)) g rfl;refine nJ (hz:=by seq_fits) q rfl ?_;have F:=ZX (Obj.mapSeq (·.pop)) q rfl;refine Zb ⟨iF iP _,U _ _ _ (l.at λo e=>?_) (λb o hb e=>?_) F⟩
 ·exact(ZO _ _ L).trans ((ZO _ _ L).trans e)
 ·exact(ZO _ _ E2).trans ('Э'.trans EH)
end
def rk (ks:List cT) (k:AU):Nat:=(ks.filter λy=>lexI y k).length
open PySem.SeqAt (EqAt)
end Rd
namespace HT
open PySem PyProof.Rows
end HT
namespace Rd
open PySem PySem.Spec PyProof.Rows L2 Pu
variable{X:Cx}{K:Aj}{a b:Expr}{pa pb:Px}{pos apos:Pos}{N:Ac}{w:AQ}{H:Hp}{G:Gw}{nm:Bj}{s:Al}{c:Nat}{A:Bv}{prog:Ba}
open PySem.SeqAt (EqAt)
theorem zT(s:Str):∀e:List Str,(Str.join s e).cps.toList=Jr XS (e.map (·.cps.toList))
 |[]=>rfl
 |[x]=>rfl
 |x::y::r=>by
  have:=zT s (y::r)
  show((x++s++Str.join s (y::r)).cps).toList=_
  rw[Str.cps_append,Str.cps_append,Array.toList_append,Array.toList_append,this,List.append_assoc]
  rfl
def yK{x:Str}{l:As}(h:x.cps.toList=l):x=mkS l:=StrLaws.mk_of_toList h
theorem JdO:∀{l:As},c∉l->Jv c l=[l]
 |[],_=>rfl
 |x::l,h=>by
  have f:x≠c:=λe=>h (by simp[e])
  rw[Jv,if_neg f,JdO λz=>h (by simp[z])]
  rfl
theorem JeW(l:As):∀{a:As},c∉a->Jv c (a++c::l)=a::Jv c l
 |[],_=>by simp[Jv]
 |x::a,h=>by
  have f:x≠c:=λe=>h (by simp[e])
  rw[rB,Jv,if_neg f,JeW l λz=>h (by simp[z])]
  rfl
theorem nL:∀{ls:DD},ls≠[]->(∀l∈ls,c∉l)->Jv c (Jr [c] ls)=ls
 |[],h,_=>absurd rfl h
 |[x],_,h=>JdO (h x Ad)
 |x::y::r,_,h=>by
  show Jv c (x++([c]++Jr [c] (y::r)))=_
  rw[List.singleton_append,JeW _ (h x Ad),nL 'j' λl e=>h l (by simp[e])]
def Jqt(x y:Str):Txt.split x y≠[]:=by
 unfold Txt.split;split
 ·simp
 ·split
  ·simp
  ·rw[StrLaws.partsBetween_eq];obtain⟨p,r,e⟩:=StrLaws.partsFrom_ne x Yn 0 (Builtin.Str.occurrences x y 0 Xy (Xy+1));rw[e];simp
def Jkm(x:Str)(c:Nat):(Txt.split x ⟨#[c]⟩).map (·.cps.toList)=Jv c XG:=by
 have e:=kA (·.cps.toList) (StrLaws.join_split x ⟨#[c]⟩);simp only[zT]at e;rw[<-e,nL (by simp[Jqt]) λl f=>by
  obtain⟨p,g,rfl⟩:=Zv.mp f;exact StrLaws.split_free x c p g]
theorem JcM(c:Nat):∀l:List Nat,(Jv c l).length<=XN+1
 |[]=>by simp[Jv]
 |x::l=>by
  have:=JcM c l
  unfold Jv
  split
  ·simp;lia
  ·cases h:Jv c l with
   |nil=>simp[yQ]
   |cons p r=>rw[h]at this;simp[yQ]at this⊢;lia
theorem JhB:∀e:List Str,Reps K H (e.map XO) (e.map YQ)
 |[]=>rfl
 |x::e=>⟨_,_,rfl,rfl,JhB e⟩
theorem JjS:∀l:List (Str×Tok),Vals ((l.map (·.1)).map YQ) (strValues l)
 |[]=>.nil
 |p::l=>.cons ⟨p.2,rfl⟩ (JjS l)
theorem JdK:∀{xs:Ac}{vs:Av}{us:AE},Reps K H (xs.map XO) vs->Vals vs us->∃l:List (Str×Tok),us=strValues l/\l.map (·.1)=xs
 |[],vs,us,h,v=>by
  cases h
  have:=v.length
  rw[fW.mp this.symm]
  exact QcI
 |x::xs,vs,us,h,v=>by
  obtain⟨y,r,rfl,j,f⟩:=h
  cases j
  cases v with
  |cons i g=>
   obtain⟨t,rfl⟩:=i
   obtain⟨l,rfl,e⟩:=JdK f g
   exact⟨(x,t)::l,rfl,by simp[e]⟩
theorem JgA(e:As):∀ls:List C9,(ls.map (·.length)).sum+BM*e.length<=(Jr e ls).length+e.length
 |[]=>by simp[Jr]
 |[x]=>by simp[Jr]
 |x::y::r=>by
  have:=JgA e (y::r)
  simp only[Jr,Zg,iB,Zk,Zn,Nat.add_mul,Nat.one_mul]at this⊢
  lia
theorem Jmd{s:Str}{xs:Ac}(h1:s.length<=1000)(f:(Jr XS (xs.map (·.cps.toList))).length<=20000):Builtin.Str.tooLong (xs.toArray.foldl (·+·.length+s.length) 0)=Fo:=by rw[StrLaws.joinTotal];have:=JgA XS (xs.map (·.cps.toList));rw[Zt,Zi]at this;have e:(xs.map (List.length∘λx:Str=>XG))=xs.map (·.length):=rG λx _=>ZQ;rw[e,show s.cps.toList.length=s.length from ZQ]at this;unfold Builtin.Str.tooLong;rw[oE,ZG];lia
def Jvm:MtR X "str.join" (λx B H Q=>∃y,B=[y]/\rD2 X .joinS x y H Q):=by
 rintro Y s Z H x B v us Q I L rv⟨y,e,dx,dy,M,C,h⟩;subst e;obtain⟨u,rfl,E⟩:=xA rv;cases dx with
 |str z=>
  have W:x=V.str z:=M;subst W;obtain⟨t,rfl⟩:=L;cases dy with
  |lst J=>
   simp only[op2]at h;split at h
   ·rename_i P m;split at h
    ·rename_i i;obtain⟨a,U,rfl,q,g⟩:=C;cases E;obtain⟨r,o,pl,_⟩:=I.list q;rw[sO m]at g;obtain⟨l,rfl,j⟩:=JdK g o;subst j;have f:=Jmd i.1 i.2;refine fB Z5 GW QcT P7 (meets_str_join_list z t a l f) ⟨Ye,post_join l U0⟩;refine⟨.str (Txt.join z (l.map (·.1))),H,I.tok _,AS,?_⟩;rw[show Txt.join z (l.map (·.1))=mkS (Jr XZ ((l.map (·.1)).map (·.cps.toList)))from yK (by rw[<-zT];exact kA (·.cps.toList) Uo)];exact Out.now h rfl
    ·exact h.elim
   ·exact h.elim
  |tup J=>
   simp only[op2]at h;split at h
   ·rename_i P m;split at h
    ·rename_i i;obtain⟨a,U,rfl,q,g⟩:=C;cases E;obtain⟨r,ob,nb,o,o1,O,_,o3,_⟩:=I.tupleD q;rw[sO m]at g;obtain⟨l,rfl,j⟩:=JdK g o;subst j;have f:=Jmd i.1 i.2;refine fB Z5 GW QcT P7 (meets_str_join_tuple z t a l f) ⟨⟨ob,nb,o1,O,o3⟩,post_join l U0⟩;refine⟨.str (Txt.join z (l.map (·.1))),H,I.tok _,AS,?_⟩;rw[show Txt.join z (l.map (·.1))=mkS (Jr XZ ((l.map (·.1)).map (·.cps.toList)))from yK (by rw[<-zT];exact kA (·.cps.toList) Uo)];exact Out.now h rfl
    ·exact h.elim
   ·exact h.elim
  |_=>exact(show False from h).elim
 |_=>exact(show False from h).elim
def mtSS{id:Bg}{o:O2}{k:Str->Str->Rs D}(l:∀a b,op2 o a b=onSS a b k)
  (h:∀(Y:A8)(s:Al)(Z:Bl)(H:Hp)(Q:VK)(z w:Str)(t t':Tok),L2.Inv X Y Z H s->(k z w).Good Cu Az->wpAny AD X.A (PySem.call DA [.str z t,.str w t']) BP X.xe s):MtR X id (λx f H Q=>∃y,f=[y]/\rD2 X o x y H Q):=by rintro Y s Z H x f v E Q I i m⟨y,e,B,C,j,q,g⟩;subst e;obtain⟨u,rfl,r⟩:=xA m;rw[l]at g;obtain⟨z,w,rfl,rfl,g⟩:=Jhm g;cases j;cases q;obtain⟨t,rfl⟩:=i;obtain⟨t',rfl⟩:=r;exact h Y s Z H Q z w t t' I g
def Jlq{x y:Str}{t u:Tok}{Q E:Ay}(i:(Yn==0)=Fo)
  (h:∀l k,l.map (·.1)=Txt.split x y->Q Fi {s with heap:=s.heap.push {cls:=.type "list",data:=.seq (strValues l).toArray},toks:=k})
  (hsz:x.length<=sizeLine) (hsz2:(Txt.split x y).length<=sizeLine):
  wpAny Au A (PySem.call (.builtin "str.split") [.str x t,.str y u]) Q E s:=by
 cases f:(decide (Xy<Yn)||decide (Builtin.Str.strKind x<Builtin.Str.strKind y))
 ·cases g:(Builtin.Str.occurrences x y 0 Xy (Xy+1)).isEmpty
  ·have e:Txt.split x y=_:='Ӳ'.trans QbJ;rw[e]at hsz2;refine fB qP GW Y8 'ʡ' (meets_str_split_sep x y t u f i g hsz hsz2) ?_;show wants Q E _ {s with toks:=_,heap:=s.heap.push {cls:=.type "list",data:=.seq (strsFrom Xv (Builtin.Str.partsBetween x (Builtin.Str.occurrences x y 0 Xy (Xy+1)) Yn)).toArray}};rw[strsFrom_eq];exact h (numbered Xv _) _ ((numbered_texts _ _).trans ('Ӳ'.trans QbJ).symm)
  ·exact fB qP GW Y8 'ʡ' (meets_str_split_not_found x y t u f i g)
    (h [(x,t)] _ ('Ӳ'.trans (if_pos g)).symm)
 ·exact fB qP GW Y8 'ʡ' (meets_str_split_cannot_occur x y t u f)
   (h [(x,t)] _ (if_pos f).symm)
theorem Jrf:MtR X "str.split" (λx v H Q=>∃y,v=[y]/\rD2 X .splitS x y H Q):=mtSS CM λY s Z H Q z w t t' I h=>by
 split at h
 ·rename_i f
  obtain⟨f,q⟩:=f
  generalize w.cps.getD 0 0=c at h q
  have j:w=⟨#[c]⟩:=Str.ext' q
  subst j
  have g:=JcM c XZ
  rw[show z.cps.toList.length=z.length from ZQ,<-Jkm,Zi]at g
  refine Jlq rfl (λl k m=>?_) (Zq f (by rw[ZG];decide)) ?_
  ·have i:(Jv c XZ).map (λl=>D.str SN)=(l.map (·.1)).map XO:=by
    rw[<-Jkm,m,Zt];exact rG λx _=>kA XO (yK rfl).symm
   rw[i]at h;obtain⟨r,u⟩:=zG (K:=X.K) P6 (JhB (l.map (·.1)));have B:l.length<=20001:=by
    have:=kA YE m;rw[Zi]at this;lia
   refine⟨.ref Aa,_,I.laid (t':=k) SM (Zh _) (show ObjOk Xz X.w _ _ _ (.lst ((l.map (·.1)).map YQ))from⟨by rw[Zi,Zi,ZG];lia,strValues l,0,JjS l,Ze _ rfl⟩),rfl,h _ _ r u⟩
  ·rw[ZG];lia
 ·exact h.elim
theorem JkO(b:As):∀{a:As},c∉a->cutL c (a++c::b)=(a,So b)
 |[],_=>by simp[cutL]
 |x::a,h=>by
  have f:x≠c:=λe=>h (by simp[e])
  rw[rB,cutL,if_neg f,JkO b λz=>h (by simp[z])]
theorem Jie:∀{l:As},c∉l->cutL c l=(l,No)
 |[],_=>rfl
 |x::l,h=>by
  have f:x≠c:=λe=>h (by simp[e])
  rw[cutL,if_neg f,Jie λz=>h (by simp[z])]
theorem Juo:MtR X "str.partition" (λx xs H Q=>∃y,xs=[y]/\rD2 X .partS x y H Q):=mtSS CM λY s Z H Q z w t t' I h=>by
 split at h
 ·rename_i M
  obtain⟨M,U⟩:=M
  generalize w.cps.getD 0 0=c at h U
  have O:w=⟨#[c]⟩:=Str.ext' U
  subst O
  refine fB eJ GW F.entry_str_partition (F.args_str_partition_2 _ _) (meets_str_partition z ⟨#[c]⟩ t t' rfl (Zq M (by rw[ZG];decide))) ?_
  have tup:∀(a b d:Str)(l v m k:Tok),yG XZ c=.tup Nd->wants BP X.xe (.ok (.ret Fi)) {s with toks:=k,heap:=s.heap.push {cls:=.type "tuple",data:=.seq 'ǚ'.toArray}}:=λa b d l v m k e=>by
   rw[e]at h
   obtain⟨s1,q1⟩:=wG (K:=X.K) P6 (J:=Nd) (xs:=Nd) ⟨_,_,rfl,rfl,_,_,rfl,rfl,_,_,rfl,rfl,rfl⟩
   refine⟨.ref Aa,_,I.laid (t':=k) SM (Zh _) (show ObjOk Xz X.w _ _ _ (.tup Nd)from ?_),rfl,h _ _ s1 q1⟩
   have W:(s.heap.push {cls:=.type "tuple",data:=.seq 'ǚ'.toArray}).get? Aa=So {cls:=.type "tuple",data:=.seq 'ǚ'.toArray}:=Ze _ rfl
   exact⟨⟨by rw[ZG];show 3<=_;decide,λo q=>by rw[W]at q;cases q;rfl⟩,'ǚ',.cons AS K6,_,W,rfl,_,rfl⟩
  have f:∀i,StrLaws.At z ⟨#[c]⟩ cE i↔z.cps.toList[i]? =So c:=λi=>by
   have e:Builtin.Str.subAt z ⟨#[c]⟩ i=To↔z.cps.toList[i]? =So c:=by
    rw[StrLaws.subAt_eq];exact StrLaws.take1_drop
   constructor
   ·exactλh=>e.mp h.2
   ·intro h
    have hl:=(Zz.mp h).1;exact⟨by show i+1<=z.cps.size;rw[<-ZQ];lia,e.mpr h⟩
  rcases StrLaws.occ_head z ⟨#[c]⟩ 1 (Zh 1)with⟨P,g⟩|⟨i,r,P,j,g⟩
  ·rw[P]
   refine tup z Yf Yf t Xv Xv _ ?_;have E:c∉z.cps.toList:=λL=>by
    obtain⟨i,j⟩:=jP L;exact g i ((f i).mpr j)
   rw[yG,Jie E];rw[<-yK (x:=z) rfl];rfl
  ·rw[P]
   refine tup _ _ _ _ _ _ _ ?_;have j:=(f i).mp j;have C:=(Zz.mp j).1;have u:z.cps.toList=z.cps.toList.take i++c::z.cps.toList.drop Bw:=by
    have e:=List.drop_eq_getElem_cons C;rw[(Zz.mp j).2]at e;rw[<-e,List.take_append_drop]
   have E:c∉z.cps.toList.take i:=λL=>by
    obtain⟨k,B⟩:=jP L;rw[List.getElem?_take]at B;split at B
    ·exact g k ‹_› ((f k).mpr B)
    ·cases B
   have ha:mkS (z.cps.toList.take i)=Builtin.Str.strSub z 0 i:=(yK (by rw[StrLaws.strSub_toList];simp)).symm;have hb:mkS (z.cps.toList.drop Bw)=Builtin.Str.strSub z (i+(⟨#[c]⟩:Str).length) cE:=(yK (by
    rw[StrLaws.strSub_toList];show _=_;rw[show i+(⟨#[c]⟩:Str).length=i+1 from rfl];exact List.take_of_length_le (by rw[tP,show z.cps.toList.length=z.length from ZQ];lia))).symm
   rw[<-ha,<-hb,yG,u,JkO _ E];simp only[<-u];rfl
 ·exact h.elim
def Jvp:MtR X "str.endswith" (λx e H Q=>∃y,e=[y]/\rD2 X .ends x y H Q):=mtSS CM λY s Z H Q z w t f I h=>
 fB QaA (sM _ _ _) F.entry_str_endswith (F.args_str_endswith_2 _ _) (gives_str_endswith z w t f).meets UP
def Jvf:MtR X "str.startswith" (λx e H Q=>∃y,e=[y]/\rD2 X .strt x y H Q):=mtSS CM λY s Z H Q z w t f I h=>
 fB eI (sM _ _ _) F.entry_str_startswith (F.args_str_startswith_2 _ _) (gives_str_startswith z w t f).meets UP
section
variable{U:Ag}
def vR{a b:D}{k:Str->Str->Rs D}{P:D->Prop}{E:DE}(h:(onSS a b k).Good P E):∃i,a=.str i:=let⟨i,_,e,_⟩:=Jhm h;⟨i,e⟩
def fN{id:Bg}{name:Str}{o:O2}(g:Slot "str" name id)(m:R3)(J:∀{u j:D}{P:D->Prop}{E:DE},(op2 o u j).Good P E->∃z,u=.str z)
  (hm:MtR X id (λx I H Q=>∃y,I=[y]/\rD2 X o x y H Q)) (W:AO) (M:BJ) (L:∀O,(∃z,evD U pa O=.ok YZ)\/noEx pb=To) (hl:DH)
  (f:'б' (attributeBase a name Ue E3=eval a Ue) Ai) (hs:'б' Hw Ai):PE X (.Call (.Attribute a name apos) [b] [] pos) Mw:=by
 refine PE.weak (yM F.plainAttrs_str g m hm W (JP M mE hs) f (by rw[hs];rfl) hl hs rfl) λZ H Q h=>?_;obtain⟨O,r,h⟩:=h;simp only[evD]at h;refine Dc;cases i:evD U pa O with
 |sk=>rw[i]at h;exact h.elim
 |ex c=>rw[i]at h;exact h
 |ok u=>
  rw[i]at h;simp only[Rs.bo]at h;intro x H1 s1 l;have v:=r.mono s1;cases e:evD U pb O with
  |sk=>rw[e]at h;exact h.elim
  |ex c=>
   rw[e]at h;rcases L O with⟨z,B⟩|C
   ·rw[i]at B;cases B;refine⟨by rw[show x=V.str z from l];rfl,O,v,?_⟩;rw[e];exact XW.mono s1 h
   ·exact absurd e (oZ U pb O c C)
  |ok j=>rw[e]at h;simp only[Rs.bo]at h;obtain⟨z,rfl⟩:=J h;refine⟨by rw[show x=V.str z from l];rfl,O,v,?_⟩;rw[e];intro y H2 s2 Y;exact⟨y,rfl,.str z,j,l.mono s2,Y,h.mono (λ_ o=>o.mono FJ) λ_ q=>q.mono FJ⟩
def cJoin{f:Pos}{z:Str}{j}(i:BJ)(g:DH)(e:attributeBase Ni "join" Ue (eval Ni Ue)=eval Ni Ue)(hs:Hw):
  PE X (.Call (.Attribute Ni "join" apos) [b] [] pos) (tI X U (.bi .joinS (.con YZ) pb)):=fN Z5 F.type_str_join (fun{l _ _ _}h=>by cases l<;>first|exact AS|exact(show False from h).elim) Jvm JG i (λ_=>.inl ⟨z,rfl⟩) g e hs
def JvE(i:AO)(g:BJ)(h:noEx pb=To)(f:DH)(e:attributeBase a "split" Ue E3=eval a Ue)(hs:Hw):
  PE X (.Call (.Attribute a "split" apos) [b] [] pos) (tI X U (.bi .splitS pa pb)):=fN qP F.type_str_split vR Jrf i g MH f e hs
def cPart(i:AO)(g:BJ)(h:noEx pb=To)(f:DH)(e:attributeBase a "partition" Ue E3=eval a Ue)(hs:Hw):
  PE X (.Call (.Attribute a "partition" apos) [b] [] pos) (tI X U (.bi .partS pa pb)):=fN eJ F.type_str_partition vR Juo i g MH f e hs
def cEnds(i:AO)(g:BJ)(h:noEx pb=To)(f:DH)(e:attributeBase a "endswith" Ue E3=eval a Ue)(hs:Hw):
  PE X (.Call (.Attribute a "endswith" apos) [b] [] pos) (tI X U (.bi .ends pa pb)):=fN QaA F.type_str_endswith vR Jvp i g MH f e hs
def cStrt(i:AO)(g:BJ)(h:noEx pb=To)(f:DH)(e:attributeBase a "startswith" Ue E3=eval a Ue)(hs:Hw):
  PE X (.Call (.Attribute a "startswith" apos) [b] [] pos) (tI X U (.bi .strt pa pb)):=fN eI F.type_str_startswith vR Jvf i g MH f e hs
end
def noCX{P:Ba}{e:An}{f:Al}(h:CXr P w [] H s Sh e f):False:=by obtain⟨_,_,_,_,_,_,_,_,_,_,_,_,_,z⟩:=h;exact z
def JxB (K:Aj) (a:Addr):Bool:=match K.lookup a with
 |some ⟨.type t,_,.seq its _,_⟩=>t=="tuple"&&decide (2<='乻'.sum)
 |_=>Fo
def rN (K:Aj) (a:Addr):Bool:=match K.lookup a with
 |some ⟨.type t,_,.seq its _,_⟩=>!(t=="tuple")||decide (2<='乻'.sum)||its.toList.any λv=>match v with
  |.ref b=>JxB K b
  |_=>Fo
 |_=>To
def qY (K:Aj) (a:Addr):Bool:=match K.lookup a with
 |some ⟨.type t,_,.seq its _,_⟩=>!(t=="tuple")||its.toList.all λv=>match v with
  |.ref b=>rN K b
  |_=>To
 |_=>To
def sQ (K:Aj):Bool:=match K.lookup mainGlobals with
 |some ⟨_,_,.dict es _,_⟩=>es.toList.all λe=>match e.val with
  |.ref a=>rN K a&&qY K a
  |_=>To
 |_=>To
def Jhi(h:sQ K=To){y:Str}{b:Addr}(f:PySem.W.nsIn K mainGlobals y=So (So CK)):rN K b=To/\qY K b=To:=by
 unfold sQ at h;unfold PySem.W.nsIn at f;split at f
 ·rename_i j _ _ g;rw[g]at h;split at f
  ·rename_i e i;simp only[ZU]at f;have:=uB.mp h e (List.mem_of_find?_eq_some i);simp only[f,Zc]at this;exact this
  ·split at f<;>simp at f
 ·cases f
def JhD{b:Addr}(h:rN K b=To){o:Obj}{f:B7}{n:Nat}(h1:K.lookup b=So o)(l:o.cls=.type "tuple")(i:o.data=.seq f n):2<='Ї'.sum\/∃c,Value.ref c∈f.toList/\Ban2 K c:=by
 unfold rN at h;obtain⟨u,x,j,r⟩:=o;simp only at l i;subst l i;simp only[h1,ZE,qD,gF,nB,Zw]at h;rcases h with h|h
 ·exact .inl h
 ·obtain⟨v,q,h⟩:=uH.mp h;split at h
  ·rename_i b;refine .inr ⟨b,q,?_⟩;unfold JxB at h;split at h
   ·rename_i t d g m s e;simp only[Zc,Zw,ZI]at h;exact⟨_,g,m,e,by rw[<-h.1],rfl,h.2⟩
   ·cases h
  ·cases h
def JsI(h:sQ K=To):NoKT K:=λy b o x n e r m f=>by
 rcases e with e|⟨I,z,j,E,C,v,l,g,u⟩
 ·exact JhD (Jhi h e).1 r m f
 ·have q:=(Jhi h C).2
  unfold qY at q
  obtain⟨F,J,i,B⟩:=z
  simp only at l g
  subst l g
  simp only[v,ZE,qD,gF]at q
  exact JhD (uB.mp q _ u) r m f
noncomputable def sI (N P:Ac) (e:Bf):Bool:=(e.kind==.function)&&!e.isCoroutine&&!e.isGenerator&&decide N.Nodup&&(N.take P.length==P)&&P.all (λx=>e.names.lookup x==So .local||e.names.lookup x==So .cell)&&e.names.all λy=>!(y.2==.free)
def nI{P:Ac}{e:Bf}(h:sI N P e=To):FnScope N P e:=by simp only[sI,Zc,ZI,ZV,Zw,uB,nB,ZA]at h;obtain⟨⟨⟨⟨⟨⟨o,g⟩,f⟩,j⟩,l⟩,m⟩,i⟩:=h;exact⟨o,g,f,j,l,m,i⟩
structure DefIn(K:Aj)(n:Str)(s:Stmt)(f:Addr)(fd:BG):Prop where
 a:PySem.W.nsIn K mainGlobals n=So EN
 F:Fun K n n s f fd
def def_mk{n:Str}{s:Stmt}{f:Addr}{i h:Du}{sl:Eb}{j kV g pm e ct:An}(a:PySem.W.nsIn K mainGlobals n=So EN)(l:K.lookup f=So ⟨j,i,.func WL,sl⟩)(c:PySem.W.codeIn K e n=To)(k:PySem.W.keepIn K Br=To):DefIn K n s f WL:=⟨a,Jri l c k⟩
structure Def1(K:Aj)(mg:Bk)(x:Str)(st:Stmt)(ps:Ac)(f:Addr)(fd:BG):Prop where
 F:Fun K x x st f fd
 b:Binds K fd ps []
 g:mg x=So Br
noncomputable abbrev DefE:=Str×Stmt×List Str
section
variable{P:Ba}{mg:Bk}{base:Heap}{defs:Ci}
noncomputable def HasD (K:Aj) (mg:Bk):List DefE->Prop
 |[]=>True
 |e::T=>(∃f g,Def1 K mg e.1 e.2.1 e.2.2 f g)/\HasD K mg T
noncomputable def OkD (P:Ba) (w:AQ) (K:Aj) (mg:Bk) (base:Heap) (defs:Ci) (k:Nat):Nat->List DefE->Prop
 |_,[]=>True
 |i,e::T=>(∀f g,Def1 K mg e.1 e.2.1 e.2.2 f g->FnOk P w K mg base A0 (3*k) f g e.2.2 QbK)/\OkD P w K mg base defs k Bw T
theorem Jjt:∀(T:Gs)(i:Nat),OkD P w K mg base defs 0 i T
 |[],_=>trivial
 |e::T,i=>⟨λ_ _ _=>Jmr,Jjt T Bw⟩
theorem JoH{k:Nat}:∀{T:Gs}{i j:Nat}{e:DefE},OkD P w K mg base defs k i T->T[j]? =So e->∀f g,Def1 K mg e.1 e.2.1 e.2.2 f g->FnOk P w K mg base A0 (3*k) f g e.2.2 (spI K mg CC (i+j))
 |[],_,_,_,_,h=>by simp at h
 |d::T,i,0,e,ok,h=>by
  simp only[kF,ZU]at h
  subst h
  exact ok.1
 |d::T,i,j+1,e,ok,h=>by
  have:=JoH (j:=j) ok.2 (by simpa using h)
  rw[show i+1+j=i+(j+1) by lia]at this
  exact this
theorem Jkb:∀{T:Gs}{j:Nat}{e:DefE},HasD K mg T->T[j]? =So e->∃f g,Def1 K mg e.1 e.2.1 e.2.2 f g
 |[],_,_,_,h=>by simp at h
 |d::T,0,e,ok,h=>by
  simp only[kF,ZU]at h
  subst h
  exact ok.1
 |d::T,j+1,e,ok,h=>Jkb ok.2 (by simpa using h)
def JlN{T:Gs}{k:Nat}(l:HasD K mg T)(ok:OkD P w K mg base defs k 0 T)(i:GR)(j:Nat){e:DefE}(h:T[j]? =So e):Callee AM CC j e.1:=by obtain⟨f,g,D⟩:=Jkb l h;have F:=JoH ok h f g D;rw[eM]at F;exact⟨⟨3*k,f,g,_,F,i.in1.in1,D.g,D.F.kp,D.b⟩⟩
def fo{e:Gw->CallD->Prop}{ps:Ac}{M:As}{x:Str}{st:Stmt}{i k:Nat}{d:DefD}{b:Sx}(E:∀A,Room E8 A->e AM CC)(u:∀{X:Cx}{G:Gw}{U:Ag}{l:Hp},e G U->Ctx X G N 'Ɯ'.names->HX X 'Ɯ'.names->PSs X Ew (tS X U M l b))
  (q:'б' (defs[i]? =So d) Ai) (hb:'б' (X9=b) Ai) (h:'б' ((sI N ps (Jd st)&&d.slots==XA&&d.params==Aq&&M.all (λi=>decide (Aq<=i))&&decide (Aq<=XA))=To) Kb):
  ∀f g,Def1 K mg x st ps f g->FnOk P w K mg base A0 (3*AZ) f g ps QbL:=λf g D=>by
 simp only[Zc,ZI,uB,Zw]at h
 obtain⟨⟨⟨⟨B,y⟩,o⟩,z⟩,r⟩:=h
 subst hb
 exact Jxf (j:=3*k+2) D.F (nI B) q y o z r λX A l C v m=>u (E A v) C m
noncomputable def DsIn (K:Aj):List DefE->Prop
 |[]=>True
 |e::T=>(∃f g,DefIn K e.1 e.2.1 f g)/\DsIn K T
abbrev BsE(e:DefE):Prop:=∀(kV g j:An)(i:Du)(f ct:An)(h:AE),cI=e.2.2.length->bindArgs (PySem.W.fnOf e.1 e.1 (pL e.2.1) (Jp e.2.1) (Jd e.2.1) .none kV g j i f ct) ⟨h,[]⟩=pure (e.2.2.zip h)
noncomputable def BsOk:List DefE->Prop
 |[]=>True
 |e::T=>BsE e/\BsOk T
theorem jZ{h:Heap}(X:K.In h)(G:RX):∀{T:Gs},DsIn K T->BsOk T->HasD K mg T
 |[],_,_=>trivial
 |e::T,d,b=>⟨let⟨f,g,D⟩:=d.1;⟨f,g,D.F,D.F.binds b.1,qA X G D.a⟩,jZ X G d.2 b.2⟩
noncomputable def BlIn (K:Aj):List Str->Prop
 |[]=>True
 |x::T=>PySem.W.nsIn K mainGlobals x=So No/\BlIn K T
noncomputable def BlN (mg:Bk):List Str->Prop
 |[]=>True
 |x::T=>mg x=No/\BlN mg T
theorem JvZ{h:Heap}(X:K.In h)(G:RX):∀{T:Ac},BlIn K T->BlN mg T
 |[],_=>trivial
 |x::T,d=>⟨PySem.W.mg_none_of X G d.1,JvZ X G d.2⟩
end
noncomputable abbrev NM:=List Str×List Nat
def DAll (X:Cx) (G:Gw) (U:Ag) (f:Hp):List DefE->List NM->List DefD->Prop
 |e::T,n::L,d::D=>(Ctx X G n.1 (Jd e.2.1).names->HX X (Jd e.2.1).names->PSs X (Jp e.2.1) (tS X U n.2 f X9))/\DAll X G U f T L D
 |[],_,_=>True
 |_,_,_=>False
def chkD:List DefE->List NM->List DefD->Bool
 |e::T,n::L,d::D=>(sI n.1 e.2.2 (Jd e.2.1)&&d.slots==n.1.length&&d.params==e.2.2.length&&n.2.all (λi=>decide (e.2.2.length<=i))&&decide (e.2.2.length<=n.1.length))&&chkD T L D
 |[],_,_=>To
 |_,_,_=>Fo
def foAll{P:Ba}{mg:Bk}{base:Heap}{defs:Ci}{g:Gw->CallD->Prop}{k:Nat}(E:∀A,Room E8 A->g AM CC)(T:Gs):∀(L:List NM)(i:Nat)(_:∀{X:Cx}{G:Gw}{U:Ag}{m:Hp},g G U->DAll X G U m T L QdQ)(_:chkD T L QdQ=To),OkD P w K mg base defs AZ i T:=by
 induction T with
 |nil=>exactλ_ _ _ _=>trivial
 |cons e T o=>
  intro L i f h;cases L with
  |nil=>cases h
  |cons n L=>
   cases q:defs.drop i with
   |nil=>rw[q]at h;cases h
   |cons d D=>
    have l:defs[i]? =So d:=by rw[<-Nat.add_zero i,<-List.getElem?_drop,q];rfl
    have j:defs.drop Bw=D:=by rw[<-List.drop_drop,q];rfl
    rw[q]at h;simp only[q]at f;simp only[chkD,Zc]at h;exact⟨fo E (λe=>(f e).1) l rfl (by simp only[Zc];exact h.1),o L Bw (λe=>by rw[j];exact(f e).2) (by rw[j];exact h.2)⟩
theorem Jeu{k:D}:∀{ks vs:Ak},gA k ks vs=No->AC=AJ->(ks.any λd=>d.eqv k)=Fo
 |[],_,_,_=>rfl
 |a::ks,[],_,e=>by simp at e
 |a::ks,v::vs,h,e=>by
  simp only[gA]at h
  split at h
  ·cases h
  ·rename_i q
   simp only[pD,Jeu h (by simpa using e),qH]
   simpa using q
def JrK{a:Addr}{t z:Bool}{ks:Ak}{xs:Av}(h:Rj):AC=Ah:=by
 cases t
 ·obtain⟨e,_,rfl,rfl⟩:=dk_k h;simp
 ·obtain⟨e,_,rfl,rfl⟩:=dk_t h;simp
section
variable{X:Cx}{U:Ag}{G:Gw}{N:Ac}{nm:Bj}{pos p1 p2 px apos cpos:Pos}{a b e:Expr}{pa pb p:Px}{M:As}{H0:Hp}{i j:Nat}{x y:Str}{tg:Expr}
theorem eGetZ(C:Am){t':Bool}(hK:FA)(ha:AO)(hb:BJ)(W:noEx pb=To){j0}(m:M2 X a "get" apos b (.Constant a7 j0 p1) cpos):PE X (.Call Qz [b,.Constant a7 j0 p1] [] cpos) (tI X U (.bi (.dGz t') pa pb)):=by
 have hu:=C.un;refine PE.weak (Jqp Af ha hb fY m) λZ H Q J=>?_;obtain⟨O,r,h⟩:=J;refine tI.then r h λdx x H1 s1 P q1 B=>?_;cases dx with
 |dct t z ks vs=>
  obtain⟨l,xs,rfl,L,g2⟩:=id P;refine⟨l,rfl,?_,?_⟩
  ·cases t with
   |false=>obtain⟨f,g,_⟩:=dk_k L;exact .inl ⟨f,g⟩
   |true=>obtain⟨f,g,_⟩:=dk_t L;exact .inr ⟨f,g⟩
  refine tI.then q1 B λdy y H2 s2 r2 q2 E=>?_;simp only[op2,onD]at E;split at E
  ·rename_i F;obtain⟨rfl,F⟩:=F;obtain⟨l',o,e1,g,u,hl⟩:=lS (by rw[C.K];exact hK) (P.mono s2) r2 F;cases e1;refine⟨o,g,Out.now E ?_⟩;cases q:gA dy ks vs with
   |some d=>obtain⟨v,Y,rv⟩:=hl d q;subst Y;exact rv
   |none=>
    have:o=No:=by
     have hn:=Jeu q (by have:=g2.length;have:=JrK L;lia);rw[hn]at u;cases o with
     |none=>rfl
     |some _=>cases u
    subst this;rfl
  ·exact E.elim
 |_=>
  cases I:evD U pb O with
  |ok d=>rw[I]at B;cases d<;>exact(show False from B).elim
  |ex c=>exact absurd I (oZ U pb O c W)
  |sk=>rw[I]at B;exact B.elim
theorem aPutM{v:Expr}{pk pv:Px}{ps:Pos}(C:Am){t':Bool}(hK:FA)(h:Dj)(hb:PE X b M9)(hv:RI)
  (hs:swapsWith v QM XH Ue=pure Fo):PS X Vq (tS X U M H0 (.put To t' i pk pv)):=by
 obtain⟨g1,g2,g3,g4,g5⟩:=chkO.at h;obtain⟨d1,d2⟩:=plainN.d g3;have hu:=C.un;refine PS.weak (eZ Af (rA (by rw[C.hN];exact g1) L4 d1 d2) hb hv hs) λD Z H J=>?_;obtain⟨O,e,h⟩:=J;simp only[exD]at h;cases q:O[i]? with
 |none=>rw[q]at h;exact h.elim
 |some o=>
  rw[q]at h;cases o with
  |none=>exact h.elim
  |some d=>
   cases d with
   |dct t z ks vs=>
    cases z with
    |true=>exact h.elim
    |false=>
     simp only at h;obtain⟨l,B,h0,hz,xs,hl,hr⟩:=e.own i _ g4 q;refine⟨O,Yw,'ħ'.mono (λF hdv v H1 s1 r1=>?_) λc z=>z.mono YN⟩;have Y:=e.grow s1;refine⟨.ref l,B,O,Y.readOk,(Rs.gB.mp hdv).mono (λdk f y g s2 r2=>?_) λc z=>z.mono Y.same⟩;split at f
     ·exact f.elim
     ·rename_i hc;simp only[lG,nB,not_or,ZV,rP,Bool.not_eq_false,oE,Decidable.not_not,ZI,ZA,ne_eq]at hc;obtain⟨⟨⟨hi,P⟩,E⟩,u⟩:=hc;subst P;have e2:=Y.grow s2;have f2:Same Da c0:='ӆ'.hid;have rv:Rep X.K c0 F v:=Rep.tups e2.ows.tup F hi (r1.mono s2);have m:∀ob,OwnIs X.K c0 (upd g l ob) l (.dct t Fo (putD dk F ks vs).1 (putD dk F ks vs).2)->D.nx Z (upd g l ob):=λob nw=>by obtain⟨e3,f4⟩:=e2.change (o:=ob) g4 q B nw;exact f _ _ e3 ⟨'ӆ'.trans f4,λz=>by cases z⟩
      cases t with
      |true=>
       obtain⟨b',k,rfl,rfl,I⟩:=xS (by rw[C.K];exact hK rfl) E r2;obtain⟨kvs,L,rfl,rfl⟩:=hl;have W:g l=So BA:=s2 _ _ (s1 _ _ L);have r:AV<1000:=by simpa using u
       refine⟨l,_,rfl,DPut.t (k:=k) W I (by show _<16777216;lia),m _ ?_⟩;obtain⟨p1,p2⟩:=vK uT (k:=k) rv KA;exact Li
      |false=>
       obtain⟨k,rfl⟩:=lL E;have hy:=fJ r2;subst hy;obtain⟨kvs,L,rfl,rfl⟩:=hl;have W:g l=So AN:=s2 _ _ (s1 _ _ L);have r:AV<1000:=by simpa using u
       refine⟨l,_,rfl,DPut.k (k:=k) W (by show _<16777216;lia),m _ ?_⟩;obtain⟨p1,p2⟩:=vK jE (k:=k) rv KA;exact Li
   |_=>exact h.elim
def EnvOk.moveF{Z:Bl}{O:Fm}(e:CO){l:Addr}{t:Bool}{ks vs:Ak}{ob:HO}(hi:i∉M)(F:j∈M)(P:O[j]? =So (So (.dct t Fo ks vs)))(hs:Z[j]? =So Cz)(hD:∀E,DK H l t Fo ks E->DK FT l t To ks E):
  EnvOk K M H0 FT Ho ('Ǟ'.set j No)/\Fz BZ H (Ow M ('Ǟ'.set j No) Ho) FT:=by
 have Y:j≠i:=λz=>hi (z▸F);obtain⟨l',r,g0,hz,E,g2,g3⟩:=e.own j _ F P;rw[hs]at r;cases r;have hlo:l∈Ow M O Z:=mem_Ow.mpr ⟨j,F,_,P,hs⟩;have get:∀(k:Nat)(d:D),k≠i->('Ǟ'.set j No)[k]? =So Bd->k≠j/\O[k]? =So Bd:=λk d f h=>by
  rcases JQ h with⟨_,W,_⟩|⟨B,h⟩
  ·cases W
  ·rw[Zr (Ne.symm f)]at h;exact⟨B,h⟩
 have sub:∀b∈Ow M ((O.set i (So (.dct t To ks vs))).set j No) (Z.set i (So (.ref l))),b∈Ow M O Z/\b≠l:=λb hb=>by obtain⟨k,f,d,h1,I⟩:=mem_Ow.mp hb;have J:k≠i:=λz=>hi (z▸f);obtain⟨n1,r⟩:=get k d J h1;rw[Zr (Ne.symm J)]at I;refine⟨mem_Ow.mpr ⟨k,f,d,r,I⟩,λz=>?_⟩;exact e.apart j k l _ _ F f 'ӂ' P r hs (z▸I)
 have L:Fz BZ H (Ow M ('Ǟ'.set j No) Ho) FT:=⟨λa o q n=>by rw[Jb (λz=>n (by rw[z];exact hlo))];exact q,λb hb=>.inl (sub b hb).1⟩;refine⟨⟨λa o q=>by rw[Jb (Jh q g0)];exact e.same a o q,by rw[mB,mB,mB];exact e.len,λk d f h=>?_,λk d f h=>?_,λk1 k2 m d1 d2 u C B h1 I h3=>?_⟩,L⟩
 ·by_cases q:k=i
  ·subst q;rw[Zr Y]at h;rcases JQ h with⟨_,W,hl⟩|⟨B,_⟩
   ·cases W;exact⟨.ref l,ZR (by rw[e.len];exact hl),l,E,rfl,(hD E g2).mono λo z=>by rw[Jt λhm=>(sub l hm).2 rfl];exact z,g3.mono L.hid⟩
   ·exact absurd rfl B
  ·obtain⟨_,g⟩:=get k d q h;obtain⟨v,r,g2⟩:=e.read k d f g;exact⟨v,by rw[Zr 'ǯ'];exact r,g2.mono L.hid⟩
 ·have q:k≠i:=λz=>hi (z▸f);obtain⟨nj,g⟩:=get k d q h;obtain⟨m,r,g0',g2'⟩:=e.own k d f g;have nm:m≠l:=λz=>e.apart j k l _ _ F f (Ne.symm nj) P g hs (z▸r);exact⟨m,by rw[Zr 'ǯ'];exact r,g0',g2'.mono L.hid λo z=>by rw[Jb nm];exact z⟩
 ·have q1:k1≠i:=λz=>hi (z▸u);have q2:k2≠i:=λz=>hi (z▸C);rw[Zr (Ne.symm q1)]at h3;rw[Zr (Ne.symm q2)];exact e.apart k1 k2 m d1 d2 u C B (get k1 d1 q1 h1).2 (get k2 d2 q2 I).2 h3
def aMovF{py:Pos}(C:Am)(h:FD)(h':chkO N nm M j y=To)(hs:swapsWith Kz Ft XH Ue=pure Fo):PS X (.Assign Hg Kz pos) (tS X U M H0 (.movF i j)):=by
 obtain⟨h1,h2,h3⟩:=chkA.at h;obtain⟨g1,g2,g3,F,g5⟩:=chkO.at h';obtain⟨d1,d2⟩:=plainN.d g3;obtain⟨k1,k2⟩:=C.sto x h2;rintro Y s Z H D I⟨O,e,h⟩;simp only[exD]at h;cases q:O[j]? with
 |none=>rw[q]at h;exact h.elim
 |some o=>
  rw[q]at h;cases o with
  |none=>exact h.elim
  |some d=>
   cases d with
   |dct t z ks vs=>
    cases z with
    |true=>exact h.elim
    |false=>
     obtain⟨l,m,h0,hz,xs,hl,hr⟩:=e.own j _ F q;refine ZY (gD CU (by rw[C.hN];exact h1) k1 (rA (by rw[C.hN];exact g1) (C.vis y g5) d1 d2) hs k2 Y s Z H ⟨λv W=>v=Z.set i Cz/\W=H,λ_ _=>False,λ_ _=>False,λ_ _=>False⟩ I ⟨.ref l,m,rfl,rfl⟩) (λf s1 r=>?_) λ_ _ z=>z;cases f with
     |next=>
      obtain⟨v,W,I',rfl,rfl⟩:=r;cases t with
      |false=>
       obtain⟨kvs,E,rfl,rfl⟩:=hl;obtain⟨o,P⟩:=tZ I' E;obtain⟨g,L⟩:=e.moveF (ob:=.frz o AN) h3 F q m λxs⟨B,w,J,g⟩=>by rw[E]at w;cases w;exact Pw
       exact⟨_,_,P,h _ _ g ⟨L,λz=>by cases z⟩⟩
      |true=>
       obtain⟨kvs,E,rfl,rfl⟩:=hl;obtain⟨o,P⟩:=JmX I' E;obtain⟨g,L⟩:=e.moveF (ob:=.frz o BA) h3 F q m λxs⟨B,w,J,g⟩=>by rw[E]at w;cases w;exact Pw
       exact⟨_,_,P,h _ _ g ⟨L,λz=>by cases z⟩⟩
     |brk=>obtain⟨_,_,_,z⟩:=r;exact z.elim
     |cont=>obtain⟨_,_,_,z⟩:=r;exact z.elim
     |ret u=>obtain⟨_,_,_,_,_,z⟩:=r;exact z.elim
   |_=>exact h.elim
end
end Rd
namespace Rd
open PySem PySem.Spec PyProof.Rows L2 Pu PySem.SeqAt PySem.W
theorem look_mem{k d:D}:∀{ks vs:Ak},gA k ks vs=So d->d∈vs
 |[],vs,h=>by cases vs<;>cases h
 |a::ks,[],h=>by cases h
 |a::ks,v::vs,h=>by
  simp only[gA]at h
  split at h
  ·cases h;simp
  ·exact Zm _ (look_mem h)
end Rd
namespace Rd
open PySem PySem.Spec PyProof.Rows L2 Pu
section
variable{X:Cx}{U:Ag}{G:Gw}{N:Ac}{nm:Bj}{a e:Expr}{p pa:Px}{pos p1 pos':Pos}{x:Str}{i:Nat}{M:As}{H0:Hp}{px:Pos}
def JyA:PE X RU (tI X U (.dsp Fo .nil .nil)):=by rintro Y s Z H Q I⟨O,r,h⟩;simp only[evD,Rs.bo,D.asL,dspD]at h;refine ZY (JfB Y s Z H (λv W=>∃l,v=.ref l/\H l=No/\W=upd H l aY) I λl f=>⟨l,rfl,f,rfl⟩) (λu B⟨v,A,y,m,l,w,f,j⟩=>?_) λ_ _ z=>z;subst w j;obtain⟨o,g⟩:=tZ y Je;rw[upd_upd]at g;exact⟨.ref l,_,g,m,h _ _ (λb ob q=>by rw[Jb (Jh q f)];exact q) ⟨l,[],rfl,⟨[],⟨o,Je⟩,rfl,rfl⟩,rfl⟩⟩
end
end Rd
namespace Rd
open PySem PySem.Spec PyProof.Rows L2 Pu PySem.W
variable{X:Cx}{H:Hp}{s:Al}{fi:Nat}{P:Ba}{w:AQ}{K:Aj}{mg:Bk}{base:Heap}{p:Px}{pos p1 p2:Pos}{cs:Ac}{en:Str}
inductive LamAt(H:Hp)(f:Addr)(params:Qdj)(body:Expr)(scope:Bf)(q:Str)(clos:B6):Prop where
 |mk (pm:Value) (c:Addr) (ctv:Value) (oc:Obj) (vs:Array Value) (t:Tok):H f=So (.frz (kla_obj "<lambda>" q params body scope clos pm c ctv) (.ext λ_=>True))->H c=So (.frz oc Sk)->oc.data=.fields vs->vs[1]? =So (.str q t)->LamAt H f params body scope q clos
end Rd
namespace Rd
open PySem PySem.Spec PyProof.Rows L2 Pu
variable{X:Cx}{N ns ps:Ac}{pos px apos p1 cpos py np:Pos}{H0 H W:Hp}{G:Gw}{nm:Bj}{x f m qual y cn:Str}{bc:AI}{K:Aj}{i fi j k nt:Nat}{e ek b c:Expr}{M ts:As}{w:Bool}{a C:Addr}{d:D}{Z:Bl}{O:Fm}{v:V}{P:Ba}{mg:Bk}{base:Heap}{α:Type}{fd:BG}{pb:Bx}{es:CF}{st:Stmt}{pk:Px}{xs:Av}{body:BF}{fs:Ak}
noncomputable def plK:HO->Bool
 |.lst _=>To
 |.tup _=>To
 |.frz _ _=>To
 |_=>Fo
def SameP(H W:Hp):Prop:=∀a o,H a=So o->plK o=To->W a=So o
def PlO(H:Hp):Prop:=∀a o,H a=So o->plK o=To
def pl (H:Hp):Hp:=λa=>match H a with
 |some o=>if plK o then So o else No
 |none=>No
section
variable{K:Aj}{H W H1 H2 H0:Hp}{L:A9}
def SameP.of(s:Ca):SameP H W:=λa o h _=>s a o h
def SameP.refl:SameP H H:=λ_ _ h _=>h
def SameP.trans(a:Qbi)(b:SameP H1 H2):SameP H H2:=λx o h p=>b x o (a x o h p) p
def SameP.hid(s:C6):SameP Bm IP:=λa o h p=>by
 obtain⟨n,e⟩:=hU h
 rw[Jt n];exact s a o e p
def PlO.same(p:A4)(s:Same H0 H)(t:C6):Same H0 W:=λa o h=>t a o (s a o h) (p a o h)
def Jmj{o:HO}(h:pl H a=So o):H a=So o/\plK o=To:=by
 unfold pl at h;split at h
 ·rename_i u e;split at h
  ·rename_i q;cases h;exact⟨e,q⟩
  ·cases h
 ·cases h
def wZ:Same (pl H) H:=λa o h=>(Jmj h).1
def pY:PlO (pl H):=λa o h=>(Jmj h).2
def JmQ(t:Same (pl H) W):SameP H W:=λa o h p=>t a o (by unfold pl;rw[h];simp[p])
def SameP.sqL(s:C6)(h:b5):SqL K W a xs:=by
 rcases h with(h|⟨o,h⟩)|h
 ·exact .inl (.inl QdR)
 ·exact .inl (.inr ⟨o,s _ _ h rfl⟩)
 ·exact .inr h
def SameP.sqT(s:C6)(h:b6):SqT K W a xs:=by
 rcases h with h|h
 ·exact .inl QdR
 ·exact .inr h
mutual
theorem Rep.plain(e:C6):∀(d:D){v:V},Ji d=To->Rep K H d v->Rep K W d v
 |.non,_,_,h=>h
 |.bl _,_,_,h=>h
 |.int _,_,_,h=>h
 |.str _,_,_,h=>h
 |.tup J,_,p,⟨a,xs,e1,h1,h2⟩=>⟨a,xs,e1,e.sqT h1,Reps.plain e J (by simpa[Ji]using p) h2⟩
 |.lst J,_,p,⟨a,xs,e1,h1,h2⟩=>⟨a,xs,e1,e.sqL h1,Reps.plain e J (by simpa[Ji]using p) h2⟩
 |.dct t z ks vs,_,p,⟨a,xs,e1,h1,h2⟩=>by
  simp only[Ji,Zc]at p
  obtain⟨rfl,p⟩:=p
  refine⟨a,xs,e1,?_,Reps.plain e vs p h2⟩
  cases t<;>obtain⟨g,⟨o,l⟩,q⟩:=h1
  ·exact QS
  ·exact QS
 |.obj _ _ _,_,p,_=>by simp[Ji]at p
 |.mls _ _,_,p,_=>by simp[Ji]at p
 |.adr _,_,_,h=>h
 |.exc c,_,_,⟨a,o,C,e1,h1,h2⟩=>⟨a,o,C,e1,e _ _ h1 rfl,h2⟩
 |.fn x _,_,_,h=>h
theorem Reps.plain(e:C6):∀(J:Ak){xs:Av},Ja J=To->Reps K H J xs->Reps K W J xs
 |[],_,_,h=>h
 |d::J,_,p,⟨x,r,e1,h1,h2⟩=>by
  simp only[Ja,Zc]at p
  exact⟨x,r,e1,Rep.plain e d p.1 h1,Reps.plain e J p.2 h2⟩
end
end
def Jwj{s:AL}(h:i∉M):Ow M LR Z=Ow M O Z:=Jgv λj g=>by
 unfold owA
 rw[Zr (λz:i=j=>h (z▸g))]
def EnvOk.objN(e:CO){A:D}(hi:i∉M)(F:plE L5=To)(s:C6)(s0:Same H0 W)(hr:Rep K cW A v):EnvOk K M H0 W KP (O.set i (So A))where
 same:=s0
 len:=by rw[mB,mB];exact e.len
 read:=λj d q h=>by
  rw[tE hi]
  rcases JQ h with⟨rfl,U,Y⟩|⟨o,h⟩
  ·cases U;exact⟨v,ZR (by rw[e.len];exact Y),hr⟩
  ·obtain⟨u,r,g⟩:=e.read j d q h
   rw[Zr (Ne.symm o)]
   exact⟨u,r,Rep.plain s.hid d (JnT F h o) g⟩
 own:=λj d q h=>by
  rw[tE hi]
  rcases JQ h with⟨rfl,_,_⟩|⟨o,h⟩
  ·exact absurd q hi
  ·obtain⟨l,r,h0,g⟩:=e.own j d q h
   have p:=JnT F h o
   rw[Zr (Ne.symm o)]
   refine⟨l,r,h0,?_⟩
   cases d with
   |lst J=>obtain⟨xs,q1,L⟩:=g;exact⟨xs,s _ _ q1 rfl,Reps.plain s.hid J (by simpa[Ji]using p) L⟩
   |dct t z ks vs=>
    cases z with
    |true=>first|exact g.elim|(obtain⟨B,_⟩:=g;cases B)
    |false=>simp[Ji]at p
   |_=>exact g.elim
 apart:=λj k l d1 I q E o r g B=>by
  have n1:j≠i:=λz=>hi (z▸q)
  have n2:k≠i:=λz=>hi (z▸E)
  rw[Zr 'ӂ']at r B
  rw[Zr 'Ӄ']at g⊢
  exact e.apart j k l d1 I q E o r g B
theorem JrO:∀{l:List α}{i:Nat}{a:α},l[i]? =So a->l.set i a=l
 |[],_,_,h=>by simp at h
 |b::l,0,a,h=>by simp at h;simp[h]
 |b::l,i+1,a,h=>by simp only[List.set_cons_succ];rw[JrO (by simpa using h)]
def EnvOk.obj(e:CO){g:D}(hi:i∉M)(l:plE L5=To)(s:C6)(s0:Same H0 W)(hs:Z[i]? =So BO)(h:Rep K cW g v):EnvOk K M H0 W Z Qa6:=by have:=e.objN hi l s s0 h;rw[JrO hs]at this;exact this
def OutX(X:Cx)(M:As)(H0:Hp)(Z:Bl)(L:A9)(H:Hp)(Q:VK)(d:D)(O:Fm):Prop:=∀v W,EnvOk X.K M H0 W Z O->Ow M O Z=L->SameP H W->Rep X.K W d v->Q v W
def EX(X:Cx)(M:As)(H0:Hp)(Z:Bl)(c:Str)(O:Fm):Prop:=∀C W,X.mg c=So BL->EnvOk X.K M H0 W Z O->XE X C W
inductive tB(X:Cx)(call:Ag)(bc:AI)(M:As)(H0:Hp)(p:Bx)(σ:Bl)(H:Hp)(Q:VK):Prop where
 |mk:∀env,EnvOk X.K M H0 H σ env->(evB call bc p env).Good (OutX X M H0 σ (Ow M env σ) H Q) (EX X M H0 σ)->tB X call bc M H0 p σ H Q
inductive tTB(X:Cx)(call:Ag)(bc:AI)(M:As)(H0:Hp)(p:Bx)(σ:Bl)(H:Hp)(Q:Mu):Prop where
 |mk:∀env,EnvOk X.K M H0 H σ env->((evB call bc p env).Good (λd env'=>∃b,d=.bl b/\∀H',EnvOk X.K M H0 H' σ env'->Ow M env' σ=Ow M env σ->SameP H H'->Q b H') (EX X M H0 σ))->tTB X call bc M H0 p σ H Q
def rZ(e:EnvOk X.K M H0 H Z O){r:Rs D}{P:D->Fm->Prop}{g:D->Prop}(h:(Rx.of O r).Good P (EX X M H0 Z))(o:∀d,P d O->g d):r.Good g Az:=by
 cases r with
 |ok d=>exact o d h
 |ex c=>exactλC W l s=>h C W l TX
 |sk=>exact h
section
variable{U:Ag}{a:Expr}{p:Px}{pa:Bx}
def xR(l:Cg):PE X e (tB X U bc M H0 Y0):=
 PE.weak l λZ H Q⟨O,e,h⟩=>⟨O,Yw,rZ e h λd g v W s r=>g v W TX rfl 'ʬ' r⟩
def tB.two{o:O2}{Q:VK}(h:tB X U bc M H0 Lf Z H Q):tOp KC MZ Gz Z H Q:=by
 obtain⟨O,e,h⟩:=h;refine⟨O,e,(Rx.gB.mp h).imp (λF g I x H1 e1 u Y L=>?_) λ_ _ z=>z⟩;refine⟨g,e1,(Rx.gB.mp I).imp (λdy A q y H2 B l E r2=>?_) λ_ _ z=>z⟩;split at q
 ·rename_i hp;exact⟨F,dy,Rep.plain E F hp L,r2,rZ B q λd J v W s r=>J v W (B.grow s) (l.trans u) ((Y.trans E).trans 'ʬ') r⟩
 ·exact q.elim
def JvU{o:O2}{op:bM}(l:QZ)(r:Qdo)(q:PE X b Gz)(g:F4):PE X F3 (tB X U bc M H0 Lf):=
 PE.weak (Jop l r q g) λZ H Q h=>h.two
def sZ{p:Px}(l:PT X a cU):PT X a (tTB X U bc M H0 Y0):=
 PT.weak l λZ H Q⟨O,e,h⟩=>⟨O,Yw,rZ e h λd⟨b,g,q⟩=>⟨b,g,λW s=>q W TX rfl 'ʬ'⟩⟩
def Jrr{rest:CF}(I:Qdo)(E:PE X (.BoolOp .And (b::rest) pos) Gz):PE X (.BoolOp .And (a::b::rest) pos) (tB X U bc M H0 (.and pa pb)):=by
 refine PE.weak (JrW I E) λZ H Q r=>?_;obtain⟨O,e,h⟩:=r;refine⟨O,e,(Rx.gB.mp h).imp (λd l q x A u g s1 F=>?_) λ_ _ z=>z⟩;cases d with
 |bl k=>
  cases F;refine⟨k,rfl,?_⟩;cases k with
  |true=>exact iteT ⟨l,u,q.imp (λd2 s L v J B o s2 Y=>L v J B (o.trans g) FJ Y) λ_ _ z=>z⟩
  |false=>exact iteF (q _ A u g s1 rfl)
 |_=>exact q.elim
end
def spB(K:Aj)(mg:Bk)(bc:AI)(fi:Nat):Sp:=λl H Q E=>∃a h st J,l=.ref a::h/\Rep K H st Ar/\Reps K H J h/\Ja J=To/\
 (bc fi st J).Good (λd g=>∀v W,SameP H W->Rep K W g Ar->Rep K W d v->Q v W) (λc g=>∀C W,mg c=So BL->SameP H W->Rep K W g Ar->E BL No W)
inductive CalleeBe(G:Gw)(bc:AI)(fi:Nat)(c m:Str):Prop where
 |mk (C:Addr) (kk:Nat) (f:Addr) (fd:FuncData) (ps:List Str) (h:PySem.W.nsIn G.K mainGlobals c=So (So (.ref C))/\Cls G.K C/\Meth G.K C m f/\FnOk G.prog G.w G.K G.mg G.base (CXr G.prog G.w) kk f fd ps (spB G.K G.mg bc fi)/\Room kk G.A.in1.in1/\Binds G.K fd ps []):CalleeBe G bc fi c m
structure CalleeB(G:Gw)(bc:AI)(fi:Nat)(c m:Str):Prop where
 ex:CalleeBe G bc fi c m
inductive tC(X:Cx)(call:Ag)(bc:AI)(f i:Nat)(cn m:Str)(p:Px)(σ:Bl)(H:Hp)(Q:VK):Prop where
 |mk:∀env a ns fs,ReadOk X.K H σ env->env[i]? =So (So (.obj a ns fs))->clsN ns=cn->ns.contains m=Fo->((evD call p env).Good (λd=>∃ds,d=.lst ds/\Ja ds=To/\(bc f CD ds).Good (λd st'=>∀v H',SameP H H'->Rep X.K H' st' Ar->Rep X.K H' d v->Q v H') (λc st'=>∀C H',X.mg c=So BL->SameP H H'->Rep X.K H' st' Ar->XE X C H')) Az)->tC X call bc f i cn m p σ H Q
theorem nU:∀{ns:Ac}{xs:List α},ns.contains m=Fo->'ƹ'.lookup m=No
 |[],_,_=>by simp
 |n::ns,[],_=>by simp
 |n::ns,x::xs,h=>by
  simp only[yP,ZN]at h
  simp only[rF,Zp,h.1]
  exact nU h.2
section
variable{U:Ag}{p:Px}
def Jmf{C f:Addr}{kk:Nat}{fd:BG}{ps:Ac}{t:TA}(Cc:Am)(hC:PySem.W.nsIn G.K mainGlobals cn=So BC){Z:Bl}{H:Hp}{Q:VK}(h:tC X U bc fi i cn m p Z H Q)
  (ht:∀O L,ReadOk X.K H Z O->'ǈ'.Good (λd=>∃J,d=.lst J/\∀l W,Same H W->Reps X.K W J l->L l W) Az->t Z H L):
  wQ C m (spB X.K X.mg bc fi) [] (λA _ W=>∀C,A=.ref C->XE X C W) (λZ H Q=>∃v,Z[i]? =So BO/\Q v H) t Z H Q:=by
 obtain⟨O,a,ns,fs,r,he,B,hm,h⟩:=h;obtain⟨v,hv,Y⟩:=r i _ he;obtain⟨e1,C',dx,xs,h1,h2,h3,h4⟩:=id Y;subst e1;rw[B,Cc.K,hC]at h2;cases h2;refine⟨_,hv,a,dx,_,rfl,h1,nU hm,ht O _ r (h.imp λd⟨J,ed,E,g⟩=>⟨J,ed,λl W s rs=>?_⟩)⟩;refine⟨a,l++[],_,J,rfl,Y.mono s,by rw[pE];exact rs,E,?_⟩;cases q:bc fi CD J with
 |ok d F=>rw[q]at g;exactλv z u I rd=>g v z ('ʬ'.trans u) I rd
 |ex c F=>rw[q]at g;exactλC2 z o u I C3 e3=>by cases e3;exact g C2 z o ('ʬ'.trans u) I
 |sk=>rw[q]at g;exact g
def pI:Jck RD X (λg _ W=>∀C,g=.ref C->XE X C W):=λY Z H s e l I h=>by
 obtain⟨a,C,W,rfl,F,hE⟩:=JfD I h
 exact hE C rfl a l F
def Jnr{pl:Cb}(l:Am)(B:NG)(I:visB nm x=To)(hi:N[i]? =So x)(s:QW)(o:(x==("__classdict__":Str))=Fo)(A:Ed)
  (q:CG) (hpl:'б' ('Ķ'.any (·.1)=Fo) Ai)
  (ht:'б' (eval DF Ue=(do
   let ov<-eval Fh Ue
   standAt XM
   let(f,first)<-holding [ov] CN
   callWith pos f first 'μ' Dg)) Ai):PE X DF (tC X U bc fi i cn m p):=by obtain⟨C,kk,f,fd,ps,Y,J,u,F,E,z⟩:=B.ex;have L:=l.g;subst L;exact PE.weak (JiP (rA (by rw[l.hN];exact hi) (l.vis x I) s o) J u F (Room.out E) z .nil pI A q hpl ht) λZ H Q h=>Jmf (f:=f) (kk:=kk) (fd:=fd) (ps:=ps) l Y h λO Q' r g=>⟨O,r,g⟩
def JqG{pl:Cb}(l:Am)(E:NG)(L:visB nm x=To)(hi:N[i]? =So x)(q:QW)(o:(x==("__classdict__":Str))=Fo)
  (B:'б' (eval E6 Ue=(do
   let ov<-eval Fh Ue
   standAt XM
   let(f,first)<-holding [ov] CN
   callWith pos f first 'д' Dg)) Ai):PE X E6 (tC X U bc fi i cn m .nil):=by obtain⟨C,kk,f,fd,ps,h1,Y,s,F,I,A⟩:=E.ex;have hG:=l.g;subst hG;exact PE.weak (Jkk (rA (by rw[l.hN];exact hi) (l.vis x L) q o) Y s F (Room.out I) A .nil pI B) λZ H Q h=>Jmf (f:=f) (kk:=kk) (fd:=fd) (ps:=ps) l h1 h λO Q' r g=>by obtain⟨J,z,u⟩:=g;cases z;exact u [] H D6 rfl
end
section
variable{U:Ag}{p:Px}
def JuN(I:UH)(h0:A4)(F:Di):PE X e Vv:=by
 refine PE.weak I λZ H Q E=>?_;obtain⟨O,e,h⟩:=E;simp only[evB]at h;split at h
 ·rename_i a u fs q;split at h
  ·rename_i B;subst B;refine⟨O,a,u,fs,Yw,q,rfl,F,?_⟩;obtain⟨v,Y,L⟩:=e.read i _ Ad q;obtain rfl:v=.ref a:=L.1;have o:∀{g:D}{W:Hp},plE L5=To->SameP H W->Rep X.K W g Ar->EnvOk X.K [] H0 W Z Qa6:=λhp s r=>e.obj Ad hp s Sa Y (by show Rep X.K GO _ _;rw[JD];exact r);cases z:evD U p O with
   |sk=>rw[z]at h;exact h.elim
   |ex c=>rw[z]at h;simp only[if_true]at h;exactλC W l s=>h C W l TX
   |ok d=>
    rw[z]at h;cases d with
    |lst J=>
     simp only at h;split at h
     ·rename_i A;simp only[Zc]at A;refine⟨J,rfl,A.2,?_⟩;cases y:bc fi (.obj a u fs) J with
      |sk=>rw[y]at h;exact h.elim
      |ok d g=>rw[y]at h;exactλv W s r rd=>h v W (o A.1 s r) rfl s rd
      |ex c g=>rw[y]at h;exactλC W l s r=>h C W l (o A.1 s r)
     ·exact h.elim
    |_=>exact h.elim
  ·exact h.elim
 ·exact h.elim
def JwP{L:A9}{g:Hp}(q:∀a∈L,g a=No):Same g (uni L H g):=λb o h=>by
 have:b∉L:=λl=>by rw[q b l]at h;cases h
 rw[JU this];exact h
def Jkv(he:UH)(h0:A4)(hm:Di)(hi:i∉M)(B:Dd):PE X e Vp:=by
 rintro Y s Z H Q I⟨O,e,h⟩;simp only[evB]at h;split at h
 ·rename_i a l fs q;split at h
  ·rename_i E;subst E;obtain⟨v0,hv,hr⟩:=e.read i _ hi q;obtain rfl:v0=.ref a:=hr.1;obtain⟨ps,e1,e2,I'⟩:=Inv.hide I e.ows.c;cases z:evD U p O with
   |sk=>rw[z]at h;exact h.elim
   |ex c=>rw[z]at h;exact h.elim
   |ok d=>
    rw[z]at h;cases d with
    |lst J=>
     simp only at h;split at h
     ·rename_i L;simp only[Zc]at L;cases y:bc fi Mo J with
      |sk=>rw[y]at h;exact h.elim
      |ex c A=>rw[y]at h;exact h.elim
      |ok d A=>
       rw[y]at h;refine ZY (he (ps++Y) s Z Da (λv g=>SameP Da g/\Rep X.K g A Ar/\Rep X.K g d v) I' ⟨lC M 0 O,a,l,fs,aQ,by rw[tU,q];simp[hi],rfl,hm,?_⟩) (λu s1⟨v,g,I1,rv,sm,r1,r2⟩=>?_) λ_ _ z=>z
       ·rw[pH U O B,z];refine⟨J,rfl,L.2,?_⟩;rw[y];exactλv W s r rd=>⟨s,r,rd⟩
       ·obtain⟨hn,I2⟩:=Inv.unhide I e.ows.c e1 e2 (λb xs w=>sm b _ w rfl) I1;have sp:SameP H (uni BZ H g):=λb o w pk=>by
         by_cases F:b∈Ow M O Z
         ·rw[kL F];exact w
         ·rw[JU F];exact sm b o (by rw[Jt F];exact w) pk
        exact⟨v,_,I2,rv,h v _ (e.obj hi L.1 sp (h0.same YN sp) hv (by rw[jS hn];exact r1)) (Jwj hi) sp (r2.mono (JwP hn))⟩
     ·exact h.elim
    |_=>exact h.elim
  ·exact h.elim
 ·exact h.elim
end
structure FzB(L:A9)(H:Hp)(L':A9)(W:Hp):Prop where
 keep:∀a o,H a=So o->plK o=To->a∉L->W a=So o
 own:∀l∈L',l∈L\/∀o,H l=So o->plK o=Fo
def ChB(m:Bool)(L:A9)(H:Hp)(g:A9)(W:Hp):Prop:=FzB L H g W/\(m=Fo->SameP H W)
section
variable{m n:Bool}{L L1 L2:A9}{H1 H2:Hp}
def ChB.of(h:MF):ChB m L H L1 H1:=⟨⟨λa o e _ q=>h.1.keep a o e q,λl g=>(h.1.own l g).imp id λz o w=>by rw[z]at w;cases w⟩,λz=>SameP.of (h.2 z)⟩
def ChB.sp(h:Qbi):ChB m L H L H1:=⟨⟨λa o e p _=>h a o e p,λl g=>.inl g⟩,λ_=>h⟩
def ChB.trans(a:Qd4)(b:ChB n L1 H1 L2 H2):ChB (m||n) L H L2 H2:=by
 refine⟨⟨λc o e p q=>b.1.keep c o (a.1.keep c o e p q) p λg=>?_,λl r=>?_⟩,λh=>?_⟩
 ·rcases a.1.own c g with h|h
  ·exact q h
  ·rw[h o e]at p;cases p
 ·rcases b.1.own l r with h|h
  ·exact a.1.own l h
  ·by_cases g:l∈L
   ·exact .inl g
   ·refine .inr λo e=>?_;cases p:plK o with
    |false=>rfl
    |true=>rw[<-h o (a.1.keep l o e p g),p]
 ·simp only[ZN]at h;exact(a.2 h.1).trans (b.2 h.2)
def ChB.weak(a:Qd4)(h:n=Fo->m=Fo):ChB n L H L1 H1:=⟨a.1,λq=>a.2 (h q)⟩
end
def OutQ(X:Cx)(w:Bool)(M:As)(H0:Hp)(L:A9)(H:Hp)(m:Bool)(D:Ends)(f:Fw)(O:Fm):Prop:=match f with
 |.nx=>∀g W,EnvOk X.K M H0 W g O->ChB m L H c5 W->D.nx g W
 |.rt d=>∀v W,Same H0 W->Rep X.K W d v->(w=To->∃g,EnvOk X.K M H0 W g O)->D.rt v W
 |.bk=>∀g W,EnvOk X.K M H0 W g O->ChB m L H c5 W->D.bk g W
 |.ct=>∀g W,EnvOk X.K M H0 W g O->ChB m L H c5 W->D.ct g W
def EQ(X:Cx)(M:As)(H0:Hp)(c:Str)(O:Fm):Prop:=∀C W g,X.mg c=So BL->EnvOk X.K M H0 W g O->XE X C W
inductive tSB(X:Cx)(w:Bool)(call:Ag)(bc:AI)(M:As)(H0:Hp)(p:Bs)(D:Ends)(σ:Bl)(H:Hp):Prop where
 |mk:∀env,EnvOk X.K M H0 H σ env->(exO w call bc p env).Good (OutQ X w M H0 (Ow M env σ) H (mutB p) D) (EQ X M H0)->tSB X w call bc M H0 p D σ H
def OutQ.after{r:Hp}{L s:A9}{m n k:Bool}{D:Ends}{f:Fw}(h:OutQ X w M H0 L H k D f O)(c:ChB m L H s r)(A:k=Fo->m=Fo/\n=Fo):OutQ X w M H0 s r n D f O:=by
 have u:∀{z:A9}{W:Hp},ChB n s r z W->ChB k L H z W:=λB=>(c.trans B).weak λq=>by obtain⟨a,b⟩:=A q;rw[a,b];rfl
 cases f with
 |nx=>exactλg W o l=>h g W o (u l)
 |rt d=>exact h
 |bk=>exactλg W o l=>h g W o (u l)
 |ct=>exactλg W o l=>h g W o (u l)
section
variable{U:Ag}{p:Px}{a b:Bs}{q:Sx}{rest sa sb:BF}
def lH(h:PS X st QbM):PS X st UC:=by
 refine PS.weak h λD Z H⟨O,e,h⟩=>Dv;simp only[exO]at h;cases z:exD U q O with
 |sk=>rw[z]at h;exact h.elim
 |ex c=>rw[z]at h;exact h.elim
 |ok r=>
  rw[z]at h;obtain⟨f,u⟩:=r;cases f with
  |nx=>exactλg W o l=>h g W o GN
  |bk=>exactλg W o l=>h g W o GN
  |ct=>exactλg W o l=>h g W o GN
  |rt d=>
   cases w with
   |true=>exact h.elim
   |false=>exactλv W s r=>h v W s r λz=>by cases z
def JfU(h:PSs X rest QbM):PSs X rest UC:=by
 refine PSs.weak h λD Z H⟨O,e,h⟩=>Dv;simp only[exO]at h;cases z:exD U q O with
 |sk=>rw[z]at h;exact h.elim
 |ex c=>rw[z]at h;exact h.elim
 |ok r=>
  rw[z]at h;obtain⟨f,u⟩:=r;cases f with
  |nx=>exactλg W o l=>h g W o GN
  |bk=>exactλg W o l=>h g W o GN
  |ct=>exactλg W o l=>h g W o GN
  |rt d=>
   cases w with
   |true=>exact h.elim
   |false=>exactλv W s r=>h v W s r λz=>by cases z
def gH(h:PS X st Nb):PSs X [st] Nb:=mZ h
def kS(h1:PS X st Nb)(u:PSs X rest Pb):PSs X (st::rest) (tSB X w U bc M H0 IY):=by
 refine PSs.weak (JN h1 u) λD Z H⟨O,e,h⟩=>Dv;refine(Rq.gB.mp h).imp (λf l s=>?_) λ_ _ z=>z;have B:mutB IY=Fo->mutB a=Fo:=λq=>(ZN.mp q).1;cases f with
 |nx=>intro g W r o;refine⟨l,r,s.imp (λE A u=>u.after o λq=>ZN.mp q) λ_ _ z=>z⟩
 |rt d=>exact s
 |bk=>exactλg W r o=>s g W r (o.weak B)
 |ct=>exactλg W r o=>s g W r (o.weak B)
def uW(E:PT X c (tTB X U bc M H0 pb))(B:PSs X sa Nb)(A:PSs X sb Pb):PS X Qag (tSB X w U bc M H0 Iz):=by
 refine PS.weak (rW E B A) λD Z H⟨O,e,h⟩=>Dv;refine(Rx.good_next.mp h).imp (λd g u=>?_) λc g z C W o Y=>z C W Z o Y;cases d with
 |bl k=>
  refine⟨k,rfl,λW J L s=>?_⟩;have l:∀{q:Bs},(mutB Iz=Fo->mutB q=Fo)->(exO w U bc q g).Good (OutQ X w M H0 BZ H (mutB Iz) D) (EQ X M H0)->tSB X w U bc M H0 q D Z W:=λo I=>
   ⟨g,J,I.imp (λf r F=>by rw[L];exact F.after (m:=Fo) (ChB.sp s) λz=>⟨rfl,o z⟩) λ_ _ z=>z⟩
  cases k with
  |true=>exact iteT (l (λz=>(ZN.mp z).1) u)
  |false=>exact iteF (l (λz=>(ZN.mp z).2) u)
 |_=>exact u.elim
def qN(u:PE X e Gz)(hs:swapsWith e No XH Ue=pure Fo):PS X QdC (tSB X w U bc M H0 (.eff pb)):=by refine PS.weak (zK u hs) λD Z H⟨O,e,h⟩=>Dv;exact(Rx.good_next.mp h).imp (λd g o v W A B s r=>o Z W A (by rw[B];exact ChB.sp s)) λc g z C W l E=>z C W Z l E
def mX(l:Cg):PS X M7 (tSB X w U bc M H0 (.ret p)):=by
 refine PS.weak (kN l) λD Z H⟨O,e,h⟩=>La;simp only[exO]at h;cases z:evD U p O with
 |sk=>rw[z]at h;exact h.elim
 |ex c=>rw[z]at h;exactλC W g s=>h C W Z g TX
 |ok d=>rw[z]at h;exactλv W s r=>h v W Qa2 r λ_=>⟨Z,e.grow s⟩
def JvF(C:Am)(hi:N[i]? =So x)(u:locB nm x=To)(A:Tr)(hs:Mr):
  PS X F8 UX:=by
 obtain⟨I,B⟩:=C.sto x u;refine PS.weak (gD CU (by rw[C.hN];exact hi) I A hs B) λD Z H⟨O,e,h⟩=>Dv;refine(Rx.good_next.mp h).imp (λd g l v W E J s r=>?_) λc g z C W o F=>z C W Z o F;split at l
 ·exact l _ W (E.put Ad (by show Rep X.K IX d v;rw[JD];exact r)) (ChB.sp s)
 ·exact l.elim
def Jqz{cx:Str}{ma:Expr}{pm:Px}(r:∀H,PS X Sj (tS X U [] H Qch)):PS X Sj (tSB X w U bc [] H0 Qch):=by
 rintro Y s Z H D I⟨O,e,h⟩;refine r H Y s Z H D I ⟨O,⟨Same.refl H,e.len,e.read,λj d l=>by simp at l,λj _ _ _ _ l=>by simp at l⟩,?_⟩;simp only[exO]at h;simp only[exD];cases z:evD U pm O with
 |sk=>rw[z]at h;exact h.elim
 |ex c=>rw[z]at h;exact h.elim
 |ok d=>
  rw[z]at h;simp only[Rs.bo];simp only at h;split at h
  ·rename_i o;rw[if_pos o];exactλC W g s=>h C W Z g TX
  ·exact h.elim
end
def FldC(G:Gw)(f:Str):Prop:=∀ns C,PySem.W.nsIn G.K mainGlobals D7=So BC->Cls G.K C/\NoAttr G.K C f
theorem JiC{g:Type}(P:α->g->Prop):∀{ns:Ac}{fs:List α}{xs:List g}{d:α},'ɢ'.lookup f=So d->aO=Ah->(∀(i:Nat)(d:α),fs[i]? =So d->∃x,xs[i]? =So x/\P d x)->∃x,'ƹ'.lookup f=So x/\P d x
 |[],_,_,_,h,_,_=>by simp at h
 |n::ns,[],_,_,h,_,_=>by simp at h
 |n::ns,a::fs,[],_,_,hl,_=>by simp at hl
 |n::ns,a::fs,x::xs,d,h,hl,hr=>by
  simp only[rF,Zp]at h⊢
  cases q:f==n with
  |true=>
   rw[q]at h
   cases h
   obtain⟨y,l,o⟩:=hr 0 _ rfl
   simp at l;subst l
   exact⟨_,rfl,o⟩
  |false=>
   rw[q]at h
   exact JiC P h (by simpa using hl) λi d r=>by simpa using hr Bw d (by simpa using r)
section
variable{U:Ag}{p:Px}
def JwM(C:Am)(u:Dr)(I:Cg)(B:attributeBase e f Ue MD=eval e Ue):PE X SW (tI X U (.un (.fld f) p)):=by
 refine PE.weak (JeP I B) λZ H Q h=>h.un1 λd v W s E g=>?_;cases d with
 |obj a ns fs=>
  simp only[op1]at g;obtain⟨rfl,l,F,xs,L,o,h3,r⟩:=E;cases q:'ɢ'.lookup f with
  |none=>rw[q]at g;exact g.elim
  |some d=>rw[q]at g;obtain⟨x,A,J⟩:=JiC (λd x=>Rep X.K W d x) q r.length.symm λi d g=>r.get g;rw[C.K]at o;obtain⟨Y,z⟩:=u ns l o;exact⟨a,l,F,_,x,rfl,L,by rw[C.K];exact Y,by rw[C.K];exact z,A,Out.now g J⟩
 |_=>exact(show False from g).elim
end
noncomputable def JrX:HO->Prop
 |.ins _ _ _=>False
 |_=>True
def SameN(H W:Hp):Prop:=∀a o,H a=So o->JrX o->W a=So o
def SameN.p(s:Qdp):SameP H W:=λa o h p=>s a o h (by cases o<;>first|trivial|cases p)
def DK.no{t z:Bool}{ks:Ak}(h:Rj):∃o,H a=So o/\JrX o:=by
 cases t<;>cases z<;>obtain⟨l,g,q⟩:=h
 ·exact Hk
 ·obtain⟨o,g⟩:=g;exact Hk
 ·exact Hk
 ·obtain⟨o,g⟩:=g;exact Hk
def Rep.fld(s:Qdp)(l:vI d=To)(h:Dt):Rep K W d v:=by
 cases d with
 |dct t z ks E=>obtain⟨a,xs,u,g,r⟩:=h;obtain⟨o,A,B⟩:=g.no;exact⟨a,xs,u,g.mono λF q=>by rw[A]at q;cases q;exact s a _ A B,Reps.plain s.p E l r⟩
 |mls t J=>obtain⟨a,xs,u,g,r⟩:=h;exact⟨a,xs,u,s a _ g trivial,Reps.plain s.p J l r⟩
 |_=>exact Rep.plain s.p _ l h
theorem Reps.fld(s:Qdp):∀{J:Ak}{xs:Av},J.all vI=To->Reps K H J xs->Reps K W J xs
 |[],_,_,h=>h
 |d::J,_,p,⟨x,r,e1,h1,h2⟩=>by
  simp only[fF,Zc]at p
  exact⟨x,r,e1,Rep.fld s p.1 h1,Reps.fld s p.2 h2⟩
theorem JnY:∀{ns:Ac}{xs:Av},ns.contains f=To->AK=Ah->putF f v Xc=ns.zip (putN f v ns xs)
 |[],_,h,_=>by simp at h
 |n::ns,[],_,hl=>by simp at hl
 |n::ns,x::xs,h,hl=>by
  simp only[rF,putF,putN]
  by_cases q:n=f
  ·rw[if_pos q,if_pos q];rfl
  ·rw[if_neg q,if_neg q]
   simp only[yP,nB,ZI]at h
   rw[JnY (h.resolve_left λz=>q z.symm) (by simpa using hl)]
   rfl
theorem kZ{v:α}:∀(ns:Ac)(xs:List α),(putN f v ns xs).length=Ah
 |[],xs=>by cases xs<;>rfl
 |n::ns,[]=>rfl
 |n::ns,x::xs=>by simp only[putN];split<;>simp[kZ ns xs]
theorem Reps.putN(g:Dt):∀{ns:Ac}{J:Ak}{xs:Av},Reps K H J xs->Reps K H (Pu.putN f d ns J) (Pu.putN f v ns xs)
 |[],J,xs,h=>by cases J<;>cases xs<;>exact h
 |n::ns,[],xs,h=>by cases h;exact rfl
 |n::ns,d'::J,_,⟨x,r,e1,h1,h2⟩=>by
  subst e1
  simp only[Pu.putN]
  by_cases q:n=f
  ·rw[if_pos q,if_pos q];exact⟨_,_,rfl,g,h2⟩
  ·rw[if_neg q,if_neg q];exact⟨_,_,rfl,h1,Reps.putN g h2⟩
def Jqv(I:A4)(e:EnvOk K [] H0 H Z (So CD::O))(hp:plE O=To)(F:fs.all vI=To)(U:ns.contains f=To)(J:vI d=To)(Y:Dt):
  Z[0]? =So (So Ar)/\∃C dx xs,H a=So (.ins C dx Xc)/\PySem.W.nsIn K mainGlobals D7=So BC/\(ns.zip xs).length<=AK/\SameP H R0/\EnvOk K [] H0 R0 Z (So Qci::O):=by
 obtain⟨u,s,l⟩:=e.read 0 _ Ad rfl;replace l:Rep K H CD u:=by have z:Rep K IW CD u:=l;rw[JD]at z;exact z
 obtain⟨rfl,C,dx,xs,E,A,r,B⟩:=l;have g:SameN H R0:=λb o q h=>by rw[Jb (λz=>by subst z;rw[E]at q;cases q;exact h)];exact q
 refine⟨s,C,dx,xs,E,A,by rw[List.length_zip];exact Nat.min_le_left _ _,g.p,?_⟩;refine e.obj (i:=0) Ad hp g.p (I.same YN g.p) s ?_;show Rep K GO _ _;rw[JD];have L:AK=Ah:=r.trans B.length.symm;refine⟨rfl,C,dx,putN f v ns xs,by rw[Je,JnY U L],A,by rw[kZ];exact r,?_⟩;exact Reps.putN (Rep.fld g J Y) (Reps.fld g F B)
section
variable{U:Ag}{p:Px}{ipos:Pos}
structure Slf(N:Ac)(nm:Bj)(x:Str):Prop where
 at_:N[0]? =So x
 vis:visB nm x=To
 d1:(x==("__debug__":Str))=Fo
 d2:(x==("__classdict__":Str))=Fo
def Slf.pe(S:GF)(C:Am):PE X Do (λZ H Q=>∃v,Z[0]? =So BO/\Q v H):=rA (by rw[C.hN];exact S.at_) (C.vis x S.vis) S.d1 S.d2
def Jtv{P:Fw->Fm->Prop}{E:D8}(h:(chgF f d O).Good P E):∃a ns fs g,O=So CD::g/\ns.contains f=To/\fs.all vI=To/\plE g=To/\ns.length<1000/\P .nx (So Qci::g):=by
 unfold chgF at h;split at h
 ·rename_i a ns fs g;split at h
  ·rename_i l;simp only[Zc]at l;exact⟨a,ns,fs,g,rfl,l.1.1.1,l.1.1.2,l.1.2,by simpa using l.2,h⟩
  ·exact h.elim
 ·exact h.elim
theorem JrM{d:α}:∀{ns:Ac}{fs:List α},'ɢ'.lookup f=So d->ns.contains f=To
 |[],_,h=>by simp at h
 |n::ns,[],h=>by simp at h
 |n::ns,y::fs,h=>by
  simp only[rF,Zp]at h
  simp only[yP,nB]
  cases q:f==n with
  |true=>exact .inl rfl
  |false=>rw[q]at h;exact .inr (JrM h)
def JlB{k:D}(q:Ji d=To)(ks vs:Ak)(g:Ja vs=To):Ja (putD k d ks vs).2=To:=by
 have l:∀(ks vs:Ak),Ja vs=To->Ja (setD k d ks vs)=To:=λks=>by
  induction ks with
  |nil=>intro vs g;cases vs<;>exact g
  |cons a ks o=>
   intro vs g;cases vs with
   |nil=>rfl
   |cons u vs=>
    simp only[Ja,Zc]at g;simp only[setD,Ja,Zc];refine⟨?_,o vs g.2⟩;split
    ·exact q
    ·exact g.1
 have h:∀vs:List D,Ja vs=To->Ja (vs++[d])=To:=λvs=>by
  induction vs with
  |nil=>intro _;simp[Ja,q]
  |cons u vs o=>intro g;simp only[Ja,Zc]at g;simp only[rB,Ja,Zc];exact⟨g.1,o g.2⟩
 unfold putD;split
 ·exact l _ _ g
 ·exact h _ g
end
section
variable{w:AQ}{sc:Bf}{f:Addr}{cd:An}{A:Bv}{outer:Bq}{s:Al}{E:XK}
def Jhr(S:FnScope N ps sc)(l:Room k (A.deeper QL)):Ctx (cxOf A0 P w K mg base N qual sc f cd A outer s H E) ⟨P,w,K,mg,base,A.deeper QL⟩ N XQ where
 g:=rfl
 hN:=rfl
 nd:=S.nd
 vis:=λy h=>by
  show Vis sc y
  unfold visB at h
  split at h
  ·rename_i z;exact .inl z
  ·rename_i z;exact .inr YY
  ·rename_i z;exact .inr bA
  ·cases h
 cel:=λy h=>by
  show sc.names.lookup y=So .cell\/sc.names.lookup y=So .free
  unfold celB at h
  split at h
  ·rename_i z;exact .inl z
  ·rename_i z;exact .inr z
  ·cases h
 glo:=λy h=>by
  show sc.names.lookup y=So .globalImplicit
  unfold gloB at h
  split at h
  ·rename_i z;exact z
  ·cases h
 sto:=λy h=>by
  show Loc sc y/\(To=To\/_)
  unfold locB at h
  split at h
  ·rename_i z;exact Og
  ·rename_i z;exact Of
  ·cases h
 calm:=rfl
 un:=l.units
 fr:=O0
end
def JqC{r:Fm}{l g:D}(e:EnvOk K [] H0 W Z (So g::r))(hs:wC l g=To)(h:Rep K H l Ar):Rep K W g Ar:=by
 obtain⟨v,_,o⟩:=e.read 0 _ Ad rfl;replace o:Rep K W g v:=by have z:Rep K IX g v:=o;rw[JD]at z;exact z
 cases g with
 |obj b ns fs=>
  cases l with
  |obj c s u=>
   have A:a=c:=by injection h.1
   have q:c=b:=by simpa[wC]using hs
   subst A;subst q;have B:=o.1;subst B;exact o
  |_=>simp[wC]at hs
 |_=>cases l<;>simp[wC]at hs
section
variable{w:AQ}{defs:Ci}{bdefs:EI}{d:DefB}
theorem Jur{Tb:Hp->Prop}{f:Addr}(F:E0)(S:K3)(hd:bdefs[fi]? =So d)(hs:d.slots=XA)(hp:d.params=Aq)(hpN:Aq<=XA)
  (I:∀(X:Cx)(A:Bv)(H0:Hp),Ctx X AM N 'Ɯ'.names->Room j A->HX X 'Ɯ'.names->Tb X.H₀->X.env.code=fd.code->Qbm=qual++".<locals>."->PlO H0->PSs X Ew Ux):
  FnOk P w K mg base A0 (j+1) f fd ps (λvs H Q E=>Tb H/\spB K mg Ld fi vs H Q E):=by
 have unf:∀st J,runB defs bdefs AZ fi st J=if Ae+1=Z1 then ansB st (exO To CC Dq X9 (JC Yq (st::J)))else .sk:=λst J=>by simp only[runB,hd]
 obtain⟨oc,od,kV,doc,pm,an,cdv,ct,osl,rfl,lk,hcd⟩:=F.ex;refine eK lk hcd S (λvs H Q E h=>?_) (λA outer s H vs Q E hr h=>?_)
 ·obtain⟨_,a,ws,l,J,rfl,U,r2,hpl,g⟩:=h;rw[unf]at g;split at g
  ·rename_i q;rw[Zk,r2.length,q,hp]
  ·exact g.elim
 ·obtain⟨tb,a,ws,l,J,rfl,U,r2,hpl,g⟩:=h;rw[unf]at g;split at g
  ·rename_i q;have e0:EnvOk K [] H H (L2.jC N (.ref a::ws)) (JC Yq (l::J)):=by have:=xU (d:=⟨Yq,Z1,.skip⟩) (M:=[]) hs (J:=l::J) (by simp only[Zk];lia) (λi L=>by simp at L) (show Reps K H (l::J) (.ref a::ws)from⟨_,_,rfl,U,r2⟩);exact this
   refine⟨_,I _ _ (pl H) c6 hr Lh tb rfl rfl pY,JC Yq (l::J),⟨wZ,e0.len,e0.read,λ_ _ L=>by simp at L,λ_ _ _ _ _ L=>by simp at L⟩,?_⟩;cases q2:exO To CC Dq X9 (JC Yq (l::J))with
   |sk=>rw[q2]at g;exact g.elim
   |ok fl u=>
    rw[q2]at g;cases u with
    |nil=>cases fl<;>exact g.elim
    |cons o r=>
     cases o with
     |none=>cases fl<;>exact g.elim
     |some st'=>
      cases fl with
      |bk=>exact g.elim
      |ct=>exact g.elim
      |nx=>
       simp only[ansB]at g;split at g
       ·rename_i z;exactλY W B _=>g .non W HZ bV rfl
       ·exact g.elim
      |rt dd=>
       simp only[ansB]at g;split at g
       ·rename_i z;exactλv W s' r' hw=>let⟨Y,B⟩:=hw rfl;g v W HZ bV r'
       ·exact g.elim
   |ex c u=>
    rw[q2]at g;cases u with
    |nil=>exact g.elim
    |cons o r=>
     cases o with
     |none=>exact g.elim
     |some st'=>
      simp only[ansB]at g;split at g
      ·rename_i z;exactλC2 H2 Y hm B a' s' F'=>lO F' (g C2 H2 hm HZ bV)
      ·exact g.elim
  ·exact g.elim
def JwZ{f:Addr}(F:E0)(S:K3)(o:bdefs[fi]? =So d)(hs:d.slots=XA)(s:d.params=Aq)(h:Aq<=XA)
  (g:∀(X:Cx)(A:Bv)(H0:Hp),Ctx X AM N 'Ɯ'.names->Room j A->HX X 'Ɯ'.names->PlO H0->PSs X Ew Ux):
  FnOk P w K mg base A0 (j+1) f fd ps (spB K mg Ld fi):=(Jur (Tb:=λ_=>True) F S o hs s h λX A H0 C q l _ _ _ r=>g X A H0 C q l r).imp λu H Q E z=>⟨trivial,z⟩
def JqT{f:Addr}:FnOk P w K mg base A0 0 f fd ps (spB K mg Ot fi):=
 ⟨λo H Q E⟨_,_,_,_,_,_,_,_,h⟩=>h.elim,λA g s H l q o Q E _ _ _ _⟨_,_,_,_,_,_,_,_,h⟩=>h.elim⟩
end
def sW(K:Aj):Sp:=λg H Q _=>∃(a:Addr)(ns:AU),g=Cs/\SqL K H a (ns.map V.int)/\ns.length<=63/\∀W,Q CW W
section
variable{w:AQ}{U:Ag}
theorem JhT:∀ns:List Int,Reps K H DX Rf
 |[]=>rfl
 |n::ns=>⟨.int n,ns.map V.int,rfl,rfl,JhT ns⟩
def JtZ{j:Nat}{x qual SP:Str}{st:Stmt}{f:Addr}{fd:BG}{N:Ac}{M:As}{i:Nat}{b:Bs}{t:Cx->Hp->L2.TS}(F:E0)(S:FnScope N [SP] Ug)(hM:∀i∈M,1<=i)(hN:1<=XA)
  (g:∀(X:Cx)(A:Bv)(H0:Hp),Ctx X AM N 'Ɯ'.names->Room j A->HX X 'Ɯ'.names->PlO H0->PSs X Ew (t X H0))
  (ht:∀(X:Cx)(H0 H:Hp)(Z:Bl)(D:Ends)(ns:AU),X.K=K->AK<=63->EnvOk K M H0 H Z (JC XA Qds)->(∀W,D.rt CW W)->t X H0 D Z H):FnOk P w K mg base A0 (j+1) f fd [SP] (sW K):=by
 obtain⟨oc,od,kV,L,pm,an,cdv,ct,osl,rfl,lk,u⟩:=F.ex;refine eK lk u S (λvs H Q E h=>?_) (λA r s H vs Q E z h=>?_)
 ·obtain⟨a,ns,rfl,_⟩:=h;rfl
 ·obtain⟨a,ns,rfl,hs,I,k⟩:=h;refine⟨_,g _ _ (pl H) (Jhr S z) z Lh pY,ht _ (pl H) H _ _ ns rfl I ?_ k⟩;have o:=xU (K:=K) (d:=OE) (M:=M) (H:=H) rfl (J:=Qds) (vs:=Cs) hN hM ⟨_,_,rfl,⟨a,_,rfl,hs,JhT ns⟩,rfl⟩;exact⟨wZ,o.len,o.read,λq d hq B=>by
   obtain⟨l,g1,g0,Y⟩:=o.own q d hq B;refine⟨l,g1,?_,Y⟩;unfold pl;rw[g0],o.apart⟩
end
noncomputable abbrev MethE:=Str×Str×Stmt×List Str
structure Met1(K:Aj)(C:Addr)(e:Z6)(f:Addr)(fd:BG):Prop where
 F:Fun K e.1 e.2.1 e.2.2.1 f fd
 m:Meth K C e.1 f
 b:Binds K fd e.2.2.2 []
section
variable{w:AQ}{defs:Ci}{bdefs:EI}
noncomputable def HasM (K:Aj) (C:Addr):List MethE->Prop
 |[]=>True
 |e::T=>(∃f g,Met1 K C e f g)/\HasM K C T
noncomputable def OkM (P:Ba) (w:AQ) (K:Aj) (mg:Bk) (base:Heap) (defs:Ci) (bdefs:EI) (C:Addr) (k:Nat):Nat->List MethE->Prop
 |_,[]=>True
 |i,e::T=>(∀f g,Met1 K C e f g->FnOk P w K mg base A0 (3*k) f g e.2.2.2 (spB K mg Dq i))/\OkM P w K mg base defs bdefs C k Bw T
theorem Jge:∀(T:IS)(i:Nat),OkM P w K mg base defs bdefs C 0 i T
 |[],_=>trivial
 |e::T,i=>⟨λ_ _ _=>JqT,Jge T Bw⟩
def foB{l:Gw->CallD->CallB->Prop}{e:Z6}{d:DefB}{b:Bs}(E:∀A,Room E8 A->l AM CC Dq)(u:∀{X:Cx}{G:Gw}{U:Ag}{bc:AI}{H0:Hp},l G U bc->Ctx X G N (Jd e.2.2.1).names->HX X (Jd e.2.2.1).names->PlO H0->PSs X (Jp e.2.2.1) (tSB X To U bc [] H0 b))
  (r:'б' (bdefs[i]? =So d) Ai) (hb:'б' (X9=b) Ai) (h:'б' ((sI N e.2.2.2 (Jd e.2.2.1)&&d.slots==XA&&d.params==e.2.2.2.length&&decide (e.2.2.2.length<=XA))=To) Kb):
  ∀f g,Met1 K C e f g->FnOk P w K mg base A0 (3*AZ) f g e.2.2.2 (spB K mg Ld i):=λf g D=>by
 simp only[Zc,ZI,Zw]at h
 obtain⟨⟨⟨F,B⟩,q⟩,s⟩:=h
 subst hb
 exact JwZ (j:=3*k+2) D.F (nI F) r B q s λX A H0 C z o I=>u (E A z) C o I
noncomputable def MsIn (K:Aj) (C:Addr):List MethE->Prop
 |[]=>True
 |e::T=>(∃f g,Fun K e.1 e.2.1 e.2.2.1 f g/\Meth K C e.1 f)/\MsIn K C T
def meth_mk{n h:Str}{s:Stmt}{f:Addr}{r z:Du}{sl:Eb}{q kV u pm o ct:An}(a:PySem.W.findIn K BL n=So EN)(i:PySem.W.isFn K Br=To)(l:K.lookup f=So ⟨q,r,.func (PySem.W.fnOf n h (pL s) (Jp s) (Jd s) .none kV u pm z o ct),sl⟩)(c:PySem.W.codeIn K o h=To)(k:PySem.W.keepIn K Br=To):
  ∃f g,Fun K n h s f g/\Meth K C n f:=⟨f,_,Jri l c k,a,i,k⟩
abbrev BsM(e:Z6):Prop:=∀(kV h q:An)(o:Du)(g ct:An)(l:AE),XN=e.2.2.2.length->bindArgs (PySem.W.fnOf e.1 e.2.1 (pL e.2.2.1) (Jp e.2.2.1) (Jd e.2.2.1) .none kV h q o g ct) ⟨l,[]⟩=pure (e.2.2.2.zip l)
noncomputable def BmOk:List MethE->Prop
 |[]=>True
 |e::T=>BsM e/\BmOk T
theorem JiE:∀{T:IS},MsIn K C T->BmOk T->HasM K C T
 |[],_,_=>trivial
 |e::T,d,b=>⟨let⟨f,g,F,m⟩:=d.1;⟨f,g,F,m,F.binds b.1⟩,JiE d.2 b.2⟩
end
section
variable{U:Ag}{a ev:Expr}{p:Px}{pa:Bx}{spos dpos:Pos}
def bEq(C:Am)(h:Qdo)(g:PE X b Gz):PE X Tt (tB X U bc M H0 Rn):=JvU cX h g C5
def cM{pl:Cb}(C:Am)(r:A4)(q:SZ)(g:Gx)(o:Di)(A:Ed)
  (h:Ly) (l:'Ķ'.any (·.1)=Fo)
  (z:eval DF Ue=(do
   let ov<-eval Fh Ue
   standAt XM
   let(f,first)<-holding [ov] CN
   callWith pos f first 'μ' Dg)):PE X DF Vv:=by simp only[chkV,Zc,ZI]at g;obtain⟨u,s⟩:=plainN.d g.2;exact JuN (Jnr C q g.1.2 g.1.1 u s A h l z) r o
def cMH{pl:Cb}(C:Am)(s:A4)(r:SZ)(g:(chkV N nm i x&&!M.contains i)=To)(q:Di)(B:Ed)(l:Dd)
  (h:Ly) (o:'Ķ'.any (·.1)=Fo)
  (A:eval DF Ue=(do
   let ov<-eval Fh Ue
   standAt XM
   let(f,first)<-holding [ov] CN
   callWith pos f first 'μ' Dg)):PE X DF Vp:=by simp only[chkV,Zc,ZI,ZV,qJ,oE]at g;obtain⟨z,u⟩:=plainN.d g.1.2;exact Jkv (Jnr C r g.1.1.2 g.1.1.1 z u B h o A) s q g.2 l
def cMH0{pl:Cb}(C:Am)(o:A4)(l:SZ)(g:(chkV N nm i x&&!M.contains i)=To)(h:Di)
  (s:eval E6 Ue=(do
   let ov<-eval Fh Ue
   standAt XM
   let(f,first)<-holding [ov] CN
   callWith pos f first 'д' Dg)):PE X E6 (tB X U bc M H0 (.call Fo fi i ns .nil)):=by simp only[chkV,Zc,ZI,ZV,qJ,oE]at g;obtain⟨r,q⟩:=plainN.d g.1.2;exact Jkv (JqG C l g.1.1.2 g.1.1.1 r q s) o h g.2 (by unfold sepP;exact uB.mpr λ_ _=>rfl)
def iH(g:chkV N nm 0 x=To):Slf N nm x:=by simp only[chkV,Zc,ZI]at g;obtain⟨h,l⟩:=plainN.d g.2;exact⟨g.1.1,g.1.2,h,l⟩
def bSet(C:Am)(h:chkA N nm [] i x=To)(o:Tr)(hs:Nz):PS X F8 UX:=by obtain⟨l,g,q⟩:=chkA.at h;exact JvF C l g o hs
def lX{cx:Str}{ma:Expr}(C:Am)(g:ExcC G cx)(h:chkG nm cx=To)(l:PE X ma (tM X U p))(hs:starEach [ma] Ue=(Fo,eval ma Ue)::starEach [] Ue):
  PS X Sj (tSB X w U bc [] H0 (.raise cx p)):=Jqz λH=>Jfx C g h l hs
end
def upd_upd{o u:HO}:upd (upd H a u) a o=upd H a o:=funext λb=>by
 by_cases q:b=a
 ·subst q;rw[Je,Je]
 ·rw[Jb q,Jb q,Jb q]
def Jfi:MtM X "list.append" (λx h H Q=>∃l t xs y,x=.ref l/\h=[y]/\H l=So (.lsm t xs)/\xs.length<sizeLine/\Q .non (upd H l (.lsm t (xs++[y])))):=by rintro Y s Z H x h v F Q I B E⟨l,t,xs,y,o,g,L,J,q⟩;refine thn (Jhd Y s Z _ x h v F (λv W=>v=.non/\W=upd H l (.lst (xs++[y]))) (Inv.asL I L) B E ⟨l,xs,y,o,g,Je,J,rfl,upd_upd⟩) λu s1 r=>?_;obtain⟨v,H1,U,z,o,g⟩:=r;subst o g;have A:=Inv.asM U t Je;rw[upd_upd]at A;exact Qea
def xY(t:Str):PE X (.List [] pos) (λZ H Q=>∀l,H l=No->Q BH Pa):=by intro Y s Z H Q I h;refine thn (Jsk mE Y s Z H (λv W=>∃l,v=.ref l/\H l=No/\W=upd H l GD) I ⟨by decide,λl A=>⟨l,rfl,A,rfl⟩⟩) λu J o=>?_;obtain⟨v,F,E,g,l,B,r,z⟩:=o;subst B z;have q:=Inv.asM E t Je;rw[upd_upd]at q;exact⟨_,_,q,g,h l r⟩
section
variable{T:Addr}{o o':HO}{m:Bool}
noncomputable def ofM (m:Bool) (f:Str):HO->Prop
 |.lsm t _=>m=To/\t=f
 |.dK _=>m=Fo
 |.dT _=>m=Fo
 |_=>False
def ofM.sp(h:H T=So o)(g:Qdq):SameP H GZ:=λb u e p=>by
 rw[Jb λz=>by subst z;rw[h]at e;cases e;cases o<;>first|(cases p;done)|exact(show False from g)];exact e
def Rep.oth(h:H T=So o)(s:Qdq)(l:othD m f d=To)(r:Dt):Rep K GZ d v:=by
 have sp:SameP H GZ:=ofM.sp h s;cases d with
 |mls t J=>
  obtain⟨a,xs,B,u,A⟩:=r;simp only[othD,Zc,nB,ZV,ZA]at l;refine⟨a,xs,B,?_,Reps.plain sp J l.2 A⟩;rw[Jb λz=>by
   subst z;rw[h]at u;cases u;obtain⟨L,F⟩:=s;rcases l.1 with z|z
   ·rw[L]at z;cases z
   ·exact z F]
  exact u
 |dct t z ks Y=>
  obtain⟨a,xs,B,u,A⟩:=r;simp only[othD,Zc]at l;obtain⟨E,U⟩:=l;subst E;refine⟨a,xs,B,u.mono λo1 q=>?_,Reps.plain sp Y U A⟩;rw[Jb λw=>by
   subst w;rw[h]at q;cases q;cases t<;>cases z<;>obtain⟨I,g,_⟩:=u
   ·rw[h]at g;cases g;cases s
   ·obtain⟨_,g⟩:=g;rw[h]at g;cases g;exact s
   ·rw[h]at g;cases g;cases s
   ·obtain⟨_,g⟩:=g;rw[h]at g;cases g;exact s]
  exact q
 |_=>exact Rep.plain sp _ l r
theorem Jjx(h:H T=So o)(A:Qdq){g:Str}{d':D}:∀{ns:Ac}{fs:Ak}{xs:Av},(∀x,'ƹ'.lookup g=So x->Rep K GZ d' x)->ns.contains g=To->(putN g .non ns fs).all LF=To->Reps K H fs xs->Reps K GZ (putN g d' ns fs) xs
 |[],fs,xs,_,hc,_,_=>by simp at hc
 |n::ns,[],xs,_,_,_,h=>by cases h;exact rfl
 |n::ns,d::fs,_,hx,hc,l,⟨x,r,B,E,u⟩=>by
  subst B
  have all:∀{fs:Ak}{r:Av},fs.all LF=To->Reps K H fs r->Reps K GZ fs r:=fun{fs}=>by
   induction fs with
   |nil=>intro r _ z;exact z
   |cons d fs I=>
    rintro _ l⟨x,r,B,E,u⟩
    simp only[fF,Zc]at l
    exact⟨x,r,B,Rep.oth h A l.1 E,I l.2 u⟩
  simp only[putN]at l⊢
  by_cases q:n=g
  ·subst q
   rw[if_pos rfl]at l⊢
   simp only[fF,Zc]at l
   exact⟨x,r,rfl,hx x (by simp[Zp]),all l.2 u⟩
  ·rw[if_neg q]at l⊢
   simp only[fF,Zc]at l
   have s:(g==n)=Fo:=by simpa using λz=>q z.symm
   simp only[yP,s,gF]at hc
   exact⟨x,r,rfl,Rep.oth h A l.1 E,Jjx h A (λy F=>hx y (by simp only[rF,Zp,s];exact F)) hc l.2 u⟩
end
section
variable{U:Ag}{p:Px}{mpos spos:Pos}
def Juw(C:Am)(h0:A4)(S:GF)(L:Dr){g:Pos}(hs:'б' (swapsWith (.List [] g) (So CA) XH Ue=pure Fo) Ai):
  PS X (.Assign OZ (.List [] g) pos) UL:=by
 refine PS.weak (rR J0 (xY f) hs) λD Z H u l hl=>?_;obtain⟨O,e,h⟩:=u;obtain⟨a,ns,fs,I,rfl,hn,s,B,z,hD⟩:=Jtv h;have E:Same H (upd H l (.lsm f [])):=λb o q=>by rw[Jb (Jh q hl)];exact q
 obtain⟨A,F,dx,xs,h1,J,r,sp,Y⟩:=Jqv (f:=f) (d:=.mls f []) (v:=.ref l) h0 (e.grow E) B s hn rfl ⟨l,[],rfl,Je,rfl⟩;rw[C.K]at J;obtain⟨k1,k2⟩:=L ns F J;exact⟨_,A,a,F,dx,_,rfl,h1,by rw[C.K];exact k1,by rw[C.K];exact k2,xH r z,hD Z _ Y (ChB.sp ((SameP.of E).trans sp))⟩
def JiV{m:Bool}{g:D->Option D}{P:Fw->Fm->Prop}{E:D8}(h:(chgM m f g O).Good P E):∃a ns fs env' d d',O=So CD::env'/\(ns.zip fs).lookup f=So d/\g d=So d'/\plE env'=To/\(putN f .non ns fs).all LF=To/\P .nx Mp:=by
 unfold chgM at h;split at h
 ·rename_i a ns fs env';split at h
  ·rename_i d q;split at h
   ·rename_i d' o;split at h
    ·rename_i l;simp only[Zc]at l;exact⟨a,ns,fs,env',d,d',rfl,q,o,l.1,l.2,h⟩
    ·exact h.elim
   ·exact h.elim
  ·exact h.elim
 ·exact h.elim
def hJ{m:Bool}{env':Fm}(e:EnvOk K [] H0 H Z (So CD::env'))(q:'ɢ'.lookup f=So d):
  Z[0]? =So (So Ar)/\∃C B xs v,H a=So (.ins C B Xc)/\PySem.W.nsIn K mainGlobals D7=So BC/\(ns.zip xs).lookup f=So v/\Rep K H d v/\
   ∀(g:Hp)(T:Addr)(o l:HO)(d':D),PlO H0->Same H g->plE env'=To->(putN f .non ns fs).all LF=To->v=.ref T->g T=So o->ofM m f o->Rep K bW d' v->SameP H (upd g T l)/\EnvOk K [] H0 bW Z Mp:=by
 obtain⟨u,s,J⟩:=e.read 0 _ Ad rfl;replace J:Rep K H CD u:=by have z:Rep K IW CD u:=J;rw[JD]at z;exact z
 obtain⟨rfl,C',B,xs,I,Y,g3,F⟩:=J;obtain⟨v,gT,gv⟩:=JiC (λd x=>Rep K H d x) q F.length.symm λi d hd=>F.get hd;refine⟨s,C',B,xs,v,I,Y,gT,gv,λg T o l d' h0 h hp ho ev A E r=>?_⟩;have sp:SameP g bW:=ofM.sp A E;refine⟨(SameP.of h).trans sp,(e.grow h).obj (i:=0) Ad hp sp (h0.same (e.grow h).same sp) s ?_⟩;show Rep K GO _ _;rw[JD];refine⟨rfl,C',B,xs,by rw[Jb (λz=>by subst z;rw[h _ _ I]at A;cases A;exact E)];exact h _ _ I,Y,by rw[kZ];exact g3,?_⟩;exact Jjx A E (λy L=>by rw[gT]at L;cases L;exact r) (JrM q) ho (F.mono h)
theorem JuU(C:Am)(h0:A4)(S:GF)(hf:Dr)(he:Cg)(hl:Mc)
  (hb:Su) (hb2:'б' (attributeBase CA "append" Ue (eval CA Ue)=eval CA Ue) Ai)
  (hs:J5):
  PS X WR UW:=by
 refine PS.weak (zK (yM jM lW kW Jfi Iy (JP he mE hs) hb2 (by rw[hs];rfl) hl hs rfl) rfl) λD Z H E=>?_;obtain⟨O,e,h⟩:=E;simp only[exO]at h;cases z:evD U p O with
 |sk=>rw[z]at h;exact h.elim
 |ex c=>rw[z]at h;exact h.elim
 |ok y=>
  rw[z]at h;simp only at h;split at h
  ·rename_i hy;obtain⟨a,ns,fs,env',d,d',rfl,q,o,hp,ho,hD⟩:=JiV h;obtain⟨F,C',dx,xs,v,g1,g2,g3,gv,s⟩:=hJ (m:=To) e q;cases d with
   |mls t J=>
    simp only[appG]at o;split at o
    ·rename_i hc;cases o;simp only[Zc,ZI,Zw]at hc;obtain⟨⟨rfl,L⟩,g⟩:=hc;obtain⟨T,ys,rfl,Y,r⟩:=gv;rw[C.K]at g2;obtain⟨k1,k2⟩:=hf ns C' g2;refine⟨_,F,a,C',dx,_,.ref T,rfl,g1,by rw[C.K];exact k1,by rw[C.K];exact k2,g3,.inr (.inr (.inr (.inr ⟨rfl,_,ys,Y⟩))),_,Yw,?_⟩;rw[z];intro u A B r1;have l:=B _ _ Y;have hz:By<1000:=by rw[<-r.length]at g;exact g
     refine⟨T,_,ys,u,rfl,rfl,l,by show _<16777216;lia,?_⟩;have sp:SameP A (upd A T (.lsm t (ys++[u]))):=ofM.sp (m:=To) (f:=t) l Cw;obtain⟨I,e2⟩:=s A T _ (.lsm t (ys++[u])) (.mls t (J++[y])) h0 B hp ho rfl l Cw ⟨T,_,rfl,Je,(Reps.plain sp J L (r.mono B)).append (Reps.one (Rep.plain sp y hy r1))⟩;exact hD Z _ e2 (ChB.sp I)
    ·cases o
   |_=>cases o
  ·exact h.elim
theorem Jup{ev:Expr}(C:Am)(h0:A4)(S:GF)(hf:Dr)(hk:LW)(hv:PE X ev Gh)
  (hb:Su) (hs:'б' (swapsWith ev UK XH Ue=pure Fo) Ai):
  PS X VZ Vh:=by
 have hu:=C.un;refine PS.weak (eZ Af Iy hk hv hs) λD Z H⟨O,e,h⟩=>La;simp only[exO]at h;cases z:evD U p O with
 |sk=>rw[z]at h;exact h.elim
 |ex c=>rw[z]at h;exact h.elim
 |ok y=>
  rw[z]at h;simp only at h;cases s:evD U pk O with
  |sk=>rw[s]at h;exact h.elim
  |ex c=>rw[s]at h;exact h.elim
  |ok k0=>
   rw[s]at h;simp only at h;split at h
   ·rename_i I;simp only[Zc]at I;obtain⟨a,ns,fs,env',d,d',rfl,q,l,hp,ho,hD⟩:=JiV h;intro v H1 Y r1;have e1:=e.grow Y;obtain⟨F,C',dx,xs,vT,g1,g2,g3,gv,u⟩:=hJ (m:=Fo) e1 q;cases d with
    |dct t zz ks E=>
     cases t<;>cases zz<;>first|(cases l;done)|skip
     simp only[putG]at l;split at l
     ·rename_i A;cases l;simp only[Zc,Zw]at A;obtain⟨T,xsT,rfl,⟨kvs,gk,rfl,rfl⟩,B⟩:=gv;rw[C.K]at g2;obtain⟨k1,k2⟩:=hf ns C' g2;refine⟨_,F,a,C',dx,_,.ref T,rfl,g1,by rw[C.K];exact k1,by rw[C.K];exact k2,g3,_,e1.readOk,?_⟩;rw[s];intro y' o r r2;obtain⟨k,rfl⟩:=lL I.2;have hy:=fJ r2;subst hy;have g:o T=So AN:=r _ _ gk;have L:AV<1000:=by simpa using A.2
      refine⟨T,_,rfl,DPut.k (k:=k) g (by show _<16777216;lia),?_⟩;obtain⟨p1,p2⟩:=vK jE (k:=k) (r1.mono r) (B.mono r);have sp:SameP o (upd o T Td):=ofM.sp (m:=Fo) (f:=f) g rfl;have r3:Rep X.K (upd o T Td) (.dct Fo Fo (putD EE y (kvs.map λp=>keyV p.1) E).1 (putD EE y (kvs.map λp=>keyV p.1) E).2) (.ref T):=⟨T,_,rfl,Qb4,Reps.plain sp _ (JlB I.1 _ E A.1) p2⟩;obtain⟨J,e2⟩:=u o T _ Td _ h0 r hp ho rfl g rfl r3;exact hD Z _ e2 (ChB.sp ((SameP.of Y).trans J))
     ·cases l
    |_=>cases l
   ·exact h.elim
end
section
variable{κ:Type}[DecidableEq κ]{g:κ->D}
theorem Jsq(u:∀a b,(g a).eqv (g b)=decide (a=b)){k:κ}:∀{l:Bt}{vs:Ak},Reps K H vs (l.map (·.2))->
  (delD (g k) (l.map λp=>g p.1) vs).1=(xI l k).map (λp=>g p.1)/\Reps K H (delD (g k) (l.map λp=>g p.1) vs).2 ((xI l k).map (·.2))/\(Ja vs=To->Ja (delD (g k) (l.map λp=>g p.1) vs).2=To)
 |[],[],_=>⟨rfl,rfl,id⟩
 |[],d::vs,⟨x,r,e,_⟩=>by cases e
 |p::l,[],h=>by cases h
 |p::l,d::vs,⟨x,r,e,h1,h2⟩=>by
  simp only[Zg,qB]at e
  obtain⟨rfl,rfl⟩:=e
  obtain⟨s,o,A⟩:=Jsq u (k:=k) h2
  unfold xI at s o⊢
  simp only[Zg,delD,u]
  by_cases q:p.1=k
  ·rw[if_pos (Zx q),mF,if_neg (by simp[q])]
   exact⟨s,o,λz=>A (by simp only[Ja,Zc]at z;exact z.2)⟩
  ·rw[if_neg (by simp[q]),mF,if_pos (by simp[q])]
   refine⟨by rw[Zg,s],⟨_,_,rfl,h1,o⟩,λz=>?_⟩
   simp only[Ja,Zc]at z⊢
   exact⟨z.1,A z.2⟩
end
section
variable{U:Ag}{a:Expr}{p pa pb:Px}{mpos:Pos}
def Jth(C:Am)(h0:A4)(S:GF)(hf:Dr)(hk:LW)(m:QJ)
  (hb:Su):
  PS X WK U5:=by
 refine PS.weak (zK (Jqy Iy hk m) rfl) λD Z H B=>?_;obtain⟨O,e,h⟩:=B;simp only[exO]at h;cases z:evD U pk O with
 |sk=>rw[z]at h;exact h.elim
 |ex c=>rw[z]at h;exact h.elim
 |ok k0=>
  rw[z]at h;simp only at h;split at h
  ·rename_i hc;obtain⟨a,ns,fs,env',d,d',rfl,q,l,hp,ho,hD⟩:=JiV h;obtain⟨E,C',dx,xs,vT,g1,I,g3,gv,r⟩:=hJ (m:=Fo) e q;cases d with
   |dct t zz ks L=>
    cases t<;>cases zz<;>first|(cases l;done)|skip
    simp only[popG]at l;split at l
    ·rename_i u;cases l;simp only[Zc]at u;obtain⟨T,xsT,rfl,⟨kvs,Y,rfl,rfl⟩,A⟩:=gv;rw[C.K]at I;obtain⟨k1,k2⟩:=hf ns C' I;refine⟨_,E,a,C',dx,_,.ref T,rfl,g1,by rw[C.K];exact k1,by rw[C.K];exact k2,g3,T,rfl,.inl ⟨kvs,.inl Y⟩,_,Yw,?_⟩;rw[z];intro y' o s r2;obtain⟨k,rfl⟩:=lL hc;have hy:=fJ r2;subst hy;have g:o T=So AN:=s _ _ Y;have J:=u.2;rw[mR jE]at J;obtain⟨v,ev⟩:=sV.mp J;refine⟨kvs,k,v,g,rfl,ev,?_⟩;obtain⟨p1,p2,p3⟩:=Jsq jE (k:=k) (A.mono s);have sp:SameP o (upd o T K5):=ofM.sp (m:=Fo) (f:=f) g rfl;have r3:Rep X.K (upd o T K5) (.dct Fo Fo (delD EE (kvs.map λp=>keyV p.1) L).1 (delD EE (kvs.map λp=>keyV p.1) L).2) (.ref T):=⟨T,_,rfl,Qb4,Reps.plain sp _ (p3 u.1) p2⟩;obtain⟨F,e2⟩:=r o T _ K5 _ h0 s hp ho rfl g rfl r3;exact hD Z _ e2 (ChB.sp F)
    ·cases l
   |_=>cases l
  ·exact h.elim
theorem eGetN(C:Am)(ha:AO)(hb:BJ)(hx:noEx pb=To)(m:M1 X a "get" apos b cpos):PE X (.Call Qz [b] [] cpos) (tI X U (.ite (.bi QaJ pb pa) (.bi Eg pa pb) Ei)):=by
 have hu:=C.un;refine PE.weak (Jpa Af ha hb m) λZ H Q F=>?_;obtain⟨O,r,h⟩:=F;simp only[evD]at h;have I:∀c,evD U pb O≠.ex c:=λc z=>oZ U pb O c hx z;cases B:evD U pb O with
 |ex c=>exact absurd B (I c)
 |sk=>rw[B]at h;exact h.elim
 |ok dy=>
  rw[B]at h;simp only[Rs.bo]at h;cases A:evD U pa O with
  |ex c=>rw[A]at h;exact⟨O,r,by rw[A];exact h⟩
  |sk=>rw[A]at h;exact h.elim
  |ok dx=>
   rw[A]at h;simp only[Rs.bo]at h;refine Dc;rw[A];intro x H1 s1 J;cases dx with
   |dct t z ks vs=>
    obtain⟨l,xs,rfl,Y,g2⟩:=id J;simp only[op2,onD]at h;by_cases u:t=Fo/\keyD t dy=To
    ·rw[if_pos u]at h;obtain⟨rfl,u⟩:=u;simp only[Rs.bo]at h;refine⟨l,rfl,?_,O,r.mono s1,?_⟩
     ·obtain⟨E,g,_⟩:=dk_k Y;exact .inl ⟨E,g⟩
     ·rw[B];intro y L s2 r2;obtain⟨l',o,e1,g,s,hl⟩:=lS (t:=Fo) (λz=>by cases z) (J.mono s2) r2 u;cases e1;refine⟨o,g,?_⟩;cases q:gA dy ks vs with
      |some d=>obtain⟨v,e2,rv⟩:=hl d q;subst e2;rw[s]at h;simp only[fP,Rs.ofOpt,q,u,and_self,if_true]at h;exact h v L FJ rv
      |none=>
       have hn:=Jeu q (by have:=g2.length;have:=JrK Y;lia);rw[hn]at s h;have:o=No:=by
        cases o with
        |none=>rfl
        |some _=>cases s
       subst this;exact h _ L FJ rfl
    ·rw[if_neg u]at h;exact h.elim
   |_=>exact h.elim
end
section
variable{prog:Ba}{w:AQ}{A:Bv}{E:Ay}{s:Al}{d:Addr}{od:Obj}{es:GL}{ep:Nat}
def Jhw{Q:List Value->Shared->Prop}(hh:Bh)(hd:(d==sysModules)=Fo)(ho:s.heap.get? d=So od)(hc:od.cls=.type "dict")(z:Ec)(q:es.size<=2^24)
  (hQ:∀I U g,(∀b o,s.heap.get? b=So o->I.get? b=So o)->ItemsOf (λi v=>∃e,es[i]? =So e/\v=Ys) g es.size->Q Ym {s with heap:=I,toks:=U}):
  wpAny Au A (collect D0) Q E s:=by
 unfold collect;refine Za (wpAny_runValue (pF eG ?_));rw[uF F.plain_proto_collect _];show wpAny _ XI (newList []>>=λl=>again (.builtin "list.__iadd__" ⟨[l,.ref d],[]⟩)) _ _ s;refine Za (ZJ ?_);refine Zb Vs;rw[uF eW _];show wpAny _ XI (Builtin.List.listExtendWith Fi D0 Fi) _ _ _;have hS:(s.heap.push {cls:=.type "list",data:=.seq ([]:List Value).toArray}).get? Aa=So {cls:=.type "list",data:=.seq #[] 0}:=Ze _ rfl;refine ZY (Jlj (A:=A) (R:=λr B=>r=.ok (.ret Fi)/\wpAny Au A (load Aa>>=λo=>match o.data with
   |Data.seq xs _=>pure xs.toList
   |_=>unsupported "internal:collect") Q E B) (s:={s with heap:=s.heap.push {cls:=.type "list",data:=.seq ([]:List Value).toArray}}) hh hd (Zd _ ho) hc z q Aa Fi 0 hS λI U g c' Y J u=>⟨rfl,Za (wpAny_load J (Zb (hQ I U g (λb o e=>Y b o (Zu (Zj e)) EH) u)))⟩) (λL B h=>?_) λe B h=>?_
 ·cases L with
  |done f=>obtain⟨e,h⟩:=h;cases e;exact h
  |again c=>exact⟨h.1,kG h.2 λr B h=>by obtain⟨e,h⟩:=h;subst e;exact h⟩
 ·cases h.1
end
section
theorem JpB(B:Cj):pA X M3 (λxs H Q=>∃l kvs ws,xs=Qdr/\L2.Rd H l AN/\(kvs.map λp=>kV p.1)=ws.map YQ/\ws.Nodup/\ws.length<60/\Out X H Q (.lst ('Ғ'.map .str))):=by
 rintro Y s Z H xs us Q I rv⟨l,kvs,ws,e,hr,hk,hn,hz,h⟩;subst e;obtain⟨u,rfl,rx⟩:=xA rv;cases rx;obtain⟨z,hd,ys,g3,o,es,ep,ho,hc,hdat,g7,g8,g9⟩:=vF XD hr;have hl:es.size=AV:=by have:=g8.length;rw[<-rH g3]at this;simpa using this
 have hlw:AV=AY:=by have:=kA YE hk;simpa using this
 refine Calls.call_function_entry kind_sorted plain_sorted entry_sorted Qa3 ?_;unfold Builtin.«sorted»;refine Za (m:=checkCount "sorted" 1 1 _) (Zb (Za (Jhw (I.ok.hd B) hd ho hc.1 hdat Af λE tk g kp r=>?_)));have J:Vals Rb Ym:=by
  rw[<-hk];refine JgD (by have e1:=r.1;have e2:g.toList.length=g.size:=ZQ;rw[Zi];lia) λj x v F J=>?_;obtain⟨e,he,rfl⟩:=r.2 j v (by simpa using J);rw[xB]at F;cases q:kvs[j]? with
  |none=>rw[q]at F;cases F
  |some y=>
   rw[q]at F;cases F;obtain⟨⟨k,v⟩,e1,e2,e3⟩:=zU g3 q;obtain⟨hk',hv'⟩:=g8.get? (e:=e) (by simpa using he) e1;show RelV (kV y.1) Ys;rw[e2];rcases Js hk' with⟨j,t,U,z2⟩|⟨y,t,U,z2⟩|⟨U,z2⟩
   ·rw[U,z2];exact GQ
   ·rw[U,z2];exact GQ
   ·rw[U,z2];rfl
 generalize g.toList=its at J;have q1:StrsAre its ws:=JdV J;have l4:AY=B1:=by simpa using J.length
 refine Za (wpAny_newList ?_ (by rw[ZG];lia));have A:(E.push S4).get? dU=So S4:=Ze _ rfl;refine Za (wA (ZD slot_list_sort ⟨_,A,rfl⟩ entry_list_sort (list_sort_treeK strKind_oneLt (s:={s with heap:=E.push S4,toks:=tk}) A q1.keysOf (λv₁ v₂ rest e=>keyKind_strs (by rw[<-e];exact q1)) Af λst' a1 a2=>Il) N3));obtain⟨ss,b1,b2,b3⟩:=sorted_out_str q1 a1 a2;obtain⟨e,he⟩:=sortedHeap_at (out:=(arrOf st').map (·.2)) A;have I1:L2.Inv X Y Z H {s with heap:=E,toks:=tk}:=I.kept (t':=tk) kp;have hd:=Jhh b2 b3 hn (λk=>Iff.rfl);subst hd;have hlen:=b2.length_eq;obtain⟨s1,w1⟩:=zG (K:=X.K) E4 (Jfr 'Ғ');refine Zb ⟨_,rfl,.ref dU,_,I1.laid (a:=dU) (t':=tk) (λb o q'=>?_) (Zh _) (show ObjOk Xz X.w _ _ _ (.lst ('Ғ'.map YQ))from⟨by rw[Zi,ZG];lia,((arrOf st').map (·.2)).toList,e,JdG b1,by rw[Array.toArray_toList];exact he⟩),rfl,h _ _ s1 w1⟩;have L:=Zj q';rw[sortedHeap_old (Zu L) (by rw[ZL];exact wB L)];exact Zd _ q'
theorem JgY:∀{g:GB}{ws:Ac},JM (g.map λp=>keyV p.1)=So ws->(g.map λp=>kV p.1)=ws.map YQ
 |[],ws,h=>by cases h;rfl
 |p::g,ws,h=>by
  obtain⟨k,v⟩:=p
  cases k with
  |inr x=>
   replace h:(JM (g.map λp=>keyV p.1)).map (x::·)=So ws:=h
   cases q:JM (g.map λp=>keyV p.1)with
   |none=>rw[q]at h;cases h
   |some l=>
    rw[q]at h
    cases h
    simp only[Zg,JgY q]
    rfl
  |inl n=>cases(show No=So ws from h)
  |non=>cases(show No=So ws from h)
def Jtd(o:Cj):pA X M3 (rC1 X .sortD):=by
 rintro Y s Z H xs F Q I B⟨x,d,e,r,h⟩;subst e;cases d with
 |dct t z ks U=>
  cases t with
  |true=>exact(show False from h).elim
  |false=>
   obtain⟨l,xs,rfl,J,L⟩:=r;obtain⟨q,g,rfl,rfl⟩:=dk_k J;simp only[op1]at h;split at h
   ·rename_i E A;split at h
    ·rename_i u;exact JpB o Y s Z H _ F Q I B ⟨l,q,E,rfl,g,JgY A,u.1,u.2,h⟩
    ·exact h.elim
   ·exact h.elim
 |_=>exact(show False from h).elim
variable{U:Ag}{a:Expr}{pa:Px}
def cSrtD(C:Am)(g:G.mg "sorted"=No)(l:AO)(h:gloB nm "sorted"=To)(hs:DN):PE X (.Call Ov [a] [] pos) (tI X U (.un .sortD pa)):=jR C (Jtd Yg) l h g PyProof.Rows.boot_sorted Ab Ab hs
end
inductive CalleePe(G:Gw)(call:Ag)(fi:Nat)(c m:Str):Prop where
 |mk (C:Addr) (kk:Nat) (f:Addr) (fd:FuncData) (ps:List Str) (h:PySem.W.nsIn G.K mainGlobals c=So (So (.ref C))/\Cls G.K C/\Meth G.K C m f/\FnOk G.prog G.w G.K G.mg G.base (CXr G.prog G.w) kk f fd ps (spI G.K G.mg call fi)/\Room kk G.A.in1.in1/\Binds G.K fd ps []):CalleePe G call fi c m
structure CalleeP(G:Gw)(U:Ag)(fi:Nat)(c m:Str):Prop where
 ex:CalleePe G U fi c m
section
variable{U:Ag}{p:Px}
def Jmu{C f:Addr}{kk:Nat}{fd:BG}{ps:Ac}{t:TA}(Cc:Am)(hC:PySem.W.nsIn G.K mainGlobals D7=So BC)(hm:Di){Z:Bl}{H:Hp}{Q:VK}(h:tI X U Tn Z H Q)
  (ht:∀O I,ReadOk X.K H Z O->'ǈ'.Good (λd=>∃J,d=.lst J/\∀A W,Same H W->Reps X.K W J A->I A W) Az->t Z H I):
  wQ C m (spI X.K X.mg U fi) [] (λE _ W=>∀C,E=.ref C->XE X C W) (λZ H Q=>∃v,Z[i]? =So BO/\Q v H) t Z H Q:=by
 obtain⟨O,r,h⟩:=h;simp only[evD]at h;cases F:O[i]? with
 |none=>rw[F]at h;exact h.elim
 |some o=>
  rw[F]at h;cases o with
  |none=>exact h.elim
  |some d=>
   cases d with
   |obj a g fs=>
    simp only[Rs.bo,op1]at h;split at h
    ·rename_i hn;subst hn;obtain⟨v,hv,L⟩:=r i _ F;obtain⟨e1,C',dx,xs,h1,Y,h3,h4⟩:=id L;subst e1;rw[Cc.K,hC]at Y;cases Y;simp only[Rs.bo]at h;refine⟨_,hv,a,dx,_,rfl,h1,nU hm,ht O _ r ?_⟩;cases q:evD U p O with
     |sk=>rw[q]at h;exact h.elim
     |ex c=>rw[q]at h;exact h
     |ok dd=>
      rw[q]at h;cases dd with
      |lst J=>
       simp only[Rs.bo,D.asL]at h;refine⟨J,rfl,λA W s rs=>?_⟩;refine⟨.obj a g fs::J,?_,?_⟩
       ·rw[pE];exact⟨_,_,rfl,L.mono s,rs⟩
       ·cases u:U fi (.obj a g fs::J)with
        |ok d=>rw[u]at h;exactλv B z rd=>h v B (s.trans z) rd
        |ex c=>rw[u]at h;exactλC2 B l z C3 e3=>by cases e3;exact h C2 B l (s.trans z)
        |sk=>rw[u]at h;exact h
      |_=>exact(show False from h).elim
    ·exact h.elim
   |_=>exact(show False from h).elim
def Jvq{pl:Cb}(l:Am)(E:M8)(u:Di)(J:visB nm x=To)(hi:N[i]? =So x)(s:QW)(o:(x==("__classdict__":Str))=Fo)(B:Ed)
  (q:CG) (hpl:'б' ('Ķ'.any (·.1)=Fo) Ai)
  (ht:'б' (eval DF Ue=(do
   let ov<-eval Fh Ue
   standAt XM
   let(f,first)<-holding [ov] CN
   callWith pos f first 'μ' Dg)) Ai):PE X DF (tI X U Tn):=by obtain⟨C,kk,f,fd,ps,h1,L,z,F,I,A⟩:=E.ex;have Y:=l.g;subst Y;exact PE.weak (JiP (rA (by rw[l.hN];exact hi) (l.vis x J) s o) L z F (Room.out I) A .nil pI B q hpl ht) λZ H Q h=>Jmu (f:=f) (kk:=kk) (fd:=fd) (ps:=ps) l h1 u h λO Q' r g=>⟨O,r,g⟩
def JqH{pl:Cb}(l:Am)(I:M8)(s:Di)(Y:visB nm x=To)(hi:N[i]? =So x)(q:QW)(o:(x==("__classdict__":Str))=Fo)
  (E:'б' (eval E6 Ue=(do
   let ov<-eval Fh Ue
   standAt XM
   let(f,first)<-holding [ov] CN
   callWith pos f first 'д' Dg)) Ai):PE X E6 Vo:=by obtain⟨C,kk,f,fd,ps,h1,h2,u,F,L,B⟩:=I.ex;have hG:=l.g;subst hG;exact PE.weak (Jkk (rA (by rw[l.hN];exact hi) (l.vis x Y) q o) h2 u F (Room.out L) B .nil pI E) λZ H Q h=>Jmu (f:=f) (kk:=kk) (fd:=fd) (ps:=ps) l h1 s h λO Q' r g=>by obtain⟨J,A,z⟩:=g;cases A;exact z [] H D6 rfl
end
def JuP:MtM X "list.pop" (λx h H Q=>∃l t xs y,x=.ref l/\h=[]/\H l=So (.lsm t (xs++[y]))/\Q y (upd H l Ks)):=by rintro Y s Z H x h v F Q I B E⟨l,t,xs,y,o,g,J,q⟩;refine thn (JxS Y s Z _ x h v F (λv W=>v=y/\W=upd H l AA) (Inv.asL I J) B E ⟨l,xs++[y],y,o,g,Je,by simp,rfl,by rw[upd_upd,pJ]⟩) λu s1 r=>?_;obtain⟨v,U,L,z,o,g⟩:=r;subst o g;have A:=Inv.asM L t Je;rw[upd_upd]at A;exact Qea
def fU{J:Ak}(h:sA f ns fs=So J):'ɢ'.lookup f=So QX:=by
 unfold sA at h;split at h
 ·rename_i t es q;split at h
  ·rename_i z;cases h;rw[q,zE z]
  ·cases h
 ·cases h
def spG(K:Aj)(mg:Bk)(bc:AI)(fi:Nat):Sp:=λr H Q E=>∃a ns fs f g n l o C q xs,r=[.ref a,.ref l,.ref o,.int n]/\Rep K H CD Ar/\H a=So (.ins C q Xc)/\
 'ƹ'.lookup f=So (.ref l)/\(ns.zip xs).lookup g=So (.ref o)/\
 (bc fi CD Hq).Good (λd h=>∀v W,SameP H W->Rep K W h Ar->Rep K W d v->Q v W) (λc h=>∀C W,mg c=So BL->SameP H W->Rep K W h Ar->E BL No W)
inductive CalleeGe(G:Gw)(bc:AI)(fi:Nat)(c m:Str):Prop where
 |mk (C:Addr) (kk:Nat) (f:Addr) (fd:FuncData) (ps:List Str) (h:PySem.W.nsIn G.K mainGlobals c=So (So (.ref C))/\Cls G.K C/\Meth G.K C m f/\FnOk G.prog G.w G.K G.mg G.base (CXr G.prog G.w) kk f fd ps (spG G.K G.mg bc fi)/\Room kk G.A.in1.in1/\Binds G.K fd ps []):CalleeGe G bc fi c m
structure CalleeG(G:Gw)(bc:AI)(fi:Nat)(c m:Str):Prop where
 ex:CalleeGe G bc fi c m
section
variable{U:Ag}{p:Px}{g:Str}{p2 fpos gpos kpos:Pos}{n:Int}
def JuB {pl:Cb} {j}  (C:Am) (h0:A4) (S:GF) (hf:Dr) (hg:FldC G g) (hc:CalleeG G bc fi D7 m) (hm:Di)
  (hb1:'б' (attributeBase Fh f Ue (eval Fh Ue) = eval Fh Ue) Ai) (hb2:'б' (attributeBase Hu g Ue (eval Hu Ue) = eval Hu Ue) Ai)
  (hs1:'б' (starEach Uh Ue = (Fo,eval (.Attribute Fh f fpos) Ue) :: starEach Ub Ue) Ai)
  (hs2:'б' (starEach Ub Ue = (Fo,eval (.Attribute Hu g gpos) Ue) :: starEach OY Ue) Ai)
  (hs3:'б' (starEach OY Ue = (Fo,eval (.Constant A3 j kpos) Ue) :: starEach [] Ue) Ai)
  (hpl:'б' ((backTo cpos (starEach Ub Ue)).any (·.1) = Fo) Ai)
  (ht:'б' (eval Wf Ue = (do
   let ov <- eval Do Ue
   standAt XM
   let (f',first) <- holding [ov] CN
   callWith cpos f' first (backTo cpos (starEach Uh Ue)) (backToKw cpos Lu))) Ai) :
  PS X (.Return (So Wf) pos) (tSB X w U bc [] H0 (.retG fi ns f g n)):=by
 obtain ⟨Cl,kk,fa,fd,ps,hC,cl,me,F,hr,hb⟩:=hc.ex;have hG:=C.g;subst hG;refine PS.weak (kN (JiP J0 cl me F (Room.out hr) hb .nil pI (JP (JeP J0 hb1) (JP (JeP J0 hb2) (JP fY mE hs3) hs2) hs1) hs1 hpl ht)) λD Z H zz0=>?_;obtain ⟨O,e,h⟩:=zz0;simp only [exO] at h;split at h
 ·rename_i a l fs env';split at h
  ·rename_i hns;subst hns;split at h
   ·rename_i hq;simp only [Zc,sV] at hq;obtain ⟨⟨hp,J,l1⟩,es,l2⟩:=hq;obtain ⟨B,C1,dx,xs,v1,L,g2,g3,gv1,_⟩:=hJ (m:=To) e (fU l1);obtain ⟨_,C2,dx2,xs2,v2,E,k2,k3,gv2,_⟩:=hJ (m:=To) e (fU l2);rw [L] at E;obtain ⟨b1,ys1,rfl,hb1',hr1⟩:=gv1;obtain ⟨b2,ys2,rfl,hb2',hr2⟩:=gv2;obtain ⟨f1,f2⟩:=hf l C1 g2;obtain ⟨f3,f4⟩:=hg l C1 g2;have e3:(l.zip xs).lookup g = So (.ref b2):=by injection E with E; injection E with _ _ E; rw [E]; exact k3
    obtain ⟨u,hu,A⟩:=e.read 0 _ Ad rfl;replace A:Rep X.K H Mo u:=by have z:Rep X.K IW Mo u:=A; rw [JD] at z; exact z
    obtain rfl:u = .ref a:=A.1;have I:PySem.W.nsIn X.K mainGlobals (clsN l) = So (So (.ref C1)):=g2;rw [show PySem.W.nsIn X.K mainGlobals (clsN l) = So (So (.ref Cl)) from hC] at I;cases I;refine ⟨_,B,a,dx,_,rfl,L,nU hm,?_⟩;refine ⟨_,B,a,_,dx,_,.ref b1,rfl,L,f1,f2,g3,?_⟩;refine ⟨_,B,a,_,dx,_,.ref b2,rfl,L,f3,f4,e3,?_⟩;refine ⟨a,l,fs,f,g,n,b1,b2,_,dx,xs,rfl,A,L,g3,e3,?_⟩;have Y:∀ {o:Pu.D} {W:Hp},SameP H W -> Rep X.K W o Ar -> EnvOk X.K [] H0 W Z (So o :: env'):=λs r=>e.obj (i:=0) Ad hp s Sa B (by show Rep X.K GO _ _; rw [JD]; exact r);cases q:bc fi Mo Hq with
    | ok d o=>rw [q] at h; exactλv W s r rd=>h v W Sa rd λ_=>⟨Z,Y s r⟩
    | ex c o=>rw [q] at h; exactλC2 H2 hm2 s2 r2 C3 e3=>by cases e3; exact h C2 H2 Z hm2 (Y s2 r2)
    | sk=>rw [q] at h; exact h
   ·exact h.elim
  ·exact h.elim
 ·exact h.elim
end
theorem Reps.snoc:∀{J:Ak}{xs:Av},Reps K H (J++[d]) xs->∃g y,xs=g++[y]/\Reps K H J g/\Rep K H d y
 |[],_,⟨x,r,e,h1,h2⟩=>by cases h2;exact⟨[],x,e,rfl,h1⟩
 |a::J,_,⟨x,r,e,h1,h2⟩=>by
  obtain⟨g,y,rfl,h,l⟩:=Reps.snoc h2
  exact⟨x::g,y,e,⟨x,g,rfl,h1,h⟩,l⟩
theorem plains_app:∀{J es:Ak},Ja (J++es)=(Ja J&&Ja es)
 |[],es=>by simp[Ja]
 |d::J,es=>by simp only[rB,Ja,plains_app,Bool.and_assoc]
theorem look_put{g:Str}{d:α}(h:(g==f)=Fo):∀{ns:Ac}{fs:List α},(ns.zip RB).lookup g='ɢ'.lookup g
 |[],_=>rfl
 |n::ns,[]=>by simp[putN]
 |n::ns,x::fs=>by
  simp only[putN]
  split
  ·rename_i z
   subst z
   simp only[rF,Zp,h]
  ·simp only[rF,Zp,look_put h]
def rPop:V->List V->Hp->VK->Prop:=λx g H Q=>∃l t xs y,x=.ref l/\g=[]/\H l=So (.lsm t (xs++[y]))/\Q y (upd H l Ks)
def rApp:V->List V->Hp->VK->Prop:=λx g H Q=>∃l t xs y,x=.ref l/\g=[y]/\H l=So (.lsm t xs)/\xs.length<sizeLine/\Q .non (upd H l (.lsm t (xs++[y])))
noncomputable def goT (ks:Nat) (ns:Ac):Bs:=.seq (.eff (.call To ks 0 ns (.cons (.bi .idx CY DS) (.cons (.bi .idx CY CZ) .nil)))) (.ret (.bi .idx CY Ep))
def tGo(X:Cx)(bc:AI)(H0:Hp)(ks:Nat)(cn:Str)(ns:Ac):L2.TS:=λD Z H=>∃a fs f g n h l C o xs,Z=[So Ar,So (.ref h),So (.ref l),So A3,No]/\EnvOk X.K [] H0 H Z PZ/\
 H a=So (.ins C o Xc)/\(ns.zip xs).lookup f=So (.ref h)/\(ns.zip xs).lookup g=So (.ref l)/\
 (goD bc ks cn n f g a ns fs).Good (λd st=>wC CD st=To/\∀v W,Same H0 W->Rep X.K W st Ar->Rep X.K W d v->D.rt v W) (λc st=>wC CD st=To/\∀C W,X.mg c=So BL->Same H0 W->Rep X.K W st Ar->XE X C W)
section
variable{U:Ag}{sr s45:BF}{s2 s3:Stmt}{pm:Px}{ks:Nat}
theorem Jwc(h0:A4)(hmsg:∀O,exD U Qcj O=.ex cn)(t1:PT X c (tT X U Uu))(t2:∀H,PSs X sr (tS X U [] H Qcj))(t3:PS X s2 (tAsg (tBM0 X.K "list" rPop (tVar 1)) (Jex 4)))(t4:PS X s3 (KW (tBM X.K "list" rApp (tVar 2) (uQ (tVar 4) tNil))))
  (t5:PSs X s45 (tSB X To U bc [] H0 bX)):PSs X (.If c sr [] pos::s2::s3::s45) PH:=by
 intro Y s Z H D I h;refine PSs.weak (JN (rW t1 (t2 H) JmT) (JN t3 (JN t4 t5))) (t':=λD' σ' W=>D'=D/\σ'=Z/\W=H) (λD' σ' W hq=>?_) Y s Z H D I Hl;obtain⟨rfl,rfl,rfl⟩:=hq;obtain⟨a,fs,f,g,n,A,b2,C,dx,xs,rfl,e,hH,l1,l2,h⟩:=h;have oe:∀{H:Hp}{Z:Bl}{d:D}{r:Fm}{i:Nat},EnvOk X.K [] H0 H Z r->r[i]? =So Bd->∃v,Z[i]? =So BO/\Rep X.K H d v:=λe q=>by obtain⟨v,h1,h2⟩:=e.read _ _ Ad q;have z:Rep X.K GO _ _:=h2;rw[JD]at z;exact⟨v,h1,z⟩
 unfold goD at h;cases q1:sA f ns fs with
 |none=>rw[q1]at h;exact h.elim
 |some J=>
  rw[q1]at h;simp only at h;cases q2:sA g ns fs with
  |none=>rw[q2]at h;exact h.elim
  |some es=>
   rw[q2]at h;simp only at h;split at h
   ·rename_i hc;simp only[Zc,ZV,Zw]at hc;obtain⟨⟨⟨⟨⟨hfg,hpd⟩,hpe⟩,hle⟩,ho1⟩,ho2⟩:=hc;obtain⟨hσ,C1,dx1,xs1,v1,g1,g2,g3,gv1,fin⟩:=hJ (m:=To) e (fU q1);rw[hH]at g1;have ez:ns.zip xs=ns.zip xs1:=by injection g1 with g1;injection g1
    rw[<-ez,l1]at g3;cases g3;obtain⟨b1',ys,eb,hy,hrs⟩:=gv1;cases eb;have ro:ReadOk X.K W [So Ar,So (.ref A),So (.ref b2),So A3,No] Od:=λi d q=>by
     match i,q with
     |0,q=>cases q
     |1,q=>cases q;exact⟨_,rfl,A,ys,rfl,hy,hrs⟩
     |2,q=>cases q
     |3,q=>cases q
     |4,q=>cases q
     |i+5,q=>simp at q
    refine⟨_,ro,?_⟩;have ev:evD U Uu Od=.ok (.bl (decide ((Ae:Int)=0))):=by simp only[evD,lF,kF,Rs.bo,op1,op2,JO,D.dep,D.eqv];rfl
    rw[ev];refine⟨_,rfl,λH1 L=>?_⟩;show if decide ((Ae:Int)=0)=To then _ else _;have e1:=e.grow L;have rob:Rep X.K W CD Ar:=by obtain⟨u,hu,hru⟩:=oe e (i:=0) rfl;cases hu;exact hru
    obtain rfl|⟨F,st,rfl⟩:J=[]\/∃F st,J=F++[st]:=by
     rcases List.eq_nil_or_concat J with z|⟨l,b,z⟩
     ·exact .inl z
     ·exact .inr ⟨l,b,by rw[z,List.concat_eq_append]⟩
    ·refine iteT ?_;simp only[List.isEmpty_nil,if_true]at h;obtain⟨_,h⟩:=h;refine⟨PZ,⟨L,e1.len,e1.read,λj d hj=>by simp at hj,λj _ _ _ _ hj=>by simp at hj⟩,?_⟩;rw[hmsg];exactλC H2 hm s2=>h C H2 hm (e.same.trans s2) (rob.mono s2)
    ·have hz0:decide (((F++[st]).length:Int)=0)=Fo:=by simp;lia
     rw[hz0];refine iteF ?_;rw[pJ]at h ho2;rw[List.getLast?_concat]at h;rw[show(F++[st]).isEmpty=Fo by simp]at h;simp only[Zl,ZF]at h;rw[plains_app]at hpd;simp only[Ja,Bool.and_true,Zc]at hpd;obtain⟨hpl,B⟩:=hpd;obtain⟨o,y,rfl,hr1,hr2⟩:=Reps.snoc hrs;have E:=L _ _ hy;have sp:SameP H1 Na:=ofM.sp (m:=To) (f:=f) E Cw;refine⟨.ref A,rfl,.inr (.inr (.inr (.inr ⟨rfl,f,_,E⟩))),A,f,o,y,rfl,rfl,E,?_⟩;obtain⟨sp3,e3⟩:=fin H1 A _ (.lsm f o) (.mls f F) h0 L rfl ho1 rfl E Cw ⟨A,o,rfl,Je,Reps.plain sp F hpl (hr1.mono L)⟩;have hgf:(g==f)=Fo:=by rw[ZA]at hfg⊢;exactλz=>hfg z.symm
     obtain⟨_,C2,dx2,xs2,v2,k1,k2,k3,gv2,fin2⟩:=hJ (m:=To) e3 (f:=g) (d:=.mls g es) (by rw[look_put hgf];exact fU q2);have hab:a≠A:=λz=>by subst z;rw[hH]at hy;cases hy
     rw[Jb hab,L _ _ hH]at k1;have ez2:ns.zip xs=ns.zip xs2:=by injection k1 with k1;injection k1
     rw[<-ez2,l2]at k3;cases k3;obtain⟨b2',zs,eb2,hz,hrz⟩:=gv2;cases eb2;have hlz:zs.length<1000:=by rw[hrz.length];exact hle
     refine⟨.ref b2,rfl,.inr (.inr (.inr (.inr ⟨rfl,g,_,hz⟩))),y,rfl,b2,g,zs,y,rfl,rfl,hz,by show _<16777216;lia,?_⟩;have sp4:SameP Na (upd Na b2 (.lsm g (zs++[y]))):=ofM.sp (m:=To) (f:=g) hz Cw;have ry:Rep X.K (upd Na b2 (.lsm g (zs++[y]))) st y:=Rep.plain sp4 st B (Rep.plain sp st B (hr2.mono L));obtain⟨sp5,e4⟩:=fin2 _ b2 _ (.lsm g (zs++[y])) (.mls g (es++[st])) h0 KL rfl ho2 rfl hz Cw ⟨b2,_,rfl,Je,(Reps.plain sp4 es hpe hrz).append QdI⟩;have e5:=e4.put (i:=4) (d:=st) (v:=y) Ad (by show Rep X.K GO _ _;rw[JD];exact ry);refine⟨_,e5,?_⟩;cases st with
     |tup ts=>
      simp only[goS]at h;split at h
      ·rename_i w x z a0 a1 an;split at h
       ·rename_i d' st' hb;have pa:∀{i:Int}{d:D},atD ts i=So d->Ji d=To:=fun{i d}hd=>by
         unfold atD at hd;cases hj:ixn ts.length i with
         |none=>rw[hj]at hd;cases hd
         |some j=>rw[hj]at hd;exact Jfc (by simpa[Ji]using B) hd
        have ev2:exO To U bc bX [So (.obj a ns (putN g (.mls g (es++[.tup ts])) ns Qy)),No,No,So A3,So QaK]=.ok (.rt w) [So st',No,No,So A3,So QaK]:=by simp only[goT,exO,evB,evD,lF,kF,if_true,Rs.bo,op2,a0,a1,an,Rs.ofOpt,D.asL,List.set_cons_zero,plE,B,Ja,pa a1,pa an,Bool.and_self,hb,Rx.lay,Rx.next,Rq.bind,show Ji (D.int n)=To from rfl,Bool.and_true]
        show(exO To U bc bX [So (.obj a ns (putN g (.mls g (es++[.tup ts])) ns Qy)),No,No,So A3,So QaK]).Good _ _;rw[ev2];exactλv H2 s2 r2 hw=>let⟨σ',e'⟩:=hw rfl;h.2 v H2 s2 (JqC e' h.1 rob) r2
       ·exact h.elim
      ·exact h.elim
     |_=>exact h.elim
   ·exact h.elim
end
section
variable{w:AQ}{defs:Ci}{bdefs:EI}{ks:Nat}
def Jxg{f:Addr}(F:E0)(S:K3)(hd:bdefs[fi]? =So OX)(hN:N.length=5)(hp:Aq=4)
  (r:∀(X:Cx)(A:Bv)(H0:Hp),Ctx X AM N 'Ɯ'.names->Room j A->HX X 'Ɯ'.names->PlO H0->PSs X Ew (tGo X Dq H0 ks cn ns)):
  FnOk P w K mg base A0 (j+1) f fd ps (spG K mg Ld fi):=by
 obtain⟨oc,od,kV,doc,pm,an,cdv,ct,osl,rfl,lk,Y⟩:=F.ex;refine eK lk Y S (λvs H Q E h=>?_) (λA J s H vs Q E hr h=>?_)
 ·obtain⟨a,ns,fs,f,g,n,I,z,C,dx,xs,rfl,_⟩:=h;rw[hp];rfl
 ·obtain⟨a,B,fs,f,g,n,I,z,C,dx,xs,rfl,r1,hH,l1,l2,g⟩:=h;refine⟨_,r _ _ (pl H) c6 hr Lh pY,?_⟩;have u:L2.jC N [.ref a,.ref I,.ref z,.int n]=Vl:=by unfold L2.jC;rw[hN];rfl
  have er:∀(i:Nat)(d:D),([So (.obj a B fs),No,No,So A3,No]:Fm)[i]? =So Bd->∃v,(Vl:L2.St)[i]? =So BO/\Rep K H d v:=λi d l=>by
   match i,l with
   |0,l=>cases l;exact⟨_,rfl,r1⟩
   |1,l=>cases l
   |2,l=>cases l
   |3,l=>cases l;exact Qd9
   |4,l=>cases l
   |i+5,l=>simp at l
  simp only[runB,hd,Zk,rD,if_true,JC,exO]at g;split at g
  ·rename_i a2 ns2 fs2 f2 g2 n2 tl e2;cases e2;split at g
   ·rename_i U;subst U;refine⟨a,fs,f,_,n,I,z,C,dx,xs,u,?_,hH,l1,l2,?_⟩
    ·rw[u];exact⟨wZ,rfl,λi d _ l=>by
      obtain⟨v,h1,h2⟩:=er i d l;exact⟨v,h1,by show Rep K IW d v;rw[JD];exact h2⟩,λ_ _ l=>by simp at l,λ_ _ _ _ _ l=>by simp at l⟩
    ·cases q:goD Dq ks cn n f _ a B fs with
     |sk=>rw[q]at g;exact g.elim
     |ok d L=>
      rw[q]at g;simp only[Rc.at,ansB]at g;split at g
      ·rename_i o;exact⟨o,λv W s' r' rd=>g v W (JmQ s') r' rd⟩
      ·exact g.elim
     |ex c L=>
      rw[q]at g;simp only[Rc.at,ansB]at g;split at g
      ·rename_i o;exact⟨o,λC2 H2 hm s2 r2 a' s' F'=>lO F' (g C2 H2 hm (JmQ s2) r2)⟩
      ·exact g.elim
   ·exact g.elim
  ·exact g.elim
def Jrs{vs:Av}{Q:VK}{E:XK}(h:∀st J,bc fi st J=.sk)(z:spG K mg bc fi vs H Q E):False:=by obtain⟨a,ns,fs,f,g,n,o,q,C,l,xs,_,_,_,_,_,z⟩:=z;rw[h]at z;exact z
def JqL{f:Addr}:FnOk P w K mg base A0 0 f fd ps (spG K mg Ot fi):=
 ⟨λ_ _ _ _ h=>(Jrs CM h).elim,λ_ _ _ _ _ _ _ _ _ _ _ _ _ h=>(Jrs CM h).elim⟩
end
section
variable{U:Ag}{es sts:BF}{p:Px}
def bSetI(C:Am)(h:FD)(E:PE X e Gz)(hs:Mr):PS X F8 (tSB X w U bc M H0 (.setI i pb)):=by
 obtain⟨Y,I,o⟩:=chkA.at h;obtain⟨B,F⟩:=C.sto x I;refine PS.weak (gD CU (by rw[C.hN];exact Y) B E hs F) λD Z H⟨O,e,h⟩=>Dv;refine(Rx.good_next.mp h).imp (λd g l v W u J s r=>?_) λc g z C W A L=>z C W Z A L;split at l
 ·rename_i q;simp only[Zc]at q;exact l _ W (u.put o (Rep.tups u.ows.tup d q.2 r)) (by rw[tE o,J];exact ChB.sp s)
 ·exact l.elim
end
section
variable{U:Ag}{p:Px}
def cP{pl:Cb}(C:Am)(q:M8)(g:Gx)(o:Di)(z:Ed)
  (h:Ly) (l:'Ķ'.any (·.1)=Fo)
  (u:eval DF Ue=(do
   let ov<-eval Fh Ue
   standAt XM
   let(f,first)<-holding [ov] CN
   callWith pos f first 'μ' Dg)):PE X DF (tI X U Tn):=by simp only[chkV,Zc,ZI]at g;obtain⟨s,r⟩:=plainN.d g.2;exact Jvq C q o g.1.2 g.1.1 s r z h l u
def cP0{pl:Cb}(C:Am)(l:M8)(g:Gx)(h:Di)
  (r:eval E6 Ue=(do
   let ov<-eval Fh Ue
   standAt XM
   let(f,first)<-holding [ov] CN
   callWith pos f first 'д' Dg)):PE X E6 Vo:=by simp only[chkV,Zc,ZI]at g;obtain⟨q,o⟩:=plainN.d g.2;exact JqH C l h g.1.2 g.1.1 q o r
end
def SmB(x:Addr)(H W:Hp):Prop:=∀b o,H b=So o->b≠x->W b=So o
def SmB.sp{x dx:Addr}{fs:List (Str×V)}(s:SmB x H W)(h:H x=So DY):SameP H W:=λb o e p=>s b o e λz=>by subst z;rw[h]at e;cases e;cases p
def spNS(K:Aj):Sp:=λh H Q _=>∃x g C,h=[.ref x]/\H x=So (.ins C g [])/\PySem.W.nsIn K mainGlobals Ll=So BC/\∀W xs,SmB x H W->W x=So (.ins C g (nsS.zip xs))->Rep K W (Jlx x) (.ref x)->Q .non W
def Jvw(t:Str):TE:=λZ H Q=>∀l,H l=No->Q BH Pa
def Jsa(K:Aj):L2.TS:=tSeq (sFld K Qc3 tDNewK Iw) (tSeq (sFld K Qc3 (Jvw FB) FB) (sFld K Qc3 (Jvw FH) FH))
section
variable{w:AQ}
def clS:clsN nsS=oS "Site":=by decide+kernel
def JqO{f:Addr}(F:E0)(S:FnScope ps ps Ug)(hps:Aq=1)(hf:∀A,∀g∈nsS,FldC AM g)
  (J:∀(X:Cx)(A:Bv),Ctx X AM ps 'Ɯ'.names->PSs X Ew (Jsa K)):FnOk P w K mg base A0 1 f fd ps (spNS K):=by
 obtain⟨oc,od,kV,doc,pm,an,cdv,ct,osl,rfl,lk,hcd⟩:=F.ex;refine eK lk hcd S (λvs H Q E h=>?_) (λA outer s H vs Q E hr h=>?_)
 ·obtain⟨y,L,C,rfl,_⟩:=h;exact hps.symm
 ·obtain⟨y,L,C,rfl,hy,hC,k⟩:=h;refine⟨_,J _ _ c6,?_⟩;have U:∀g∈nsS,Cls K C/\NoAttr K C g:=λg hg=>hf A g hg nsS C (by rw[clS];exact hC);have s0:(L2.jC ps [V.ref y])[0]? =So (So (.ref y)):=rfl;intro T hT;have u:T≠y:=(Jh hy hT).symm;refine⟨_,s0,y,C,L,[],rfl,by rw[Jb (Ne.symm u)];exact hy,(U Iw (by simp[nsS])).1,(U Iw (by simp[nsS])).2,by decide,?_⟩;intro p Y;have r:p≠y:=λz=>by subst z;rw[Je]at Y;cases Y
  have hpT:p≠T:=λz=>by subst z;rw[Jb r,Je]at Y;cases Y
  refine⟨_,s0,y,C,L,_,rfl,by rw[Jb (Ne.symm r),Je],(U FB (by simp[nsS])).1,(U FB (by simp[nsS])).2,by show 1<1000;decide,?_⟩;intro q B;have l:q≠y:=λz=>by subst z;rw[Je]at B;cases B
  have I:q≠p:=λz=>by subst z;rw[Jb l,Je]at B;cases B
  have hqT:q≠T:=λz=>by subst z;rw[Jb l,Jb I,Jb l,Je]at B;cases B
  refine⟨_,s0,y,C,L,_,rfl,by rw[Jb (Ne.symm l),Je],(U FH (by simp[nsS])).1,(U FH (by simp[nsS])).2,xH (JbN _ _ _) (by show 2<1000;decide),?_⟩;rw[Jb r,Jb hpT]at Y;rw[Jb l,Jb I,Jb l,Jb hqT]at B;have ih:∀h:Hp,upd h y QdS y=So QdS:=λh=>Je;refine k _ Nq (λb o e nb=>?_) (ih _) ⟨rfl,C,L,Nq,ih _,by rw[clS];exact hC,rfl,?_⟩
  ·rw[Jb nb,Jb (Jh e B),Jb nb,Jb (Jh e Y),Jb nb,Jb (Jh e hT)];exact e
  ·refine⟨_,_,rfl,⟨T,[],rfl,⟨[],?_,rfl,rfl⟩,rfl⟩,_,_,rfl,⟨p,[],rfl,?_,rfl⟩,_,_,rfl,⟨q,[],rfl,?_,rfl⟩,rfl⟩
   ·rw[Jb u,Jb (Ne.symm hqT),Jb u,Jb (Ne.symm hpT),Jb u,Je]
   ·rw[Jb r,Jb (Ne.symm I),Jb r,Je]
   ·rw[Jb l,Je]
end
inductive MakeSe(G:Gw):Prop where
 |mk (C f:Addr) (fd:FuncData) (ps:List Str) (h:Mk G.K C f/\FnOk G.prog G.w G.K G.mg G.base (CXr G.prog G.w) 1 f fd ps (spNS G.K)/\Room 2 G.A/\G.mg (oS "Site")=So (.ref C)/\PySem.W.nsIn G.K mainGlobals (oS "Site")=So (So (.ref C))/\Binds G.K fd ps []):MakeSe G
structure MakeS(G:Gw):Prop where
 ex:MakeSe G
section
variable{U:Ag}{b:Bs}{q:Px}{rest:BF}{pt pt2 p pos':Pos}{kt k2:Nat}
def EnvOk.sp(e:CO)(l:∀k∈M,∀d,O[k]? ≠So Bd)(u:plE O=To)(o:A4)(s:C6):EnvOk K M H0 W Z O:=
 ⟨o.same YN s,e.len,λk d g h=>let⟨v,z,r⟩:=e.read k d g h;⟨v,z,Rep.plain s.hid d (fT u h) r⟩,λk d g h=>absurd h (l k g d),λk _ _ d _ g _ _ h=>absurd h (l k g d)⟩
end
end Rd
namespace Rd
open PySem PySem.Spec PyProof.Rows L2 Pu PySem.W
variable{X:Cx}{N ns cs:Ac}{i j fi k kt k2:Nat}{G:Gw}{nm:Bj}{x cn y m dn:Str}{K:Aj}{P:Ba}{w:AQ}{pos p1 px py apos lp pt pt2 pos':Pos}{mg:Bk}{base:Heap}{H H0:Hp}{M:As}{bc:AI}{p:Px}{A:Bv}{s:Al}{Pt c f:Addr}{e body:Expr}{params:Qdj}{b:Bs}{Z:Bl}{st:Stmt}{sc:Bf}
section
variable{defs:Ci}{bdefs:EI}{C:Addr}
noncomputable def OkP (P:Ba) (w:AQ) (K:Aj) (mg:Bk) (base:Heap) (defs:Ci) (C:Addr) (k:Nat):Nat->List MethE->Prop
 |_,[]=>True
 |i,e::T=>(∀f g,Met1 K C e f g->FnOk P w K mg base A0 (3*k) f g e.2.2.2 QbK)/\OkP P w K mg base defs C k Bw T
theorem Jke:∀(T:IS)(i:Nat),OkP P w K mg base defs C 0 i T
 |[],_=>trivial
 |e::T,i=>⟨λ_ _ _=>Jmr,Jke T Bw⟩
theorem JeG{k:Nat}{A:Bv}{cn:Str}(o:Y1)(l:PySem.W.nsIn K mainGlobals cn=So BC)(a:GR):∀{T:IS}{i j:Nat}{e:Z6},HasM K C T->OkP P w K mg base defs C k i T->T[j]? =So e->CalleeP AM CC (i+j) cn e.1
 |[],_,_,_,_,_,h=>by simp at h
 |d::T,i,0,e,hm,ok,h=>by
  simp only[kF,ZU]at h
  subst h
  obtain⟨⟨f,g,D⟩,_⟩:=hm
  exact⟨⟨C,3*k,f,g,_,l,o,D.m,ok.1 f g D,a.in1.in1,D.b⟩⟩
 |d::T,i,j+1,e,hm,ok,h=>by
  have:=JeG (cn:=cn) o l a (j:=j) hm.2 ok.2 (by simpa using h)
  rw[show i+1+j=i+(j+1) by lia]at this
  exact this
theorem JcJ{k:Nat}{A:Bv}{cn:Str}(o:Y1)(l:PySem.W.nsIn K mainGlobals cn=So BC)(a:GR):∀{T:IS}{i j:Nat}{e:Z6},HasM K C T->OkM P w K mg base defs bdefs C k i T->T[j]? =So e->CalleeB AM Dq (i+j) cn e.1
 |[],_,_,_,_,_,h=>by simp at h
 |d::T,i,0,e,hm,ok,h=>by
  simp only[kF,ZU]at h
  subst h
  obtain⟨⟨f,g,D⟩,_⟩:=hm
  exact⟨⟨C,3*k,f,g,_,l,o,D.m,ok.1 f g D,a.in1.in1,D.b⟩⟩
 |d::T,i,j+1,e,hm,ok,h=>by
  have:=JcJ (cn:=cn) o l a (j:=j) hm.2 ok.2 (by simpa using h)
  rw[show i+1+j=i+(j+1) by lia]at this
  exact this
def foP{a:Gw->CallD->Prop}{e:Z6}{d:DefD}{b:Sx}(E:∀A,Room E8 A->a AM CC)(u:∀{X:Cx}{G:Gw}{U:Ag}{H0:Hp},a G U->Ctx X G N (Jd e.2.2.1).names->HX X (Jd e.2.2.1).names->PSs X (Jp e.2.2.1) Ro)
  (q:'б' (defs[i]? =So d) Ai) (hb:'б' (X9=b) Ai) (h:'б' ((sI N e.2.2.2 (Jd e.2.2.1)&&d.slots==XA&&d.params==e.2.2.2.length&&M.all (λi=>decide (e.2.2.2.length<=i))&&decide (e.2.2.2.length<=XA))=To) Kb):
  ∀f g,Met1 K C e f g->FnOk P w K mg base A0 (3*AZ) f g e.2.2.2 QbL:=λf g D=>by
 simp only[Zc,ZI,uB,Zw]at h
 obtain⟨⟨⟨⟨F,z⟩,o⟩,B⟩,r⟩:=h
 subst hb
 exact Jxf (j:=3*k+2) D.F (nI F) q z o B r λX A H0 C v l=>u (E A v) C l
def foG{a:Gw->CallD->CallB->Prop}{e:Z6}{ks:Nat}(E:∀A,Room E8 A->a AM CC Dq)(r:∀{X:Cx}{G:Gw}{U:Ag}{bc:AI}{H0:Hp},a G U bc->Ctx X G N (Jd e.2.2.1).names->HX X (Jd e.2.2.1).names->PlO H0->PSs X (Jp e.2.2.1) PH)
  (q:'б' (bdefs[i]? =So OX) Ai) (h:'б' ((sI N e.2.2.2 (Jd e.2.2.1)&&5==XA&&4==e.2.2.2.length)=To) Kb):
  ∀f g,Met1 K C e f g->FnOk P w K mg base A0 (3*AZ) f g e.2.2.2 (spG K mg Ld i):=λf g D=>by
 simp only[Zc,ZI]at h
 obtain⟨⟨z,v⟩,o⟩:=h
 exact Jxg (j:=3*k+2) D.F (nI z) q v.symm o.symm λX A H0 C u l B=>r (E A u) C l B
def JlA{e:Z6}(l:Y1)(o:PySem.W.nsIn K mainGlobals cn=So BC)(h:GR)(a:∃f g,Met1 K C e f g)(ok:∀f g,Met1 K C e f g->FnOk P w K mg base A0 (3*k) f g e.2.2.2 (spG K mg Dq i)):CalleeG AM Dq i cn e.1:=by obtain⟨f,g,D⟩:=a;exact⟨⟨C,3*k,f,g,_,o,l,D.m,ok f g D,h.in1.in1,D.b⟩⟩
def Jgi{f:Str}(hB:PySem.W.nsIn K mainGlobals (oS "Board")=So No)(g:PySem.W.nsIn K mainGlobals Ll=So BC)(a:Y1)(l:NoAttr K C f)(A:Bv):FldC AM f:=λns o h=>by
 unfold clsN at h
 split at h
 ·rw[hB]at h;cases h
 ·rw[g]at h;cases h;exact⟨a,l⟩
end
section
variable{w:Bool}{U:Ag}{ek ev:Expr}{pk:Px}{f z:Str}{pz mpos cpos spos dpos:Pos}
def bNewL(C:Am)(h:A4)(g:chkV N nm 0 x=To)(a:Dr)(hs:swapsWith QbN (So CA) XH Ue=pure Fo):
  PS X (.Assign OZ QbN pos) UL:=Juw C h (iH g) a hs
def bAppF(C:Am)(l:A4)(h:chkV N nm 0 x=To)(g:Dr)(r:Cg)(o:Mc)
  (q:Nw) (a:attributeBase CA "append" Ue (eval CA Ue)=eval CA Ue)
  (hs:NA):
  PS X WR UW:=JuU C l (iH h) g r o q a hs
def bPutK(C:Am)(q:A4)(h:chkV N nm 0 x=To)(g:Dr)(a:LW)(o:PE X ev Gh)
  (l:Nw) (hs:swapsWith ev UK XH Ue=pure Fo):
  PS X VZ Vh:=Jup C q (iH h) g a o l hs
def bPopK(C:Am)(o:A4)(h:chkV N nm 0 x=To)(g:Dr)(a:LW)(m:QJ)
  (l:Nw):
  PS X WK U5:=Jth C o (iH h) g a m l
def gPop(C:Am)(a:Gx)(q:chkA N nm [] j y=To)(u:Mc)(v:'б' (attributeBase Do "pop" Ue (eval Do Ue)=eval Do Ue) Ai)
  (hs:'б' (swapsWith Wh (So Kz) XH Ue=pure Fo) Ai):PS X (.Assign [.Name y py] Wh pos) (tAsg (tBM0 X.K "list" rPop QcW) (Jex j)):=by simp only[chkV,Zc,ZI]at a;obtain⟨l,g⟩:=plainN.d a.2;obtain⟨B,o,E⟩:=chkA.at q;obtain⟨r,h⟩:=C.sto y o;exact gD CU (by rw[C.hN];exact B) r (JvR jM PySem.F.slot_list_pop PySem.F.type_list_pop JuP (rA (by rw[C.hN];exact a.1.1) (C.vis x a.1.2) l g) v u) hs h
def gApp(C:Am)(a:Gx)(hz:chkV N nm j z=To)(o:Mc)(q:'б' (attributeBase Do "append" Ue (eval Do Ue)=eval Do Ue) Ai)
  (hs:'б' (starEach [.Name z pz] Ue=(Fo,eval (.Name z pz) Ue)::starEach [] Ue) Ai):PS X (.Expr (.Call (.Attribute Do "append" mpos) [.Name z pz] [] cpos) pos) (KW (tBM X.K "list" rApp QcW (uQ (tVar j) tNil))):=by simp only[chkV,Zc,ZI]at a hz;obtain⟨l,g⟩:=plainN.d a.2;obtain⟨h,r⟩:=plainN.d hz.2;exact zK (yM jM lW kW Jfi (rA (by rw[C.hN];exact a.1.1) (C.vis x a.1.2) l g) (JP (rA (by rw[C.hN];exact hz.1.1) (C.vis z hz.1.2) h r) mE hs) q (by rw[hs];rfl) o hs rfl) rfl
end
section
variable{w:Bool}{U:Ag}{pb:Bx}{f:Nat}
def tSB.retB{D:Ends}(g:tSB X w U bc [] H0 (.retB pb) D Z H):tB X U bc [] H0 pb Z H D.rt:=by obtain⟨O,e,h⟩:=g;refine Dv;refine(Rx.good_next.mp h).imp (λd a q v W l B s r=>?_) λc a z C W o u=>z C W Z o u;exact q v W l.same r λ_=>⟨Z,l⟩
def Jvr(a:Tr):PS X M7 (tSB X w U bc [] H0 (.retB pb)):=PS.weak (kN a) λD Z H h=>h.retB
variable{f2:Nat}{m2:Str}{p2 pc:Px}
end
section
variable{defs:Ci}{bdefs:EI}
def Jxx (X:Cx) (G:Gw) (U:Ag) (bc:AI) (H0:Hp):List MethE->List (List Str)->List DefB->Prop
 |e::T,n::L,d::D=>(Ctx X G n (Jd e.2.2.1).names->HX X (Jd e.2.2.1).names->PSs X (Jp e.2.2.1) (tSB X To U bc [] H0 X9))/\Jxx X G U bc H0 T L D
 |[],_,_=>True
 |_,_,_=>False
def JxU (X:Cx) (G:Gw) (U:Ag) (H0:Hp):List MethE->List (List Str)->List DefD->Prop
 |e::T,n::L,d::D=>(Ctx X G n (Jd e.2.2.1).names->HX X (Jd e.2.2.1).names->PSs X (Jp e.2.2.1) (tS X U [] H0 X9))/\JxU X G U H0 T L D
 |[],_,_=>True
 |_,_,_=>False
end
structure Prt(K:Aj)(H:Hp)(a:Addr)(d:D)(L:A9):Prop where
 mem:a∈L
 owc:OwC L H
 npl:∀l∈L,∀o,H l=So o->plK o=Fo
 rep:∀W,(∀l∈L,W l=H l)->SameP H W->Rep K W d Ar
section
variable{W:Hp}{a:Addr}{d:D}{L:A9}{ks vs J es:Ak}
def Jxr{C g T p q:Addr}{kvs:GB}{ys F:Av}(h:H a=So (.ins C g Ra))(B:H g=So aX)(r:H T=So AN)(v:H p=So (.lsm FB ys))(u:H q=So (.lsm FH F))
  (hC:PySem.W.nsIn K mainGlobals BX=So BC) (Y:ks=kvs.map (λp=>keyV p.1)) (rv:Reps K H vs (kvs.map (·.2))) (rd:Reps K H J ys) (re:Reps K H es F) (pv:Ja vs=To) (pd:Ja J=To) (pe:Ja es=To):
  Prt K H a TH [a,g,T,p,q]:=by
 have cs:∀{P:Addr->Prop},P a->P g->P T->P p->P q->∀l∈[a,g,T,p,q],P l:=λh1 h2 h3 h4 h5 l O=>by simp only[Zf,Zy,fA]at O;rcases O with rfl|rfl|rfl|rfl|rfl<;>assumption
 refine⟨by simp,⟨cs ⟨_,h,trivial⟩ ⟨_,B,trivial⟩ ⟨_,r,trivial⟩ ⟨_,v,trivial⟩ ⟨_,u,trivial⟩,λb y I e=>?_,λb C' U fs I e=>?_⟩,cs (λo e=>?_) (λo e=>?_) (λo e=>?_) (λo e=>?_) (λo e=>?_),λW E sp=>?_⟩
 ·refine cs (P:=λb=>H b=So (.own y)->y∈[a,g,T,p,q]/\∃C fs,H y=So QdK) (λz=>?_) (λz=>?_) (λz=>?_) (λz=>?_) (λz=>?_) b I e
  ·rw[h]at z;cases z
  ·rw[B]at z;cases z;exact⟨by simp,_,_,h⟩
  ·rw[r]at z;cases z
  ·rw[v]at z;cases z
  ·rw[u]at z;cases z
 ·refine cs (P:=λb=>H b=So (.ins C' U fs)->U∈[a,g,T,p,q]) (λz=>?_) (λz=>?_) (λz=>?_) (λz=>?_) (λz=>?_) b I e
  ·rw[h]at z;cases z;simp
  ·rw[B]at z;cases z
  ·rw[r]at z;cases z
  ·rw[v]at z;cases z
  ·rw[u]at z;cases z
 ·rw[h]at e;cases e;rfl
 ·rw[B]at e;cases e;rfl
 ·rw[r]at e;cases e;rfl
 ·rw[v]at e;cases e;rfl
 ·rw[u]at e;cases e;rfl
 ·exact⟨rfl,C,g,Nq,by rw[E a 'j'];exact h,hC,rfl,_,_,rfl,⟨T,_,rfl,⟨kvs,by rw[E T 'j'];exact r,Y,rfl⟩,Reps.plain sp vs pv rv⟩,_,_,rfl,⟨p,ys,rfl,by rw[E p 'j'];exact v,Reps.plain sp J pd rd⟩,_,_,rfl,⟨q,F,rfl,by rw[E q 'j'];exact u,Reps.plain sp es pe re⟩,rfl⟩
def Jwk{h:Heap}(r:Rep K H TH Ar)(ok:BE)(z:Ja vs=To)(pd:Ja J=To)(pe:Ja es=To):∃L,Prt K H a TH L:=by obtain⟨_,C,dx,xs,g,u,_,x1,r1,rfl,⟨T,I,rfl,⟨v,o,l,rfl⟩,F⟩,Y,r2,rfl,⟨p,ys,rfl,E,U⟩,x3,r3,rfl,⟨q,zs,rfl,B,O⟩,rfl⟩:=r;exact⟨_,Jxr g (ok a _ g).1 o E B u l F U O z pd pe⟩
def Prt.mono(p:HP)(s:∀l∈L,W l=H l)(sp:C6):Prt K W a d L where
 mem:=p.mem
 owc:=⟨λb g=>by rw[s b g];exact p.owc.all b g,λb y g e=>by
   rw[s b g]at e
   obtain⟨r,q⟩:=p.owc.own b y g e
   exact⟨r,by rw[s y r];exact q⟩,λb C x fs g e=>by rw[s b g]at e;exact p.owc.dx b C x fs g e⟩
 npl:=λl h o e=>by rw[s l h]at e;exact p.npl l h o e
 rep:=λu q v=>p.rep u (λl h=>by rw[q l h];exact s l h) (sp.trans v)
def Prt.at(p:HP){l:Addr}(g:l∈L):∃o,H l=So o:=let⟨o,e,_⟩:=p.owc.all l g;⟨o,e⟩
def Prt.keep(p:HP)(s:Ca):∀l∈L,W l=H l:=λl g=>by obtain⟨o,e⟩:=p.at g;rw[s l o e,e]
end
def tLaw(X:Cx)(H0:Hp)(R:Fm->Prop):L2.TS:=λD Z H=>∃O,EnvOk X.K [] H0 H Z O/\R O/\∀W,D.rt CW W
section
variable{U:Ag}{rest body:BF}{a:Bs}
def lE{R:Fm->Prop}(h1:PS X st (tSB X Fo U bc [] H0 a))(u:PB):PSs X (st::rest) (tLaw X H0 λO=>∃g,exO Fo U bc a O=.ok .nx g/\R g):=by refine PSs.weak (JN h1 u) λD Z H l=>?_;obtain⟨O,e,⟨g,h,q⟩,o⟩:=l;refine Dv;rw[h];exactλr W v _=>⟨g,v,q,o⟩
def env0{O:Fm}(s:Same H0 H)(l:Z.length=O.length)(r:ReadOk K H Z O):EnvOk K [] H0 H Z O:=
 ⟨s,l,λj d _ h=>by show∃v,_/\Rep K IW d v;rw[JD];exact r j d h,λj d g=>by simp at g,λj _ _ _ _ g=>by simp at g⟩
variable{is io ip ij ia:Nat}{pt pp pi:Px}{xo:Str}{pf pr pc:Pos}{e6 tg iter:Expr}{s7 s8:Stmt}{kc:Nat}
end
end Rd
namespace Pu
open PySem
variable{α β:Type}{e a c src as:Px}{p:Bool}{J:Ak}{i:Nat}
section
variable(i j:Int)(x y:Str)(xs ys:Ak)(a b:D)(p q:Bool)
@[simp]def o_neg:op1 .neg A2=.ok (.int (-i)):=rfl
@[simp]def o_not:op1 .not Cr=.ok (.bl !p):=rfl
@[simp]def JyB:op1 .truth Cr=.ok Cr:=rfl
@[simp]def o_lenT:op1 .len Bb=.ok (.int Ah):=rfl
@[simp]def o_lenL:op1 .len AA=.ok (.int Ah):=rfl
@[simp]def o_tupL:op1 .tuple AA=.ok Bb:=rfl
@[simp]def o_tupT:op1 .tuple Bb=.ok Bb:=rfl
@[simp]def o_listL:op1 .list AA=.ok AA:=rfl
@[simp]def o_listT:op1 .list Bb=.ok AA:=rfl
@[simp]def o_enumT:op1 .enum Bb=.ok Qa7:=rfl
@[simp]def o_enumL:op1 .enum AA=.ok Qa7:=rfl
@[simp]def o_rowsL:op1 .rows AA=.ok AA:=rfl
@[simp]def o_rowsT:op1 .rows Bb=.ok Bb:=rfl
@[simp]def JxE:D.walk AA=.ok xs:=rfl
@[simp]def JvD:D.walk Bb=.ok xs:=rfl
@[simp]def o_asI:op1 .asI A2=.ok A2:=rfl
@[simp]def o_isNn:op1 .isN .non=.ok CW:=rfl
@[simp]def o_isNl:op1 .isN AA=.ok C4:=rfl
@[simp]def o_notNn:op1 .notN .non=.ok C4:=rfl
@[simp]def o_notNl:op1 .notN AA=.ok CW:=rfl
theorem Jmw(n:Nat)(h:n<=1000):op1 .range A3=.ok (.lst (upTo 0 n)):=by
 have:midI n=To:=by simp only[midI,Zc,Zw];lia
 show(if midI n=To then Rs.ok (D.lst (upTo 0 (n:Int).toNat))else .sk)=_;rw[if_pos this,qF]
@[simp]def o_add:op2 .add A2 Ds=.ok (.int (i+j)):=rfl
@[simp]def JyC{i j:Int}{k:Int->Int->Rs D}:onII A2 Ds k=k i j:=rfl
@[simp]def o_sub:op2 .sub A2 Ds=.ok (.int (i-j)):=rfl
@[simp]def Jxj(h:smallI i||smallI j):op2 .mul A2 Ds=.ok (.int (i*j)):=if_pos h
def JwV(h:Ah+By<=lD):op2 .add Bb QaL=.ok (.tup (xs++ys)):=if_pos h
def JrS(h:Ah+By<=lD):op2 .add AA FN=.ok (.lst (xs++ys)):=if_pos h
@[simp]def o_lt:op2 .lt A2 Ds=.ok (.bl (decide (i<j))):=rfl
@[simp]def o_le:op2 .le A2 Ds=.ok (.bl (decide (i<=j))):=rfl
@[simp]def o_gt:op2 .gt A2 Ds=.ok (.bl (decide (j<i))):=rfl
@[simp]def o_ge:op2 .ge A2 Ds=.ok (.bl (decide (j<=i))):=rfl
def o_eq(h:a.dep<=20)(h':b.dep<=20):op2 .eq a b=.ok (.bl (a.eqv b)):=if_pos (by simp[JO,h,h'])
def o_ne(h:a.dep<=20)(h':b.dep<=20):op2 .ne a b=.ok (.bl (!a.eqv b)):=if_pos (by simp[JO,h,h'])
@[simp]def o_eqS:op2 .eq D2 YW=.ok (.bl (x==y)):=rfl
@[simp]def o_neS:op2 .ne D2 YW=.ok (.bl (!(x==y))):=rfl
@[simp]def o_eqI:op2 .eq A2 Ds=.ok (.bl (i==j)):=rfl
@[simp]def o_neI:op2 .ne A2 Ds=.ok (.bl (!(i==j))):=rfl
@[simp]def o_eqB:op2 .eq Cr Qat=.ok (.bl (p==q)):=rfl
@[simp]def o_neB:op2 .ne Cr Qat=.ok (.bl (!(p==q))):=rfl
@[simp]def o_idxT:op2 .idx Bb A2=Rs.ofOpt (atD xs i):=rfl
@[simp]def uY:op2 .idx AA A2=Rs.ofOpt (atD xs i):=rfl
@[simp]def Jvt:op2 .zip Bb QaL=.ok (.lst '事'):=rfl
def o_inT(h:deps xs<=19)(h':a.dep<=20):op2 .isin a Bb=.ok UB:=by
 have:JO Bb=To:=by simp[JO,D.dep,h]
 have f:JO a=To:=by simp[JO,h']
 cases a<;>exact if_pos (by rw[this,f];rfl)
def o_inL(h:deps xs<=19)(h':a.dep<=20):op2 .isin a AA=.ok UB:=by
 have:JO AA=To:=by simp[JO,D.dep,h]
 have f:JO a=To:=by simp[JO,h']
 cases a<;>exact if_pos (by rw[this,f];rfl)
theorem atN(n:Nat)(h:n<Ah):atD xs (n:Int)=So xs[n]:=by
 have g:(n:Int)<Ah:=by lia
 have f:(0:Int)<=n:=by lia
 simp[atD,ixn,g,f,h]
@[simp]def at0:atD (a::xs) 0=So a:=by have:=atN (a::xs) 0 Ad;simpa using this
@[simp]def at1:atD (a::b::xs) 1=So b:=by have:=atN (a::b::xs) 1 Ad;simpa using this
@[simp]def ofSome(a:α):Rs.ofOpt (So a)=.ok a:=rfl
end
section
variable(U:Ag)(O:Fm)
@[simp]def wD(i:Nat):evD U B3 O=match O[i]? with
  |some (So d)=>.ok d
  |_=>.sk:=rfl
@[simp]def xW(d:D):evD U (.con d) O=.ok d:=rfl
@[simp]def e_un(o:O1)(a:Px):evD U (.un o a) O='ƀ'.bind (op1 o):=rfl
@[simp]def e_bi(o:O2)(a b:Px):evD U (.bi o a b) O='ƀ'.bind λx=>(evD U b O).bind λy=>op2 o x y:=rfl
@[simp]def e_and(a b:Px):evD U (.and a b) O='ƀ'.bind λx=>match x with
  |.bl To=>evD U b O
  |.bl Fo=>.ok C4
  |_=>.sk:=rfl
@[simp]def e_or(a b:Px):evD U (.or a b) O='ƀ'.bind λx=>match x with
  |.bl To=>.ok CW
  |.bl Fo=>evD U b O
  |_=>.sk:=rfl
@[simp]def JwG(c a b:Px):evD U (.ite c a b) O='ԗ'.bind λx=>match x with
  |.bl To=>evD U a O
  |.bl Fo=>evD U b O
  |_=>.sk:=rfl
@[simp]def e_nil:evD U .nil O=.ok GD:=rfl
@[simp]def tN(a as:Px):evD U (.cons a as) O='ƀ'.bind λx=>'ǎ'.bind λy=>y.asL.bind λJ=>.ok (.lst (x::J)):=rfl
@[simp]def e_tup(as:Px):evD U (.tup as) O='ǎ'.bind λy=>y.asL.bind λJ=>if Ae<=lD then .ok (.tup J)else .sk:=rfl
@[simp]def e_dis(as:Px):evD U (.dis as) O='ǎ'.bind λy=>y.asL.bind λJ=>if Ae<=lD then .ok Bc else .sk:=rfl
@[simp]def kR(f:Nat)(as:Px):evD U (.call f as) O='ǎ'.bind λy=>y.asL.bind λJ=>U f J:=rfl
@[simp]def e_sl(a lo hi:Px):evD U (.sl a lo hi) O='ƀ'.bind λx=>(evD U lo O).bind λl=>l.bound.bind λl=>(evD U hi O).bind λh=>h.bound.bind λh=>match x with
  |.tup J=>.ok (.tup L6)
  |.lst J=>.ok (.lst L6)
  |.str x=>if x.length<=20000 then .ok (.str UE)else .sk
  |_=>.sk:=rfl
@[simp]def fE(a:Px):evD U (.walk a) O='ƀ'.bind λx=>x.walk.bind λJ=>.ok Bc:=rfl
def sN(b:Nat)(src c e:Px):evD U (.comp b src c e) O='Ф'.bind λs=>s.asL.bind λJ=>if Ae<=lD then(JY b Xp 'ԡ' O J).bind λf=>.ok (.lst f)else .sk:=rfl
end
@[simp]def yE(J:Ak):D.asL Bc=.ok J:=rfl
@[simp]def Joy:D.bound .non=.ok No:=rfl
@[simp]def JmC(i:Int):D.bound A2=.ok (So i):=rfl
section
variable(U:Ag)(O:Fm)
@[simp]def ans_nx:Jf (.ok YF)=.ok .non:=rfl
@[simp]def Jyd(d:D):Jf (.ok aK)=.ok d:=rfl
@[simp]def JxQ:Jf .sk=.sk:=rfl
@[simp]def ans_ex(c:Str):Jf (.ex c)=.ex c:=rfl
@[simp]def x_skip:exD U .skip O=.ok YF:=rfl
@[simp]def yA(a b:Sx):exD U IY O=(exD U a O).bind λr=>match r with
  |(.nx,env2)=>exD U b env2
  |r=>.ok r:=rfl
@[simp]def qQ(m:Bool)(i:Nat)(e:Px):exD U (.set m i e) O='ƣ'.bind λd=>if m&&!d.imm then .sk else .ok QcH:=rfl
@[simp]def x_own(i:Nat)(e:Px):exD U (.own i e) O='ƣ'.bind λd=>match d with
  |.lst J=>if !imms J then .sk else .ok O6
  |_=>.sk:=rfl
@[simp]def x_app(m:Bool)(i:Nat)(e:Px):exD U (.app m i e) O=match O[i]? with
  |some (So (.lst J))=>'ƣ'.bind λd=>if(m&&!d.imm)||!decide (Ae<lD)then .sk else .ok (.nx,O.set i (So (.lst (J++[d]))))
  |_=>.sk:=rfl
@[simp]def x_ext(m:Bool)(i:Nat)(e:Px):exD U (.ext m i e) O=match O[i]? with
  |some (So (.lst J))=>'ƣ'.bind λy=>y.asL.bind λb=>if(m&&!imms b)||!decide (Ae+b.length<=lD)then .sk else .ok (.nx,O.set i (So (.lst (J++b))))
  |_=>.sk:=rfl
@[simp]def JvJ(t:Bool)(i:Nat):exD U (.ownD t i) O=.ok Vb:=rfl
@[simp]def x_retF(i:Nat):exD U (.retF i) O=match O[i]? with
  |some (So (.dct t Fo ks vs))=>.ok (.rt Nu,O)
  |_=>.sk:=rfl
@[simp]def JvO(m t':Bool)(i:Nat)(k v:Px):exD U (.put m t' i k v) O=match O[i]? with
  |some (So (.dct t Fo ks vs))=>(evD U v O).bind λy=>(evD U k O).bind λx=>if(m&&!y.imm)||!(t==t')||!keyD t x||!decide (AC<1000)then .sk else .ok (.nx,O.set i (So (.dct t Fo (putD x y ks vs).1 (putD x y ks vs).2)))
  |_=>.sk:=rfl
@[simp]def x_raise(c:Str)(p:Px):exD U (.raise c p) O='ǈ'.bind λd=>if fK d then .ex c else .sk:=rfl
def x_whl(n:Nat)(c:Px)(b:Sx):exD U (.whl n c b) O=whlL Xp (exD U b) n O:=rfl
@[simp]def x_eff(e:Px):exD U (.eff e) O='ƣ'.bind λ_=>.ok YF:=rfl
@[simp]def eN(e:Px):exD U bB O='ƣ'.bind λd=>.ok aK:=rfl
@[simp]def xM(c:Px)(a b:Sx):exD U (.ite c a b) O='ԗ'.bind λx=>match x with
  |.bl To=>exD U a O
  |.bl Fo=>exD U b O
  |_=>.sk:=rfl
@[simp]def lK(m:Bool)(f:As)(g:Nat)(src:Px)(b:Sx):exD U (.loop m f g src b) O='Ф'.bind λs=>s.asL.bind λJ=>if m&&(mutS b||!imms J)then .sk else forL f g (exD U b) J O:=rfl
@[simp]def x_brk:exD U .brk O=.ok (.bk,O):=rfl
end
def Jpk(ns:AU):deps DX=0:=by
 induction ns with
 |nil=>rfl
 |cons a t b=>simp[deps,D.dep,b]
def JfQ(ns:Ac):deps (ns.map XO)=0:=by
 induction ns with
 |nil=>rfl
 |cons a t b=>simp[deps,D.dep,b]
def JpJ(ns:AU):imms DX=To:=by
 induction ns with
 |nil=>rfl
 |cons a t b=>simp[imms,D.imm,b]
def Jpo(ns:Ac):imms (ns.map XO)=To:=by
 induction ns with
 |nil=>rfl
 |cons a t b=>simp[imms,D.imm,b]
def JxO(b:Nat)(c e:Fm->Rs D)(O:Fm):JY b c e O []=.ok []:=rfl
def gV(b:Nat)(c e:Fm->Rs D)(O:Fm)(d:D)(J:Ak){new:Fm}(h:iA b d=.ok new)(f:c (new++O)=.ok Cr){y:D}(j:p=To->e (new++O)=.ok y)
  {ys:Ak} (g:JY b c e O J=.ok ys):JY b c e O (d::J)=.ok (if p then y::ys else ys):=by cases p<;>simp[JY,h,f,g,j]
theorem JdP(c e:Fm->Rs D)(O:Fm)(f:Nat->D):∀(n lo:Nat),(∀k,lo<=k->k<lo+n->c (So BQ::O)=.ok CW/\e (So BQ::O)=.ok (f k))->
  JY 0 c e O ('仡'.map λk:Nat=>D.int k)=.ok ('仡'.map f)
 |0,lo,h=>rfl
 |n+1,lo,h=>by
  obtain⟨b,g⟩:=h lo (Zh _) Af
  have j:=JdP c e O f n (lo+1) λk o m=>h k Af Af
  have l:iA 0 (D.int lo)=.ok [So (.int lo)]:=rfl
  have:=gV 0 c e O (.int lo) _ l (p:=To) b (λ_=>g) j
  simpa[List.range'_succ]using this
def JlL(n:Nat):upTo 0 n=(List.range' 0 n).map λk:Nat=>D.int k:=by simp[upTo,oV]
def JoZ(n:Nat)(b:n<=1000):(upTo 0 n).length<=lD:=by
 have h:(upTo 0 n).length=n:=by simp[upTo]
 rw[h];exact Zq b AB
def rS(U:Ag)(O:Fm)(ne e:Px)(n:Nat)(g:evD U ne O=.ok A3)(b:n<=1000)(f:Nat->D)(h:∀k,k<n->evD U e (So BQ::O)=.ok (f k)):
  evD U (.comp 0 (.un .range ne) BV e) O=.ok (.lst ('ϑ'.map f)):=by have:=JdP (evD U BV) 'ԡ' O f n 0 λk j l=>⟨rfl,h k Af⟩;rw[oV,sN,e_un,g,Rs.bo,Jmw n b,Rs.bo];show(if(upTo 0 n).length<=lD then _ else _)=_;rw[if_pos (JoZ n b),JlL,this];rfl
section
variable(U:Ag)(O:Fm)
def JJ(e:Px):Jf (exD U bB O)=evD U e O:=by rw[eN];cases evD U e O<;>rfl
def fD(e:Px)(rest:Sx)(b:evD U c O=.ok Cr):Jf (exD U (.seq (.ite c bB .skip) rest) O)=if p then evD U e O else Jf Q9:=by
 rw[yA,xM,b];cases p with
 |true=>simp only[Rs.bo,eN,if_true];cases evD U e O<;>rfl
 |false=>simp
def uD{d:D}(rest:Sx)(b:evD U e O=.ok d):Jf (exD U Qx O)=Jf (exD U rest E9):=by rw[yA,qQ,b];rfl
def kH{a:Sx}{env2:Fm}(rest:Sx)(h:exD U a O=.ok GK):Jf (exD U QdT O)=Jf (exD U rest env2):=by rw[yA,h];rfl
def jH{b:Px}{q:Bool}(g:evD U a O=.ok Cr)(f:p=To->evD U b O=.ok Qat):evD U (.and a b) O=.ok (.bl (p&&q)):=by
 rw[e_and,g];cases p with
 |true=>simpa using f rfl
 |false=>rfl
def tG{b:Px}{q:Bool}(g:evD U a O=.ok Cr)(f:p=Fo->evD U b O=.ok Qat):evD U (.or a b) O=.ok (.bl (p||q)):=by
 rw[e_or,g];cases p with
 |false=>simpa using f rfl
 |true=>rfl
def JR(b:evD U a O=.ok Cr):evD U (.un .not a) O=.ok (.bl (!p)):=by rw[e_un,b];rfl
def oA(b:evD U a O=.ok Cr):evD U (.un .truth a) O=.ok Cr:=by rw[e_un,b];rfl
def Jj{o:O2}{b:Px}{x y z:D}(h:evD U a O=.ok x)(g:evD U b O=.ok y)(f:op2 o x y=.ok z):evD U (.bi o a b) O=.ok z:=by rw[e_bi,h,Rs.bo,g,Rs.bo,f]
def JE{o:O1}{x z:D}(f:evD U a O=.ok x)(b:op1 o x=.ok z):evD U (.un o a) O=.ok z:=by rw[e_un,f,Rs.bo,b]
def Jl{f:Nat}{x:D}{r:Rs D}(g:evD U a O=.ok x)(b:U f [x]=r):evD U (.call f (.cons a .nil)) O=r:=by rw[kR,tN,g];exact b
end
theorem gJ(f:α->Bool):∀J:List α,jB (J.map λd=>.bl (f d))=So (J.map f)
 |[]=>rfl
 |d::J=>by simp[jB,gJ f J]
mutual
def D.small:D->Bool
 |.str x=>decide (Xy<=1000)
 |.tup J=>decide (Ae<=1000)&&kY J
 |.lst J=>decide (Ae<=1000)&&kY J
 |_=>To
def kY:List D->Bool
 |[]=>To
 |d::J=>D.small d&&kY J
end
structure Nice(n:Nat)(d:D):Prop where
 s:d.small=To
 p:d.dep<=n
theorem zS:∀{J:Ak}{n:Nat},(∀d∈J,bO<=n)->deps J<=n
 |[],_,_=>vB _
 |x::xs,n,h=>by
  have f:=h x Ad
  have g:=zS (J:=xs) (n:=n) λd b=>h d bC
  simp only[deps]
  lia
def nH{n:Nat}(h:n<=1000):n<=lD:=Zq h AB
def uA(U:Ag)(O:Fm)(h:evD U as O=.ok Bc)(b:Ae<=1000):evD U (.tup as) O=.ok Gp:=by rw[e_tup,h,Rs.bo,yE,Rs.bo,if_pos (nH b)]
def Jyi(U:Ag)(O:Fm)(h:evD U as O=.ok Bc)(b:Ae<=1000):evD U (.dis as) O=.ok Bc:=by rw[e_dis,h,Rs.bo,yE,Rs.bo,if_pos (nH b)]
def Jg(U:Ag)(O:Fm){d:D}(h1:evD U a O=.ok d)(b:evD U as O=.ok Bc):evD U (.cons a as) O=.ok (.lst (d::J)):=by rw[tN,h1,Rs.bo,b];rfl
def Jk(U:Ag)(O:Fm){f:Nat}{r:Rs D}(h:evD U as O=.ok Bc)(b:U f J=r):evD U (.call f as) O=r:=by rw[kR,h];exact b
def yY{xs ys:Ak}(h:Ah+By<=1000):op2 .add Bb QaL=.ok (.tup (xs++ys)):=JwV _ _ (nH h)
def JsM(U:Ag)(O:Fm){es:Ak}(hi:O[i]? =So (So Bc))(f:evD U e O=.ok (.lst es))(b:Ae+es.length<=1000):
  exD U (.ext Fo i e) O=.ok (.nx,O.set i (So (.lst (J++es)))):=by rw[x_ext,hi];simp only[f,Rs.bo,yE,gC,gF,Zx (nH b),qD,Zl,ZF]
def JtL(U:Ag)(O:Fm){d:D}(hi:O[i]? =So (So Bc))(f:evD U e O=.ok d)(b:Ae<=1000):
  exD U (.app Fo i e) O=.ok (.nx,O.set i (So (.lst (J++[d])))):=by have:Ae<lD:=xH b AB;rw[x_app,hi];simp only[f,Rs.bo,gC,gF,Zx this,qD,Zl,ZF]
theorem JjO(x:Str):∀l:List Str,x∉l->(insS x l).length=XN+1
 |[],_=>rfl
 |y::ys,h=>by
  simp only[Zf,not_or]at h
  unfold insS
  split
  ·next e=>exact absurd (by simpa using e) h.1
  ·split
   ·rfl
   ·simp[JjO x ys h.2]
def yD (l:Ac):Bool:=decide ((Jn l).length<XN)
theorem JfJ:∀l:List Str,l.Nodup->(Jn l).length=XN
 |[],_=>rfl
 |x::xs,h=>by
  obtain⟨b,f⟩:=oB.mp h
  unfold Jn
  rw[JjO x _ (λz=>b ((Jy xs x).mp z)),JfJ xs f]
  rfl
def qO{l:Ac}(h:l.Nodup):yD l=Fo:=by simp[yD,JfJ l h]
def n25:((2:Nat)=5)=False:=eq_false AB
def n35:((3:Nat)=5)=False:=eq_false AB
theorem Jbi(c e:Fm->Rs D)(O:Fm)(f:α->D)(p:α->Bool)(g:α->D):∀b:List α,(∀r∈b,c EZ=.ok (.bl (p r))/\(p r=To->e EZ=.ok (g r)))->JY 0 c e O QaM=.ok ((b.filter p).map g)
 |[],_=>rfl
 |r::b,h=>by
  have m:=Jbi c e O f p g b λx l=>h x (by simp[l])
  have j:=h r Ad
  have:=gV 0 c e O (f r) QaM (new:=[So (f r)]) rfl j.1 j.2 m
  rw[Zg,this]
  cases o:p r<;>simp[mF,o]
theorem Jcn(c e:Fm->Rs D)(O:Fm)(f1 f2:α->D)(p:α->Bool)(g:α->D):∀b:List α,(∀r∈b,c Kc=.ok (.bl (p r))/\(p r=To->e Kc=.ok (g r)))->JY 2 c e O Qo=.ok ((b.filter p).map g)
 |[],_=>rfl
 |r::b,h=>by
  have l:=Jcn c e O f1 f2 p g b λx j=>h x (by simp[j])
  have f:=h r Ad
  have:=gV 2 c e O (.tup Sy) Qo (new:=[So (f1 r),So (f2 r)]) rfl f.1 f.2 l
  rw[Zg,this]
  cases m:p r<;>simp[mF,m]
def eL(U:Ag)(O:Fm){rs:List α}(f:α->D)(p:α->Bool)(g:α->D)(hs:Ml)(b:F1<=1000)
  (h:∀r∈rs,evD U c EZ=.ok (.bl (p r))/\(p r=To->evD U e EZ=.ok (g r))):evD U Qaj O=.ok (.lst ('乃'.map g)):=by rw[sN,hs,Rs.bo,yE,Rs.bo,if_pos (by rw[Zi];exact nH b),Jbi _ _ O f p g rs h];rfl
def Jrc(U:Ag)(O:Fm){rs:List α}(f1 f2:α->D)(p:α->Bool)(g:α->D)(hs:evD U src O=.ok UV)(b:F1<=1000)
  (h:∀r∈rs,evD U c Kc=.ok (.bl (p r))/\(p r=To->evD U e Kc=.ok (g r))):evD U (.comp 2 src c e) O=.ok (.lst ('乃'.map g)):=by rw[sN,hs,Rs.bo,yE,Rs.bo,if_pos (by rw[Zi];exact nH b),Jcn _ _ O f1 f2 p g rs h];rfl
def JbZ(rs:List α):rs.filter 'ԛ'=rs:=by simp
def zC(U:Ag)(O:Fm){rs:List α}(f:α->D)(g:α->D)(hs:Ml)(j:F1<=1000)
  (h:∀r∈rs,evD U e EZ=.ok (g r)):evD U SI O=.ok RQ:=by rw[eL U O f 'ԛ' g hs j λr b=>'Ϙ',JbZ]
def JfN(U:Ag)(O:Fm){rs:List α}(f1 f2:α->D)(g:α->D)(hs:evD U src O=.ok UV)(f:F1<=1000)
  (h:∀r∈rs,evD U e Kc=.ok (g r)):evD U (.comp 2 src BV e) O=.ok RQ:=by rw[Jrc U O f1 f2 'ԛ' g hs f λr b=>'Ϙ',JbZ]
def zI(d:D)(h:d.dep<=20):op2 .ne d d=.ok C4:=by rw[o_ne _ _ h h,wR d 'g'];rfl
def fZ(d:D)(h:d.dep<=20):op2 .eq d d=.ok CW:=by rw[o_eq _ _ h h,wR d 'g']
section
variable(U:Ag)(O:Fm)
def wF{d:D}(rest:Sx)(b:evD U e O=.ok d):exD U Qx O=exD U rest E9:=by rw[yA,qQ,b];rfl
def wX{a:Sx}{env2:Fm}(rest:Sx)(h:exD U a O=.ok GK):exD U QdT O=exD U rest env2:=by rw[yA,h];rfl
def n_if{b:Bool}(A B:Sx)(f:evD U c O=.ok YR):exD U (.ite c A B) O=if b then exD U A O else exD U B O:=by rw[xM,f];cases b<;>rfl
def e_if{x y:Px}{b:Bool}(f:evD U c O=.ok YR):evD U (.ite c x y) O=if b then evD U x O else evD U y O:=by rw[JwG,f];cases b<;>rfl
end
def eO(x y:Str):op2 .eq D2 YW=.ok (.bl (x==y)):=by rw[o_eq _ _ (by simp[D.dep]) (by simp[D.dep])];rfl
def JpC(n:Nat)(h:n<=1000):op1 .range (.int (n:Int))=.ok (.lst ((List.range' 0 n).map λk:Nat=>D.int k)):=by rw[Jmw n h,JlL]
def runR (U:Ag) (bc:AI) (sl i:Nat) (b1 b2:Bs) (J:Ak) (a:Nat):Rs D:=
 match exO Fo U bc b1 (JC sl J)with
 |.ok .nx O=>if plE O then(match exO Fo U bc b2 (O.set i Ky)with
  |.ok (.rt d) _=>.ok d
  |.ex c _=>.ex c
  |_=>.sk)else .sk
 |.ex c _=>.ex c
 |_=>.sk
noncomputable def datD:D->Bool
 |.non=>To
 |.bl _=>To
 |.int _=>To
 |.str _=>To
 |.tup J=>dats J
 |_=>Fo
where dats:List D->Bool
 |[]=>To
 |d::J=>datD d&&dats J
def RunO(i:Nat)(R:Fm->Prop)(O:Fm):Prop:=plE O=To/\∀a,R (O.set i Ky)
def Jqc{n:Nat}(h:n<=20000):n<=lD:=Zq h AB
def Jqw(U:Ag)(O:Fm){rs:List α}(f:α->D)(p:α->Bool)(g:α->D)(hs:Ml)(b:F1<=20000)
  (h:∀r∈rs,evD U c EZ=.ok (.bl (p r))/\(p r=To->evD U e EZ=.ok (g r))):evD U Qaj O=.ok (.lst ('乃'.map g)):=by rw[sN,hs,Rs.bo,yE,Rs.bo,if_pos (by rw[Zi];exact Jqc b),Jbi _ _ O f p g rs h];rfl
def nO(U:Ag)(O:Fm){rs:List α}(f:α->D)(g:α->D)(hs:Ml)(j:F1<=20000)
  (h:∀r∈rs,evD U e EZ=.ok (g r)):evD U SI O=.ok RQ:=by rw[Jqw U O f 'ԛ' g hs j λr b=>'Ϙ',JbZ]
def JvB(U:Ag)(R:List D->Nat->Rs D)(io:Nat)(p:Px)(R':Fm->Prop)(O:Fm):Prop:=
 ∃T,evD U p O=.ok (.lst T)/\datD.dats T=To/\∀o,∃d,R T o=.ok d/\R' (O.set io Bd)
mutual
def sdD:D->Bool
 |.non=>To
 |.str _=>To
 |.int _=>To
 |.tup J=>sdDs J
 |_=>Fo
def sdDs:List D->Bool
 |[]=>To
 |d::J=>sdD d&&sdDs J
end
mutual
theorem Jsf:∀(a b:D),sdD a=To->sdD b=To->(a.eqv b=To↔a=b)
 |.non,b,_,hb=>by cases b<;>first|(simp[sdD]at hb;done)|simp[D.eqv]
 |.str x,b,_,hb=>by cases b<;>first|(simp[sdD]at hb;done)|simp[D.eqv]
 |.int i,b,_,hb=>by cases b<;>first|(simp[sdD]at hb;done)|simp[D.eqv]
 |.tup J,b,ha,hb=>by
  cases b with
  |tup f=>
   simp only[sdD]at ha hb
   simp only[D.eqv,Jor J f ha hb,D.tup.injEq]
  |_=>first|(simp[sdD]at hb;done)|simp[D.eqv]
 |.bl _,_,ha,_=>by simp[sdD]at ha
 |.lst _,_,ha,_=>by simp[sdD]at ha
 |.dct _ _ _ _,_,ha,_=>by simp[sdD]at ha
 |.exc _,_,ha,_=>by simp[sdD]at ha
 |.fn _ _,_,ha,_=>by simp[sdD]at ha
 |.obj _ _ _,_,ha,_=>by simp[sdD]at ha
 |.mls _ _,_,ha,_=>by simp[sdD]at ha
 |.adr _,_,ha,_=>by simp[sdD]at ha
theorem Jor:∀(a b:Ak),sdDs a=To->sdDs b=To->(eqvs a b=To↔a=b)
 |[],[],_,_=>by simp[eqvs]
 |[],_::_,_,_=>by simp[eqvs]
 |_::_,[],_,_=>by simp[eqvs]
 |x::a,y::b,ha,hb=>by
  simp only[sdDs,Zc]at ha hb
  simp only[eqvs,Zc,Jsf x y ha.1 hb.1,Jor a b ha.2 hb.2,qB]
end
def Inj(g:α->D):Prop:=∀a b,(g a).eqv (g b)=To↔a=b
def Inj.of{g:α->D}(hs:∀a,sdD (g a)=To)(hi:∀a b,g a=g b->a=b):Inj g:=λa b=>(Jsf _ _ (hs a) (hs b)).trans ⟨hi a b,λe=>by rw[e]⟩
section
variable(g:α->D)
noncomputable def bump (k:α) (c:Int):List (α×Int)->List (α×Int)
 |[]=>[(k,c)]
 |(a,n)::r=>if(g a).eqv (g k)then(a,n+c)::r else(a,n)::bump k c r
noncomputable def ksOf (dd:List (α×Int)):List D:=dd.map λp=>g p.1
noncomputable def vsOf (dd:List (α×Int)):List D:=dd.map λp=>.int p.2
noncomputable def getN (k:α):List (α×Int)->Int
 |[]=>0
 |(a,n)::r=>if(g a).eqv (g k)then n else getN k r
noncomputable def wt (f:α->Int) (dd:List (α×Int)):Int:=(dd.map λp=>p.2*f p.1).sum
def Dst(dd:List (α×Int)):Prop:=(dd.map (·.1)).Nodup
variable{g}
theorem JfI(k:α):∀b:List (α×Int),(gA (g k) (ksOf g b) bD).getD a7=.int (getN g k b)
 |[]=>rfl
 |(a,n)::r=>by
  have f:=JfI k r
  simp only[ksOf,vsOf,Zg,gA,getN]at f⊢
  split
  ·rfl
  ·exact f
theorem JnO(l:bN)(f:α->Int)(k:α)(c:Int):∀b:List (α×Int),wt f (bump g k c b)=wt f b+c*f k
 |[]=>by simp[bump,wt]
 |(a,n)::r=>by
  have j:=JnO l f k c r
  simp only[bump]
  split
  ·rename_i h
   have:=(l _ _).mp h
   subst this
   simp only[wt,Zg,iB,Int.add_mul]
   lia
  ·simp only[wt,Zg,iB]at j⊢
   rw[j];lia
theorem Jkl(k:α)(c:Int):∀b:List (α×Int),(bump g k c b).length<=YK+1
 |[]=>by simp[bump]
 |(a,n)::r=>by
  have f:=Jkl k c r
  simp only[bump]
  split
  ·simp
  ·simp only[Zk];lia
theorem Jgw(k:α)(c:Int):∀(dd:List (α×Int))(p:α×Int),p∈bump g k c dd->p.1=k\/∃q∈dd,q.1=p.1
 |[],p,h=>by simp[bump]at h;exact .inl (by rw[h])
 |(a,n)::r,p,h=>by
  simp only[bump]at h
  split at h
  ·rcases Zf.mp h with rfl|h
   ·exact .inr ⟨_,fC,rfl⟩
   ·exact .inr ⟨p,Zm _ h,rfl⟩
  ·rcases Zf.mp h with rfl|h
   ·exact .inr ⟨_,fC,rfl⟩
   ·rcases Jgw k c r p h with h|⟨q,f,b⟩
    ·exact .inl h
    ·exact .inr ⟨q,Zm _ f,b⟩
theorem Jkp(b:bN)(k:α)(c:Int):∀f:List (α×Int),Dst f->Dst (bump g k c f)
 |[],_=>by simp[bump,Dst]
 |(a,n)::r,h=>by
  have j:a∉r.map (·.1)/\Dst r:=by simpa[Dst]using h
  have m:=Jkp b k c r j.2
  simp only[bump]
  split
  ·exact h
  ·rename_i s
   simp only[Dst,Zg,oB]
   refine⟨λl=>?_,m⟩
   obtain⟨p,v,e⟩:=Zv.mp l
   rcases Jgw k c r p v with h|⟨q,u,o⟩
   ·exact s ((b _ _).mpr (e.symm.trans h))
   ·exact j.1 (Zv.mpr ⟨q,u,o.trans e⟩)
theorem JrN(j:bN)[DecidableEq α](k:α):∀m:List (α×Int),Dst m->getN g k m=wt (λa=>if a=k then 1 else 0) m
 |[],_=>rfl
 |(a,n)::r,h=>by
  have o:a∉r.map (·.1)/\Dst r:=by simpa[Dst]using h
  have b:=JrN j k r o.2
  simp only[getN,wt,Zg,iB]at b⊢
  split
  ·rename_i e
   have:=(j _ _).mp e
   subst this
   have z:(r.map λp=>p.2*(if p.1=a then(1:Int)else 0)).sum=0:=by
    have:∀l:List (α×Int),a∉l.map (·.1)->(l.map λp=>p.2*(if p.1=a then(1:Int)else 0)).sum=0:=λl=>by
     induction l with
     |nil=>intro;rfl
     |cons x l b=>intro f;simp only[Zg,Zf,not_or]at f;simp[Zg,iB,Ne.symm f.1,b f.2]
    exact this r o.1
   simp[z]
  ·rename_i e
   have:a≠k:=λz=>e ((j _ _).mpr z);simp[this,b]
def JpD(m:bN)(k:α)(c:Int)(dd:List (α×Int))(h:Dst dd):putD (g k) (.int (getN g k dd+c)) Xr IL=(ksOf g Hd,vsOf Hd):=by
 have A:∀dd:List (α×Int),('ǉ'.any λd=>d.eqv (g k))=Fo->bump g k c dd=dd++[(k,c)]/\getN g k dd=0/\∀v,setD (g k) v Xr IL=vsOf dd:=λdd=>by
  induction dd with
  |nil=>intro;exact⟨rfl,rfl,λv=>rfl⟩
  |cons p r l=>obtain⟨a,n⟩:=p;intro h;simp only[ksOf,Zg,pD,ZN]at h;obtain⟨j,f,b⟩:=l h.2;simp only[ksOf,vsOf]at b;exact⟨by simp[bump,h.1,j],by simp[getN,h.1,f],λv=>by simp only[ksOf,vsOf,Zg,setD,h.1,b,Zl,ZF]⟩
 have B:∀dd:List (α×Int),Dst dd->('ǉ'.any λd=>d.eqv (g k))=To->ksOf g Hd=ksOf g dd/\setD (g k) (.int (getN g k dd+c)) Xr IL=vsOf Hd:=λdd=>by
  induction dd with
  |nil=>intro _ h;simp[ksOf]at h
  |cons p r l=>
   obtain⟨a,n⟩:=p;intro y h;have o:a∉r.map (·.1)/\Dst r:=by simpa[Dst]using y
   by_cases e:(g a).eqv (g k)=To
   ·have:=(m _ _).mp e;subst this;have E:((ksOf g r).any λd=>d.eqv (g a))=Fo:=by rw[List.any_eq_false];intro x u H;obtain⟨q,G,rfl⟩:=Zv.mp u;exact o.1 (Zv.mpr ⟨q,G,(m _ _).mp H⟩)
    have b:=(A r E).2.2;simp only[ksOf,vsOf]at b;simp only[bump,getN,e,if_true,ksOf,vsOf,Zg,setD,b,and_self]
   ·have s:(g a).eqv (g k)=Fo:=by simpa using e
    simp only[ksOf,Zg,pD,s,gF]at h;obtain⟨j,f⟩:=l o.2 h;simp only[ksOf,vsOf]at j f;simp only[bump,getN,s,Zl,ZF,ksOf,vsOf,Zg,setD,j,f,and_self]
 unfold putD;cases q:'ǉ'.any λd=>d.eqv (g k)with
 |true=>obtain⟨z,F⟩:=B dd h q;rw[if_pos rfl,z,F]
 |false=>obtain⟨w,C,_⟩:=A dd q;rw[if_neg ZH,w,C];simp[ksOf,vsOf]
def kC  (g:α->D) (b:β->α) (c:β->Int) (xs:List β) (dd:List (α×Int)):List (α×Int):=xs.foldl (λdd x=>bump g (b x) (c x) dd) dd
theorem JfZ(j:bN)(b:β->α)(c:β->Int)(f:α->Int):∀(xs:List β)(dd:List (α×Int)),wt f 'Ӓ'=wt f dd+(xs.map λx=>c x*f (b x)).sum
 |[],dd=>by simp[kC]
 |x::xs,dd=>by
  have h:=JfZ j b c f xs P5
  simp only[kC,gG,Zg,iB]at h⊢
  rw[h,JnO j];lia
theorem pO(f:bN)(b:β->α)(c:β->Int):∀(xs:List β)(dd:List (α×Int)),Dst dd->Dst 'Ӓ'
 |[],dd,h=>h
 |x::xs,dd,h=>pO f b c xs _ (Jkp f _ _ _ h)
theorem qU(b:β->α)(c:β->Int):∀(xs:List β)(dd:List (α×Int)),'Ӓ'.length<=dd.length+Ah
 |[],dd=>by simp[kC]
 |x::xs,dd=>by
  have f:=qU b c xs P5
  have:=Jkl (g:=g) (b x) (c x) dd
  simp only[kC,gG,Zk]at f⊢
  lia
theorem JgN(b:β->α)(c:β->Int)(P:α->Prop):∀(xs:List β)(dd:List (α×Int)),(∀p∈dd,P p.1)->(∀x∈xs,P (b x))->∀p∈kC g b c xs dd,P p.1
 |[],dd,h,_=>h
 |x::xs,dd,h,hx=>JgN b c P xs _ (λp l=>by
   rcases Jgw _ _ dd p l with e|⟨q,m,f⟩
   ·rw[e];exact hx x fC
   ·rw[<-f];exact h q m) λy j=>hx y Qc4
end
def JmI(U:Ag)(O:Fm){g:α->D}(r:bN){t:Bool}{b vp:Px}{k:α}{c:Int}{dd:List (α×Int)}(hi:O[i]? =So (So (.dct t Fo Xr IL)))(h:evD U b O=.ok (g k))(q:evD U vp O=.ok (.int c))(m:Dst dd)(o:dd.length<1000)(j:keyD t (g k)=To):
  exD U (.put To t i b N2) O=.ok (.nx,O.set i (So (.dct t Fo (ksOf g Hd) (vsOf Hd)))):=by
 have s:evD U Wr O=.ok (.int (getN g k dd)):=by refine Jj _ _ (x:=.dct t Fo Xr IL) (y:=g k) (by rw[wD,hi]) h ?_;simp only[op2,onD,j,and_self,if_true,JfI]
 have l:evD U N2 O=.ok (.int (getN g k dd+c)):=Jj _ _ s q rfl;rw[JvO,hi];have f:'ǉ'.length<1000:=by simpa[ksOf]using o
 simp only[l,h,Rs.bo,j,D.imm,ZE,f,decide_true,qD,iM,qH,Bool.or_self,Zl,ZF,JpD r k c dd m]
noncomputable def ev (ws:Ac):Nat->List I0
 |0=>[[]]
 |n+1=>(ev ws n).flatMap λa=>ws.map λw=>a++[w]
def JjX(U:Ag)(l:Sx)(s:As)(u:Nat)(f:α->D)(xs:List α)(F:List α->Fm->Prop)
  (h:∀j x b O,xs=j++x::b->F j O->∃m,iA u (f x)=.ok m/\∃g,exD U l (zA s m O)=.ok (.nx,g)/\F (j++[x]) g) (O:Fm) (E:F [] O):∃g,forL s u (exD U l) (xs.map f) O=.ok (.nx,g)/\F xs g:=by
 have y:∀(b j:List α)(O:Fm),xs=j++b->F j O->∃g,forL s u (exD U l) QaM O=.ok (.nx,g)/\F xs g:=λb=>by
  induction b with
  |nil=>intro j O e r;rw[pE]at e;subst e;exact⟨O,rfl,r⟩
  |cons x b z=>intro j O e r;obtain⟨m,C,q,A,v⟩:=h j x b O e r;obtain⟨o,B,w⟩:=z (j++[x]) q (by simp[e]) v;exact⟨o,by simp only[Zg,forL,C,Rs.bo,A,B],w⟩
 exact y xs [] O rfl E
theorem JiG{n k:Nat}{b f:As}(e:List.range n=b++k::f):k=YK/\k<n:=by
 have h:(List.range n)[b.length]? =So k:=by rw[e];simp
 rw[Zz]at h;obtain⟨j,g⟩:=h;rw[List.getElem_range]at g;rw[wH]at j;exact⟨g.symm,by lia⟩
def Jfg(U:Ag)(f:Sx)(i:Nat)(e:Px)(n:Nat)(F:Nat->Fm->Prop)(O:Fm)(s:evD U e O=.ok A3)(r:n<=1000)
  (h:∀k O,k<n->F k O->∃b,exD U f (O.set i FM)=.ok (.nx,b)/\F AZ b) (u:F 0 O):∃b,exD U (.loop Fo [i] 0 (.un .range e) f) O=.ok (.nx,b)/\F n b:=by
 obtain⟨b,j,l⟩:=JjX U f [i] 0 (λk:Nat=>D.int k) 'ϑ' (λg O=>F Yd O) (λg k m O e o=>by
  obtain⟨rfl,q⟩:=JiG e;obtain⟨b,j,l⟩:=h _ O q o;exact⟨_,rfl,b,j,by rw[Zn];exact l⟩) O u
 refine⟨b,?_,by simpa using l⟩;rw[lK,e_un,s,Rs.bo,JpC n r];simp only[Rs.bo,yE,gC,Zl,ZF];rw[oV]at j;exact j
def uU(U:Ag)(g:Sx)(o:As)(q:Nat)(src:Px)(f:α->D)(xs:List α)(F:List α->Fm->Prop)(O:Fm)(hs:evD U src O=.ok (.lst (xs.map f)))
  (h:∀j x l O,xs=j++x::l->F j O->∃m,iA q (f x)=.ok m/\∃b,exD U g (zA o m O)=.ok (.nx,b)/\F (j++[x]) b) (u:F [] O):∃b,exD U (.loop Fo o q src g) O=.ok (.nx,b)/\F xs b:=by obtain⟨b,s,r⟩:=JjX U g o q f xs F h O u;refine⟨b,?_,r⟩;rw[lK,hs];simp only[Rs.bo,yE,gC,Zl,ZF];exact s
theorem Jed(g:α->D):∀b:List (α×Int),zipD (ksOf g b) bD=b.map λp=>.tup [g p.1,.int p.2]
 |[]=>rfl
 |p::b=>by
  have:=Jed g b
  simp only[ksOf,vsOf]at this
  simp[ksOf,vsOf,zipD,this]
end Pu
namespace Rd
open PySem PySem.Spec PyProof.Rows L2 Pu
section
variable{X:Cx}{U:Ag}{p:Px}{pos:Pos}
theorem Jum{z:Str}{k:Nat}{vs:CF}(h:PJV X U vs p):PJV X U (.Constant YZ k pos::vs) (.cons (.con YZ) p):=by
 intro Y s Z H O i Q J y I r e q u x;simp only[evD,Rs.bo]at e;cases f:evD U p O with
 |ex c=>rw[f]at e;cases e
 |sk=>rw[f]at e;cases e
 |ok l=>
  rw[f]at e;cases l with
  |lst m=>
   simp only[Pu.D.asL,Rs.bo]at e;cases e;obtain⟨a,b,g,o,rfl⟩:=Jff q;simp only[uK]at g;split at g
   ·cases g;rw[JT]at u;refine Calls.Constant_str ⟨z,_,rfl,?_,?_⟩
    ·rw[JT];show _<=16777216;lia
    ·exact h Y _ Z H O (i++z) Q m b C8 r f o (by rw[JT];lia) λv A w j=>by rw[JhE];exact x v A w j
   ·cases g
  |_=>cases e
end
section
variable{X:Cx}{G:Gw}{N:Ac}{nm:Bj}{M:As}{H0:Hp}{U:Ag}{i j:Nat}{x y:Str}{px py pos:Pos}
def addE{e:Type}{a:Str}{f:Pu.D->Rs e}:(op2 .add MR (.str a)).bind f=if a.length<=lD then f (.str a)else .sk:=by
 show(if 0+a.length<=lD then Rs.ok (D.str (Yf++a))else .sk).bind f=_;rw[eM];have b:Str.empty++a=a:=by cases a with|mk c=>show Str.mk (#[]++c)=_;simp
 rw[b];split<;>rfl
theorem aAugK{v:Expr}{P:Px}{ps:Pos}(C:Am)(h:Dj)(m:(chkV N nm j y&&!M.contains j)=To)(hv:PE X v (tI X U P))(h2:sepP M P=To)
  (ha:∀B E g,augStore Kz B E g=(do holding [g,B,E] (setItem B E g);release [g,B,E] [];pure .next)):
  PS X (.AugAssign (.Subscript Do Kz ps) .Add v pos) (tS X U M H0 (.put Fo Fo i (.var j) (.bi .add (.bi .add (.con MR) (.bi Eg B3 (.var j))) P))):=by
 obtain⟨g1,g2,g3,g4,g5⟩:=chkO.at h;obtain⟨d1,d2⟩:=plainN.d g3;simp only[chkV,Zc,ZI,ZV,qJ,oE]at m;obtain⟨⟨⟨k1,k2⟩,k3⟩,k4⟩:=m;obtain⟨d3,d4⟩:=plainN.d k3;have hu:=C.un;refine PS.weak (JsL Af (rA (by rw[C.hN];exact g1) L4 d1 d2) (rA (by rw[C.hN];exact k1) (C.vis y k2) d3 d4) (zN hv) Jjl ha) λD Z H I=>?_;obtain⟨O,e,h⟩:=I;simp only[exD]at h;cases q:O[i]? with
 |none=>rw[q]at h;exact h.elim
 |some o=>
  rw[q]at h;cases o with
  |none=>exact h.elim
  |some d=>
   cases d with
   |dct t z ks s=>
    cases z with
    |true=>exact h.elim
    |false=>
     simp only[evD,q]at h;obtain⟨l,u,h0,hz,xs,hl,hr⟩:=e.own i _ g4 q;cases F:O[j]? with
     |none=>rw[F]at h;exact h.elim
     |some oj=>
      rw[F]at h;cases oj with
      |none=>exact h.elim
      |some dk=>
       simp only[Rs.bo,Rs.bind_assoc]at h;rw[show op2 'Ć' (.dct t Fo ks s) dk=if t=Fo/\keyD t dk=To then Rs.ofOpt (gA dk ks s)else .sk from rfl]at h;split at h
       ·rename_i m;obtain⟨rfl,m⟩:=m;obtain⟨k,rfl⟩:=lL m;obtain⟨vj,w,rj⟩:=e.read j _ k4 F;have hy:=fJ rj;subst hy;obtain⟨kvs,W,rfl,rfl⟩:=hl;have lk:=look_of jE (k:=k) hr;cases ql:gA EE (kvs.map λp=>keyV p.1) s with
        |none=>rw[ql]at h;exact h.elim
        |some d=>
         rw[ql]at h lk;obtain⟨v,ev,rv⟩:=lk;simp only[Rs.ofOpt,Rs.bo]at h;cases d with
         |str a=>
          rw[addE]at h;split at h;rotate_left
          ·exact h.elim
          refine⟨.ref l,u,_,w,l,v,rfl,.inl ⟨kvs,k,.inl W,rfl,ev.symm⟩,lC M 0 O,Ow M O Z,e.ows,aQ,?_⟩;rw[pH U O h2];refine(Rs.gB.mp h).mono (λdv f v2 r A kk1 r1=>?_) λc z=>z.mono Y3;cases dv with
          |str b=>
           obtain rfl:v=.str a:=rv;obtain rfl:v2=.str b:=r1;rw[show op2 .add (.str a) (.str b)=if a.length+b.length<=lD then .ok (.str (a++b))else .sk from rfl]at f;split at f
           ·rename_i J;simp only[Rs.bo]at f;split at f
            ·exact f.elim
            ·rename_i Y;have Y:AV<1000:=by simpa[m]using Y
             have w2:r l=So AN:=A _ _ W;refine⟨a,b,rfl,rfl,yI J,_,DPut.k (k:=k) w2 (by show _<16777216;lia),?_⟩;have e1:=e.grow A;have f2:Same Da (hid BZ r):=(Fz.sm A).hid;obtain⟨p1,p2⟩:=vK (K:=X.K) (H:=hid BZ r) jE (k:=k) (v:=V.str (a++b)) (d:=.str (a++b)) rfl KA;have L:∀ob,OwnIs X.K (hid BZ r) (upd r l ob) l (.dct Fo Fo (putD EE (.str (a++b)) (kvs.map λp=>keyV p.1) s).1 (putD EE (.str (a++b)) (kvs.map λp=>keyV p.1) s).2)->D.nx Z (upd r l ob):=λob nw=>by obtain⟨e3,f4⟩:=e1.change (o:=ob) g4 q u nw;exact f _ _ e3 ⟨(Fz.sm A).trans f4,λz=>by cases z⟩
             refine L _ ?_;exact Li
           ·exact f.elim
          |_=>exact f.elim
         |_=>exact h.elim
       ·exact h.elim
   |_=>exact h.elim
end
end Rd
namespace Rd
open PySem PySem.Spec PyProof.Rows L2 Pu PySem.W
variable{N:Ac}{X:Cx}{G:Gw}{nm:Bj}{H H0 H1:Hp}{x:Str}{pos px pos' p1 p2:Pos}{bc:AI}{p:Px}{P:Ba}{w:AQ}{K:Aj}{mg:Bk}{base:Heap}{e:Expr}{es:CF}
def tIt (X:Cx) (U:Ag) (p:Px):TI:=λZ H R=>∃O,ReadOk X.K H Z O/\(evD U p O).Good (λf=>∃t ks b,f=.dct t To ks b/\∀d o a W,Same H W->DKo W d t o ks a->Reps X.K W b a->R QbO W) Az
section
variable{U:Ag}{a:Expr}{pa:Px}{ap tp:Pos}{elts:CF}{kk:Nat}
def JpZ(ha:AO)(y:V3)(hl:'б' ((Qbo==XH)=To) Ai):
  PI X M0 PJ (tIt X U pa):=by
 rintro Y s Z H R I⟨O,r,h⟩;refine yL y rfl hl kM eA eB (thn (ha Y s Z H (λv W=>∃(t:Bool)(ks:Gu)(d:Addr)(o:Obj)(g:Av),v=.ref d/\DKo W d t o ks g/\R QbO W) I Dc) λu s1 M=>?_)
 ·refine h.imp λdd E v W s1 rv=>?_;obtain⟨t,ks,vs,rfl,m⟩:=E;obtain⟨d,g,rfl,q1,C⟩:=rv;obtain⟨o,i⟩:=DKo.of q1;exact⟨t,ks,d,o,g,rfl,i,m d o g W s1 i C⟩
 obtain⟨v,H1,l,ru,t,ks,d,o,g,J,i,m⟩:=M;subst J;cases(show u=Value.ref d from ru);obtain⟨j,z,F,L,es,B,A,g2,g3⟩:=rT l i;refine⟨⟨o,j,z⟩,λb e=>by cases e;exact⟨o,j,F⟩,?_⟩;refine kI rfl (PySem.evalArgs_none ?_);refine Jjr j z L ?_;refine Jkr CP (Zd _ j) A ?_;have kp:∀b ob,s1.heap.get? b=So ob->((s1.heap.push {cls:=.type "dict_items",data:=.fields #[.ref d]}).push {cls:=.type "dict_itemiterator",data:=.fields #[.none,.bool Fo,.ref d,.int 0 0,.int Xw 0,.int B 0,.none,.none]}).get? b=So ob:=λb ob q=>Zd _ Qc2;refine⟨_,[_],_,_,H1,rfl,l.kept (t':=X6) kp,JkI t d _ o es B A,Qi,λb y=>?_,m⟩;have f:Ax<=b:=by
  have e:b=(s1.heap.push {cls:=.type "dict_items",data:=.fields #[.ref d]}).objs.size:=by simpa using y
  rw[e,ZL];exact mC _
 exact l.fpOk f (l.hok.fresh f)
end
section
variable{w:Bool}{U:Ag}
def Joe{a:Bs}{E:As}{B:Nat}{D:Ends}{Z:Bl}{O:Fm}{J:Gu}{y:It}(e:EnvOk X.K [] H0 H1 Z O)(s1:Qbi)(hmu:mutB a=Fo)
  (wk:∀W,SameP H1 W->(∀i,i<Ae->y.go i W)/\y.stop Ae W/\∀i x v,i<Ae->y.yld i W x v->Same W v/\∃d,J[i]? =So d/\Rep X.K v d x)
  (h:(forB E B Q8 J O).Good TQ Kx):
  ∃W9:Nat->Nat->L2.St->Hp->Prop,(∃m,W9 0 m Z H1)/\∀i m Z H,W9 i m Z H->(y.stop i H/\D.nx Z H)\/(y.go i H/\∃Nn:L2.St->Hp->Prop,(∀j W,Nn j W->∃I,I<m/\W9 Bw I j W)/\
   ∀x W,y.yld i H x W->gS X [] H0 E B x Z W λl o=>tSB X w U bc [] H0 a {D with nx:=Nn,ct:=Nn,bk:=D.nx} l o):=by
 have ch:∀{W:Hp},SameP H W->ChB (mutB a) [] H [] W:=ChB.sp;have un:∀{L L':A9}{Ha Hb:Hp},ChB (mutB a) L Ha L' Hb->SameP Ha Hb:=λz=>z.2 hmu;refine⟨λi m j W=>∃b,EnvOk X.K [] H0 W j b/\SameP H1 W/\i<=Ae/\m=Ae-i/\(forB E B Q8 (J.drop i) b).Good TQ Kx,
  ⟨Ae,O,e,SameP.refl,vB _,rfl,by simpa using h⟩,?_⟩
 intro i m j W zz;obtain⟨b,e',c',hi,rfl,r⟩:=zz;obtain⟨w1,w2,w3⟩:=wk _ c';by_cases g:i<Ae
 ·refine .inr ⟨w1 i g,λl o=>∃I,I<Ae-i/\∃b,EnvOk X.K [] H0 o l b/\SameP H1 o/\i+1<=Ae/\I=Ae- Bw/\(forB E B Q8 KS b).Good TQ Kx,λl o q=>q,λx o hy=>?_⟩;obtain⟨s2,d,hd,rd⟩:=w3 i x o g hy;rw[Jer hd]at r;simp only[forB]at r;cases M:iA B d with
  |sk=>rw[M]at r;exact r.elim
  |ex c=>exact(Jgj M).elim
  |ok F=>
   rw[M]at r;have c2:=c'.trans (SameP.of s2);refine⟨b,d,F,e'.grow s2,by show Rep X.K (hid [] o) _ _;rw[JD];exact rd,M,λσ3 e3 ow3=>⟨zA E F b,e3,(Rq.gB.mp r).imp (λf s Y=>?_) λ_ _ z=>z⟩⟩;cases f with
   |nx=>exactλu H4 A C=>WO
   |ct=>exactλu H4 A C=>WO
   |bk=>exactλu H4 A C=>Y u H4 A (ch (s1.trans (c2.trans (un C))))
   |rt d=>exact Y
 ·obtain rfl:i=Ae:=Nat.le_antisymm hi (Nat.le_of_not_lt g);rw[List.drop_length]at r;exact .inl ⟨w2,r j W e' (ch (s1.trans c'))⟩
theorem JeR:∀{ks vs:Gu},AC=AJ->Ja '井'=To->Ja vs=To
 |[],[],_,_=>rfl
 |k::ks,v::vs,hl,h=>by
  simp only[zipD,Ja,Ji,Zc]at h⊢
  exact⟨h.1.2.1,JeR RO h.2⟩
def DKo.sp{W:Hp}{d:Addr}{t:Bool}{o:Obj}{ks:Gu}{xs:Av}(s:C6)(h:Hm):DKo W d t o ks xs:=by cases t<;>obtain⟨a,q,f,b⟩:=h<;>exact⟨a,s _ _ q rfl,f,b⟩
variable{tg a:Expr}{body:BF}{sb:Bs}{ts:As}{nt kk:Nat}{ap tp cp:Pos}{elts:CF}
def JuA(C:Am)(I:Tz)(y:PE X a Gh)(B:PG X M0 (gS X [] H0 ts nt))(u:PSs X body (tSB X w U bc [] H0 sb))(b:mutB sb=Fo)
  (f:V3) (hl:'б' ((Qbo==cp.line)=To) Ai)
  (hs:∀x,foldedSetIterable O9 Ue x=pure x:=by intro _;rfl):PS X (.For M0 O9 body [] pos) (tSB X w U bc [] H0 (.loop ts nt (.un .items p) sb)):=by
 refine PS.weak (Jrx I Yg (JpZ y f hl) B u hs) λD Z H r=>?_;obtain⟨O,e,h⟩:=r;refine La;simp only[exO,evD]at h;cases z:evD U p O with
 |sk=>rw[z]at h;exact h.elim
 |ex c=>rw[z]at h;exactλC W q s=>h C W Z q TX
 |ok d=>
  rw[z]at h;cases d with
  |dct t F ks g=>
   cases F with
   |false=>exact h.elim
   |true=>
    simp only[Rs.bo,op1]at h;split at h
    ·rename_i m;simp only[Zc]at m;refine⟨t,ks,g,rfl,λd o J H1 l i j=>?_⟩;refine Joe (e.grow l) (SameP.of l) b (λW sp=>?_) h;have v:=i.len;have A:=j.length;have E:Ja g=To:=JeR (ks:=ks) (by rw[v,A]) m.1;exact JjU (i.sp sp) (Reps.plain sp g E j) W (Same.refl W)
    ·exact h.elim
  |_=>exact h.elim
end
def tRd(X:Cx)(U:Ag)(bc:AI)(H0:Hp)(i:Nat)(b1 b2:Bs):L2.TS:=λD Z H=>∃O,EnvOk X.K [] H0 H Z O/\(exO Fo U bc b1 O).Good (λf b=>f=.nx/\plE b=To/\
 ∀a,(exO Fo U bc b2 (b.set i Ky)).Good (λf _=>∃d,f=.rt d/\∀v W,Same H0 W->Rep X.K W d v->D.rt v W) Kx) Kx
section
variable{U:Ag}{i:Nat}{p:Pos}{s1:Stmt}{rest:BF}{b1 b2:Bs}
def JvX(C:Am)(h0:A4)(hM:MakeS G)(hc:chkA N nm [] i x=To)(L:gloB nm Ll=To)(h1:PS X s1 (tSB X Fo U bc [] H0 b1))(g:PSs X rest (tSB X Fo U bc [] H0 b2))
  (hs:'б' (swapsWith Mb Ft Qdz Ue=pure Fo) Ai):
  PSs X (s1::.Assign Hg Mb pos'::rest) (tRd X U bc H0 i b1 b2):=by
 obtain⟨l,f,fd,ps,mk,F,hr,s,u,hb⟩:=hM.ex;have hG:=C.g;subst hG;obtain⟨g1,J,g3⟩:=chkA.at hc;obtain⟨l1,I⟩:=C.sto x J;refine PSs.weak (JN h1 (JN (gD CU (by rw[C.hN];exact g1) l1 (Jkn mk F hr (C.glo _ L) s hb .nil (pI (X:=X)) Ab) hs I) g)) λD Z H zz=>?_;obtain⟨O,e,h⟩:=zz;refine⟨O,e,h.imp (λf m q=>?_) λ_ _ z=>z⟩;obtain⟨rfl,hp,g⟩:=q;intro E H1 Y _ z b hz a hne;refine⟨z,b,l,rfl,Je,u,λW _ sp _ r=>LV⟩;have s1:Same H1 (upd (upd H1 b (.own z)) z (.ins l b [])):=λc o q=>by rw[Jb (Jh q hz),Jb (Jh q a)];exact q
 have y:=Y.sp Ad hp h0 ((SameP.of s1).trans (sp.sp Je));refine⟨_,y.put Ad (by show Rep X.K IX _ _;rw[JD];exact r),(g z).imp (λf j q=>?_) λ_ _ z=>z⟩;obtain⟨d,rfl,A⟩:=q;exactλv M B r2 _=>A v M B r2
end
def spR(K:Aj)(mg:Bk)(R:DI):Sp:=λb H Q E=>PlO H/\∃J,Reps K H J b/\∀a,(R J a).Good (λd=>∀v W,Same H W->Rep K W d v->Q v W) (λc=>∀C W,mg c=So BL->Same H W->E BL No W)
section
variable{defs:Ci}{bdefs:EI}{k:Nat}
def fn_rd{j i:Nat}{qual:Str}{st:Stmt}{f:Addr}{fd:BG}{ps:Ac}{b1 b2:Bs}(F:E0)(S:K3)(hp:Aq=1)(W:Aq<=XA)
  (l:∀(X:Cx)(A:Bv)(H0:Hp),Ctx X AM N 'Ɯ'.names->Room j A->HX X 'Ɯ'.names->PlO H0->PSs X Ew (tRd X CC Dq H0 i b1 b2)):
  FnOk P w K mg base A0 (j+1) f fd ps (λvs H Q E=>AJ=1/\spR K mg (runR CC Dq XA i b1 b2) vs H Q E):=by
 obtain⟨oc,od,kV,Z,pm,an,cdv,ct,osl,rfl,lk,L⟩:=F.ex;refine eK lk L S (λvs H Q E h=>by rw[h.1,hp]) (λA C s H vs Q E U h=>?_);obtain⟨hl,h0,J,r,g⟩:=h;have ld:=XF;refine⟨_,l _ _ H (Jhr S U) U Lh h0,JC XA J,xU (d:=OE) rfl Af (λi Y=>by simp at Y) r,?_⟩;unfold runR at g;cases q:exO Fo CC Dq b1 (JC XA J)with
 |sk=>rw[q]at g;exact(g 0).elim
 |ex c o=>rw[q]at g;exactλB z y u M a' s' I=>lO I (g 0 B z u M.same)
 |ok fl b=>
  rw[q]at g;cases fl with
  |nx=>
   by_cases m:plE b=To
   ·simp only[m,if_true]at g;refine⟨rfl,m,λa=>?_⟩;have g:=g a;cases v:exO Fo CC Dq b2 (b.set i Ky)with
    |sk=>rw[v]at g;exact g.elim
    |ex c o=>rw[v]at g;exactλB z y u M a' s' I=>lO I (g B z u M.same)
    |ok fl O=>
     rw[v]at g;cases fl with
     |rt d=>exact⟨d,rfl,g⟩
     |_=>exact g.elim
   ·simp only[m]at g;exact(g 0).elim
  |_=>exact(g 0).elim
end
noncomputable def tpO (H:Hp):Hp:=λa=>match H a with
 |some (.tup xs)=>So Bb
 |_=>No
noncomputable def bigT (H H1:Hp):Hp:=λa=>match H a with
 |some (.tup _)=>H1 a
 |some o=>So o
 |none=>H1 a
section
variable{W:Hp}{a:Addr}{o:HO}
def Jnx(h:tpO H a=So o):∃xs,o=.tup xs/\H a=So Bb:=by
 unfold tpO at h;split at h
 ·rename_i xs e;cases h;exact⟨xs,rfl,e⟩
 ·cases h
def jX{xs:Av}(h:H a=So Bb):tpO H a=So Bb:=by unfold tpO;rw[h]
def vN(h:∀xs,H a≠So Bb):tpO H a=No:=by
 unfold tpO;split
 ·rename_i xs e;exact absurd e (h xs)
 ·rfl
def Jyv:PlO Fn:=λa o h=>by obtain⟨b,rfl,_⟩:=Jnx h;rfl
def pN(H H1:Hp)(a:Addr):(bigT H H1 a=H1 a/\(H a=No\/∃xs,H a=So Bb))\/∃o,H a=So o/\bigT H H1 a=So o/\∀xs,o≠.tup xs:=by
 cases q:H a with
 |none=>exact .inl ⟨by unfold bigT;rw[q],.inl rfl⟩
 |some o=>
  cases o with
  |tup xs=>exact .inl ⟨by unfold bigT;rw[q],.inr ⟨xs,rfl⟩⟩
  |_=>exact .inr ⟨_,rfl,by unfold bigT;rw[q],λ_ z=>by cases z⟩
end
def Jyo{h:Heap}{a:Addr}{o:HO}(x:MW):∃ob,h.get? a=So ob:=by
 cases o with
 |lst g=>obtain⟨_,_,_,_,e⟩:=x;exact⟨_,e⟩
 |lsm _ g=>obtain⟨_,_,_,_,e⟩:=x;exact⟨_,e⟩
 |tup g=>obtain⟨_,_,_,ob,e,_⟩:=x;exact⟨_,e⟩
 |dK b=>obtain⟨_,_,_,_,o,_,_,e,_⟩:=x;exact⟨_,e⟩
 |dT b=>obtain⟨_,_,_,_,o,_,_,e,_⟩:=x;exact⟨_,e⟩
 |set S n=>obtain⟨o,_,_,_,e,_⟩:=x;exact⟨_,e⟩
 |ins C j fs=>obtain⟨_,_,_,e,_⟩:=x;exact⟨_,e⟩
 |own y=>exact x
 |xd fs=>obtain⟨_,⟨_,_,_,e,_⟩,_⟩:=x;exact⟨_,e⟩
 |rng i l=>obtain⟨_,_,_,e⟩:=x;exact⟨_,e⟩
 |frz ob u=>obtain⟨e,_⟩:=x;exact⟨_,e⟩
 |tbl m=>obtain⟨_,_,_,_,e,_⟩:=x;exact⟨_,e⟩
 |met f y=>exact⟨_,x⟩
 |ext q=>obtain⟨_,e,_⟩:=x;exact e
section
variable{A:Bv}{outer:Bq}{s s':Al}
def JtT(e:Ur):Env0 P w K mg base A outer s Fn:=
 ⟨e.frames,e.mod,λb o q=>⟨(e.bs b o q).1,vN λf z=>(by rw[(e.bs b o q).2]at z;cases z)⟩,e.bsz,e.funs,λb h=>vN λf z=>(by rw[e.frf b h]at z;cases z),λa o q=>by
  obtain⟨f,rfl,g⟩:=Jnx q
  exact e.hok a _ g,e.bare⟩
def Jsg(e:Ur)(un:Un (frs outer) [] Fn H1 VU X5)(y:HOk P w H1 X5):Un (frs outer) [] H LO VU X5/\HOk P w LO X5/\Same H1 (bigT H H1)/\Same H (bigT H H1)/\∀b o,H1 b=So o->plK o=Fo->H b=No:=by
 have f:∀b u,H b=So u->(∀a,u≠.tup a)->∃ob,s.heap.get? b=So ob/\s'.heap.get? b=So ob/\H1 b=No/\bigT H H1 b=So u:=λb u z n=>by
  obtain⟨ob,g⟩:=Jyo (e.hok b u z);have C:b∉frs outer:=λJ=>by rw[e.frf b J]at z;cases z
  have B:tpO H b=No:=vN λa w=>by rw[z]at w;cases w;exact n a rfl
  refine⟨ob,g,un.keep b ob g B C Ad,un.free b ob g B Ad,?_⟩;rcases pN H H1 b with⟨_,q|⟨a,q⟩⟩|⟨o,q,h,_⟩
  ·rw[z]at q;cases q
  ·rw[z]at q;cases q;exact absurd rfl (n a)
  ·rw[z]at q;cases q;exact h
 have i:Same H1 LO:=λb u z=>by
  rcases pN H H1 b with⟨q,_⟩|⟨o,q,_,n⟩
  ·rw[q];exact z
  ·obtain⟨_,_,_,h,_⟩:=f b o q n;rw[z]at h;cases h
 have sm:Same H LO:=λb u z=>by
  rcases pN H H1 b with⟨q,c|⟨a,c⟩⟩|⟨o,q,h,n⟩
  ·rw[z]at c;cases c
  ·rw[z]at c;cases c;rw[q];exact un.tups b a (jX z)
  ·rw[z]at q;cases q;exact h
 have j:∀b,H b=No->tpO H b=No/\bigT H H1 b=H1 b:=λb z=>⟨vN λa w=>(by rw[z]at w;cases w),by unfold bigT;rw[z]⟩;have L:∀b o,H1 b=So o->plK o=Fo->H b=No:=λb o z F=>by
  cases q:H b with
  |none=>rfl
  |some u=>
   by_cases n:∀a,u≠.tup a
   ·obtain⟨_,_,_,h,_⟩:=f b u q n;rw[z]at h;cases h
   ·have⟨a,e⟩:∃a,u=.tup a:=Classical.byContradiction λk=>n λa e=>k ⟨a,e⟩;subst e;rw[un.tups b a (jX q)]at z;cases z;cases F
 refine⟨⟨λb o z n=>un.keep b o z (j b n).1,λb o z n=>un.slot b o z (j b n).1,λb o z n x=>by rw[(j b n).2];exact un.free b o z (j b n).1 x,un.there,λb a z=>sm _ _ z,λb o u z=>sm _ _ z,λb M z=>⟨#[],by rw[sm _ _ z];simp⟩⟩,λb u z=>?_,i,sm,L⟩;rcases pN H H1 b with⟨q,_⟩|⟨o,q,h,n⟩
 ·rw[q]at z;exact(y b u z).stay (λ_ _ _ t=>t) (λc t=>i _ _ t) (λc a t=>i _ _ t) λc I E t=>i _ _ t
 ·rw[h]at z;obtain rfl:o=u:=sD z;refine(e.hok b o q).stay (λc v r t=>?_) (λc t=>sm _ _ t) (λc a t=>sm _ _ t) λc I E t=>sm _ _ t;rcases r with rfl|r
  ·obtain⟨ob,m,l,_⟩:=f c o q n;rw[m]at t;cases t;exact l
  ·obtain⟨ob,m,l,_⟩:=f c _ r (λ_ z=>by cases z);rw[m]at t;cases t;exact l
end
mutual
theorem Rep.tp{K:Aj}{H:Hp}:∀(d:Pu.D){v:V},datD d=To->Rep K H d v->Rep K Fn d v
 |.non,_,_,h=>h
 |.bl _,_,_,h=>h
 |.int _,_,_,h=>h
 |.str _,_,_,h=>h
 |.tup J,_,n,⟨a,xs,e1,h1,h2⟩=>⟨a,xs,e1,h1.imp (λz=>jX z) id,Reps.tp J (by simpa[datD]using n) h2⟩
 |.lst J,_,n,_=>by cases n
 |.dct t z ks vs,_,n,_=>by cases n
 |.exc c,_,n,_=>by cases n
 |.fn x _,_,n,_=>by cases n
 |.obj a ns fs,_,n,_=>by cases n
 |.mls t J,_,n,_=>by cases n
 |.adr b,_,n,_=>by cases n
theorem Reps.tp{K:Aj}{H:Hp}:∀(J:Gu){xs:Av},datD.dats J=To->Reps K H J xs->Reps K Fn J xs
 |[],_,_,h=>h
 |d::J,_,n,⟨x,r,e1,h1,h2⟩=>by
  simp only[datD.dats,Zc]at n
  exact⟨x,r,e1,Rep.tp d n.1 h1,Reps.tp J n.2 h2⟩
end
def NewO(K:Aj)(H W:Hp)(d:Pu.D):Prop:=∀a ks b J es,d=.obj a nsS (fsS ks b J es)->Ja b=To->Ja J=To->Ja es=To->∃L,Prt K W a d L/\∀l∈L,H l=No
def spQ(K:Aj)(mg:Bk)(R:DI):Sp:=λb H Q E=>∃J,datD.dats J=To/\Reps K H J b/\∀a,(R J a).Good (λd=>∀v W,Same H W->Rep K W d v->NewO K H W d->Q v W) (λc=>∀C W,mg c=So BL->Same H W->E BL No W)
def fn_tp{j:Nat}{f:Addr}{fd:BG}{ps:Ac}{R:DI}(h1:∀J a,Ae≠1->R J a=.sk)(F:FnOk P w K mg base A0 j f fd ps (λvs H Q E=>AJ=1/\spR K mg R vs H Q E)):FnOk P w K mg base A0 j f fd ps (spQ K mg R):=by
 have len:∀{vs:Av}{H:Hp}{Q:VK}{E:XK},spQ K mg R vs H Q E->AJ=1:=fun{vs H Q E}h=>by
  obtain⟨J,_,r,g⟩:=h;have g:=g 0;have:=XF;by_cases q:Ae=1
  ·rw[this,q]
  ·rw[h1 J 0 q]at g;exact g.elim
 have sub:∀{vs:Av}{H:Hp}{Q:VK}{E:XK},spQ K mg R vs H Q E->(AJ=1/\spR K mg R vs Fn (λv W=>(∃h,HOk P w W h)->(∀b o,W b=So o->plK o=Fo->H b=No)->Same W (bigT H W)->Same H (bigT H W)->Q v (bigT H W)) (λC a W=>Same W (bigT H W)->Same H (bigT H W)->E C a (bigT H W))):=fun{vs H Q E}h=>by refine⟨len h,Jyv,?_⟩;obtain⟨J,hd,r,g⟩:=h;refine⟨J,Reps.tp J hd r,λa=>(g a).mono (λd hd v W _ Z hk nw I sm=>hd v _ sm (Z.mono I) λb ks vs J es e pv pd pe=>?_) λc hc C W hm _ I sm=>hc C _ hm sm⟩;obtain⟨h,hk⟩:=hk;subst e;obtain rfl:v=.ref b:=Z.1;obtain⟨L,p⟩:=Jwk Z hk pv pd pe;exact⟨L,p.mono (p.keep I) (SameP.of I),λl hl=>by obtain⟨o,U⟩:=p.at hl;exact nw l o U (p.npl l hl o U)⟩
 refine⟨λvs H Q E h=>F.len vs _ _ _ (sub h),λA M s H args us vs Q E hr Y hb hv hs=>kG (F.run A M s Fn args us vs _ _ hr (JtT Y) hb hv (sub hs)) λr s' z=>?_⟩;cases r with
 |error x=>
  obtain⟨a,C,W,B,a0,e1,os,i,un,y,fl,t1,t2,q⟩:=z;obtain⟨O,m,I,sm,_⟩:=Jsg Y un y;refine⟨a,C,bigT H W,B,a0,e1,os,i,O,m,fl,λb u hb=>?_,λb o U hf=>⟨λhn=>(t2 b o U hf).1 (vN λxs w=>(by rw[hn]at w;cases w)),(t2 b o U hf).2⟩,q I sm⟩;rcases pN H W b with⟨q,_⟩|⟨o,q,h,n⟩
  ·rw[q]at hb;exact t1 b u hb
  ·obtain⟨ob,g⟩:=Jyo (Y.hok b o q);exact(t2 b ob g λhf=>by rw[Y.frf b hf]at q;cases q).2
 |ok fl=>
  cases fl with
  |ret u=>obtain⟨v,W,os,i,un,y,Z,q⟩:=z;obtain⟨O,m,I,sm,nw⟩:=Jsg Y un y;exact⟨v,bigT H W,os,i,O,m,Z,q ⟨_,y⟩ nw I sm⟩
  |_=>exact z.elim
inductive CalleeQe(G:Gw)(R:DI)(x:Str):Prop where
 |mk (kk:Nat) (f:Addr) (fd:FuncData) (ps:List Str) (h:FnOk G.prog G.w G.K G.mg G.base (CXr G.prog G.w) kk f fd ps (spQ G.K G.mg R)/\Room kk G.A.in1.in1/\G.mg x=So (.ref f)/\PySem.W.keepIn G.K (.ref f)=To/\Binds G.K fd ps []):CalleeQe G R x
structure CalleeQ(G:Gw)(R:DI)(x:Str):Prop where
 ex:CalleeQe G R x
def tQ(X:Cx)(U:Ag)(R:DI)(p:Px):TE:=λZ H Q=>∃O,ReadOk X.K H Z O/\(evD U p O).Good (λb=>∃J,b=.lst J/\datD.dats J=To/\∀a,(R J a).Good (λd=>∀v W,Same H W->Rep X.K W d v->NewO X.K H W d->Q v W) Az) Az
section
variable{U:Ag}{p3:Pos}{y:Str}{R:DI}
def NewO.of{W:Hp}{d:Pu.D}(n:NewO K H1 W d)(s:IH):NewO K H W d:=λa ks h J es q j i b=>by
 obtain⟨L,p,f⟩:=n a ks h J es q j i b
 refine⟨L,p,λl g=>?_⟩
 cases z:H l with
 |none=>rfl
 |some o=>have w:=f l g;rw[s l o z]at w;cases w
def pe_rd(C:Am)(q:CalleeQ G R x)(hg:gloB nm x=To)(j:QW)(ha:Ed)(he:CG)
  (hpl:'б' ('Ķ'.any (·.1)=Fo) Ai):PE X S6 (tQ X U R p):=by
 obtain⟨kk,f,fd,ps,F,u,A,B,hb⟩:=q.ex;have u:=Room.out u;have hG:=C.g;subst hG;have hp:Jck RD X (λm _ W=>∀C,m=.ref C->XE X C W):=λY Z H s e s' I q=>by obtain⟨a,C,W,rfl,F,hE⟩:=JfD I q;exact hE C rfl a s' F
 refine PE.weak (JoU F u (C.glo x hg) A B hb .nil hp ha j he hpl) λZ H Q zz=>?_;obtain⟨O,r,h⟩:=zz;refine⟨O,r,h.imp λd E=>?_⟩;obtain⟨J,rfl,l,L⟩:=E;refine⟨J,rfl,λM W s rs=>?_⟩;show spQ X.K X.mg R (M++[]) W Q _;rw[pE];exact⟨J,l,rs,λa=>(L a).mono (λd o v i g rv nw=>o v i (s.trans g) rv (nw.of s)) λc z C i b g C' e=>by cases e;exact z C i b (s.trans g)⟩
end
section
variable{U:Ag}{y:Str}{io:Nat}{b:Bs}{rest:BF}{R:DI}{R':Fm->Prop}
def Jxq(C:Am)(J:CalleeQ G R y)(i:gloB nm y=To)(h:(y==("__debug__":Str))=Fo)(B:Ed)(E:chkA N nm [] io x=To)(a:P1)
  (hs:'б' (swapsWith UJ Ft Qdz Ue=pure Fo) Ai) (he:CG) (hpl:'б' ((backTo p2 Lv).any (·.1)=Fo) Ai):
  PSs X (.Assign Hg UJ pos'::rest) (tLaw X H0 (JvB U R io p R')):=by obtain⟨m,I,M⟩:=chkA.at E;obtain⟨z,F⟩:=C.sto x I;refine PSs.weak (JN (gD CU (by rw[C.hN];exact m) z (pe_rd C J i h B he hpl) hs F) a) λD Z H q=>?_;obtain⟨O,j,⟨T,L,l,f⟩,u⟩:=q;refine⟨O,j.readOk,?_⟩;rw[L];refine⟨T,rfl,l,λo=>?_⟩;obtain⟨d,A,g⟩:=f o;rw[A];intro v W s r _;exact⟨_,(j.grow s).put Ad (by show Rep X.K IX _ _;rw[JD];exact r),g,u⟩
def JtN(h:P1):PSs X rest (tLaw X H0 λO=>R' (O.set io No)):=PSs.weak h λD Z H g=>by
 obtain⟨O,a,f,i⟩:=g
 refine⟨O.set io No,env0 a.same (by rw[mB];exact a.len) λj d h=>?_,f,i⟩
 rcases JQ h with⟨_,w,_⟩|⟨_,h⟩
 ·cases w
 ·exact a.readOk j d h
def JuG(h:PSs X rest (tSB X Fo U bc [] H0 b)):PSs X rest (tLaw X H0 λO=>∃a,exO Fo U bc b O=.ok Qc5 a):=PSs.weak h λD Z H j=>by
 obtain⟨O,g,⟨a,f⟩,m⟩:=j
 refine⟨O,g,?_⟩
 rw[f]
 exactλv i o l _=>by cases l;exact m i
end
section
variable{U:Ag}{i:Nat}{p:Pos}{rest:BF}{sx:Sx}
def JtK{R:Fm->Prop}(C:Am)(L:A4)(hc:chkA N nm [] i x=To)(M:MakeS G)(B:gloB nm Ll=To)(a:PB)
  (hs:'б' (swapsWith Mb Ft Qdz Ue=pure Fo) Ai):
  PSs X (.Assign Hg Mb pos'::rest) (tLaw X H0 (RunO i R)):=by
 obtain⟨h,f,fd,ps,mk,F,hr,j,l,hb⟩:=M.ex;have E:=C.g;subst E;obtain⟨Y,A,g3⟩:=chkA.at hc;obtain⟨l1,y⟩:=C.sto x A;refine PSs.weak (JN (gD CU (by rw[C.hN];exact Y) l1 (Jkn mk F hr (C.glo _ B) j hb .nil (pI (X:=X)) Ab) hs y) a) λD Z H zz=>?_;obtain⟨O,e,⟨I,u⟩,s⟩:=zz;intro z g hz b J;refine⟨z,g,h,rfl,Je,l,λW _ sp _ r=>LV⟩;have v:Same H (upd (upd H g (.own z)) z (.ins h g [])):=λc o q=>by rw[Jb (Jh q hz),Jb (Jh q b)];exact q
 have m:=e.sp Ad I L ((SameP.of v).trans (sp.sp Je));exact⟨_,m.put Ad (by show Rep X.K IX _ _;rw[JD];exact r),u z,s⟩
end
end Rd
namespace K75
open PySem Pu
variable{a i N:Nat}{e O:Fm}{dn un fs' ks vs:Ak}{ns:AU}{c:Px}{α:Type}{ns' ad:Ac}{ls:DD}
noncomputable def Jdb:Sx:=(.seq (.ite VS BY .skip)
  (.ret (.and (.and (.bi .le DS Df) N1) (.un .all (.comp 0 Dh BV (.bi .isin Ao BK))))))
noncomputable def JgZ:Sx:=(.ret (.call 0 (.cons Ao (.cons (.con QaN) RN))))
noncomputable def Jhe:Sx:=(.ret (.call 0 (.cons Ao (.cons (.con QaO) (.cons Fc .nil)))))
noncomputable def JaY:Sx:=(.ret (.and (.un .isTup Ao) (.and (.bi .le A1 Df) N1)))
noncomputable def JbX:Sx:=(.ret (.un .all (.comp 0 Dh BV (.call 1 DV))))
noncomputable def JbW:Sx:=(.ret (.bi .lt (.un .lset Ao) Df))
noncomputable def JX:Sx:=(.seq (.ite VH BY .skip)
  (.ret (.un .all (.comp 2 Os BV (.bi .lt Ao A1)))))
noncomputable def oO:Sx:=(.seq (.ite (.un .not (.un .truth (.call 3 (.cons Ao Ut)))) BY .skip)
  (.seq (.ite MX (.ret (.and (.bi .eq Df Uk) (.and (.call 2 Fy) (.call 6 (.cons MY .nil))))) .skip)
  (.seq (.ite (.bi .ne Df Fj) BY .skip)
  (.seq (.ite QbP (.ret (.call 1 Fy)) .skip)
  (.ret (.and (.bi .isin DT (.con Tc)) (.call 2 Fy)))))))
noncomputable def Jef:Sx:=(.ret (.bi .ne DT XC))
noncomputable def Jbv:Sx:=(.ret (.comp 0 Dh (.un .truth (.call 8 DV)) HI))
noncomputable def Jbh:Sx:=(.seq (.ite (.or (.un .not (.un .truth (.call 3 (.cons Ao (.cons Ep (.cons (.con Qc6) .nil)))))) (.un .not (.un .truth Wc))) BY .skip)
  (.seq (.ite (.un .truth WE) BY .skip)
  (.ret (.un .not (.call 5 (.cons (.call 9 DV) .nil))))))
noncomputable def JfH:Sx:=(.ret (.and (.call 3 (.cons Ao (.cons Fj (.cons Fj .nil)))) (.and (.call 2 (.cons DT .nil)) (.call 10 Fy))))
noncomputable def JcQ:Sx:=(.seq (.ite (.or (.un .not (.un .truth (.call 3 (.cons Ao (.cons Ep RN))))) (.un .not (.un .truth We))) BY .skip)
  (.ret (.un .not (.call 5 (.cons T4 .nil)))))
noncomputable def JcF:Sx:=(.ret (.and N0 (.bi .eq (.bi .idx (.bi .idx Ao (.un .neg DS)) Ep) K9)))
noncomputable def Jbg:Sx:=(.seq (.ite (.or NZ (.un .not (.un .truth (.un .all (.comp 0 Dh BV (.bi .isin Ao (.con QaP))))))) BY .skip)
  (.ret (.or (.bi .eq Ao Lj) (.un .not (.bi .strt Ao Lj)))))
noncomputable def JdS:Sx:=(.seq (.ite QbP (.ret (.bi .eq A1 HI)) .skip)
  (.seq (.ite MX (.ret (.bi .isin A1 MY)) .skip)
  (.seq (.ite (.bi .eq DT QaQ) (.ret (.call 14 DO)) .skip)
  (.ret BV))))
noncomputable def JK:Sx:=(.seq (.ite (.un .truth (.call 13 DV)) (.ret (.bi .ge A1 (.bi .sub Df DS))) .skip)
  (.ret (.bi .eq A1 Df)))
noncomputable def Jbq:Sx:=(.seq (.ite (.un .not (.un .truth (.call 16 (.cons Ao (.cons (.un .len A1) .nil))))) BY .skip)
  (.ret (.un .all (.comp 2 (.bi .zip Ao A1) BV Rm))))
noncomputable def JcP:Sx:=(.ret (.comp 0 Dh (.un .truth (.call 17 QdU)) DT))
noncomputable def zR:Sx:=(.seq (.set Fo 2 (.call 18 TY))
  (.ret (.ite (.bi .gt (.un .len BK) Ep) (.bi .idx BK Ep) Ei)))
noncomputable def Jel:Sx:=(.seq (.set Fo 2 (.un .tuple (.comp 0 Hc BV (.tup Wb))))
  (.seq (.ite (.un .not (.un .truth Wv)) R7 .skip)
  (.ret BK)))
noncomputable def Jgd:Sx:=(.seq (.set Fo 2 (.bi .add Ao A1))
  (.seq (.ite UA R7 .skip)
  (.seq (.ite (.un .truth (.call 5 (.cons Uz .nil))) R7 .skip)
  (.ret BK))))
noncomputable def JbM:Sx:=(.ret (.and N0 (.call 15 (.cons DT DO))))
noncomputable def JL:Sx:=(.ret (.ite (.bi .eq NY K9) Ao TF))
noncomputable def qZ:Sx:=(.ret (.un .tuple (.comp 0 Dh (.un .truth (.call 22 QdU)) (.tup (.cons DT (.cons (.call 23 Fy) .nil))))))
noncomputable def Jag:Sx:=(.seq (.loop Fo [2] 0 Hc T9)
  (.ret (.call 19 (.cons Ao (.cons (.tup .nil) .nil)))))
noncomputable def JaF:Sx:=(.seq (.loop Fo [1,2] 2 Vu WD)
  (.seq (.ite MX (.ret (.bi .add Oq (.bi .joinS (.con (.str (oS "|"))) MY))) .skip)
  (.ret HI)))
noncomputable def JaI:Sx:=(.ret (.bi .add J6 (.bi .joinS J6 Ao)))
noncomputable def Jei:Sx:=(.ret (.call 27 (.cons (.comp 0 Dh BV (.call 26 DV)) .nil)))
noncomputable def Jaa:Sx:=(.seq (.ite (.un .not (.un .truth (.bi .strt Ao J6))) E7 .skip)
  (.ret (.ite (.bi .eq Ao J6) Kp (.bi .splitS TF J6))))
noncomputable def JbR:Sx:=(.seq (.loop Fo [1,2] 2 Vu VG)
  (.seq (.ite OO (.seq U4
  (.ret (.tup (.cons Lz (.cons NX (.cons (.un .tuple (.bi .splitS NW (.con (.str (oS "|"))))) .nil)))))) .skip)
  aV))
noncomputable def sY:Sx:=(.seq (.set Fo 1 (.un .tuple (.comp 0 (.walk (.call 29 DV)) BV (.call 30 DV))))
  (.seq (.ite (.un .not (.un .truth (.call 10 DO))) E7 .skip)
  LD))
noncomputable def JaO:Sx:=(.ret (.bi .add (.bi .add (.bi .add DT PF) (.call 28 Fy)) QaR))
noncomputable def Jar:Sx:=(.ret (.bi .joinS My (.comp 0 Dh BV (.call 32 DV))))
noncomputable def JcG:Sx:=(.seq (.ite NZ (.ret Kp) .skip)
  (.seq (.ite (.un .not (.un .truth (.bi .ends Ao QaR))) E7 .skip)
  (.ret (.bi .splitS TC QaR))))
noncomputable def JcS:Sx:=(.seq (.set Fo 1 (.bi .partS Ao PF))
  (.ret (.tup (.cons (.bi .idx A1 Ep) (.cons (.call 31 (.cons (.bi .idx A1 Fj) .nil)) .nil)))))
noncomputable def Jbw:Sx:=(.seq (.set Fo 1 (.un .tuple (.comp 0 Nf BV (.call 35 DV))))
  (.seq (.ite (.un .not (.un .truth (.call 12 DO))) E7 .skip)
  LD))
noncomputable def JbU:Sx:=(.ret (.bi .joinS My (.comp 0 R4 BV (.bi .add (.un .join (.cons Ww (.cons Ao (.cons (.con (.str (oS "]\n"))) .nil)))) (.call 33 (.cons (.call 49 (.cons (.un DP A1) DV)) .nil))))))
noncomputable def JZ:Sx:=(.seq (.ownD Fo 1)
  (.seq Qck
  (.seq (.loop Fo [3] 0 Nf (.ite U3 (.seq Qcl
  P4) VI))
  (.retF 1))))
noncomputable def JgH:Sx:=(.seq (.set Fo 1 (.sl Ao Gg V4))
  (.seq (.ite T7 E7 .skip)
  LD))
noncomputable def Jav:Sx:=(.seq (.set Fo 3 W2)
  (.seq (.loop Fo [4] 0 QbQ (.seq (.ownD To 5)
  (.seq (.loop Fo [6,7] 2 RA (.loop Fo [8] 0 Hc (.seq WJ
  W0)))
  (.movF 3 5))))
  QaS))
noncomputable def Jek:Sx:=(.seq (.ownD Fo 3)
  (.seq (.loop Fo [4,5] 2 Wu (.seq Qcm
  WW))
  (.ret (.comp 0 (.walk VD) BV (.tup (.cons Ao (.cons (.bi (.dGz Fo) CY Ao) .nil)))))))
noncomputable def hV:Sx:=(.seq (.ite (.bi .lt A1 Df) (.ret (.bi .idx Ao A1)) .skip)
  (.seq (.ite (.bi .eq Ao Kp) (.ret Ep) .skip)
  (.ret (.bi .add (.bi .mul (.bi .idx Ao (.bi .mod A1 Df)) (.con QaT)) A1))))
noncomputable def JcU:Sx:=(.seq (.set Fo 3 (.bi .mod (.bi .mul (.bi .add (.call 42 TY) (.bi .mul (.con (.int 6151)) (.bi .add A1 DS))) (.con (.int 40692))) (.con Qak)))
  (.ret (.bi .mod (.bi .mod (.bi .add (.bi .mul CZ CZ) (.bi .fdiv CZ (.con QaT))) (.con Qal)) BK)))
noncomputable def fV:Sx:=(.seq (.set Fo 3 (.dis (.cons S3 (.cons PD (.cons Sw (.cons Lj .nil))))))
  (.seq (.set Fo 4 (.call 43 (.cons Ao (.cons A1 RN))))
  (.seq (.ite (.bi .lt CY Fc) (.ret (.tup (.cons XC (.cons (.bi .idx CZ WV) .nil)))) .skip)
  (.seq (.ite (.bi .eq CY Fc) (.seq (.set Fo 5 VO)
  (.ret (.tup (.cons Lz (.cons BK (.cons (.un .tuple (.un .sset CB)) .nil)))))) .skip)
  (.ret (.tup (.cons (.bi .idx (.dis (.cons (.con Ge) (.cons QaQ (.cons (.con Ge) .nil)))) (.bi .sub CY Rl)) Ef)))))))
noncomputable def iV:Sx:=(.seq (.set Fo 3 (.dis (.cons (.con (.str (oS "y"))) (.cons (.con (.str (oS "id"))) (.cons (.con (.str (oS "z"))) (.cons (.con (.str (oS "x"))) .nil))))))
  (.seq (.own 4 VP)
  (.seq (.ite (.bi .eq WV Ep) (.app Fo 4 (.tup (.cons K9 (.cons (.con (.str (oS "r"))) .nil)))) .skip)
  (.ret (.un .tuple CY)))))
noncomputable def JbQ:Sx:=(.seq (.set Fo 4 (.dis (.cons (.con (.str (oS "t"))) (.cons (.con (.str (oS "p"))) (.cons (.con (.str (oS "v"))) (.cons (.con (.str (oS "q"))) (.cons (.con (.str (oS "u"))) (.cons (.con (.str (oS "s"))) .nil))))))))
  (.seq (.set Fo 5 (.call 43 (.cons Ao (.cons A1 (.cons (.bi .add CZ DS) .nil)))))
  (.ret (.un .tuple (.comp 0 (.un .range CB) BV 'қ')))))
noncomputable def JaE:Sx:=(.ret (.bi .idx (.dis (.cons S3 (.cons PD (.cons Sw (.cons Lj (.cons (.con (.str (oS "new"))) (.cons (.con (.str (oS "zz"))) (.cons (.con (.str (oS "55"))) (.cons (.con (.str (oS "01"))) (.cons (.con (.str (oS "-"))) .nil)))))))))) (.call 43 (.cons Ao (.cons A1 V5)))))
noncomputable def JcV:Sx:=(.seq (.own 3 Kp)
  (.seq (.loop Fo [4,5] 2 Qcn (.seq Rz
  YI))
  P3))
noncomputable def mV:Sx:=(.seq (.ite (.or T7 (.bi (.dNi Fo) A1 Ee)) NV .skip)
  (.ret (.bi Eg Ee A1)))
noncomputable def iT:Sx:=(.seq (.set Fo 2 (.comp 0 R4 BV (.tup VC)))
  (.ret (.comp 0 (.walk BK) Qco Ao)))
noncomputable def nT:Sx:=(.ret (.un .sortD Ee))
noncomputable def Jhs:Sx:=(.ret (.tup (.cons (.un .len (.un (.fld Ko) Ao)) (.cons (.un .len (.un (.fld KJ) Ao)) .nil))))
def defs:List DefD:=[⟨3,3,Jdb⟩,⟨1,1,JgZ⟩,⟨1,1,Jhe⟩,⟨3,3,JaY⟩,⟨1,1,JbX⟩,⟨1,1,JbW⟩,⟨1,1,JX⟩,⟨1,1,oO⟩,⟨1,1,Jef⟩,⟨1,1,Jbv⟩,⟨1,1,Jbh⟩,⟨1,1,JfH⟩,⟨1,1,JcQ⟩,⟨1,1,JcF⟩,⟨1,1,Jbg⟩,⟨2,2,JdS⟩,⟨2,2,JK⟩,⟨2,2,Jbq⟩,⟨2,2,JcP⟩,⟨3,2,zR⟩,⟨3,2,Jel⟩,⟨3,2,Jgd⟩,⟨2,2,JbM⟩,⟨1,1,JL⟩,⟨2,2,qZ⟩,⟨3,2,Jag⟩,⟨3,1,JaF⟩,⟨1,1,JaI⟩,⟨1,1,Jei⟩,⟨1,1,Jaa⟩,⟨4,1,JbR⟩,⟨2,1,sY⟩,⟨1,1,JaO⟩,⟨1,1,Jar⟩,⟨1,1,JcG⟩,⟨2,1,JcS⟩,⟨2,1,Jbw⟩,⟨1,1,JbU⟩,⟨4,1,JZ⟩,⟨2,1,JgH⟩,⟨10,3,Jav⟩,⟨7,3,Jek⟩,⟨2,2,hV⟩,⟨4,3,JcU⟩,⟨6,3,fV⟩,⟨5,3,iV⟩,⟨6,4,JbQ⟩,⟨2,2,JaE⟩,⟨7,3,JcV⟩,⟨2,2,mV⟩,⟨3,2,iT⟩,⟨1,1,nT⟩,⟨1,1,Jhs⟩]
def Jsm(U:Nat)(b f g:D):runD defs AW 0 Et=Jf (exD AX Jdb QcK):=rfl
def JwU(U:Nat)(b:D):runD defs AW 1 [b]=Jf (exD AX JgZ [So b]):=rfl
def JxI(U:Nat)(b:D):runD defs AW 2 [b]=Jf (exD AX Jhe [So b]):=rfl
def Jfv(U:Nat)(b f g:D):runD defs AW 3 Et=Jf (exD AX JaY QcK):=rfl
def JiN(U:Nat)(b:D):runD defs AW 4 [b]=Jf (exD AX JbX [So b]):=rfl
def Jit(U:Nat)(b:D):runD defs AW 5 [b]=Jf (exD AX JbW [So b]):=rfl
def Jcc(U:Nat)(b:D):runD defs AW 6 [b]=Jf (exD AX JX [So b]):=rfl
def JdQ(U:Nat)(b:D):runD defs AW 7 [b]=Jf (exD AX oO [So b]):=rfl
def JnS(U:Nat)(b:D):runD defs AW 8 [b]=Jf (exD AX Jef [So b]):=rfl
def Jia(U:Nat)(b:D):runD defs AW 9 [b]=Jf (exD AX Jbv [So b]):=rfl
def JgC(U:Nat)(b:D):runD defs AW 10 [b]=Jf (exD AX Jbh [So b]):=rfl
def Jpn(U:Nat)(b:D):runD defs AW 11 [b]=Jf (exD AX JfH [So b]):=rfl
def JkX(U:Nat)(b:D):runD defs AW 12 [b]=Jf (exD AX JcQ [So b]):=rfl
def JkS(U:Nat)(b:D):runD defs AW 13 [b]=Jf (exD AX JcF [So b]):=rfl
def Jmt(U:Nat)(b:D):runD defs AW 14 [b]=Jf (exD AX Jbg [So b]):=rfl
def JnZ(U:Nat)(b f:D):runD defs AW 15 [b,f]=Jf (exD AX JdS EO):=rfl
def JbH(U:Nat)(b f:D):runD defs AW 16 [b,f]=Jf (exD AX JK EO):=rfl
def Jhv(U:Nat)(b f:D):runD defs AW 17 [b,f]=Jf (exD AX Jbq EO):=rfl
def Jlo(U:Nat)(b f:D):runD defs AW 18 [b,f]=Jf (exD AX JcP EO):=rfl
def JnW(U:Nat)(b f:D):runD defs AW 19 [b,f]=Jf (exD AX zR Mz):=rfl
def Joq(U:Nat)(b f:D):runD defs AW 20 [b,f]=Jf (exD AX Jel Mz):=rfl
def Jqx(U:Nat)(b f:D):runD defs AW 21 [b,f]=Jf (exD AX Jgd Mz):=rfl
def JiA(U:Nat)(b f:D):runD defs AW 22 [b,f]=Jf (exD AX JbM EO):=rfl
def JbI(U:Nat)(b:D):runD defs AW 23 [b]=Jf (exD AX JL [So b]):=rfl
def Jsy(U:Nat)(b f:D):runD defs AW 24 [b,f]=Jf (exD AX qZ EO):=rfl
def Jdg(U:Nat)(b f:D):runD defs AW 25 [b,f]=Jf (exD AX Jag Mz):=rfl
def JeA(U:Nat)(b:D):runD defs AW 26 [b]=Jf (exD AX JaF [So b,No,No]):=rfl
def Jez(U:Nat)(b:D):runD defs AW 27 [b]=Jf (exD AX JaI [So b]):=rfl
def JoM(U:Nat)(b:D):runD defs AW 28 [b]=Jf (exD AX Jei [So b]):=rfl
def JcI(U:Nat)(b:D):runD defs AW 29 [b]=Jf (exD AX Jaa [So b]):=rfl
def Jiu(U:Nat)(b:D):runD defs AW 30 [b]=Jf (exD AX JbR Qeb):=rfl
def Jyt(U:Nat)(b:D):runD defs AW 31 [b]=Jf (exD AX sY aN):=rfl
def Jfp(U:Nat)(b:D):runD defs AW 32 [b]=Jf (exD AX JaO [So b]):=rfl
def JdX(U:Nat)(b:D):runD defs AW 33 [b]=Jf (exD AX Jar [So b]):=rfl
def Jld(U:Nat)(b:D):runD defs AW 34 [b]=Jf (exD AX JcG [So b]):=rfl
def JkQ(U:Nat)(b:D):runD defs AW 35 [b]=Jf (exD AX JcS aN):=rfl
def JhK(U:Nat)(b:D):runD defs AW 36 [b]=Jf (exD AX Jbw aN):=rfl
def JiQ(U:Nat)(b:D):runD defs AW 37 [b]=Jf (exD AX JbU [So b]):=rfl
def JcK(U:Nat)(b:D):runD defs AW 38 [b]=Jf (exD AX JZ Qeb):=rfl
def JxT(U:Nat)(b:D):runD defs AW 39 [b]=Jf (exD AX JgH aN):=rfl
def Jeq(U:Nat)(b f g:D):runD defs AW 40 Et=Jf (exD AX Jav [So b,So f,So g,No,No,No,No,No,No,No]):=rfl
def JnN(U:Nat)(b f g:D):runD defs AW 41 Et=Jf (exD AX Jek QH):=rfl
def JeM(U:Nat)(b f:D):runD defs AW 42 [b,f]=Jf (exD AX hV EO):=rfl
def Jlr(U:Nat)(b f g:D):runD defs AW 43 Et=Jf (exD AX JcU [So b,So f,So g,No]):=rfl
def JkW(U:Nat)(b f g:D):runD defs AW 44 Et=Jf (exD AX fV [So b,So f,So g,No,No,No]):=rfl
def Jcf(U:Nat)(b f g:D):runD defs AW 45 Et=Jf (exD AX iV [So b,So f,So g,No,No]):=rfl
def Jjf(U:Nat)(g f h b:D):runD defs AW 46 [g,f,h,b]=Jf (exD AX JbQ [So g,So f,So h,So b,No,No]):=rfl
def Jey(U:Nat)(b f:D):runD defs AW 47 [b,f]=Jf (exD AX JaE EO):=rfl
def Jlk(U:Nat)(b f g:D):runD defs AW 48 Et=Jf (exD AX JcV QH):=rfl
noncomputable def nV:Bs:=(.ite (.pur (.un .isN BK)) (.popK HF A1) (.putK HF A1 BK))
def yU:Bs:=(.seq (.appF Ko VF)
  (.seq (.newL KJ)
  (.eff (.call To 0 0 nsS (.cons BK Ht)))))
def sR:Bs:=(.seq (.ite (.pur T7) NV Iv)
  (.seq (.set 3 (.pur (.bi QaJ A1 Ee)))
  (.seq (.eff (.call To 1 0 nsS (.cons (.con (.str LC)) (.cons A1 Ef))))
  QaS)))
def yT:Bs:=(.seq (.set 4 (.pur (.call 49 (.cons Q7 DO))))
  (.seq (.set 5 (.pur (.call 21 (.cons CY (.cons (.call 20 (.cons BK (.cons (.call 49 (.cons Q7 Ht)) .nil))) .nil)))))
  (.seq (.eff (.call To 1 0 nsS (.cons NU (.cons A1 (.cons CB .nil)))))
  (.ret CB))))
def Jyw:Bs:=(.goB 0 G3 nsS)
def lZ:Bs:=(.retG 4 nsS Ko KJ 2)
def bdefs:List DefB:=[⟨3,3,nV⟩,⟨4,4,yU⟩,⟨4,3,sR⟩,⟨6,4,yT⟩,⟨5,4,Jyw⟩,⟨1,1,lZ⟩]
def JgT(U:Nat)(st:D)(f b:D):runB defs bdefs AW 0 st [f,b]=ansB st (exO To AX Gy nV [So st,So f,So b]):=rfl
def Jls(U:Nat)(st:D)(f g b:D):runB defs bdefs AW 1 st [f,g,b]=ansB st (exO To AX Gy yU [So st,So f,So g,So b]):=rfl
def Jxz(U:Nat)(st:D)(f b:D):runB defs bdefs AW 2 st [f,b]=ansB st (exO To AX Gy sR [So st,So f,So b,No]):=rfl
def Jpv(U:Nat)(st:D)(f g b:D):runB defs bdefs AW 3 st [f,g,b]=ansB st (exO To AX Gy yT [So st,So f,So g,So b,No,No]):=rfl
def rb_go(U:Nat)(st:D)(f g b:D):runB defs bdefs AW 4 st [f,g,b]=ansB st (exO To AX Gy Jyw [So st,So f,So g,So b,No]):=rfl
def Jty(U:Nat)(st:D):runB defs bdefs AW 5 st []=ansB st (exO To AX Gy lZ [So st]):=rfl
noncomputable def JsE:Bs:=(.lift (.set Fo 1 (.call 46 (.cons Ao (.cons (.con (.int 100)) Ut)))))
noncomputable def JtI:Bs:=(.lift (.set Fo 2 VN))
def JuF:Bs:=(.eff (.call Fo 2 3 nsS (.cons Lz DO)))
def Juz:Bs:=(.eff (.call Fo 2 3 nsS (.cons Xe Ef)))
def Jol:Bs:=(.setI 4 (.call Fo 3 3 nsS (.cons Lz YO)))
noncomputable def JtR:Bs:=(.lift (.ite WT BY .skip))
noncomputable def yS:Bs:=(.lift (.loop Fo [5] 0 (.un .range Rl) (.seq (.set Fo 6 WS)
  (.loop Fo [7] 0 Sn (.seq (.set Fo 8 VA)
  (.seq (.ite VM BY .skip)
  (.seq (.set Fo 9 VL)
  (.ite VB BY .skip))))))))
noncomputable def JuK:Bs:=(.lift (.set Fo 10 (.tup (.cons S3 HE))))
noncomputable def JmJ:Bs:=(.lift (.ite (.bi .ne (.comp 0 (.walk Um) (.bi .isin DT VT) Ao) (.un .list BK)) BY .skip))
noncomputable def JnV:Bs:=(.lift (.ite (.bi .gt (.bi Eg (.un .dictP (.call 41 (.cons CY TV))) Ei) (.bi Eg (.un .dictP (.call 41 (.cons A1 TV))) Ei)) BY .skip))
noncomputable def Jvu:Bs:=(.lift (.ite VJ BY .skip))
noncomputable def Jxs:Px:=(.cons (.call 37 Ht) .nil)
def Jro:Bx:=(.and (.bi .eq (.call Fo 5 3 nsS .nil) (.pur NU)) (.and (.pur NT) (.pur W1)))
noncomputable def yN:Bs:=(.ite (.pur VS) E7 Iv)
def xN:Bs:=(.seq (.loop [2,3] 2 TB (.eff WY))
  (.seq (.ite (.pur Uy) E7 Iv)
  LD))
noncomputable abbrev nR:Nat:=4
noncomputable abbrev iR:Nat:=1
def RL(U:Ag)(bc:AI)(R:List D->Nat->Rs D)(O:Fm):Prop:=(λO=>∃b,exO Fo U bc JsE O=.ok .nx b/\(λO=>∃b,exO Fo U bc JtI O=.ok .nx b/\(RunO 3 (λO=>∃b,exO Fo U bc JuF O=.ok .nx b/\(λO=>∃b,exO Fo U bc Juz O=.ok .nx b/\(λO=>∃b,exO Fo U bc Jol O=.ok .nx b/\(λO=>∃b,exO Fo U bc JtR O=.ok .nx b/\(λO=>∃b,exO Fo U bc yS O=.ok .nx b/\(λO=>∃b,exO Fo U bc JuK O=.ok .nx b/\(λO=>∃b,exO Fo U bc JmJ O=.ok .nx b/\(λO=>∃b,exO Fo U bc JnV O=.ok .nx b/\(JvB U R 11 Jxs (λO=>∃b,exO Fo U bc Jvu O=.ok .nx b/\(λO=>(λO=>∃b,exO Fo U bc (.retB Jro) O=.ok Qc5 b) (O.set 11 No)) b)) b) b) b) b) b) b) b) b)) b) b) O
noncomputable abbrev S (x:Bg):Str:=oS x
noncomputable abbrev ofN (ns:AU):D:=.lst G4
theorem cell(ns:AU)(k:Int)(o:0<=k):∃v:Int,∀c,runD defs A6 42 [ofN ns,.int k]=.ok (.int v):=by
 obtain⟨k,rfl⟩:=Int.eq_ofNat_of_zero_le o;by_cases h:k<AK
 ·refine⟨ns[k],λc=>?_⟩;have j:atD DX k=So (.int ns[k]):=by have:=atN DX k (by simpa using h);rw[this];simp
  rw[JeM,hV,fD _ _ (p:=To) _ _ (Jj _ _ (x:=.int k) (y:=.int AK) rfl (JE _ _ (x:=ofN ns) rfl Ad) (by rw[o_lt,Zx 'g'])),if_pos rfl];exact Jj _ _ (x:=ofN ns) (y:=.int k) rfl rfl (by rw[uY,j];rfl)
 ·have q:¬((k:Int)<(AK:Int)):=by lia
  by_cases f:ns=[]
  ·subst f;have q:¬((k:Int)<0):=by lia
   have e:op2 .eq (ofN []) GD=.ok CW:=rfl;refine⟨0,λc=>?_⟩;rfl
  ·have l:0<AK:=by
    cases ns with
    |nil=>exact absurd rfl f
    |cons a t=>simp
   have m:k % AK<AK:=Nat.mod_lt _ l;refine⟨ns[k % AK]*31+k,λc=>?_⟩;have s:((k:Int) % (AK:Int))=((k % AK:Nat):Int):=by lia
   have j:atD DX ((k:Int) % (AK:Int))=So (.int ns[k % AK]):=by
    rw[s];have:=atN DX (k % AK) (by simpa using m);rw[this];simp
   have r:D.eqv (.lst DX) GD=Fo:=by
    cases ns with
    |nil=>exact absurd rfl f
    |cons a t=>rfl
   have g:op2 .eq (.lst DX) GD=.ok C4:=by
    rw[o_eq _ _ (by simp[D.dep,Jpk]) (by simp[D.dep,deps]),r]
   have b:op2 .mod BQ (.int AK)=.ok (.int ((k:Int) % (AK:Int))):=by
    have:0<(AK:Int):=by lia
    simp[op2,l]
   rw[JeM,hV,fD _ _ (p:=Fo) _ _ (Jj _ _ (x:=.int k) (y:=.int AK) rfl (JE _ _ (x:=ofN ns) rfl Ad) (by rw[o_lt,Zs 'g'])),if_neg 'y',fD _ _ (p:=Fo) _ _ (Jj _ _ (x:=ofN ns) (y:=.lst []) rfl rfl g),if_neg 'y',JJ];exact Jj _ _ (Jj _ _ (y:=.int 31) (Jj _ _ (x:=ofN ns) rfl (Jj _ _ (x:=.int k) (y:=.int AK) rfl (JE _ _ (x:=ofN ns) rfl Ad) b) (by rw[uY,j];rfl)) rfl (Jxj _ _ (by rw[show smallI 31=To from by decide,Bool.or_true]))) rfl (o_add _ _)
theorem pick(ns:AU)(k m:Int)(f:0<=k)(b:0<m):∃r:Nat,(r:Int)<m/\∀c,runD defs Bo 43 [ofN ns,.int k,.int m]=.ok bE:=by
 obtain⟨v,h⟩:=cell ns k f;let d:Int:=(v+6151*AZ)*40692 % 2147483399;have z:0<=d:=Int.emod_nonneg _ AB;have A:d<2147483399:=Int.emod_lt_of_pos _ AB;have q:0<=(d*d+d / 31) % 2147483629 % m:=Int.emod_nonneg _ Af;have y:(d*d+d / 31) % 2147483629 % m<m:=Int.emod_lt_of_pos _ Af;refine⟨((d*d+d / 31) % 2147483629 % m).toNat,by lia,λc=>?_⟩;have o:smallI d=To:=by simp only[smallI,Zc,Zw];lia
 rw[Int.toNat_of_nonneg q];have u:(v+6151*AZ)*40692 % 2147483399=d:=rfl;have s:smallI 6151=To:=by decide
 have x:smallI 40692=To:=by decide
 have w:∀i:Int,op2 .mod A2 Qak=.ok (.int (i % 2147483399)):=λi=>by simp[op2]
 have g:∀i:Int,op2 .mod A2 Qal=.ok (.int (i % 2147483629)):=λi=>by simp[op2]
 have j:∀i:Int,op2 .mod A2 (.int m)=.ok (.int (i % m)):=λi=>by simp[op2,b]
 have l:∀i:Int,op2 .fdiv A2 QaT=.ok (.int (i / 31)):=λi=>by simp[op2]
 simp[Jlr,JcU,h,s,x,u,o,w,g,j,l]
def Jo(a b:Bg):oS a=oS b↔a=b:=by
 constructor
 ·intro h;rw[Str.ofString_eq_toList,Str.ofString_eq_toList]at h;have j:=kA (λs:Str=>XS) h;simp only[List.toList_toArray]at j;have l:a.toList=b.toList:=by refine List.map_inj_right (f:=Char.toNat) ?_|>.mp j;intro x y g;exact Char.ext (UInt32.toNat_inj.mp g)
  exact String.toList_inj.mp l
 ·rintro rfl;rfl
@[simp]def sb(a b:Bg):(oS a==oS b)=decide (a=b):=by
 by_cases h:a=b
 ·subst h;simp
 ·have:oS a≠oS b:=λe=>h ((Jo a b).mp e);simp[h,this]
noncomputable def ws9:List Str:=[S "a",S "b",S "7",S "0",S "new",S "zz",S "55",S "01",S "-"]
noncomputable def pool:List Str:=[S "a",S "b",S "7",S "0"]
def Jna:∀w∈pool,w∈ws9:=by decide+kernel
inductive Part where
 |word (x:Str)|one (n:Str) (ws:List Str)|any (n:Str)|number (n:Str)|rest (n:Str)
noncomputable def Part.d:Part->D
 |.word x=>.tup Pv
 |.one n ws=>.tup Qh
 |.any n=>.tup [.str (S "any"),.str n]
 |.number n=>.tup [.str (S "number"),.str n]
 |.rest n=>.tup [.str (S "rest"),.str n]
def Part.ok:Part->Prop
 |.word x=>x∈ws9
 |.one _ b=>(∀w∈b,w∈ws9)/\b≠[]
 |_=>True
def Part.srt:Part->Prop
 |.word x=>x∈pool
 |.one _ b=>(b.Pairwise LtS/\∀w∈b,w∈pool)/\b.length<=3
 |_=>True
noncomputable def Part.name:Part->Str
 |.word x=>x
 |.one n _=>n
 |.any n=>n
 |.number n=>n
 |.rest n=>n
noncomputable def Part.isWord:Part->Bool
 |.word _=>To
 |_=>Fo
noncomputable def Part.hole (p:Part):List Str:=if p.isWord then[]else[p.name]
def jA (ps:AG):List Str:=ps.flatMap Part.hole
noncomputable def Part.isRest:Part->Bool
 |.rest _=>To
 |_=>Fo
theorem JV:∀ws:List Str,JM HJ=So ws
 |[]=>rfl
 |w::ws=>by simp[JM,JV ws]
def Jwd(ws:Ac)(h:AY<60):op1 .sset (.lst HJ)=.ok (.lst ((Jn ws).map .str)):=by simp[op1,JV,h]
theorem JlU(r:Nat)(h:(r:Int)<4):∃w∈pool,atD Hy (r:Int)=So BD:=by
 match r,h with
 |0,_=>exact⟨S "a",by decide+kernel,rfl⟩
 |1,_=>exact⟨S "b",by decide+kernel,rfl⟩
 |2,_=>exact⟨S "7",by decide+kernel,rfl⟩
 |3,_=>exact⟨S "0",by decide+kernel,rfl⟩
 |n+4,h=>lia
section
variable(U:Ag)(O:Fm)
def qR{A B rest:Sx}{d:D}(b:evD U c O=.ok CW)(f:exD U A O=.ok (.rt d,e)):Jf (exD U (.seq (.ite c A B) rest) O)=.ok d:=by rw[yA,n_if _ _ _ _ b,if_pos rfl,f];rfl
def jO{A rest:Sx}(b:evD U c O=.ok C4):Jf (exD U (.seq (.ite c A .skip) rest) O)=Jf Q9:=by rw[yA,n_if _ _ _ _ b,if_neg 'y'];rfl
def pR{e:Px}{d:D}(h:evD U e O=.ok d):exD U bB O=.ok aK:=by simp[h]
end
def partR:Sx:=match fV with
 |.seq _ (.seq _ r)=>r
 |_=>.skip
noncomputable def JwH (ns:AU) (a:Int) (n:Str) (r:Nat):Fm:=[So Cq,So (.int a),So BS,So QaU,So bE,No]
theorem part(ns:AU)(at_:Int)(M:0<=at_)(name:Str):∃p:Part,p.ok/\p.isRest=Fo/\p.srt/\p.hole.Sublist [name]/\∀c,runD defs (c+3) 44 Qv=.ok p.d:=by
 obtain⟨r,U,G⟩:=pick ns at_ 8 M AB;have g:∀c,runD defs (c+3) 44 Qv=Jf (exD Dz partR (JwH ns at_ name r)):=λc=>by rw[JkW,fV,uD _ _ (d:=.lst Hy) _ rfl,uD _ _ _ (Jk _ _ rfl (G c))];rfl
 by_cases J:(r:Int)<4
 ·obtain⟨q,v,eq⟩:=pick ns (at_+1) 4 Af AB;obtain⟨w,h,y⟩:=JlU q v;refine⟨.word w,Jna w h,rfl,h,by simp[Part.hole,Part.isWord],λc=>?_⟩;have u:op2 .idx QaU (.int q)=.ok BD:=by rw[uY,y];rfl
  exact(g c).trans (qR _ _ (B:=.skip) (Jj _ _ (a:=.var 4) (b:=.con Gn) rfl rfl (by rw[o_lt,Zx J])) (pR _ _ (uA _ _ (Jg _ _ rfl (Jg _ _ (Jj _ _ rfl (Jk _ _ rfl (eq c)) u) rfl)) (show 2<=1000 by decide))))
 ·by_cases H:r=4
  ·subst H;obtain⟨m,P,L⟩:=pick ns (at_+1) 3 Af AB;have z:∀k:Nat,∃w,w∈pool/\∃q:Nat,(∀c,runD defs Bo 43 [ofN ns,.int (at_+2+k),.int 4]=.ok (.int q))/\atD Hy (q:Int)=So BD:=by intro k;obtain⟨q,v,eq⟩:=pick ns (at_+2+k) 4 Af AB;obtain⟨w,h,y⟩:=JlU q v;exact⟨w,h,q,eq,y⟩
   obtain⟨f,s⟩:=pP.mp z;have I:∀c x,evD Dz VO
     [So Cq,So CS,So (.str name),So QaU,x,No]=.ok (.lst (((List.range (1+m)).map f).map .str)):=by
    intro c x;rw[Zt];refine rS _ _ _ _ (1+m) ?_ Af (λk=>.str (f k)) ?_
    ·simp[L,Int.natCast_add]
    ·intro k z
     obtain⟨_,q,F,C⟩:=s k;simp[F,C]
   have j:((List.range (1+m)).map f).length<60:=by simp;lia
   have A:=Jwd _ j;refine⟨.one name (Jn ((List.range (1+m)).map f)),GP,rfl,⟨⟨JI _,λw h=>by
    rw[Jy,Zv]at h;obtain⟨k,_,rfl⟩:=h;exact(s k).1⟩,Zq (JnK _) BR⟩,by simp[Part.hole,Part.isWord,Part.name],λc=>?_⟩
   ·intro w h;rw[Jy,Zv]at h;obtain⟨k,_,rfl⟩:=h;exact Jna _ (s k).1
   ·intro E;have:f 0∈Jn ((List.range (1+m)).map f):=by rw[Jy,Zv];exact⟨0,by rw[List.mem_range];lia,rfl⟩
    rw[E]at this;simp at this
   ·have o:=I c (So Gn);generalize (List.range (1+m)).map f=ws at A o⊢;refine(g c).trans ((jO _ _ (c:=.bi .lt CY Fc) rfl).trans (qR _ _ (B:=.skip) (c:=.bi .eq CY Fc) rfl (e:=(JwH ns at_ name 4).set 5 (So (.lst HJ))) ?_));exact(wF _ _ _ o).trans (pR _ _ (uA _ _ (Jg _ _ rfl (Jg _ _ rfl (Jg _ _ (JE _ _ (JE _ _ rfl A) rfl) rfl))) (show 3<=1000 by decide)))
  ·have l:r=5\/r=6\/r=7:=by lia
   rcases l with rfl|rfl|rfl
   ·exact⟨.any name,trivial,rfl,trivial,by simp[Part.hole,Part.isWord,Part.name],λc=>(g c).trans rfl⟩
   ·exact⟨.number name,trivial,rfl,trivial,by simp[Part.hole,Part.isWord,Part.name],λc=>(g c).trans rfl⟩
   ·exact⟨.any name,trivial,rfl,trivial,by simp[Part.hole,Part.isWord,Part.name],λc=>(g c).trans rfl⟩
noncomputable def Ju:List Part->Prop
 |[]=>True
 |p::ps=>(X4=To->ps=[])/\Ju ps
def JqZ(p:Part):p.d.imm=To:=by cases p<;>simp[Part.d,D.imm,imms,Jpo]
def sU(ps:AG):imms Ej=To:=by
 induction ps with
 |nil=>rfl
 |cons p ps b=>simp[imms,JqZ,b]
def Jpr(p:Part):p.d.dep<=2:=by cases p<;>simp[Part.d,D.dep,deps,JfQ]
theorem JlQ(ps:AG):deps Ej<=2:=by
 induction ps with
 |nil=>simp[deps]
 |cons p ps b=>have:=Jpr p;simp only[Zg,deps];lia
def JhN(l:AG)(h:∀p∈l,X4=Fo)(n:Str):Ju (l++[.rest n]):=by
 induction l with
 |nil=>simp[Ju]
 |cons p l f=>refine⟨λb=>?_,f λp b=>h p (by simp[b])⟩;rw[h p 'j']at b;cases b
def JiO(l:AG)(h:∀p∈l,X4=Fo):Ju l:=by
 induction l with
 |nil=>trivial
 |cons p l f=>refine⟨λb=>?_,f λp b=>h p (by simp[b])⟩;rw[h p 'j']at b;cases b
noncomputable def names4:List Str:=[S "y",S "id",S "z",S "x"]
noncomputable def nm4 (k:Nat):Str:=names4.getD k (S "")
theorem JpP(k:Nat)(h:k<4):atD Wz (k:Int)=So (.str (nm4 k)):=by
 match k,h with
 |0,_=>rfl
 |1,_=>rfl
 |2,_=>rfl
 |3,_=>rfl
 |n+4,h=>lia
theorem JgX(f:Nat->Part)(b:∀k,(f k).hole.Sublist [nm4 k]):∀m,m<=4->(jA ('Ʀ'.map f)).Sublist (names4.take m)
 |0,_=>by simp[jA]
 |m+1,h=>by
  have e:names4.take (m+1)=names4.take m++[nm4 m]:=by
   match m,h with
   |0,_=>rfl
   |1,_=>rfl
   |2,_=>rfl
   |3,_=>rfl
   |n+4,h=>lia
  rw[e,List.range_succ,ZW];simp only[jA,List.flatMap_append,Zg,jG,iG,List.flatMap_nil,pE];exact(JgX f b m Af).append (b m)
noncomputable def names5:List Str:=[S "y",S "id",S "z",S "x",S "r"]
theorem patQ(ns:AU)(at_:Int)(J:0<=at_)(M:Nat)(P:M<=4):∃(g:AG)(b:Bool),(∀p∈g,p.ok/\p.isRest=Fo/\p.srt)/\(jA g).Sublist names4/\g.length<=M/\∀c,runD defs (c+4) 45 [ofN ns,.int at_,.int M]=.ok (.tup ((g++if b then[Part.rest (S "r")]else[]).map Ya)):=by
 obtain⟨m,E,I⟩:=pick ns at_ ((M:Int)+1) J Af;have E:m<=M:=by lia
 have s:∀k:Nat,∃p:Part,p.ok/\p.isRest=Fo/\p.srt/\p.hole.Sublist [nm4 k]/\(k<4->∀c,runD defs (c+3) 44 [ofN ns,.int (at_+2+5*k),.str (nm4 k)]=.ok p.d):=by intro k;obtain⟨p,B,C,G,F,z⟩:=part ns (at_+2+5*k) Af (nm4 k);exact⟨p,B,C,G,F,λ_=>z⟩
 obtain⟨f,h⟩:=pP.mp s;have H:smallI 5=To:=by decide
 have j:∀c,evD Bi VP
   [So Cq,So CS,So (.int M),So (.lst Wz),No]=.ok (.lst (('Ʀ'.map f).map Ya)):=by
  intro c;rw[Zt];refine rS _ _ _ _ m ?_ Af (λk=>(f k).d) ?_
  ·simp[I]
  ·intro k s
   obtain⟨_,_,_,_,y⟩:=h k;have n2:=y Af c;simp[JpP k 'g',n2,H]
 have o:∀p∈(List.range m).map f,p.ok/\p.isRest=Fo/\p.srt:=by intro p r;rw[Zv]at r;obtain⟨k,_,rfl⟩:=r;exact⟨(h k).1,(h k).2.1,(h k).2.2.1⟩
 have x:(jA ('Ʀ'.map f)).Sublist names4:=(JgX f (λk=>(h k).2.2.2.1) m Af).trans Qc;have v:('Ʀ'.map f).length<=M:=by simp;lia
 generalize 'Ʀ'.map f=g at j o v x;have l:g.length<16777216:=by lia
 have w:=sU g;have hN:=JpJ ns;obtain⟨q,L,eq⟩:=pick ns (at_+1) 4 Af AB;refine⟨g,decide (q=0),o,x,v,λc=>?_⟩;by_cases u:q=0
 ·subst u;simp[Jcf,iV,j,eq,w,hN,lD,l,D.imm,imms,Part.d]
 ·have A:((q:Int)==0)=Fo:=by
   rw[ZA];lia
  simp[Jcf,iV,j,eq,w,A,u,lD]
theorem patS(ns:AU)(g:Int)(m:0<=g)(M:Nat)(o:M<=4):∃ps:List Part,(∀p∈ps,p.ok)/\Ju ps/\ps.length<=M+1/\(∀p∈ps,p.srt)/\(jA ps).Sublist names5/\((∀p∈ps,X4=Fo)->Aq<=M)/\∀c,runD defs (c+4) 45 [ofN ns,.int g,.int M]=.ok D5:=by
 obtain⟨s,b,h,j,l,r⟩:=patQ ns g m M o;refine⟨_,?_,?_,?_,?_,?_,?_,r⟩<;>cases b
 ·simpa using λp f=>(h p f).1
 ·simp only[if_true];intro p f;rcases ZK.mp f with f|f
  ·exact(h p f).1
  ·rw[yB.mp f];trivial
 ·simpa using JiO _ λp f=>(h p f).2.1
 ·exact JhN _ (λp f=>(h p f).2.1) _
 ·simp;lia
 ·simp;lia
 ·simpa using λp f=>(h p f).2.2
 ·simp only[if_true];intro p f;rcases ZK.mp f with f|f
  ·exact(h p f).2.2
  ·rw[yB.mp f];trivial
 ·simp only[Zl,ZF,pE];exact j.trans (List.sublist_append_left names4 [S "r"])
 ·simp only[if_true,jA,List.flatMap_append];exact j.append (List.Sublist.refl [S "r"])
 ·simpa using λ_=>l
 ·exactλq=>absurd (q (.rest (S "r")) Ad) (by simp[Part.isRest])
def pat(ns:AU)(b:Int)(q:0<=b)(M:Nat)(g:M<=4):∃ps:List Part,(∀p∈ps,p.ok)/\Ju ps/\ps.length<=M+1/\(∀p∈ps,p.srt)/\(jA ps).Sublist names5/\∀c,runD defs (c+4) 45 [ofN ns,.int b,.int M]=.ok D5:=
 let⟨ps,o,l,f,m,h,_,j⟩:=patS ns b q M g
 ⟨ps,o,l,f,m,h,j⟩
theorem Jkc(ns:AU)(b:Int)(j:0<=b):∃w:Str,w∈ws9/\∀c,runD defs (c+3) 47 [ofN ns,.int b]=.ok BD:=by
 obtain⟨r,f,m⟩:=pick ns b 9 j AB;have:∃w:Str,w∈ws9/\atD [D.str (S "a"),D.str (S "b"),D.str (S "7"),D.str (S "0"),D.str B0,D.str (S "zz"),D.str (S "55"),D.str (S "01"),D.str (S "-")] (r:Int)=So BD:=by
  match r,f with
  |0,_=>exact⟨S "a",by decide+kernel,rfl⟩
  |1,_=>exact⟨S "b",by decide+kernel,rfl⟩
  |2,_=>exact⟨S "7",by decide+kernel,rfl⟩
  |3,_=>exact⟨S "0",by decide+kernel,rfl⟩
  |4,_=>exact⟨S "new",by decide+kernel,rfl⟩
  |5,_=>exact⟨S "zz",by decide+kernel,rfl⟩
  |6,_=>exact⟨S "55",by decide+kernel,rfl⟩
  |7,_=>exact⟨S "01",by decide+kernel,rfl⟩
  |8,_=>exact⟨S "-",by decide+kernel,rfl⟩
  |n+9,h=>lia
 obtain⟨w,l,g⟩:=this;exact⟨w,l,λc=>by simp[Jey,JaE,m,g,lD]⟩
noncomputable def JoI:Px:=V0
noncomputable def Jns:Px:=VW
def jL:Sx:=(.ite (.bi .eq Ff XC) TN (.ite (.bi .eq Ff QaQ) (.app Fo 3 JoI) (.app Fo 3 Jns)))
def nearTail:Sx:=(.ite SH Sl (.ite Sd Mt jL))
noncomputable def kO:Sx:=(.seq Rz
  YI)
def JsA:kO=.seq Rz nearTail:=rfl
noncomputable def Part.kind:Part->Str
 |.word _=>S "word"
 |.one _ _=>S "one"
 |.any _=>S "any"
 |.number _=>S "number"
 |.rest _=>S "rest"
def JnQ(U:Ag)(O:Fm)(i:Nat)(p:Part)(h:O[i]? =So bF)(s:Str):evD U (.bi .eq SG QbR) O=.ok (.bl (YD==s)):=by refine Jj _ _ (x:=.str YD) (Jj _ _ (x:=p.d) (y:=.int 0) (by rw[wD,h]) rfl ?_) rfl Qc7;cases p<;>rfl
def Jho(p:Part):(YD==S "rest")=p.isRest:=match p with
 |.word _=>(by decide+kernel:(S "word"==S "rest")=Fo)
 |.one _ _=>(by decide+kernel:(S "one"==S "rest")=Fo)
 |.any _=>(by decide+kernel:(S "any"==S "rest")=Fo)
 |.number _=>(by decide+kernel:(S "number"==S "rest")=Fo)
 |.rest _=>(by decide+kernel:(S "rest"==S "rest")=To)
theorem Jnh(ns:AU)(at_:Int)(h0:0<=at_)(k:Nat)(p:Part)(U:p.ok):∃a:List Str,(∀w∈a,w∈ws9)/\a.length<=1+p.isRest.toNat/\∀c(made:Ac)P C,P.imm=To->dW<=1000-2->
  ∃y6,exD Bi kO [So Cq,So CS,So P,So NB,So BQ,So p.d,C]=
   .ok (.nx,[So Cq,So CS,So P,So (.lst ((made++a).map .str)),So BQ,So p.d,y6]):=by
 obtain⟨r,hr,er⟩:=pick ns (at_+3*k) 9 Af AB;obtain⟨w,E,ew⟩:=Jkc ns (at_+3*k+1) Af;have B:op2 .mul (.int 3) BQ=.ok (.int (3*k)):=by simp only[op2,show smallI 3=To by decide,Bool.true_or,if_true]
 have G:∀(c:Nat)(P L g:AL),evD Bi Lw T5=.ok (.int (at_+3*k)):=λc P L g=>Jj _ _ rfl (Jj _ _ rfl rfl B) rfl;have hE:∀(c:Nat)(P L g:AL),evD Bi V2 T5=.ok bE:=λc P L g=>
  Jk _ _ (J:=[ofN ns,.int (at_+3*k),.int 9]) (Jg _ _ rfl (Jg _ _ (G c P L g) rfl)) (er A6)
 have o:∀(c:Nat)(P L g:AL)(s:Str),evD Bi (.bi .eq Ff QbR) T5=.ok (.bl (YD==s)):=λc P L g s=>JnQ _ _ 5 p rfl s;have b:∀(c:Nat)(P:D)(made:Ac)(g:AL),exD Bi kO [So Cq,So CS,So P,So NB,So BQ,So p.d,g]=exD Bi nearTail DM:=λc P made g=>by rw[JsA,wF _ _ _ (hE c _ _ _)];rfl
 have one:∀(c:Nat)(P:D)(made:Ac)(e:Px)(v:Str),dW<=1000-2->evD Bi e DM=.ok (.str v)->exD Bi QdV DM=.ok (.nx,[So Cq,So CS,So P,So (.lst ((made++[v]).map .str)),So BQ,So p.d,So bE]):=λc P made e v u he=>by rw[JtL _ _ (i:=3) (J:=made.map .str) rfl he (by rw[Zi];lia),ZW];rfl
 cases H:p.isRest with
 |true=>
  obtain⟨m,hm,em⟩:=pick ns (at_+39) 3 Af AB;have Z:∀j:Nat,∃w:Str,w∈ws9/\∀c,runD defs (c+3) 47 [ofN ns,.int (at_+40+j)]=.ok BD:=λj=>Jkc ns _ Af;obtain⟨f,W⟩:=pP.mp Z;refine⟨'Ʀ'.map f,?_,by rw[Zi,wH];show m<=2;lia,?_⟩
  ·intro w E;rw[Zv]at E;obtain⟨j,_,rfl⟩:=E;exact(W j).1
  ·intro c made P C X u;refine Ss;have hc:=rS Bi DM V6 V7 m
    (Jk _ _ (J:=[ofN ns,.int (at_+39),.int 3]) rfl (em A6)) Af (λj=>.str (f j)) λj hj=>Jk _ _ (J:=[ofN ns,.int (at_+40+j)]) rfl ((W j).2 c)
   rw[b,nearTail,n_if _ _ _ _ 'ǝ',Jho,H,if_pos rfl];rw[JsM _ _ (i:=3) (J:=made.map .str) (es:='Ʀ'.map λj=>.str (f j)) rfl (by rw[fE,e_un,hc];rfl) (by rw[Zi,Zi,wH];lia)];rw[ZW,Zt];rfl
 |false=>
  have I:(YD==S "rest")=Fo:=by rw[Jho,H]
  have A:∀(c:Nat)(P:D)(made:Ac),exD Bi nearTail DM=if((r:Int)==0)||(YD==S "any")then exD Bi Mt DM else exD Bi jL DM:=λc P made=>by rw[nearTail,n_if _ _ _ _ 'ǝ',I,if_neg ZH];exact n_if _ _ _ _ (tG _ _ ON λ_=>o c _ _ _ _)
  cases F:(((r:Int)==0)||(YD==S "any"))with
  |true=>refine⟨[w],by simpa using E,Nat.le_add_right 1 _,λc made P C X u=>Ss⟩;rw[b,A,F,if_pos rfl];exact one c P made _ w u (Jk _ _ (J:=[ofN ns,.int (at_+3*k+1)]) UI (ew c))
  |false=>
   have l:∃(v:Str)(e:Px),v∈ws9/\∀(c:Nat)(P:D)(made:Ac),exD Bi jL DM=exD Bi QdV DM/\evD Bi e DM=.ok (.str v):=by
    obtain⟨q,z,eq⟩:=pick ns (at_+3*k+2) 3 Af AB;cases p with
    |rest n=>cases H
    |any n=>rw[ZN]at F;exact absurd F.2 (by decide+kernel:¬((S "any"==S "any")=Fo))
    |word x=>refine⟨x,.bi .idx CB DS,U,λc P made=>⟨?_,rfl⟩⟩;rw[jL,n_if _ _ _ _ 'ǝ'];exact if_pos (by decide+kernel:(S "word"==S "word")=To)
    |number n=>
     have:∃w:Str,w∈ws9/\atD VV (q:Int)=So BD:=by
      match q,z with
      |0,_=>exact⟨S "7",by decide+kernel,rfl⟩
      |1,_=>exact⟨S "0",by decide+kernel,rfl⟩
      |2,_=>exact⟨S "55",by decide+kernel,rfl⟩
      |n+3,h=>lia
     obtain⟨v,M,ev⟩:=this;refine⟨v,JoI,M,λc P made=>GP⟩
     ·rw[jL,n_if _ _ _ _ 'ǝ'];refine(if_neg (by decide+kernel:¬((S "number"==S "word")=To))).trans ?_;rw[n_if _ _ _ _ 'ǝ'];exact if_pos (by decide+kernel:(S "number"==S "number")=To)
     ·exact Jj _ _ (x:=.lst VV) (y:=.int q) rfl (Jk _ _ (J:=[ofN ns,.int (at_+3*k+2),.int 3]) UI (eq A6)) (by simp only[op2,ev];rfl)
    |one n ws=>
     have hn:0<AY:=List.length_pos_iff.mpr U.2;obtain⟨q,z,eq⟩:=pick ns (at_+3*k+2) AY Af Af;have z:q<AY:=by lia
     have ev:atD 'ɇ' (q:Int)=So (.str ws[q]):=by rw[atN 'ɇ' q (by rw[Zi];exact z),List.getElem_map]
     have Y:∀(c:Nat)(P L g:AL),evD Bi SA [So Cq,So CS,P,L,So BQ,So (Part.d (.one n ws)),g]=.ok A7:=λ_ _ _ _=>rfl;refine⟨ws[q],Jns,U.1 _ (sP z),λc P made=>GP⟩
     ·rw[jL,n_if _ _ _ _ 'ǝ'];refine(if_neg (by decide+kernel:¬((S "one"==S "word")=To))).trans ?_;rw[n_if _ _ _ _ 'ǝ'];exact if_neg (by decide+kernel:¬((S "one"==S "number")=To))
     ·exact Jj _ _ (x:=.tup HJ) (y:=.int q) (Y c _ _ _) (Jk _ _ (J:=[ofN ns,.int (at_+3*k+2),.int AY]) (Jg _ _ rfl (Jg _ _ WZ (Jg _ _ (JE _ _ (Y c _ _ _) (by simp only[op1,Zi])) rfl))) (eq A6)) (by simp only[op2,ev];rfl)
   obtain⟨v,e,M,l⟩:=l;refine⟨[v],by simpa using M,Nat.le_add_right 1 _,λc made P C X u=>Ss⟩;rw[b,A,F,if_neg ZH,(l c P made).1];exact one c P made e v u (l c P made).2
theorem Jid(ns:AU)(at_:Int)(x:0<=at_):∀(ps:AG)(m:∀p∈ps,p.ok)(k:Nat),∃a:List Str,(∀w∈a,w∈ws9)/\a.length<=Aq+ps.countP XY/\∀c(made:Ac)P l j f,P.imm=To->dW+2*Aq<=1000->
  ∃H z q,forL [4,5] 2 (exD Bi kO) (Jw k Ej) [So Cq,So CS,So P,So NB,l,j,f]=
   .ok (.nx,[So Cq,So CS,So P,So (.lst ((made++a).map .str)),H,z,q])
 |[],m,k=>⟨[],by simp,by simp,λc made P l j f o h=>⟨l,j,f,by simp[Jw,forL]⟩⟩
 |p::ps,m,k=>by
  obtain⟨a,C,v,r⟩:=Jnh ns at_ x k p (m p Ad)
  obtain⟨b,B,J,g⟩:=Jid ns at_ x ps (λp h=>m p (by simp[h])) AZ
  refine⟨a++b,?_,by cases s:p.isRest<;>simp[s]at v⊢<;>lia,?_⟩
  ·intro w u
   rw[ZK]at u
   exact u.elim (C w) (B w)
  ·intro c made P l j f o A
   have G:a.length<=2:=by cases s:p.isRest<;>simp[s]at v<;>lia
   have I:made.length+2*Aq+2<=1000:=by
    rw[Zk]at A;lia
   obtain⟨q,r⟩:=r c made P f o Af;obtain⟨F,E,y,g⟩:=g c (made++a) P FM bF q o (by rw[Zn];lia);refine⟨F,E,y,?_⟩;rw[List.append_assoc]at g;simp only[Zg,Jw,forL,iA,n25,n35,ZF];simp only[Zk,rD,eM,Nat.reduceAdd,Nat.reduceEqDiff,ZF,if_true,Rs.bo,Zg,jG,zA,List.set,r,g]
theorem JkG:∀b:List Part,Ju b->b.countP XY<=1
 |[],_=>by simp
 |p::b,h=>by
  have g:=JkG b h.2
  cases f:p.isRest with
  |false=>simpa[f]using g
  |true=>rw[h.1 f];simp[f]
theorem near(ns:AU)(b:Int)(g:0<=b)(ps:AG)(q:∀p∈ps,p.ok)(u:Aq<=5)(m:Ju ps):∃a:List Str,(∀w∈a,w∈ws9)/\a.length<=6/\∀c,runD defs (c+4) 48 [ofN ns,.int b,.tup Ej]=.ok Km:=by
 obtain⟨a,l,v,e⟩:=Jid ns b g ps q 0;have:=JkG ps m;refine⟨a,l,by lia,λc=>?_⟩;obtain⟨x,r,s,e⟩:=e c [] D5 No No No (by simpa[D.imm]using sU ps) BR;have f:∀(J:Ak)(k:Nat),imms J=To->imms (Jw k J)=To:=by
  intro J;induction J with
  |nil=>intro k h;rfl
  |cons d J o=>intro k h;simp only[imms,Zc]at h;simp[Jw,imms,D.imm,h.1,o _ h.2]
 have j:JcV=.seq (.own 3 Kp) (.seq (.loop Fo [4,5] 2 Qcn kO) P3):=rfl;rw[Jlk,j];have f:=f _ 0 (sU ps);simp only[jG,kJ]at e;simp[f,lD,imms,e]
def wsA:List Str:=ws9++[S "x0",S "1"]
def ws_A{w:Str}(h:w∈ws9):w∈wsA:=rJ _ h
noncomputable def numW (w:Str):Bool:=w==S "7"||w==S "0"||w==S "55"||w==S "1"
def num (w:Str):Int:=digs w.cps.toList
def wn(w:Str)(b:w∈wsA)(c:Nat):runD defs A6 14 cC=.ok (.bl (numW w)):=by simp only[wsA,ws9,rB,kJ,Zf,Zy,fA]at b;rcases b with rfl|rfl|rfl|rfl|rfl|rfl|rfl|rfl|rfl|rfl|rfl<;>rfl
def Part.fits (p:Part) (w:Str):Bool:=match p with
 |.word x=>w==x
 |.one _ b=>b.any (λv=>v==w)
 |.number _=>numW w
 |_=>To
def Part.valD (p:Part) (w:Str):D:=match p with
 |.number _=>.int (num w)
 |_=>.str w
noncomputable def Part.val (p:Part) (w:Str):List D:=if p.isWord then[]else[.tup [.str aI,p.valD w]]
noncomputable def lawM:List Part->List Str->Option YX
 |[],a=>if a.isEmpty then So []else No
 |p::ps,a=>if p.isRest then So [.tup [.str aI,.tup DL]]else match a with
  |[]=>No
  |w::a=>if p.fits w then(lawM ps a).map (p.val w++·)else No
theorem o_inS(w:Str)(ws:Ac):op2 .isin BD A7=.ok (.bl (ws.any λv=>v==w)):=by rw[o_inT _ _ (by rw[JfQ];lia) 'Պ'];simp only[rL];rfl
def cut1(x:α)(xs:List α):cutD (x::xs) (So 1) No=xs:=by simp[cutD,six]
noncomputable def zbl:List Part->List Str->List Bool
 |p::ps,w::a=>p.fits w::zbl ps a
 |_,_=>[]
def lets(p:Part)(w:Str)(b:w∈wsA)(c:Nat):runD defs Bo 15 b7=.ok (.bl (p.fits w)):=by
 have h:=wn w b c;have k:=λs=>JnQ FZ [So p.d,So BD] 0 p rfl s;rw[JnZ,JdS,fD _ _ _ _ (k _),fD _ _ _ _ (k _),fD _ _ _ _ (k _),JJ];cases p with
 |word x=>rw[if_pos 'À'];exact Jj _ _ (x:=.str w) (y:=.str x) rfl rfl Qc7
 |one n ws=>rw[if_neg 'À',if_pos 'À'];exact Jj _ _ (x:=.str w) (y:=.tup HJ) rfl rfl (o_inS w ws)
 |number n=>rw[if_neg 'À',if_neg 'À',if_pos 'À'];exact Jl _ _ (x:=.str w) rfl h
 |any n=>rw[if_neg 'À',if_neg 'À',if_neg 'À'];rfl
 |rest n=>rw[if_neg 'À',if_neg 'À',if_neg 'À'];rfl
noncomputable def JH (ps:AG):Bool:=match ps.getLast? with
 |some p=>X4
 |none=>Fo
theorem has_rest(ps:AG)(c:Nat):runD defs A6 13 IR=.ok (.bl (JH ps)):=by
 by_cases b:ps=[]
 ·subst b;rfl
 ·have o:0<Aq:=by
   cases ps with
   |nil=>exact absurd rfl b
   |cons a t=>simp
  have f:atD Ej (-1)=So (ps.getLast b).d:=by
   have m:¬((0:Int)<= -1):=by decide
   have j:-('Ȳ'.length:Int)<= -1:=by rw[Zi];exact Int.neg_le_neg (Int.ofNat_le.mpr o)
   have g:(-1+('Ȳ'.length:Int)).toNat=Aq-1:=by rw[Zi,Int.add_comm];exact Int.toNat_sub _ 1
   simp only[atD,ixn,if_neg m,if_pos j,g,Option.bind_some];rw[xB,ZC 'g',List.getLast_eq_getElem];rfl
  have l:JH ps=(ps.getLast b).isRest:=by
   simp only[JH,List.getLast?_eq_some_getLast b]
  rw[l];have h:(0:Int)<Aq:=by lia
  generalize ps.getLast b=p at f;cases p<;>simp only[Part.d]at f<;>simp[JkS,JcF,o,f,Part.isRest]
def fit (ps:AG) (a:Ac):Bool:=if JH ps then decide ((Aq:Int)-1<=Yo)else(Yo:Int)==Aq
def JsU(ps:AG)(a:Ac)(c:Nat):runD defs Bo 16 [.tup Ej,.int Yo]=.ok (.bl (fit ps a)):=by have h:=has_rest ps c;cases b:JH ps<;>rw[b]at h<;>simp[JbH,JK,h,fit,b]
theorem JjB(c:Nat)(O:Fm):∀(ps:AG)(a:Ac),(∀w∈a,w∈wsA)->
  JY 2 (evD Dz BV) (evD Dz Rm) O 'ԯ'=.ok ((zbl ps a).map .bl)
 |[],a,h=>by cases a<;>rfl
 |p::ps,[],h=>rfl
 |p::ps,w::a,h=>by
  have g:=JjB c O ps a λw f=>h w (by simp[f])
  have b:=lets p w (h w Ad) c
  have:=gV 2 (evD Dz BV) (evD Dz Rm) O (.tup b7) 'ԯ' (new:=[So p.d,So BD]) (by simp[iA]) (p:=To) rfl (y:=.bl (p.fits w)) (λ_=>by simp[b]) g
  simpa[zipD,zbl]using this
theorem JnU:∀bs:List Bool,jB (bs.map .bl)=So bs
 |[]=>rfl
 |b::bs=>by simp[jB,JnU bs]
theorem JnF:∀(xs ys:Ak),'事'.length<=Ah
 |[],ys=>by simp[zipD]
 |x::xs,[]=>by simp[zipD]
 |x::xs,y::ys=>by
  have:=JnF xs ys
  simp only[zipD,Zk]
  lia
theorem Jpc(ps:AG)(a:Ac)(c:Nat)(h:∀w∈a,w∈wsA)(m:Aq<=1000):runD defs (c+3) 17 [.tup Ej,.tup DL]=.ok (.bl (fit ps a&&(zbl ps a).all id)):=by
 have b:=JsU ps a c;have j:=JjB c [So D5,So Km] ps a h;have g:'ԯ'.length<=16777216:=by have:=JnF Ej DL;rw[Zi]at this;lia
 have l:op1 .all (.lst ((zbl ps a).map .bl))=.ok (.bl ((zbl ps a).all id)):=by simp[op1,JnU]
 cases f:fit ps a<;>rw[f]at b<;>simp[Jhv,Jbq,b,sN,lD,j,g,l]
def JgW(p:Part)(ps:AG)(h:p.isRest=Fo):JH (p::ps)=JH ps:=by
 cases ps with
 |nil=>simp[JH,h]
 |cons q b=>simp[JH,List.getLast?_cons_cons]
theorem JgJ:∀(ps:AG)(a:Ac),Ju ps->(lawM ps a).isSome=(fit ps a&&(zbl ps a).all id)
 |[],a,h=>by
  cases a with
  |nil=>rfl
  |cons w a=>
   have:¬((Yo:Int)+1=0):=by lia
   simp[lawM,fit,JH,this]
 |p::ps,a,h=>by
  cases b:p.isRest with
  |true=>
   have o:=h.1 b
   subst o
   have g:p.fits=λ_=>To:=by
    cases p<;>simp_all [Part.isRest];rfl
   cases a<;>simp[lawM,fit,JH,b,zbl,g]<;>lia
  |false=>
   cases a with
   |nil=>
    simp only[lawM,b,fit,JgW p ps b];cases l:JH ps with
    |true=>
     have:0<Aq:=by
      cases ps with
      |nil=>cases l
      |cons a t=>simp
     have m:¬((((p::ps).length:Nat):Int)-1<=((([]:List Str).length:Nat):Int)):=by simp only[Zk,rD];lia
     rw[if_pos rfl,Zs m];rfl
    |false=>simp;lia
   |cons w a=>
    have j:=JgJ ps a h.2;have f:fit (p::ps) (w::a)=fit ps a:=by
     simp only[fit,JgW p ps b,Zk];cases JH ps
     ·rw[Bool.eq_iff_iff];simp<;>lia
     ·rw[Bool.eq_iff_iff];simp;lia
    simp only[lawM,b,zbl,f];cases p.fits w
    ·simp
    ·simp[j]
def hole(p:Part)(c:Nat):runD defs A6 8 [p.d]=.ok (.bl (!p.isWord)):=by cases p<;>simp[JnS,Jef,Part.d,Part.isWord]
structure Row where
 l:Str
 ps:List Part
variable{B t rs:Ap}{r:Row}
def Row.pd (r:Row):D:=.tup QdW
noncomputable def Row.d (r:Row):D:=.tup Qec
structure Row.Ok(M:Nat)(r:Row):Prop where
 ok:∀p∈r.ps,p.ok
 rl:Ju r.ps
 len:r.ps.length<=M+1
 srt:∀p∈r.ps,p.srt
 hol:(jA r.ps).Sublist names5
 fix:(∀p∈r.ps,X4=Fo)->Y4<=M
noncomputable def labs:List Str:=[S "t",S "p",S "v",S "q",S "u",S "s"]
noncomputable def lab (k:Nat):Str:=labs.getD k (S "")
theorem JwW(k:Nat)(h:k<6):atD Ud (k:Int)=So (.str (lab k)):=by
 match k,h with
 |0,_=>rfl
 |1,_=>rfl
 |2,_=>rfl
 |3,_=>rfl
 |4,_=>rfl
 |5,_=>rfl
 |n+6,h=>lia
theorem JmD(m:Nat)(h:m<=6):'Ʀ'.map lab=labs.take m:=by
 match m,h with
 |0,_=>rfl
 |1,_=>rfl
 |2,_=>rfl
 |3,_=>rfl
 |4,_=>rfl
 |5,_=>rfl
 |6,_=>rfl
 |n+7,h=>lia
theorem table(ns:AU)(at_:Int)(G:0<=at_)(M:Nat)(u:M<=4)(R:Nat)(H:R<=6):∃rows:List Row,(∀r∈rows,r.Ok M)/\rows.map XR=labs.take BN/\rows.length<=R/\∀c,runD defs (c+5) 46 [ofN ns,.int at_,.int M,.int R]=.ok ER:=by
 obtain⟨m,h,C⟩:=pick ns at_ ((R:Int)+1) G Af;have h:m<=R:=by lia
 have j:∀k:Nat,∃r:Row,r.Ok M/\r.l=lab k/\∀c,runD defs (c+4) 45 [ofN ns,.int (at_+1+30*k),.int M]=.ok r.pd:=by intro k;obtain⟨y,E,F,v,A,w,q,x⟩:=patS ns (at_+1+30*k) Af M u;exact⟨⟨lab k,y⟩,⟨E,F,v,A,w,q⟩,rfl,x⟩
 obtain⟨f,b⟩:=pP.mp j;have g:smallI 30=To:=by decide
 refine⟨'Ʀ'.map f,?_,?_,?_,λc=>?_⟩
 ·intro r o;rw[Zv]at o;obtain⟨k,_,rfl⟩:=o;exact(b k).1
 ·rw[Zt,Zi,wH,<-JmD m 'g'];exact rG λk _=>(b k).2.1
 ·simpa using h
 ·have z:=rS Ea [So Cq,So CS,So (.int M),So (.int R),So (.lst Ud),So (.int m)] CB
   'қ' m Ad Af (λk=>(f k).d) (by
    intro k j;have n2:=(b k).2.2 c;have n1:=JwW k Af;refine uA _ _ (J:=[.str (f k).l,(f k).pd]) ?_ Ad;rw[(b k).2.1];simp[n1,n2,g])
  have s:=C Bo;rw[Jjf,JbQ];rw[uD _ _ (d:=.lst Ud) _ rfl,uD _ _ (d:=.int m) _ (by simp[s]),JJ];rw[Zt];exact JE _ _ z rfl
def hit (a:Ac) (r:Row):Bool:=(lawM r.ps a).isSome
noncomputable def labD:Option Row->D
 |none=>.non
 |some r=>.str r.l
def row0(r:Row)(O:Fm)(U:Ag)(i:Nat)(h:O[i]? =So (So r.d)):evD U SG O=.ok (.str r.l):=by simp[h,Row.d]
def row1(r:Row)(O:Fm)(U:Ag)(i:Nat)(h:O[i]? =So (So r.d)):evD U Oo O=.ok r.pd:=by simp[h,Row.d]
structure Row.Fine(r:Row):Prop where
 rl:Ju r.ps
 len:r.ps.length<=1000
def all_rows(rows:Ap)(h:∀r∈rows,aJ)(g:BN<=1000)(a:Ac)(j:∀w∈a,w∈wsA)(c:Nat):runD defs (c+4) 18 SR=.ok (.lst ((rows.filter Eu).map λr=>.str r.l)):=by
 rw[Jlo,JcP,JJ];refine eL _ _ XJ Eu (λr=>.str r.l) ?_ g λr b=>⟨?_,λ_=>row0 r _ _ 0 rfl⟩
 ·simp[D.walk]
 ·have f:=Jpc r.ps a c j (h r b).len;rw[<-JgJ r.ps a (h r b).rl]at f;refine oA _ _ ?_;simp[Row.d,Row.pd,f,hit]
theorem first(rows:Ap)(h:∀r∈rows,aJ)(f:BN<=1000)(a:Ac)(g:∀w∈a,w∈wsA)(c:Nat):runD defs (c+5) 19 SR=.ok (labD (rows.find? Eu)):=by
 have b:=all_rows rows h f a g c;rw[<-List.head?_filter];generalize rows.filter Eu=fs at b;cases fs with
 |nil=>simp[JnW,zR,b,labD]
 |cons r fs=>
  have:(0:Int)<(aO:Int)+1:=by lia
  simp[JnW,zR,b,labD,this]
def Jsl(x y:Str):op2 .eq D2 YW=.ok (.bl (x==y)):=by rw[o_eq _ _ (by simp[D.dep]) (by simp[D.dep])];rfl
noncomputable def nm9:List Str:=Xs
noncomputable def lb9:List Str:=[S "t",S "p",S "v",S "ot",S "op",S "ov"]
def names9:List Str:=names5++nm9++lb9
def words9:List Str:=ws9++names5
def is_word(w:Str)(h:w∈words9)(c:Nat):runD defs Bo 1 cC=.ok CW:=by simp only[words9,ws9,names5,rB,kJ,Zf,Zy,fA]at h;rcases h with rfl|rfl|rfl|rfl|rfl|rfl|rfl|rfl|rfl|rfl|rfl|rfl|rfl|rfl<;>rfl
def is_name(w:Str)(h:w∈names9)(c:Nat):runD defs Bo 2 cC=.ok CW:=by simp only[names9,nm9,lb9,names5,rB,kJ,Zf,Zy,fA]at h;rcases h with rfl|rfl|rfl|rfl|rfl|rfl|rfl|rfl|rfl|rfl|rfl|rfl|rfl<;>rfl
def Part.vp:Part->Prop
 |.word x=>x∈words9
 |.one n b=>n∈names9/\(∀w∈b,w∈words9)/\b≠[]/\b.length<=4/\b.Pairwise LtS
 |.any n=>n∈names9
 |.number n=>n∈names9
 |.rest n=>n∈names9
def iJ(J:Ak)(lo hi:Int)(c:Nat):runD defs A6 3 [.tup J,.int lo,.int hi]=.ok (.bl (decide (lo<=(Ae:Int))&&decide ((Ae:Int)<=hi))):=by rw[Jfv,JaY,JJ];exact jH _ _ (p:=To) rfl λ_=>jH _ _ ON λ_=>Jj _ _ rfl rfl rfl
def are_words(ws:Ac)(h:∀w∈ws,w∈words9)(b:AY<=1000)(c:Nat):runD defs (c+3) 4 [.tup HJ]=.ok CW:=by rw[JiN,JbX,JJ];have:=zC Dz QcB (src:=.walk Ao) (e:=.call 1 DV) XO (λ_=>D.bl To) rfl b λw f=>Jl _ _ rfl (is_word w (h w f) c);refine JE _ _ this ?_;have:=gJ (λ_:Str=>To) ws;simp[op1,this]
theorem Jmy:∀a b:List Str,zipD DL (b.map .str)=(a.zip b).map λp=>.tup [.str p.1,.str p.2]
 |[],b=>by simp[zipD]
 |x::a,[]=>by simp[zipD]
 |x::a,y::b=>by simp[zipD,Jmy a b]
theorem JjW:∀f:List Str,f.Pairwise LtS->∀p∈f.zip (f.drop 1),LtS p.1 p.2
 |[],_,p,b=>by simp at b
 |[x],_,p,b=>by simp at b
 |x::y::f,h,p,b=>by
  simp only[List.drop_succ_cons,List.drop_zero,rF,Zf]at b
  rw[qG]at h
  rcases b with rfl|b
  ·exact h.1 y Ad
  ·exact JjW (y::f) h.2 p (by simpa using b)
theorem Jwv(ws:Ac)(h:∀w∈ws,w∈words9)(f:ws≠[])(u:AY<=4)(hs:ws.Pairwise LtS)(c:Nat):runD defs (c+4) 6 [.tup HJ]=.ok CW:=by
 have b:=iJ HJ 1 4 Bo;have o:=are_words ws h Af c;have g:1<=AY:=by
  cases ws with
  |nil=>exact absurd rfl f
  |cons a t=>simp
 have j:(decide ((1:Int)<=('ɇ'.length:Int))&&decide (('ɇ'.length:Int)<=4))=To:=by rw[Zi,Zc,Zw,Zw];lia
 rw[j]at b;have m:evD Bi VH QcB=.ok C4:=
  tG _ _ (p:=Fo) (q:=Fo) (JR _ _ Lg) λ_=>JR _ _ (oA _ _ (Jl _ _ rfl o))
 rw[Jcc,JX,fD _ _ _ _ m,if_neg 'y',JJ];have s:evD Bi Os QcB=.ok (.lst ('产'.map λp=>.tup [.str p.1,.str p.2])):=by
  refine Jj _ _ (x:=.tup HJ) (y:=.tup ((ws.drop 1).map .str)) rfl ?_ (by rw[Jvt,Jmy]);cases ws with
  |nil=>exact absurd rfl f
  |cons w t=>simp[cut1,op1]
 have:=JfN Bi QcB (e:=.bi .lt Ao A1) (λp:Str×Str=>.str p.1) (λp=>.str p.2) (λp=>.bl (ltS p.1 p.2)) s BR λp _=>rfl;refine JE _ _ this ?_;rw[show(λp:Str×Str=>D.bl (ltS p.1 p.2))=λp=>D.bl ((λp:Str×Str=>ltS p.1 p.2) p)from rfl];have l:=gJ (λp:Str×Str=>ltS p.1 p.2) '产';simp only[op1,l];congr 2;rw[sL,uB];intro p g;have:=JjW ws hs p g;simp only[pC,id,ltS,Zw];exact this
def is_part(p:Part)(h:p.vp)(c:Nat):runD defs (c+5) 7 [p.d]=.ok CW:=by
 have kind:∀(k:Str)(n:Str),(k=S "any"\/k=S "number"\/k=S "rest")->n∈names9->runD defs (c+5) 7 [.tup Qed]=.ok CW:=λk n g l=>by have f:=is_name n l Bo;have b:=iJ Qed 2 3 (c+3);rw[JdQ,oO];rcases g with rfl|rfl|rfl<;>exact(jO _ _ (JR _ _ (p:=To) Lg)).trans ('ɴ'.trans ('ɴ'.trans ('ɴ'.trans ((JJ _ _ _).trans (jH _ _ (p:=To) (q:=To) rfl λ_=>Jl _ _ rfl f)))))
 cases p with
 |word x=>have f:=is_word x h Bo;have b:=iJ Pv 2 3 (c+3);rw[JdQ,oO];exact(jO _ _ (JR _ _ (p:=To) Lg)).trans ('ɴ'.trans ('ɴ'.trans (qR _ _ (B:=.skip) rfl (pR _ _ Qcp))))
 |one n ws=>have f:=is_name n h.1 Bo;have b:=iJ Qh 2 3 (c+3);have j:=Jwv ws h.2.1 h.2.2.1 h.2.2.2.1 h.2.2.2.2 c;rw[JdQ,oO];exact(jO _ _ (JR _ _ (p:=To) Lg)).trans (qR _ _ (B:=.skip) rfl (pR _ _ (jH _ _ (p:=To) (q:=To) rfl λ_=>jH _ _ (p:=To) (q:=To) Qcp λ_=>Jl _ _ rfl j)))
 |any n=>exact kind _ n Be h
 |number n=>exact kind _ n (.inr Be) h
 |rest n=>exact kind _ n (.inr cS) h
def has_twice(xs:Ac)(h:Ah<60)(c:Nat):runD defs A6 5 [.lst (xs.map .str)]=.ok (.bl (yD xs)):=by rw[Jit,JbW,JJ];refine Jj _ _ (x:=.int (Jn xs).length) (y:=.int Ah) (JE _ _ rfl (by simp[op1,JV,h])) (JE _ _ rfl (by simp[op1])) ?_;simp[op2,yD]
theorem JjY:∀b:List Part,(b.filter λp=>!p.isWord).map (λp=>D.str aI)=(jA b).map .str
 |[]=>rfl
 |p::b=>by
  have f:=JjY b
  unfold jA at f⊢
  rw[iG,ZW,<-f]
  unfold Part.hole
  cases g:p.isWord<;>simp[mF,g]
def Jyb(p:Part)(O:Fm)(U:Ag)(i:Nat)(h:O[i]? =So bF):evD U Oo O=.ok (.str aI):=by cases p<;>simp[h,Part.d,Part.name]
def hole_names(ps:AG)(b:Aq<=1000)(c:Nat):runD defs Bo 9 IR=.ok (.lst ((jA ps).map .str)):=by rw[Jia,Jbv,JJ,<-JjY];exact eL _ _ Ya (λp=>!p.isWord) (λp=>.str aI) rfl b λp f=>⟨oA _ _ (Jl _ _ rfl (hole p c)),λ_=>Jyb p _ _ 0 rfl⟩
def patB (ps:AG):Bool:=decide (Aq<=6)&&!(ps.dropLast.any XY)&&!(yD (jA ps))
def Jnd(p:Part)(O:Fm)(U:Ag)(i:Nat)(h:O[i]? =So bF):evD U (.bi .eq SG Qn) O=.ok (.bl X4):=by cases p<;>simp[h,Part.d,Part.isRest,Jsl]
theorem JjN(xs:List α):cutD xs No (So (-1))=xs.dropLast:=by
 have b:(-1+(Ah:Int)).toNat=Ah-1:=by lia
 simp[cutD,six,b,List.dropLast_eq_take]
theorem JgK:∀ps:List Part,(jA ps).length<=Aq
 |[]=>by simp[jA]
 |p::ps=>by
  have:=JgK ps
  have b:p.hole.length<=1:=by
   unfold Part.hole;split<;>simp
  have e:jA (p::ps)=p.hole++jA ps:=by simp[jA]
  rw[e,Zn,Zk];lia
theorem is_pattern(ps:AG)(h:∀p∈ps,p.vp)(s:Aq<60)(c:Nat):runD defs (c+6) 10 IR=.ok (.bl (patB ps)):=by
 have b:=iJ Ej 0 6 (c+4);rw[show(decide ((0:Int)<=('Ȳ'.length:Int))&&decide (('Ȳ'.length:Int)<=6))=decide (Aq<=6)from by
  rw[Zi,Zx 'g',lG];exact oF.mpr Af]at b
 have l:evD Co Wc [So D5]=.ok CW:=by refine JE _ _ (zC _ _ Ya (λ_=>D.bl To) rfl Af λp f=>Jl _ _ rfl (is_part p (h p f) c)) ?_;have:=gJ (λ_:Part=>To) ps;simp[op1,this]
 have g:evD Co WE [So D5]=.ok (.bl (ps.dropLast.any XY)):=by
  have j:evD Co (.walk TC) [So D5]=.ok (.lst (ps.dropLast.map Ya)):=by have:=JjN Ej;simp[op1,this,D.walk,List.map_dropLast]
  refine JE _ _ (zC _ _ Ya (λp=>D.bl X4) j BR λp f=>Jnd p _ _ 0 rfl) ?_;have:=gJ XY ps.dropLast;simp only[op1,this,rL,pC];rfl
 have m:=hole_names ps Af (c+3);have o:=has_twice (jA ps) (by have:=JgK ps;lia) (c+4);rw[JgC,Jbh];rw[fD _ _ _ _ (tG _ _ (p:=!decide (Aq<=6)) (q:=Fo) (JR _ _ Lg) λ_=>JR _ _ (oA _ _ l))];rw[fD _ _ _ _ (oA _ _ g),JJ,JR _ _ (Jl _ _ (Jl _ _ rfl m) o)];unfold patB;cases decide (Aq<=6)<;>cases ps.dropLast.any XY<;>simp
def is_row(r:Row)(f:r.l∈names9)(h:∀p∈r.ps,p.vp)(g:r.ps.length<60)(c:Nat):runD defs (c+7) 11 [r.d]=.ok (.bl (patB r.ps)):=by have l:=iJ Qec 2 2 (c+5);have j:=is_name r.l f (c+4);have b:=is_pattern r.ps h g c;rw[Jpn,JfH,JJ];show _=Rs.ok (D.bl (To&&(To&&patB r.ps)));exact jH _ _ (Jk _ _ rfl l) λ_=>jH _ _ (Jl _ _ K8 j) λ_=>Jl _ _ K7 b
def tabB (rows:Ap):Bool:=decide (BN<=8)&&rows.all (λr=>patB r.ps)&&!yD 'Ӷ'
def is_table(rows:Ap)(o:∀r∈rows,r.l∈names9)(h:∀r∈rows,∀p∈r.ps,p.vp)(s:∀r∈rows,Y4<60)(m:BN<60)(c:Nat):runD defs (c+8) 12 [.tup Eh]=.ok (.bl (tabB rows)):=by
 have f:=iJ Eh 0 8 (c+6);rw[show(decide ((0:Int)<=((rows.map XJ).length:Int))&&decide (((rows.map XJ).length:Int)<=8))=decide (BN<=8)from by
  rw[Zi,Zx 'g',lG];exact oF.mpr Af]at f
 have l:evD D9 We [So ER]=.ok (.bl (rows.all λr=>patB r.ps)):=by refine JE _ _ (zC _ _ XJ (λr=>D.bl (patB r.ps)) rfl Af λr b=>Jl _ _ rfl (is_row r (o r b) (h r b) (s r b) c)) ?_;have:=gJ (λr:Row=>patB r.ps) rows;simp[op1,this,sL,pC]
 have j:evD D9 T4 [So ER]=.ok (.lst ('Ӷ'.map .str)):=by rw[Zt];exact zC _ _ XJ R6 rfl Af λr _=>row0 r _ _ 0 rfl
 have g:=has_twice 'Ӷ' (by simpa using m) (c+6);rw[JkX,JcQ];rw[fD _ _ _ _ (tG _ _ (p:=!decide (BN<=8)) (q:=!(rows.all λr=>patB r.ps)) (JR _ _ (oA _ _ (Jk _ _ rfl f))) λ_=>JR _ _ (oA _ _ l))];rw[JJ,JR _ _ (Jl _ _ j g)];unfold tabB;cases decide (BN<=8)<;>cases rows.all (λr=>patB r.ps)<;>simp
def ok_vp(p:Part)(h1:p.ok)(h:p.srt)(f:p.isWord=Fo->p.name∈names5):p.vp:=by
 have b:∀n∈names5,n∈names9:=by decide+kernel
 have g:∀n∈ws9,n∈words9:=by decide+kernel
 cases p with
 |word x=>exact g x h1
 |one n l=>exact⟨b n Qau,λw j=>g w (h1.1 w j),h1.2,Zq h.2 AB,h.1.1⟩
 |any n=>exact b n Qau
 |number n=>exact b n Qau
 |rest n=>exact b n Qau
def Jnv(ps:AG)(p:Part)(f:p∈ps)(b:p.isWord=Fo):p.name∈jA ps:=by unfold jA;rw[List.mem_flatMap];exact⟨p,f,by simp[Part.hole,b]⟩
def Row.Ok.vp{M:Nat}(h:r.Ok M):∀p∈r.ps,p.vp:=λp b=>ok_vp p (h.ok p b) (h.srt p b) λf=>h.hol.subset (Jnv r.ps p b f)
theorem JaX:∀b:List Part,Ju b->b.dropLast.any XY=Fo
 |[],_=>rfl
 |[p],_=>rfl
 |p::q::b,h=>by
  rw[List.dropLast_cons₂,pD]
  have f:Ju (q::b)/\p.isRest=Fo:=by
   refine⟨h.2,?_⟩;cases g:p.isRest with
   |false=>rfl
   |true=>exact absurd (h.1 g) Ad
  rw[f.2,JaX (q::b) f.1];rfl
def names5_nodup:names5.Nodup:=by decide+kernel
def Row.Ok.pat{M:Nat}(h:r.Ok M)(g:M<=5):patB r.ps=To:=by have j:=aB;have f:=JaX r.ps h.rl;have b:=qO Us;unfold patB;rw[f,b,Zx 'g'];rfl
def kU(U:Ag)(O:Fm){p:Bool}(x:Str)(rest:Sx)(b:evD U c O=.ok Cr):Jf (exD U (.seq (.ite c (.raise x .nil) .skip) rest) O)=if p then .ex x else Jf Q9:=by
 rw[yA,xM,b];cases p with
 |true=>simp[fK]
 |false=>simp
noncomputable def mntR (hs:AG) (r:Row):Row:=⟨r.l,hs++r.ps⟩
def mounted(hs:AG)(l:∀p∈hs,p.vp)(q:hs.length<=20)(rows:Ap)(h:∀r∈rows,∀p∈r.ps,p.vp)(j:∀r∈rows,Y4<=20)(f:BN<=1000)(c:Nat):
  runD defs (c+7) 20 [.tup Ls,.tup Eh]=if rows.all (λr=>patB (hs++r.ps))then .ok (.tup ('Ϯ'.map XJ))else .ex KI:=by
 have o:=zC (runD defs (c+6)) [So DB,So ER,No] (src:=.walk A1) (e:=.tup Wb) XJ (λr=>'ԝ'.d) rfl f λr b=>by have:=j r b;refine uA _ _ (J:=[.str r.l,'ԝ'.pd]) (Jg _ _ K8 (Jg _ _ (Jj _ _ (x:=.tup Ls) rfl K7 ?_) rfl)) Ad;unfold Row.pd mntR;rw[yY 'Â',ZW]
 rw[Joq,Jel,uD _ _ (d:=.tup ('Ϯ'.map XJ)) _ (JE _ _ o (by rw[Zt];rfl))];simp only[List.set];have m:evD (runD defs (c+6)) Wv [So DB,So ER,So (.tup ('Ϯ'.map XJ))]=.ok (.bl (rows.all λr=>patB (hs++r.ps))):=by
  refine JE _ _ (zC _ _ (rs:=rows) (λr=>'ԝ'.d) (λr=>D.bl (patB (hs++r.ps))) (by simp[D.walk,Zt,pC]) f λr b=>?_) ?_
  ·have:=j r b;refine Jl _ _ (row1 'ԝ' _ _ 0 rfl) (is_pattern (hs++r.ps) ?_ BR c);intro p g;rw[ZK]at g;exact g.elim (l p) (h r b p)
  ·have:=gJ (λr:Row=>patB (hs++r.ps)) rows;simp only[op1,this,sL,pC];rfl
 rw[kU _ _ _ _ (JR _ _ (oA _ _ m)),JJ];cases rows.all λr=>patB (hs++r.ps)<;>rfl
def joined(b f:Ap)(h:b.length+f.length<60)(c:Nat):runD defs Bo 21 [.tup (b.map XJ),.tup (f.map XJ)]=if decide ((b++f).length<=8)&&!yD ((b++f).map XR)then .ok (.tup ((b++f).map XJ))else .ex KI:=by
 have o:op2 .add (.tup (b.map XJ)) (.tup (f.map XJ))=.ok (.tup ((b++f).map XJ)):=by rw[yY 'Â',ZW]
 rw[Jqx,Jgd,uD _ _ (d:=.tup ((b++f).map XJ)) _ 'Ҍ'];simp only[List.set];have g:(b++f).length<60:=by simpa using h
 generalize b++f=rs at g;have m:evD FZ UA WI=.ok (.bl (!decide (F1<=8))):=by
  refine Jj _ _ (x:=.int F1) (y:=.int 8) (JE _ _ rfl (by simp[op1])) rfl ?_;simp only[op2,onII];congr 2;by_cases q:F1<=8
  ·rw[Zx q,Zs 'g'];rfl
  ·rw[Zs q,Zx 'g'];rfl
 have j:evD FZ Uz WI=.ok (.lst ((rs.map XR).map .str)):=by rw[Zt];exact zC _ _ XJ R6 rfl Af λr _=>row0 r _ _ 0 rfl
 have l:=has_twice (rs.map XR) (by simpa using g) c;rw[kU _ _ _ _ m,kU _ _ _ _ (oA _ _ (Jl _ _ j l)),JJ];cases decide (F1<=8)<;>cases yD (rs.map XR)<;>rfl
noncomputable abbrev Kn:=List (Str×List Row)
variable{A:Kn}
noncomputable def tD (rows:Ap):D:=.tup Eh
noncomputable def ksD (A:Kn):List D:=A.map λp=>.str p.1
def vsD (A:Kn):List D:=A.map λp=>tD p.2
noncomputable def look (n:Str):Kn->Option IV
 |[]=>No
 |p::A=>if p.1==n then So p.2 else look n A
theorem JrR(n:Str):∀A:Kn,gA BS K1 D1='ŉ'.map tD
 |[]=>rfl
 |p::A=>by
  have b:=JrR n A
  unfold ksD vsD at b⊢
  simp only[Zg,gA,iX,look,b]
  split<;>rfl
theorem vQ(n:Str):∀A:Kn,'ȗ'.any (λa=>a.eqv BS)='ŉ'.isSome
 |[]=>rfl
 |p::A=>by
  have b:=vQ n A
  unfold ksD at b⊢
  simp only[Zg,pD,iX,look,b]
  cases p.1==n<;>rfl
def put (n:Str) (t:Ap) (A:Kn):Kn:=if(look n A).isSome then A.map (λp=>(p.1,if p.1==n then t else p.2))else A++[(n,t)]
theorem JwY(n:Str)(t:Ap):∀A:Kn,setD BS (tD t) K1 D1=A.map λp=>tD (if p.1==n then t else p.2)
 |[]=>rfl
 |p::A=>by
  have b:=JwY n t A
  unfold ksD vsD at b⊢
  simp only[Zg,setD,iX,b]
  by_cases q:(p.1==n)=To<;>simp[q]
def put_D(n:Str)(t:Ap)(A:Kn):putD BS (tD t) K1 D1=(ksD GV,vsD GV):=by
 unfold putD put;rw[vQ];cases look n A with
 |none=>simp[ksD,vsD]
 |some x=>simp only[fP,if_true,JwY];simp[ksD,vsD,Zt,pC]
theorem look_put (n m : Str) (t : List Row) : ∀ A : Kn, look m (put n t A) = if n == m then some t else look m A := by
  have h1 : ∀ A : Kn, look m (A ++ [(n, t)]) = match look m A with | some x => some x | none => if n == m then some t else none := fun A => by
    induction A with
    | nil => simp [look]
    | cons p A ih =>
      simp only [List.cons_append, look, ih]
      split <;> rfl
  have h2 : ∀ A : Kn, look m (A.map fun p => (p.1, if p.1 == n then t else p.2)) = (look m A).map fun x => if n == m then t else x := fun A => by
    induction A with
    | nil => rfl
    | cons p A ih =>
      simp only [List.map_cons, look, ih]
      cases z : p.1 == m with
      | false => rfl
      | true =>
        show some (if p.1 == n then t else p.2) = some (if n == m then t else p.2)
        rw [eq_of_beq z, BEq.comm (a := m)]
  intro A
  unfold put
  split
  · rename_i h
    rw [h2]
    cases z : n == m with
    | false => cases look m A <;> rfl
    | true =>
      have e := eq_of_beq z
      subst e
      obtain ⟨x, hx⟩ := Option.isSome_iff_exists.mp h
      rw [hx]; rfl
  · rename_i hn
    rw [h1]
    by_cases q : n = m
    · subst q
      cases z : look n A with
      | none => rfl
      | some x => rw [z] at hn; exact absurd rfl hn
    · have e : (n == m) = false := by rw [beq_eq_false_iff_ne]; exact q
      rw [e]
      cases look m A <;> rfl
noncomputable def kys (A:Kn):List Str:=A.map (·.1)
theorem look_mem(n:Str):∀A:Kn,'ŉ'.isSome=To↔n∈kys A
 |[]=>by simp[look,kys]
 |p::A=>by
  have b:=look_mem n A
  unfold kys at b⊢
  simp only[look,Zg,Zf]
  by_cases q:p.1=n
  ·simp[q]
  ·have e:(p.1==n)=Fo:=by rw[ZA];exact q
   rw[e]
   simp only[Zl,ZF,b]
   constructor
   ·exact .inr
   ·rintro(z|z)
    ·exact absurd z.symm q
    ·exact z
theorem JoF{n:Str}:∀{A:Kn},look n A=So t->(n,t)∈A
 |[],h=>by cases h
 |p::A,h=>by
  simp only[look]at h
  split at h
  ·rename_i q;cases h;rw[<-zE q];simp
  ·exact Zm _ (JoF h)
structure TabOk(t:Ap):Prop where
 lb:∀r∈t,r.l∈names9
 vp:∀r∈t,∀p∈r.ps,p.vp
 pt:∀r∈t,patB r.ps=To
 ln:t.length<=8
 nt:yD (t.map XR)=Fo
structure KOk(A:Kn):Prop where
 nd:'Ռ'.Nodup
 nm:∀n∈kys A,n∈nm9
 tb:∀n t,look n A=So t->TabOk t
theorem JuO(r:Row):r.d.dep<=4:=by have:=JlQ r.ps;simp only[Row.d,Row.pd,D.dep,deps];lia
theorem JiF(t:Ap):(tD t).dep<=5:=by
 simp only[tD,D.dep];have:deps (t.map XJ)<=4:=zS λd b=>by rw[Zv]at b;obtain⟨r,_,rfl⟩:=b;exact JuO r
 lia
def Jtm(p:Part):Ji p.d=To:=by
 have:∀b:List Str,Ja (b.map XO)=To:=λb=>by
  induction b with
  |nil=>rfl
  |cons w b f=>simpa[Ja,Ji]using f
 cases p<;>simp[Part.d,Ji,Ja,this]
theorem JfO:∀ps:List Part,Ja Ej=To
 |[]=>rfl
 |p::ps=>by simp[Ja,Jtm p,JfO ps]
theorem Joi:∀t:List Row,Ja KG=To
 |[]=>rfl
 |r::t=>by simp[Ja,Row.d,Row.pd,Ji,JfO r.ps,Joi t]
def JS(t:Ap):Ji (tD t)=To:=by simp[tD,Ji,Joi]
theorem gN:∀A:Kn,Ja D1=To
 |[]=>rfl
 |p::A=>by
  have b:=gN A
  unfold vsD at b⊢
  simp[Ja,JS,b]
theorem Jmq:∀t:List Row,imms KG=To
 |[]=>rfl
 |r::t=>by simp[imms,Row.d,Row.pd,D.imm,sU r.ps,Jmq t]
def Jwf(t:Ap):(tD t).imm=To:=by simp[tD,D.imm,Jmq]
def JsG(A:Kn):JM K1=So Cp:=by have:=JV Cp;simpa[kys,ksD,Zt,pC]using this
theorem Jxo(z:Bool)(A:Kn)(h:'Ռ'.Nodup)(b:A.length<60):op1 .sortD J8=.ok (.lst ('Ş'.map .str)):=by
 have e:'Ռ'.length=A.length:=by simp[kys]
 simp only[op1,JsG];rw[if_pos ⟨h,by lia⟩]
def Jul{B:Kn}(h:∀m,look m A=look m B):Jn Cp=Jn (kys B):=
 JdR _ _ (JI _) (JI _) λk=>by rw[Jy,Jy,<-look_mem,<-look_mem,h]
def in_D(z:Bool)(n:Str)(A:Kn):op2 QaJ BS J8=.ok (.bl 'ŉ'.isSome):=by rw[<-vQ];show(if Fo=Fo/\keyD Fo BS=To then Rs.ok (D.bl _)else Rs.sk)=_;exact if_pos Cw
def ni_D(z:Bool)(n:Str)(A:Kn):op2 (.dNi Fo) BS J8=.ok (.bl (!(look n A).isSome)):=by rw[<-vQ];show(if Fo=Fo/\keyD Fo BS=To then Rs.ok (D.bl _)else Rs.sk)=_;exact if_pos Cw
def oW(z:Bool){n:Str}(h:look n A=So t):op2 Eg J8 BS=.ok (tD t):=by show(if Fo=Fo/\keyD Fo BS=To then Rs.ofOpt _ else Rs.sk)=_;rw[if_pos 'Ĩ',JrR,h];rfl
section
variable{w:Bool}{U:Ag}{bc:AI}{s:Bs}{env1:Fm}{r:Bool}{f:Nat}{ns:Ac}{p:Px}{fs:Ak}{J:Ak}{d st:D}{c:Str}
def qE{b:Bs}(h:exO w U bc s O=.ok .nx env1):exO w U bc (.seq s b) O=exO w U bc b env1:=by simp only[exO,h,Rq.bind]
def yX{b:Bs}(h:exO w U bc s O=.ex c env1):exO w U bc (.seq s b) O=.ex c env1:=by simp only[exO,h,Rq.bind]
def yW(h:evD U p O=.ok d)(b:Ji d=To):exO w U bc (.set i Y0) O=.ok .nx E9:=by simp only[exO,evB,h,Rx.of,Rx.next,b,if_true]
def vX(h:evD U p O=.ex c):exO w U bc (.set i Y0) O=.ex c O:=by simp only[exO,evB,h,Rx.of,Rx.next]
def gX{x y:Bs}{b:Bool}(h:evD U p O=.ok YR):exO w U bc (.ite Y0 x y) O=if b then exO w U bc x O else exO w U bc y O:=by simp only[exO,evB,h,Rx.of,Rx.next];cases b<;>rfl
def xX(h1:O[i]? =So (So CD))(h:evD U p O=.ok Bc)(g:(plE (O.set i No)&&Ja J)=To)(b:bc f CD J=.ok d st):evB U bc NS O=.ok d Qam:=by simp only[evB,h1,h,g,if_true,b,Rx.lay]
def gK(h1:O[i]? =So (So CD))(h:evD U p O=.ok Bc)(g:(plE (O.set i No)&&Ja J)=To)(b:bc f CD J=.ok d st):exO w U bc (.eff NS) O=.ok .nx Qam:=by simp only[exO,xX h1 h g b,Rx.next]
def a_nx{q:Rq}(h:q=.ok .nx (So Hj::e)):ansB CD q=.ok .non Hj:=by simp[h,ansB,wC]
def a_rt{q:Rq}(h:q=.ok YT (So Hj::e)):ansB CD q=.ok d Hj:=by simp[h,ansB,wC]
def a_ex{q:Rq}(h:q=.ex c (So Hj::e)):ansB CD q=.ex c Hj:=by simp[h,ansB,wC]
end
def ob (a:Nat) (A:Kn) (dn un:Ak):D:=.obj a nsS Wg
structure Dn(dn un:Ak):Prop where
 pl:Ja dn=To
 ln:dn.length<1000
 pu:Ja un=To
theorem plains_app:∀f b:List D,Ja (f++b)=(Ja f&&Ja b)
 |[],b=>rfl
 |x::f,b=>by simp[Ja,plains_app f b,Bool.and_assoc]
section
variable{n:Str}{d:D}
def JtP(h:Fq)(b:plE O=To):chgM To B2 (appG B2 d) (So B9::O)=.ok .nx (So (ob a A (dn++[d]) un)::O):=by simp[chgM,ob,nsS,S,List.lookup,appG,h.pl,h.pu,h.ln,putN,othD,b,gN,Ja,Ji,Jo]
def JtM(h:Fq)(b:plE O=To):chgF Cv (.mls Cv []) (So B9::O)=.ok .nx (So Qcq::O):=by simp[chgF,ob,nsS,S,putN,vI,h.pl,h.pu,b,gN,Ja,Ji,Jo]
def Jtp(h:Fq)(f:A.length<1000)(g:plE O=To):chgM Fo (S "tables") (putG BS (tD t)) (So B9::O)=.ok .nx (So QbS::O):=by
 have b:'ȗ'.length<1000:=by simpa[ksD]using f
 simp[chgM,ob,nsS,S,List.lookup,putG,h.pl,h.pu,b,putN,othD,g,gN,Ja,Ji,put_D,Jo]
def mT(h:Fq)(f:A.length<1000)(c:Nat):runB defs bdefs A6 0 B9 [.str n,tD t]=.ok .non QbS:=by rw[JgT];refine a_nx (e:=Qb5) ?_;rw[nV,gX (b:=Fo) rfl,if_neg ZH];have:=Jtp (a:=a) (n:=n) (t:=t) h f (O:=Qb5) (by simp[plE,Ji,JS]);simp only[exO,evD,lF,kF];rw[show(Ji (tD t)&&keyD Fo BS)=To by rw[JS];rfl,if_pos rfl];exact this
def optT:Option (List Row)->D
 |none=>.non
 |some t=>tD t
def zX(o:Option IV):Ji (optT o)=To:=by
 cases o
 ·rfl
 ·exact JS _
def stp (w:Str) (n:Str) (o:Option IV) (x:D):D:=.tup [.str w,.str n,optT o,x]
theorem do_step{A':Kn}{x:D}{w:Str}(h:Fq)(o:dn.length+1<1000)(b:Ji x=To)(c:Nat)(hs:∀dn,Dn dn []->runB defs bdefs A6 0 Qcq [.str n,x]=.ok .non (ob a A' dn [])):
  runB defs bdefs Bo 1 B9 [.str w,.str n,x]=.ok .non (ob a A' J7 []):=by
 rw[Jls];have j:plE Lb=To:=by simp[plE,Ji,b]
 have g:∀un,Ja un=To->Dn J7 un:=λun m=>⟨by simp[plains_app,h.pl,Ja,stp,Ji,zX,b],by simp;lia,m⟩;refine a_nx (e:=Lb) ?_;rw[yU,qE (env1:=So (ob a A J7 un)::Lb),qE (env1:=So Qcr::Lb)]
 ·exact gK (O:=So Qcr::Lb) (i:=0) (J:=[.str n,x]) rfl rfl (by simp[plE,Ja,Ji,b]) (hs _ (g [] rfl))
 ·exact JtM (g un h.pu) j
 ·have l:evD FZ VF QG=.ok (stp w n Xu x):=by
   have f:evD FZ Ee QG=.ok S2:=rfl;refine uA _ _ (J:=[.str w,.str n,optT Xu,x]) (Jg _ _ rfl (Jg _ _ rfl (Jg _ _ ?_ rfl))) Ad;rw[e_if _ _ 'Օ'];cases q:look n A with
   |none=>rfl
   |some t=>exact Jj _ _ f rfl (oW Fo q)
  simp only[exO,l];rw[show Ji (stp w n Xu x)=To by simp[stp,Ji,Ja,zX,b],if_pos rfl];exact JtP h j
end
section
variable{n:Str}
def pK:op1 DP B9=.ok B9:=by simp[op1,ob]
def Jkf{n:Str}(h:n∈nm9):n∈names9:=by unfold names9;simp[h]
def table_of(f:n∈nm9)(c:Nat):runD defs (c+3) 49 SQ=match look n A with
  |some t=>.ok (tD t)
  |none=>.ex L3:=by
 have g:runD defs (c+3) 49 SQ=Jf (exD Dz mV [So B9,So BS]):=rfl;have b:evD Dz Ee [So B9,So BS]=.ok S2:=rfl;rw[g,mV,kU _ _ _ _ (tG _ _ (p:=Fo) (JR _ _ (oA _ _ (Jl _ _ rfl (is_name n (Jkf f) c)))) λ_=>Jj _ _ rfl b (ni_D Fo n A)),JJ];cases q:look n A with
 |none=>rfl
 |some t=>exact Jj _ _ b rfl (oW Fo q)
def m_put(h:Fq)(l:dn.length+1<1000)(j:A.length<1000)(g:n∈nm9)(c:Nat):runB defs bdefs (c+3) 2 B9 [.str n,tD t]=.ok (.bl 'ŉ'.isSome) (ob a GV (dn++[stp HA n Xu (tD t)]) []):=by
 rw[Jxz];have f:evD Dz Ee QF=.ok S2:=rfl;refine a_rt (e:=[So BS,So (tD t),So (.bl 'ŉ'.isSome)]) ?_;rw[sR,qE (env1:=QF)]
 ·rw[qE (yW 'Օ' rfl)];simp only[List.set];rw[qE (gK (O:=[So B9,So BS,So (tD t),So (.bl 'ŉ'.isSome)]) (i:=0) (J:=[.str HA,.str n,tD t]) rfl rfl (by simp[plE,Ja,Ji,JS]) (do_step h l (JS t) c λdn h=>mT h j c))];rfl
 ·rw[gX (b:=Fo) (JR _ _ (oA _ _ (Jl _ _ rfl (is_name n (Jkf g) c)))),if_neg ZH];rfl
def JrC(b:e[0]? =So (So B9))(hi:e[i]? =So (So BS))(f:n∈nm9)(c:Nat):evD Bi (.call 49 (.cons Q7 (.cons B3 .nil))) e=match look n A with
  |some t=>.ok (tD t)
  |none=>.ex L3:=
 Jk _ _ (J:=SQ) (Jg _ _ (JE _ _ (by rw[wD,b]) pK) (Jg _ _ (by rw[wD,hi]) rfl)) (table_of f c)
variable{o:Str}{hs:AG}
def mkT (hs:AG) (u:Ap):List Row:=u.map (mntR hs)
def okM (hs:AG) (t u:Ap):Bool:=u.all (λr=>patB (hs++r.ps))&&(decide ((t++mkT hs u).length<=8)&&!yD ((t++mkT hs u).map XR))
def JiY{ps:AG}(h:patB ps=To):Aq<=6:=by unfold patB at h;simp only[Zc,Zw]at h;exact h.1.1
theorem jm(j:∀p∈hs,p.vp)(w:hs.length<=6){u:Ap}(v:YG)(f:TabOk u)(c:Nat){x y z:Px}(h1:evD D9 x e=.ok (tD t))(s:evD D9 y e=.ok DB)(h:evD D9 z e=.ok (tD u)):
  evD D9 (.call 21 (.cons x (.cons Vg .nil))) e=if okM hs t u then .ok (tD Dy)else .ex KI:=by
 have g:=mounted hs j Af u f.vp (λr m=>Zq (JiY (f.pt r m)) AB) (Zq f.ln AB) c;have b:evD D9 Vg e=if u.all (λr=>patB (hs++r.ps))then .ok (tD c7)else .ex KI:=Jk _ _ (J:=[.tup Ls,tD u]) (Jg _ _ s (Jg _ _ h rfl)) g;unfold okM;cases q:u.all λr=>patB (hs++r.ps)with
 |false=>rw[q]at b;simp only[Zl,ZF]at b;rw[kR,tN,h1,Rs.bo,tN,b];rfl
 |true=>rw[q]at b;have l:=joined t c7 (by have:=v.ln;have:=f.ln;simp only[mkT,Zi];lia) (c+5);simp only[lG];exact Jk _ _ (J:=[tD t,tD c7]) (Jg _ _ h1 (Jg _ _ b rfl)) l
def m_mount(h:Fq)(H:dn.length+1<1000)(E:A.length<1000)(m:Yc)(v:n∈nm9)(F:o∈nm9)(C:∀p∈hs,p.vp)(s:hs.length<=6)(c:Nat):runB defs bdefs (c+8) 3 B9 [.str n,.tup Ls,.str o]=match look n A with
  |some t=>match look o A with
   |some u=>if okM hs t u then .ok Qav (ob a (put n Dy A) (dn++[stp CV n Xu Qav]) [])else .ex KI B9
   |none=>.ex L3 B9
  |none=>.ex L3 B9:=by
 rw[Jpv,yT];have g:=JrC (a:=a) (A:=A) (dn:=dn) (un:=un) (e:=[So B9,So BS,So DB,So bG,No,No]) (i:=1) rfl rfl v (c+4);cases q:look n A with
 |none=>rw[q]at g;exact a_ex (e:=[So BS,So DB,So bG,No,No]) (yX (vX g))
 |some t=>
  rw[q]at g;rw[qE (yW g (JS t))];simp only[List.set];have f:=JrC (a:=a) (A:=A) (dn:=dn) (un:=un) (e:=Nr) (i:=3) rfl rfl F (c+4);cases j:look o A with
  |none=>rw[j]at f;refine a_ex (e:=Vx) (yX (vX ?_));have b:evD D9 CY Nr=.ok (tD t):=rfl;have G:evD D9 BK Nr=.ok DB:=rfl;simp only[kR,tN,f,b,G,Rs.bo,Rs.bind_ex]
  |some u=>
   rw[j]at f;have b:=jm C s (m.tb n t q) (m.tb o u j) c (e:=Nr) (x:=.var 4) (y:=.var 2) rfl rfl f;cases z:okM hs t u with
   |false=>simp only[z,Zl,ZF]at b⊢;exact a_ex (e:=Vx) (yX (vX b))
   |true=>simp only[z,if_true]at b⊢;refine a_rt (e:=[So BS,So DB,So bG,So (tD t),So Qav]) ?_;rw[qE (yW b (JS _))];simp only[List.set];have l:=do_step (a:=a) (A:=A) (dn:=dn) (un:=un) (A':=put n Dy A) (n:=n) (w:=S "mount") (x:=tD Dy) h H (JS _) (c+5) λdn h=>mT h E (c+5);rw[q]at l;rw[qE (gK (O:=[So B9,So BS,So DB,So bG,So (tD t),So Qav]) (i:=0) (J:=[.str CV,.str n,tD Dy]) rfl rfl (by simp[plE,Ja,Ji,JS,JfO]) l)];rfl
end
def look_of{B:Kn}(h:(kys B).Nodup):∀p∈B,look p.1 B=So p.2:=by
 induction B with
 |nil=>intro p b;cases b
 |cons q B f=>
  intro p b;unfold kys at h f;rw[Zg,oB]at h;simp only[look];rcases Zf.mp b with rfl|b
  ·simp
  ·have:q.1≠p.1:=λz=>h.1 (z▸nD b);rw[show(q.1==p.1)=Fo from by rw[ZA];exact this];exact f h.2 p b
def srt (A:Kn):Kn:='Ş'.map λn=>(n,'ŉ'.getD [])
def JvP(h:'Ռ'.Nodup)(f:A.length<60)(c:Nat):runD defs A6 51 Ik=.ok (.lst ('Ş'.map .str)):=by have b:runD defs A6 51 Ik=Jf (exD Lm nT [So B9]):=rfl;rw[b,nT,JJ];exact JE _ _ (x:=.dct Fo Fo K1 D1) rfl (Jxo Fo A h f)
def vW(h:'Ռ'.Nodup)(b:A.length<60)(c:Nat)(hi:e[i]? =So (So B9)):evD FZ (.call 51 (.cons (.un DP B3) .nil)) e=.ok (.lst ('Ş'.map .str)):=
 Jl _ _ (JE _ _ (by rw[wD,hi]) pK) (JvP h b c)
def vS(A:Kn):kys Fl=Jn Cp:=by simp[kys,srt,Zt,pC]
def fO(A:Kn)(h:'Ռ'.Nodup):'Ş'.length=A.length:=by rw[JfJ _ h];simp[kys]
def uM{n:Str}(h:n∈Jn Cp):look n A=So ('ŉ'.getD []):=by
 rw[Jy,<-look_mem]at h;cases q:look n A with
 |none=>rw[q]at h;cases h
 |some t=>rfl
def Jtu{hs:AG}{u:Ap}(m:∀p∈hs,p.vp)(j:YG)(l:TabOk u)(h:okM hs t u=To):TabOk Dy:=by
 unfold okM at h;simp only[Zc,Zw,uB,ZV]at h;refine⟨λr b=>?_,λr b p f=>?_,λr b=>?_,h.2.1,h.2.2⟩
 ·rcases ZK.mp b with b|b
  ·exact j.lb r b
  ·unfold mkT at b;rw[Zv]at b;obtain⟨q,g,rfl⟩:=b;exact l.lb q g
 ·rcases ZK.mp b with b|b
  ·exact j.vp r b p f
  ·unfold mkT at b;rw[Zv]at b;obtain⟨q,g,rfl⟩:=b;rcases ZK.mp f with f|f
   ·exact m p f
   ·exact l.vp q g p f
 ·rcases ZK.mp b with b|b
  ·exact j.pt r b
  ·unfold mkT at b;rw[Zv]at b;obtain⟨q,g,rfl⟩:=b;exact h.1 q g
def JnL(c:Nat)(l:As):Jv c l≠[]:=by
 cases l with
 |nil=>simp[Jv]
 |cons x l=>
  unfold Jv;split
  ·simp
  ·cases Jv c l<;>simp[yQ]
theorem Jem(c:Nat):∀l:List Nat,Jr [c] (Jv c l)=l
 |[]=>rfl
 |x::l=>by
  have b:=Jem c l
  have f:=JnL c l
  unfold Jv
  cases h:Jv c l with
  |nil=>exact absurd h f
  |cons p r=>
   rw[h]at b
   split
   ·rename_i e
    subst e
    show[]++([x]++Jr [x] (p::r))=x::l
    rw[b];rfl
   ·cases r with
    |nil=>
     have:p=l:=b
     subst this
     rfl
    |cons q r=>
     show(x::p)++([c]++Jr [c] (q::r))=x::l
     rw[<-b];rfl
theorem JrH{c:Nat}:∀{l:As},c∈l->∃a b,cutL c l=(a,So b)/\l=a++c::b
 |[],h=>by cases h
 |x::l,h=>by
  unfold cutL
  by_cases e:x=c
  ·rw[if_pos e];exact⟨[],l,rfl,by simp[e]⟩
  ·rw[if_neg e]
   obtain⟨a,b,g,f⟩:=JrH (l:=l) (by simpa[Ne.symm e]using h)
   exact⟨x::a,b,by rw[g],by rw[f];rfl⟩
def uS(x:Str):mkS XG=x:=rfl
def Jnp(l:As):'Ͻ'.cps.toList=l:=rfl
def JW(x:Str):x.cps.toList.length=x.length:=ZQ
def len_mk(l:As):'Ͻ'.length=l.length:=rfl
def rdP (l:As):Part:=match l with
 |58::r=>.any (mkS r)
 |35::r=>.number (mkS r)
 |42::r=>.rest (mkS r)
 |l=>if 61∈l then .one (mkS (cutL 61 l).1) ((Jv 124 ((cutL 61 l).2.getD [])).map mkS)else .word SN
def txP:Part->List Nat
 |.word x=>XG
 |.one n b=>Yh++(61::Jr [124] (b.map (·.cps.toList)))
 |.any n=>58::n.cps.toList
 |.number n=>35::n.cps.toList
 |.rest n=>42::n.cps.toList
def Jfz(l:As)(h1:l.head? ≠So 58)(f:l.head? ≠So 35)(b:l.head? ≠So 42):rdP l=if 61∈l then .one (mkS (cutL 61 l).1) ((Jv 124 ((cutL 61 l).2.getD [])).map mkS)else .word SN:=by
 unfold rdP;split
 ·simp at h1
 ·simp at f
 ·simp at b
 ·rfl
def rY(ls:DD):'Ǐ'.map (·.cps.toList)=ls:=by rw[Zt];exact(rG λl _=>rfl).trans (List.map_id ls)
def s58:oS ":"=mkS [58]:=by decide+kernel
def s35:oS "#"=mkS [35]:=by decide+kernel
def s42:oS "*"=mkS [42]:=by decide+kernel
def s61:oS "="=mkS [61]:=by decide+kernel
def s124:oS "|"=mkS [124]:=by decide+kernel
def s47:oS "/"=mkS [47]:=by decide+kernel
def JxJ(a b:As):mkS a++mkS b=mkS (a++b):=Str.ext' (by rw[Str.cps_append];simp[mkS])
def zD(a b:As)(h:a.length+b.length<=40000):op2 .add (.str Qar) (.str (mkS b))=.ok (.str (mkS (a++b))):=by rw[<-JxJ];exact if_pos (show a.length+b.length<=lD from Zq h AB)
def Jub(s:Nat)(ls:DD)(h:'Ϥ'.length<=20000):op2 .joinS Fe (.lst F9)=.ok Qan:=by
 have e:JM F9=So Xb:=by have:=JV Xb;rwa[Zt]at this
 simp only[op2,e,rY];exact if_pos ⟨by show 1<=1000;decide,h⟩
def Juf(s:Nat)(ls:DD)(h:'Ϥ'.length<=20000):op2 .joinS Fe (.tup F9)=.ok Qan:=by
 have e:JM F9=So Xb:=by have:=JV Xb;rwa[Zt]at this
 simp only[op2,e,rY];exact if_pos ⟨by show 1<=1000;decide,h⟩
def JfS(l:As)(s:Nat)(h:l.length<=20000):op2 .splitS Bu Fe=.ok (.lst ((Jv s l).map λp=>.str Qaw)):=if_pos ⟨h,rfl⟩
def oN(l:As)(s:Nat):op2 .strt Bu Fe=.ok (.bl (decide (l.head? =So s))):=by
 show Rs.ok (D.bl (decide (0+1<=XN)&&(l.toArray.extract 0 (0+1)==#[s])))=_;cases l with
 |nil=>rfl
 |cons x l=>
  have e:((x::l).toArray.extract 0 (0+1))=#[x]:=by simp
  rw[e];by_cases h:x=s<;>simp[h]
def JvV(l:As)(s:Nat):op2 .isin Fe Bu=.ok (.bl (decide (s∈l))):=if_pos rfl
def Jmg(U:Ag)(O:Fm)(i:Nat)(l:As)(h:O[i]? =So (So Bu))(f:l.length<=20000):evD U (.sl B3 Gg Ei) O=.ok (.str Hi):=by
 have b:cutD l (So 1) No=l.drop 1:=by
  cases l with
  |nil=>rfl
  |cons x l=>rw[cut1];rfl
 simp only[e_sl,wD,h,Rs.bo,e_un,xW,o_asI,JmC,Joy,Jnp,b];exact if_pos f
def sgB:Sx:=VG
def sgD:List D:=Lq
def gZ(U:Ag)(l:As)(f:l.length<=20000)(k:D)(s:Nat)(b:AL):exD U sgB S9=if l.head? =So s then .ok (.rt (.tup [k,.str Hi]),S9)else .ok (.nx,S9):=by
 rw[sgB,xM,oA _ _ (Jj _ _ rfl rfl (oN l s))];by_cases h:l.head? =So s
 ·rw[if_pos h,Zx h];show exD U (.ret _) _=_;rw[eN,uA _ _ (J:=[k,.str Hi]) (Jg _ _ rfl (Jg _ _ (Jmg U _ 0 l rfl f) rfl)) 'j'];rfl
 ·rw[if_neg h,Zs h];rfl
def Juq(U:Ag)(l:As)(o:l.length<=20000):∃h m,forL [1,2] 2 LN sgD QcM=.ok (if l.head? =So 58 then(.rt (Part.any Hi).d,MM)else if l.head? =So 35 then(.rt (Part.number Hi).d,MM)else if l.head? =So 42 then(.rt (Part.rest Hi).d,MM)else(.nx,MM)):=by
 have f:∀(k s:D)(J:Ak)(u q:AL),forL [1,2] 2 LN (.tup [k,s]::J) [So Bu,u,q,No]=(exD U sgB [So Bu,So k,So s,No]).bind λr=>match r with
  |(.nx,env2)=>forL [1,2] 2 LN J env2
  |(.ct,env2)=>forL [1,2] 2 LN J env2
  |(.bk,env2)=>.ok GK
  |(.rt d,env2)=>.ok LY:=λk s J u q=>rfl
 unfold sgD;rw[s58,s35,s42,f,gZ U l o];by_cases b:l.head? =So 58
 ·exact⟨_,_,by rw[if_pos b,if_pos b];rfl⟩
 rw[if_neg b];simp only[Rs.bo];rw[f,gZ U l o];by_cases g:l.head? =So 35
 ·exact⟨_,_,by rw[if_pos g,if_neg b,if_pos g];rfl⟩
 rw[if_neg g];simp only[Rs.bo];rw[f,gZ U l o];by_cases j:l.head? =So 42
 ·exact⟨_,_,by rw[if_pos j,if_neg b,if_neg g,if_pos j];rfl⟩
 rw[if_neg j];exact⟨_,_,by rw[if_neg b,if_neg g,if_neg j];rfl⟩
noncomputable def rdT:Sx:=(.seq (.ite OO (.seq U4
  (.ret (.tup (.cons Lz (.cons NX (.cons (.un .tuple (.bi .splitS NW (.con (.str (oS "|"))))) .nil)))))) .skip)
  aV)
def Jsz:JbR=.seq (.loop Fo [1,2] 2 Vn sgB) rdT:=rfl
theorem JtW(U:Ag)(l:As)(v:l.length<=19000)(u j:AL)(h1:l.head? ≠So 58)(q:l.head? ≠So 35)(m:l.head? ≠So 42):Jf (exD U rdT [So Bu,u,j,No])=.ok (rdP l).d:=by
 rw[Jfz l h1 q m,rdT,s61,s124];by_cases h:61∈l
 ·rw[if_pos h];obtain⟨a,b,g,o⟩:=JrH h;have f:=kA YE o;rw[Zn,Zk]at f;have s:op2 .partS Bu (.str c8)=.ok (.tup [.str Qar,.str c8,.str (mkS b)]):=by have:op2 .partS Bu (.str c8)=.ok (yG l 61):=if_pos ⟨show l.length<=20000 by lia,rfl⟩;rw[this,yG,g]
  rw[yA,n_if _ _ (b:=To) _ _ (by rw[Jj _ _ rfl rfl (JvV l 61),Zx h]),if_pos rfl,wF _ _ _ (Jj _ _ rfl rfl s)];simp only[List.set];rw[eN,uA _ _ (J:=[.str El,.str Qar,.tup ((Jv 124 b).map λp=>.str Qaw)]) (Jg _ _ rfl (Jg _ _ rfl (Jg _ _ (JE _ _ (Jj _ _ rfl rfl (JfS b 124 Af)) rfl) rfl))) 'j'];rw[g];simp only[Rs.bo,Jyd,Part.d,Option.getD_some,Zt];rfl
 ·rw[if_neg h,yA,n_if _ _ (b:=Fo) _ _ (by rw[Jj _ _ rfl rfl (JvV l 61),Zs h]),if_neg 'y'];rfl
def read_part(l:As)(m:l.length<=19000)(c:Nat):runD defs A6 30 Qdt=.ok (rdP l).d:=by
 obtain⟨h,j,e⟩:=Juq Lm l Af;rw[Jiu,Jsz,yA,lK];show Jf (((forL [1,2] 2 (exD Lm sgB) sgD QcM)).bind _)=_;rw[e];by_cases g:l.head? =So 58
 ·rw[if_pos g];cases l with
  |nil=>cases g
  |cons x r=>cases g;rfl
 rw[if_neg g];by_cases f:l.head? =So 35
 ·rw[if_pos f];cases l with
  |nil=>cases f
  |cons x r=>cases f;rfl
 rw[if_neg f];by_cases b:l.head? =So 42
 ·rw[if_pos b];cases l with
  |nil=>cases b
  |cons x r=>cases b;rfl
 rw[if_neg b];exact JtW Lm l m h j g f b
theorem lU(s:As):∀(ls:DD)(l:As),l∈ls->XN<=(Jr s ls).length
 |[],l,h=>by cases h
 |[x],l,h=>by rw[yB.mp h];exact Zh _
 |x::y::r,l,h=>by
  rcases Zf.mp h with rfl|h
  ·simp[Jr]
  ·have:=lU s (y::r) l h
   simp only[Jr,Zn];lia
noncomputable def wrB:Sx:=WD
noncomputable def wrT:Sx:=(.seq (.ite MX (.ret (.bi .add Oq (.bi .joinS (.con (.str (oS "|"))) MY))) .skip)
  (.ret HI))
def wr_eq:JaF=.seq (.loop Fo [1,2] 2 Vn wrB) wrT:=rfl
theorem oH(U:Ag)(p:Part)(f:p.name.length<=20000)(k:Str)(s:Nat):exD U wrB Np=if p.kind==k then .ok (.rt (.str (mkS (s::p.name.cps.toList))),Np)else .ok (.nx,Np):=by
 have b:evD U (.bi .eq DT A1) Np=.ok (.bl (YD==k)):=by refine Jj _ _ (x:=.str YD) ?_ rfl Qc7;cases p<;>rfl
 rw[wrB,xM,b];cases p.kind==k with
 |true=>show exD U (.ret _) _=_;rw[if_pos rfl,eN,Jj _ _ (x:=.str (mkS [s])) (y:=.str (mkS p.name.cps.toList)) rfl (Jyb p _ _ 0 rfl) (zD [s] _ (by rw[JW];simp;lia))];rfl
 |false=>rfl
theorem written_part(p:Part)(h:'Վ'.length<=20000)(c:Nat):runD defs A6 26 [p.d]=.ok (.str (mkS Xi)):=by
 have b:p.name.length<=20000:=by cases p<;>simp only[txP,Part.name,Zk,Zn,JW]at h⊢<;>lia
 have f:∀(k s:D)(J:Ak)(g l:AL),forL [1,2] 2 MB (.tup [k,s]::J) [So p.d,g,l]=(exD Lm wrB [So p.d,So k,So s]).bind λr=>match r with
  |(.nx,env2)=>forL [1,2] 2 MB J env2
  |(.ct,env2)=>forL [1,2] 2 MB J env2
  |(.bk,env2)=>.ok GK
  |(.rt d,env2)=>.ok LY:=λk s J g l=>rfl
 rw[JeA,wr_eq,yA,lK];show Jf ((forL [1,2] 2 MB sgD [So p.d,No,No]).bind _)=_;unfold sgD;rw[s58,s35,s42,f,oH _ p b];cases p with
 |any n=>rfl
 |number n=>rw[if_neg 'À'];simp only[Rs.bo];rw[f,oH _ _ b];rfl
 |rest n=>rw[if_neg 'À'];simp only[Rs.bo];rw[f,oH _ _ b,if_neg 'À'];simp only[Rs.bo];rw[f,oH _ _ b];rfl
 |word n=>rw[if_neg 'À'];simp only[Rs.bo];rw[f,oH _ _ b,if_neg 'À'];simp only[Rs.bo];rw[f,oH _ _ b,if_neg 'À'];rfl
 |one n ws=>rw[if_neg 'À'];simp only[Rs.bo];rw[f,oH _ _ b,if_neg 'À'];simp only[Rs.bo];rw[f,oH _ _ b,if_neg 'À'];show Jf (exD Lm wrT [So (Part.one n ws).d,So HB,So (.str (mkS [42]))])=_;rw[wrT,fD _ _ (p:=To) _ _ rfl,if_pos rfl,s61,s124];simp only[txP,Zn,Zk,JW]at h;have j:=Juf 124 (ws.map (·.cps.toList)) Af;rw[Zt]at j;refine Jj _ _ (Jj _ _ (x:=.str (mkS Yh)) rfl rfl (zD _ _ (by rw[JW];simp;lia))) (Jj _ _ rfl (y:=.tup HJ) rfl j) ?_;rw[zD _ _ (by rw[Zn,JW];simp;lia)];simp[txP]
def JqX(ls:DD)(h:(Jr [47] ls).length<=20000)(c:Nat):runD defs A6 27 [.lst F9]=.ok (.str (mkS (47::Jr [47] ls))):=by rw[Jez,JaI,JJ,s47];exact Jj _ _ rfl (Jj _ _ rfl rfl (Jub 47 ls h)) (zD [47] _ BR)
def txt (ps:AG):List Nat:=47::Jr [47] 'ʯ'
theorem written(ps:AG)(b:Aq<=20000)(h:'ѭ'.length<=20000)(c:Nat):runD defs Bo 28 IR=.ok QbT:=by
 have h:(Jr [47] 'ʯ').length<=20000:=by simp only[txt,Zk]at h;lia
 rw[JoM,Jei,JJ];have:=JqX 'ʯ' h c;rw[Zt]at this;refine Jl _ _ (nO _ _ Ya Qm (rs:=ps) rfl b λp f=>Jl _ _ rfl (written_part p (Zq (lU _ _ _ (nD f)) h) c)) this
def btw (l:As):Option (List C9):=if l.head? =So 47 then So (if l=[47]then[]else Jv 47 (l.drop 1))else No
def Jql{l:As}(h:btw l=So ls):47::Jr [47] ls=l:=by
 unfold btw at h;split at h
 ·rename_i b;cases l with
  |nil=>cases b
  |cons x r=>
   cases b;cases h;split
   ·rename_i e;cases e;rfl
   ·show 47::Jr [47] (Jv 47 r)=_;rw[Jem]
 ·cases h
theorem JsX{l:As}(h:btw l=So ls):BM<=XN/\∀p∈ls,p.length<=l.length:=by
 have f:=Jql h;refine⟨?_,λp g=>?_⟩
 ·unfold btw at h;split at h
  ·cases h;split
   ·simp
   ·have:=Rd.JcM 47 (l.drop 1);rename_i b _;cases l with
    |nil=>cases b
    |cons x r=>simpa using this
  ·cases h
 ·have:=lU [47] ls p g;rw[<-f,Zk];lia
theorem JuC(l:As)(f:l.length<=20000)(c:Nat):runD defs A6 29 Qdt=match btw l with
  |some ls=>.ok Vf
  |none=>.ex HY:=by
 rw[JcI,Jaa,s47];unfold btw;by_cases h:l.head? =So 47
 ·rw[if_pos h,kH _ _ _ (env2:=[So Bu]) (by
   rw[n_if _ _ (b:=Fo) _ _ (JR _ _ (p:=To) (oA _ _ (by rw[Jj _ _ rfl rfl (oN l 47),Zx h])))];rfl),JJ]
  have g:op2 .eq Bu (.str (mkS [47]))=.ok (.bl (decide (l=[47]))):=by
   rw[eO];congr 2;by_cases e:l=[47]
   ·simp[e]
   ·rw[Zs e,ZA];exactλz=>e (by have:=kA (·.cps.toList) z;exact this)
  rw[e_if _ _ (Jj _ _ rfl rfl g)];by_cases e:l=[47]
  ·simp[e]
  ·rw[Zs e,if_neg 'y',if_neg e]
   exact Jj _ _ (Jmg _ _ 0 l rfl f) rfl (JfS _ 47 (by rw[tP];lia))
 ·rw[if_neg h,yA,n_if _ _ (b:=To) _ _ (JR _ _ (p:=Fo) (oA _ _ (by rw[Jj _ _ rfl rfl (oN l 47),Zs h])))];rfl
theorem JoR(ps:AG)(f:∀c,runD defs (c+6) 10 IR=.ok CW)(g:btw Xk=So 'ʯ')(j:∀p∈ps,rdP Xi=p)(o:'ѭ'.length<=19000)(c:Nat):runD defs (c+7) 31 [.str (mkS Xk)]=.ok D5:=by
 have h:=JuC Xk Af (c+5);rw[g]at h;obtain⟨m,l⟩:=JsX g;rw[Zi]at m;rw[Jyt,sY,uD _ _ (d:=.tup Ej) _ (by
  refine JE _ _ (nO _ _ Qm Ya (rs:=ps) (by rw[fE,Jl _ _ rfl h];show Rs.ok (D.lst ('ʯ'.map _))=_;rw[Zt];rfl) Af λp f=>?_) rfl;have:=read_part Xi (by have:=l _ (nD f);lia) (c+5);rw[j p f]at this;exact Jl _ _ rfl this)]
 simp only[List.set];rw[kH _ _ _ (env2:=[So QbT,So D5]) (by
  rw[n_if _ _ (b:=Fo) _ _ (JR _ _ (p:=To) (oA _ _ (Jl _ _ rfl (f c))))];rfl),JJ]
 rfl
def JqY(ls:DD)(f:∀l∈ls,l≠[])(h:∀l∈ls,47∉l):btw (47::Jr [47] ls)=So ls:=by
 unfold btw;rw[if_pos (show(47::Jr [47] ls).head? =So 47 from rfl)];congr 1;cases ls with
 |nil=>rfl
 |cons l ls=>
  have b:Jr [47] (l::ls)≠[]:=λz=>by have:=lU [47] (l::ls) l Ad;rw[z]at this;exact f l Ad (fW.mp (Nat.le_zero.mp this))
  rw[if_neg (by simpa using b)];exact Rd.nL Ad h
theorem Jgk{n:Nat}(s:Nat):∀ls:List C9,(∀l∈ls,XN<=n)->'Ϥ'.length<=BM*(n+1)
 |[],_=>by simp[Jr]
 |[x],h=>by have:=h x Ad;simp only[Jr,sG];lia
 |x::y::r,h=>by
  have g:=Jgk s (y::r) λl b=>h l bC
  have f:=h x Ad
  have e:(x::y::r).length*(n+1)=(y::r).length*(n+1)+(n+1):=Nat.succ_mul _ _
  rw[e]
  simp only[Jr,Zn,sG]
  lia
theorem JdC{s x:Nat}:∀{ls:DD},x∈Jr [s] ls->x=s\/∃l∈ls,x∈l
 |[],h=>by cases h
 |[y],h=>.inr ⟨y,by simp,h⟩
 |y::z::r,h=>by
  simp only[Jr,ZK,yB]at h
  rcases h with h|h|h
  ·exact .inr ⟨y,by simp,h⟩
  ·exact .inl h
  ·rcases JdC h with h|⟨l,f,b⟩
   ·exact .inl h
   ·exact .inr ⟨l,Zm _ f,b⟩
theorem iZ{c:Nat}(b:As):∀{a:As},c∉a->cutL c (a++c::b)=(a,So b)
 |[],_=>by simp[cutL]
 |x::a,h=>by
  have g:x≠c:=λe=>h (by simp[e])
  have f:=iZ (c:=c) b (a:=a) λz=>h (Zm _ z)
  rw[rB,cutL,if_neg g,f]
def s0:oS ""=mkS []:=by decide+kernel
def Jxc(U:Ag)(O:Fm){lo hi:Px}{l:As}{a b:D}{j m:BB}(h:O[i]? =So (So Bu))(o:l.length<=20000)(s:evD U lo O=.ok a)(g:a.bound=.ok j)(q:evD U hi O=.ok b)(f:b.bound=.ok m):evD U (.sl B3 lo hi) O=.ok (.str (mkS (cutD l j m))):=by simp only[e_sl,wD,h,Rs.bo,s,g,q,f,Jnp];exact if_pos o
def s32:oS " "=mkS [32]:=by decide+kernel
def s10:oS "\n"=mkS [10]:=by decide+kernel
def Jx (r:Row):List Nat:=r.l.cps.toList++32::txt r.ps
def Jsj(l:As)(s:Nat):op2 .ends Bu Fe=.ok (.bl (decide (l.getLast? =So s))):=by
 show Rs.ok (D.bl (decide (0+1<=XN)&&(l.toArray.extract (l.length-1) (l.length-1+1)==#[s])))=_;rcases List.eq_nil_or_concat l with rfl|⟨b,x,rfl⟩
 ·rfl
 ·rw[List.concat_eq_append];have e:((b++[x]).toArray.extract ((b++[x]).length-1) ((b++[x]).length-1+1))=#[x]:=by simp
  rw[e];by_cases h:x=s<;>simp[h]
def lnO (l:As):Option (List C9):=if l=[]then So []else if l.getLast? =So 10 then So (Jv 10 l.dropLast)else No
def mk_eq(x y:As):op2 .eq Qcs Qct=.ok (.bl (decide (x=y))):=by
 rw[eO];congr 2;by_cases e:x=y
 ·simp[e]
 ·rw[Zs e,ZA];exactλz=>e (by have:=kA (·.cps.toList) z;exact this)
theorem lines_of(l:As)(g:l.length<=20000)(c:Nat):runD defs A6 34 Qdt=match lnO l with
  |some ls=>.ok Vf
  |none=>.ex HY:=by
 rw[Jld,JcG,s10,s0,fD _ _ _ _ (Jj _ _ rfl rfl (mk_eq l []))];unfold lnO;by_cases f:l=[]
 ·rw[if_pos f,Zx f,if_pos rfl];rfl
 ·rw[if_neg f,Zs f,if_neg 'y'];by_cases h:l.getLast? =So 10
  ·rw[if_pos h,kH _ _ _ (env2:=[So Bu]) (by
    rw[n_if _ _ (b:=Fo) _ _ (JR _ _ (p:=To) (oA _ _ (by rw[Jj _ _ rfl rfl (Jsj l 10),Zx h])))];rfl),JJ]
   exact Jj _ _ (by
    rw[Jxc 'Ł' [So Bu] (i:=0) (l:=l) rfl g rfl rfl (JE _ _ (JE _ _ rfl rfl) rfl) rfl];show Rs.ok (D.str (mkS (cutD l No (So (-1)))))=_;rw[JjN]) rfl (JfS _ 10 (by rw[List.length_dropLast];lia))
  ·rw[if_neg h,yA,n_if _ _ (b:=To) _ _ (JR _ _ (p:=Fo) (oA _ _ (by rw[Jj _ _ rfl rfl (Jsj l 10),Zs h])))];rfl
theorem JdJ(s:Nat):∀ls:List C9,ls≠[]->Jr [s] ls++[s]=ls.flatMap (·++[s])
 |[],h=>absurd rfl h
 |[x],_=>by simp[Jr]
 |x::y::r,_=>by
  have b:=JdJ s (y::r) Ad
  rw[iG,<-b]
  simp[Jr]
theorem JqU:∀x∈ls,Xy+1<=(ls.flatMap (·++[10])).length:=by
 induction ls with
 |nil=>intro x h;cases h
 |cons y r b=>
  intro x h;rw[iG,Zn,Zn,sG];rcases Zf.mp h with rfl|h
  ·lia
  ·have:=b x h;lia
def tabT (rows:Ap):List Nat:=(rows.map Jx).flatMap (·++[10])
theorem JdT:∀ls:List C9,Jr [] ls=ls.flatten
 |[]=>rfl
 |[x]=>by simp[Jr]
 |x::y::r=>by
  have b:=JdT (y::r)
  show x++([]++Jr [] (y::r))=_
  rw[b];simp
theorem written_row(r:Row)(f:r.ps.length<=20000)(h:(Jx r).length<=19999)(c:Nat):runD defs (c+3) 32 [r.d]=.ok (.str (mkS GH)):=by simp only[Jx,Zn,Zk,JW]at h;have b:=written r.ps f Af c;rw[Jfp,JaO,JJ,s32,s10,Jj _ _ (Jj _ _ (Jj _ _ (x:=.str (mkS r.l.cps.toList)) K8 rfl (zD _ _ (by rw[JW];simp;lia))) (Jl _ _ K7 b) (zD _ _ (by simp only[Zn,sG,JW];lia))) rfl (zD _ _ (by simp only[Zn,sG,JW];lia))];simp[Jx]
theorem written_table(rows:Ap)(j:BN<=20000)(l:∀r∈rows,Y4<=20000)(h:'ϥ'.length<=19999)(c:Nat):runD defs (c+4) 33 [.tup Eh]=.ok Qao:=by
 have f:op2 .joinS QaV (.lst U2)=.ok Qao:=by
  have e:JM U2=So 'ɻ':=by have:=JV 'ɻ';rwa[Zt]at this
  have g:Jr 'ɼ'.cps.toList ('ɻ'.map (·.cps.toList))=tabT rows:=by show Jr [] _=_;rw[JdT,Zt,tabT,List.flatMap_def,Zt];rfl
  simp only[op2,e,g];exact if_pos ⟨by show 0<=1000;decide,by lia⟩
 rw[JdX,Jar,JJ,s0];exact Jj _ _ rfl (nO _ _ XJ (λr=>.str (mkS GH)) (rs:=rows) rfl j λr b=>Jl _ _ rfl (written_row r (l r b) (by
  have:=JqU (ls:=rows.map Jx) (Jx r) (nD b);unfold tabT at h;lia) c)) f
noncomputable def txV (w:Str):Bool:=decide (w.cps.toList.head? ≠So 58/\w.cps.toList.head? ≠So 35/\w.cps.toList.head? ≠So 42/\61∉w.cps.toList/\47∉w.cps.toList/\124∉w.cps.toList/\w.cps.toList≠[]/\w.cps.toList.length<=4/\10∉w.cps.toList)
def w_tx:∀w∈words9,txV w=To:=by decide+kernel
def n_tx:∀w∈names9,txV w=To:=by decide+kernel
def l_tx:∀w∈names9,32∉w.cps.toList/\w.cps.toList.head? ≠So 91:=by decide+kernel
def rd_vp(p:Part)(h:p.vp):rdP Xi=p:=by
 cases p with
 |word x=>obtain⟨g,f,j,b,_⟩:=ZZ (w_tx x h);rw[txP,Jfz _ g f j,if_neg b,uS]
 |one n o=>
  obtain⟨z,y,v,C,_⟩:=h;obtain⟨g,f,j,b,F,E,s,_⟩:=ZZ (n_tx n z);have m:(txP (.one n o)).head? =n.cps.toList.head?:=by
   show(Yh++_).head? =_;cases e:n.cps.toList with
   |nil=>exact absurd e s
   |cons x r=>rfl
  rw[Jfz _ (by rw[m];exact g) (by rw[m];exact f) (by rw[m];exact j),if_pos (by simp[txP]),txP,iZ _ b];simp only[Option.getD_some];rw[Rd.nL (by simpa using v) (λl q=>by
   obtain⟨w,u,rfl⟩:=Zv.mp q;exact(ZZ (w_tx w (y w u))).2.2.2.2.2.1),uS,Zt]
  congr 1;exact(rG λw _=>rfl).trans (List.map_id o)
 |any n=>rfl
 |number n=>rfl
 |rest n=>rfl
theorem eS(p:Part)(h:p.vp):txP p≠[]/\47∉txP p/\(txP p).length<=28/\10∉txP p:=by
 have one:∀(x:Nat)(n:Str),n∈names9->x≠47->x≠10->(x::n.cps.toList)≠[]/\47∉(x::n.cps.toList)/\(x::n.cps.toList).length<=28/\10∉(x::n.cps.toList):=λx n I J H=>by
  obtain⟨y,s,C,q,f,u,j,v,b⟩:=ZZ (n_tx n I);refine⟨by simp,?_,by simp only[Zk];lia,?_⟩
  ·simp only[Zf,not_or];exact⟨Ne.symm J,f⟩
  ·simp only[Zf,not_or];exact⟨Ne.symm H,b⟩
 cases p with
 |word x=>obtain⟨y,s,C,q,f,u,j,v,b⟩:=ZZ (w_tx x h);exact⟨j,f,by show x.cps.toList.length<=28;lia,b⟩
 |one n E=>
  obtain⟨G,F,M,L,_⟩:=h;obtain⟨y,s,C,q,f,u,j,v,b⟩:=ZZ (n_tx n G);have no:∀x,x=47\/x=10->x∉Jr [124] (E.map (·.cps.toList)):=λx o z=>by
   rcases JdC z with z|⟨l,g,z⟩
   ·rcases o with rfl|rfl<;>exact absurd z (by decide)
   ·obtain⟨w,m,rfl⟩:=Zv.mp g;have:=ZZ Qa8;rcases o with rfl|rfl
    ·exact this.2.2.2.2.1 z
    ·exact this.2.2.2.2.2.2.2.2 z
  refine⟨by simp[txP],?_,?_,?_⟩
  ·simp only[txP,ZK,Zf,not_or];exact⟨f,by decide,no _ Be⟩
  ·have:=Jgk (n:=4) 124 (E.map (·.cps.toList)) λl g=>by
    obtain⟨w,m,rfl⟩:=Zv.mp g;exact(ZZ Qa8).2.2.2.2.2.2.2.1
   rw[Zi]at this;simp only[txP,Zn,Zk];lia
  ·simp only[txP,ZK,Zf,not_or];exact⟨b,by decide,no _ cS⟩
 |any n=>exact one 58 n h AB AB
 |number n=>exact one 35 n h AB AB
 |rest n=>exact one 42 n h AB AB
structure RowG(r:Row):Prop where
 l:r.l∈names9
 vp:∀p∈r.ps,p.vp
 pt:patB r.ps=To
def RowG.n(h:YM):r.ps.length<=6:=JiY h.pt
theorem RowG.tlen(h:YM):(txt r.ps).length<=175:=by
 have:=Jgk (n:=28) 47 (r.ps.map txP) λl b=>by obtain⟨p,f,rfl⟩:=Zv.mp b;exact(eS p (h.vp p f)).2.2.1
 have:=h.n;rw[Zi]at*;simp only[txt,Zk];lia
theorem RowG.len(h:YM):(Jx r).length<=180:=by have:=h.tlen;have:=(ZZ Q6).2.2.2.2.2.2.2.1;simp only[Jx,Zn,Zk];lia
def RowG.t10(h:YM):10∉txt r.ps:=λz=>by
 rcases Zf.mp z with z|z
 ·revert z;decide
 ·rcases JdC z with z|⟨l,b,z⟩
  ·revert z;decide
  ·obtain⟨p,f,rfl⟩:=Zv.mp b
   exact(eS p (h.vp p f)).2.2.2 z
def RowG.no10(h:YM):10∉Jx r:=λz=>by
 rcases ZK.mp z with z|z
 ·exact(ZZ Q6).2.2.2.2.2.2.2.2 z
 ·rcases Zf.mp z with z|z
  ·revert z;decide
  ·exact h.t10 z
def RowG.no91(h:YM):(Jx r).head? ≠So 91:=by
 have b:=(l_tx r.l h.l).2;have f:=(ZZ Q6).2.2.2.2.2.2.1;unfold Jx;cases e:r.l.cps.toList with
 |nil=>exact absurd e f
 |cons x g=>rw[e]at b;exact b
theorem RowG.read(h:YM)(c:Nat):runD defs (c+8) 35 [.str Gc]=.ok r.d:=by
 have f:=aB;have b:op2 .partS G9 Qap=.ok (.tup WN):=by have:op2 .partS G9 Qap=.ok (yG (Jx r) 32):=if_pos ⟨show(Jx r).length<=20000 by lia,rfl⟩;rw[this,yG,Jx,iZ _ (l_tx r.l h.l).1]
 have g:runD defs (c+7) 31 [.str Qa9]=.ok (.tup QdW):=JoR r.ps (λc=>by rw[is_pattern r.ps h.vp (by have:=h.n;lia),h.pt]) (JqY _ (λl f=>by
  obtain⟨p,b,rfl⟩:=Zv.mp f;exact(eS p c9).1) λl f=>by
  obtain⟨p,b,rfl⟩:=Zv.mp f;exact(eS p c9).2.1) (λp b=>rd_vp p c9) (by have:=h.tlen;lia) c
 rw[JkQ,JcS,s32,uD _ _ _ (Jj _ _ rfl rfl b),JJ];simp only[List.set];exact uA _ _ (Jg _ _ (Jj _ _ (x:=.tup WN) (y:=.int 0) rfl rfl rfl) (Jg _ _ (Jl _ _ (x:=.str Qa9) rfl g) rfl)) Ad
theorem Jmn:∀{rows:Ap},(∀r∈rows,RowG r)->'ϥ'.length<=181*BN
 |[],_=>by simp[tabT]
 |r::rows,h=>by
  have b:=Jmn (rows:=rows) λq f=>h q bH
  have:=(h r Ad).len
  simp only[tabT,Zg,iG,Zn,Zk,rD]at b⊢
  lia
def JqD{rows:Ap}(h:∀r∈rows,RowG r):lnO 'ϥ'=So (rows.map Jx):=by
 unfold lnO;cases rows with
 |nil=>rfl
 |cons r rs=>
  have e:=JdJ 10 ((r::rs).map Jx) Ad;have b:tabT (r::rs)≠[]:=by unfold tabT;rw[<-e];simp
  rw[if_neg b];unfold tabT;rw[<-e,if_pos 'j',pJ,Rd.nL 'j' λl f=>by
   obtain⟨q,g,rfl⟩:=Zv.mp f;exact(h q g).no10]
def TabOk.row(h:YG):∀r∈t,RowG r:=λr b=>⟨h.lb r b,h.vp r b,h.pt r b⟩
theorem TabOk.len(h:YG):(tabT t).length<=1448:=by have:=Jmn h.row;have:=h.ln;lia
theorem TabOk.wrt(h:YG)(c:Nat):runD defs (c+4) 33 [tD t]=.ok (.str Q5):=written_table t (by have:=h.ln;lia) (λr b=>by have:=(h.row r b).n;lia) (by have:=aB;lia) c
theorem read_table(h:YG)(c:Nat):runD defs (c+9) 36 [.str Q5]=.ok (tD t):=by
 have g:=lines_of (tabT t) (by have:=aB;lia) (c+7);rw[JqD h.row]at g;have l:=h.ln;have j:∀c,runD defs (c+8) 12 [.tup KG]=.ok CW:=λc=>by
  rw[is_table t h.lb h.vp (λr f=>by have:=(h.row r f).n;lia) 'g'];have:tabB t=To:=by unfold tabB;rw[h.nt,Zx h.ln,uB.mpr λr f=>h.pt r f];rfl
  rw[this]
 rw[JhK,Jbw,uD _ _ (d:=.tup KG) _ (by
  refine JE _ _ (nO _ _ (λr=>.str Gc) XJ (rs:=t) (by rw[fE,Jl _ _ rfl g];show Rs.ok (D.lst ((t.map Jx).map _))=_;rw[Zt];rfl) Af λr f=>Jl _ _ rfl ((h.row r f).read c)) rfl)]
 simp only[List.set];rw[kH _ _ _ (env2:=[So (.str Q5),So (.tup KG)]) (by
  rw[n_if _ _ (b:=Fo) _ _ (JR _ _ (p:=To) (oA _ _ (Jl _ _ rfl (j c))))];rfl),JJ]
 rfl
section
variable{k v w:D}
theorem JgE(f:k.eqv k=To):∀{ks vs:Ak},AC=AJ->(∀a∈ks,a.eqv k=Fo)->gA k (ks++[k]) (vs++[v])=So v
 |[],[],_,_=>by simp[gA,f]
 |a::ks,u::vs,hl,h=>by
  have j:=JgE f (ks:=ks) (vs:=vs) RO λb g=>h b Qc8
  simp only[rB,gA,h a 'j',Zl,ZF,j]
theorem Jkt(f:k.eqv k=To):∀{ks vs:Ak},AC=AJ->(∀a∈ks,a.eqv k=Fo)->setD k w (ks++[k]) (vs++[v])=vs++[w]
 |[],[],_,_=>by simp[setD,f]
 |a::ks,u::vs,hl,h=>by
  have j:=Jkt f (ks:=ks) (vs:=vs) RO λb g=>h b Qc8
  simp only[rB,setD,h a 'j',Zl,ZF,j]
def JpG(b:k.eqv k=To)(f:AC=AJ)(h:∀a∈ks,a.eqv k=Fo):putD k w (ks++[k]) (vs++[v])=(ks++[k],vs++[w]):=by unfold putD;rw[Jkt b f h,if_pos (by simp[b])]
def JmN(h:∀a∈ks,a.eqv k=Fo):putD k w ks vs=(ks++[k],vs++[w]):=by unfold putD;rw[if_neg];rw[uH];rintro⟨a,b,e⟩;rw[h a b]at e;cases e
end
def tbl (A:Kn) (n:Str):List Row:='ŉ'.getD []
noncomputable def hdL (n:Str):List Nat:=91::(Yh++[93])
def stL (A:Kn) (n:Str):List Nat:=91::(Yh++[93,10])++tabT W7
def stx (A:Kn):List Nat:=('Ş'.map (stL A)).flatten
def lns (A:Kn):List C9:='Ş'.flatMap λn=>hdL n::'Ǽ'.map Jx
def kD (n:Str):D:=.str 'ɷ'
def vD (A:Kn) (n:Str):D:=.str (mkS (tabT W7))
def tK(h:Yc){n:Str}(b:n∈Jn Cp):TabOk W7:=h.tb n _ (uM b)
def nm_9(h:Yc){n:Str}(b:n∈Jn Cp):n∈nm9:=h.nm n ((Jy _ n).mp b)
def wW:∀n∈nm9,10∉n.cps.toList/\n.length<=4:=by decide+kernel
def Jnw(A:Kn):stx A=(lns A).flatMap (·++[10]):=by unfold stx lns;rw[List.flatMap_assoc,<-List.flatMap_def];congr 1;funext n;rw[iG];show stL A n=_;rw[stL,hdL,tabT];simp
def Jxt(h:Yc):∀l∈lns A,10∉l:=λl b=>by
 obtain⟨n,f,b⟩:=List.mem_flatMap.mp b
 rcases Zf.mp b with rfl|b
 ·have:=(wW n (nm_9 h f)).1
  simp only[hdL,Zf,ZK,not_or]
  exact⟨by decide,this,by decide,by simp⟩
 ·obtain⟨r,g,rfl⟩:=Zv.mp b
  exact((tK h f).row r g).no10
def JpT:∀ls:List C9,(∀l∈ls,10∉l)->lnO (ls.flatMap (·++[10]))=So ls
 |[],_=>rfl
 |r::rs,h=>by
  have e:=JdJ 10 (r::rs) Ad
  have b:(r::rs).flatMap (·++[10])≠[]:=by rw[<-e];simp
  unfold lnO
  rw[if_neg b,<-e,if_pos 'j',pJ,Rd.nL 'j' h]
theorem Jrl{f:Str->Nat}{b:Nat}:∀{xs:Ac},(∀x∈xs,f x<=b)->(xs.map f).sum<=Ah*b
 |[],_=>by simp
 |x::xs,h=>by
  have:=Jrl (xs:=xs) λy g=>h y Qc8
  have:=h x Ad
  simp only[Zg,iB,Zk,Nat.succ_mul]at*
  lia
theorem JjG{α:Type}[DecidableEq α]:∀{xs ys:List α},xs.Nodup->(∀x∈xs,x∈ys)->Ah<=By
 |[],_,_,_=>vB _
 |x::xs,ys,h,hs=>by
  have b:=hs x Ad
  obtain⟨j,g⟩:=oB.mp h
  have l:=JjG (ys:=ys.erase x) g λy f=>(List.mem_erase_of_ne (λe:y=x=>j (e▸f))).mpr (hs y bH)
  rw[List.length_erase_of_mem b]at l
  have m:=List.length_pos_of_mem b
  simp only[Zk]
  lia
theorem KOk.len(h:Yc):A.length<=4:=by
 have:=JjG h.nd h.nm;have:A.length<=2:=by simpa[kys,nm9]using this
 lia
theorem JtQ(b:Yc){n:Str}(f:n∈Jn Cp):(stL A n).length<=1460:=by have h:=(tK b f).len;have g:=(wW n (nm_9 b f)).2;simp only[stL,Zk,Zn,rD,JW];lia
theorem JrZ(f:Yc):(stx A).length<=5840:=by unfold stx;rw[List.length_flatten,Zt];refine Zq (Jrl (b:=1460) λn g=>JtQ f g) ?_;have:=f.len;rw[fO A f.nd];lia
def s91:oS "["=mkS [91]:=by decide+kernel
def JuE(ls:DD)(h:ls.flatten.length<=20000):op2 .joinS QaV (.lst F9)=.ok (.str (mkS ls.flatten)):=by
 have e:JM F9=So Xb:=by have:=JV Xb;rwa[Zt]at this
 have b:Jr 'ɼ'.cps.toList ('Ǐ'.map (·.cps.toList))=ls.flatten:=by show Jr [] _=_;rw[rY,JdT]
 simp only[op2,e,b];exact if_pos ⟨by show 0<=1000;decide,h⟩
theorem JsY{U:Ag}(b:Yc){src e:Px}(hs:evD U src O=.ok (.lst ('Ş'.map .str)))(g:∀n∈Jn 'Ռ',evD U e (So BS::O)=.ok (.str QbU)):
  evD U (.bi .joinS (.con QaV) SI) O=.ok Ny:=by have f:=JuE ('Ş'.map (stL A)) (by have:=JrZ b;unfold stx at this;lia);rw[Zt]at f;have:=fO A b.nd;have:=b.len;exact Jj _ _ rfl (nO _ _ XO (λn=>.str QbU) hs Af g) f
def JwJ:∀n∈nm9,op1 .join (.lst [.str (oS "["),.str n,.str (oS "]\n")])=.ok (.str (mkS (91::(Yh++[93,10])))):=λn h=>by
 simp only[nm9,Zf,Zy,fA]at h
 rcases h with rfl|rfl<;>rfl
theorem site_text(h:Yc)(c:Nat):runD defs (c+6) 37 Ik=.ok Ny:=by have g:=aB;rw[JiQ,JbU,JJ,s0];refine JsY h (by rw[fE,vW h.nd 'g' (c+4) rfl];rfl) λn b=>?_;have f:=table_of (a:=a) (A:=A) (dn:=dn) (un:=un) dA Bo;rw[uM b]at f;have:=(tK h b).len;have:=(wW n dA).2;exact Jj _ _ (JE _ _ (Jg _ _ rfl (Jg _ _ rfl Qba)) (JwJ n dA)) (Jl _ _ (Jk _ _ (Jg _ _ (JE _ _ (x:=ob a A dn un) rfl pK) (Jg _ _ (d:=.str n) (J:=[]) rfl rfl)) f) ((tK h b).wrt A6)) (zD _ _ (by simp only[Zk,Zn,rD,JW];lia))
noncomputable def hB:Sx:=(.ite U3 (.seq Qcl
  P4) VI)
noncomputable def hE (T:D) (ks vs:Ak) (h:D) (y:AL):Fm:=[So T,So NR,So h,y]
section
variable{U:Ag}{T:D}{n:Str}
def JxF{y:AL}{h:Str}{v:D}{b:Px}(j:evD U b 'ͻ'=.ok v)(f:AC<1000):exD U (.put Fo Fo 1 BK b) 'ͻ'=.ok (.nx,hE T (putD bI v ks vs).1 (putD bI v ks vs).2 bI y):=by
 have g:(hE T ks vs bI y)[1]? =So (So NR):=rfl;rw[JvO,g];dsimp only;rw[j,Rs.bo,show evD U 'O' 'ͻ'=.ok (.str h)from rfl,Rs.bo];have:(Fo&&!v.imm||!(Fo==Fo)||!keyD Fo (D.str h)||!decide (AC<1000))=Fo:=by rw[Zx f];rfl
 rw[this];rfl
def JwS:(kD n).eqv (kD n)=To:=ZE _
def Jsw{d:D}(h:AC<1000)(g:∀a∈ks,a.eqv (kD n)=Fo):exD U hB On=.ok (.nx,hE T FC (vs++[.str Ts]) (kD n) KM):=by have f:evD U CZ On=.ok (.str 'ɷ'):=rfl;rw[hB,n_if _ _ (b:=To) _ _ (oA _ _ (by rw[s91];exact Jj _ _ f rfl (oN _ 91))),if_pos rfl,wF _ _ _ f];show exD U _ (hE T ks vs (.str 'ɷ') KM)=_;rw[JxF (v:=.str Ts) (by rw[s0];rfl) h];rw[show D.str 'ɷ'=kD n from rfl,JmN g]
def Jyx(l:YM){acc:As}(s:acc.length<=9000)(o:AC<999)(hs:AC=AJ)(f:∀a∈ks,a.eqv (kD n)=Fo):
  exD U hB TU=.ok (.nx,hE T FC (vs++[.str (mkS (acc++GH))]) (kD n) (So G9)):=by
 have j:evD U CZ TU=.ok G9:=rfl;rw[hB,n_if _ _ _ _ (oA _ _ (by rw[s91];exact Jj _ _ j rfl (oN _ 91))),Zs l.no91,if_neg 'y',n_if _ _ (b:=Fo) _ _ rfl,if_neg 'y'];have g:op2 Eg (.dct Fo Fo FC Mv) (kD n)=.ok Ry:=by show(if Fo=Fo/\keyD Fo (kD n)=To then Rs.ofOpt (gA (kD n) FC Mv)else .sk)=_;rw[if_pos 'Ĩ',JgE JwS hs f];rfl
 have q:=l.len;have m:op2 .add MR Ry=.ok Ry:=zD [] acc BR;have p:=JxF (U:=U) (T:=T) (h:=mkS (hdL n)) (Jj U TU (Jj _ _ (a:=.con MR) rfl (Jj _ _ (a:=.var 1) (b:=.var 2) rfl rfl g) m) (Jj _ _ j (b:=.con Xn) (by rw[s10];rfl) (zD (Jx r) [10] BR)) (zD _ _ BR)) BR;rw[show D.str 'ɷ'=kD n from rfl,JpG JwS hs f]at p;exact p
def Jib{f:Fm->Rs (Fw×Fm)}{l:D}{ls:Ak}{b:Fm}(h:f (zA [3] [So l] e)=.ok (.nx,b)):forL [3] 0 f (l::ls) e=forL [3] 0 f ls b:=by simp only[forL,iA,if_true,Rs.bo,h]
theorem JlZ(rest:Ak)(j:AC<999)(hs:AC=AJ)(g:∀a∈ks,a.eqv (kD n)=Fo):∀(rows:Ap)(acc:As)(y:AL),(∀r∈rows,RowG r)->acc.length+181*BN<=9000->
  ∃b,forL [3] 0 dC ((rows.map λr=>.str Gc)++rest) (hE T FC Mv (kD n) y)=forL [3] 0 dC rest (hE T FC (vs++[.str (mkS (acc++tabT rows))]) (kD n) b)
 |[],acc,y,_,_=>⟨y,by simp[tabT]⟩
 |r::rows,acc,y,h,ha=>by
  have f:=h r Ad
  have m:=f.len
  rw[Zk]at ha
  obtain⟨b,e⟩:=JlZ rest j hs g rows (acc++GH) (So G9) (λq l=>h q (Zm _ l)) BR
  refine⟨b,?_⟩
  rw[Zg,rB,Jib (Jyx f Af j hs g),e]
  simp[tabT]
def kD_ne{m:Str}(h:n≠m):(kD n).eqv (kD m)=Fo:=by show(mkS (hdL n)==mkS (hdL m))=Fo;rw[ZA];intro z;have e:hdL n=hdL m:=kA (·.cps.toList) z;simp only[hdL,qB,true_and]at e;have:=List.append_cancel_right e;exact h (by rw[<-uS n,this,uS])
theorem Jnm(h:Yc):∀(ns:Ac){ks vs:Ak}(d:D)(y:AL),ns.Nodup->(∀n∈ns,n∈Jn Cp)->(∀n∈ns,∀a∈ks,a.eqv (kD n)=Fo)->AC+AK<900->AC=AJ->
  ∃o g,forL [3] 0 dC (ns.flatMap λn=>kD n::'Ǽ'.map λr=>.str Gc) (hE T ks vs d y)=.ok (.nx,hE T (ks++ns.map kD) (vs++ns.map (vD A)) o g)
 |[],ks,vs,d,y,_,_,_,_,_=>⟨d,y,by simp[forL]⟩
 |n::ns,ks,vs,d,y,nd,hs,hk,hl,hv=>by
  rw[oB]at nd
  rw[Zk]at hl
  have j:=tK h (hs n Ad)
  have w:=j.ln
  have l:=hk n Ad
  obtain⟨g,v⟩:=JlZ (U:=U) (T:=T) (ns.flatMap λn=>kD n::'Ǽ'.map λr=>.str Gc) Af hv l W7 [] KM j.row BR
  obtain⟨u,s,q⟩:=Jnm h ns (ks:=ks++[kD n]) (vs:=vs++[vD A n]) (kD n) g nd.2 (λm f=>hs m bH) (λm f a b=>by
   rcases ZK.mp b with b|b
   ·exact hk m bH a b
   ·rw[yB.mp b];exact kD_ne λz=>nd.1 (z▸f)) BR BR
  refine⟨u,s,?_⟩
  rw[iG,rB,Jib (Jsw Af l),v,kJ]
  rw[show D.str (mkS (tabT W7))=vD A n from rfl,q]
  simp
end
def JpX:JZ=(.seq (.ownD Fo 1) (.seq Qck (.seq (.loop Fo [3] 0 Nf hB) (.retF 1)))):=rfl
theorem tbh(h:Yc)(c:Nat):runD defs Bo 38 Qdu=.ok (.dct Fo To ('Ş'.map kD) ('Ş'.map (vD A))):=by
 have f:=lines_of (stx A) (by have:=JrZ h;lia) c;rw[Jnw,JpT _ (Jxt h),<-Jnw]at f;have g:(lns A).map (λp=>D.str Qaw)='Ş'.flatMap λn=>kD n::'Ǽ'.map λr=>.str Gc:=by unfold lns;rw[List.map_flatMap];simp[kD,Zt,pC]
 have j:evD FZ Nf 'ҡ'=.ok (.lst ((lns A).map λp=>.str Qaw)):=by rw[fE,Jl _ _ rfl f];rfl
 obtain⟨l,m,b⟩:=Jnm (U:=runD defs A6) (T:=.str HD) h 'Ş' (ks:=[]) (vs:=[]) .non No QdX Ij (λ_ _ _ z=>(by cases z)) (by have:=fO A h.nd;have:=aB;simp;lia) rfl;rw[show hE 'Ś' [] [] .non No='ҡ' from rfl,<-g]at b;rw[JcK,JpX];simp only[yA,JvJ,List.set,Rs.bo,qQ,xW,gC,Zl,ZF,lK,j,yE,b];rfl
def name_in:∀n∈nm9,∀c,runD defs (c+3) 39 [kD n]=.ok BS:=λn h c=>by
 simp only[nm9,Zf,Zy,fA]at h
 rcases h with rfl|rfl<;>rfl
def rdB:Bs:=.eff WY
def dn0:Dn [] []:=⟨rfl,by simp,rfl⟩
noncomputable abbrev R1:CallD:=runD defs 11
noncomputable abbrev Q1:CallB:=runB defs bdefs 11
def JmU{n:Str}(h:n∉kys A):put n t A=A++[(n,t)]:=by unfold put;rw[if_neg λz=>h ((look_mem n A).mp z)]
theorem JmA(a:Nat)(T:D)(o:Ji T=To)(l:Yc):∀(ns:Ac)(B:Kn)(g f:AL),ns.Nodup->(∀n∈ns,n∈Jn Cp)->(∀n∈ns,n∉kys B)->B.length+AK<1000->
  ∃j h,forB [2,3] 2 NQ Md [So T,So (ob a B [] []),g,f]=.ok .nx [So T,So (ob a (B++ns.map λn=>(n,tbl A n)) [] []),j,h]
 |[],B,g,f,_,_,_,_=>⟨g,f,by simp[zipD,forB]⟩
 |n::ns,B,g,f,nd,hs,hn,hl=>by
  rw[oB]at nd
  rw[Zk]at hl
  have q:=hs n Ad
  obtain⟨j,h,e⟩:=JmA a T o l ns (B++[(n,tbl A n)]) KM (So (vD A n)) nd.2 (λm b=>hs m bC) (λm b z=>by
   unfold kys at z
   rw[ZW,ZK]at z
   rcases z with z|z
   ·exact hn m bC z
   ·simp only[Zg,jG,yB]at z
    exact nd.1 (z▸b)) BR
  have s:exO Fo R1 Q1 rdB Wd=.ok .nx [So T,So (ob a (put n W7 B) [] []),So (kD n),So (vD A n)]:=
   gK (a:=a) (ns:=nsS) rfl (Jg _ _ (Jl _ _ rfl (name_in n (nm_9 l q) 8)) (Jg _ _ (Jl _ _ rfl (read_table (tK l q) 2)) rfl)) (by simp[plE,Ji,Ja,o,JS,kD,vD]) (mT dn0 Af 10)
  rw[JmU (hn n Ad)]at s
  refine⟨j,h,?_⟩
  show(exO Fo R1 Q1 rdB Wd).bind _=_
  rw[s]
  show forB [2,3] 2 NQ Md _=_
  rw[e]
  simp
theorem JrU{A:Kn}:∀ns:List Str,(Ja Md&&imms Md)=To
 |[]=>rfl
 |n::ns=>by
  have h:=JrU (A:=A) ns
  simp only[Zc]at h
  simp only[Zg,zipD,Ja,Ji,imms,D.imm,h.1,h.2,kD,vD];rfl
def Rr (J:Ak) (a:Nat):Rs D:=if Ae=1 then runR R1 Q1 nR iR yN xN J a else .sk
def Jwi{x y:As}(h:x=y):op2 .ne Qcs Qct=.ok C4:=by subst h;exact zI _ (by simp[D.dep])
def Jnq(h:Yc):KOk (srt A)/\(∀n,look n Fl=look n A)/\stx Fl=stx A:=by
 have nd:(kys Fl).Nodup:=by rw[vS];exact eV _ (JI _)
 have e:∀n,look n Fl=look n A:=λn=>by
  have m:=λB=>look_mem n B;by_cases q:n∈Jn Cp
  ·rw[look_of nd (n,'ŉ'.getD []) (Zv.mpr ⟨n,q,rfl⟩),<-uM q]
  ·have f:=mt (m Fl).mp (by rw[vS];exact q);have b:=mt (m A).mp λz=>q ((Jy _ n).mpr z);rw[Option.not_isSome_iff_eq_none]at f b;rw[f,b]
 refine⟨⟨nd,λn g=>h.nm n ((Jy _ n).mp (by rw[<-vS];exact g)),λn t z=>h.tb n t (by rw[<-e];exact z)⟩,e,?_⟩;unfold stx;rw[Jul e];congr 2;funext n;unfold stL tbl;rw[e]
theorem JxK(h:Yc)(a:Nat):Rr Qdu a=.ok Uc:=by
 have s:exO Fo R1 Q1 yN (JC nR Qdu)=.ok .nx [So Ny,No,No,No]:=rfl;obtain⟨f,b,q⟩:=JmA a Ny rfl h 'Ş' [] No No QdX Ij (λ_ _ z=>(by cases z)) (by have:=fO A h.nd;have:=aB;simp;lia);have m:exO Fo R1 Q1 (.loop [2,3] 2 TB rdB) OW=.ok .nx SO:=by
  have j:evD R1 TB OW=.ok (.lst (zipD ('Ş'.map kD) ('Ş'.map (vD A)))):=by rw[e_un,Jl _ _ rfl (tbh h 9)];rfl
  simp only[exO,j];rw[JrU];exact q
 obtain⟨u,_,o⟩:=Jnq h;have g:evD R1 Uy SO=.ok C4:=Jj _ _ (Jl _ _ (x:=ob a Fl [] []) rfl (site_text u 5)) rfl (Jwi o);have l:exO Fo R1 Q1 xN ([So Ny,No,No,No].set iR Ky)=.ok (.rt Uc) SO:=
  (qE m).trans ((qE ((gX (w:=Fo) (bc:=Q1) (x:=.raise HY .nil) (y:=.lift .skip) g).trans rfl)).trans rfl)
 unfold Rr;rw[if_pos (show[D.str HD].length=1 from rfl)];unfold runR;rw[s];dsimp only;rw[if_pos (by rfl),l]
noncomputable def canB (w:Str) (r:Row):Bool:=match r.ps with
 |[]=>Fo
 |p::_=>p.fits w
noncomputable def cutR (r:Row):Row:=match r.ps with
 |[]=>r
 |p::ps=>⟨r.l,if p.isRest then p::ps else ps⟩
theorem can_begin(r:Row)(w:Str)(b:w∈ws9)(c:Nat):runD defs (c+3) 22 [r.pd,.str w]=.ok (.bl (canB w r)):=by
 obtain⟨l,ps⟩:=r;rw[JiA,JbM,JJ];cases ps with
 |nil=>rfl
 |cons p ps=>have f:=lets p w (ws_A b) c;refine jH _ _ (p:=To) (q:=p.fits w) (Jj _ _ (x:=.int ((Aq:Int)+1)) (y:=.int 0) (JE _ _ rfl (by simp[op1,Row.pd])) rfl ?_) λ_=>Jk _ _ (J:=b7) (Jg _ _ (Jj _ _ (x:=.tup ((p::ps).map Ya)) (y:=.int 0) rfl rfl Ad) rfl) f;simp only[op2,onII,Rs.ok.injEq,D.bl.injEq,Zw];lia
def JfW(r:Row)(h:r.ps≠[])(c:Nat):runD defs A6 23 [r.pd]=.ok 'Μ'.pd:=by
 obtain⟨l,b⟩:=r;rw[JbI,JL,JJ];cases b with
 |nil=>exact absurd rfl h
 |cons p b=>
  have j:evD Lm DT [So (Row.pd ⟨l,p::b⟩)]=.ok p.d:=Jj _ _ (x:=.tup ((p::b).map Ya)) (y:=.int 0) rfl rfl Ad;have g:evD Lm (.bi .eq NY Qn) [So (Row.pd ⟨l,p::b⟩)]=.ok (.bl X4):=by rw[e_bi,e_bi,j];cases p<;>simp[Part.d,Part.isRest,Jsl]
  rw[JwG,g];cases f:p.isRest with
  |true=>simp[cutR,f,Row.pd]
  |false=>simp[cutR,f,Row.pd,cut1,op1]
def below(rows:Ap)(b:BN<=1000)(w:Str)(h:w∈ws9)(c:Nat):runD defs (c+4) 24 QcN=.ok (.tup (('ȑ'.map cutR).map XJ)):=by
 rw[Jsy,qZ,JJ];refine JE _ _ (eL _ _ XJ (canB w) (λr=>'Μ'.d) rfl b λr _=>⟨oA _ _ (Jk _ _ (J:=[r.pd,.str w]) (Jg _ _ K7 rfl) (can_begin r w h c)),λf=>?_⟩) (by rw[Zt];rfl);have g:r.ps≠[]:=λe=>by rw[canB,e]at f;cases f
 have b:'Μ'.l=r.l:=by unfold cutR;split<;>rfl
 have:=JfW r g Bo;show _=Rs.ok (D.tup [.str 'Μ'.l,'Μ'.pd]);rw[b];exact uA _ _ (Jg _ _ K8 (Jg _ _ (Jl _ _ K7 this) rfl)) Ad
def Jvl(w:Str)(a:Ac)(r:Row):(canB w r&&hit a 'Μ')=hit (w::a) r:=by
 obtain⟨l,g⟩:=r;cases g with
 |nil=>rfl
 |cons p g=>
  cases f:p.isRest with
  |true=>
   have b:p.fits w=To:=by cases p<;>first|rfl|cases f
   simp[canB,cutR,hit,f,b,lawM]
  |false=>cases b:p.fits w<;>simp[canB,cutR,hit,f,b,lawM]
theorem Jgs(w:Str)(a:Ac):∀rows:List Row,labD (('ȑ'.map cutR).find? Eu)=labD (rows.find? (hit (w::a)))
 |[]=>rfl
 |r::rows=>by
  have b:=Jgs w a rows
  have h:=Jvl w a r
  have g:'Μ'.l=r.l:=by unfold cutR;split<;>rfl
  rw[iI,<-h,mF]
  cases j:canB w r with
  |false=>simpa using b
  |true=>
   cases f:hit a (cutR r)with
   |true=>simp[f,labD,g]
   |false=>simpa[f]using b
def Jxi(r:Row)(h:Ju r.ps):Ju 'Μ'.ps:=by
 unfold cutR;split
 ·exact h
 ·rename_i p f e;rw[e]at h;cases b:p.isRest with
  |true=>simpa[b]using h
  |false=>simpa[b]using h.2
def Jjw(w:Str)(rows:Ap)(h:∀r∈rows,aJ):∀r∈(rows.filter (canB w)).map cutR,r.Fine:=by
 intro r f;rw[Zv]at f;obtain⟨q,b,rfl⟩:=f;have b:=h q (uL.mp b).1;refine⟨Jxi q b.rl,Zq ?_ b.len⟩;unfold cutR;split
 ·exact Zh _
 ·rename_i p g e;rw[e];simp only[];split<;>simp
def Jvd(p:Part):sdD p.d=To:=by
 have:∀b:List Str,sdDs (b.map XO)=To:=λb=>by induction b with
  |nil=>rfl
  |cons w b f=>simp[sdDs,sdD,f]
 cases p<;>simp[Part.d,sdD,sdDs,this]
def JoW{p q:Part}(h:p.d=q.d):p=q:=by
 have g:∀b vs:List Str,b.map XO=vs.map D.str->b=vs:=λb=>by
  induction b with
  |nil=>intro vs e;cases vs with
   |nil=>rfl
   |cons _ _=>simp at e
  |cons u b j=>intro vs e;cases vs with
   |nil=>simp at e
   |cons v vs=>simp only[Zg,qB,D.str.injEq]at e;rw[e.1,j vs e.2]
 have f:=h;cases p<;>cases q<;>simp[Part.d,Jo]at h
 ·rw[h]
 ·rename_i n b m vs;have e:b.map XO=vs.map XO:=by simp only[Part.d,D.tup.injEq,qB]at f;exact f.2.2.1
  rw[h.1,g _ _ e]
 ·rw[h]
 ·rw[h]
 ·rw[h]
theorem Jrt:∀{ps b:AG},ps.map Ya=b.map Part.d->ps=b
 |[],[],_=>rfl
 |[],_::_,h=>by simp at h
 |_::_,[],h=>by simp at h
 |p::ps,q::b,h=>by
  simp only[Zg,qB]at h
  rw[JoW h.1,Jrt h.2]
def JsR{q:Row}(h:r.d=q.d):r=q:=by obtain⟨l,b⟩:=r;obtain⟨m,f⟩:=q;simp only[Row.d,Row.pd,D.tup.injEq,qB,D.str.injEq,and_true]at h;rw[h.1,Jrt h.2]
theorem JjP:∀{rs b:Ap},rs.map XJ=b.map Row.d->rs=b
 |[],[],_=>rfl
 |[],_::_,h=>by simp at h
 |_::_,[],h=>by simp at h
 |p::ps,q::b,h=>by
  simp only[Zg,qB]at h
  rw[JsR h.1,JjP h.2]
def Jws(rs:Ap):sdD YU=To:=by
 have g:∀ps:List Part,sdDs Ej=To:=λps=>by induction ps with
  |nil=>rfl
  |cons p ps b=>simp[sdDs,Jvd,b]
 have f:∀rs:List Row,sdDs EC=To:=λrs=>by induction rs with
  |nil=>rfl
  |cons r rs b=>simp[sdDs,Row.d,Row.pd,sdD,g,b]
 exact f rs
def fS:Inj tD:=Inj.of Jws λa b h=>by
 simp only[tD,D.tup.injEq]at h
 exact JjP h
noncomputable def labO:Option Str->D
 |none=>.non
 |some x=>.str x
def vE:Inj labO:=Inj.of (λa=>by cases a<;>rfl) λa b h=>by cases a<;>cases b<;>simp[labO]at h<;>first|rfl|(rw[h])
structure KyR(r:Row):Prop where
 l:banD r.l=Fo
 f:r.Fine
 n:∀p∈r.ps,(p.srt\/p=.word B0)/\p.hole.Sublist names5
def JkJ:∀w∈pool,banD w=Fo:=by decide+kernel
def JoA:∀w∈names5,banD w=Fo:=by decide+kernel
def JjI:∀w∈labs,banD w=Fo:=by decide+kernel
def JoY{p:Part}(h1:p.srt\/p=.word B0)(y:p.hole.Sublist names5):JF p.d=To/\banC p.d=0/\p.d.dep<=2:=by
 have f:p.isWord=Fo->banD aI=Fo:=λe=>JoA _ (y.subset (by simp[Part.hole,e]));have one:∀b:Bool,(if b=To then 1 else 0)<=1:=λb=>by cases b<;>decide
 cases p with
 |word x=>
  have:banD x=Fo:=by
   rcases h1 with h1|h1
   ·exact JkJ x h1
   ·injection h1 with h1;subst h1;decide+kernel
  exact⟨by simp[Part.d,JF,Jz,banC,this,one],rfl,by simp[Part.d,D.dep,deps]⟩
 |one n o=>
  have e:=f rfl;have q:∀l:List Str,(∀w∈l,w∈pool)->('久'.map banC).sum=0/\Jz '久'=To/\deps '久'=0:=λl=>by
   induction l with
   |nil=>intro _;exact Hl
   |cons w l s=>intro m;obtain⟨j,g,h⟩:=s λv u=>m v (Zm _ u);have:=JkJ w (m w fC);exact⟨by simp only[Zg,iB,banC,this,j];rfl,by simp[Jz,JF,g],by simp[deps,D.dep,h]⟩
  have h1:(Part.one n o).srt:=h1.resolve_right λz=>nomatch z;obtain⟨j,g,h⟩:=q o h1.1.2;have e:banD n=Fo:=e;exact⟨by simp only[Part.d,JF,Jz,j,g,Zg,jG,iB,List.sum_nil,banC,e];simp[one],rfl,by simp[Part.d,D.dep,deps,h]⟩
 |any n=>have e:banD n=Fo:=f rfl;exact⟨by simp[Part.d,JF,Jz,banC,e,one],rfl,by simp[Part.d,D.dep,deps]⟩
 |number n=>have e:banD n=Fo:=f rfl;exact⟨by simp[Part.d,JF,Jz,banC,e,one],rfl,by simp[Part.d,D.dep,deps]⟩
 |rest n=>have e:banD n=Fo:=f rfl;exact⟨by simp[Part.d,JF,Jz,banC,e,one],rfl,by simp[Part.d,D.dep,deps]⟩
theorem JhJ:∀{ps:AG},(∀p∈ps,(p.srt\/p=.word B0)/\p.hole.Sublist names5)->Jz Ej=To/\('Ȳ'.map banC).sum=0/\deps Ej<=2
 |[],_=>Qbt
 |p::ps,h=>by
  obtain⟨g,b,o⟩:=JhJ (ps:=ps) λq j=>h q Qc4
  obtain⟨f,l,m⟩:=JoY (h p fC).1 (h p fC).2
  exact⟨by simp[Jz,g,f],by simp only[Zg,iB,b,l],by simp only[Zg,deps];lia⟩
theorem JjD:∀{rs:Ap},(∀r∈rs,KyR r)->Jz EC=To/\((rs.map XJ).map banC).sum=0/\deps EC<=4
 |[],_=>Qbt
 |r::rs,h=>by
  obtain⟨g,b,s⟩:=JjD (rs:=rs) λq j=>h q Qc4
  obtain⟨f,m,o⟩:=JhJ (h r fC).n
  have e:=(h r fC).l
  have z:JF r.d=To/\banC r.d=0/\r.d.dep<=4:=⟨by simp[Row.d,Row.pd,JF,Jz,f,m,banC,e,-List.map_map],rfl,by simp only[Row.d,Row.pd,D.dep,deps];lia⟩
  exact⟨by simp[Jz,g,z.1],by simp only[Zg,iB,b,z.2.1],by simp only[Zg,deps];have:=z.2.2;lia⟩
def Jof(h:∀r∈rs,KyR r):keyD To YU=To:=by obtain⟨f,b,g⟩:=JjD h;simp only[tD,keyD,JF,f,b,lG,Bool.and_true];have:decide (deps EC<=7)=To:=Zx Af;simp[this]
def JiH(o:GE):keyD Fo Qc9=To:=by cases o<;>rfl
def belw (rs:Ap) (w:Str):List Row:='亨'.map cutR
def Jmc(h:∀r∈rs,KyR r)(w:Str):∀r∈belw rs w,KyR r:=λr g=>by
 have m:=Jjw w rs (λr g=>(h r g).f) r g
 obtain⟨q,j,rfl⟩:=Zv.mp g
 have j:=h q (uL.mp j).1
 refine⟨?_,m,λp b=>j.n p ?_⟩
 ·have:(cutR q).l=q.l:=by unfold cutR;split<;>rfl
  rw[this];exact j.l
 ·unfold cutR at b
  split at b
  ·exact b
  ·rename_i s o e
   rw[e]
   split at b
   ·exact b
   ·exact Zm _ b
def JjT(rs:Ap)(w:Str):'ɦ'.length<=F1:=by rw[belw,Zi];exact rM _ _
def bel (rs:Ap):List Str->List Row
 |[]=>rs
 |w::a=>bel Xq a
theorem Jjz(w:Str):∀(a:Ac)(rs:Ap),bel rs (a++[w])=belw (bel rs a) w
 |[],rs=>rfl
 |v::a,rs=>Jjz w a (belw rs v)
def fl (rs:Ap) (a:Ac):Option Str:=(rs.find? Eu).map XR
def hZ(o:Option Row):labD o=labO (o.map XR):=by cases o<;>rfl
def Jyr(w:Str)(a:Ac)(rs:Ap):fl Xq a=fl rs (w::a):=by
 have:=Jgs w a rs;rw[hZ,hZ]at this;exact(vE _ _).mp (by
  show(labO (('亨'.map cutR).find? (hit a)|>.map XR)).eqv (labO ((rs.find? (hit (w::a))).map XR))=To;rw[this];exact(vE _ _).mpr rfl)
theorem JrI(b:Ac):∀(a:Ac)(rs:Ap),fl (bel rs a) b=fl rs (a++b)
 |[],rs=>rfl
 |w::a,rs=>by rw[bel,JrI b a,Jyr];rfl
noncomputable abbrev Cnt:=List (List Row×Int)
def stq (ws:Ac) (b:Cnt):Cnt:=b.foldl (λf p=>kC tD (λw=>belw p.1 w) (λ_=>p.2) ws f) []
def gO(ws:Ac)(b:Cnt)(p:List Row×Int):stq ws (b++[p])=kC tD (λw=>belw p.1 w) (λ_=>p.2) ws W5:=by simp[stq]
def gU{P:List α->Prop}(f:P [])(h1:∀l x,P l->P (l++[x])):∀l,P l:=λl=>by
 have:∀m:List α,P m.reverse:=λm=>by
  induction m with
  |nil=>exact f
  |cons x m b=>rw[List.reverse_cons];exact h1 _ _ b
 simpa using this l.reverse
theorem Jnt(ws:Ac):∀b:Cnt,'ȟ'.length<=b.length*AY:=
 gU Xj λb p f=>by
  rw[gO,Zn,Nat.add_mul]
  have:=qU (g:=tD) (λw=>belw p.1 w) (λ_=>p.2) ws W5
  simp only[Zk,rD]
  lia
def JuH(ws:Ac):∀b:Cnt,Dst W5:=gU (by simp[stq,Dst]) λb p f=>by
 rw[gO];exact pO fS _ _ _ _ f
def KRs(N:Nat)(rs:Ap):Prop:=(∀r∈rs,KyR r)/\rs.length<=N
def JwX(ws:Ac):∀b:Cnt,(∀p∈b,KRs N p.1)->∀p∈stq ws b,KRs N p.1:=gU (λ_ p h=>by simp[stq]at h) λb p g h=>by
 rw[gO]
 refine JgN _ _ (KRs N) _ _ (g λq j=>h q (by simp[j])) λw _=>?_
 have f:=h p Ad
 exact⟨Jmc f.1 w,Zq (JjT _ _) f.2⟩
theorem JkE(f:α->List Int):∀l:List α,(l.flatMap f).sum=(l.map λa=>(f a).sum).sum
 |[]=>rfl
 |a::l=>by rw[iG,List.sum_append,JkE f l];rfl
theorem Jmz(c:Int):∀l:List Int,(l.map λx=>c*x).sum=c*l.sum
 |[]=>by simp
 |x::l=>by simp only[Zg,iB,Jmz c l,Int.mul_add]
def JvA(ws:Ac)(f:List Row->Int):∀b:Cnt,wt f W5=wt (λrs=>(ws.map λw=>f Xq).sum) b:=gU rfl λb p g=>by
 rw[gO,JfZ fS,g]
 have:(ws.map λw=>p.2*f (belw p.1 w)).sum=p.2*(ws.map λw=>f (belw p.1 w)).sum:=by rw[<-Jmz,Zt];rfl
 rw[this]
 simp[wt]
def cntT (ws:Ac) (T:Ap):Nat->Cnt
 |0=>[(T,1)]
 |n+1=>stq ws Xt
theorem JiJ(ws:Ac)(T:Ap):∀n,'Ƣ'.length<=AY^n
 |0=>Zh _
 |n+1=>Zq (Jnt ws _) (by rw[Nat.pow_succ];exact Nat.mul_le_mul_right _ (JiJ ws T n))
theorem tY(ws:Ac){T:Ap}(h:KRs N T):∀n,∀p∈cntT ws T n,KRs N p.1
 |0=>λp b=>by simp[cntT]at b;rw[b];exact h
 |n+1=>JwX ws _ (tY ws h n)
theorem Jsc(ws:Ac)(T:Ap):∀(n:Nat)(f:List Row->Int),wt f Xt=((ev ws n).map λa=>f (bel T a)).sum
 |0,f=>by simp[cntT,wt,ev,bel]
 |n+1,f=>by
  rw[cntT,JvA,Jsc ws T n,ev,List.map_flatMap,JkE]
  simp only[Zt,pC,Jjz]
def Jvx{x n:Nat}(f:x<=4)(b:n<=4):x^n<=256:=Zq (Nat.pow_le_pow_left f n) (Zq (Nat.pow_le_pow_right Af b) AB)
def dcT (z:Bool) (b:Cnt):D:=.dct To z (ksOf tD b) bD
noncomputable def tbW:Sx:=(.seq WJ
  W0)
def tbT:Sx:=(.seq (.ownD To 5)
  (.seq (.loop Fo [6,7] 2 RA Tj)
  (.movF 3 5)))
theorem Jpx(ws:Ac)(E:∀w∈ws,w∈ws9)(z:KRs N rs)(hN:N<=1000)(cn:Int)(f:Cnt)(C:Dst f)(G:f.length+AY<1000)(c:Nat)(l q j o u s:AL):
  ∃m h,exD Ea Tj WB=.ok (.nx,[l,So A7,q,j,o,So (dcT Fo (kC tD NO (λ_=>cn) ws f)),So YU,So aE,m,h]):=by
 obtain⟨y,F,m,h,rfl⟩:=uU Ea tbW [8] 0 Hc XO ws (λb O=>∃m h,O=[l,So A7,q,j,o,So Iu,So YU,So aE,m,h]) WB rfl (by
  rintro b w x O e⟨m,h,rfl⟩;refine⟨_,rfl,_,?_,So BD,So (tD Xq),rfl⟩;have v:'Ƨ'.length<1000:=by
   have:=qU (g:=tD) NO (λ_=>cn) b f;have:b.length<AY:=by rw[e];simp
   lia
  show exD _ IU [l,So A7,q,j,o,So Iu,So YU,So aE,So BD,h]=_;rw[wF _ _ _ (Jk _ _ (J:=[tD rs,.str w]) rfl (below rs (Zq z.2 hN) w (E w (by rw[e];simp)) c))];show exD _ _ [l,So A7,q,j,o,So Iu,So YU,So aE,So BD,So (tD Xq)]=_;rw[JmI _ _ fS (k:=belw rs w) (c:=cn) rfl rfl rfl (pO fS _ _ _ _ C) v (Jof (Jmc z.1 w))];simp only[List.set_cons_succ,List.set_cons_zero,kC,uP,gG,List.foldl_nil];rfl) ⟨u,s,rfl⟩
 exact⟨m,h,F⟩
theorem JtA(ws:Ac)(J:∀w∈ws,w∈ws9)(f:Cnt)(H:∀p∈f,KRs N p.1)(hN:N<=1000)(U:f.length*AY+AY<1000)(c:Nat)(o s q I u y x v:AL):
  ∃l m g j,exD Ea tbT [o,So A7,s,So dD,q,I,u,y,x,v]=.ok (.nx,[o,So A7,s,So (dcT To (stq ws f)),q,No,l,m,g,j]):=by
 obtain⟨E,L,l,m,g,j,rfl⟩:=uU Ea Tj [6,7] 2 RA (λp:List Row×Int=>D.tup [tD p.1,.int p.2]) f (λb O=>∃l m g j,O=[o,So A7,s,So dD,q,So (dcT Fo W5),l,m,g,j]) Wo (by
   show Rs.ok (D.lst (zipD (ksOf tD f) (vsOf f)))=_;rw[Jed]) (by
  rintro b p C O e⟨l,m,g,j,rfl⟩;have P:=H p (by rw[e];simp);have z:'ȟ'.length+AY<1000:=by
   have:=Jnt ws b;have M:b.length<=f.length:=by rw[e];simp
   have:=Nat.mul_le_mul_right AY M;lia
  obtain⟨G,F,h⟩:=Jpx ws J P hN p.2 W5 (JuH ws b) z c o s (So dD) q g j;exact⟨_,rfl,_,h,So (tD p.1),So (.int p.2),G,F,by rw[gO]⟩) ⟨u,y,x,v,rfl⟩
 refine⟨l,m,g,j,?_⟩;show exD _ IU _=_;rw[wX _ _ _ (env2:=Wo) rfl,wX _ _ _ L];rfl
theorem Jlm(ws:Ac)(H:∀w∈ws,w∈ws9)(s:AY<=4)(T:Ap)(q:KRs N T)(hN:N<=1000)(n:Nat)(M:n<=4)(c:Nat):runD defs (c+5) 40 SY=.ok (dcT To Xt):=by
 rw[Jeq,Jav];have v:evD Ea W2 [So (tD T),So A7,So A3,No,No,No,No,No,No,No]=.ok (dcT To [(T,1)]):=by rw[e_if (b:=To) _ _ (Jj _ _ (x:=.int n) (y:=.int 0) rfl rfl (by simp only[op2,onII,Rs.ok.injEq,D.bl.injEq,Zw];lia)),if_pos rfl];have:=Jof q.1;show dspD To [tD T] [.int 1]=_;simp only[dspD,this,if_true];rfl
 rw[uD _ _ _ v];obtain⟨u,J,o,l,f,m,j,g,rfl⟩:=Jfg Ea tbT 4 BK n (λk O=>∃o l f m j g,O=[So (tD T),So A7,So A3,So (dcT To 'є'),o,l,f,m,j,g]) WM rfl Af (by
  rintro k O L⟨o,l,f,m,j,g,rfl⟩;have I:'є'.length*AY+AY<1000:=by have C:'є'.length<=64:=Zq (JiJ ws T k) (Zq (Nat.pow_le_pow_left s k) (Zq (Nat.pow_le_pow_right Af (show k<=3 by lia)) AB));have:=Nat.mul_le_mul C s;lia
  obtain⟨E,F,G,z,h⟩:=JtA ws H 'є' (tY ws q k) hN I c (So (tD T)) (So A3) FM l f m j g;exact⟨_,h,So BQ,No,E,F,G,z,rfl⟩) ⟨No,No,No,No,No,No,rfl⟩
 show Jf (exD _ (.seq (.loop Fo [4] 0 QbQ tbT) QaS) WM)=_;rw[kH _ _ _ J,JJ];rfl
noncomputable abbrev Lcn:=List (Option Str×Int)
def dcL (z:Bool) (b:Lcn):D:=.dct Fo z (ksOf labO b) bD
def lcn (cc:Cnt):Lcn:=kC labO (λp:List Row×Int=>fl p.1 []) (λp=>p.2) cc []
def nLed (ws:Ac) (T:Ap) (n:Nat) (o:GE):Int:=((ev ws n).map λa=>if fl T a=o then(1:Int)else 0).sum
def JtF(ws:Ac)(T:Ap)(n:Nat)(o:GE):getN labO o LB=nLed ws T n o:=by rw[lcn,JrN vE o _ (pO vE _ _ _ _ (by simp[Dst])),JfZ vE];have:=Jsc ws T n λrs=>if fl rs []=o then 1 else 0;unfold wt at this;simp only[wt,jG,List.sum_nil,Int.zero_add];rw[this,nLed];refine kA List.sum (rG λa _=>?_);rw[JrI,pE]
def toldD (T:Ap) (N:Option Str->Int):D:=.lst (((T.map λr:Row=>So r.l)++[No]).map λo=>.tup Nk)
theorem tall(ws:Ac)(I:∀w∈ws,w∈ws9)(s:AY<=4)(T:Ap)(m:KRs N T)(hN:N<=100)(n:Nat)(v:n<=4)(c:Nat):runD defs (c+6) 41 SY=.ok (toldD T (nLed ws T n)):=by
 rw[JnN,Jek,kH (env2:=Wl) _ _ _ rfl];have u:'Ƣ'.length<=256:=Zq (JiJ ws T n) (Jvx s v);obtain⟨C,M,l,j,h,rfl⟩:=uU Co (.seq Qcm
  WW) [4,5] 2 Wu (λp:List Row×Int=>D.tup [tD p.1,.int p.2]) Xt (λb O=>∃l j h,O=[So (tD T),So A7,So A3,So MQ,l,j,h]) Wl
  (JE _ _ (Jk _ _ (J:=SY) rfl (Jlm ws I s T m Af n v c)) (by
   show Rs.ok (D.lst (zipD (ksOf tD _) (vsOf _)))=_;rw[Jed])) (by
  rintro b p z O e⟨l,j,h,rfl⟩;have E:=tY ws m n p (by rw[e];simp);refine⟨_,rfl,_,?_,So (tD p.1),So (.int p.2),So (labO (fl p.1 [])),rfl⟩;have q:(lcn b).length<1000:=by
   have:=qU (g:=labO) (λp:List Row×Int=>fl p.1 []) (λp=>p.2) b [];have:b.length<(cntT ws T n).length:=by rw[e];simp
   simp only[lcn,rD]at*;lia
  have L:evD Co R5 [So (tD T),So A7,So A3,So MQ,So (tD p.1),So (.int p.2),h]=.ok (labO (fl p.1 [])):=by
   refine Jk _ _ (J:=[tD p.1,.tup []]) (Jg _ _ rfl (Jg _ _ (uA _ _ (J:=[]) rfl Ad) rfl)) ?_;have:=first p.1 (λr H=>(E.1 r H).f) (by have:=E.2;lia) [] Ad c
   rw[hZ]at this;exact this
  show exD _ IU [So (tD T),So A7,So A3,So MQ,So (tD p.1),So (.int p.2),h]=_;rw[wF _ _ _ L];show exD _ _ [So (tD T),So A7,So A3,So MQ,So (tD p.1),So (.int p.2),So (labO (fl p.1 []))]=_;rw[JmI _ _ vE (k:=fl p.1 []) (c:=p.2) rfl rfl rfl (pO vE _ _ _ _ (by simp[Dst])) q (JiH _)];simp only[List.set_cons_succ,List.set_cons_zero,lcn,kC,uP,gG,List.foldl_nil];rfl) ⟨No,No,No,rfl⟩
 rw[kH _ _ _ M,JJ];have F:=m.2;have G:evD Co VD [So (tD T),So A7,So A3,So (dcL Fo LB),l,j,h]=.ok (.lst (((T.map λr:Row=>So r.l)++[No]).map labO)):=by refine Jj _ _ (zC _ _ XJ (λr:Row=>D.str r.l) rfl Af λr _=>row0 r _ _ 0 rfl) (y:=.lst [.non]) (Jyi _ _ (J:=[.non]) rfl Ad) ?_;rw[JrS _ _ (nH BR)];simp[labO,Zt,pC]
 refine zC _ _ labO (λo=>D.tup [labO o,.int (nLed ws T n o)]) (by rw[fE,G];rfl) BR λo _=>?_;refine uA _ _ (Jg _ _ rfl (Jg _ _ (Jj _ _ (x:=dcL Fo LB) (y:=labO o) rfl rfl ?_) rfl)) Ad;have:=JfI (g:=labO) o LB;simp only[op2,onD,dcL,JiH,and_self,if_true,this,JtF]
theorem JkH(c:Nat)(A:D):∀(a:Ac)(g:∀w∈a,w∈ws9)(rows:Ap)(h:∀r∈rows,aJ)(b:BN<=1000)(f:AL),
  ∃(rs:Ap)(j:AL),(∀r∈rs,aJ)/\rs.length<=1000/\labD (rs.find? (hit []))=labD (rows.find? Eu)/\forL [2] 0 (exD Ea T9) DL [So ER,So A,f]=.ok (.nx,[So (.tup EC),So A,j])
 |[],g,rows,h,b,f=>⟨rows,f,h,b,rfl,rfl⟩
 |w::a,g,rows,h,b,f=>by
  have s:=g w Ad
  have y:=below rows b w s c
  have l:('ȑ'.map cutR).length<=1000:=by
   rw[Zi];exact Zq (rM _ _) b
  obtain⟨rs,j,o,u,q,m⟩:=JkH c A a (λv x=>g v (by simp[x])) _ (Jjw w rows h) l (So BD);refine⟨rs,j,o,u,by rw[q,Jgs],?_⟩;have e:exD Ea T9 [So ER,So A,So BD]=.ok (.nx,[So (.tup (('ȑ'.map cutR).map XJ)),So A,So BD]):=by
   rw[qQ,Jk _ _ (J:=QcN) rfl y];rfl
  simp only[Zg,forL,iA,if_true,Rs.bo,zA,List.set,e,m]
def Jpg(rows:Ap)(h:∀r∈rows,aJ)(m:BN<=1000)(a:Ac)(q:∀w∈a,w∈ws9)(c:Nat):runD defs (c+6) 25 SR=.ok (labD (rows.find? Eu)):=by
 obtain⟨rs,f,j,g,l,b⟩:=JkH A6 Km a q rows h m No;have o:=first rs j g [] Ad c
 rw[Jdg,Jag,kH _ _ _ (env2:=[So (.tup EC),So Km,f]) (by
  rw[lK];have:evD Co Hc [So ER,So Km,No]=.ok (.lst DL):=rfl;simp only[this,Rs.bo,yE,gC,Zl,ZF];exact b),JJ,<-l]
 exact Jk _ _ (J:=[.tup EC,.tup []]) (Jg _ _ rfl (Jg _ _ (uA _ _ (J:=[]) rfl Ad) rfl)) o
def JvC(hs ps:AG)(h:∀p∈hs,X4=Fo)(f:Ju ps):Ju (hs++ps):=by
 induction hs with
 |nil=>exact f
 |cons p hs g=>refine⟨λb=>?_,g λq j=>h q (by simp[j])⟩;rw[h p 'j']at b;cases b
noncomputable def los (T:Ap):List (Option Str):=(T.map λr:Row=>So r.l)++[No]
def JlS{T:Ap}(h:'乇'.Nodup):(los T).Nodup:=by
 unfold los;rw[vH];refine⟨?_,by simp,λa g b f=>?_⟩
 ·have:(T.map λr:Row=>So r.l)='乇'.map So:=by rw[Zt];rfl
  rw[this];exact List.Pairwise.map _ (λa b q e=>q (by injection e)) h
 ·obtain⟨r,_,rfl⟩:=Zv.mp g;simp at f;subst f;exactλe=>nomatch e
def JwK(T b:Ap)(a:Ac):fl (T++b) a=(fl T a).or (fl b a):=by unfold fl;rw[List.find?_append];cases T.find? (hit a)<;>rfl
theorem JmK(ws:Ac)(T b:Ap)(n:Nat):nLed ws (T++b) n No<=nLed ws T n No:=by
 unfold nLed;have:∀l:List I0,(l.map λa=>if fl (T++b) a=No then(1:Int)else 0).sum<=(l.map λa=>if fl T a=No then(1:Int)else 0).sum:=λl=>by
  induction l with
  |nil=>simp
  |cons a l f=>
   simp only[Zg,iB];have:(if fl (T++b) a=No then(1:Int)else 0)<=if fl T a=No then(1:Int)else 0:=by
    rw[JwK];cases fl T a with
    |none=>show(if fl b a=No then(1:Int)else 0)<=if(No:GE)=No then 1 else 0;rw[if_pos rfl];split<;>decide
    |some x=>exact Int.le_refl _
   lia
 exact this _
def pQ (os:MU) (N:Option Str->Int):D:=.dct Fo To (os.map labO) (os.map λo=>.int (N o))
theorem JdD(N:Option Str->Int):∀b:List (Option Str),Jyl (b.map λo=>.tup Nk)=So (b.map labO,b.map λo=>.int (N o))
 |[]=>rfl
 |none::b=>by
  have f:=JdD N b
  show(xD keyN Qw).map _=_;rw[show xD keyN _=_ from f];rfl
 |some x::b=>by
  have f:=JdD N b
  show(xD keyN Qw).map _=_;rw[show xD keyN _=_ from f];rfl
def Jvg(f:MU)(g:f.Nodup)(h:f.length<=1000)(N:Option Str->Int):op1 .dictP (.lst (f.map λo=>.tup Nk))=.ok (pQ f N):=by
 have j:(f.map labO).Pairwise (λa b=>a.eqv b=Fo):=List.Pairwise.map _ (λa b q=>by
  cases e:(labO a).eqv (labO b)with
  |false=>rfl
  |true=>exact absurd ((vE a b).mp e) q) g
 simp only[op1,lN,JdD];rw[if_pos ⟨j,by simpa using h⟩];rfl
theorem JhO(N:Option Str->Int)(o:GE):∀{b:MU},o∈b->gA Qc9 (b.map labO) (b.map λo=>.int (N o))=So (.int (N o))
 |[],h=>by cases h
 |x::b,h=>by
  simp only[Zg,gA]
  split
  ·rename_i q
   rw[(vE x o).mp q]
  ·rename_i q
   exact JhO N o ((Zf.mp h).resolve_left λe=>q ((vE x o).mpr e.symm))
def Jpi(b:MU)(N:Option Str->Int){o:GE}(h:o∈b):op2 Eg (pQ b N) Qc9=.ok (.int (N o)):=by simp only[op2,onD,pQ,JiH,and_self,if_true,JhO N o h];rfl
noncomputable def oR (r:Row):Row:=⟨S "o"++r.l,r.ps⟩
def o_at(l:Str)(h:l∈labs):op2 .add (.str (S "o")) (.str l)=.ok (.str (S "o"++l)):=by simp only[labs,Zf,Zy,fA]at h;rcases h with rfl|rfl|rfl|rfl|rfl|rfl<;>rfl
def o_ban:∀l∈labs,banD (S "o"++l)=Fo:=by decide+kernel
def o_nodup:(labs.take 3++(labs.take 3).map (S "o"++·)).Nodup:=by decide+kernel
def o_nm:∀l∈labs.take 3,l∈names9/\(S "o"++l)∈names9:=by decide+kernel
theorem krs{T:Ap}{M:Nat}(l:M<=20)(b:∀r∈T,r.Ok M)(j:∀r∈T,banD r.l=Fo):∀r∈T,KyR r:=λr f=>⟨j r f,⟨(b r f).rl,by have:=(b r f).len;lia⟩,λx h=>⟨.inl ((b r f).srt x h),by
 unfold Part.hole
 split
 ·exact List.nil_sublist _
 ·rename_i g
  refine List.singleton_sublist.mpr ((b r f).hol.subset ?_)
  refine List.mem_flatMap.mpr ⟨x,h,?_⟩
  simp[Part.hole,g]⟩⟩
def uZ{T:Ap}(h:T.map XR=labs.take T.length):∀r∈T,r.l∈labs:=λr b=>by
 have:r.l∈T.map XR:=Zv.mpr ⟨r,b,rfl⟩
 rw[h]at this
 exact List.mem_of_mem_take this
def Jqi(h:r.Ok 2)(w:Str):patB (Qdv++r.ps)=To:=by have g:=aB;have f:=JaX _ (JvC Qdv r.ps (by simp[Part.isRest]) h.rl);have b:=qO Us;unfold patB;rw[f,show jA (Qdv++r.ps)=jA r.ps from rfl,b,Zx 'Â'];rfl
structure Step where
 w:Str
 n:Str
 b:Option IV
 o:Option IV
def Step.d (s:Step):D:=stp s.w s.n s.b (optT s.o)
def Step.pl(s:Step):Ji s.d=To:=by simp[Step.d,stp,Ji,Ja,zX]
section
variable{A':Kn}{s:Step}
def fsD (A:Kn) (dn un:Ak):List D:=Wg
def lk_d:sA B2 nsS Ck=So dn:=by simp[sA,nsS,fsD,S,List.lookup,Jo]
def lk_u:sA Cv nsS Ck=So un:=by simp[sA,nsS,fsD,S,List.lookup,Jo]
def JxL(x:D):putN B2 x nsS Ck=[.dct Fo Fo K1 D1,x,.mls Cv un]:=by simp[putN,nsS,fsD,S,Jo]
def Jxp(x:D):putN Cv x nsS Ck=[.dct Fo Fo K1 D1,.mls B2 dn,x]:=by simp[putN,nsS,fsD,S,Jo]
def Jsd(x:Ak):putN B2 (.mls B2 x) nsS Ck=fsD A x un:=JxL _
def JxG(x:Ak):putN Cv (.mls Cv x) nsS Ck=fsD A dn x:=Jxp _
def Jwz {w:Bool} {U:Ag} {bc:AI} {f g:Str} {n:Int} {d:D} {st:D} {i:Nat} (h1:(sA f nsS Ck).isSome = To) (b:(sA g nsS Ck).isSome = To) {r:Rc} (h:bc i B9 Hq = r) :
  exO w U bc (.retG i nsS f g n) [So B9] = r.at []:=by show (if nsS = nsS then if plE [] && (sA f nsS Ck).isSome && (sA g nsS Ck).isSome then (bc i B9 Hq).at [] else .sk else .sk) = _;rw [if_pos rfl,h1,b,h];rfl
def Jyg {c:Nat} {f g:Str} {n:Int} {r:Rc} (h:goD Om 0 HW n f g a nsS Ck = r):runB defs bdefs A6 4 B9 Hq = ansB B9 (r.at []):=by rw [rb_go,<- h];show ansB B9 (if nsS = nsS then (goD Om 0 HW n f g a nsS Ck).at [] else .sk) = _;rw [if_pos rfl]
def Jta(b:Ja dn=To)(g:Ja un=To)(f:un.length<1000){J:Ak}(h:Ja J=To):(!(S "done"==S "undone")&&Ja dn&&Ja un&&decide (un.length<1000)&&(putN B2 .non nsS Ck).all (othD To B2)&&(putN Cv .non nsS (putN B2 (.mls B2 J) nsS Ck)).all (othD To Cv))=To:=by rw[Jsd,JxL,Jxp];simp[b,g,f,othD,gN,h,Ji,S,Jo]
def m_back(b:Ja dn=To)(h:Ja un=To)(f:un.length<1000)(c:Nat)(hs:runB defs bdefs A6 0 (ob a A dn (un++[s.d])) 'ҧ'=.ok .non (ob a A' dn (un++[s.d]))):
  runB defs bdefs (c+3) 5 (ob a A (dn++[s.d]) un) []=.ok dE (ob a A' dn (un++[s.d])):=by
 have j:Ja (dn++[s.d])=To:=by simp[plains_app,b,Ja,s.pl]
 have g:goD (runB defs bdefs A6) 0 HW 2 B2 Cv a nsS (fsD A (dn++[s.d]) un)=.ok dE (ob a A' dn (un++[s.d])):=by unfold goD;rw[lk_d,lk_u];simp only;rw[if_pos (Jta j h f (by rw[pJ];exact b)),if_neg 'j',pJ,List.getLast?_concat];show(match runB defs bdefs A6 0 (.obj a nsS (putN Cv (.mls Cv (un++[s.d])) nsS (putN B2 (.mls B2 dn) nsS (fsD A (dn++[s.d]) un)))) 'ҧ' with|.ok _ st=>Rc.ok dE st|_=>.sk)=_;rw[Jsd,JxG,show runB defs bdefs 'ð' 0 (.obj a nsS (fsD A dn (un++[s.d]))) 'ҧ'=.ok .non (ob a A' dn (un++[s.d]))from hs]
 rw[Jty];exact a_rt (e:=[]) (Jwz (d:=.non) (st:=.non) (by rw[lk_d];rfl) (by rw[lk_u];rfl) ((Jyg g).trans (a_rt rfl)))
end
theorem JwB:∀b:List Part,b.dropLast.any XY=Fo->Ju b
 |[],_=>trivial
 |[p],_=>⟨λ_=>rfl,trivial⟩
 |p::q::b,h=>by
  rw[List.dropLast_cons₂,pD,ZN]at h
  exact⟨λz=>(by rw[h.1]at z;cases z),JwB (q::b) h.2⟩
def TabOk.fine(h:YG):∀r∈t,r.Fine:=λr f=>by
 have b:=h.pt r f
 refine⟨JwB _ ?_,Zq (JiY b) AB⟩
 unfold patB at b
 simp only[Zc,ZV]at b
 exact b.1.2
def fnd (A:Kn) (ad:Ac) (n:Str):Option Row:=('ŉ'.getD []).find? (hit ad)
def prD (A:Kn) (ad:Ac) (n:Str):D:=.tup Nj
def prB (A:Kn) (ad:Ac) (n:Str):Bool:=(fnd A ad n).isSome
def ledL (A:Kn) (ad:Ac):D:=.lst (('Ş'.filter dF).map FP)
def Jus(l:Yc)(v:∀w∈ad,w∈ws9)(z:Bool)(c:Nat){n:Str}(u:n∈Jn Cp){g d:Px}(m:e[0]? =So (So BS))(q:evD Co g e=.ok J8)(s:evD Co d e=.ok (.tup Le)):
  evD Co (.tup (.cons Ao (.cons (.call 19 (.cons (.bi Eg g Ao) (.cons d .nil))) .nil))) e=.ok (prD A ad n):=by
 have f:=uM u;have h:=l.tb n _ f;have j:=first _ h.fine (Zq h.ln AB) ad (λw o=>ws_A (v w o)) c
 have b:evD Co Ao e=.ok BS:=by rw[wD,m]
 exact uA _ _ (J:=Nj) (Jg _ _ b (Jg _ _ (Jk _ _ (J:=[tD ('ŉ'.getD []),.tup Le]) (Jg _ _ (Jj _ _ q b (oW z f)) (Jg _ _ s rfl)) j) rfl)) Ad
def Jmh(b:'Ş'.length<=1000)(U:Ag)(h:e[i]? =So (So (.lst ('Ş'.map FP)))):evD U (.comp 0 (.walk B3) Qco Ao) e=.ok (ledL A ad):=by refine eL _ _ (rs:=Jn Cp) FP dF FP (by rw[fE,wD,h];rfl) b λn f=>⟨?_,λ_=>rfl⟩;refine JE _ _ (x:=labD (fnd A ad n)) rfl ?_;unfold prB;cases fnd A ad n<;>rfl
def lead(f:Yc)(g:A.length<60)(j:∀w∈ad,w∈ws9)(c:Nat):runD defs (c+6) 50 Pr=.ok (ledL A ad):=by
 have m:runD defs (c+6) 50 Pr=Jf (exD Co iT Ti):=rfl;have o:=fO A f.nd;have b:evD Co R4 Ti=.ok (.lst ('Ş'.map .str)):=by rw[fE,vW f.nd g (c+4) (i:=0) (a:=a) (dn:=dn) (un:=un) rfl];rfl
 have l:=zC Co Ti (e:=.tup VC) XO FP b Af λn h=>Jus f j Fo c h rfl rfl rfl;rw[m,iT,uD _ _ _ l,JJ];simp only[List.set];exact Jmh Af _ rfl
theorem Jto(A:Kn)(ad:Ac):(ledL A ad).dep<=20:=by
 have:deps (('Ş'.filter dF).map FP)<=2:=zS λd b=>by rw[Zv]at b;obtain⟨n,_,rfl⟩:=b;unfold prD;cases fnd A ad n<;>simp[labD,D.dep,deps]
 simp only[ledL,D.dep];lia
noncomputable abbrev R:CallD:=runD defs 12
noncomputable abbrev Q:CallB:=runB defs bdefs 12
theorem plN:∀ns:List Int,Ja G4=To
 |[]=>rfl
 |n::ns=>by simp only[Zg,Ja,plN ns,Ji,Bool.and_self]
def mK{w:Bool}{U:Ag}{bc:AI}{p:Sx}{env1:Fm}(h:exD U p O=.ok (.nx,env1)):exO w U bc (.lift p) O=.ok .nx env1:=by simp only[exO,h,JwL]
def jK(h:evD R c e=.ok C4):exD R (.ite c BY .skip) e=.ok (.nx,e):=by simp only[exD,h,Rs.bo]
noncomputable def hN:List Part:=[.word B0]
def mkM (A B:Ap):List Row:=A++mkT hN B
noncomputable def kn2 (X Y9:Ap):Kn:=[(S "one",X),(S "two",Y9)]
structure Two(A B:Ap):Prop where
 a:∀r∈A,r.Ok 2
 la:A.map XR=labs.take A.length
 na:A.length<=3
 b:∃C:List Row,B=C.map oR/\(∀r∈C,r.Ok 2)/\C.map XR=labs.take C.length/\C.length<=3
def Two.nb{A:Ap}(h:BW):B.length<=3:=by obtain⟨C,rfl,_,_,b⟩:=h.b;simpa using b
def Two.lA{A:Ap}(h:BW):∀l∈A.map XR,l∈labs.take 3:=λl b=>by
 rw[h.la]at b
 exact(lQ h.na).subset b
def Two.lB{A:Ap}(h:BW):∀l∈B.map XR,∃k∈labs.take 3,l=S "o"++k:=λl b=>by
 obtain⟨C,rfl,_,f,j⟩:=h.b
 rw[Zt]at b
 obtain⟨r,g,rfl⟩:=Zv.mp b
 have:r.l∈C.map XR:=nD g
 rw[f]at this
 exact⟨r.l,(lQ j).subset this,rfl⟩
def Two.nd{A:Ap}(h:BW):((mkM A B).map XR).Nodup:=by
 obtain⟨C,rfl,_,b,f⟩:=h.b;have e:(mkM A LA).map XR=labs.take A.length++(labs.take C.length).map (S "o"++·):=by rw[mkM,mkT,ZW,h.la,<-b,Zt,Zt,Zt];rfl
 rw[e];exact o_nodup.sublist ((lQ h.na).append ((lQ f).map _))
def Two.pB{A:Ap}(h:BW):∀r∈B,(∀p∈r.ps,p.vp)/\patB r.ps=To/\patB (hN++r.ps)=To/\Ju r.ps:=λr b=>by
 obtain⟨C,rfl,f,_,_⟩:=h.b
 obtain⟨q,g,rfl⟩:=Zv.mp b
 have z:=f q g
 exact⟨z.vp,z.pat AB,Jqi z B0,z.rl⟩
def Two.tA{A:Ap}(h:BW):TabOk A where
 lb r hr:=(o_nm _ (h.lA _ (nD hr))).1
 vp r hr:=(h.a r hr).vp
 pt r hr:=(h.a r hr).pat AB
 ln:=Zq h.na AB
 nt:=qO (by
  have:=h.nd
  rw[mkM,ZW,vH]at this
  exact this.1)
def Two.tB{A:Ap}(h:BW):TabOk B where
 lb r hr:=by
  obtain⟨k,b,e⟩:=h.lB _ (nD hr);rw[e];exact(o_nm k b).2
 vp r hr:=(h.pB r hr).1;pt r hr:=(h.pB r hr).2.1;ln:=Zq h.nb AB;nt:=qO (by
  have:=h.nd;rw[mkM,mkT,ZW,vH,Zt]at this;exact this.2.1)
def JvS:∀p∈hN,p.vp:=by intro p b;rw[yB.mp b];show S "new"∈words9;decide+kernel
theorem Two.ok{A:Ap}(h:BW):okM hN A B=To:=by
 unfold okM;have g:B.all (λr=>patB (hN++r.ps))=To:=uB.mpr λr b=>(h.pB r b).2.2.1;have j:yD ((A++mkT hN B).map XR)=Fo:=qO h.nd;have f:(A++mkT hN B).length<=8:=by have:=h.na;have:=h.nb;simp only[mkT,Zn,Zi];lia
 rw[g,j,Zx f];rfl
def Two.tM{A:Ap}(h:BW):TabOk Em:=Jtu JvS h.tA h.tB h.ok
def Two.krA{A:Ap}(h:BW):KRs 6 A:=⟨krs (M:=2) AB h.a λr b=>JjI _ (List.mem_of_mem_take (h.lA _ (nD b))),Zq h.na AB⟩
theorem Two.krM{A:Ap}(h:BW):KRs 6 Em:=by
 obtain⟨C,rfl,j,l,m⟩:=h.b;refine⟨λr b=>?_,by have:=h.na;simp only[mkM,mkT,Zn,Zi];lia⟩;rcases ZK.mp b with b|b
 ·exact h.krA.1 r b
 ·rw[mkT,Zt]at b;obtain⟨q,f,rfl⟩:=Zv.mp b;have z:=krs (M:=2) AB j (λr b=>JjI _ (uZ l r b)) q f;refine⟨o_ban _ (uZ l q f),⟨⟨(λe=>by cases e),z.f.rl⟩,by have:=(j q f).len;show([Part.word B0]++q.ps).length<=1000;simp;lia⟩,λp g=>?_⟩;rcases Zf.mp g with rfl|g
  ·exact⟨.inr rfl,by simp[Part.hole,Part.isWord]⟩
  ·exact z.n p g
def kok2{X b:Ap}(f:TabOk X)(g:TabOk b):KOk IK:=by
 refine⟨by show[S "one",S "two"].Nodup;decide+kernel,λn h=>h,λn t e=>?_⟩;rcases Zf.mp (JoF e)with e|e
 ·cases e;exact f
 ·rw[yB]at e;cases e;exact g
def rQ(X b:Ap):look El IK=So X:=by simp[look,kn2]
def Jym(X b:Ap):look FO IK=So b:=by simp[look,kn2]
def put1(X b f:Ap):put El f IK=kn2 f b:=by simp[put,look,kn2,Jo]
def srt2(X b:Ap):Jn (kys IK)=Xs:=by show Jn Xs=_;decide+kernel
def En (ns:AU) (A B:Ap) (st o g h j m l b f:AL):Fm:=[So Cq,So (tD A),So (tD B),st,o,g,h,j,m,l,b,f]
def Jxe(ns:AU)(A B:Ap)(h:plE e=To):plE (So Cq::So (tD A)::So (tD B)::No::e)=To:=by show(Ji Cq&&(Ji (tD A)&&(Ji (tD B)&&plE e)))=To;rw[show Ji 'ç'=To from plN ns,JS,JS,h];rfl
def tabK{K:Kn}{n:Str}{p:Px}(hi:e[i]? =So (So (ob a K dn un)))(f:evD R p e=.ok BS)(g:n∈nm9)(b:look n K=So t):evD R (.call 49 (.cons (.un DP B3) (.cons p .nil))) e=.ok (tD t):=by refine Jk _ _ (J:='仓') (Jg _ _ (JE _ _ (by rw[wD,hi]) pK) (Jg _ _ f rfl)) ?_;rw[show R 49 '仓'=_ from table_of g 9,b]
def n1:S "one"∈nm9:=by decide+kernel
def n2:S "two"∈nm9:=by decide+kernel
def pW(t:Ap):op2 .ne (tD t) (tD t)=.ok C4:=zI _ QbV
def tD_eq(t:Ap):op2 .eq (tD t) (tD t)=.ok CW:=fZ _ QbV
noncomputable def aD (a:Ac):D:=.tup DL
def inB:Sx:=match yS with
 |.lift (.loop _ _ _ _ (.seq _ (.loop _ _ _ _ b)))=>b
 |_=>.skip
def Jux(r:Row):∀b:List Str,hit b (mntR hN r)=match b with
  |[]=>Fo
  |w::t=>w==S "new"&&hit t r
 |[]=>rfl
 |w::t=>by
  show(if(w==S "new")=To then(lawM r.ps t).map _ else No).isSome=(w==S "new"&&(lawM r.ps t).isSome)
  cases w==S "new" with
  |false=>rfl
  |true=>rw[if_pos rfl];simp
def inn (B:Ap):List Str->List D
 |[]=>[]
 |w::t=>if w==S "new" then(B.filter (hit t)).map λr=>.str r.l else[]
def gY(B:Ap)(b:Ac):((mkT hN B).filter (hit b)).map (λr:Row=>D.str r.l)=inn B b:=by
 rw[mkT,List.filter_map,Zt];have e:(λr:Row=>D.str r.l)∘mntR hN=λr=>D.str r.l:=rfl;rw[e];have f:hit b∘mntR hN=λr=>match b with
  |[]=>Fo
  |w::t=>w==S "new"&&hit t r:=funext λr=>Jux r b
 rw[f];cases b with
 |nil=>simp[inn]
 |cons w t=>simp only[inn];cases w==S "new"<;>simp
def JuZ(B:Ap)(b:Ac):(inn B b).length<=B.length:=by rw[<-gY,Zi];exact Zq (rM _ _) (by simp[mkT])
def JsP(o:Option Row):(labD o).dep<=20:=by cases o<;>simp[labD,D.dep]
theorem JpW(T:Ap):(D.lst (T.map λr:Row=>D.str r.l)).dep<=20:=by
 have:deps (T.map λr:Row=>D.str r.l)<=0:=zS λd b=>by obtain⟨r,_,rfl⟩:=Zv.mp b;simp[D.dep]
 simp only[D.dep];lia
noncomputable def plO (x:AL):Bool:=match x with
 |none=>To
 |some d=>Ji d
def plE_c(x:AL)(e:Fm):plE (x::e)=(plO x&&plE e):=by cases x<;>rfl
theorem JnE(f:Row->Str):∀T:List Row,Ja (T.map λr=>D.str (f r))=To
 |[]=>rfl
 |r::T=>JnE f T
def Jwn(B:Ap)(b:Ac):Ja (inn B b)=To:=by rw[<-gY];exact JnE XR _
def Jwy(a:Ac):Ji (aD a)=To:=by
 show Ja (a.map XO)=To;induction a with
 |nil=>rfl
 |cons w a b=>exact b
theorem JwD(A:Kn)(ad:Ac):∀l:List Str,Ja (l.map FP)=To
 |[]=>rfl
 |n::l=>by
  show(Ji (.tup Nj)&&_)=To
  rw[JwD A ad l,show Ji (.tup Nj)=To from by cases fnd A ad n<;>rfl];rfl
theorem JuY{A:Ap}(h:BW){here:Ac}(f:∀w∈here,w∈ws9)(x5 x6 j x9 x10 x11:AL):∃q z,(plO q&&plO z)=To/\exD R inB Wx=.ok (.nx,En ns A B Fk Er x5 x6 Qcu q z x10 x11):=by
 have P:=h.na;have hB:=h.nb;have M:=h.tM.ln;have g:∀{l:Ac},(∀w∈l,w∈ws9)->∀w∈l,w∈wsA:=λh w f=>ws_A (h w f);have u:KOk Eo:=kok2 h.tM h.tB;have H:evD R VA
   Wx=.ok SF:=by
  cases here with
  |nil=>exact(e_if (b:=Fo) _ _ rfl).trans rfl
  |cons w t=>
   have e:evD R VQ (En ns A B Fk Er x5 x6 (So (aD (w::t))) j x9 x10 x11)=.ok (.bl (w==S "new")):=by
    refine Jj _ _ (x:=.tup cC) (y:=.tup [.str B0]) ?_ rfl ?_
    ·show Rs.ok (D.tup (cutD (D.str w::t.map XO) No (So 1)))=_;rfl
    ·rw[o_eq _ _ (by simp[D.dep,deps]) (by simp[D.dep,deps])];show Rs.ok (D.bl ((w==S "new")&&To))=_;rw[Bool.and_true]
   have F:evD R (.sl (.var 7) Gg Ei) (En ns A B Fk Er x5 x6 (So (aD (w::t))) j x9 x10 x11)=.ok (aD t):=by show Rs.ok (D.tup (cutD (D.str w::t.map XO) (So 1) No))=_;rw[cut1];rfl
   rw[e_if _ _ e,show inn B (w::t)=(if w==S "new" then(B.filter (hit t)).map λr=>D.str r.l else[])from rfl];cases w==S "new" with
   |false=>rfl
   |true=>exact Jk _ _ (J:=[tD B,aD t]) (Jg _ _ rfl (Jg _ _ F rfl)) (all_rows B h.tB.fine Af t (g λv L=>f v (Zm _ L)) 8)
 have m:=JuZ B here;have G:evD R VM
   Sr=.ok C4:=by
  refine tG _ _ (p:=Fo) ?_ λ_=>?_
  ·refine Jj _ _ (x:=.lst (((mkM A B).filter dG).map λr:Row=>.str r.l)) (y:=.lst (((mkM A B).filter dG).map λr:Row=>.str r.l)) (Jk _ _ (J:=Rh) rfl (all_rows _ QdA Af here (g f) 8)) ?_ (zI _ (JpW _))
   refine Jj _ _ (Jk _ _ (J:=[tD A,aD here]) rfl (all_rows _ h.tA.fine Af here (g f) 8)) (y:=.lst (inn B here)) rfl ?_;rw[JrS _ _ (nH (by have:=rM dG A;simp only[Zi];lia)),mkM,List.filter_append,ZW,gY]
  ·exact Jj _ _ (Jk _ _ (J:=Rh) rfl (Jpg _ QdA Af here f 6)) (Jk _ _ (J:=Rh) rfl (first _ QdA Af here (g f) 7)) (zI _ (JsP _))
 have E:evD R VL
   Sr=.ok (.lst ('թ'.map MA)):=by
  rw[srt2];refine zC _ _ (rs:=Xs) XO MA rfl AB λn m=>?_;have C:n∈nm9:=m;have o:look n Eo=So ((look n Eo).getD []):=uM (by rw[srt2];exact m);have s:=u.tb n _ o;exact uA _ _ (J:=[.str n,labD (fnd Eo here n)]) (Jg _ _ rfl (Jg _ _ (Jk _ _ (J:=[tD ((look n Eo).getD []),aD here]) (Jg _ _ (tabK (i:=4) (a:=a) (dn:=dn) (un:=un) rfl rfl C o) rfl) (first _ s.fine (by have:=s.ln;lia) here (g f) 7)) rfl)) Ad
 have I:evD R VB
   (En ns A B Fk Er x5 x6 Qcu (So SF) (So (.lst ('թ'.map MA))) x10 x11)=.ok C4:=
  Jj _ _ (Jk _ _ (J:=[ob a Eo dn un,aD here]) (Jg _ _ QbW rfl) (lead u (show 2<60 by decide) f 6)) (Jmh (i:=9) (by rw[srt2];decide) _ rfl) (zI _ (Jto _ _))
 refine⟨So SF,So (.lst ('թ'.map MA)),?_,?_⟩
 ·show(Ja (inn B here)&&Ja _)=To;rw[Jwn,JwD];rfl
 show exD R (.seq _ (.seq _ IU)) _=_;rw[wF _ _ _ H];show exD R (.seq _ IU) Sr=_;rw[wX _ _ _ (jK G),wF _ _ _ E];exact jK I
def outB:Sx:=match yS with
 |.lift (.loop _ _ _ _ b)=>b
 |_=>.skip
def setA7(d:D)(ns:AU)(A B:Ap)(st m g h o l j b f:AL):zA [7] [So d] (En ns A B st m g h o l j b f)=En ns A B st m g h Bd l j b f:=rfl
def Jsh:S "new"∈ws9:=by decide+kernel
theorem JqS{A:Ap}(h:BW)(k:Nat)(x6 x7 x8 x9 x10 x11:AL)(E:(plO x7&&(plO x8&&plO x9))=To):∃u l g j,(plO u&&(plO l&&(plO g&&plO j)))=To/\exD R outB R9=.ok (.nx,En ns A B Fk Er FM u l g j x10 x11):=by
 obtain⟨ps,Y,Z,p3,p4,p5,p7,G⟩:=patS ns (720+60*(k:Int)) Af 2 AB
 obtain⟨ad,z,hl,P⟩:=near ns (700+60*(k:Int)) Af ps Y Af Z
 have o:op2 .mul (.int 60) BQ=.ok (.int (60*k)):=Jxj _ _ (by rw[show smallI 60=To by decide+kernel];rfl)
 have F:evD R WS
   R9=.ok (aD ad):=by
  have e:=Jk R R9 (f:=48) (J:=[ofN ns,.int (700+60*(k:Int)),.tup Ej])
   (as:=.cons Ao VX)
   (Jg _ _ rfl (Jg _ _ O8 (Jg _ _ (Jk _ _ (J:=[ofN ns,.int (720+60*(k:Int)),.int 2]) (Jg _ _ rfl (Jg _ _ O8 rfl)) (G 8)) rfl))) (P 8)
  rw[e_sl,e]
  show Rs.ok (D.tup (cutD (ad.map XO) No (So 7)))=_
  have:cutD (ad.map XO) No (So 7)=ad.map XO:=by
   simp only[cutD,six,Zi,List.drop_zero]
   rw[if_neg 'y']
   exact List.take_of_length_le (by rw[Zi];show ad.length<=min 7 ad.length-0;lia)
  rw[this];rfl
 have L:evD R Sn (En ns A B Fk Er FM HV x7 x8 x9 x10 x11)=.ok (.lst ([ad,S "new"::ad].map aD)):=by
  rw[fE,uA _ _ (J:=[aD ad,aD (S "new"::ad)]) (Jg _ _ rfl (Jg _ _ (Jj _ _ (x:=.tup [.str B0]) (y:=.tup Le) rfl rfl ((yY BR).trans rfl)) rfl)) 'j']
  rfl
 obtain⟨C,W,l,g,j,s,rfl⟩:=uU R inB [7] 0 Sn aD [ad,S "new"::ad]
  (λ_ O=>∃l g j,(plO l&&(plO g&&plO j))=To/\O=En ns A B Fk Er FM HV l g j x10 x11) _ L (by
   rintro U b v O e⟨l,g,j,s,rfl⟩
   have q:b∈[ad,S "new"::ad]:=by rw[e];simp
   have m:∀w∈b,w∈ws9:=by
    rcases Zf.mp q with rfl|q
    ·exact z
    ·rw[yB.mp q]
     intro w m
     rcases Zf.mp m with rfl|m
     ·exact Jsh
     ·exact z w m
   obtain⟨I,H,M,X⟩:=JuY (ns:=ns) h (a:=a) (dn:=dn) (un:=un) m FM HV g j x10 x11
   exact⟨_,rfl,_,by rw[setA7];exact X,So (aD b),I,H,by rw[M];exact qV.mpr ⟨Jwy b,rfl⟩,rfl⟩) ⟨x7,x8,x9,E,rfl⟩
 refine⟨So (aD ad),l,g,j,qV.mpr ⟨Jwy ad,s⟩,?_⟩
 show exD R (.seq _ (.loop _ _ _ _ _)) _=_
 rw[wF _ _ _ F]
 exact W
def b4_ok{A:Ap}(h:BW)(x10 x11:AL):∃y5 y6 y7 y8 y9,(plO y5&&(plO y6&&(plO y7&&(plO y8&&plO y9))))=To/\exO Fo R Q yS (En ns A B Fk Er No No No No No x10 x11)=.ok .nx Mm:=by
 obtain⟨f,q,y5,y6,y7,y8,y9,b,rfl⟩:=Jfg R outB 5 Rl 5 (λ_ O=>∃y5 y6 y7 y8 y9,(plO y5&&(plO y6&&(plO y7&&(plO y8&&plO y9))))=To/\O=En ns A B Fk Er y5 y6 y7 y8 y9 x10 x11) _ rfl AB (by
  rintro k O u⟨y5,y6,y7,y8,y9,b,rfl⟩;simp only[Zc]at b;obtain⟨g,l,o,m,j,s⟩:=JqS (ns:=ns) h (a:=a) (dn:=dn) (un:=un) k y6 y7 y8 y9 x10 x11 (by simp only[Zc];exact b.2.2);exact⟨_,s,So BQ,g,l,o,m,by rw[j];rfl,rfl⟩) ⟨No,No,No,No,No,rfl,rfl⟩
 exact⟨y5,y6,y7,y8,y9,b,mK q⟩
theorem JkL:∀T:List Row,belw (mkT hN T) B0=T
 |[]=>rfl
 |r::T=>by
  have b:=JkL T
  unfold belw mkT at b⊢
  rw[Zg,mF,if_pos (by simp[canB,mntR,hN,Part.fits]),Zg,b]
  rfl
def Jqd(T:Ap)(w:Str):∀r∈belw T w,r.l∈T.map XR:=λr b=>by
 obtain⟨q,f,rfl⟩:=Zv.mp b
 have:(cutR q).l=q.l:=by unfold cutR;split<;>rfl
 rw[this]
 exact nD (uL.mp f).1
theorem b6_ok{A:Ap}(h:BW)(y5 y6 y7 y8 y9 x10 x11:AL):exO Fo R Q JmJ Mm=.ok .nx Mm:=by
 have w:=h.na
 have hB:=h.nb
 have u:=h.tM.ln
 have m:(belw Em B0).length<=8:=Zq (JjT _ _) u
 have g:=eL R Mm (src:=.walk Um)
  (c:=.bi .isin DT VT) (e:=.var 0) (rs:=belw Em B0) XJ (λr=>'么'.any λv=>v==r.l) XJ
  (by rw[fE,Jk _ _ (J:=[tD Em,.str B0]) rfl (below _ Af _ Jsh 8)];rfl) Af λr _=>⟨by
   have o:=JfN R (So r.d::En ns A B Fk Er y5 y6 y7 y8 y9 x10 x11) (src:=.walk (.un .rows CZ)) (e:=.var 0) (rs:=B) (λr:Row=>D.str r.l) (λr=>r.pd) R6 rfl Af λr _=>rfl
   refine Jj _ _ K8 o ?_
   have s:B.map (λr:Row=>D.str r.l)='么'.map XO:=by rw[Zt];rfl
   rw[s,o_inL _ _ (by rw[JfQ];lia) 'Պ',rL]
   rfl,λ_=>rfl⟩
 have j:(belw Em B0).filter (λr=>'么'.any λv=>v==r.l)=B:=by
  have e:belw Em B0=belw A (S "new")++B:=by
   have:=JkL B
   unfold belw at this⊢
   rw[mkM,List.filter_append,ZW,this]
  have b:=h.nd
  rw[mkM,mkT,ZW,Zt,vH]at b
  rw[e,List.filter_append,List.filter_eq_nil_iff.mpr λr f=>?_,kJ]
  ·refine List.filter_eq_self.mpr λr f=>?_
   rw[uH]
   exact⟨r.l,nD f,by simp⟩
  ·rw[uH]
   rintro⟨l,q,e⟩
   exact b.2.2 r.l (Jqd A _ r f) l q (zE e).symm
 rw[j]at g
 refine mK (jK (Jj _ _ g (y:=.lst (B.map XJ)) rfl (zI _ ?_)))
 have:=JiF B
 have e:(D.lst (B.map XJ)).dep=(tD B).dep:=rfl
 lia
theorem b7_ok{A:Ap}(h:BW)(j l m o q b:AL):exO Fo R Q JnV TZ=.ok .nx TZ:=by
 have F:=h.na;have G:=h.tM.ln;have C:∀w∈[S "a",S "new"],w∈ws9:=by decide+kernel
 have f:=h.nd;have s:(A.map XR).Nodup:=by rw[mkM,ZW,vH]at f;exact f.1
 have g:∀{T:Ap}{i:Nat},KRs 6 T->'乇'.Nodup->(En ns A B Fk Er j l m o q Lr b)[i]? =So (So (tD T))->
   evD R (.bi Eg (.un .dictP (.call 41 (.cons B3 TV))) Ei) TZ=.ok (.int (nLed G8 T 2 No)):=fun{T i}u v z=>by
  have e:=tall G8 C AB T u AB 2 AB 6;have E:=u.2;refine Jj _ _ (x:=pQ (los T) (nLed G8 T 2)) (y:=labO No) (JE _ _ (Jk _ _ (J:=[tD T,aD G8,.int 2]) (Jg _ _ (by rw[wD,z]) rfl) e) (Jvg (los T) (JlS v) (by unfold los;simp;lia) _)) rfl (Jpi _ _ ?_);unfold los;simp
 refine mK (jK (Jj _ _ (g (i:=4) h.krM f rfl) (g (i:=1) h.krA s rfl) ?_));rw[o_gt,Zs];have:=JmK G8 A (mkT hN B) 2;show¬(nLed _ A 2 No<nLed _ (A++mkT hN B) 2 No);lia
def iY{e:Px}{d:D}(h:evD R e O=.ok d):exO Fo R Q (.lift (.set Fo i e)) O=.ok .nx E9:=mK (by simp only[exD,h,Rs.bo,gC,Zl,ZF])
theorem JqM(ns:AU)(hl:AK<=63):RL R Q Rr (JC 12 Qds):=by
 obtain⟨A,hA,lA,nA,tA⟩:=table ns 100 AB 2 AB 3 AB;obtain⟨C,Z,L,nC,tC⟩:=table ns 400 AB 2 AB 3 AB;have h:Two A LA:=⟨hA,lA,nA,C,rfl,Z,L,nC⟩;have w:evD R VN
   Wj=.ok (tD LA):=by
  refine JE _ _ (JfN _ _ (rs:=C) (λr:Row=>D.str r.l) (λr=>r.pd) (λr=>(oR r).d) ?_ Af λr hr=>?_) (by rw[tD,Zt];rfl)
  ·rw[fE,JE _ _ (x:=tD C) (Jk _ _ (J:=[ofN ns,.int 400,.int 2,.int 3]) rfl (tC 7)) rfl]
   rfl
  ·exact uA _ _ (J:=[.str (S "o"++r.l),r.pd]) (Jg _ _ (Jj _ _ rfl rfl (o_at r.l (uZ L r hr))) Qba) Ad
 refine⟨Wj,iY (Jk _ _ (J:=[ofN ns,.int 100,.int 2,.int 3]) rfl (tA 7)),En ns A LA No No No No No No No No No,iY w,?_⟩;generalize C.map oR=B at h;clear w;refine⟨Jxe ns A B (e:=[No,No,No,No,No,No,No,No]) rfl,λa=>?_⟩;have hM:=h.tM;have p1:Ja Pq=To:=by simp[Ja,stp,Ji,optT,JS]
 have z:Ja Lo=To:=by simp[Ja,stp,Ji,optT,JS]
 have q2:put FO B HK=kn2 A B:=JmU (by show S "two"∉[S "one"];decide+kernel);have l2:look FO HK=No:=by simp[look,Jo]
 have m0:Q 2 S8 [.str El,tD A]=.ok C4 Mq:=m_put dn0 AB AB n1 9;have m1:Q 2 Mq [.str FO,tD B]=.ok C4 Tf:=by have:=m_put (a:=a) (A:=HK) (dn:=Pq) (un:=[]) (t:=B) ⟨p1,by simp,rfl⟩ Ad Ad n2 9;rw[q2,l2]at this;exact this
 have M:Q 3 Tf Vw=.ok DJ (ob a Eo (Lo++[stp CV El (So A) DJ]) []):=by have:=m_mount (a:=a) (A:=kn2 A B) (dn:=Lo) (un:=[]) (hs:=hN) ⟨z,by simp,rfl⟩ Ad (show 2<1000 by decide) (kok2 h.tA h.tB) n1 n2 JvS AB 4;simp only[rQ,Jym,h.ok,if_true]at this;rw[show A++mkT hN B=mkM A B from rfl,put1]at this;exact this
 have q:∀(e:Fm),plE e=To->∀J,Ja J=To->(plE (So Cq::So (tD A)::So (tD B)::No::e)&&Ja J)=To:=λe G J hd=>by rw[Jxe ns A B G,hd];rfl
 refine⟨En ns A B (So Mq) No No No No No No No No,gK (O:=En ns A B (So S8) No No No No No No No No) (i:=3) (J:=[.str El,tD A]) rfl rfl (q _ rfl _ (by simp[Ja,Ji,JS])) m0,?_⟩;refine⟨En ns A B (So Tf) No No No No No No No No,gK (O:=En ns A B (So Mq) No No No No No No No No) (i:=3) (J:=[.str FO,tD B]) rfl rfl (q _ rfl _ (by simp[Ja,Ji,JS])) m1,?_⟩;generalize hs:Lo=dn at z M;have F:dn.length=2:=by rw[<-hs];rfl
 refine⟨En ns A B Hs Er No No No No No No No,?_,?_⟩
 ·have e:=xX (U:=R) (bc:=Q) (r:=Fo) (f:=3) (i:=3) (ns:=nsS) (p:=.cons Lz YO)
   (O:=En ns A B (So (ob a (kn2 A B) dn [])) No No No No No No No No) rfl (J:=Vw) rfl (q _ rfl _ (by simp[Ja,Ji,hN,Part.d])) M
  simp only[Jol,exO,e,Rx.next,JS,Jwf,Bool.and_self,if_true];rfl
 have H:KOk Eo:=kok2 hM h.tB;have t3:evD R WT
   (En ns A B Hs Er No No No No No No No)=.ok C4:=
  tG _ _ (p:=Fo) (Jj _ _ (x:=tD Em) rfl (tabK (i:=3) (a:=a) (dn:=dn++[stp CV El (So A) DJ]) (un:=[]) rfl rfl n1 (rQ Em B)) (pW _)) λ_=>Jj _ _ (tabK (i:=3) (a:=a) (dn:=dn++[stp CV El (So A) DJ]) (un:=[]) rfl rfl n2 (Jym Em B)) (y:=tD B) rfl (pW _)
 refine⟨_,mK (jK t3),?_⟩;obtain⟨b,g,l,m,j,X,g4⟩:=b4_ok (ns:=ns) h (a:=a) (dn:=dn++[stp CV El (So A) DJ]) (un:=[]) No No;refine⟨_,g4,En ns A B Hs Er b g l m j Lr No,iY rfl,?_⟩;refine⟨_,b6_ok h b g l m j Lr No,_,b7_ok h b g l m j No,?_⟩;refine⟨[.str (mkS (stx Eo))],?_,rfl,λo=>?_⟩
 ·exact Jg _ _ (Jl _ _ (x:=ob a Eo Uj []) rfl (site_text H 6)) rfl
 refine⟨_,JxK H o,?_⟩;obtain⟨u,G,_⟩:=Jnq H;have kz:kys (srt Eo)=Xs:=by rw[vS,srt2]
 have t0:evD R VJ
   (En ns A B Hs Er b g l m j Lr (So (ob o (srt Eo) [] [])))=.ok C4:=by
  refine tG _ _ (p:=Fo) (Jj _ _ (vW u.nd (by have:=u.len;lia) 11 (i:=11) rfl) (y:=.lst [.str El,.str FO]) rfl ?_) λ_=>Jj _ _ (tabK (i:=11) (a:=o) (dn:=[]) (un:=[]) rfl rfl n1 ((G _).trans (rQ Em B))) (y:=tD Em) rfl (pW _);rw[kz,show Jn 'Ʋ'='Ʋ' by decide+kernel];exact zI _ Ab
 refine⟨_,mK (jK t0),?_⟩;have v:put El A Eo=kn2 A B:=put1 _ _ _;have E:Q 5 (ob a Eo Uj []) []=.ok (.str CV) Lk:=by
  have ps:Ja Th=To:=by simp[Ja,stp,Ji,optT,JS]
  refine m_back (s:=⟨S "mount",S "one",So A,So Em⟩) z rfl Ad 9 ?_;have:=mT (a:=a) (A:=kn2 Em B) (dn:=dn) (un:=Th) (n:=S "one") (t:=A) ⟨z,by lia,ps⟩ (show 2<1000 by decide) 9;rw[v]at this;exact this
 refine⟨En ns A B (So Lk) Er b g l m j Lr No,?_⟩;have I:plE (So DJ::b::g::l::m::j::[So (aD G8),No])=To:=by simp only[Zc]at X;obtain⟨q5,q6,q7,q8,q9⟩:=X;simp only[plE_c,q5,q6,q7,q8,q9,lG];show(Ji DJ&&To)=To;rw[JS];rfl
 have W:=xX (U:=R) (bc:=Q) (r:=Fo) (f:=5) (i:=3) (p:=.nil) (J:=[]) (O:=En ns A B Hs Er b g l m j Lr No) rfl rfl (q _ I [] rfl) E;rw[show List.set 'Ҵ' 3 (So Lk)=En ns A B (So Lk) '2' b g l m j 'ú' No from rfl]at W;have P:evD R NT Wa=.ok CW:=
  Jj _ _ (tabK (i:=3) (a:=a) (dn:=dn) (un:=Th) rfl rfl n1 (rQ A B)) (y:=tD A) rfl (tD_eq _)
 have Y:evD R W1 Wa=.ok CW:=by refine Jj _ _ (x:=.tup [.int dn.length,.int 1]) (Jl _ _ QbW rfl) (y:=.tup [.int 2,.int 1]) rfl ?_;rw[F];exact fZ _ Ab
 show exO Fo R Q (.retB (.and (.bi .eq _ _) (.and _ _))) 'Ҵ'=_;rw[exO,evB,evB,W];simp only[Rx.bind,evB,P,Y,Rx.of,Rx.next,xW];rw[show Ji (D.str CV)=To from rfl,if_pos rfl,show op2 .eq (.str CV) (.str KQ)=.ok 'J' from fZ _ 'b'];dsimp only;rw[P];dsimp only;rw[Y]
end K75
namespace K75
open PySem PySem.Spec PyProof.Rows L2 Pu Rd
variable{mg:Bk}
noncomputable abbrev row:Program:=PySem.Challenge.pw_routeboard_k75_whole_sites_and_tables
noncomputable def stAt (i:Nat):Stmt:=row.main.body.getD i Pi
noncomputable abbrev Jde:Stmt:=kE C7 1
noncomputable abbrev Jfb:Stmt:=kE C7 2
noncomputable abbrev Jrq:Stmt:=kE C7 3
noncomputable abbrev Jka:Stmt:=kE C7 6
noncomputable abbrev iN:Stmt:=kE C7 9
noncomputable abbrev Nm_go:List Str:=Wt
noncomputable abbrev eT:Stmt:=kE C7 10
noncomputable abbrev Jvo:List Str:=[Ek]
noncomputable abbrev Jjg:Stmt:=kE C7 4
noncomputable abbrev JsT:Stmt:=kE C7 7
noncomputable abbrev JqJ:Stmt:=kE C7 8
noncomputable abbrev JlX:Stmt:=kE C7 12
noncomputable abbrev zY:Stmt:=kE C7 0
noncomputable abbrev gR:Stmt:=stAt 76
noncomputable abbrev Jwp:List Str:=[BI,(oS "_law_one"),(oS "_law_other"),(oS "_law_site"),Rw,G2,(oS "_law_address"),(oS "_law_here"),(oS "_law_inner"),(oS "_law_told"),(oS "_law_words"),(oS "_law_again")]
noncomputable abbrev T:List DefE:=[((oS "is_text_of"),stAt 17,Pp),
 ((oS "is_word"),stAt 18,[DQ]),
 ((oS "is_name"),stAt 19,[DQ]),
 ((oS "is_tuple_of"),stAt 20,Po),
 ((oS "are_words"),stAt 21,[QdY]),
 ((oS "has_twice"),stAt 22,[L0]),
 ((oS "are_rising_words"),stAt 23,[DQ]),
 ((oS "is_part"),stAt 24,[DQ]),
 ((oS "is_hole"),stAt 25,[GU]),
 ((oS "hole_names"),stAt 26,[CT]),
 ((oS "is_pattern"),stAt 27,[DQ]),
 ((oS "is_row"),stAt 28,[DQ]),
 ((oS "is_table"),stAt 29,[DQ]),
 ((oS "has_rest"),stAt 31,[CT]),
 ((oS "writes_number"),stAt 32,[Dp]),
 ((oS "lets_by"),stAt 33,[GU,Dp]),
 ((oS "has_fitting_length"),stAt 34,[CT,GT]),
 ((oS "does_match"),stAt 35,[CT,Gb]),
 ((oS "all_rows"),stAt 37,Gj),
 ((oS "first"),stAt 38,Gj),
 ((oS "mounted"),stAt 40,[MO,Es]),
 ((oS "joined"),stAt 41,[dH,MN]),
 ((oS "can_begin"),stAt 42,[CT,Dp]),
 ((oS "without_first_word"),stAt 43,[CT]),
 ((oS "below"),stAt 44,[Es,Dp]),
 ((oS "label_by_words"),stAt 45,Gj),
 ((oS "written_part"),stAt 48,[GU]),
 ((oS "with_slashes"),stAt 49,[(oS "texts")]),
 ((oS "written"),stAt 50,[CT]),
 ((oS "between_slashes"),stAt 51,[B4]),
 ((oS "read_part"),stAt 52,[B4]),
 ((oS "read"),stAt 53,[B4]),
 ((oS "written_row"),stAt 54,[(oS "row")]),
 ((oS "written_table"),stAt 55,[Es]),
 ((oS "lines_of"),stAt 56,[B4]),
 ((oS "read_row"),stAt 57,[bY]),
 ((oS "read_table"),stAt 58,[B4]),
 ((oS "site_text"),stAt 61,[bZ]),
 ((oS "tables_by_heads"),stAt 62,[B4]),
 ((oS "name_in"),stAt 63,[LM]),
 ((oS "tallies_below"),stAt 66,[Es,LZ,GT]),
 ((oS "tallies"),stAt 67,[Es,LZ,GT]),
 ((oS "_law_cell"),stAt 69,[BI,G2]),
 ((oS "_law_pick"),stAt 70,[BI,G2,Rv]),
 ((oS "_law_part"),stAt 71,[BI,DC,Qbb]),
 ((oS "_law_pattern"),stAt 72,[BI,DC,MP]),
 ((oS "_law_table"),stAt 73,[BI,DC,MP,Qbc]),
 ((oS "_law_any_word"),stAt 74,[BI,DC]),
 ((oS "_law_near"),stAt 75,[BI,DC,Ql])]
noncomputable abbrev B_:List Str:=[(oS "all"),HH,(oS "dict"),(oS "enumerate"),(oS "isinstance"),(oS "len"),(oS "list"),(oS "range"),(oS "set"),(oS "sorted"),(oS "str"),(oS "tuple"),(oS "zip")]
structure Env(G:Gw)(U:Ag):Prop where
 f:∀i{n},T[i]?.map (·.1)=So n->Callee G U i n
 b:BlN G.mg B_
 c_FIGURES:vC G Q4 QaP
 c_LETTERS:vC G Q3 QaO
 c_MOST_CHOICES:vC G SE Gn
 c_MOST_LETTERS:vC G SD Gn
 c_MOST_PARTS:vC G RM Qc6
 c_MOST_ROWS:vC G Ru bJ
 c_MOST_SIGNS:vC G RK bJ
 c_NAME_ONLY_HOLES:vC G S1 Tc
 c_SIGNS:vC G HU (.tup Lq)
 c_WORD_SIGNS:vC G RJ QaN
 k_T:NoKT G.K
 x_NoBack:ExcC G G3
 x_NoSite:ExcC G K0
 x_NoText:ExcC G Lp
 x_TooMany:ExcC G Kj
 F_done:FldC G Ko
 F_tables:FldC G HF
 F_undone:FldC G KJ
 p_table_of:CalleeP G U 49 BX QbX
 p_lead:CalleeP G U 50 BX (oS "lead")
 p_names:CalleeP G U 51 BX L0
 p_counts:CalleeP G U 52 BX Mi
theorem blm{x:Str}:∀{T:Ac},BlN mg T->x∈T->mg x=No
 |_::_,b,.head _=>b.1
 |_::_,b,.tail _ h=>blm b.2 h
noncomputable abbrev NL:List NM:=[(Pp,[]),
 FR,
 FR,
 (Po,[]),
 ([QdY],[]),
 ([L0],[]),
 FR,
 FR,
 ([GU],[]),
 LL,
 FR,
 FR,
 FR,
 LL,
 ([Dp],[]),
 ([GU,Dp],[]),
 ([CT,GT],[]),
 ([CT,Gb],[]),
 (Gj,[]),
 ([Es,Gb,(oS "labels")],[]),
 ([MO,Es,Kl],[]),
 ([dH,MN,Kl],[]),
 ([CT,Dp],[]),
 LL,
 ([Es,Dp],[]),
 ([Es,Gb,Dp],[]),
 ([GU,(oS "kind"),(oS "sign")],[]),
 ([(oS "texts")],[]),
 LL,
 ([B4],[]),
 ([B4,(oS "kind"),(oS "sign"),QdZ],[]),
 ([B4,CT],[]),
 ([(oS "row")],[]),
 ([Es],[]),
 ([B4],[]),
 ([bY,QdZ],[]),
 ([B4,Es],[]),
 ([bZ],[]),
 ([B4,(oS "found"),LM,bY],[1]),
 ([LM,Fg],[]),
 ([Es,LZ,GT,Mi,(oS "turn"),(oS "further"),Kl,(oS "count"),Dp,(oS "left")],[5]),
 ([Es,LZ,GT,Mi,Kl,(oS "count"),(oS "label")],[3]),
 ([BI,G2],[]),
 ([BI,G2,Rv,(oS "_law_drawn")],[]),
 ([BI,DC,Qbb,(oS "_law_pool"),QbY,(oS "_law_some")],[]),
 ([BI,DC,MP,(oS "_law_names"),Rw],[4]),
 ([BI,DC,MP,Qbc,(oS "_law_labels"),Rv],[]),
 ([BI,DC],[]),
 ([BI,DC,Ql,Rw,G2,(oS "_law_part_here"),QbY],[3])]
structure EnvB(G:Gw)(U:Ag)(bc:AI):Prop extends Env G U where
 m_set_table:CalleeB G bc 0 BX Rt
 m_do_step:CalleeB G bc 1 BX Q2
 m_put:CalleeB G bc 2 BX LC
 m_mount:CalleeB G bc 3 BX KQ
 g_go:CalleeG G bc 4 BX aF
 m_back:CalleeB G bc 5 BX (oS "back")
structure EnvL(G:Gw)(U:Ag)(bc:AI)(R:DI):Prop extends EnvB G U bc where
 mkS:MakeS G
 q_rs:CalleeQ G R Qbd
noncomputable abbrev TM5:List MethE:=[(Rt,O7,Jde,KN),(Q2,Ol,Jfb,RH),(LC,QbZ,Jrq,KN),(KQ,Qaq,Jka,NC)]
noncomputable abbrev TM:List MethE:=[(Rt,O7,Jde,KN),(Q2,Ol,Jfb,RH),(LC,QbZ,Jrq,KN),(KQ,Qaq,Jka,NC),(aF,Qcv,iN,VE),((oS "back"),(oS "Site.back"),eT,[Ek])]
noncomputable abbrev TP:List MethE:=[(QbX,(oS "Site.table_of"),Jjg,[Ek,Fg]),((oS "lead"),(oS "Site.lead"),JsT,[Ek,Gb]),(L0,(oS "Site.names"),JqJ,[Ek]),(Mi,(oS "Site.counts"),JlX,[Ek])]
noncomputable abbrev NM_:List I0:=[KN,RH,[Ek,Fg,Es,(oS "had_one")],[Ek,Fg,MO,MN,dH,Es],Wt,[Ek]]
noncomputable abbrev NP:List I0:=[[Ek,Fg],[Ek,Gb,(oS "led_to")],[Ek],[Ek]]
def dAll{X:Cx}{G:Gw}{U:Ag}{a:Hp}:(∀E:Env G U,DAll X G U a T NL defs/\JxU X G U a TP NP (defs.drop 49))/\∀{bc:AI}(E:LI)(e:PlO a),Jxx X G U bc a TM5 NM_ bdefs:=by
 refine⟨λE=>GP,λE e=>?_⟩;all_goals repeat' (refine iD (λC b=>?_) ?_)
 all_goals try exact ZT
 all_goals conv=>(arg 2;whnf)
 all_goals first|conv=>(arg 3;arg 7;whnf)|conv=>(arg 3;arg 5;whnf)
 repeat' (first
  |with_reducible assumption
  |((with_reducible show _=_);first|exact(by decide+kernel)|exact rfl|exact blm E.b (by decide+kernel))
  |((with_reducible show PE _ _ _);with_reducible (first|refine@vV _ _ _ _ _ _ _ C _ ?_|refine@JB _ _ _ _ _|refine@cF _ _ _ _ _ _ _ _ _ _ _ C _ ?_ ?_ ?_ ?_ ?_|refine@JG _ _ _ _ _|refine@eIx _ _ _ _ _ _ _ ?_ ?_ ?_|refine@eAdd _ _ _ _ _ _ _ ?_ ?_|refine@wM _ _ _ _ _ _ _ _ _ _ _ _ _ _ _ C ?_ ?_ ?_ ?_ ?_ ?_|refine@gE _ _ _ _ _ _ ?_|refine@cLen _ _ _ _ _ _ _ _ _ C ?_ ?_ ?_ ?_|refine@vG _ _ _ _ _ _ _ C _ ?_ ?_|refine@nY _ _ _ _ _ ?_|refine@xQ _ _ _ _ _|refine@qI _ _ _ _ _|refine@eMul _ _ _ _ _ _ _ ?_ ?_|refine@JrQ _ _ _ _ _ _ _ _ _ C ?_ ?_ ?_ ?_|refine@Jyh _ _ _ _ _ _ _ _ ?_ ?_|refine@JwM _ _ _ _ _ _ _ _ _ C ?_ ?_ ?_|refine@cAll _ _ _ _ _ _ _ _ _ C ?_ ?_ ?_ ?_|refine@Jxl _ _ _ _ _ _ ?_|refine@jU _ _ _ _ ?_ _ _ _ _ _ ?_ ?_ ?_|refine@eEq _ _ _ _ _ _ _ _ _ _ C ?_ ?_|refine@eMod _ _ _ _ _ _ _ ?_ ?_|refine@cJoin _ _ _ _ _ _ _ _ _ ?_ ?_ ?_ ?_|refine@cStrt _ _ _ _ _ _ _ _ ?_ ?_ ?_ ?_ ?_ ?_|refine@eIn _ _ _ _ _ _ _ _ _ _ C ?_ ?_ ?_|refine@JvK _ _ _ _ _ _ _ _ _ ?_ ?_ ?_|refine@JxN _ _ _ _ _ ?_|refine@lY _ _ _ _|refine@xR _ _ _ _ _ _ _ ?_|refine@cM _ _ _ _ _ _ _ _ _ _ _ _ _ _ _ _ _ _ ?_ C ?_ ?_ ?_ ?_ ?_ ?_ ?_ ?_|refine@JvE _ _ _ _ _ _ _ _ ?_ ?_ ?_ ?_ ?_ ?_|refine@Jxa _ _ _ _ _ ?_|refine@eGetZ _ _ _ _ _ _ _ _ _ _ _ _ C _ ?_ ?_ ?_ ?_ _ ?_|refine@cP _ _ _ _ _ _ _ _ _ _ _ _ _ _ _ _ ?_ C ?_ ?_ ?_ ?_ ?_ ?_ ?_|refine@eSub _ _ _ _ _ _ _ ?_ ?_|refine@cPart _ _ _ _ _ _ _ _ ?_ ?_ ?_ ?_ ?_ ?_|refine@cIsi _ _ _ _ _ _ _ _ _ _ _ _ _ Jnf C ?_ ?_ PyProof.Rows.boot_str ?_ ?_ ?_ ?_ ?_ ?_|refine@cIsi _ _ _ _ _ _ _ _ _ _ _ _ _ JtE C ?_ ?_ PyProof.Rows.boot_tuple ?_ ?_ ?_ ?_ ?_ ?_|refine@eGt _ _ _ _ _ _ _ ?_ ?_|refine@eLt _ _ _ _ _ _ _ ?_ ?_|refine@Jpp _ _ _ _ _ _ _ _ _ _ _ _ _ ?_ ?_ ?_ ?_ ?_ ?_|refine@eX _ _ _ _ _ _ _ _ _ _ C _ ?_ ?_ ?_ ?_|refine@cP0 _ _ _ _ _ _ _ _ _ _ _ _ _ ?_ C ?_ ?_ ?_ ?_|refine@eDiv _ _ _ _ _ _ _ ?_ ?_|refine@cEnds _ _ _ _ _ _ _ _ ?_ ?_ ?_ ?_ ?_ ?_|refine@cAny _ _ _ _ _ _ _ _ _ C ?_ ?_ ?_ ?_|refine@eGe _ _ _ _ _ _ _ ?_ ?_|refine@eNe _ _ _ _ _ _ _ _ _ _ C ?_ ?_|refine@JtJ _ _ _ _ _ _ _ _ _ _ _ C ?_ ?_ ?_ ?_ ?_ ?_|refine@pI_or _ _ _ _ _ _ _ _ ?_ ?_|refine@JtC _ _ _ _ _ _ _ _ _ _ _ C ?_ ?_ ?_ ?_ ?_ ?_|refine@eDIn _ _ _ _ _ _ _ _ _ _ C _ ?_ ?_ ?_ ?_|refine@eDsp1 _ _ _ _ _ _ _ _ _ _ C ?_ ?_ ?_|refine@eFst _ _ _ _ _ _ _ ?_ ?_|refine@cSrtD _ _ _ _ _ _ _ _ _ C ?_ ?_ ?_ ?_|refine@JyA _ _ _|refine@eGetN _ _ _ _ _ _ _ _ _ _ _ C ?_ ?_ ?_ ?_|refine@jJ _ _ _ _ ?_ ?_))
  |((with_reducible show PA _ _ _);with_reducible (first|refine@Jc _ _ _ _ _ _ ?_ ?_ ?_|refine@Jm _ _))
  |((with_reducible show PSs _ _ _);with_reducible (first|refine@sE _ _ _ _ _ _ ?_|refine@wN _ _ _ _ _ _ _ _ ?_ ?_|refine@yF _ _ _ _|refine@kS _ _ _ _ _ _ _ _ _ _ ?_ ?_|refine@gH _ _ _ _ _ _ _ _ ?_|refine@JfU _ _ _ _ _ _ _ _ ?_))
  |((with_reducible show PS _ _ _);with_reducible (first|refine@wI _ _ _ _ _ _ _ ?_|refine@lI _ _ _ _ _ _ _ _ _ _ _ ?_ ?_ ?_|refine@JwQ _ _ _ _ _ _ _ _ _ _ _ _ _ _ _ _ _ _ _ _ _ C ?_ ?_ ?_ ?_ ?_ ?_ ?_ ?_|refine@aSet _ _ _ _ _ _ _ _ _ _ _ _ _ C ?_ ?_ ?_ ?_|refine@Jfx _ _ _ _ _ _ _ _ _ _ _ _ _ C ?_ ?_ ?_ ?_|refine@qX _ _ _ _ _ _ _ _ _ _ _ _ _ _ _ C ?_ ?_ ?_ ?_ ?_ ?_|refine@aApp _ _ _ _ _ _ _ _ _ _ _ _ _ _ _ C ?_ ?_ ?_ ?_ ?_|refine@bSet _ _ _ _ _ _ _ _ _ _ _ _ _ _ C ?_ ?_ ?_|refine@qN _ _ _ _ _ _ _ _ _ ?_ ?_|refine@uW _ _ _ _ _ _ _ _ _ _ _ _ _ ?_ ?_ ?_|refine@mX _ _ _ _ _ _ _ _ _ ?_|refine@JvM _ _ _ _ _ _ _ _ _ _ _ _ C ?_ ?_|refine@aPutM _ _ _ _ _ _ _ _ _ _ _ _ _ _ _ _ C _ ?_ ?_ ?_ ?_ ?_|refine@lX _ _ _ _ _ _ _ _ _ _ _ _ _ _ C ?_ ?_ ?_ ?_|refine@aExt _ _ _ _ _ _ _ _ _ _ _ _ _ _ _ C ?_ ?_ ?_ ?_ ?_|refine@aOwnC _ _ _ _ _ _ _ _ _ _ _ _ _ _ _ _ _ _ _ _ _ C ?_ ?_ ?_ ?_ ?_ ?_ ?_|refine@aOwn _ _ _ _ _ _ _ _ _ _ _ _ _ C ?_ ?_ ?_|refine@aPut _ _ _ _ _ _ _ _ _ _ _ _ _ _ _ _ C _ ?_ ?_ ?_ ?_ ?_ ?_ ?_|refine@Jxh _ _ _ _ _ _ _ _ _ _ _ _ C ?_ ?_|refine@aRetF _ _ _ _ _ _ _ _ _ _ _ C ?_|refine@aMovF _ _ _ _ _ _ _ _ _ _ _ _ _ _ C ?_ ?_ ?_|refine@bAppF _ _ _ _ _ _ _ _ _ _ _ _ _ _ _ _ _ C ?_ ?_ ?_ ?_ ?_ ?_ ?_ ?_|refine@bNewL _ _ _ _ _ _ _ _ _ _ _ _ _ _ C ?_ ?_ ?_ ?_|refine@bPutK _ _ _ _ _ _ _ _ _ _ _ _ _ _ _ _ _ _ C ?_ ?_ ?_ ?_ ?_ ?_ ?_|refine@bPopK _ _ _ _ _ _ _ _ _ _ _ _ _ _ _ _ _ C ?_ ?_ ?_ ?_ ?_ ?_|refine@aAugK _ _ _ _ _ _ _ _ _ _ _ _ _ _ _ _ _ C ?_ ?_ ?_ ?_ ?_))
  |((with_reducible show PT _ _ _);with_reducible (first|refine@tEq _ _ _ _ _ _ _ _ _ _ C ?_ ?_|refine@JrE _ _ _ _ _ ?_|refine@sZ _ _ _ _ _ _ _ ?_|refine@JvG _ _ _ _ _ _ _ ?_|refine@tGt _ _ _ _ _ _ _ ?_ ?_|refine@tLt _ _ _ _ _ _ _ ?_ ?_|refine@Jml _ _ _ _ _ _ _ ?_|refine@tGe _ _ _ _ _ _ _ ?_ ?_|refine@tIn _ _ _ _ _ _ _ _ _ _ C ?_ ?_ ?_|refine@tNe _ _ _ _ _ _ _ _ _ _ C ?_ ?_|refine@tDNi _ _ _ _ _ _ _ _ _ _ C _ ?_ ?_ ?_ ?_|refine@JrL _ _ _ _ ?_ ?_|refine@PW.pt _ _ _ ?_))
  |((with_reducible show PI _ _ _ _);with_reducible (first|refine@uN _ _ _ _ _ _ ?_|refine@Jhu _ _ _ _ _ _ _ _ _ _ C ?_ ?_ ?_ ?_|refine@pZ _ _ _ _ _ _ _ ?_|refine@JxM _ _ _ _ _ _ _ _ _ _ _ _ _ _ C ?_ ?_ ?_ ?_ ?_ ?_|refine@JoV _ _ _ _ _ _ _ _ _ ?_ ?_ ?_|refine@Jtj _ _ _ _ _ _ _ _ _ _ _ _ C ?_ ?_ ?_ ?_))
  |((with_reducible show PW _ _ _);with_reducible (first|refine@tR _ _ _ _ _ _ ?_|refine@zQ _ _ _ _ _ _ _ _ ?_ ?_))
  |((with_reducible show True);exact ZT)
  |((with_reducible show CalleeP _ _ _ _ _);first|exact E.p_table_of|exact E.p_lead|exact E.p_names|exact E.p_counts)
  |((with_reducible show FldC _ _);first|exact E.F_done|exact E.F_tables|exact E.F_undone)
  |((with_reducible show CalleeB _ _ _ _ _);first|exact E.m_set_table|exact E.m_do_step|exact E.m_put|exact E.m_mount|exact E.m_back)
  |((with_reducible show M1 _ _ _ _ _ _);exact⟨rfl,rfl,rfl,rfl⟩)
  |((with_reducible show _=To->NoKT _);first|(intro _;exact E.k_T)|(intro z;cases z))
  |((with_reducible show NoKT _);exact E.k_T)
  |((with_reducible show ExcC _ _);first|exact E.x_NoBack|exact E.x_NoSite|exact E.x_NoText|exact E.x_TooMany)
  |with_reducible intro _ C
  |((with_reducible intro _);exact rfl)
  |((with_reducible show _≠_);exact(by decide+kernel))
  |((with_reducible show _<=_);exact(by decide+kernel))
  |((with_reducible show qS _);intro _ _;exact rfl)
  |((with_reducible show NoSl _);intro _ _;exact rfl)
  |((with_reducible show M2 _ _ _ _ _ _ _);exact⟨rfl,rfl,rfl,rfl⟩)
  |((with_reducible show OpR _ _ _);first|exact JxA|exact uX|exact rX|exact sX)
  |((with_reducible show Callee _ _ _ _);exact E.f _ rfl)
  |((with_reducible show vC _ _ _);first|exact E.c_FIGURES|exact E.c_LETTERS|exact E.c_MOST_CHOICES|exact E.c_MOST_LETTERS|exact E.c_MOST_PARTS|exact E.c_MOST_ROWS|exact E.c_MOST_SIGNS|exact E.c_NAME_ONLY_HOLES|exact E.c_SIGNS|exact E.c_WORD_SIGNS)
  |((with_reducible show TgOk _ _ _ _);first|exact gOne C (by decide+kernel)|exact gTwo C (by decide+kernel) (by decide+kernel))
  |((with_reducible show PG _ _ _);first|exact lOne C (by decide+kernel)|exact lTwo C (by decide+kernel) (by decide+kernel)|exact lThree C (by decide+kernel) (by decide+kernel) (by decide+kernel))
  |with_reducible exact b.pass|with_reducible (first|refine@pS _ _|refine@iS _ _ _ _ ?_|refine@yR _ _|refine@wY _ _ _ _ ?_|refine@Jun _ _|refine@Jpf _ _ _ _ _ _ _ ?_ ?_ ?_|refine@Jum _ _ _ _ _ _ _ ?_))
section
variable{X:Cx}{G:Gw}{U:Ag}{bc:AI}{H0:Hp}
def dm_go(E:LI)(C:Ctx X G Nm_go (Jd iN).names)(b:HX X (Jd iN).names)(a:A4):PSs X (Jp iN) (tGo X bc H0 0 G3 nsS):=by refine Jwc (U:=U) (pm:=.nil) a GY ?_ ?_ ?_ ?_ ?_;refine@tEq _ _ _ _ _ _ _ _ _ _ C ?_ JB;refine@cLen _ _ _ _ _ _ _ _ _ C ET ?_ Ab rfl;exact vV C Ab;intro _;refine@sE _ _ _ _ _ _ ?_;exact@Jfx _ _ _ _ _ _ _ _ _ _ _ _ _ C E.x_NoBack Ab (@xQ _ _ _ _ _) rfl;exact gPop C Ab Ab rfl;exact gApp C Ab Ab rfl;refine@kS _ _ _ _ _ _ _ _ _ _ ?_ ?_;refine@qN _ _ _ _ _ _ _ _ _ ?_ rfl;refine@cM _ _ _ _ _ _ _ _ _ _ _ _ _ _ _ _ _ _ _ C a E.m_set_table Ab Ab ?_ rfl rfl rfl;refine@Jc _ _ _ _ _ _ ?_ ?_ rfl;refine@eIx _ _ _ _ _ _ _ ?_ JB (λ_ _=>rfl);exact vV C Ab;refine@Jc _ _ _ _ _ _ ?_ Jm rfl;refine@eIx _ _ _ _ _ _ _ ?_ ?_ CM;exact vV C Ab;exact vV C Ab;refine@gH _ _ _ _ _ _ _ _ ?_;refine@mX _ _ _ _ _ _ _ _ _ ?_;refine@eIx _ _ _ _ _ _ _ ?_ JB CM;exact vV C Ab
def Jvv(E:LI)(C:Ctx X G Jvo (Jd eT).names)(b:HX X (Jd eT).names)(a:A4):PSs X (Jp eT) (tSB X To U bc [] H0 lZ):=by refine@gH _ _ _ _ _ _ _ _ ?_;refine JuB C a ?_ E.F_done E.F_undone E.g_go Ab;exact iH Ab
noncomputable abbrev sT:Stmt:=stAt 64
noncomputable abbrev JkC:List Str:=[B4,bZ,LM,Kl]
def Jqh(E:LI)(e:MakeS G)(C:Ctx X G JkC (Jd sT).names)(b:HX X (Jd sT).names)(a:A4):PSs X (Jp sT) (tRd X U bc H0 iR yN xN):=by refine JvX C a e Ab Ab ?_ ?_;refine@uW _ _ _ _ _ _ _ _ _ _ _ _ _ ?_ ?_ (@JfU _ _ _ _ _ _ _ _ yF);refine@sZ _ _ _ _ _ _ _ ?_;refine@JrE _ _ _ _ _ ?_;refine@JrL _ _ _ _ ?_ GY;refine@cIsi _ _ _ _ _ _ _ _ _ _ _ _ _ Jnf C ET ET PyProof.Rows.boot_str ?_ Ab Ab Ab Ab rfl;exact vV C Ab;refine@gH _ _ _ _ _ _ _ _ ?_;exact@lX _ _ _ _ _ _ _ _ _ _ _ _ _ _ C E.x_NoText Ab (@xQ _ _ _ _ _) rfl;refine@kS _ _ _ _ _ _ _ _ _ _ ?_ ?_;refine JuA C b.pass ?_ ?_ ?_ rfl;refine@cF _ _ _ _ _ _ _ _ _ _ _ C _ (E.f 38 rfl) Ab ?_ rfl rfl;refine@Jc _ _ _ _ _ _ ?_ Jm rfl;exact vV C Ab;exact@lTwo _ _ _ _ _ _ _ _ _ _ _ _ _ _ C Ab Ab;refine@gH _ _ _ _ _ _ _ _ ?_;refine@qN _ _ _ _ _ _ _ _ _ ?_ rfl;refine@cM _ _ _ _ _ _ _ _ _ _ _ _ _ _ _ _ _ _ _ C a E.m_set_table Ab Ab ?_ rfl rfl rfl;refine@Jc _ _ _ _ _ _ ?_ ?_ rfl;refine@cF _ _ _ _ _ _ _ _ _ _ _ C _ (E.f 39 rfl) Ab ?_ rfl rfl;refine@Jc _ _ _ _ _ _ ?_ Jm rfl;exact vV C Ab;refine@Jc _ _ _ _ _ _ ?_ Jm rfl;refine@cF _ _ _ _ _ _ _ _ _ _ _ C _ (E.f 36 rfl) Ab ?_ rfl rfl;refine@Jc _ _ _ _ _ _ ?_ Jm rfl;exact vV C Ab;refine@kS _ _ _ _ _ _ _ _ _ _ ?_ ?_;refine@uW _ _ _ _ _ _ _ _ _ _ _ _ _ ?_ ?_ (@JfU _ _ _ _ _ _ _ _ yF);refine@sZ _ _ _ _ _ _ _ ?_;refine@tNe _ _ _ _ _ _ _ _ _ _ C ?_ ?_;refine@cF _ _ _ _ _ _ _ _ _ _ _ C _ (E.f 37 rfl) Ab ?_ rfl rfl;refine@Jc _ _ _ _ _ _ ?_ Jm rfl;exact vV C Ab;exact vV C Ab;refine@gH _ _ _ _ _ _ _ _ ?_;exact@lX _ _ _ _ _ _ _ _ _ _ _ _ _ _ C E.x_NoText Ab (@xQ _ _ _ _ _) rfl;refine@gH _ _ _ _ _ _ _ _ ?_;refine@mX _ _ _ _ _ _ _ _ _ ?_;exact vV C Ab
def d_law{R:DI}(E:EnvL G U bc R)(C:Ctx X G Jwp (Jd gR).names)(g:HX X (Jd gR).names)(f:A4):PSs X (Jp gR) (tLaw X H0 (RL U bc R)):=by refine lE ?_ ?_;refine@lH _ _ _ _ _ _ _ _ ?_;refine@aSet _ _ _ _ _ _ _ _ _ _ _ _ _ C Ab ?_ rfl rfl;refine@cF _ _ _ _ _ _ _ _ _ _ _ C _ (E.f 46 rfl) Ab ?_ rfl rfl;refine@Jc _ _ _ _ _ _ ?_ ?_ rfl;exact vV C Ab;refine@Jc _ _ _ _ _ _ JB ?_ rfl;exact@Jc _ _ _ _ _ _ JB (@Jc _ _ _ _ _ _ JB Jm rfl) rfl;refine lE ?_ ?_;refine@lH _ _ _ _ _ _ _ _ ?_;refine@aSet _ _ _ _ _ _ _ _ _ _ _ _ _ C Ab ?_ rfl rfl;refine@JrQ _ _ _ _ _ _ _ _ _ C ET ?_ Ab rfl;refine@jJ _ _ _ _ ?_ rfl;refine@wM _ _ _ _ _ _ _ _ _ _ _ _ _ _ _ C Ab ?_ ?_ (λ_ a=>yR) ?_ GY;refine@pZ _ _ _ _ _ _ _ ?_;refine@cF _ _ _ _ _ _ _ _ _ _ _ C _ (E.f 46 rfl) Ab ?_ rfl rfl;refine@Jc _ _ _ _ _ _ ?_ ?_ rfl;exact vV C Ab;refine@Jc _ _ _ _ _ _ JB ?_ rfl;exact@Jc _ _ _ _ _ _ JB (@Jc _ _ _ _ _ _ JB Jm rfl) rfl;exact(λ_ a=>gTwo a Ab Ab);intro _ a;refine@gE _ _ _ _ _ _ ?_;refine@Jc _ _ _ _ _ _ ?_ ?_ rfl;refine@eAdd _ _ _ _ _ _ _ JG ?_;exact vV a Ab;refine@Jc _ _ _ _ _ _ ?_ Jm rfl;exact vV a Ab;refine JtK C f Ab E.mkS Ab ?_;refine lE ?_ ?_;refine@qN _ _ _ _ _ _ _ _ _ ?_ rfl;refine@cMH _ _ _ _ _ _ _ _ _ _ _ _ _ _ _ _ _ _ _ _ C f E.m_put Ab Ab ?_ rfl rfl rfl rfl;refine@Jc _ _ _ _ _ _ JG ?_ rfl;refine@Jc _ _ _ _ _ _ ?_ Jm rfl;exact vV C Ab;refine lE ?_ ?_;refine@qN _ _ _ _ _ _ _ _ _ ?_ rfl;refine@cMH _ _ _ _ _ _ _ _ _ _ _ _ _ _ _ _ _ _ _ _ C f E.m_put Ab Ab ?_ rfl rfl rfl rfl;refine@Jc _ _ _ _ _ _ JG ?_ rfl;refine@Jc _ _ _ _ _ _ ?_ Jm rfl;exact vV C Ab;refine lE ?_ ?_;refine bSetI C Ab ?_;refine@cMH _ _ _ _ _ _ _ _ _ _ _ _ _ _ _ _ _ _ _ _ C f E.m_mount Ab Ab ?_ rfl rfl rfl rfl;refine@Jc _ _ _ _ _ _ JG ?_ rfl;refine@Jc _ _ _ _ _ _ ?_ (@Jc _ _ _ _ _ _ JG Jm rfl) rfl;refine@gE _ _ _ _ _ _ ?_;refine@Jc _ _ _ _ _ _ ?_ Jm rfl;refine@gE _ _ _ _ _ _ ?_;exact@Jc _ _ _ _ _ _ JG (@Jc _ _ _ _ _ _ JG Jm rfl) rfl;refine lE ?_ ?_;refine@lH _ _ _ _ _ _ _ _ ?_;refine@lI _ _ _ _ _ _ _ _ _ _ _ ?_ ?_ yF;refine@PW.pt _ _ _ ?_;refine@zQ _ _ _ _ _ _ _ _ ?_ ?_;refine@tNe _ _ _ _ _ _ _ _ _ _ C ?_ ?_;exact vV C Ab;exact@cP _ _ _ _ _ _ _ _ _ _ _ _ _ _ _ _ _ C Yu Ab Ab (@Jc _ _ _ _ _ _ JG Jm rfl) rfl rfl rfl;refine@tR _ _ _ _ _ _ ?_;refine@tNe _ _ _ _ _ _ _ _ _ _ C ?_ ?_;exact@cP _ _ _ _ _ _ _ _ _ _ _ _ _ _ _ _ _ C Yu Ab Ab (@Jc _ _ _ _ _ _ JG Jm rfl) rfl rfl rfl;exact vV C Ab;exact@sE _ _ _ _ _ _ (@wI _ _ _ _ _ _ _ qI);refine lE ?_ ?_;refine@lH _ _ _ _ _ _ _ _ ?_;refine@qX _ _ _ _ _ _ _ _ _ _ _ _ _ _ _ C g.pass ?_ ?_ ?_ rfl Qbe;exact@Jhu _ _ _ _ _ _ _ _ _ _ C JB Ab ET rfl;exact@lOne _ _ _ _ _ _ _ _ _ C Ab;refine@wN _ _ _ _ _ _ _ _ ?_ ?_;refine@aSet _ _ _ _ _ _ _ _ _ _ _ _ _ C Ab ?_ rfl rfl;refine@jU _ _ _ _ _ _ _ _ _ _ ?_ pS (@iS _ _ _ _ JB);refine@cF _ _ _ _ _ _ _ _ _ _ _ C _ (E.f 48 rfl) Ab ?_ rfl rfl;refine@Jc _ _ _ _ _ _ ?_ ?_ rfl;exact vV C Ab;refine@Jc _ _ _ _ _ _ ?_ ?_ rfl;refine@eAdd _ _ _ _ _ _ _ JB ?_;refine@eMul _ _ _ _ _ _ _ JB ?_;exact vV C Ab;refine@Jc _ _ _ _ _ _ ?_ Jm rfl;refine@cF _ _ _ _ _ _ _ _ _ _ _ C _ (E.f 45 rfl) Ab ?_ rfl rfl;refine@Jc _ _ _ _ _ _ ?_ ?_ rfl;exact vV C Ab;refine@Jc _ _ _ _ _ _ ?_ (@Jc _ _ _ _ _ _ JB Jm rfl) rfl;refine@eAdd _ _ _ _ _ _ _ JB ?_;refine@eMul _ _ _ _ _ _ _ JB ?_;exact vV C Ab;refine@sE _ _ _ _ _ _ ?_;refine@qX _ _ _ _ _ _ _ _ _ _ _ _ _ _ _ C g.pass ?_ ?_ ?_ rfl GY;refine@uN _ _ _ _ _ _ ?_;refine@gE _ _ _ _ _ _ ?_;refine@Jc _ _ _ _ _ _ ?_ ?_ rfl;exact vV C Ab;refine@Jc _ _ _ _ _ _ ?_ Jm rfl;refine@eAdd _ _ _ _ _ _ _ ?_ ?_;exact@gE _ _ _ _ _ _ (@Jc _ _ _ _ _ _ JG Jm rfl);exact vV C Ab;exact@lOne _ _ _ _ _ _ _ _ _ C Ab;refine@wN _ _ _ _ _ _ _ _ ?_ ?_;refine@aSet _ _ _ _ _ _ _ _ _ _ _ _ _ C Ab ?_ rfl rfl;refine@JvK _ _ _ _ _ _ _ _ _ ?_ ?_ ?_;refine@tEq _ _ _ _ _ _ _ _ _ _ C ?_ ?_;refine@jU _ _ _ _ _ _ _ _ _ _ ?_ pS (@iS _ _ _ _ JB);exact vV C Ab;exact@gE _ _ _ _ _ _ (@Jc _ _ _ _ _ _ JG Jm rfl);refine@cF _ _ _ _ _ _ _ _ _ _ _ C _ HS Ab ?_ rfl rfl;refine@Jc _ _ _ _ _ _ ?_ ?_ rfl;exact vV C Ab;refine@Jc _ _ _ _ _ _ ?_ Jm rfl;refine@jU _ _ _ _ _ _ _ _ _ _ ?_ (@iS _ _ _ _ JB) pS;exact vV C Ab;exact@jJ _ _ _ _ (@nY _ _ _ _ _ Jm) rfl;refine@wN _ _ _ _ _ _ _ _ ?_ ?_;refine@lI _ _ _ _ _ _ _ _ _ _ _ ?_ ?_ yF;refine@PW.pt _ _ _ ?_;refine@zQ _ _ _ _ _ _ _ _ ?_ ?_;refine@tNe _ _ _ _ _ _ _ _ _ _ C ?_ ?_;refine@cF _ _ _ _ _ _ _ _ _ _ _ C _ HS Ab ?_ rfl rfl;refine@Jc _ _ _ _ _ _ ?_ ?_ rfl;exact vV C Ab;refine@Jc _ _ _ _ _ _ ?_ Jm rfl;exact vV C Ab;refine@eAdd _ _ _ _ _ _ _ ?_ ?_;refine@cF _ _ _ _ _ _ _ _ _ _ _ C _ HS Ab ?_ rfl rfl;refine@Jc _ _ _ _ _ _ ?_ ?_ rfl;exact vV C Ab;refine@Jc _ _ _ _ _ _ ?_ Jm rfl;exact vV C Ab;exact vV C Ab;refine@tR _ _ _ _ _ _ ?_;refine@tNe _ _ _ _ _ _ _ _ _ _ C ?_ ?_;refine@cF _ _ _ _ _ _ _ _ _ _ _ C _ (E.f 25 rfl) Ab ?_ rfl rfl;refine@Jc _ _ _ _ _ _ ?_ ?_ rfl;exact vV C Ab;refine@Jc _ _ _ _ _ _ ?_ Jm rfl;exact vV C Ab;refine@cF _ _ _ _ _ _ _ _ _ _ _ C _ (E.f 19 rfl) Ab ?_ rfl rfl;refine@Jc _ _ _ _ _ _ ?_ ?_ rfl;exact vV C Ab;refine@Jc _ _ _ _ _ _ ?_ Jm rfl;exact vV C Ab;exact@sE _ _ _ _ _ _ (@wI _ _ _ _ _ _ _ qI);refine@wN _ _ _ _ _ _ _ _ ?_ ?_;refine@JwQ _ _ _ _ _ _ _ _ _ _ _ _ _ _ _ _ _ _ _ _ _ C Ab Ab ?_ ?_ (λ_ a=>yR) ?_ rfl GY;refine@uN _ _ _ _ _ _ ?_;refine@gE _ _ _ _ _ _ ?_;exact@Jc _ _ _ _ _ _ JG (@Jc _ _ _ _ _ _ JG Jm rfl) rfl;exact(λ_ a=>gOne a Ab);intro _ a;refine@gE _ _ _ _ _ _ ?_;refine@Jc _ _ _ _ _ _ ?_ ?_ rfl;exact vV a Ab;refine@Jc _ _ _ _ _ _ ?_ Jm rfl;refine@cF _ _ _ _ _ _ _ _ _ _ _ a _ (E.f 19 rfl) Ab ?_ rfl rfl;refine@Jc _ _ _ _ _ _ ?_ ?_ rfl;refine@cP _ _ _ _ _ _ _ _ _ _ _ _ _ _ _ _ _ a Yu Ab Ab ?_ rfl rfl rfl;refine@Jc _ _ _ _ _ _ ?_ Jm rfl;exact vV a Ab;refine@Jc _ _ _ _ _ _ ?_ Jm rfl;exact vV a Ab;refine@sE _ _ _ _ _ _ ?_;refine@lI _ _ _ _ _ _ _ _ _ _ _ ?_ ?_ yF;refine@tNe _ _ _ _ _ _ _ _ _ _ C ?_ ?_;refine@cP _ _ _ _ _ _ _ _ _ _ _ _ _ _ _ _ _ C E.p_lead Ab Ab ?_ rfl rfl rfl;refine@Jc _ _ _ _ _ _ ?_ Jm rfl;exact vV C Ab;refine@jJ _ _ _ _ ?_ rfl;refine@wM _ _ _ _ _ _ _ _ _ _ _ _ _ _ _ C Ab ?_ ?_ ?_ ?_ Qbe;refine@uN _ _ _ _ _ _ ?_;exact vV C Ab;exact(λ_ a=>gOne a Ab);intro _ a;refine@wY _ _ _ _ ?_;refine@Jml _ _ _ _ _ _ _ ?_;refine@eIx _ _ _ _ _ _ _ ?_ JB CM;exact vV a Ab;intro _ a;exact vV a Ab;exact@sE _ _ _ _ _ _ (@wI _ _ _ _ _ _ _ qI);refine lE ?_ ?_;refine@lH _ _ _ _ _ _ _ _ ?_;refine@aSet _ _ _ _ _ _ _ _ _ _ _ _ _ C Ab ?_ rfl rfl;refine@gE _ _ _ _ _ _ ?_;exact@Jc _ _ _ _ _ _ JG (@Jc _ _ _ _ _ _ JG Jm rfl) rfl;refine lE ?_ ?_;refine@lH _ _ _ _ _ _ _ _ ?_;refine@lI _ _ _ _ _ _ _ _ _ _ _ ?_ ?_ yF;refine@tNe _ _ _ _ _ _ _ _ _ _ C ?_ ?_;refine@jJ _ _ _ _ ?_ rfl;refine@wM _ _ _ _ _ _ _ _ _ _ _ _ _ _ _ C Ab ?_ ?_ ?_ ?_ Qbe;refine@uN _ _ _ _ _ _ ?_;refine@cF _ _ _ _ _ _ _ _ _ _ _ C _ (E.f 24 rfl) Ab ?_ rfl rfl;refine@Jc _ _ _ _ _ _ ?_ (@Jc _ _ _ _ _ _ JG Jm rfl) rfl;exact vV C Ab;exact(λ_ a=>gOne a Ab);intro _ a;refine@wY _ _ _ _ ?_;refine@tIn _ _ _ _ _ _ _ _ _ _ a ?_ ?_ rfl;refine@eIx _ _ _ _ _ _ _ ?_ JB CM;exact vV a Ab;refine@jJ _ _ _ _ ?_ rfl;refine@wM _ _ _ _ _ _ _ _ _ _ _ _ _ _ _ a Ab ?_ ?_ (λ_ b=>yR) ?_ GY;refine@pZ _ _ _ _ _ _ _ ?_;exact vV a Ab;exact(λ_ b=>gTwo b Ab Ab);intro _ b;exact vV b Ab;intro _ a;exact vV a Ab;refine@cList _ _ _ _ _ _ _ _ _ C ET ?_ Ab rfl;exact vV C Ab;exact@sE _ _ _ _ _ _ (@wI _ _ _ _ _ _ _ qI);refine lE ?_ ?_;refine@lH _ _ _ _ _ _ _ _ ?_;refine@lI _ _ _ _ _ _ _ _ _ _ _ ?_ ?_ yF;refine@tGt _ _ _ _ _ _ _ ?_ ?_;refine@eX _ _ _ _ _ _ _ _ _ _ C _ cJ ?_ lY CM;refine@Jya _ _ _ _ _ _ _ _ _ C ET ?_ Ab rfl;refine@cF _ _ _ _ _ _ _ _ _ _ _ C _ (E.f 41 rfl) Ab ?_ rfl rfl;refine@Jc _ _ _ _ _ _ ?_ ?_ rfl;exact vV C Ab;refine@Jc _ _ _ _ _ _ ?_ (@Jc _ _ _ _ _ _ JB Jm rfl) rfl;exact vV C Ab;refine@eX _ _ _ _ _ _ _ _ _ _ C _ cJ ?_ lY CM;refine@Jya _ _ _ _ _ _ _ _ _ C ET ?_ Ab rfl;refine@cF _ _ _ _ _ _ _ _ _ _ _ C _ (E.f 41 rfl) Ab ?_ rfl rfl;refine@Jc _ _ _ _ _ _ ?_ ?_ rfl;exact vV C Ab;refine@Jc _ _ _ _ _ _ ?_ (@Jc _ _ _ _ _ _ JB Jm rfl) rfl;exact vV C Ab;exact@sE _ _ _ _ _ _ (@wI _ _ _ _ _ _ _ qI);refine Jxq C E.q_rs Ab Ab ?_ Ab ?_;refine@Jc _ _ _ _ _ _ ?_ Jm rfl;refine@cF _ _ _ _ _ _ _ _ _ _ _ C _ (E.f 37 rfl) Ab ?_ rfl rfl;refine@Jc _ _ _ _ _ _ ?_ Jm rfl;exact vV C Ab;refine lE ?_ ?_;refine@lH _ _ _ _ _ _ _ _ ?_;refine@lI _ _ _ _ _ _ _ _ _ _ _ ?_ ?_ yF;refine@PW.pt _ _ _ ?_;refine@zQ _ _ _ _ _ _ _ _ ?_ ?_;refine@tNe _ _ _ _ _ _ _ _ _ _ C ?_ ?_;exact@cP0 _ _ _ _ _ _ _ _ _ _ _ _ _ _ C E.p_names Ab Ab rfl;refine@jJ _ _ _ _ ?_ rfl;refine@nY _ _ _ _ _ ?_;exact@Jc _ _ _ _ _ _ JG (@Jc _ _ _ _ _ _ JG Jm rfl) rfl;refine@tR _ _ _ _ _ _ ?_;refine@tNe _ _ _ _ _ _ _ _ _ _ C ?_ ?_;exact@cP _ _ _ _ _ _ _ _ _ _ _ _ _ _ _ _ _ C Yu Ab Ab (@Jc _ _ _ _ _ _ JG Jm rfl) rfl rfl rfl;exact vV C Ab;exact@sE _ _ _ _ _ _ (@wI _ _ _ _ _ _ _ qI);refine JtN (io:=11) (R':=λO=>∃e,exO Fo U bc (.retB Jro) O=.ok Qc5 e) ?_;refine JuG ?_;refine@gH _ _ _ _ _ _ _ _ ?_;refine Jvr ?_;refine Jrr ?_ ?_;refine bEq C ?_ (@xR _ _ _ _ _ _ _ JG);exact@cMH0 _ _ _ _ _ _ _ _ _ _ _ _ _ _ _ _ _ C f E.m_back Ab Ab rfl;refine Jrr ?_ ?_;refine@xR _ _ _ _ _ _ _ ?_;refine@eEq _ _ _ _ _ _ _ _ _ _ C ?_ ?_;exact@cP _ _ _ _ _ _ _ _ _ _ _ _ _ _ _ _ _ C Yu Ab Ab (@Jc _ _ _ _ _ _ JG Jm rfl) rfl rfl rfl;exact vV C Ab;refine JrD ?_;refine@xR _ _ _ _ _ _ _ ?_;refine@eEq _ _ _ _ _ _ _ _ _ _ C ?_ ?_;exact@cP0 _ _ _ _ _ _ _ _ _ _ _ _ _ _ C E.p_counts Ab Ab rfl;refine@gE _ _ _ _ _ _ ?_;exact@Jc _ _ _ _ _ _ JB (@Jc _ _ _ _ _ _ JB Jm rfl) rfl
def JwE(C:Ctx X G [Ek] (Jd zY).names):PSs X (Jp zY) (Jsa X.K):=JN (rR ((iH Ab).pe C) JfB rfl) (JN (rR ((iH Ab).pe C) (xY _) rfl) (mZ (rR ((iH Ab).pe C) (xY _) rfl)))
end
noncomputable abbrev TL:List DefE:=[((oS "law"),gR,[BI])]
noncomputable abbrev TR_:List DefE:=[(Qbd,sT,[B4])]
def lu1{α}{u:List α}(h:u.length=1):∃a,u=[a]:=match u,h with|[a],_=>⟨a,rfl⟩
def lu2{α}{u:List α}(h:u.length=2):∃a b,u=[a,b]:=match u,h with|[a,b],_=>⟨a,b,rfl⟩
def lu3{α}{u:List α}(h:u.length=3):∃a b c,u=[a,b,c]:=match u,h with|[a,b,c],_=>⟨a,b,c,rfl⟩
def lu4{α}{u:List α}(h:u.length=4):∃a b c d,u=[a,b,c,d]:=match u,h with|[a,b,c,d],_=>⟨a,b,c,d,rfl⟩
def bndR:BsOk TR_:=⟨λ_ _ _ _ _ _ b a=>by obtain⟨_,rfl⟩:=lu1 a;rfl,trivial⟩
theorem ent1{e:DefE}(h:e.2.2.length=1)(q:∀(kV f g:PySem.Value)(i)(ct v:PySem.Value)(a:PySem.Value),bindArgs (PySem.W.fnOf e.1 e.1 (pL e.2.1) (Jp e.2.1) (Jd e.2.1) .none kV f g i ct v) ⟨[a],[]⟩=pure (e.2.2.zip [a])):BsE e:=by intro _ _ _ _ _ _ _ z;obtain⟨a,rfl⟩:=lu1 (z.trans h);exact q _ _ _ _ _ _ _
theorem ent2{e:DefE}(h:e.2.2.length=2)(q:∀(kV f g:PySem.Value)(i)(ct v:PySem.Value)(a b:PySem.Value),bindArgs (PySem.W.fnOf e.1 e.1 (pL e.2.1) (Jp e.2.1) (Jd e.2.1) .none kV f g i ct v) ⟨[a,b],[]⟩=pure (e.2.2.zip [a,b])):BsE e:=by intro _ _ _ _ _ _ _ z;obtain⟨a,b,rfl⟩:=lu2 (z.trans h);exact q _ _ _ _ _ _ _ _
theorem ent3{e:DefE}(h:e.2.2.length=3)(q:∀(kV f g:PySem.Value)(i)(ct v:PySem.Value)(a b c:PySem.Value),bindArgs (PySem.W.fnOf e.1 e.1 (pL e.2.1) (Jp e.2.1) (Jd e.2.1) .none kV f g i ct v) ⟨[a,b,c],[]⟩=pure (e.2.2.zip [a,b,c])):BsE e:=by intro _ _ _ _ _ _ _ z;obtain⟨a,b,c,rfl⟩:=lu3 (z.trans h);exact q _ _ _ _ _ _ _ _ _
theorem ent4{e:DefE}(h:e.2.2.length=4)(q:∀(kV f g:PySem.Value)(i)(ct v:PySem.Value)(a b c d:PySem.Value),bindArgs (PySem.W.fnOf e.1 e.1 (pL e.2.1) (Jp e.2.1) (Jd e.2.1) .none kV f g i ct v) ⟨[a,b,c,d],[]⟩=pure (e.2.2.zip [a,b,c,d])):BsE e:=by intro _ _ _ _ _ _ _ z;obtain⟨a,b,c,d,rfl⟩:=lu4 (z.trans h);exact q _ _ _ _ _ _ _ _ _ _
def bnd:BsOk T:=by
 repeat' apply iD
 all_goals first|exact ZT|exact ent1 rfl λ_ _ _ _ _ _ _=>rfl|exact ent2 rfl λ_ _ _ _ _ _ _ _=>rfl|exact ent3 rfl λ_ _ _ _ _ _ _ _ _=>rfl|exact ent4 rfl λ_ _ _ _ _ _ _ _ _ _=>rfl
section
variable{P:Ba}{w:AQ}{K:Aj}{base:Heap}
noncomputable abbrev TG:MethE:=(aF,Qcv,iN,VE)
def bndM:BmOk TM:=by
 repeat' apply iD
 all_goals first|exact ZT|(intro _ _ _ _ _ _ b a;obtain⟨_,rfl⟩:=lu1 a;rfl)|(intro _ _ _ _ _ _ b a;obtain⟨_,_,rfl⟩:=lu2 a;rfl)|(intro _ _ _ _ _ _ b a;obtain⟨_,_,_,rfl⟩:=lu3 a;rfl)|(intro _ _ _ _ _ _ b a;obtain⟨_,_,_,_,rfl⟩:=lu4 a;rfl)
def bndP:BmOk TP:=by
 repeat' apply iD
 all_goals first|exact ZT|(intro _ _ _ _ _ _ b a;obtain⟨_,rfl⟩:=lu1 a;rfl)|(intro _ _ _ _ _ _ b a;obtain⟨_,_,rfl⟩:=lu2 a;rfl)|(intro _ _ _ _ _ _ b a;obtain⟨_,_,_,rfl⟩:=lu3 a;rfl)|(intro _ _ _ _ _ _ b a;obtain⟨_,_,_,_,rfl⟩:=lu4 a;rfl)
variable(hT:HasD K mg T)(hB:BlN mg B_)
 (y0:∃u,mg Q4=So u/\∃v,RelV v u/\∀H,Rep K H QaP v)
 (y1:∃u,mg Q3=So u/\∃v,RelV v u/\∀H,Rep K H QaO v)
 (y2:∃u,mg SE=So u/\∃v,RelV v u/\∀H,Rep K H Gn v)
 (y3:∃u,mg SD=So u/\∃v,RelV v u/\∀H,Rep K H Gn v)
 (y4:∃u,mg RM=So u/\∃v,RelV v u/\∀H,Rep K H Qc6 v)
 (y5:∃u,mg Ru=So u/\∃v,RelV v u/\∀H,Rep K H bJ v)
 (y6:∃u,mg RK=So u/\∃v,RelV v u/\∀H,Rep K H bJ v)
 (y7:∃u,mg S1=So u/\∃v,RelV v u/\∀H,Rep K H Tc v)
 (y8:∃u,mg HU=So u/\∃v,RelV v u/\∀H,Rep K H (.tup Lq) v)
 (y9:∃u,mg RJ=So u/\∃v,RelV v u/\∀H,Rep K H QaN v)
 (xT:NoKT K)
 (xx0:∀A,ExcC AM G3)
 (xx1:∀A,ExcC AM K0)
 (xx2:∀A,ExcC AM Lp)
 (xx3:∀A,ExcC AM Kj)
 {C:Addr} (cl_:Y1) (hC:PySem.W.nsIn K mainGlobals (oS "Site")=So BC) (hM:HasM K C TM) (hP:HasM K C TP) (hF:∀A,∀f∈nsS,FldC AM f)
include hT hB y0 y1 y2 y3 y4 y5 y6 y7 y8 y9 xT xx0 xx1 xx2 xx3 cl_ hC hM hP hF
abbrev OkG(P:Ba)(w:AQ)(K:Aj)(mg:Bk)(base:Heap)(C:Addr)(k:Nat):Prop:=∀f g,Met1 K C TG f g->FnOk P w K mg base A0 (3*k) f g TG.2.2.2 (spG K mg Dq 4)
structure AllOk(P:Ba)(w:AQ)(K:Aj)(mg:Bk)(base:Heap)(C:Addr)(k:Nat):Prop where
 d:OkD P w K mg base defs k 0 T
 p:OkP P w K mg base defs C k 49 TP
 m:OkM P w K mg base defs bdefs C k 0 (TM.take 4)
 m2:OkM P w K mg base defs bdefs C k 5 (TM.drop 5)
 g:OkG P w K mg base C k
theorem Jwu{k:Nat}(o:O4)(A:Bv)(a:GR):Env AM CC:=by have p:∀j e,TP[j]? =So e->CalleeP AM CC (49+j) BX e.1:=λj e h=>JeG cl_ (by rw[clS];exact hC) a hP o.p h;exact⟨λi _ h=>(by obtain⟨e,b,rfl⟩:=Option.map_eq_some_iff.mp h;exact JlN hT o.d a i b),hB,(by obtain⟨u,e,v,r,g⟩:=y0;exact Dx),(by obtain⟨u,e,v,r,g⟩:=y1;exact Dx),(by obtain⟨u,e,v,r,g⟩:=y2;exact Dx),(by obtain⟨u,e,v,r,g⟩:=y3;exact Dx),(by obtain⟨u,e,v,r,g⟩:=y4;exact Dx),(by obtain⟨u,e,v,r,g⟩:=y5;exact Dx),(by obtain⟨u,e,v,r,g⟩:=y6;exact Dx),(by obtain⟨u,e,v,r,g⟩:=y7;exact Dx),(by obtain⟨u,e,v,r,g⟩:=y8;exact Dx),(by obtain⟨u,e,v,r,g⟩:=y9;exact Dx),xT,xx0 A,xx1 A,xx2 A,xx3 A,hF A _ (by simp[nsS]),hF A _ (by simp[nsS]),hF A _ (by simp[nsS]),p 0 _ rfl,p 1 _ rfl,p 2 _ rfl,p 3 _ rfl⟩
theorem Jsi{k:Nat}(o:O4)(A:Bv)(a:GR):EnvB AM CC Dq:=by
 have f:PySem.W.nsIn K mainGlobals BX=So BC:=by rw[clS];exact hC
 have i:HasM K C (TM.take 4):=⟨hM.1,hM.2.1,hM.2.2.1,hM.2.2.2.1,trivial⟩;have b:HasM K C (TM.drop 5):=hM.2.2.2.2.2;have m:∀j e,(TM.take 4)[j]? =So e->CalleeB AM Dq (0+j) BX e.1:=λj e h=>JcJ cl_ f a i o.m h;have l:∀j e,(TM.drop 5)[j]? =So e->CalleeB AM Dq (5+j) BX e.1:=λj e h=>JcJ cl_ f a b o.m2 h;have g:CalleeG ⟨P,w,K,mg,base,A⟩ Dq 4 BX aF:=JlA (e:=TG) cl_ f a hM.2.2.2.2.1 o.g;exact⟨Jwu hT hB y0 y1 y2 y3 y4 y5 y6 y7 y8 y9 xT xx0 xx1 xx2 xx3 cl_ hC hM hP hF o A a,m 0 _ rfl,m 1 _ rfl,m 2 _ rfl,m 3 _ rfl,g,l 0 _ rfl⟩
theorem Jyn:∀k,AllOk P w K mg base C k:=by
 intro k;induction k with
 |zero=>exact⟨Jjt _ _,Jke _ _,Jge _ _,Jge _ _,λ_ _ _=>JqL⟩
 |succ k i=>have f:=Jsi hT hB y0 y1 y2 y3 y4 y5 y6 y7 y8 y9 xT xx0 xx1 xx2 xx3 cl_ hC hM hP hF i;have E:∀A,Room E8 A->Env AM CC:=λA h=>(f A h).toEnv;exact⟨foAll E T NL 0 (λe=>(dAll.1 e).1) Ab,⟨foP (N:=NP.getD 0 []) (M:=[]) (b:=mV) E λe=>(dAll.1 e).2.1,foP (N:=NP.getD 1 []) (M:=[]) (b:=iT) E λe=>(dAll.1 e).2.2.1,foP (N:=NP.getD 2 []) (M:=[]) (b:=nT) E λe=>(dAll.1 e).2.2.2.1,foP (N:=NP.getD 3 []) (M:=[]) (b:=Jhs) E λe=>(dAll.1 e).2.2.2.2.1,trivial⟩,⟨foB (N:=NM_.getD 0 []) (b:=nV) f λe C a g=>(dAll.2 e g).1 C a,foB (N:=NM_.getD 1 []) (b:=yU) f λe C a g=>(dAll.2 e g).2.1 C a,foB (N:=NM_.getD 2 []) (b:=sR) f λe C a g=>(dAll.2 e g).2.2.1 C a,foB (N:=NM_.getD 3 []) (b:=yT) f λe C a g=>(dAll.2 e g).2.2.2.1 C a,trivial⟩,⟨foB f @Jvv,trivial⟩,foG f @dm_go⟩
theorem all2(k:Nat):∀A,Room E8 A->EnvB AM CC Dq:=Jsi hT hB y0 y1 y2 y3 y4 y5 y6 y7 y8 y9 xT xx0 xx1 xx2 xx3 cl_ hC hM hP hF (Jyn hT hB y0 y1 y2 y3 y4 y5 y6 y7 y8 y9 xT xx0 xx1 xx2 xx3 cl_ hC hM hP hF k)
end
theorem JvQ{l:Qd1}{w:AQ}{K:Aj}{h:Heap}{fa:Addr}(X:K.In h)(G:RX)(hfa:mg "law"=So (.ref fa))(dT:DsIn K T)(dL:DsIn K TL)(dR:DsIn K TR_)(dB:BlIn K B_)
  {t0:Tok} (y0:PySem.W.nsIn K mainGlobals Q4=So (So (.str K4 t0)))
  {t1:Tok} (y1:PySem.W.nsIn K mainGlobals Q3=So (So (.str Kd t1)))
  {t2:Tok} (y2:PySem.W.nsIn K mainGlobals SE=So (So (.int 4 t2)))
  {t3:Tok} (y3:PySem.W.nsIn K mainGlobals SD=So (So (.int 4 t3)))
  {t4:Tok} (y4:PySem.W.nsIn K mainGlobals RM=So (So (.int 6 t4)))
  {t5:Tok} (y5:PySem.W.nsIn K mainGlobals Ru=So (So (.int 8 t5)))
  {t6:Tok} (y6:PySem.W.nsIn K mainGlobals RK=So (So (.int 8 t6)))
  {ya7:Addr} {yn7:Nat} {ys7:Eb} {t7_0 t7_1 t7_2:Tok} (y7:PySem.W.nsIn K mainGlobals S1=So (So (.ref ya7))) (v7:K.lookup ya7=So ⟨.type "tuple",No,.seq #[.str HH t7_0,.str Lx t7_1,.str Xg t7_2] yn7,ys7⟩)
  {ya8 O Y W:Addr} {yn8 yn8_0 yn8_1 yn8_2:Nat} {ys8 ys8_0 ys8_1 ys8_2:Eb} {t8_0_0 t8_0_1 t8_1_0 t8_1_1 t8_2_0 t8_2_1:Tok} (y8:PySem.W.nsIn K mainGlobals HU=So (So (.ref ya8))) (v8:K.lookup ya8=So ⟨.type "tuple",No,.seq #[.ref O,.ref Y,.ref W] yn8,ys8⟩) (v8_0:K.lookup O=So ⟨.type "tuple",No,.seq #[.str HH t8_0_0,.str Qda t8_0_1] yn8_0,ys8_0⟩) (v8_1:K.lookup Y=So ⟨.type "tuple",No,.seq #[.str Lx t8_1_0,.str Qdb t8_1_1] yn8_1,ys8_1⟩) (v8_2:K.lookup W=So ⟨.type "tuple",No,.seq #[.str Xg t8_2_0,.str Qdc t8_2_1] yn8_2,ys8_2⟩)
  {t9:Tok} (y9:PySem.W.nsIn K mainGlobals RJ=So (So (.str Kh t9)))
  (gT:sQ K=To)
  {q o u m:Addr}
  (B:PySem.W.nsIn K mainGlobals G3=So (So (.ref q)))
  (z:PySem.W.nsIn K mainGlobals K0=So (So (.ref o)))
  (y:PySem.W.nsIn K mainGlobals Lp=So (So (.ref u)))
  (x:PySem.W.nsIn K mainGlobals Kj=So (So (.ref m)))
  (U:PySem.W.excIn K q Nx "ValueError.__new__"=To)
  (I:PySem.W.excIn K o Nx "ValueError.__new__"=To)
  (xc_NoText:PySem.W.excIn K u Nx "ValueError.__new__"=To)
  (F:PySem.W.excIn K m Nx "ValueError.__new__"=To)
  {C:Addr} (aC:PySem.W.nsIn K mainGlobals (oS "Site")=So BC) (pg:PySem.W.plainGet K C Yf=To) (hd:PySem.W.hasDictIn K C=To) (po:PySem.W.plainOver K C=To) (sa:PySem.W.findIn K BL "__setattr__"=So T3) (mk:PySem.W.makesIn K C=To) (kc:PySem.W.keepIn K BL=To)
  (n1:PySem.W.findIn K BL HF=So No) (n2:PySem.W.findIn K BL Ko=So No) (n3:PySem.W.findIn K BL KJ=So No) (zB:PySem.W.nsIn K mainGlobals (oS "Board")=So No)
  (mI:∃f g,Fun K Qb0 (oS "Site.__init__") zY f g/\Meth K C Qb0 f) (mM:MsIn K C TM) (mP:MsIn K C TP)
  :∃fd:FuncData,(∀(s:Al)(v:An),BindsTo s fd ⟨[v],[]⟩ [(BI,v)])/\∀base:Heap,K.In base->base.Ns mainGlobals mg->FnOk aH w K mg base Q0 42 fa fd [BI] (sW K):=by
 have X0:∀base A,ExcC F7 G3:=λbase A=>⟨⟨q,B,qA X G B,_,_,_,_,U,jQ⟩⟩;have X1:∀base A,ExcC F7 K0:=λbase A=>⟨⟨o,z,qA X G z,_,_,_,_,I,jQ⟩⟩;have X2:∀base A,ExcC F7 Lp:=λbase A=>⟨⟨u,y,qA X G y,_,_,_,_,xc_NoText,jQ⟩⟩;have X3:∀base A,ExcC F7 Kj:=λbase A=>⟨⟨m,x,qA X G x,_,_,_,_,F,jQ⟩⟩;have cl_:Cls K C:=⟨pg,hd,po,sa⟩;have hF:∀base A,∀f∈nsS,FldC F7 f:=λbase A f hf=>by
  simp only[nsS,Zf,Zy,fA]at hf;rcases hf with rfl|rfl|rfl
  ·exact Jgi zB aC cl_ n1 A
  ·exact Jgi zB aC cl_ n2 A
  ·exact Jgi zB aC cl_ n3 A
 have hM:=JiE mM bndM;have hP:=JiE mP bndP;have hT:=jZ X G dT bnd;obtain⟨⟨fL,gL,L⟩,_⟩:=dL;have e:=hfa.symm.trans (qA X G L.a);cases e;refine⟨gL,?_,λbase _ _=>?_⟩
 ·obtain⟨_,_,kV,doc,pm,an,cdv,ct,_,e,_⟩:=L.F.ex;subst e;exactλs v=>.of_eq rfl
 ·have Z9:=all2 (P:=aH) (w:=w) (base:=base) hT (JvZ X G dB) ⟨_,qA X G y0,.str K4,AS,λH=>rfl⟩ ⟨_,qA X G y1,.str Kd,AS,λH=>rfl⟩ ⟨_,qA X G y2,.int 4,AS,λH=>rfl⟩ ⟨_,qA X G y3,.int 4,AS,λH=>rfl⟩ ⟨_,qA X G y4,.int 6,AS,λH=>rfl⟩ ⟨_,qA X G y5,.int 8,AS,λH=>rfl⟩ ⟨_,qA X G y6,.int 8,AS,λH=>rfl⟩ ⟨_,qA X G y7,.ref ya7,rfl,λH=>Rd.zM (.inl y7) (J:=[Ge,Fd,HB]) (xs:=[.str HH,.str Lx,.str Xg]) v7 Ad (.cons AS K6) (λH=>⟨_,_,rfl,rfl,Xd⟩) H⟩ ⟨_,qA X G y8,.ref ya8,rfl,λH=>Rd.zM (.inl y8) (J:=Lq) (xs:=[.ref O,.ref Y,.ref W]) v8 Ad (.cons rfl (.cons rfl RG)) (λH=>⟨_,_,rfl,(Rd.zM (.inr ⟨ya8,_,_,_,y8,v8,rfl,rfl,by simp⟩) (J:=[Ge,(.str Qda)]) (xs:=[.str HH,.str Qda]) v8_0 Ad K6 Ir H),⟨_,_,rfl,(Rd.zM (.inr ⟨ya8,_,_,_,y8,v8,rfl,rfl,by simp⟩) (J:=[Fd,(.str Qdb)]) (xs:=[.str Lx,.str Qdb]) v8_1 Ad K6 Ir H),⟨_,_,rfl,(Rd.zM (.inr ⟨ya8,_,_,_,y8,v8,rfl,rfl,by simp⟩) (J:=[HB,(.str Qdc)]) (xs:=[.str Xg,.str Qdc]) v8_2 Ad K6 Ir H),rfl⟩⟩⟩) H⟩ ⟨_,qA X G y9,.str Kh,AS,λH=>rfl⟩ (JsI gT) (X0 base) (X1 base) (X2 base) (X3 base) cl_ aC hM hP (hF base);have EB:=Z9 12;have EB2:=Z9 11;obtain⟨fI,gI_,FI,mt_⟩:=mI;have hi:FnOk aH w K mg base Q0 1 fI gI_ [oS "self"] (spNS K):=JqO FI (nI Ab) rfl (hF base) λX A C=>by have:=JwE C;rw[C.K]at this;exact this
  have MS:∀A,Room 2 A->MakeS F7:=λA hr=>⟨⟨C,fI,gI_,_,⟨mk,mt_.at_,mt_.fn,kc⟩,hi,hr,qA X G aC,aC,FI.binds λ_ _ _ _ _ _ us hl=>by obtain⟨_,rfl⟩:=lu1 hl;rfl⟩⟩;obtain⟨⟨fR,gR_,DR⟩,_⟩:=jZ X G dR bndR;have hR:FnOk aH w K mg base Q0 36 fR gR_ [B4] (spQ K mg Rr):=fn_tp (λJ a h=>if_neg h) ((fn_rd (j:=35) (i:=iR) (b1:=yN) (b2:=xN) (k:=11) DR.F (nI (N:=JkC) Ab) rfl AB λY9 A H0 C hr hx h0=>Jqh (EB2 A Mh) (MS A Mh) C hx h0).imp λvs H Q E h=>by
   obtain⟨hl,h0,J,r,g⟩:=h;have hz:=XF;refine⟨hl,h0,J,r,λa=>?_⟩;have g:=g a;rw[show Rr J a=runR R1 Q1 nR iR yN xN J a from if_pos 'g']at g;exact g)
  have EL:∀A,Room (3*12+5) A->EnvL F7 Qcw OM Rr:=λA hr=>⟨EB A Mh,MS A Mh,⟨⟨36,fR,gR_,_,hR,(hr.mono (show 3*12+2<=3*12+5 by lia)).in1.in1,DR.g,DR.F.kp,DR.b⟩⟩⟩;exact JtZ (j:=3*12+5) (i:=0) (b:=.lift .skip) (t:=λX H0=>tLaw X H0 (RL Qcw OM Rr)) L.F (nI (N:=Jwp) Ab) (M:=[]) AB AB (λX A H0 C hr hx h0=>d_law (EL A hr) C hx h0) λX H0 H Z D ns hK hl e hQ=>by subst hK;exact⟨_,e,JqM ns hl,hQ⟩
end K75
end _r
namespace PySem.W.Fast
theorem tw18100536652854935474:0=0:=rfl
theorem tw14550229191020565959:0=0:=rfl
theorem tw824317023984304131:0=0:=rfl
theorem tw6684906986101728517:0=0:=rfl
theorem tw1525061536597814807:0=0:=rfl
theorem tw15990171519050859314:0=0:=rfl
theorem tw13098484150877573371:0=0:=rfl
theorem tw6686141493041509883:0=0:=rfl
theorem tw14895857728150518576:0=0:=rfl
theorem tw15892190642261058785:0=0:=rfl
theorem tw15418732414833778262:0=0:=rfl
theorem tw14679944968517550388:0=0:=rfl
theorem tw12845231562166816975:0=0:=rfl
theorem tw18322407901200738755:0=0:=rfl
theorem tw3013444717518559458:0=0:=rfl
theorem tw11560909041988382087:0=0:=rfl
theorem tw6492786301968284733:0=0:=rfl
theorem tw293908615371655130:0=0:=rfl
theorem tw14187783388782961060:0=0:=rfl
theorem tw11283791085477385395:0=0:=rfl
theorem tw5736374350161598515:0=0:=rfl
theorem tw162392252414931594:0=0:=rfl
theorem tw1821505114818616330:0=0:=rfl
theorem tw14754457816643008009:0=0:=rfl
theorem tw10700522189034034773:0=0:=rfl
theorem tw12953365781010504496:0=0:=rfl
theorem tw6027191820745352823:0=0:=rfl
theorem tw14156983778779102313:0=0:=rfl
theorem tw15672656641117836324:0=0:=rfl
theorem tw11787382758266615356:0=0:=rfl
theorem tw1420712159977167504:0=0:=rfl
theorem tw12443889406195807041:0=0:=rfl
theorem tw12325935351171521094:0=0:=rfl
theorem tw6762459628458184331:0=0:=rfl
theorem tw14097065271169425814:0=0:=rfl
theorem tw11111756637366881081:0=0:=rfl
theorem tw17223636155150044453:0=0:=rfl
theorem tw10717315795927908209:0=0:=rfl
theorem tw4016951750546161337:0=0:=rfl
theorem tw15697944520650891467:0=0:=rfl
theorem tw4226452059504399636:0=0:=rfl
theorem tw17020390152189394497:0=0:=rfl
theorem tw14048665377406261490:0=0:=rfl
theorem tw16306084558726300598:0=0:=rfl
theorem tw5953021480103954662:0=0:=rfl
theorem tw4315308397944087379:0=0:=rfl
theorem tw6406079587286951693:0=0:=rfl
theorem tw8674187446511073639:0=0:=rfl
theorem tw3205267097297523220:0=0:=rfl
theorem tw16801613208176031284:0=0:=rfl
theorem tw16646873280030200143:0=0:=rfl
theorem tw9406443079686788753:0=0:=rfl
theorem tw5814470421199362713:0=0:=rfl
theorem tw18264606569366350110:0=0:=rfl
theorem tw2883263194373079750:0=0:=rfl
theorem tw1949650099044580348:0=0:=rfl
theorem tw14136937620039685435:0=0:=rfl
theorem tw14489128815173683687:0=0:=rfl
theorem tw5688800650982162853:0=0:=rfl
theorem tw14979847840083551833:0=0:=rfl
theorem tw6839459368707247549:0=0:=rfl
theorem tw2674885110172498116:0=0:=rfl
theorem tw16479580136291176861:0=0:=rfl
theorem tw5641887670035856702:0=0:=rfl
theorem tw14929088621484723137:0=0:=rfl
theorem tw16245838114342102713:0=0:=rfl
theorem tw17093996952475873446:0=0:=rfl
theorem tw8493831761421504560:0=0:=rfl
theorem tw17633515697247820419:0=0:=rfl
theorem tw14291940368863431503:0=0:=rfl
theorem tw2625811135061343999:0=0:=rfl
theorem tw16682515005979737626:0=0:=rfl
theorem tw13812253947153272474:0=0:=rfl
theorem tw3441462329680761136:0=0:=rfl
theorem tw18142125643534140402:0=0:=rfl
theorem tw5480077677976155366:0=0:=rfl
theorem tw8937910856609903845:0=0:=rfl
theorem tw2821193341851814781:0=0:=rfl
theorem tw8090876881378028664:0=0:=rfl
theorem tw3613264368796633099:0=0:=rfl
theorem tw10855568815756603370:0=0:=rfl
theorem tw11641849152584517854:0=0:=rfl
theorem tw4774738979475432117:0=0:=rfl
theorem tw15471667417379647385:0=0:=rfl
theorem tw3938079227703878646:0=0:=rfl
theorem tw14796442261857423813:0=0:=rfl
theorem tw11967088488024691905:0=0:=rfl
theorem tw4812156281140239048:0=0:=rfl
theorem tw8966468784865768710:0=0:=rfl
theorem tw1082040870387991349:0=0:=rfl
theorem tw11326123838496031425:0=0:=rfl
theorem tw12459126454001030401:0=0:=rfl
theorem tw3831663719818520936:0=0:=rfl
theorem tw3914756069985790247:0=0:=rfl
theorem tw10793797015931153242:0=0:=rfl
theorem tw2512900263590893468:0=0:=rfl
theorem tw8121126664477952860:0=0:=rfl
theorem tw1613886778750848528:0=0:=rfl
theorem tw10989559623026262039:0=0:=rfl
theorem tw4274635259589475584:0=0:=rfl
theorem tw18320852899197231140:0=0:=rfl
theorem tw2703084502298129777:0=0:=rfl
theorem tw12078839317131018210:0=0:=rfl
theorem tw11864832560548043244:0=0:=rfl
theorem tw17787553926386515715:0=0:=rfl
theorem tw8802346025633340119:0=0:=rfl
theorem tw5079120426898323215:0=0:=rfl
theorem tw2717836095165935470:0=0:=rfl
theorem tw16244183916503872746:0=0:=rfl
theorem tw1890449731020567588:0=0:=rfl
theorem tw14570819698250301895:0=0:=rfl
theorem tw13865424791480616062:0=0:=rfl
theorem tw10303205286177470285:0=0:=rfl
theorem tw17120027579633545485:0=0:=rfl
theorem tw12915872617511388207:0=0:=rfl
theorem tw8790146281911433815:0=0:=rfl
theorem tw13852469397576536847:0=0:=rfl
theorem tw12465845950814418754:0=0:=rfl
theorem tw18006803911876768600:0=0:=rfl
theorem tw4912877141918485660:0=0:=rfl
theorem tw6415966844607024703:0=0:=rfl
theorem tw13283426550759342448:0=0:=rfl
theorem tw4115426836440247354:0=0:=rfl
theorem tw6135403229536858317:0=0:=rfl
theorem tw6284508737443465597:0=0:=rfl
theorem tw12490720745827488194:0=0:=rfl
theorem tw6086124698989031945:0=0:=rfl
theorem tw4086460044247128219:0=0:=rfl
theorem tw9626141127233777561:0=0:=rfl
theorem tw477096251318968121:0=0:=rfl
theorem tw5990846520231169679:0=0:=rfl
theorem tw8417865245776534375:0=0:=rfl
theorem tw8516061613917127424:0=0:=rfl
theorem tw9744267814715882523:0=0:=rfl
theorem tw12146783446133008250:0=0:=rfl
theorem tw12431125388764410789:0=0:=rfl
theorem tw4659490577201723401:0=0:=rfl
theorem tw8767362586509624105:0=0:=rfl
theorem tw13655146962822263909:0=0:=rfl
theorem tw16832997434710831277:0=0:=rfl
theorem tw13764771672617453872:0=0:=rfl
theorem tw3842072536504323420:0=0:=rfl
theorem tw10707205478919494283:0=0:=rfl
theorem tw4050604415260501158:0=0:=rfl
theorem tw12993916428181147098:0=0:=rfl
theorem tw16648206381294546080:0=0:=rfl
theorem tw11289259223126401629:0=0:=rfl
theorem tw11140245360490176673:0=0:=rfl
theorem tw2318187865658302091:0=0:=rfl
theorem tw15015497011016256755:0=0:=rfl
theorem tw14995561192637761344:0=0:=rfl
theorem tw8517534570937064128:0=0:=rfl
theorem tw14494809984993501915:0=0:=rfl
theorem tw18088152946929148999:0=0:=rfl
theorem tw1981078698823374647:0=0:=rfl
theorem tw13810994635155082314:0=0:=rfl
theorem tw13922136383953811609:0=0:=rfl
theorem tw1019854619896699927:0=0:=rfl
end PySem.W.Fast
open PySem PySem.W PyProof.Rows _r
theorem PySem.Challenge.cw_routeboard_k75_whole_sites_and_tables_holds : PySem.Challenge.rw_routeboard_k75_whole_sites_and_tables.Holds := by
 w_on;o_law;k_head;(case hw=>w_witness2)
 k_fill
 refine L2.JsF (l:=PySem.Challenge.rw_routeboard_k75_whole_sites_and_tables) (n:=63) (k:=42) (x:=(oS "_law_script")) (CX:=fun w=>Rd.CXr PySem.Challenge.rw_routeboard_k75_whole_sites_and_tables.prog w) (sp:=fun w=>Rd.sW _) rfl 'y' rfl ⟨rfl,by decide,by decide⟩ (fun w h Y=>PySem.W.kIn_of Y) ?F (fun w H a ns hl _ hS=>⟨a,ns,rfl,hS,hl,fun _=>rfl⟩) fun _ _ _ _ _ z=>Rd.noCX z
 case F=>
  intro w mg fa h KX G hmg
  refine' K75.JvQ KX G hmg ?dT ?dL ?dR ?dB ?y0 ?y1 ?y2 ?y3 ?y4 ?y5 ?y6 ?y7 ?v7 ?y8 ?v8 ?v8_0 ?v8_1 ?v8_2 ?y9 ?gT ?ec_NoBack ?ec_NoSite ?ec_NoText ?ec_TooMany ?xc_NoBack ?xc_NoSite ?xc_NoText ?xc_TooMany ?aC ?pg ?hd ?po ?sa ?mk ?kc ?n1 ?n2 ?n3 ?zB ?mI ?mM ?mP
  (case dT=>(repeat' refine iD ⟨_,_,Rd.def_mk 'â' 'â' 'â' 'â'⟩ ?_);exact ZT)
  (case dL=>(repeat' refine iD ⟨_,_,Rd.def_mk 'â' 'â' 'â' 'â'⟩ ?_);exact ZT)
  (case dR=>(repeat' refine iD ⟨_,_,Rd.def_mk 'â' 'â' 'â' 'â'⟩ ?_);exact ZT)
  (case dB=>(repeat' refine iD 'â' ?_);exact ZT)
  (case y0=>k_is)
  (case y1=>k_is)
  (case y2=>k_is)
  (case y3=>k_is)
  (case y4=>k_is)
  (case y5=>k_is)
  (case y6=>k_is)
  (case y7=>k_is)
  (case v7=>k_is)
  (case y8=>k_is)
  (case v8=>k_is)
  (case v8_0=>k_is)
  (case v8_1=>k_is)
  (case v8_2=>k_is)
  (case y9=>k_is)
  (case gT=>kernel_rfl)
  (case ec_NoBack=>k_is)
  (case ec_NoSite=>k_is)
  (case ec_NoText=>k_is)
  (case ec_TooMany=>k_is)
  (case xc_NoBack=>k_exc)
  (case xc_NoSite=>k_exc)
  (case xc_NoText=>k_exc)
  (case xc_TooMany=>k_exc)
  (case aC=>k_is)
  (case pg=>k_is)
  (case hd=>k_is)
  (case po=>k_is)
  (case sa=>k_is)
  (case mk=>k_is)
  (case kc=>k_is)
  (case n1=>k_is)
  (case n2=>k_is)
  (case n3=>k_is)
  (case zB=>k_is)
  (case mI=>exact Rd.meth_mk 'â' 'â' 'â' 'â' 'â')
  (case mM=>(repeat' refine iD (Rd.meth_mk 'â' 'â' 'â' 'â' 'â') ?_);exact ZT)
  (case mP=>(repeat' refine iD (Rd.meth_mk 'â' 'â' 'â' 'â' 'â') ?_);exact ZT)
