import PyProof.Rows.All
import Wide.All
import OpenK.AllK
import Wide.FinOn
import Lean
import PyProof.EqAt
import PyProof.EqKinds
import PyProof.TupleCall
import PyProof.DictRoadsH
import PyProof.NeKinds
import PyProof.StrBlockI
import PyProof.SliceStr2
import PyProof.StrLaws
import PyProof.ListMulRoad
import PyProof.FactsAll.tuple
import PyProof.SetKind
import PyProof.DictKinds
import PyProof.Rows.SetFrom
import PyProof.Rows.SortStr
import PyProof.FactsAll.set
import KE.KDictOf
import PyProof.AttrMissHeap
import PyProof.WalksMore
import PyProof.ListRange
import PyProof.TupleOfSeq
import PyProof.Rows.TupDisplay
import PyProof.DictItems
import KE.KMinBuiltin
import KE.KTupSum
import PyProof.DictWalks
import KE.KSortTup
import PyProof.StrLawsTight
import PyProof.StrLawsChain
import PyProof.StrLawsJoin
import PyProof.StrLawsFirst
import PyProof.StrBlockH
import PyProof.StrCalls2
import PyProof.MeetsStr2
import PyProof.Rows.StrNews2
import PyProof.Conv_int_bool
import KE.KEqDict
import PySem.Challenge.RW_routeboard_k73_whole_site_texts_spoilt
set_option Elab.async false
set_option linter.all false
set_option maxRecDepth 100000
set_option maxHeartbeats 0
set_option bootstrap.genMatcherCode false
set_option compiler.extract_closed false
set_option backward.eqns.nonrecursive false
open Option renaming some→So,none→No
open Bool renaming true→To,false→Fo
open PySem.Str renaming ofString→oS
section
open Lean
def sgM(a:Array Syntax):Syntax:=if a.size==1 then a[0]! else mkNode `Lean.Parser.Term.app #[a[0]!,mkNullNode (a.extract 1 a.size)]
def sgA(k:Name)(s:String)(c:List Char):Syntax:=mkNode k #[mkAtom s,mkIdent (((String.ofList c).splitOn ".").foldl .str .anonymous)]
def sgI(c:Char):Bool:=c.isAlphanum||"_.'₀₁₂σκ".toList.contains c
def sgO(a b:Syntax)(k:Name)(s:String):Syntax:=mkNode k #[a,mkAtom s,b]
mutual
def sgP:Nat->Array Syntax->List Char->Syntax×List Char
|n+1,a,r=>match r with
 |' '::r=>sgP n a r
 |'('::r=>let p:=sgP n #[] r
  if p.2.head?==So ',' then let q:=sgP n #[] (p.2.drop 1);sgP n (a.push (mkNode `Lean.Parser.Term.tuple #[mkNode `Lean.Parser.Term.hygienicLParen #[mkAtom "(",mkNode `hygieneInfo #[mkIdent .anonymous]],mkNullNode #[p.1,mkAtom ",",mkNullNode #[q.1]],mkAtom ")"])) (q.2.drop 1)
  else sgP n (a.push p.1) (p.2.drop 1)
 |'['::']'::r=>sgP n (a.push (sgO (mkAtom "[") (mkAtom "]") `«term[_]» ""|>.setArg 1 (mkNullNode #[]))) r
 |'['::r=>let p:=sgL n #[] r;sgP n (a.push (sgO (mkAtom "[") (mkAtom "]") `«term[_]» ""|>.setArg 1 (mkNullNode p.1))) p.2
 |'⟨'::r=>let p:=sgL n #[] r;sgP n (a.push (mkNode `Lean.Parser.Term.anonymousCtor #[mkAtom "⟨",mkNullNode p.1,mkAtom "⟩"])) p.2
 |'?'::'_'::r=>sgP n (a.push (mkNode `Lean.Parser.Term.syntheticHole #[mkAtom "?",mkNode `Lean.Parser.Term.hole #[mkAtom "_"]])) r
 |'"'::r=>let p:=r.span (·!='"');sgP n (a.push (Syntax.mkStrLit (String.ofList p.1))) (p.2.drop 1)
 |'\''::c::r=>sgP n (a.push (Syntax.mkCharLit c)) (r.drop 1)
 |'.'::r=>let p:=r.span sgI;sgP n (a.push (sgA `Lean.Parser.Term.dotIdent "." p.1)) p.2
 |c::r=>if c==')'||c==','||c==']'||c=='⟩' then(sgM a,c::r)else
  if c.isDigit then let p:=(c::r).span Char.isDigit;sgP n (a.push (Syntax.mkNumLit (String.ofList p.1))) p.2 else
  if sgI c then let p:=(c::r).span sgI;let s:=String.ofList p.1
   if s=="fun" then let q:=p.2.span (·!='=');let b:=sgP n #[] (q.2.drop 2);let v:=((String.ofList q.1).splitOn " ").filter (·!="");(sgM (a.push (mkNode `Lean.Parser.Term.fun #[mkAtom "fun",mkNode `Lean.Parser.Term.basicFun #[mkNullNode (v.map fun x=>(sgP n #[] x.toList).1).toArray,mkNullNode #[],mkAtom "=>",b.1]])),b.2)else
   sgP n (a.push (if s=="_" then mkNode `Lean.Parser.Term.hole #[mkAtom s]else if s=="Prop" then mkNode `Lean.Parser.Term.prop #[mkAtom s]else(sgA .anonymous "" p.1).getArg 1)) p.2
  else let o:=(c::r).span (fun c=>!sgI c&&!" ([⟨?\"'".toList.contains c);let p:=sgP n #[] o.2;let s:=String.ofList o.1;(sgO (sgM a) p.1 (if s=="->" then `Lean.Parser.Term.arrow else .mkSimple ("term_"++s++"_")) s,p.2)
 |[]=>(sgM a,[])
|_,a,r=>(sgM a,r)
def sgL:Nat->Array Syntax->List Char->Array Syntax×List Char
|n+1,a,r=>let p:=sgP n #[] r;if p.2.head?==So ',' then sgL n (a++#[p.1,mkAtom ","]) (p.2.drop 1)else(a.push p.1,p.2.drop 1)
|_,a,r=>(a,r)
end
end
def sgT:List String:="гautoParam¦F.str (mkS l)¦N.ref C¦V.var 2¦&.ref s.heap.objs.size¦{i + 1¦~starEach es X.env¦(mkS l¦ÞrunD defs c¦æ.inl rfl¦ŏE7 ns st T x2 som x6 x7 x8 x9 x10 x11 x12¦ſ.dGet Fo¦μbackTo pos (starEach FC X.env)¦Ҝ.tup (.cons (.bi .idx (.var 5) Ap) (.cons (.call 32 (.cons AW (.cons (.bi .add (.bi .add BN Et) (.bi .mul (.con (.int 30)) Ap)) En))) .nil))¦Ɓs.heap.objs.size¦ƂJ.length¦Ɔits.toArray¦Ɗits.toArray.size¦ĞPySem.strKind prog w¦ĤRs.gB.mp h¦ħ⟨rfl,rfl⟩¦ĭDeed.mount n hs o¦ĵkys A¦ōPySem.W.hideAll B [Cd]¦Ŕlook n A¦Řs.heap.push PySem.W.emptyDict¦ūJa st¦űevD U a O¦ƞ(cxE Ci P w K mg base N O fn cm A outer s H E)¦ƟevD U e O¦ƠevD U p O¦Ƣput n t A¦ƥrows.map Row.d¦ƪps.map Part.d¦ƮDeed.take n¦Ʋws.map D.str¦ƶrows.map Row.l¦ƿmkS []¦ǈzh5 s.heap t1 t2 f q¦ǍList.replicate X.N.length No¦ǎList.range m¦ǑNe.symm q¦ǒws.drop 1¦ǖsA X.env.cells sc.names []¦ǙevD U as O¦Ǜls.map mkS¦ǧ['r','o','t','a','r','e','t','i','_','t','e','s']¦Ǩ[.str a u,.str b m,.str d v]¦ǲJ.getD j .non¦ǳhidT l.heap H¦ǴE7 ns st T x2 [T] x6 x7 x8 x9 x10 x11 x12¦ǹJx Fs¦ǽe.grow s¦Ȁrelabel sc X.env¦Ȋ[So BO,So (.dct Fo Fo [] []),So .non,No]¦ȐZ.set i Bi¦ȝs.heap.push (newS w)¦ȤSo (.int Lo)¦ȧitems.toList.drop (sIx Ay 0 lo)¦Ȩstx A¦ȷns.zip xs¦ɅcutV xs lo hi¦ɆbackTo pos (starEach [] X.env)¦ɎSameP.of s¦ɟjC N vs¦ɣJh _ _ rfl rfl m¦ɧiP X ls sc Cd s2 H2 fp E'¦ɶfun _=>To¦ɷJn [s] ls¦ɹcellsFrom n b f¦ɺzh1 s.heap t1 f¦ɼList.range' 0 n¦ʃrs.filter p¦ʅws.zip 'ǒ'¦ʊtgN tg¦ʮF.args_str_split_2 _ _¦ͻevD U c¦ͽK w.params¦Άps.map txP¦ΈJn [10] ls¦ΎcellsFrom Es D9 []¦Υzh4 s.heap t1 t2 f q¦ήJq _ _ (JD _ _ (Jf _ _ rfl (is_name n (Jix f) c)))¦ϕassignEach es X.env¦ϖList.replicate k xs¦Ϙr b _ this fun z=>z¦ϠputK kvs k v¦ϡList.range i¦ϢDeed.put n t¦ϥJas _ (JH _)¦Ϫns.zip fs¦ϮtabT rows¦ϸI.base.tups b xs q¦Ϲrows.map (mntR hs)¦ϽBuiltin.Str.strSliceIndices lo hi 1 x.length¦ЈksD A¦КpickOrder Lq es¦ћmetS ws¦ѡstL A n¦Ѣtbl A n¦ѳevD U src O¦ѷZS _ _ Fg¦ґtxt ps¦ҔtabT t¦ҕ(cxOf Ci P w K mg base N i b f l A j s H E)¦Ҫm b _ q fun z=>z¦ӁPu.Jx ws¦Ӄfn _ _ E¦Ӆo_lt _ _¦ӆhE T x y¦ӚNe.symm n2¦ӛswB.at C r¦Ӣls.map rdP¦ӧrelabel scope O¦ӨcellsFrom n f b¦ԍif_neg (vX f)¦ԦJi q j¦ԬqA ps¦ԺevD U c O¦ԿmntR hs r¦ՅJaH P w¦ՈevD U e¦ՙE0 ns AM G3¦զList.replicate j.toNat i.cps¦հenvOfC qual scope Aa f cd¦ճR J a¦նtxP p¦շskD E¦րList.range n¦ցevB U bc a O¦ւevB U bc e O¦քs02.trans sm¦ֆCx.mk1 X E Y¦丂look_mem n A¦七look_mem m A¦丬envOfC j scope Aa f J¦丷JX nt Lu Ls O Ib¦久zh1 (zh1 h t1 f) t2 q¦乕SameP.of s1¦乙E0 ns AM f¦乥hidT h H¦乯xs.map f¦买sget n E¦乲ne_S _ _¦乾List.range bs.length¦乿zh3 s.heap t1 t2 f q¦亀s.heap.update a Uy¦亃Rx.of O (evD U pc O)¦亴eU J its d¦亹Ne.symm n1¦亾zipD ks vs¦仆oth b (Z b o hb f)¦仌fun m b=>hs m KG¦仙⟨rfl,fun _=>h r j⟩¦仚⟨rfl,fun _=>h r i⟩¦伄f b _ q fun z=>z¦伅r b _ q fun z=>z¦伇ws.foldl addS ks¦伌List.range' lo n¦伕Jh _ _ rfl rfl j".splitOn "¦"
def sgU:List String:="Aiaz._auto_1¦EFaz._auto_2¦Lbaz._auto_3¦Yiaz._auto_4¦Cj'г' Yd Ai¦Dg'г' Yn Ai¦DS'г' FE EF¦Hn'г' GG Ai¦K5'г' Ob Ai¦MR'г' Vf Yi¦MQ'г' Oa Ai¦Ti'г' Fy Ai¦Th'г' N8 Ai¦W3'г' Yg Lb¦W6'г' Tg Ai¦W5'г' W2 Ai¦AkPySem.W.Frag¦Ap.var 0¦AgList Str¦AzValue -> Shared -> Prop¦BdList (Str × NameKind)¦AUList (Addr × Obj)¦AjList Nat¦Avmodel X.prog X.w¦AlCtx X G N nm¦BfStr -> Option Value¦Asmodel prog w¦AoShared¦AJPE X a (tI X U pa)¦Et.con (.int 1)¦AMob a A dn un¦AIInv X Y Z H s¦AW.var 1¦B0.bl To¦BO'F'¦BkProgram¦AeCallD¦AFList Value¦AqList D¦FD.Name x px¦BFOw M O Z¦BrPE X b (tI X U pb)¦AV'N'¦BRList (List Nat)¦BgAround¦Df.cons Ap .nil¦BjrunD defs U¦FCe :: es¦CH.con .non¦AwList V¦BN'V'¦BML2.Inv X Y Z H s¦A7List Addr¦AE.ref a¦Cb.con B0¦DQ.var 3¦RS.con (.int 0)¦BcWorld¦AmValue¦Yc(Fo,eval e X.env)¦By.str n¦BlU + 1¦B1runD defs k¦B2.obj a ns fs¦BPS \"NoText\"¦FG.con (.int 2)¦DPList (Str × Addr)¦CYList Expr¦FF'&'¦Bm.tup xs¦Ce.ref it¦CiCXr P w¦GI.Name x p1¦G5oS \"NoText\"¦FE(x == Ye) = Fo¦CgL2.St¦YdstarEach FC X.env = (Yc :: starEach es X.env)¦CfArray Value¦Ess.heap.objs.size + 1¦IG.bi .idx Ap RS¦Ofps.map Part.d¦YboS \"rest\"¦G4So (.lst (goodS.map .str))¦RQhs.map Part.d¦BQ'{'¦BL.lst J¦G3So (.int k)¦RT'('¦BzXW X H¦ALList Row¦Bq.bl Fo¦CG.Attribute FD f apos¦DN(Fo,eval a X.env)¦AH.lst xs¦IFoS \"any\"¦MaoS \"number\"¦EroS \"self\"¦CpoS \"TooMany\"¦A6FuncData¦BZoS \"_law_script\"¦FAtI X U p¦GH.bi .idx Ap Et¦DMoS \"thing\"¦IErows.map Row.d¦GGstarEach [b] X.env = ((Fo,eval b X.env) :: starEach [] X.env)¦BYrunB defs bdefs k¦CooS \"NoSite\"¦GFoS \"name\"¦A5.ref f¦BEA.handled = No¦A2Option Int¦CF(apos.endLine == pos.line) = To¦BK.ref l¦L9oS \"tables\"¦DI'Þ'¦GE.con (.int 4)¦Ep.con (.int 3)¦EooS \"table\"¦DHws.map .str¦BDList (κ × V)¦ASc + 1¦BJ'æ'¦BC.int at_¦BXEP X Y Z Q¦A1k + 1¦ARc + 2¦A0List Int¦CaoS \"text\"¦A4c + 3¦A3.dK kvs¦BIList Stmt¦BWsepP M p = To¦BbList Env¦En.cons DQ .nil¦B9Ja st¦FystarEach [a] X.env = (DN :: starEach [] X.env)¦Bahid L H¦BiSo v¦AZ.int i¦BBSo d¦Bw.var 4¦Oe.un .asI DQ¦Ya.Attribute GI m apos¦AYOption D¦BeJk 10 T¦OdkeywordEach [] X.env¦DFoS \"BadValues\"¦DeList Pu.D -> Nat -> Rs Pu.D¦Fx.cons AW .nil¦B8c + 8¦DE.un (.fld L9) Ap¦CWEnvOk K M H0 H Z O¦CVns.contains m = Fo¦DDoS \"BadLead\"¦BvSo AV¦GD.str Yb¦DCoS \"NoHole\"¦DBoS \"NoBack\"¦B7.Name x pos¦BHOut X H Q¦CD.var i¦Fv.str (mkS [s])¦Ddha Y s Z H _ I h¦CBO :: outer¦BpList Part¦DAoS \"NoRow\"¦DzoS \"Taken\"¦CAt ++ mkT hs u¦ID.str IF¦DcStr -> Prop¦DarunD defs (c + 7)¦EmOption Value -> Shared -> Prop¦ObstarEach [e] X.env = (Yc :: starEach [] X.env)¦DyPA X FC (tA X U p)¦ICenvOfC qual B9 s.heap.objs.size f cdv¦C9So BK¦C8mutB body¦L6.str Ma¦B6PE X e FA¦C7ls ++ hidN ls N¦C6l.length ≤ 19000¦CTlook n A¦DxoS \"_law_at\"¦FtSo (f1 r) :: So (f2 r) :: O¦CSeval a X.env¦C5O.set i No¦C4runD defs B8¦IBrunD defs (c + 9)¦B4List DefD¦GBsIx items.size items.size hi - sIx items.size 0 lo¦Cmmodel P w¦Dw(3 * k) + 2¦Ek.walk Ap¦OaswapsWith e (So FD) pos.line X.env = pure Fo¦L5.sl Ap CH Oe¦EjUnit -> Shared -> Prop¦EichkA N nm M i x = To¦EhchkO N nm M i x = To¦DvtT X' U pc¦GA.con (.int 5)¦GzsA X.env.cells sc.names []¦Fq.builtin \"object.__class__\"¦Vg.tail _ (.tail _ (.head _))¦Du.builtin id¦CQX.calm = To¦Egod.data = .dict es ep¦X9'ŏ'¦Iz.cons GE .nil¦FpValue.ref d == Value.none¦Iy.con (.str (oS \"\"))¦EfFun K x qual st f fd¦Ee.un .len Ap¦Edob a A [] []¦EcgetMethod ov m pl¦EbbackToKw pos Od¦GyList (Str × Value)¦N9Result -> Shared -> Prop¦Fn.Call Ya FC [] pos¦FloS \"ValueError\"¦Ea.ret (.con Bq)¦N8attributeBase FD f X.env (eval FD X.env) = eval FD X.env¦Vf(X.fn x = To) ∨ (X.env.scope.names.lookup x = So .local)¦FkzipD (skD E) (svD E)¦GxEnv0 P w K mg base A outer s H¦FjCx.mk1 X E Y¦Gv.cons GH .nil¦Fi.raise G5 .nil¦FhI1.hok.fresh (Zh _)¦L3oS \"Site\"¦Gu.Assign [.Name x px] e pos¦IwFnOk X.prog X.w X.K X.mg X.base CX k f fd ps sp¦FgNe.symm hb¦Dts.trans s2¦FfArray (Option Value)¦GrPI X tg iter (tW X U ps)¦GqO.set i BB¦N7oS \"one\"¦GpJh _ _ rfl rfl (mO _ _)¦VerunB defs bdefs (c2 + 1)¦LZ.comp nt ps pc pe¦FeSo (f r) :: O¦Fd(x == Ym) = Fo¦GnSetTable.grown es1.size¦Vd.un .asI (.un .neg Et)¦Dss1.trans s2¦Vc'ſ'¦DVJG d.slots J¦Lqw.params.setOrder a ep¦HFoS \"mount\"¦EMBool -> Hp -> Prop¦XroS \"word\"¦EKStr -> Fm -> Prop¦EJl.length ≤ 20000¦F3he Y s Z H _ I h¦Lp.walk (.call 23 Df)¦T5So (.str (mkS ln))¦F2rdE l a [] No No¦DU.ins C dx fs¦DTns.map D.int¦Lo(v * 7919) + r¦HEoS \"put\"¦EIrunD defs AS¦FWSE × Option Str¦FVexO w U bc body¦LgArray (Int × Value)¦FU(dn.length + 1) < 1000¦MY.sl Ap (.un .asI Et) CH¦Tz.con (.str (oS \"=\"))¦MX.con (.str (oS \" \"))¦LfoS \"abcdefghijklmnopqrstuvwxyz0123456789-\"¦FTrunD defs (c + 5)¦TxenvX q scope s.heap.objs.size f (.ref c') clos¦HxbehindInMarks op b = Fo¦Hw.Compare a [op] [b] pos¦FSX.env :: X.outer¦MW.bi .add DQ Et¦MV.bi .idx AW Et¦FRList (κ × Value)¦Tu.tail _ (.tail _ Vg)¦HvSetAt s.heap a o es ep t¦LeoS \"abcdefghijklmnopqrstuvwxyz\"¦Ld.builtin \"getset_descriptor.__get__\"¦Tr.tolB fi cs f i ns p¦HurunB defs bdefs U¦Ht(X.A.units + 60) < cLine¦Hs(X.A.units + 64) < cLine¦Lc.dct Fo Fo (ksD A) (vsD A)¦HrO.set i (So st)¦HqI.hok.fresh (Zh _)¦HochkV N nm i x = To¦W4.cons MV (.cons (.bi .idx AW FG) (.cons (.bi .idx AW Ep) .nil))¦K9.con (.str (oS \"/\"))¦K8JD _ _ (Jf _ _ rfl (hp c))¦K7PassesOwn Av X.A X.env X.xe¦Tn.un .items (.call 27 Df)¦K6Value -> Value -> Sem Value¦MUX.env.qual ++ \"<lambda>\"¦Tj.walk (.sl Ap CH Vd)¦MTE7 ns st T G3 som x6 (So BC) x8 x9 x10 x11 x12¦K4tI X U (.bi o pa pb)¦K3exO Fo IB Ve rdB¦K2dn ++ [stp w n CT x]¦MPSo (.obj a ns (putN f d' ns fs)) :: env'¦MO.builtin \"BaseException.__getattribute__\"¦MN(b ∈ X.ex) ∨ (X.s₀.heap.objs.size ≤ b)¦MMenvOfC qual scope s.heap.objs.size f cd¦MLevD U src O = .ok (.lst (rs.map f))¦MKOption (Value × Nat) -> Shared -> Prop¦MJJq _ _ (JD _ _ (Jr _ _ rfl (h1 c)))¦MIPySem.W.instObj C s.heap.objs.size¦MHupd W s2.heap.objs.size (.lst ys)¦MG.BoolOp .And (a :: b :: rest) pos¦MFa2 _ _ (hc1 _ _) (ZbU (hc1 _ _))¦MEevD U src O = .ok (.lst 'χ')¦TgdefaultsOf params X.env = ([],[])¦MD.Call (.Name L3 p) [] [] pos¦MCV -> List V -> Hp -> VK -> Prop¦W2starEach [.Lambda params body sc lp] X.env = ((Fo,eval (.Lambda params body sc lp) X.env) :: starEach [] X.env)¦W1.cons (.call 35 (.cons Ap (.cons (.bi .add (.con (.int 1000)) (.bi .mul (.con (.int 300)) BN)) .nil))) .nil¦TfE7 ns st T G3 som x6 (So BC) (So (.lst (lD two))) x9 x10 x11 x12¦TePySem.W.fnOf x qual (nL st) (Jp st) B9 .none kV doc pm an cdv ct¦W0.seq (.set Fo 4 (.bi .splitS DQ L8)) (.own 5 (.dis En))¦Td.Raise (So (.Call (.Name cx np) [ma] [] cpos)) No pos¦TccxOf CX P w K mg base N qual scope f cdv A outer s H E¦S9HT.sIx xs.length xs.length hi - HT.sIx xs.length 0 lo¦S8.un .any (.comp 0 Tj Cb (.bi .eq IG (.con GD)))¦S6V -> Option Int -> Option Int -> Hp -> VK -> Prop¦S5.Call GI [.Lambda params body sc lp] [] pos¦S4typeOf Du = pure (.type \"method_descriptor\")¦S3upd H a (.ins C dx (putF f v (ns.zip xs)))¦S2E7 ns st T G3 som x6 x7 x8 x9 x10 x11 x12¦WY.comp 0 (.un .range (.call 30 (.cons Ap (.cons AW (.cons (.bi .add BN Et) .nil))))) Cb (.call 31 (.cons AW (.cons (.bi .add (.bi .add BN FG) (.bi .mul GA Ap)) (.cons (.bi .idx Bw Ap) .nil))))¦WX.comp 0 (.un .range (.bi .add Et (.call 30 (.cons Ap (.cons (.bi .add AW Et) (.cons Ep .nil)))))) Cb (.bi .idx Bw (.call 30 (.cons AW (.cons (.bi .add (.bi .add BN FG) Ap) Iz))))¦WW.ret (.bi .idx (.dis (.cons (.bi .add Ap MX) (.cons (.bi .add MX Ap) (.cons (.bi .add (.sl Ap Oe CH) L5) (.cons Iy (.cons (.bi .add Ap Ap) .nil)))))) (.bi .mod AW GA))¦WU.ret (.tup (.cons (.con (.str HE)) (.cons DQ (.cons (.un .tuple (.comp 0 (.walk (.var 5)) Cb (.tup (.cons (.bi .add (.var 7) IG) Gv)))) .nil))))¦WT.ret (.tup (.cons (.con (.str HF)) (.cons DQ (.cons (.var 7) (.cons (.bi .idx BN (.call 30 (.cons Ap (.cons (.bi .add AW GE) Iz)))) .nil)))))¦WS.seq (.set Fo 3 (.call 26 Fx)) (.seq W0 (.seq (.loop Fo [2] 0 (.un .range GE) lB1) (.seq (.loop To [9] 0 (.walk (.var 5)) lB2) lB3)))¦WR.ite (.un .isN BN) Fi (.put Fo Fo 1 BN (.bi .add (.bi .add (.con (.str Str.empty)) (.bi Vc AW BN)) (.bi .add DQ L8)))¦WQ.set Fo 6 (.bi .idx (.con (.str (oS \"abcdefgh\"))) (.call 30 (.cons Ap (.cons (.bi .add AW Ep) (.cons Ep .nil)))))¦WO.ite (.bi .eq (.var 6) (.con (.int 6))) (.ret (.bi .add (.sl Ap CH (.un .asI (.var 5))) (.sl Ap Oe CH))) .skip¦WK.set Fo 5 (.call 33 (.cons Ap (.cons (.bi .add AW (.con (.int 10))) (.cons FG (.cons Ep .nil)))))¦WJ.or (.un .not (.un .truth (.call 3 (.cons Ap (.cons Et Iz))))) (.un .not (.un .truth (.call 4 Df)))¦WH.ite (.bi .lt (.var 6) GA) (.ret (.bi .add (.bi .add L5 Bw) (.sl Ap (.un .asI MW) CH))) .skip¦Yg(((kI N ps B9 && (d.slots == N.length)) && (d.params == ps.length)) && decide (ps.length ≤ N.length)) = To¦WE.tup (.cons AW (.cons BN (.cons (.ite (.bi (.dIn Fo) BN DE) (.bi Vc DE BN) CH) En)))¦WD.set Fo 7 (.call 32 (.cons Ap (.cons (.bi .add AW (.con (.int 200))) (.cons FG .nil))))¦WChandleBy AE X.env [.ExceptHandler (So (.Name rn np)) (So en) [.Return (So ex) p2] hp]¦WB.ite (.bi .lt (.var 6) FG) (.ret (.bi .add (.bi .add L5 Bw) (.sl Ap Oe CH))) .skip¦WA.ite (.bi .eq (.var 6) GA) (.ret (.bi .add L5 (.sl Ap (.un .asI (.var 5)) CH))) .skip¦Wy.ite (.bi .eq Bw Ep) (.ret (.tup (.cons (.con (.str (oS \"take\"))) En))) .skip¦Wx.set Fo 4 (.bi .idx BN (.bi .mod (.bi .fdiv AW (.con (.int 1000))) (.un .len BN)))¦Ww.ite (.un .truth (.bi .strt Ap BN)) (.ret (.tup (.cons AW (.cons MY .nil)))) .skip¦Wv.set Fo 5 (.bi .add MW (.bi .mod (.bi .fdiv AW (.con (.int 7))) (.con (.int 9))))¦Wu.ite (.bi .eq (.var 6) FG) (.ret (.bi .add L5 (.sl Ap (.un .asI MW) CH))) .skip¦WtstarEach (.Name y py :: es) X.env = ((Fo,eval (.Name y py) X.env) :: starEach es X.env)¦Ws.call To 0 1 nsS (.cons (.call 28 (.cons BN .nil)) (.cons (.call 25 En) .nil))¦Aa'Ɓ'¦Ac'Ƃ'¦Ahxs.length¦ACs1.heap.objs.size¦ANs2.heap.objs.size¦AA'Ɔ'¦ABX.env.locals¦Ayitems.size¦Arps.length¦Dr'Ɗ'¦Burows.length¦AXns.length¦AQvs.length¦CyX.env.scope¦Bhks.length¦BVh.objs.size¦BGkvs.length¦Bols.length¦Fcits2.toArray.size¦Cwws.length¦CPvs.toArray¦BUys.length¦D9scope.names¦N5X.s₀.heap.objs.size¦An⟨P,w,K,mg,base,A⟩¦AK⟨l.prog,w,K,mg,base,A⟩¦Au⟨_,rfl⟩¦L7[(.tup [ID,(.str (oS \":\"))]),(.tup [L6,(.str (oS \"#\"))]),(.tup [GD,(.str (oS \"*\"))])]¦Fu.ListComp elt [⟨tg,iter,ifs,0⟩] sc pos¦CU'ħ'¦Fs'ĵ'¦El⟨_,Zf _ rfl,rfl,rfl⟩¦IAnotedBy As A O fun e i=>R (.error e) i¦Czfun _ _=>rfl¦BA[.str RT]¦L4⟨Jv M 0 O,Ow M O Z,e.ows,e.readHid,?_⟩¦Gs⟨_,Zf _ rfl,rfl⟩¦N6[D.str (S \"a\"),D.str (S \"b\"),D.str (S \"home\"),D.str (S \"x\")]¦L0JD _ _ (Jr _ _ rfl (JA _ 2 3 A4))¦B3List Nat¦Iv⟨_,_,m,l,Out.now h rfl⟩¦N4[So AM,So By,So (.tup RQ),So (.str o),So (tD t),No]¦COclsN ns¦D8⟨v,u,e,r,g⟩¦Fb⟨_,_,rfl,rfl⟩¦CNhid BF H¦Gm'Ƣ'¦Iu.tup [ID,L6,GD]¦Vb[D.str (S \"t\"),D.str (S \"p\"),D.str (S \"v\"),D.str (S \"q\"),D.str (S \"u\"),D.str (S \"s\")]¦CMHOk P w H h¦Gk⟨O,e.readOk,?_⟩¦Va[(DF,o),(DA,I),(Dz,F),(Cp,m),(DD,x),(G5,q),(DC,B),(Co,u),(DB,y)]¦U8.con (.int 8)¦DqpyNext Ce¦U7[.type \"ValueError\",.type \"Exception\",.type \"BaseException\",.type \"object\"]¦Ir.Tuple [a,b] k2 pt2¦E9ScOk N nm ls sc¦Dp⟨O,r,?_⟩¦X8⟨_,_,rfl,rfl,⟨_,_,rfl,rfl,rfl⟩⟩¦Ck.ref x¦BS.int j¦IqrunD defs AR¦LY[So (.str w),So By,So x]¦Do.tup IE¦Cv[.ref a]¦Ip.tup Of¦LX[.str n,.tup RQ,.str o]¦Iofun _ _ _=>False¦N3.con (.str N7)¦D7⟨O,e,?_⟩¦Gj'ƿ'¦U6(cxE Ci P w K mg base N IC (fun _=>To) Fo A outer s H E)¦U5(cxE Ci P w K mg base N Tx (fun _=>Fo) To A outer s H E)¦E8oS \"undone\"¦E6Same.refl H¦U4S \"no text\"¦Bt.bl b¦U3[D.str (S \"a\"),D.str (S \"b\"),D.str (S \"7\"),D.str (S \"0\")]¦LWZw (Zk e) I.ok.above¦LVrunB defs bdefs B8¦E5Reps K H J xs¦E4CtxN X G N nm¦CLcN tg N¦Cu.str x¦E3upd H a o¦ImBinds X.K fd ps J¦IlDKo H d t o ks xs¦CKPE X a ta¦U2mkS [32]¦DmclsN nsS¦E2uni L H H1¦X7'Ǜ'¦LU[ob a A dn un,.str n]¦IkCXr X.prog X.w¦U0runD defs A1¦Ij.obj a ns' fs'¦IimkS (l.drop 1)¦D6Option Addr¦D5Rep K H d v¦N2ls.map fun p=>.str (mkS p)¦LS.Return (So e) pos¦X6.un (.isO ns) CD¦N1.un (.isO nsS) Ap¦N0[So p.d,So (.str k),So Fv]¦NZ.dct Fo z (ksD A) (vsD A)¦Ig[Er,GF,Eo]¦UZ⟨lim.keeps x.toInCall.keep,codeAny_func ?_⟩¦Dl.ref D¦X5⟨ok.mod,ok.kind,ok.glob,ok.blt,ok.above,ok.inj,ok.has,ok.cab,ok.hd,ok.frames,ok.stk,ok.exf,ok.bs,ok.bsz,ok.noex,ok.exfs,ok.funs,ok.frf⟩¦NY.un .asI (.var 7)¦NX.Compare a [.In] [b] pos¦IeI.freeC x c e¦UYE7 ns st T x2 som x6 x7 x8 x9 x10 G4 x12¦Gi⟨_,e,rfl⟩¦CtSame H W¦LR.cons Au (.cons Au .nil)¦D4.tup RQ¦CsDn dn un¦NW.Constant (.str z) j p2¦NV'ǽ'¦E1oS \"done\"¦LQho Y s Z H _ I h¦NU.con (.str Xr)¦LProw0 r _ _ 0 rfl¦LOrow1 r _ _ 0 rfl¦IcReps X.K H J xs¦A9String¦A8PlO H0¦NT⟨rfl,ZcE,rfl,rfl,rfl⟩¦X4.tail _ (.tail _ Tu)¦Dkdel n A¦GhtI X' U pe¦IbJ.drop BQ¦GgC.glo _ hg¦GfS \"NoSite\"¦Gefun _=>rfl¦Yl'Ȑ'¦Ia.str (mkS f)¦LN.dK (pI kvs k)¦LMoS \"RouteError\"¦NS.type \"StopIteration\"¦UX.Tuple [.Name x p1,.Name y p2] k pos¦UW.un .not (.un .truth (.call 2 Fx))¦X3⟨fun b o e n hb G=>?_,fun b o e n hb G=>?_,I.base.free,fun b o e G=>?_,I.base.tups,I.base.frzs,I.base.tbls⟩¦DjSameP H W¦UV[.Tuple [.Name x px,.Name y py] kt pt]¦XZ[.ExceptHandler (So (.Name rn np)) (So en) [.Return (So (.Call (.Name cn p4) [.Name en p5] [] p6)) p7] hp]¦LLFnScope N ps B9¦NRfun b xs q=>sm b _ q¦NQrunB defs bdefs A1¦NO.Call Ya [] [] pos¦UUSo (.builtin \"object.__setattr__\")¦UT[.Tuple [.Name x px,.Name y r] kt pt]¦US[.str (mkS a),.str U2,.str (mkS b)]¦LKrunD defs A4¦NNSo (.lst badD)¦URZt (Zw (Zk e) (I.ok.cab x c U F))¦XY'Ȩ'¦HZfrs X.stack¦HYns.map .int¦HW.frz o Oc¦HVS \"TooMany\"¦HUblm E.b Ab¦D3mutS u¦HSZf _ rfl¦UQ[.Tuple [.Name x r,.Name y L] kt pt]¦NK[.str a,.str b,.str d]¦UP[.ref T,.ref p,.ref q]¦NJ.UnaryOp .Not a pos¦XX.Attribute o m apos¦NItSB X w U bc M H0 a¦NHoS \"_law_deed_here\"¦NGtT X U pa¦Gc.str x tk¦UOLooks As s.heap (typeOf Ck) Dl¦UN⟨G.prog,G.w,G.K,G.mg,G.base,A'⟩¦LJReadOk X.K H Z O¦LI[So (.tup DH)]¦UM.comp 0 Lp Cb (.call 24 Df)¦C1Sem Bool¦CZ[.exc c]¦NFCalleeP G U fi CO m¦NDfun b ob q=>Zd _ q¦NC.Subscript a b pos¦NBfun _ _ _ _ _=>rfl¦Gb([DM],[])¦GaK.In s.heap¦F9⟨[],[]⟩¦CrjS _¦Cq.bl p¦HRfun _ q=>q¦HQI.ok.hd hc¦HPupd H T o'¦HNEQ X [] H0¦NAsetNext a sl i ep¦Nz.builtin \"sorted\"¦D2Zd _ e¦Di.int r¦D1So BO¦UL.Call (.Name x p) FC [] pos¦LHcompareOp op¦UKZ.set i C9¦LGoS \"pattern\"¦UJObj.mapSeq fun x=>x.push u8¦UI.Compare a [.NotEq] [b] pos¦UH.bi .ne (.call 26 Fx) Ap¦XU.un .truth (.call 3 (.cons Ap (.cons RS (.cons (.con (.int 6)) .nil))))¦NyPE X ek (tI X U pk)¦XT'ɟ'¦F8.bool To¦Nxfun a ha=>lP ha¦UG.bi .add AW Et¦EZSo A5¦EY.type T¦EWstAt 61¦UFOutQ X w M H0 BF H C8 D¦UEOutQ X w [] H0 [] H C8 D¦UD.con (.str (oS \"no text\"))¦XS⟨.ref l,σ',_,I2,rv,fin _ ⟨l,_,rfl,⟨F,⟨o,Je⟩,rfl,rfl⟩,rr _⟩⟩¦CJ.rt d¦XR[So (.tup (f.map Row.d)),So (.tup (b.map Row.d)),So (.tup (rs.map Row.d))]¦XQ.Assign [.Name x px] (.ListComp elt [⟨tg,iter,ifs,0⟩] sc p1) pos¦UCPySem.W.codeRec_of KX hcd¦UBtS X U M H0 (.set Fo i p)¦UA.tolB 34 clT 4 0 nsS W4¦Uz⟨l,o,e1,g,Out.now q rfl⟩¦HMps.zip us¦HLtI X U pa¦HKpM _ _ _¦LF.call v p¦UyObj.putSet f t'¦Nw.lst (rs.map g)¦Ux.cons U8 .nil¦Nvr.ps.map Part.d¦F7[.tup Of]¦EVX.N.Nodup¦LChr.mono Ad¦LA.lift .skip¦LzhE T x T5¦LyoS \"_law_k\"¦Uwassign (.Name y z) X.env¦UvOutS X M H0 BF H D3 D¦Yk'ʊ'¦D0.ref d¦DZ.int k¦UuPE X e (tB X U bc [] H0 pb)¦XO.un .tuple (.comp 0 (.walk (.call 18 Df)) Cb (.call 19 Df))¦XN.set Fo 6 (.bi .mod (.bi .fdiv AW (.con (.int 100000))) U8)¦XM.Expr (.Call (.Attribute CG \"append\" mpos) [e] [] cpos) pos¦Utfun b o l e=>eb b o l e¦Usf (.int i t) (.int j u)¦Ur.call fi (.cons X6 p)¦XJ.Attribute a \"items\" ap¦XI.un .all (.comp 2 (.bi .zip Ap MY) Cb (.bi .lt Ap AW))¦XH.comp 0 (.walk (.var 12)) Cb (.told 34 cl9 (.call 901 Df))¦XG⟨_,Nat.sub_lt_sub_left j (ZaN i),s,E,c2.trans (un C),j,rfl,Y⟩¦NuObjOk P w H h a o¦NtPE X e (tF X U p)¦NrOption (List Row)¦Nq⟨_,Je,p1,rfl⟩¦Np⟨_,l,trivial⟩¦DYg i j¦HJ⟨t,rfl⟩¦HH⟨?_,?_⟩¦Uq(CR Ci outer P w H s Q E)¦Up⟨q,ZbS _ _ _ (.inl q)⟩¦XF.Expr (.Call (.Attribute CG \"pop\" mpos) [ek] [] cpos) pos¦Nm.cons rfl .nil¦Nl.builtin \"len\"¦Nkfun _ _ _ q=>q¦Nj.str Str.empty¦UomkS (txt r.ps)¦UmoS \"_law_some\"¦NioS \"_law_most\"¦Lx⟨_,rfl,h⟩¦AGCallB¦XDPySem.W.fnOf n n (nL s) (Jp s) (Ja s) .none kV m j o i ct¦XC(cxOf Ci P w K mg base [dn,en] qual B9 f cdv A outer s H1 E)¦Ul.loop [2,3] 2 Tn rdB¦DXRelV y u¦DWFldC G f¦XB.Expr (.Call (.Attribute FD \"append\" apos) [e] [] pos) f¦XA(cxOf Ci P w K mg base [dn,en] qual B9 f cdv A outer s H E)¦UkPG X tg (gS X M H0 ts nt)¦Xz⟨O,r.mono s,i.mono (fun d o=>o.mono s) fun c x=>x.mono s⟩¦XyPySem.W.fnOf name qual j l scope dV kV doc pm an cdv ct¦Xx.ite (.bi .eq IG AW) (.ret (.bi .add BN GH)) .skip¦Yj'ͻ'¦Lwr1.mono s2¦Lvfun _=>.sk¦NhoS \"ahead\"¦NgoS \"other\"¦UjI.base.free b o e n j¦Ui.builtin \"isinstance\"¦UhtC X U bc fi i cn m p¦Ug.dK (L2.putK kvs k v)¦NfTold G U x fi cs¦Xw[D.str (S \"y\"),D.str (S \"id\"),D.str (S \"z\"),D.str (S \"x\")]¦LuevD U pc¦LsevD U pe¦Ue⟨[.type \"set\",a],[]⟩¦NdbinaryOp .Add¦NcM p F w y t i¦NbtS X U M H0 a¦Nafun _=>.inr l¦M9evD (C c) Cb¦M8.lst (lD two)¦Xv.Raise (So (.Call (.Name x np) [e] [] cpos)) No pos¦EU.ref p¦HG.ref t¦ETkeyV k¦ESofN ns¦EOSo at_¦ENmkS ln¦Ud.Call GI FC [] pos¦UcseqObj \"list\" CP 0¦UbseqObj \"list\" AA 0¦Ua.comp 0 Ek Cb IG¦Xu.con (.str (oS \"[\"))¦T9oS \"NAME_ONLY_HOLES\"¦DhJp st¦Xt.un .all (.comp 0 (.walk BN) Cb (.call 10 Gv))¦T8⟨b,rfl,fun W s=>?_⟩¦T7⟨_,_,_,rfl,rfl,rfl⟩¦T6[So BO,So k,So Fv,b]¦Lr(.rt d,env2)¦Xs.un .truth (.call 3 (.cons Ap (.cons RS Ux)))¦F6PE X b tb¦F4PE X e te¦F1KV kvs vs¦FZPE X o td¦FYList DefB¦FXList Pu.D¦XqenvX MU sc s'.heap.objs.size f' (.ref c') Gz¦Xp[fun v=>bindName X.env y v,fun v=>bindName X.env x v]¦M7Chg m L H L1 H1¦M6Callee G U fi x¦M5Array DictEntry¦T4[So AM,So By]¦M4[So BO,o,j,No]¦Xo.walk (.un .rows p)¦T3oS \"_law_cell_here\"¦HD(.nx,env2)¦HBLoc Cy x¦HAVals dvs J¦HyzV CX X E¦Xn.Call (.Attribute FD \"extend\" apos) [e] [] pos¦M3eval e X.env¦M0.str (mkS b)¦MZexD DI wrB¦Xm⟨I',fp,wr,_,Pz,Sz,_,e1,W9,st,tt,fun h' C k=>?_⟩¦Xl⟨_,rfl,\"set_iterator\",_,Gs,at_next.lookup,?_⟩¦LnJv is 0 O¦Lmupd H l o¦LlbigT H H1¦LkoS \"take\"¦Lj.str U2¦Li.str U4¦EHRelV v u¦EGSetTable¦AOScope¦Xk.comp 0 (.walk (.var 11)) Cb (.call 900 Df)¦TZ.BoolOp op [a] pos¦TY.Attribute e f pos¦Xj.Slice lo hi No p2¦XimkS r.l.cps.toList¦TXrunB defs bdefs 12¦Xh.ListComp elt [⟨b,iter,ifs,0⟩] scope pos¦Xg.set Fo 3 (.bi .mod AW (.bi .add Ee Et))¦TVObjM s.heap x dx C mA¦TU⟨.inl z,.inl rfl⟩¦TQ⟨.inr z,.inl rfl⟩¦TN[Er,Xr,GF,Eo]¦Xf[.Return (So (.Call (.Name dn p1) [] [] p2)) p3]¦Xe(.nx,E7 ns st T x2 som x6 x7 x8 x9 x10 G4 x12)¦Xd.un .all (.comp 0 Ek Cb (.call 11 Df))¦Xc.cons IG (.cons (.bi .add AW GH) .nil)¦XbE7 ns st T x2 som x6 x7 x8 x9 x10 G4 NN¦TK'Ј'¦LhhdL n¦Xa.Call (.Attribute a name apos) [b] [] pos¦W8.un .all (.comp 0 Ek Cb (.call 7 Df))¦W7E7 ns st T x2 som x6 x7 x8 D1 f x11 x12¦TJfun b u e=>Zd _ e¦THfun b o e=>Zd _ e¦TFForInStep.yield r¦TCfun _ o=>o.mono s¦TBtI X U (.un o pa)¦TwSetO X l (metS u)¦Tv.Tuple elts kk tp¦Tt.bi .idx CD RS¦TsoS \"MOST_CHOICES\"¦TpoS \"MOST_LETTERS\"¦HmI.tok _¦K1.ref sl¦Hl.lst []¦HkXW X H0¦Hjhc1 _ _¦K0Vals xs its¦KZRoom Dw A¦KY[.tup DH]¦KS[.tup IE]¦KQ[So BO,No]¦MBtOp r ta tb¦MASame.refl _¦MytF X U LZ¦Taf.map V.str¦Mxt.map Row.d¦MwevD (C c) e¦S7mkS [93,10]¦WZ.Assign [.Subscript CG ek spos] ev pos¦Hi.ref b¦FQ.inl z¦FP.ref z¦FO.ret e¦FM.var 5¦FL.int q¦Yh'ґ'¦WV⟨v,W,J9.os,J9.bare,J9.base,J9.hok,rv,q⟩¦WN⟨noS,A,dn,un,E j Ab (JhB _),C,h,jF _⟩¦WM.Call (.Attribute GI m py) FC [] pos¦WI.un .not (.un .truth (.un .isStr Ap))¦WG.call 30 (.cons Ap (.cons UG Iz))¦S1HT.sIx Ah 0 lo¦Wz.Name \"range\" p1¦S0.Tuple [a,b] m f¦SZconstantsAlone 8¦SY.bi .eq IG N3¦SX.bi .idx Ap FG¦SW.raise Cp .nil¦SV.bi .idx AW RS¦SUfun r=>D.str r.l¦SSrows.map (tnR x)¦KP.seq a b¦KO.ref CRa¦KN.ret AW¦SRHOk X.prog X.w W h'¦SQApart z TI TO i1 i2¦SOh.Ns mainGlobals mg¦SN⟨fun h0=>?_,?_⟩¦SM[So T,So Ed,x2,j]¦SL⟨Cv,[]⟩¦WrIsSI s.heap it (.int sl 0) i a es.size ep¦WqIsItemIter s.heap it d i es.size ep ok ov¦Wp[So By,So D4,So (.str o),So (tD t),No]¦Wo[(oS \"_law_kept\"),(oS \"_law_found\"),Um]¦WntB X U bc [] H0 (.call To fi i ns p)¦Wl.walk (.un .rows (.con (.tup L7)))¦HgList DefE¦He[So Ip]¦Wk⟨.bl _,H,I.kept k,rfl,Out.now h rfl⟩¦Wj⟨oH tX _,vF F.entry_list_iadd ?_⟩¦MvTP X Y Z Q¦MucutD J l h¦Wihl1.stay fun o e=>F.extBut _ _ m1 e¦WhtB X U bc M H0 (.call Fo fi i ns p)¦WgtI X U (.call fi (.cons X6 .nil))¦Mt.retB Tr¦MsSo (Jlq a)¦Wf.Name y p1¦We.walk (.un .rows (.con (.tup sgD)))¦MrmkS (JM r)¦Mqsput n t E¦MpoS \"names\"¦SK.dct t To ks vs¦SJp1 _ _ _ _ HS¦SIO.set i (So d')¦SHfoldedForSure 8¦SGspI K mg U0 i¦SFJjv (S.pe C) hb¦SDexD DI rest E¦SC.str (mkS XY)¦SAoS \"MOST_PARTS\"¦SyoS \"MOST_SIGNS\"¦SwoS \"WORD_SIGNS\"¦FK[.ref p]¦WdIsSI s.heap it (.ref tp) i a es.size ep¦SvFnScope N ps scope¦Su[So By,So (tD t)]¦Wch1.stay fun o e=>F.extBut _ _ d3 e¦Wb.seq (.set Fo i pa) (.set Fo j pb)¦EEJgx i¦EDJcV _¦Wa⟨Zf _ rfl,sa.stay fun o e=>Zd _ e⟩¦V9F.args_dict_itemiterator_next_1 _¦V8tSB X w U bc [] H0 (.putK f pk p)¦V7.cons (.con (.str (oS \"x\"))) .nil¦V6.pur (.call 37 (.cons N1 Fx))¦V5.bl (ps.dropLast.any Part.isRest)¦V4.call 13 (.cons y (.cons z .nil))¦V3kO _ _ rfl rfl rfl (m _ _ _) rfl¦KMPA X FC t¦KLSlf N nm x¦KJList MethE¦V2F.args_dict_keyiterator_next_1 _¦V1.un .asI (.bi .add (.var 7) FG)¦V0.un .asI (.bi .add (.var 7) Et)¦SsbinaryOp .Mult¦SrJaH X.prog X.w¦SnOw M Gq UK¦VZ.Name \"set\" p2¦SmputN f d ns fs¦Sl.cons BN .nil¦SkJC _ _ rfl rfl¦SjoS \"_law_site\"¦SioS \"_law_text\"¦ShoS \"_law_rows\"¦SgoS \"_law_many\"¦SfoS \"_law_name\"¦SdoS \"MOST_ROWS\"¦SboS \"_law_told\"¦SaoS \"set_table\"¦VY(.nx,O.set i (So (.dct t Fo [] [])))¦VXIsPair s.heap TI (.ref i1) (.ref i2)¦VW⟨a,xs,i,w,rfl,B,j,L,Out.now h t⟩¦VV[.Tuple [.Name x px,.Name y m] t pt]¦R9[So BO,No,No,No]¦VUPySem.W.methodObj A5 (.ref y)¦VTtSB X w U bc [] H0 (.popK f pk)¦VS.set Fo 3 (.bi .partS Ap Tz)¦VR.un .truth (.bi .strt DQ Xu)¦VQ.call 900 (.cons (.var 9) .nil)¦MoOption Value¦MnDGet H a y o¦VP⟨joinFit_length f,fun t' k=>?_⟩¦Hd.own x¦Hc.str y¦G9.tup J¦KI.ref e¦G8.inr z¦KGZx _ b¦G7.str v¦VOF.args_tuple_iterator_next_1 _¦VNtSB X w U bc [] H0 (.set i pb)¦VMtSB X To B1 BY [] H0 d.body¦VLtSB X w U bc [] H0 (.appF f p)¦VJfun X'=>tIf Dv (u X') (t X')¦VI.retB (.tolB fi cs f2 i ns p2)¦VHJq _ _ (JD _ _ (Jr _ _ rfl b))¦VGS \"abcdefghijklmnopqrstuvwxyz\"¦MmG b o e j¦MlZt (Zk e)¦MjO.set i s¦Mif Z H Q i¦MhtT X U pb¦MgEQ X M H0¦MfS \"mount\"¦MeexD U sgB¦VFoS \"most\"¦MdoS \"part\"¦McoS \"head\"¦KC.dT kvs¦KA.lst ys¦Kzhid L W¦KyrD2 X o¦Kx.ref fc¦MbS \"put\"¦VEs.heap.IsKeyIter it d i es.size ep¦VD[.str (mkS [91]),.str n,.str S7]¦VCBuiltin.SmallTypes.nextOf Ce¦VB.cons (.bi .idx AW FG) .nil¦VA.lst (ps.dropLast.map Part.d)¦ECTabOk t¦R8compareOp .Lt¦R7.type \"tuple\"¦R6tS X U M H0 b¦R5.bi .ne pa pb¦R4oS \"_law_way\"¦Vz⟨.bl _,H,I,rfl,Out.now i rfl⟩¦Vy⟨.bl _,H,I,rfl,Out.now h rfl⟩¦Vx[.str (S \"one\"),.str n,.tup DH]¦R3(AN,pE its k)¦R0DK H a t z ks xs¦VwtS X U M H0 (.ext Fo i Xo)¦VvtSB X w U bc [] H0 (.newL f)¦VuSo (.Subscript CG ek spos)¦Vt.ret (.tup (.cons NU Df))¦Vs.eff (.call Fo 5 1 nsS W1)¦VrPE X e (tC X U bc fi i CO m p)¦Vq⟨.int DY,H,I.tok _,Au,q⟩¦Vp[So AM,So (.str w),So By,So x]¦VomkS (cutD x.cps.toList l h)¦Vn.bi .gt (.un .len BN) U8¦Vm.comp 0 (.walk BN) Cb IG¦FJtpO H¦FHvsD A¦Yf'ն'¦VltS X U M H0 (.set Fo i p) D Z H¦Vk⟨p,u,rfl,h1,B,fun l hl=>?_⟩¦Vj[.str Xi,.str U2,.str Uo]¦ViPu.cutD x.cps.toList lo hi¦Vhfun d=>runD defs 12 26 [d]¦G6[b,f,x2]¦RZeval o X.env¦RYns.map V.int¦RXupd H a AH¦RVws.map V.str¦RU.un .range p¦KwexD U rest O¦Kv.un .isN BN¦Kun_tx r.l h.l¦Kt.lst (lD ls)¦KsoS \"LETTERS\"¦KroS \"do_step\"¦KqCXr l.prog w¦Kp.tail _ X4¦G2PT X a NG¦G1⟨us,[]⟩¦G0[Er,GF]¦RO[.str RT,.int r,.str (mkS f)]¦RN[.str RT,.str Gj,.str Gj]¦Ko⟨v,H,I,r,h⟩¦Km[ofN ns,.int k]¦Kl[.str r.l,r.pd]¦EA(.rt d,O)¦RMfun f vs=>PySem.call f vs¦RKtS X U M H0 (.app Fo i p)¦RJspI K mg (runD defs 0) fi¦RHStrLaws.glued_eq_join z _¦RGbadD.map fun _=>.str U4¦RFqZ B CB e cls a0 fl s.heap¦REIsSI s.heap it first i a n ep¦RD⟨i,j,r,q,f,Out.now b rfl⟩¦RC⟨J,rfl,fun vs W s rs=>?_⟩¦RB⟨l,⟨o,e _ _ q rfl⟩,r⟩¦RAI.base.keep b o e n hb G¦RzletOwnedTupleGo tg Ce u¦RyF.args_list_append_2 _ _¦Rv.For tg iter body [] pos¦Ru.Compare a [.Eq] [b] pos¦Rt.Compare a [.Lt] [b] pos¦RpenvOfC qual sc Aa f cd¦RoSo (.lst (badD.take 12))¦RnSo (.lst (badD.take 18))¦RmSo (.lst (badD.take 21))¦RkObjOk X.prog X.w E3 h' a o¦RjM1 X CG \"pop\" mpos ek cpos¦Ri⟨i,e,fun j s2=>q j Dt⟩¦Rh[So AM,So By,So (tD t),No]¦Rg.ins C dx (putF f y fs)¦RfbinaryOp .Add HG Hi¦ReiP X ls sc Cd s H fp E¦Ra.Slice No No (So st) p2¦Q9.ins C J (nsS.zip UP)¦Q8.seq (.set Fo i e) rest¦Q7JD _ _ (j c _ Ek rfl)¦Q6.dct Fo To 'շ' (svD E)¦Q5So (.lst (badD.take 9))¦Q4PSs X body (tS X U M H0 sb)¦Q3args_tuple_getitem _ _¦Q2ZO _ (ZO _ (JbI hb e))¦Q0tS X U M H0 (.own i p)¦QZfun p=>.str (mkS Yf)¦QY(mkS Lh,mkS (tabT 'Ѣ'))¦QXIsZip s.heap z TI TO .none¦QW⟨z,j,n,r,k _ _ BJ e⟩¦QV[.str (S \"number\"),.str n]¦QU.Constant .none j pos¦QTZO _ (ZO _ (JbI J e))¦QSfun b z=>absurd z Af¦QR.Call XX FC [] pos¦QQList.take_sublist _ _¦QP.Subscript e Xj pos¦QOI.base.free b o q n x¦QN.Name \"isinstance\" p1¦QM.type \"BaseException\"¦QLF.args_str_join_2 _ _¦QKI.hok.fresh (Zh Aa)¦QJtA X U (.cons CD p)¦QI.put Fo Fo 1 BN Iy¦QHJD _ _ (Jf _ _ rfl f)¦Kkfs.lookup f¦KjtI X U CD¦Ki.ite pc a b¦KhL2.jC N vs¦Kg.type \"set\"¦KfEX X M H0 Z¦Ke.ite pb a b¦KdoS \"tables\"¦Kc.lst (lD a)¦Kb.lst (lD b)¦Kafun H=>X8¦QGIsTup s.heap b ws.toArray¦QFPI X tg iter (tW X U src)¦J8(0,Value.none)¦J7SqL X.K H a xs¦J6SqT X.K H a xs¦J5visB nm x = To¦J4⟨_,rfl,?_⟩¦J3[ob a A dn un]¦GZ.str q t¦GY.frz o u¦GXSP X Y D¦GWSo [x,y]¦GVList Str¦GUhid [] _¦GThid [] W¦GSothD m f¦GRS \"rest\"¦GQS \"take\"¦GPo_le _ _¦GOexD U hB¦GNmkS Lh¦QE.Constant AZ j pos¦QD.Constant Cu j pos¦QCPySem.W.instObj C dx¦QB.Call XX [] [] pos¦QAstarEach [e,f] X.env¦QzJ.any fun d=>d.eqv a¦QyJcL (h.cells C I.ok)¦Qxfun X' C' _=>u X' C'¦QwJ.any fun d=>d.eqv b¦Qv.Call GI [a] [] pos¦Qufun b o e=>Zd _ D2¦Qt.BinOp a .Mult b pos¦Qs.call (.ref fa) SL¦Qr.Call Wf FC [] p2¦Qq.con (.str (oS \"a\"))¦Qp.con (.str (oS \"b\"))¦Qo.bi .eq (.var 9) DQ¦Qnfun p=>D.bl p.isRest¦QmJC _ _ rfl (pU x h)¦QlJD _ _ (j c _ _ rfl)¦QkJC _ _ rfl (pU x f)¦QjCalleeOL G bc fi x Pt q0¦QiPSs X rest (tLaw X H0 R)¦Qh⟨[.ref l,.ref b],[]⟩¦Qg[.str (S \"word\"),.str x]¦Qf[DM,(oS \"signs\"),VF]¦Qe[DM,(oS \"least\"),VF]¦QdstoreName X.env x u¦Qch pos Y s Z H _ I y¦Qbx.above y c (xD h)¦QaB pos Y s Z H _ I h¦P9.Pass ⟨0,0,0,0⟩¦P8fun i=>bs.getD i Fo¦P7F.args_zip_next_1 _¦P6tI X U (.call fi p)¦P5fun f=>absurd f Ax¦P4fun f=>absurd Ab f¦P3upd H l (.lst Ta)¦P1.bi (.dIn t') pa pb¦P0tSB X w U bc M H0 b¦PZ.Call Wz [a] [] A¦PYupd H l (.lsm t [])¦PXfun p q z=>fs _ _ z¦PV.Call XJ [] [] cp¦PUtI X U (.call vi p)¦PRfun p=>.str (mkS p)¦PQexD Rl (.seq _ _) _¦PPoS \"Site.set_table\"¦EzPT X a tA¦EyCls X.K C¦ExArguments¦EwPE X i ty¦EuExKit K D¦PNtI X U (.un o pa) Z H Q¦PMAllOk P w K mg base C k¦PL[.Attribute FD f apos]¦PK[.str (S \"any\"),.str n]¦PJ[.str Mb,.str n,tD t]¦J2fun _ z=>z¦J1.and pa pb¦J0.un .asI p¦IZNe.symm d9¦IYNe.symm d2¦IXNe.symm d3¦IWhid BF H1¦IVC.glo x hg¦IUC.vis x g5¦ITupd H l ob¦ISJrc z.same¦IRupd H1 T l¦IQS \"undone\"¦IPoS \"SIGNS\"¦IME.f 26 rfl¦PHbinaryOp .FloorDiv¦PFstarEach [e] X.env¦PDrawInt r.objs.size¦PBSq.same hid_same q¦Py.bi .add GH Tz¦Pw.bi .isin Tz Ap¦PvJh _ _ rfl rfl rfl¦ILPE X value tv¦IKRep X.K H d v¦IJ⟨_,rfl,r⟩¦II⟨_,f,rfl⟩¦IH[.str n,tD t]¦PrIsIt t1 s.heap i1 l1 k¦PqIsIt t2 s.heap i2 l2 k¦Pp[So x,So y,So z,No,No]¦Po⟨.bl _,H,I,rfl,?_⟩¦Pn[.Call VZ [a] [] p3]¦Pm[.Name x px,.Name y j]¦Pl⟨N.length,1,.skip⟩¦Pk[.Call Wf FC [] p2]¦GMVals xs us¦GLRoom k X.A¦GKVals vs us¦GJr.Good P E¦PjintBits_le_64 l m¦Pifun b u q=>Zd _ q¦PhgetItem HG K1¦Pgfun _ _ q=>Zd _ q¦Pf.lst (zipD xs ys)¦PegS X M H0 [i,j] 2¦Pd.Name \"sorted\" p1¦PcevalEach vs X.env¦Pb.Tuple [a,b] k2 f¦PaB.code.keeps I.bk¦O9X.A.mark (So AE)¦O8spI X.K X.mg U fi¦O7.comp 0 src Cb e¦O6.comp 2 src Cb e¦O5.bi .lt Bw Ep¦O4.sl Bw CH NY¦O3.bi .idx CD Et¦O0exD Iq xP T4¦OZxR b (xs.drop a)¦OY.told 34 cl9 LF¦OXoS \"Site.do_step\"¦OWs.heap.IsList l items¦OVIsSq t s.heap a items¦OUEnvOk X.K M H0 H1 Z O¦OTR (.ok (.ret Dl)) s¦OSDef1 K mg x st ps f g¦OR⟨f3',f1',f4',f5'⟩¦OQ[Er,GF,Nh,Ng]¦OPfun _ _ _ _ n=>n¦OO.IfExp c a b pos¦ON.int DY s.toks¦OMhi Y s Z H _ I h¦OLho Y v Z C _ m z¦OKfun i q=>h i ':'¦OJnoteFrame KI O¦OI.Tuple elts k tp¦OHspI K mg U0 fi¦OGargs_list_sort _¦OFfun l=>D.str RT¦OEsetFlight AE No¦ODh0.same e.same s¦OC.bi .le Ee BN¦OB.bi .idx DQ RS¦OA.bi .idx DQ FG¦Oz.raise Co .nil¦Oy.con (.str HE)¦Ox.con (.str HF)¦Ovfun a=>a.eqv By¦Ou.call r f i ns p¦OttS X U [] H0 oW¦OsIsTup s.heap t items¦OqIsIt t s.heap it a i¦OoIsPair s.heap TO a b¦OnIsSq t1 s.heap l1 xs¦OmIsSq t2 s.heap l2 ys¦OlL2.Inv Fj [] Z H s¦OjToldS st dn en rn cn¦OiCalleeB G bc fi cn m¦Oh⟨z,its,n,r,tr q⟩¦Og⟨rfl,fun _=>rfl⟩¦L8'í'¦DG'è'¦Ab'b'¦Ad'c'¦Cn'Ö'¦DJ'Ü'¦Ym'þ'¦Af'k'¦Oc'Ĉ'¦DL'Ï'¦Ye'1'¦AD'ß'¦GC'Đ'¦Yn'Ë'¦Ax'p'¦SeX.env¦WLs.heap¦Yox.length¦Yps.toks¦Yqes.size¦Yrl.length¦YsValue.none¦YtX.stack¦YuX.prog¦YvN.length¦Ywx.cps.toList¦Yxr.length¦Yypos.line¦Yzsc.names¦YAE.b_isinstance¦YBI.bare¦YCI.hok¦YDX.base¦YEI.free¦YFd.body¦YGs'.heap¦YHI.loc¦YIA.in1¦YJs.cps.toList¦YKHh.objs.size¦YLRow.d¦YMStr.empty¦YNhit.typeIs¦YOC.calm¦YQNameKind.cell¦YRapos.atName¦YSList.length¦YTI.ok.kind¦YUz.cps.toList¦YVn.cps.toList¦YWf.length¦YXI.freeC¦YYs1.toks¦YZPart.isRest¦Y0KOk A¦Y1e.readOk¦Y2xs.reverse¦Y3D.str¦Y4e.val¦Y5Part.d¦Y6d.slots¦Y7pl.isList¦Y8I.kIn¦Z0e.key¦Z1Gl X x¦Z2L2.Key¦Z3I.cell¦Z4p.isList¦Z5y.length¦Z6e.same0¦Z7es.toList¦Z8I.base¦aAl.heap¦aBr.objs.size¦aDe.same¦aEslot_list_getitem.lookup¦aFI.len¦aG(.nx,O)¦aHs.drawn¦aIits.length¦aJb.typeIs¦aKd.params¦aLb.length¦aMp.isRest¦aNNameKind.free¦aORowG r¦aQZaN _¦aRnmA f¦aSI.ok.mod.kin¦aTg.cps.toList¦aUcpos.line¦aV.str z¦aW.pur p¦aXs5.heap¦aYk.toNat¦aZr.ps.length¦a7LamX X¦a8PySem.W.emptyDict¦a9F.entry_str_split¦bAI.ok.mod¦bBj.length¦bCa.length¦bDk.length¦bEE.o_told¦bFa.heap.objs.size¦bGPyProof.Rows.slot_tuple_getitem.lookup¦bHI.ok.above¦bIF.slot_dict_itemiterator_next.lookup¦bJF.slot_str_join¦bKV.str¦bLRow.l¦bMjF _¦bNJkz m¦bOmkS a¦bPsrt A¦bQh _ f¦bRzO M Z¦bSs.gens¦bTl.prog¦bUh.elim¦bVPA X es t¦bWSame H H1¦bX[.ref fl]¦bY[So b,No]¦bZI.ok.funs¦b0I.ok.glob¦b7e.readHid¦b8dn.length¦b9Cls K C¦cA[93,10]¦cBX.outer¦cCs2.heap¦cDX.A.in1¦cEpx.line¦cGF.entry_dict_itemiterator_next¦cIList D¦cJrelk O¦cK.ref c¦cL.int n¦cO.var 6¦cQ.str o¦cR.int h¦cS.str j¦cT.int 4¦cU.int 8¦cVF.slot_dict_itemiterator_iter¦cWF.entry_dict_keyiterator_next¦cXPyProof.Rows.boot_isinstance¦cYupd H x o¦cZKX _ _ lk¦c0.lsm t xs¦c5tI X U pb¦c6f.trans B¦c7tFH X U p¦c8JsG z t L¦c9.dis .nil¦dAoS \"line\"¦dCoS \"site\"¦dEoS \"rows\"¦dFF.entry_tuple_iterator_next¦dGSqL K H a xs¦dHSqT K H a xs¦dI⟨rfl,?_⟩¦dJ[.Name x px]¦dMapos.endLine¦dNl.row.toRowW¦dPI.base.there¦dQOperator¦dSOption V¦dUNameKind¦dW[.str n]¦dXI.ok.bsz¦dYq.length¦dZz.length¦eAm.length¦eBo.isSome¦eD.int i t¦eEItr lo n¦eFtruthy v¦eGList Int¦eHJv M 0 O¦eItT X U p¦eJt b o hb¦eLyM _ hp¦eNJ.drop i¦eOhid BF W¦eQJkX C.un¦eRhid BF u¦eSOw M O h¦eTChB.of t¦eVhid [] H¦eWif_neg t¦eX.isO nsS¦eYList Row¦eZS \"done\"¦e9JrE Fo q¦fAmkT hs u¦fBmkS [61]¦fCls.map f¦fDh.vp p f¦fEh.vp p b¦fFmkS 'Ҕ'¦fGAutoSeq1.sub_tuple_tuple¦fHPySem.F.slot_list_append¦fJPySem.F.type_list_append¦fKOption Expr¦fMEnvB G U bc¦fN⟨H,I,q⟩¦fPI.ok.frames¦fQI.base.keep¦fSI.base.slot¦fTF.objs.size¦fUAutoSeq1.sub_tuple_list¦fVAutoSeq1.sub_list_tuple¦fWF.entry_set_update_loop¦fXAutoSeq1.sub_list_list¦fYF.slot_dict_items_iter¦fZ(.nx,O.set i (So BL))¦f6PySem.F.slot_dict_pop¦f9PySem.F.slot_dict_get¦gAF.entry_proto_collect¦gCF.slot_str_startswith¦gDF.slot_str_partition¦QaaI.ok.noex b o e¦Qabh Y s Z H Q I j¦Qac.Tuple es k pos¦QadtI X U (.con d)¦Qaemem_of_lookup q¦Qaf.If c sa sb pos¦QaggS X M H0 [i] 0¦Qah.bi .isin pa pb¦QaiO.set i (So d1)¦Qaj.comp 0 src c e¦Qak.comp 2 src c e¦Qal.int 2147483399¦Qam.int 2147483629¦Qan.str (mkS 'ɷ')¦Qao.str (mkS 'Ϯ')¦QapoS \"_law_class\"¦QaqoS \"_law_signs\"¦QaroS \"isinstance\"¦QasoS \"_law_names\"¦QatoS \"Site.mount\"¦Qauf _ b¦QavmkS b¦Qawval i¦QaxSo FD¦Qay.bl q¦Qazf rfl¦QaASo B2¦QaCtD CA¦QaDblk A¦QaETS prog w lb h a ks¦QaF⟨_,_,rfl,rfl,h⟩¦QaG⟨.inl z,.inr z⟩¦QaHF.entry_list_append¦QaIF.slot_str_endswith¦QaJtrk h H¦QaKItl K a¦QaLItt K a¦QaM.int Ac¦QaN.head _¦QaOrC1 X o¦QaPXW X Ba¦QaQexD U u¦QaRf b o e¦QaS.tbl ps¦QaT.dIn Fo¦QaU.tup ys¦QaVb.map f¦QaW.str Lf¦QaX.str Le¦QaY.ret BN¦QaZ.int 31¦Qa0.var 10¦Qa1.lst GC¦Qa2.lst N2¦Qa3PIE X Y Z tg R¦Qa4compareOp .LtE¦Qa5compareOp .GtE¦Qa6y.cps.getD 0 0¦Qa7e.same.trans s¦Qa8args_sorted1 _¦Qa9.Name \"len\" p1¦Qba.type \"object\"¦Qbb.Dict [] [] p1¦QbcO.set i (So l)¦Qbd.lst (oV 0 xs)¦QbeList.map_id ls¦Qbfw_tx w (s w m)¦QbgJj _ _ rfl rfl¦QbhoS \"read_site\"¦QbioS \"Site.take\"¦QbjOpR X LH r¦QbkSameP H H1¦QblX.N.length¦Qbmits.toList¦Qbnz.unpinned¦Qbows.toArray¦QbpX.env.qual¦Qbqx.cps.size¦QbrPT X c (tT X U pc)¦QbsPA X es (tA X U p)¦QbtF.slot_list_append¦QbubinaryOp .Sub¦QbvbinaryOp .Mod¦QbwcompareOp .Gt¦QbycompareOp .In¦Qbz.call A5 args¦QbAl.getD j .non¦QbBp1 _ _ _ _ SJ¦QbCstrIterType x¦QbDg C2 H2 hm s2¦QbE.bi .eq pa pb¦QbF.bi .lt pa pb¦QbGif_neg (vX i)¦QbHspI K mg B1 i¦QbI.List [] dpos¦QbJIti X.K t d o¦QbK.un .tuple UM¦QbL.cons MV .nil¦QbMob a Gm dn un¦QbNob a Dk dn un¦QbO.str (mkS Yh)¦QbPcutD Be lo hi¦QbQoS \"table_of\"¦QbRoS \"_law_did\"¦QbSoS \"Site.put\"¦QbToS \"__init__\"¦QbULamB mg base c Pt¦QbV⟨H,I.tok _,q⟩¦QbW⟨[.ref z],[]⟩¦QbX⟨_,q,trivial⟩¦QbY⟨rfl,rfl,rfl⟩¦QbZ⟨rfl,_,Nq,p2⟩¦Qb0[So b,So f,So x2]¦Qb1List.Pairwise.nil¦Qb2F.slot_list_count¦Qb3F.slot_list_index¦Qb4p.name¦Qb5I.ok.frf b j¦Qb6.List es pos¦Qb7.ins C dx []¦Qb8JdK xs lo hi¦Qb9Obj.mapSeq f¦Qcaeval iter Se¦Qcb.type (vK d)¦QccJqy Ad ha hb¦Qcd.obj a ns Sm¦Qce.set Fo 2 CH¦Qcf.set Fo 2 DQ¦Qcgob a A dn []¦Qciob a A K2 []¦Qcj.sl CD lo hi¦Qck.str (mkS w)¦QclJC _ _ G rfl¦Qcm.lst (lD Be)¦QcnOwC L H¦Qcoi ∈ M¦Qcp[dn,en]¦Qcq[So Do]¦Qcro.slots¦Qcsv.toNat¦QctO.cells¦Qcus4.heap¦Qcvt.place¦Qcw(.nx,O.set i BB)¦QcxTbH X.H₀ Pt q0¦Qcy[.str GR,.str n]¦QczX.env.scope.kind¦QcApl.isList.typeIs¦QcBAutoSeq1.idx_int¦QcCF.entry_zip_next¦QcDB.heap.objs.size¦QcEF.slot_dict_iter¦QcFF.entry_str_join¦QcG.own a¦QcH.inl h¦QcIRW _ _¦QcJ.dK []¦QcKJk c l¦QcL.inr h¦QcMnewS w¦QcN.ref I¦QcOtVar 0¦QcP.int 6¦QcQoptT o¦QcRmO _ _¦QcSoS \":\"¦QcToS \"#\"¦QcUoS \"*\"¦QcV(0,.none)¦QcW(543,539)¦QcX(560,558)¦QcYMut (H x)¦QcZPS X st t¦Qc0PE X o ta¦Qc1Room A1 A¦Qc2E AV No W¦Qc3SameN H W¦Qc4ofM m f o¦Qc5[V.ref l]¦Qc6[.lst HY]¦Qc7fs.length¦Qc8J.reverse¦Qc9bs.length¦Qdars.length¦QdbI.cne x c e¦Qdc.Expr e pos¦QddJpN I q rfl¦QdegetItem o i¦Qdfo.getD .non¦Qdg.bi o pa pb¦Qdh.un .not pa¦QdiNe.symm d10¦Qdja3.trans hl¦Qdkupd H1 l Tw¦Qdlnst b o f C¦QdmIti K t d o¦Qdndefs.drop i¦Qdoupd y AC HW¦Qdps _ _ h rfl¦Qdq.obj a t fs¦Qdr.raise cx l¦QdtSo (.ref y)¦Qdu.un .asI Et¦Qdvin_D Fo n A¦Qdwni_D Fo n A¦Qdx.call 24 Df¦Qdy.call 25 En¦QdzE0 ns AM x2¦QdAoS \"things\"¦QdBoS \"pieces\"¦QdCList (Option V)¦QdDIsIt t h it a i¦QdESq X.K t H a xs¦QdFOwnIs K r H l d¦QdGChB m L H L1 H1¦QdHPySem.W.OpenLaw¦QdI⟨its,r,p,z⟩¦QdJ⟨b,e _ f,i⟩¦QdK⟨_,hit,rfl⟩¦QdL[So b,No,No,No]¦QdM⟨rfl,_,rfl⟩¦QdNF.slot_int_rmul¦QdOF.slot_set_iter".splitOn "¦"
def sgS(c:Char):String:=match sgT.find? fun s=>s.front==c with
|some s=>String.ofList (s.toList.drop 1)
|none=>""
set_option hygiene false in
local macro_rules
|`($c:char)=>match c.getChar with
|'b'=>`((by decide +kernel))
|'c'=>`((by lia))
|'k'=>`((by simp))
|'p'=>`((by decide))
|'1'=>`(("__debug__" : Str))
|':'=>`((by simp [usesP,q]))
|'^'=>`((by k_is))
|'Ë'=>`((backTo pos '~').any (·.1) = Fo)
|'Ï'=>`((by simp; lia))
|'Ö'=>`((So (at_:Int)))
|'Ü'=>`((by rw [C.hN]; exact C.nd))
|'ß'=>`(List α)
|'è'=>`((by simpa using h))
|'í'=>`((.con (.str (oS "\n"))))
|'þ'=>`(("__classdict__" : Str))
|'Ĉ'=>`((.ext fun _=>True))
|'Đ'=>`((ls.map fun l=>.str '('))
|'χ'=>`((rs.map fun r=>.tup [f1 r,f2 r]))
|c=>match sgS c with
 |""=>Lean.Macro.throwUnsupported
 |s=>pure (sgP 999 #[] s.toList).1
set_option hygiene false in
local macro_rules
|`($x:ident)=>match x.getId with
 |.str .anonymous k=>if k.utf8ByteSize==2||(k.utf8ByteSize==3&&k.front=='Q') then match sgU.find? fun s=>s.startsWith k with
  |some s=>pure (sgP 999 #[] (s.toList.drop k.length)).1
  |none=>Lean.Macro.throwUnsupported
  else Lean.Macro.throwUnsupported
 |_=>Lean.Macro.throwUnsupported
theorem azn{G:Prop}:((G->False)->False)->G:=Classical.byContradiction
section
open Lean
def azr(p:Syntax):Bool:=(p.find? fun s=>s.isIdent&&s.getId==`rfl).isSome&&((p.reprint.getD "").splitOn ",").length<5
local macro_rules
|`(tactic|obtain $p:rcasesPatMed:=$e:term)=>if azr p then Macro.throwUnsupported else`(tactic|(refine azn fun N=>?_;obtain $p:rcasesPatMed:_:=$e:term<;>(refine N ?_;clear N)))
local macro_rules
|`(tactic|show $t:term)=>`(tactic|refine (?_:$t))
end
noncomputable section
def az(h:Nat:=by rfl)(i:Nat:=by decide)(j:Nat:=by decide+kernel)(k:Nat:=by first|exact .inl rfl|exact .inr rfl|assumption):=h
section
open PySem PySem.Spec PyProof.Rows
abbrev Za:=@wpAny_bind
abbrev Zb:=@wpAny_pure
abbrev Zc:=@Bool.and_eq_true
abbrev Zd:=@Heap.get?_push_of_some
abbrev Ze:=@List.mem_cons
abbrev Zf:=@Heap.get?_push_size
abbrev Zg:=@List.map_cons
abbrev Zh:=@Nat.le_refl
abbrev Zi:=@List.length_append
abbrev Zj:=@List.length_map
abbrev Zk:=@Heap.lt_size
abbrev Zl:=@List.lookup_cons
abbrev Zm:=@List.length_cons
abbrev Zn:=@List.size_toArray
abbrev Zo:=@Bool.false_eq_true
abbrev Zp:=@decide_eq_false
abbrev Zq:=@beq_eq_false_iff_ne
abbrev Zr:=@List.map_map
abbrev Zs:=@decide_eq_true_eq
abbrev Zt:=@Nat.ne_of_lt
abbrev Zu:=@List.getElem?_eq_getElem
abbrev Zv:=@List.getElem?_set_ne
abbrev Zw:=@Nat.lt_of_lt_of_le
abbrev Zx:=@List.mem_cons_of_mem
abbrev Zy:=@Nat.le_trans
abbrev Zz:=@List.mem_map
abbrev ZA:=@beq_iff_eq
abbrev ZB:=@List.getElem?_eq_some_iff
abbrev ZC:=@List.mem_append
abbrev ZD:=@decide_eq_true
abbrev ZE:=@Bool.false_ne_true
abbrev ZF:=@wpAny_newObj_type
abbrev ZG:=@sizeLine_eq
abbrev ZH:=@wpAny_call_entry
abbrev ZI:=@PySem.W.mg_of
abbrev ZJ:=@beq_self_eq_true
abbrev ZK:=@List.not_mem_nil
abbrev ZL:=@Function.comp_def
abbrev ZM:=@wpAny_callSpecial?_slot
abbrev ZN:=@if_false
abbrev ZO:=@List.mem_append_right
abbrev ZP:=@Heap.size_push
abbrev ZQ:=@List.length_singleton
abbrev ZR:=@Option.some.injEq
abbrev ZS:=@Heap.get?_update_other
abbrev ZT:=@wpAny_mono
abbrev ZU:=@Array.length_toList
abbrev ZV:=@wpAny_field
abbrev ZW:=@of_decide_eq_true
abbrev ZX:=@List.mem_filterMap
abbrev ZY:=@Heap.get?_update_self
abbrev ZZ:=@List.mem_singleton
abbrev kD:=@List.getElem?_set_self
abbrev wA:=@List.all_eq_true
abbrev nC:=@Bool.or_eq_false_iff
abbrev kB:=@Bool.not_eq_true'
abbrev jA:=@True.intro
abbrev vA:=@List.nodup_cons
abbrev uA:=@List.map_append
abbrev iA:=@congrArg
abbrev jS:=@Nat.lt_irrefl
abbrev oB:=@Nat.lt_succ_of_lt
abbrev mC:=@wpAny_setField_rec
abbrev xD:=@PySem.mem_of_lookup
abbrev yF:=@List.getElem?_append_right
abbrev vE:=@List.getElem?_cons_zero
abbrev xF:=@List.getElem?_append_left
abbrev wF:=@Array.getElem?_eq_getElem
abbrev lC:=@List.cons_append
abbrev wD:=@List.filterMap_cons
abbrev vD:=@List.map_congr_left
abbrev jD:=@List.getElem?_map
abbrev jB:=@wpAny_holding
abbrev kC:=@Bool.or_eq_true
abbrev iD:=@List.filter_cons
abbrev uE:=@PySem.W.hideAll_get
abbrev tE:=@Heap.SameBut.update
abbrev nB:=@List.sum_cons
abbrev rC:=@Bool.false_and
abbrev qC:=@wpAny_setField
abbrev lA:=@or_false
abbrev jF:=@Nat.le_succ
abbrev iF:=@Nat.lt_of_le_of_lt
abbrev yM:=@List.mem_append_left
abbrev zJ:=@Array.getElem?_eq_some_iff
abbrev pC:=@wpAny_attempt
abbrev gF:=@Int.toNat_natCast
abbrev mG:=@List.replicate_succ
abbrev lG:=@List.mem_map_of_mem
abbrev zD:=@List.append_nil
abbrev xA:=@call_meets
abbrev ZaN:=@Nat.lt_succ_self
abbrev kG:=@Option.isSome_some
abbrev jG:=@List.pairwise_cons
abbrev iG:=@List.zip_cons_cons
abbrev yD:=@wpAny_seqItems
abbrev rH:=@Around.under_plainId
abbrev yJ:=@List.getElem?_cons_succ
abbrev xJ:=@decide_eq_false_iff_not
abbrev gG:=@wpAny_truthy_bool
abbrev zF:=@List.flatMap_cons
abbrev zE:=@Option.some.inj
abbrev yE:=@List.length_nil
abbrev xE:=@List.length_set
abbrev vF:=@codeAny_builtin
abbrev zC:=@codeAny_mono
abbrev uD:=@List.any_cons
abbrev rM:=@List.getD_eq_getElem?_getD
abbrev uF:=@Option.bind_some
abbrev lH:=@wpAny_Call_Name_kw
abbrev nJ:=@List.length_replicate
abbrev xR:=@List.take_append_drop
abbrev wR:=@PyProof.Rows.slot_tuple_getitem
abbrev yC:=@Nat.zero_le
abbrev sD:=@Nat.ne_of_gt
abbrev mJ:=@List.mem_of_getElem?
abbrev vR:=@wpAny_typeNameOfWhole_itemiter
abbrev lJ:=@List.forall_mem_cons
abbrev mB:=@And.intro
abbrev uR:=@F.slot_dict_itemiterator_next
abbrev tR:=@wpAny_typeNameOfWhole_keyiter
abbrev qM:=@List.getElem?_replicate
abbrev kH:=@wpAny_isInstance
abbrev sF:=@wpAny_fieldsOf
abbrev sR:=@F.slot_dict_keyiterator_next
abbrev xC:=@wpAny_rule
abbrev pM:=@typeIs_str
abbrev sE:=@List.map_nil
abbrev rE:=@List.all_map
abbrev kJ:=@Obj.data_mapFields
abbrev qH:=@wpAny_ite_split
abbrev xM:=@Array.getElem?_toList
abbrev pH:=@PySem.W.kia_one
abbrev iS:=@F.slot_tuple_iterator_next
abbrev oH:=@plainId_quiet
abbrev wJ:=@List.flatten_cons
abbrev vJ:=@wpAny_setState_of
abbrev uJ:=@wpAny_dictEntries
abbrev tJ:=@List.length_drop
abbrev sJ:=@wpAny_askSetting
abbrev wM:=@wpAny_setEntries_of
abbrev vX:=@ne_true_of_eq_false
abbrev nH:=@List.all_cons
abbrev vM:=@List.mem_cons_self
abbrev TR:=@wpAny_loadPart'
abbrev rJ:=@Option.map_some
abbrev qJ:=@wpAny_updateSeq
abbrev pJ:=@wpAny_dictEpoch
abbrev ZbS:=@PySem.W.cellsFrom_some
abbrev zR:=@Calls.callWith_builtin
abbrev ZbU:=@Nat.le_succ_of_le
abbrev uM:=@wpAny_pyIter_list
abbrev sM:=@wpAny_pyIter_slot
abbrev oJ:=@Bool.and_false
abbrev mH:=@wpAny_typeOf
abbrev yR:=@List.getElem?_eq_none
abbrev kX:=@PyProof.Rows.callWith_type1
abbrev jM:=@List.length_take
abbrev wQ:=@Calls.evalArgs_plain
abbrev vQ:=@List.contains_eq_mem
abbrev uQ:=@List.getElem?_of_mem
abbrev jJ:=@Bool.or_false
abbrev jX:=@wpAny_newFunctionEnv_cells
abbrev iX:=@Array.getElem?_append_left
abbrev hX:=@PySem.F.excBase_ValueError
abbrev sQ:=@F.plain_extend_loop
abbrev rQ:=@Array.toList_append
abbrev iM:=@wpAny_passesOwn
abbrev gM:=@List.of_mem_zip
abbrev zL:=@List.foldl_cons
abbrev yL:=@List.nil_append
abbrev qQ:=@PySem.W.of_hideAll
abbrev RW:=@PySem.F.args_tuple_add_2
abbrev iJ:=@Nat.zero_add
abbrev pQ:=@List.contains_cons
abbrev jH:=@wpAny_call
abbrev wL:=@isSubtype_stop
abbrev KW:=@PySem.F.entry_tuple_add
abbrev zW:=@PySem.F.plainAttrs_dict
abbrev yW:=@Heap.UpToSlots.of_keeps
abbrev xW:=@PySem.F.plainAttrs_list
abbrev wW:=@F.plain_set_update_loop
abbrev uX:=@List.length_eq_zero_iff
abbrev rR:=@List.reverse_cons
abbrev qR:=@Nat.le_of_succ_le
abbrev pR:=@List.length_range
abbrev ZcE:=@PassesOwn.leaving
abbrev oR:=@List.nodup_append
abbrev tX:=@F.plain_list_iadd
abbrev sX:=@PySem.F.slot_tuple_add
abbrev rX:=@List.range_succ_eq_map
abbrev qX:=@Option.map_eq_some_iff
abbrev pX:=@wpAny_isOneOf_itemiter
abbrev oM:=@Paired.length
abbrev nM:=@Bool.false_or
abbrev lM:=@Bool.true_and
abbrev kM:=@Bool.not_true
abbrev mR:=@List.drop_length
abbrev lR:=@Bool.not_eq_true
abbrev kR:=@List.ext_getElem
abbrev jR:=@F.slot_str_split
abbrev gR:=@Classical.skolem
abbrev zQ:=@Option.getD_some
abbrev oX:=@codeAny_call_function
abbrev mX:=@Obj.isFreed_of_fields
abbrev lX:=@Around.frames_deeper
abbrev yQ:=@List.find?_cons
abbrev xQ:=@pushCells_keeps
abbrev vL:=@List.any_map
abbrev vW:=@wpAny_updateSeq_pair
abbrev oQ:=@F.slot_zip_next
abbrev uW:=@codeAny_call_builtin
abbrev nQ:=@List.cons.injEq
abbrev mQ:=@Int.emod_nonneg
abbrev sW:=@List.dropLast_concat
abbrev lQ:=@List.Perm.refl
abbrev kQ:=@isSubtype_type
end
set_option genSizeOf false
namespace _r
namespace L2
open PySem PySem.Spec PyProof.Rows
variable{s:Ao}{A:Bg}{pos p:Pos}{Y:AU}{x:Str}{w:Bc}{E:Az}{P prog:Bk}{K:Ak}{a C b f dx:Addr}{h h' base:Heap}{u:Am}{k t' i:Nat}{e tg c:Expr}{op:CmpOp}{us:AF}{es:CY}{ps:Ag}{M:Model}{mg mA:Bf}{fd:A6}{κ:Type}{ch fp:A7}{kw:Gy}
inductive Key where
 |inl (i:Int)|inr (x:Str)|non
noncomputable instance:DecidableEq Key:=λ_ _=>Classical.propDecidable _
noncomputable def iK:Key->Value->Bool
 |.inl k,v=>Value.isInt k v
 |.inr x,v=>Value.isStrOf x v
 |.non,.none=>To
 |.non,_=>Fo
noncomputable def keyH (w:Bc):Key->Int
 |.inl k=>hashInt k
 |.inr x=>hashStr w x
 |.non=>reduceHash 0xFCA86420
def Jz:∀{k:Key}{v:Am},iK k v=To->(∃i t,k=.inl i/\v=Value.int i t)\/(∃x t,k=.inr x/\v=Value.str x t)\/(k=.non/\v=.none)
 |.inl i,v,h=>by
  obtain⟨t,e⟩:=Value.isInt_shape (k:=i) (v:=v) h
  exact .inl ⟨i,t,rfl,e⟩
 |.inr x,v,h=>by
  obtain⟨t,e⟩:=Value.isStrOf_shape (x:=x) (v:=v) h
  exact .inr (.inl ⟨x,t,rfl,e⟩)
 |.non,v,h=>by cases v<;>first|exact .inr (.inr CU)|cases h
def Jnt(i:Int)(t:Tok):iK (.inl i) eD=To:=by simp[iK,Value.isInt]
def JkK(x:Str)(t:Tok):iK (.inr x) (.str x t)=To:=by simp[iK,Value.isStrOf]
def Jqd(a b:Int):decide (Key.inl a=.inl b)=(a==b):=by
 by_cases e:a=b
 ·subst e;simp
 ·rw[Zp λq=>e (by injection q)];exact(Zq.mpr e).symm
def Jqa(a b:Str):decide (Key.inr a=.inr b)=decide (a=b):=decide_eq_decide.mpr ⟨λq=>by injection q,λq=>by rw[q]⟩
def JoE{Q:Int->Shared->Prop}(h:Q (reduceHash 0xFCA86420) {s with toks:=Yp+1}):wpAny As A (pyHash .none) Q E s:=
 PySem.W.pyHash_slot (T:="NoneType") rfl F.slot_NoneType_hash F.entry_NoneType_hash (F.args_NoneType_hash_1 _) (beq_builtin_none _) BJ (Za (Zb (Za (wpAny_mkInt (Zb ⟨_,_,rfl,h⟩)))))
def JaH (prog:Bk) (w:Bc):PySem.KeyKind prog w Key where
 is:=iK
 hash:=keyH w
 inj:=λv a b r o=>by
  rcases Jz r with⟨i,t,rfl,rfl⟩|⟨x,t,rfl,rfl⟩|⟨rfl,rfl⟩<;>rcases Jz o with⟨j,u,rfl,e⟩|⟨y,u,rfl,e⟩|⟨rfl,e⟩<;>first|rfl|(cases e;done)|(cases e;rfl)
 byValue:=λk v h=>by
  rcases Jz h with⟨i,t,rfl,rfl⟩|⟨x,t,rfl,rfl⟩|⟨rfl,rfl⟩<;>rfl
 pyHash:=λl h=>by
  rcases Jz l with⟨i,t,rfl,rfl⟩|⟨x,t,rfl,rfl⟩|⟨rfl,rfl⟩
  ·exact wpAny_pyHash_int h
  ·exact wpAny_pyHash_str h
  ·exact JoE h
 eqBool:=λm l h=>by
  rcases Jz m with⟨i,t,rfl,rfl⟩|⟨x,t,rfl,rfl⟩|⟨rfl,rfl⟩
  ·rcases Jz l with⟨j,u,rfl,rfl⟩|⟨y,u,rfl,rfl⟩|⟨rfl,rfl⟩
   ·rw[Jqd]at h;exact wpAny_eqBool_int h
   ·exact SeqAt.EqAt.int_str i t y u _ _ _ _ (by rw[Zp (λq=>nomatch q)]at h;exact h)
   ·exact SeqAt.EqAt.int_none i t _ _ _ _ (by rw[Zp (λq=>nomatch q)]at h;exact h)
  ·rcases Jz l with⟨j,u,rfl,rfl⟩|⟨y,u,rfl,rfl⟩|⟨rfl,rfl⟩
   ·exact SeqAt.EqAt.str_int x t j u _ _ _ _ (by rw[Zp (λq=>nomatch q)]at h;exact h)
   ·rw[Jqa]at h;exact wpAny_eqBool_str h
   ·exact SeqAt.EqAt.str_none x t _ _ _ _ (by rw[Zp (λq=>nomatch q)]at h;exact h)
  ·rcases Jz l with⟨j,u,rfl,rfl⟩|⟨y,u,rfl,rfl⟩|⟨rfl,rfl⟩
   ·exact SeqAt.EqAt.none_int j u _ _ _ _ (by rw[Zp (λq=>nomatch q)]at h;exact h)
   ·exact SeqAt.EqAt.none_str y u _ _ _ _ (by rw[Zp (λq=>nomatch q)]at h;exact h)
   ·exact SeqAt.EqAt.same _ _ _ _ _ (by rw[ZD rfl]at h;exact h)
 «strs»:=λk x t v h=>by
  rcases Jz h with⟨i,u,rfl,e⟩|⟨y,u,rfl,e⟩|⟨rfl,e⟩
  ·exact nomatch e
  ·injection e with z _
   subst z
   cases v<;>rfl
  ·exact nomatch e
def Jhz(prog:Bk)(w:Bc)(i:Int)(t:Tok):(JaH prog w).is (.inl i) eD=To:=Jnt i t
def Jim(prog:Bk)(w:Bc)(x:Str)(t:Tok):(JaH prog w).is (.inr x) (.str x t)=To:=JkK x t
inductive KTr(κ:Type)where
 |a (k:κ)|t (ks:List (KTr κ))
noncomputable instance {κ:Type}:DecidableEq (KTr κ):=λ_ _=>Classical.propDecidable _
section
variable[DecidableEq κ](kd:KeyKind P w κ)
mutual
def kDep:KTr κ->Nat
 |.a _=>0
 |.t ks=>zX ks+1
def zX:List (KTr κ)->Nat
 |[]=>0
 |k::ks=>max (kDep k) (zX ks)
end
variable{kd}
end
inductive V where
 |non|bl (b:Bool)|int (i:Int)|str (x:Str)|byt (b:Array UInt8)|flt (b:UInt64)|ref (a:Addr)|ty (n:String)
noncomputable instance:DecidableEq V:=λ_ _=>Classical.propDecidable _
variable{v:V}{vs:Aw}
noncomputable def RelV:V->Value->Prop
 |.non,u=>u=Ys
 |.bl b,u=>u=Value.bool b
 |.int i,u=>∃t,u=Value.int i t
 |.str x,u=>∃t,u=Value.str x t
 |.byt b,u=>∃t,u=Value.bytes b t
 |.flt b,u=>∃t,u=Value.float b t
 |.ref a,u=>u=Value.ref a
 |.ty n,u=>u=Value.type n
noncomputable abbrev Vals:List V->List Value->Prop:=Paired RelV
def Vals.length{xs:Aw}{us:AF}(r:GM):Ah=us.length:=oM r
def Vals.get:∀{xs:Aw}{us:AF}{i:Nat}{x:V},Vals xs us->xs[i]? =So x->∃u,us[i]? =So u/\RelV x u
 |_,_,_,_,.nil,e=>by simp at e
 |_,_,0,_,.cons r _,e=>by simp at e;subst e;exact IJ
 |_,_,i+1,x,.cons _ t,e=>by
  obtain⟨u,j,l⟩:=Vals.get (i:=i) (x:=x) t (by simpa using e)
  exact⟨u,by simpa using j,l⟩
def Vals.append:∀{xs ys:Aw}{us ws:AF},Vals xs us->Vals ys ws->Vals (xs++ys) (us++ws)
 |_,_,_,_,.nil,s=>s
 |_,_,_,_,.cons r t,s=>.cons r (Vals.append t s)
def Vals.take:∀{xs:Aw}{us:AF}(n:Nat),Vals xs us->Vals (xs.take n) (us.take n)
 |_,_,0,_=>.nil
 |_,_,_+1,.nil=>.nil
 |_,_,n+1,.cons r t=>.cons r (Vals.take n t)
def Vals.drop:∀{xs:Aw}{us:AF}(n:Nat),Vals xs us->Vals (xs.drop n) (us.drop n)
 |_,_,0,r=>r
 |_,_,_+1,.nil=>.nil
 |_,_,n+1,.cons _ t=>Vals.drop n t
def Vals.none_of:∀{xs:Aw}{us:AF}{i:Nat},Vals xs us->xs[i]? =No->us[i]? =No:=fun{xs us i}r e=>by
 have j:=Yx
 have l:Ah<=i:=List.getElem?_eq_none_iff.mp e
 exact List.getElem?_eq_none_iff.mpr Ad
def RelO:Option V->Option Value->Prop
 |some v,So u=>RelV v u
 |none,No=>True
 |_,_=>False
def KV :List (κ×V)->List (κ×Value)->Prop:=Paired fun(p:κ×V)(q:κ×Value)=>p.1=q.1/\RelV p.2 q.2
noncomputable def kV:Key->V
 |.inl i=>.int i
 |.inr x=>.str x
 |.non=>.non
inductive HO where
 | lst (xs:List V)
 | lsm (t:Str) (xs:List V)
 | tup (xs:List V)
 | dK (kvs:List (Key × V)) | dT (kvs:List (List (KTr Key) × V))
 | set (S:Int -> Bool) (n:Nat)
 | ins (C dx:Addr) (fs:List (Str × V))
 | own (x:Addr)
 | xd (fs:List (Str × V))
 | met (f x:Addr)
 | rng (lo hi:Int)
 | frz (o:Obj) (u:HO)
 | tbl (ps:Array Value)
 | ext (φ:Heap -> Prop)
variable{o:HO}
noncomputable abbrev Hp:=Addr->Option HO
variable{H W:Hp}
noncomputable def upd (H:Hp) (a:Addr) (o:HO):Hp:=λb=>if b=a then So o else H b
def Je:upd H a o a=So o:=by unfold upd;rw[if_pos rfl]
def Jc(h:b≠a):upd H a o b=H b:=by unfold upd;rw[if_neg h]
def upd_upd{u:HO}:upd E3 a u=upd H a u:=by funext b;unfold upd;split<;>rfl
def Ji(h:H a=So o)(h':H b=No):a≠b:=by intro e;subst e;rw[h]at h';cases h'
mutual
def KH(H:Hp):KTr Key->V->Prop
 |.a k,v=>v=kV k
 |.t ks,v=>∃a xs,v=.ref a/\H a=So Bm/\KHs H ks xs
def KHs(H:Hp):List (KTr Key)->List V->Prop
 |[],xs=>xs=[]
 |k::ks,xs=>∃x r,xs=x::r/\KH H k x/\KHs H ks r
end
mutual
def KH.keep{H W:Hp}(j:∀b xs,H b=So Bm->W b=So Bm):∀(k:KTr Key){v:V},KH H k v->KH W k v
 |.a _,_,x=>x
 |.t ks,_,⟨a,xs,e,h1,h2⟩=>⟨a,xs,e,j _ _ h1,KHs.keep j ks h2⟩
def KHs.keep{H W:Hp}(j:∀b xs,H b=So Bm->W b=So Bm):∀(ks:List (KTr Key)){xs:Aw},KHs H ks xs->KHs W ks xs
 |[],_,x=>x
 |k::ks,_,⟨v,r,e,h1,h2⟩=>⟨v,r,e,KH.keep j k h1,KHs.keep j ks h2⟩
end
def KB(H:Hp)(k:List (KTr Key))(b:Addr):Prop:=KH H (.t k) (.ref b)/\zX k<=7
section
variable(P:Bk)(w:Bc)
def ObjOk (H:Hp) (h:Heap) (a:Addr):HO->Prop
 |.lst xs=>Ah<=sizeLine/\∃(its:AF)(n:Nat),Vals xs its/\h.get? a=So {cls:=.type "list",data:=.seq AA n}
 |.lsm _ xs=>Ah<=sizeLine/\∃(its:AF)(n:Nat),Vals xs its/\h.get? a=So {cls:=.type "list",data:=.seq AA n}
 |.tup xs=>(Ah<=sizeLine/\∀o,h.get? a=So o->o.dict=No)/\∃its:List Value,Vals xs its/\IsTup h a AA
 |.dK kvs=>BG<=sizeLine/\(a==sysModules)=Fo/\∃vs,KV kvs vs/\h.DictOf 'Յ' a vs
 |.dT _=>False
 |.set S n=>h.SetOf (intKind P w) a S n
 |.ins C dx fs=>H dx=So (.own a)/\fs.length<=1000/\dx≠a/\h.get? a=So (PySem.W.instObj C dx)/\
   ∃mA,h.Ns1 dx mA/\(∀f,RelO Kk (mA f))/\PySem.Within mA (fs.map (·.1))
 |.own _=>∃o,h.get? a=So o
 |.xd fs=>∃mA,h.Ns1 a mA/\∀f,RelO Kk (mA f)
 |.rng G F=>∃t u v,h.get? a=So {cls:=.type "range",data:=.fields #[.int G t,.int F u,.int 1 v]}
 |.frz o u=>h.get? a=So o/\ObjOk H h a u
 |.tbl ps=>∃q B l,ps[0]? =So (.str q B)/\h.get? a=So {cls:=.none,data:=.fields l}/\TriplesOk l.toList/\∀pos z,codeAmong pos l.toList=So z->∃(c:Addr)(m:Obj)(vs:Cf)(t:Tok),z=.ref c/\H c=So (.frz m Oc)/\m.data=.fields vs/\vs[1]? =So GZ
 |.met f x=>h.get? a=So (PySem.W.methodObj A5 Ck)
 |.ext j=>j h/\(∃o,h.get? a=So o)/\∀r y:Heap,j r->(∀o,r.get? a=So o->y.get? a=So o)->j y
def hU{z:Cf}{n:Nat}(o:Obj)(q:(h.push {cls:=.type "tuple",data:=.seq z n}).get? BV=So o):o.dict=No:=by rw[Zf _ rfl]at q;cases q;rfl
def HOk(H:Hp)(h:Heap):Prop:=∀a o,H a=So o->ObjOk P w H h a o
end
def ObjOk.lt(x:Nu):a<BV:=by
 cases o with
 |lst l=>obtain⟨_,_,_,_,e⟩:=x;exact Zk e
 |lsm _ l=>obtain⟨_,_,_,_,e⟩:=x;exact Zk e
 |tup l=>obtain⟨_,_,_,p⟩:=x;exact p.lt
 |dK j=>obtain⟨_,_,_,_,o,_,_,e,_⟩:=x;exact Zk e
 |dT j=>exact x.elim
 |set S n=>obtain⟨o,_,_,_,e,_⟩:=x;exact Zk e
 |ins C dx fs=>obtain⟨_,_,_,e,_⟩:=x;exact Zk e
 |own y=>obtain⟨_,e⟩:=x;exact Zk e
 |xd fs=>obtain⟨_,⟨_,_,_,e,_⟩,_⟩:=x;exact Zk e
 |rng r q=>obtain⟨_,_,_,e⟩:=x;exact Zk e
 |frz ob u=>obtain⟨e,_⟩:=x;exact Zk e
 |tbl ps=>obtain⟨_,_,_,_,e,_⟩:=x;exact Zk e
 |met f y=>exact Zk (show h.get? a=So _ from x)
 |ext m=>obtain⟨_,⟨_,e⟩,_⟩:=x;exact Zk e
def ObjOk.stay(x:Nu)(k:∀b u,(b=a\/H b=So QcG)->h.get? b=So u->h'.get? b=So u)
  (ho:∀b,H b=So (.own a)->W b=So QcG) (ht:∀b xs,H b=So Bm->W b=So Bm)
  (N:∀b o u,H b=So (.frz o (.ext u))->W b=So (.frz o (.ext u)):=by exactλ_ _ _ q=>q):ObjOk P w W h' a o:=by
 induction o with
 |lst xs=>obtain⟨z,j,n,r,e⟩:=x;exact QW
 |lsm _ xs=>obtain⟨z,j,n,r,e⟩:=x;exact QW
 |tup xs=>obtain⟨⟨z,O⟩,j,r,ob,e,c⟩:=x;exact⟨⟨z,λo q=>by rw[k _ _ 'æ' e]at q;cases q;exact O _ e⟩,j,r,ob,k _ _ BJ e,c⟩
 |dK F=>obtain⟨z,y,vs,r,ob,es,l,e,c⟩:=x;exact⟨z,y,vs,r,ob,es,l,k _ _ BJ e,c⟩
 |dT F=>exact x.elim
 |set S n=>obtain⟨ob,es,l,t,e,c⟩:=x;exact⟨ob,es,l,t,k _ _ BJ e,c⟩
 |ins C dx fs=>obtain⟨d,z,ne,e,mA,⟨B,es,l,m,c⟩,r⟩:=x;exact⟨ho _ d,z,ne,k _ _ BJ e,mA,⟨B,es,l,k _ _ (.inr d) m,c⟩,r⟩
 |own y=>obtain⟨ob,e⟩:=x;exact⟨ob,k _ _ BJ e⟩
 |xd fs=>obtain⟨mA,⟨B,es,l,e,c⟩,r⟩:=x;exact⟨mA,⟨B,es,l,k _ _ BJ e,c⟩,r⟩
 |rng lo hi=>obtain⟨t,u,v,e⟩:=x;exact⟨t,u,v,k _ _ BJ e⟩
 |frz ob u Z=>obtain⟨e,q⟩:=x;exact⟨k _ _ BJ e,Z q⟩
 |tbl ps=>obtain⟨q,L,X,J,e,t,c⟩:=x;exact⟨q,L,X,J,k _ _ BJ e,t,λpos cv z=>let⟨b,I,vs,tk,U,m,e3⟩:=c pos cv z;⟨b,I,vs,tk,U,N _ _ _ m,e3⟩⟩
 |met f y=>have e:h.get? a=So VU:=x;show h'.get? a=So VU;exact k a _ BJ e
 |ext φ=>obtain⟨p,⟨o,e⟩,G⟩:=x;exact⟨G _ _ p λo q=>k _ _ BJ q,⟨o,k _ _ BJ e⟩,G⟩
def HOk.lt(x:CM)(e:H a=So o):a<BV:=(x a o e).lt
def HOk.fresh(x:CM)(e:BV<=a):H a=No:=by
 cases q:H a with
 |none=>rfl
 |some u=>exact absurd (Zw (x.lt q) e) Cr
def HOk.kept(x:CM)(k:∀b u,h.get? b=So u->h'.get? b=So u):HOk P w H h':=λa o e=>
 (x a o e).stay (λb u _ q=>k b u q) HR λ_ _ q=>q
def HOk.laid(x:CM)(k:∀b u,h.get? b=So u->h'.get? b=So u)(m:BV<=a)(new:ObjOk P w E3 h' a o):HOk P w E3 h':=λb u e=>by
 have j:=x.fresh m
 by_cases l:b=a
 ·subst l;rw[Je]at e;cases e;exact new
 ·rw[Jc l]at e
  exact(x b u e).stay (λc v _ q=>k c v q) (λc q=>by rw[Jc 'Ԧ'];exact q) (λc t q=>by rw[Jc 'Ԧ'];exact q) λc y r q=>by rw[Jc 'Ԧ'];exact q
def Rd(H:Hp)(a:Addr)(u:HO):Prop:=H a=So u\/∃o,H a=So GY
def Rd.ok{u:HO}(r:Rd H a u)(x:CM):ObjOk P w H h a u:=by
 rcases r with r|⟨o,r⟩
 ·exact x a u r
 ·obtain⟨_,q⟩:=x a _ r;exact q
noncomputable def Mut:Option HO->Prop
 |some (.lst _)=>True
 |some (.lsm _ _)=>True
 |some (.dK _)=>True
 |some (.dT _)=>True
 |some (.set _ _)=>True
 |some (.ins _ _ _)=>True
 |some (.ext _)=>True
 |_=>False
section
variable{x e:Addr}{o':HO}
def HOk.write(ok:CM)(m:QcY)(I:e=x\/H e=So Hd)(k:∀b u,b≠e->h.get? b=So u->h'.get? b=So u)(G:∃u,h'.get? e=So u)
  (new:ObjOk P w (upd H x o') h' x o'):HOk P w (upd H x o') h':=λb u q=>by
 have l:∀c y,H c=So (.own y)->c≠x:=λc y r z=>by subst z;rw[r]at m;exact m
 have t:∀c xs,H c=So Bm->c≠x:=λc xs r z=>by subst z;rw[r]at m;exact m
 by_cases F:b=x
 ·subst F;rw[Je]at q;cases q;exact new
 ·rw[Jc F]at q
  by_cases j:b=e
  ·have J:H b=So Hd:=by
    rcases I with z|z
    ·exact absurd (j.trans z) F
    ·rw[j];exact z
   rw[q]at J;cases J;obtain⟨v,L⟩:=G;exact⟨v,by rw[j];exact L⟩
  ·refine(ok b u q).stay (λc v B r=>k c v ?_ r) (λc r=>by rw[Jc (l c b r)];exact r) (λc xs r=>by rw[Jc (t c xs r)];exact r) λc o' N r=>by rw[Jc (λz=>by subst z;rw[r]at m;exact m)];exact r
   rcases B with rfl|B
   ·exact j
   ·rintro rfl
    rcases I with z|z
    ·exact l c b B z
    ·rw[B]at z;cases z;exact F rfl
end
structure Un(fs ex:A7)(H W:Hp)(h h':Heap):Prop where
 keep:∀b o,h.get? b=So o->H b=No->b∉fs->b∉ex->h'.get? b=So o
 slot:∀b o,h.get? b=So o->H b=No->b∈fs->b∉ex->∃sl,h'.get? b=So {o with slots:=sl}
 free:∀b o,h.get? b=So o->H b=No->b∉ex->W b=No
 there:∀b o,h.get? b=So o->b∉ex->∃o',h'.get? b=So o'
 tups:∀b xs,H b=So Bm->W b=So Bm
 frzs:∀b o u,H b=So (.frz o u)->W b=So GY
 tbls:∀b ps,H b=So (.tbl ps)->∃more,W b=So (.tbl (ps++more))
section
variable{fs fs' ex ex':A7}{H H1 H2:Hp}{h h1 h2 h':Heap}{a x e:Addr}{o:HO}
def Un.any(u:Un fs ex H H1 h h1){ob:Obj}(q:h.get? b=So ob)(n:H b=No)(l:b∉ex):∃sl,h1.get? b=So {ob with slots:=sl}:=by
 by_cases j:b∈fs
 ·exact u.slot b ob q n j l
 ·exact⟨ob.slots,u.keep b ob q n j l⟩
def Un.kept(k:∀b u,h.get? b=So u->h'.get? b=So u):Un fs ex H H h h':=
 ⟨λb ob q _ _ _=>k b ob q,λb ob q _ _ _=>⟨ob.slots,k b ob q⟩,λ_ _ _ n _=>n,λb ob q _=>⟨ob,k b ob q⟩,λ_ _ q=>q,λ_ _ _ q=>q,λ_ ps q=>⟨#[],by rw[q];simp⟩⟩
def Un.refl:Un fs ex H H h h:=Un.kept λ_ _ q=>q
def Un.laid(k:∀b u,h.get? b=So u->h'.get? b=So u)(m:BV<=a)(j:H a=No):Un fs ex H E3 h h' where
 keep:=λb u q _ _ _=>k b u q
 slot:=λb u q _ _ _=>⟨u.slots,k b u q⟩
 free:=λb u q n _=>by rw[Jc (Zt (Zw (Zk q) m))];exact n
 there:=λb u q _=>⟨u,k b u q⟩
 tups:=λb l q=>by rw[Jc 'Ԧ'];exact q
 frzs:=λb u l q=>by rw[Jc 'Ԧ'];exact q
 tbls:=λb ps q=>⟨#[],by rw[Jc 'Ԧ',q];simp⟩
def Un.write(l:QcY)(G:e=x\/H e=So Hd)(k:∀b u,b≠e->h.get? b=So u->h'.get? b=So u)(t:∃u,h'.get? e=So u):Un fs ex H cY h h':=by
 have B:∀b,H b=No->b≠x:=λb n z=>by subst z;rw[n]at l;exact l
 have y:∀b,H b=No->b≠e:=λb n z=>by
  subst z;rcases G with r|r
  ·exact B b n r
  ·rw[n]at r;cases r
 have m:∀b u,H b=So u->¬Mut (So u)->b≠x:=λb u q I z=>by subst z;rw[q]at l;exact I l
 refine⟨λb u q n _ _=>k b u (y b n) q,λb u q n _ _=>⟨u.slots,k b u (y b n) q⟩,λb u q n _=>by rw[Jc (B b n)];exact n,λb u q _=>?_,
  λb F q=>by rw[Jc 'Ҫ'];exact q,λb u F q=>by rw[Jc 'Ҫ'];exact q,λb ps q=>⟨#[],by rw[Jc 'Ҫ',q];simp⟩⟩
 by_cases j:b=e
 ·subst j;exact t
 ·exact⟨u,k b u j q⟩
end
noncomputable def trk (h:Heap) (H:Hp):List Addr:=(List.range BV).filter λa=>(H a).isSome
def hidT (h:Heap) (H:Hp):Heap:=PySem.W.hideAll h QaJ
def Jnd(h:Heap)(H:Hp):'乥'.objs.size=BV:=PySem.W.hideAll_size _ _
def Joe{o:Obj}(e:h.get? b=So o)(n:H b=No):'乥'.get? b=So o:=
 uE _ e λj=>by
  have q:(H b).isSome=To:=(List.mem_filter.mp j).2
  rw[n]at q;simp at q
def JrV{o:Obj}(e:'乥'.get? b=So o):h.get? b=So o/\H b=No:=by
 have j:h.get? b=So o:=qQ QaJ e;refine⟨j,?_⟩;cases q:H b with
 |none=>rfl
 |some x=>have l:b∈trk h H:=List.mem_filter.mpr ⟨List.mem_range.mpr (Zk j),by simp[q]⟩;have z:'乥'.get? b=No:=PySem.W.hideAll_none QaJ l;rw[z]at e;cases e
noncomputable def JsT (g h:Heap) (L:Addr):List (Addr×Obj):=(List.range BV).filterMap λa=>if a=L\/(g.get? a).isSome=To then No else(h.get? a).map λo=>(a,o)
def rest (g h:Heap) (L d:Addr):List (Addr×Obj):=(JsT g h L).filter λp=>decide (p.1≠d)
structure Mod(K:Ak)(mg:Bf)(base:Heap):Prop where
 kin:K.In base
 glob:base.Ns mainGlobals mg
 blt:∃mb,base.Ns builtinsNs mb/\∀x:Str,x≠"__name__"->mb x=bootBuiltins x
 nolimit:base.NoLimit
structure Cx where
 prog:Program
 w:World
 K:PySem.W.Frag
 mg:Str->Option Value
 base:Heap
 A:Around
 N:List Str
 s₀:Shared
 H₀:Hp
 env:Env
 outer:List Env
 stack:List Env
 ex:List Addr
 fn:Str->Bool
 calm:Bool
 pn:List (Addr×Obj)
 xe:Value->Shared->Prop
variable{X:Cx}
noncomputable def frs (l:Bb):List Addr:=l.filterMap (·.frame)
noncomputable abbrev Cx.fs (X:Cx):List Addr:=frs cB
def Vis(j:AO)(x:Str):Prop:=j.names.lookup x=So .local\/j.names.lookup x=So .cell\/j.names.lookup x=So .free
def Loc(j:AO)(x:Str):Prop:=j.names.lookup x=So .local\/j.names.lookup x=So .cell
def Look(O:Env)(h:Heap)(m:Bf)(x:Str)(u:Am):Prop:=
 (O.kindOf x=So .local/\m x=So u)\/((O.kindOf x=So .cell\/O.kindOf x=So .free)/\∃c,O.cells.lookup x=So c/\h.IsCell c (So u))
structure Cx.Ok(X:Cx):Prop where
 mod:Mod X.K X.mg YD
 kind:X.env.scope.kind=.function
 glob:X.env.globals=mainGlobals
 blt:X.env.builtins=builtinsNs
 above:N5<=AB
 inj:∀x y c,X.env.cells.lookup x=So c->X.env.cells.lookup y=So c->x=y
 has:∀x,(X.env.kindOf x=So .cell\/X.env.kindOf x=So .free)->∃c,X.env.cells.lookup x=So c
 cab:∀x c,X.fn x=To->X.env.cells.lookup x=So c->N5<=c
 hd:X.calm=To->X.A.handled=No
 frames:X.A.frames=So Yt
 stk:X.stack=cB\/(Yt=Se::X.outer/\X.env.frame=So AB)
 exf:∀b∈X.ex,b≠AB/\∀x c,X.env.cells.lookup x=So c->c≠b
 bs:∀b o,X.base.get? b=So o->X.s₀.heap.get? b=So o/\X.H₀ b=No
 bsz:X.base.objs.size<=N5
 noex:∀b o,X.base.get? b=So o->b∉X.ex
 exfs:∀b∈X.ex,b∉X.fs
 funs:X.s₀.heap.FunFrames YD cB
 frf:∀b∈X.fs,X.H₀ b=No
structure Inv(X:Cx)(Y:AU)(Z:QdC)(H:Hp)(s:Ao):Prop where
 ok:X.Ok
 os:s.os=X.s₀.os
 bare:AllBare bS
 base:Un X.fs X.ex X.H₀ H X.s₀.heap WL
 loc:∃m,s.heap.Ns AB m/\∀(i:Nat)(x:Str)(v:V),X.N[i]? =So x->Z[i]? =So Bi->Vis Cy x->∃u,RelV v u/\Look Se WL m x u
 cell:∀x c,X.env.cells.lookup x=So c->∃v,s.heap.IsCell c v
 free:H AB=No
 freeC:∀x c,X.env.cells.lookup x=So c->H c=No
 pin:∀p∈X.pn++Y,s.heap.get? p.1=So p.2/\H p.1=No/\p.1≠AB/\p.1∉X.fs/\∀v,p.2.data≠.cell v
 hok:HOk Yu X.w H WL
 len:Z.length=Qbl
section
variable{Z:QdC}
def Cx.Ok.nofr(ok:X.Ok){o:Obj}(e:X.base.get? b=So o):b∉X.fs:=λj=>by
 have:=(ok.funs.mem j).1
 rw[e]at this;cases this
def Inv.bs(I:AI):∀b o,X.base.get? b=So o->s.heap.get? b=So o/\H b=No:=λb o e=>
 ⟨I.base.keep b o (I.ok.bs b o e).1 (I.ok.bs b o e).2 (I.ok.nofr e) Qaa,I.base.free b o (I.ok.bs b o e).1 (I.ok.bs b o e).2 Qaa⟩
def Inv.bk(I:AI):∀b o,X.base.get? b=So o->s.heap.get? b=So o:=λb o e=>(I.bs b o e).1
def Inv.mod(I:AI):Mod X.K X.mg YD:=bA
def Inv.kIn(I:AI):X.K.In WL:=I.ok.mod.kin.keeps I.bk
def Inv.lt(I:AI):AB<Aa:=let⟨_,j,_⟩:=YH;j.lt
def Inv.sz(I:AI):N5<=Aa:=Zy bH (Nat.le_of_lt I.lt)
def Inv.nofs(I:AI)(h:Aa<=a):a∉X.fs:=λj=>by
 obtain⟨_,o,l,_⟩:=I.ok.funs.mem j
 exact absurd (Zw (Zk l) (Zy I.sz h)) Cr
def Inv.cne(I:AI):∀x c,X.env.cells.lookup x=So c->c≠AB:=λx c e z=>by
 obtain⟨v,o,r,q⟩:=I.cell x c e
 obtain⟨m,⟨t,es,y,l,j,_⟩,_⟩:=YH
 rw[z,l]at r;cases r;rw[j]at q;cases q
def Inv.funs(I:AI):s.heap.FunFrames YD cB:=by
 have all:∀(l:Bb),(∀b∈frs l,b∈X.fs)->X.s₀.heap.FunFrames YD l->s.heap.FunFrames YD l:=by
  intro l;induction l with
  |nil=>intro _ _;trivial
  |cons O r J=>intro t U;obtain⟨F,⟨L,o,j,y,B,N⟩,G⟩:=U;have m:L∈X.fs:=t L (by unfold frs;rw[wD,j];exact vM);obtain⟨sl,e⟩:=I.base.slot L o B (I.ok.frf L m) m λz=>I.ok.exfs L z m;exact⟨F,⟨L,_,j,y,e,N⟩,J (λb q=>t b (by unfold frs;rw[wD,j];exact Zx _ q)) G⟩
 exact all cB HR bZ
def Inv.stack(I:AI):s.heap.FunFrames YD Yt:=by
 rcases I.ok.stk with e|⟨e,l⟩
 ·rw[e];exact I.funs
 ·rw[e];obtain⟨m,j,_⟩:=YH;refine .cons (by rw[I.ok.kind];decide) l j ?_ I.funs;exact Heap.get?_none_of_le (Zy dX bH)
def Inv.stkSub(I:AI):∀b∈frs Yt,b∈AB::X.fs:=λb j=>by
 rcases I.ok.stk with e|⟨e,l⟩
 ·rw[e]at j;exact Zx _ j
 ·rw[e]at j
  unfold frs at j
  rw[wD,l]at j
  exact j
def Inv.stkFree(I:AI):∀b∈frs Yt,H b=No:=λb j=>by
 rcases Ze.mp (I.stkSub b j)with e|j
 ·rw[e];exact I.free
 ·obtain⟨_,o,l,_⟩:=I.ok.funs.mem j
  exact I.base.free b o l Qb5 λz=>I.ok.exfs b z j
def Inv.step{g':Array GenState}{d':Drawn}(I:AI)
  (t:∀b∈ch,MN/\b≠AB/\(∀x c,X.env.cells.lookup x=So c->c≠b)/\∀p∈X.pn++Y,p.1≠b)
  (keep:∀b o,b≠AB->b∉X.fs->b∉ch->s.heap.get? b=So o->H b=No->h'.get? b=So o)
  (J:∀b o,b≠AB->b∈X.fs->b∉ch->s.heap.get? b=So o->H b=No->∃sl,h'.get? b=So {o with slots:=sl}) (free:∀b o,b∉ch->s.heap.get? b=So o->H b=No->W b=No)
  (there:∀b o,b∉ch->s.heap.get? b=So o->∃O,h'.get? b=So O)
  (tups:∀b xs,H b=So Bm->W b=So Bm) (frzs:∀b o u,H b=So (.frz o u)->W b=So GY) (tbls:∀b ps,H b=So (.tbl ps)->∃U,W b=So (.tbl (ps++U)))
  (ns:∀m,s.heap.Ns AB m->h'.Ns AB m) (hok:SR) (hg:AllBare g'):
  Inv X Y Z W {s with heap:=h',gens:=g',drawn:=d',toks:=t'}:=by
 have neL:∀b o,X.s₀.heap.get? b=So o->b≠AB:=λb o e=>Zt LW;have G:∀b o,X.s₀.heap.get? b=So o->b∉X.ex->b∉ch:=λb o e j L=>by
  rcases(t b L).1 with z|z
  ·exact j z
  ·exact absurd (Zw (Zk e) z) Cr
 have y:∀x c,X.env.cells.lookup x=So c->∀v,s.heap.IsCell c v->h'.IsCell c v:=λx c e v⟨o,N,hd⟩=>by
  have B:c∉ch:=λz=>(t c z).2.2.1 x c e rfl;by_cases hc:c∈X.fs
  ·obtain⟨sl,q⟩:=J c o Qdb hc B N Ie;exact⟨_,q,hd⟩
  ·exact⟨o,keep c o Qdb hc B N Ie,hd⟩
 refine⟨I.ok,I.os,hg,⟨λb o e n L j=>?_,λb o e n L j=>?_,λb o e n j=>?_,λb o e j=>?_,λb xs e=>tups b xs (I.base.tups b xs e),λb o xs e=>frzs b o xs (I.base.frzs b o xs e),λb ps e=>?_⟩,?_,λx c e=>?_,?_,λx c e=>?_,λp hp=>?_,hok,aF⟩
 ·exact keep b o (neL b o e) L Mm (I.base.keep b o e n L j) Uj
 ·obtain⟨sl,F⟩:=I.base.slot b o e n L j;obtain⟨sl',e2⟩:=J b _ (neL b o e) L Mm F Uj;exact⟨sl',e2⟩
 ·obtain⟨O,F⟩:=I.base.there b o e j;exact free b O Mm F Uj
 ·obtain⟨O,F⟩:=I.base.there b o e j;exact there b O Mm F
 ·obtain⟨m1,F⟩:=I.base.tbls b ps e;obtain⟨m2,e2⟩:=tbls b _ F;exact⟨m1++m2,by rw[e2,Array.append_assoc]⟩
 ·obtain⟨m,hn,hl⟩:=YH;refine⟨m,ns m hn,λi x v F e2 e3=>?_⟩;obtain⟨u,r,l⟩:=hl i x v F e2 e3;refine⟨u,r,?_⟩;rcases l with l|⟨k,c,e,z⟩
  ·exact .inl l
  ·exact .inr ⟨k,c,e,y x c e _ z⟩
 ·obtain⟨v,z⟩:=I.cell x c e;exact⟨v,y x c e v z⟩
 ·obtain⟨m,⟨o,_,_,N,_⟩,_⟩:=YH;exact free _ o (λz=>(t _ z).2.1 rfl) N YE
 ·obtain⟨v,o,N,hd⟩:=I.cell x c e;exact free c o (λz=>(t c z).2.2.1 x c e rfl) N Ie
 ·obtain⟨e,n,ne,nf,d⟩:=I.pin p hp;have B:p.1∉ch:=λz=>(t p.1 z).2.2.2 p hp rfl;exact⟨keep p.1 p.2 ne nf B e n,free p.1 p.2 B e n,ne,nf,d⟩
def Inv.un(I:AI)(u:Un X.fs [] H W WL h')(q:SR):Inv X Y Z W {s with heap:=h',toks:=t'}:=by
 obtain⟨m,⟨o,es,O,B,r⟩,_⟩:=id YH;obtain⟨sl,G⟩:=u.any B YE Af;exact I.step (g':=bS) (d':=aH) (ch:=[]) (λ_ z=>nomatch z) (λb o _ t _ e n=>u.keep b o e n t Af) (λb o _ t _ e n=>u.slot b o e n t Af) (λb o _ e n=>u.free b o e n Af) (λb o _ e=>u.there b o e Af) u.tups u.frzs u.tbls (λN F=>by
  obtain⟨L,l,y,j,J⟩:=F;rw[B]at j;cases j;exact⟨_,l,y,G,J⟩) q YB
def Inv.call{g':Array GenState}{d':Drawn}(I:AI)(u:Un HZ ch H W WL h')(B:SR)(N:AllBare g')
  (l:∀b∈ch,MN/\b≠AB/\(∀x c,X.env.cells.lookup x=So c->c≠b)/\∀p∈X.pn++Y,p.1≠b):
  Inv X Y Z W {s with heap:=h',gens:=g',drawn:=d',toks:=t'}:=by
 obtain⟨m,⟨o,es,ep,G,r⟩,_⟩:=id YH;obtain⟨sl,y⟩:=u.any G YE λz=>(l _ z).2.1 rfl;exact I.step (ch:=ch) l (λb o y L j e n=>u.keep b o e n (λz=>(Ze.mp (I.stkSub b z)).elim y L) j) (λb o _ _ j e n=>u.any e n j) (λb o j e n=>u.free b o e n j) (λb o j e=>u.there b o e j) u.tups u.frzs u.tbls (λm' J=>by
  obtain⟨U,t,F,q,O⟩:=J;rw[G]at q;cases q;exact⟨_,t,F,y,O⟩) B N
def Inv.turned{it:Addr}(I:AI)(k:∀b o,b≠it->s.heap.get? b=So o->h'.get? b=So o)(y:H it=No)(t:it≠AB)
  (h1:it∈X.ex\/X.s₀.heap.objs.size<=it) (G:∀x c,X.env.cells.lookup x=So c->c≠it) (L:∀p∈X.pn++Y,p.1≠it):Inv X Y Z H {s with heap:=h',toks:=t'}:=by
 have l:∀b u,H b=So u->b≠it:=λb u e z=>by rw[z,y]at e;cases e
 refine I.step (g':=bS) (d':=aH) (ch:=[it]) (λb J=>?_) (λb o _ _ j e _=>k b o (λz=>j (by simp[z])) e) (λb o _ _ j e _=>⟨Qcr,k b o (λz=>j (by simp[z])) e⟩) OP
  (λb o j e=>⟨o,k b o (λz=>j (by simp[z])) e⟩) (λ_ _ e=>e) (λ_ _ _ e=>e) (λb ps e=>⟨#[],by rw[e];simp⟩) (λm B=>?_) (λb u e=>?_) YB
 ·have e:b=it:=by simpa using J
  subst e;exact⟨h1,t,G,L⟩
 ·obtain⟨o,es,N,F,r⟩:=B;exact⟨o,es,N,k _ o (Ne.symm t) F,r⟩
 ·refine(I.hok b u e).stay (λc v j q=>k c v ?_ q) HR λ_ _ q=>q;rcases j with z|z
  ·rw[z];exact l b u e
  ·exact l c _ z
def Inv.tok(I:AI)(t:Nat):Inv X Y Z H {s with toks:=t}:=I.un (h':=WL) (t':=t) Un.refl YC
def Inv.kept(I:AI)(k:∀b u,s.heap.get? b=So u->h'.get? b=So u):Inv X Y Z H {s with heap:=h',toks:=t'}:=I.un (Un.kept k) (I.hok.kept k)
def Inv.laid(I:AI)(k:∀b u,s.heap.get? b=So u->h'.get? b=So u)(j:Aa<=a)(new:Rk):
  Inv X Y Z E3 {s with heap:=h',toks:=t'}:=I.un (Un.laid k j (I.hok.fresh j)) (I.hok.laid k j new)
def Inv.write{x e:Addr}(I:AI)(m:QcY)(l:e=x\/H e=So Hd)(k:∀b u,b≠e->s.heap.get? b=So u->h'.get? b=So u)(j:∃u,h'.get? e=So u)
  (new:ObjOk Yu X.w cY h' x o):Inv X Y Z cY {s with heap:=h',toks:=t'}:=I.un (Un.write m l k j) (I.hok.write m l k j new)
def Inv.pins_of{j:AU}(I:AI)(h:∀p∈j,s.heap.get? p.1=So p.2/\H p.1=No/\p.1≠AB/\p.1∉X.fs/\∀v,p.2.data≠.cell v):Inv X j Z H s:=
 ⟨I.ok,I.os,YB,Z8,YH,Z3,YE,YX,λp l=>(ZC.mp l).elim (λz=>I.pin p (yM _ z)) (h p),YC,aF⟩
def Jjm{N:Ag}(m:N.Nodup){j:Nat}(a:N[i]? =So x)(b:N[j]? =So x):i=j:=by obtain⟨t,q⟩:=ZB.mp a;obtain⟨r,l⟩:=ZB.mp b;exact(List.getElem_inj m).mp (q.trans l.symm)
def Jgy{Q:Ej}(I:AI)(hN:EV)(hi:X.N[i]? =So x)(G:HB)(r:EH)
  (h:∀s',Inv X Y Yl H s'->(∃a,Heap.SameBut a WL YG/\(a=AB\/X.env.cells.lookup x=So a))->Q () s') (hf:MR):wpAny M A Qd Q E s:=by
 obtain⟨m,hn,hl⟩:=id YH;have hcls:(Qcz==.class||(Qcz==.module&&X.env.locals !=X.env.globals))=Fo:=by rw[I.ok.kind];rfl
 have O:i<Z.length:=by rw[I.len];exact(ZB.mp hi).1
 have cne:=I.cne;have t:∀{a:Addr}{h':Heap},(∃o,s.heap.get? a=So o/\H a=No)->Heap.SameBut a WL h'->HOk Yu X.w H h':=fun{a h'}ha l b ob e=>by
  obtain⟨_,_,J⟩:=ha;refine(I.hok b ob e).stay (λc w' F q=>(l.2 c ?_).trans q) HR λ_ _ q=>q;rintro rfl;rcases F with rfl|F
  ·rw[J]at e;cases e
  ·rw[J]at F;cases F
 rcases G with N|N
 ·refine wpAny_storeName_local N hn (λh' hn' l=>?_) hcls;obtain⟨oL,_,_,hoL,_⟩:=id hn;refine h _ ⟨I.ok,I.os,YB,X3,⟨_,hn',λj y v' B L e3=>?_⟩,λy c e=>?_,YE,YX,λp hp=>?_,t ⟨oL,hoL,YE⟩ l,by simpa using I.len⟩ ⟨_,l,.inl rfl⟩
  ·exact(l.2 b (Zt LW)).trans RA
  ·obtain⟨sl,B⟩:=I.base.slot b o e n hb G;exact⟨sl,(l.2 b (Zt LW)).trans B⟩
  ·obtain⟨o',B⟩:=I.base.there b o e G;exact⟨o',(l.2 b (Zt LW)).trans B⟩
  ·by_cases hj:j=i
   ·subst hj;rw[hi]at B;cases B;rw[kD O]at L;cases L;exact⟨u,r,.inl ⟨N,by simp⟩⟩
   ·rw[Zv (Ne.symm hj)]at L;obtain⟨u',r',q⟩:=hl j y v' B L e3;refine⟨u',r',?_⟩;rcases q with⟨k,e⟩|⟨k,c,e,z⟩
    ·refine .inl ⟨k,?_⟩;have:y≠x:=λe=>hj (Jjm hN B (e▸hi));simp[this,e]
    ·exact .inr ⟨k,c,e,z.sameBut l (cne y c e)⟩
  ·obtain⟨w',z⟩:=I.cell y c e;exact⟨w',z.sameBut l (cne y c e)⟩
  ·obtain⟨e,n,ne,nf,d⟩:=I.pin p hp;exact⟨(l.2 p.1 ne).trans e,n,ne,nf,d⟩
 ·have U:X.fn x=To:=by
   rcases hf with z|z
   ·exact z
   ·rw[z]at N;cases N
  obtain⟨c,F⟩:=I.ok.has x (.inl N);obtain⟨w',z⟩:=I.cell x c F;refine wpAny_storeName_cell YT N F z (λh' hc' l=>?_);obtain⟨oc,hoc,hocd⟩:=id z;refine h {s with heap:=h'} ⟨I.ok,I.os,YB,X3,⟨m,hn.sameBut l (Ne.symm (cne x c F)),λj y v' B L e3=>?_⟩,λy c' e=>?_,YE,YX,λp hp=>?_,t ⟨oc,hoc,I.freeC x c F⟩ l,by simpa using I.len⟩ ⟨c,l,.inr F⟩
  ·exact(l.2 b UR).trans RA
  ·obtain⟨sl,B⟩:=I.base.slot b o e n hb G
   exact⟨sl,(l.2 b UR).trans B⟩
  ·obtain⟨o',B⟩:=I.base.there b o e G
   exact⟨o',(l.2 b UR).trans B⟩
  ·by_cases hj:j=i
   ·subst hj;rw[hi]at B;cases B;rw[kD O]at L;cases L;exact⟨u,r,.inr ⟨.inl N,c,F,hc'⟩⟩
   ·rw[Zv (Ne.symm hj)]at L;obtain⟨u',r',q⟩:=hl j y v' B L e3;refine⟨u',r',?_⟩;rcases q with q|⟨k,c',e,z'⟩
    ·exact .inl q
    ·refine .inr ⟨k,c',e,z'.sameBut l ?_⟩;rintro rfl;exact hj (Jjm hN B (I.ok.inj _ _ _ e F▸hi))
  ·by_cases hcc:c'=c
   ·subst hcc;exact⟨_,hc'⟩
   ·obtain⟨w2,z2⟩:=I.cell y c' e;exact⟨w2,z2.sameBut l hcc⟩
  ·obtain⟨e,n,ne,nf,d⟩:=I.pin p hp
   refine⟨(l.2 p.1 ?_).trans e,n,ne,nf,d⟩;intro q;rw[q,hoc]at e;have q':oc=p.2:=zE e;exact d w' (by rw[<-q'];exact hocd)
def wO{Q:Ej}(I:AI)(m:EV)(hi:X.N[i]? =So x)(q:HB)(r:EH)
  (h:∀j,Inv X Y Yl H j->Q () j) (l:MR):wpAny M A Qd Q E s:=
 Jgy I m hi q r (λj t _=>h j t) l
def Inv.call'{j:Ao}(I:AI)(ho:j.os=s.os)(u:Un HZ ch H W WL j.heap)(m:HOk Yu X.w W j.heap)(q:AllBare j.gens)
  (l:∀b∈ch,MN/\b≠AB/\(∀x c,X.env.cells.lookup x=So c->c≠b)/\∀p∈X.pn++Y,p.1≠b):Inv X Y Z W j:=by obtain⟨h',g',d',t',r⟩:=j;have e:r=s.os:=ho;subst e;exact I.call (g':=g') (t':=t') (d':=d') u m q l
end
noncomputable abbrev XK:=Value->Option Addr->Hp->Prop
noncomputable abbrev St:=List (Option V)
variable{Z:St}
noncomputable abbrev VK:=V->Hp->Prop
noncomputable abbrev TE:=St->Hp->VK->Prop
variable{ta te:TE}
noncomputable abbrev TT:=St->Hp->(Bool->Hp->Prop)->Prop
noncomputable abbrev TA:=St->Hp->(List V->Hp->Prop)->Prop
structure Ends where
 nx:St->Hp->Prop
 rt:VK
 bk:St->Hp->Prop:=λ_ _=>False
 ct:St->Hp->Prop:=λ_ _=>False
variable{t:TA}
noncomputable abbrev TS:=Ends->St->Hp->Prop
inductive EP(X:Cx)(pins:AU)(σ:St)(Q:VK)(u:Am)(s':Ao):Prop where
 |mk (v:V) (H':Hp) (I:Inv X pins σ H' s') (r:RelV v u) (q:Q v H'):EP X pins σ Q u s'
inductive TP(X:Cx)(pins:AU)(σ:St)(Q:EM)(b:Bool)(s':Ao):Prop where
 |mk (H':Hp) (I:Inv X pins σ H' s') (q:Q b H'):TP X pins σ Q b s'
inductive AP(X:Cx)(pins:AU)(σ:St)(Q:List V->Hp->Prop)(us:AF)(s':Ao):Prop where
 |mk (vs:List V) (H':Hp) (I:Inv X pins σ H' s') (r:Vals vs us) (q:Q vs H'):AP X pins σ Q us s'
inductive NP(X:Cx)(pins:AU)(nx:St->Hp->Prop)(s':Ao):Prop where
 |mk (σ':St) (H':Hp) (I:Inv X pins σ' H' s') (q:nx σ' H'):NP X pins nx s'
inductive RP(X:Cx)(pins:AU)(rt:VK)(u:Am)(s':Ao):Prop where
 |mk (v:V) (σ':St) (H':Hp) (I:Inv X pins σ' H' s') (r:RelV v u) (q:rt v H'):RP X pins rt u s'
def SP(X:Cx)(Y:AU)(D:Ends)(f:Flow)(j:Ao):Prop:=
 match f with
 |.next=>NP X Y D.nx j
 |.brk=>NP X Y D.bk j
 |.cont=>NP X Y D.ct j
 |.ret u=>RP X Y D.rt u j
def PE(X:Cx)(e:Expr)(t:TE):Prop:=
 ∀(Y:AU)(s:Ao)(Z:St)(H:Hp)(Q:VK),Inv X Y Z H s->t Z H Q->wpAny Av X.A M3 BX X.xe s
def PT(X:Cx)(e:Expr)(t:TT):Prop:=
 ∀(Y:AU)(s:Ao)(Z:St)(H:Hp)(Q:EM),Inv X Y Z H s->t Z H Q->wpAny Av X.A (isTrue e Se M3) Mv X.xe s
def PW(X:Cx)(e:Expr)(t:TT):Prop:=
 ∀(j:Sem Value)(Y:AU)(s:Ao)(Z:St)(H:Hp)(Q:EM),Inv X Y Z H s->t Z H Q->wpAny Av X.A (isTrue e Se j) Mv X.xe s
def PW.pt{t:TT}(h:PW X e t):PT X e t:=h _
def PA(X:Cx)(es:CY)(t:TA):Prop:=
 ∀(pos:Pos)(Y:AU)(s:Ao)(Z:St)(H:Hp)(Q:List V->Hp->Prop),Inv X Y Z H s->t Z H Q->wpAny Av X.A (spliced (backTo pos '~')) (AP X Y Z Q) X.xe s
def PS(X:Cx)(st:Stmt)(t:TS):Prop:=
 ∀(Y:AU)(s:Ao)(Z:St)(H:Hp)(D:Ends),Inv X Y Z H s->t D Z H->wpAny Av X.A (exec st Se) GX X.xe s
def PSs(X:Cx)(st:BI)(t:TS):Prop:=
 ∀(Y:AU)(s:Ao)(Z:St)(H:Hp)(D:Ends),Inv X Y Z H s->t D Z H->wpAny Av X.A (execs st Se) GX X.xe s
def thn{l:Type}{t:Sem l}{Q j:l->Shared->Prop}(h:wpAny M A t Q E s)(m:∀a s,Q a s->j a s):wpAny M A t j E s:=ZT h m λ_ _ x=>x
section
def tVar(i:Nat):TE:=λZ H Q=>∃v,Z[i]? =So Bi/\Q v H
def tC(v:V):TE:=λ_ H Q=>Q v H
def iC(N:X.N[i]? =So x)(F:Vis Cy x)(z:DS)(hcd:'г' Fd EF):PE X B7 (tVar i):=by
 intro Y s Z H Q I h;obtain⟨v,e,h⟩:=h;obtain⟨m,L,J⟩:=YH;obtain⟨u,r,l⟩:=J i x v N e F;have y:EP X Y Z Q u s:=Ko;rcases l with⟨q,G⟩|⟨q,c,B,j⟩
 ·exact wpAny_Name (wpAny_loadName_local YT q L G y) z
 ·rcases q with q|q
  ·exact wpAny_Name (wpAny_loadName_cell YT q B j y) z
  ·exact wpAny_Name (wpAny_loadName_free YT q B j y hcd) z
def JvL{i j pos}:PE X QE (tC AZ):=λ_ _ _ H _ I h=>wpAny_Constant_int ⟨.int i,H,I.tok _,Au,h⟩
def pe_bl{b j pos}:PE X (.Constant (.bool b) j pos) (tC Bt):=λ_ _ _ H _ I h=>Constant_bool ⟨.bl b,H,I,rfl,h⟩
def JtT{j pos}:PE X QU (tC .non):=λ_ _ _ H _ I h=>Constant_none ⟨.non,H,I,rfl,h⟩
def JpY{x j pos}:PE X QD (tC Cu):=λ_ _ _ H _ I h=>Calls.Constant_str ⟨.str x,H,I.tok _,Au,h⟩
def Gl(X:Cx)(x:Str):Prop:=X.env.kindOf x=So .globalImplicit
def uI{Q:Az}(I:AI)(l:Z1)(m:X.mg x=So u)(h:Q u s)
  (j:DS):wpAny Av X.A (eval B7 Se) Q E s:=
 Calls.Name_function_global YT l (Calls.loadGlobal_global (by rw[I.ok.glob];exact I.mod.glob.keeps I.bk) m h) j
def yN{Q:Az}(I:AI)(l:Z1)(r:X.mg x=No)(j:bootBuiltins x=So u)(h:Q u s)
  (m:'г' (x≠"__name__") EF) (hd:DS):wpAny Av X.A (eval B7 Se) Q E s:=by obtain⟨z,q,y⟩:=I.mod.blt;exact Calls.Name_function_global YT l (Calls.loadGlobal_builtin (by rw[I.ok.glob];exact I.mod.glob.keeps I.bk) r (by rw[I.ok.blt];exact q.keeps I.bk) ((y x m).trans j) h) hd
def Jma(j:Z1)(l:X.mg x=So u)(r:EH)(m:DS):PE X B7 (tC v):=
 λ_ _ _ H _ I h=>uI I j l Ko m
def JlS(m:Z1)(q:X.mg x=No)(l:bootBuiltins x=So u)(r:EH)(j:'г' (x≠"__name__") EF)(hd:DS):PE X B7 (tC v):=
 λ_ _ _ H _ I h=>yN I m q l Ko j hd
noncomputable def t2I (ta tb:TE) (k:Int->Int->Hp->Prop):St->Hp->Prop:=λZ H=>ta Z H λx l=>tb Z l λy m=>∃i j,x=.int i/\y=.int j/\k i j m
variable{a b:Expr}{tb:TE}
def PC(X:Cx)(op:CmpOp)(a b:Expr)(t:TE):Prop:=
 ∀(Y:AU)(s:Ao)(Z:St)(H:Hp)(Q:VK),Inv X Y Z H s->t Z H Q->
  wpAny Av X.A CS (λv j=>wpAny Av X.A (eval b Se) (λu l=>wpAny Av X.A (compareOp op v u) BX X.xe l) X.xe j) X.xe s
def Jjn(b:Expr)(h:op≠.In)(m:op≠.NotIn):behindInMarks op b=Fo:=by
 have l:(op==CmpOp.In)=Fo:=by cases op<;>first|rfl|exact absurd rfl h
 have j:(op==CmpOp.NotIn)=Fo:=by cases op<;>first|rfl|exact absurd rfl m
 cases b<;>first|rfl|(show(_&&(_||_)&&_)=Fo;rw[l,j,jJ,oJ,rC])
def tCmp(p:Int->Int->Bool)(ta tb:TE):TE:=λZ H Q=>t2I ta tb (λi j l=>Q (.bl (p i j)) l) Z H
noncomputable abbrev tLt:TE->TE->TE:=tCmp λi j=>decide (i<j)
noncomputable abbrev tGt:TE->TE->TE:=tCmp λi j=>decide (j<i)
def tIsN(ta:TE):TE:=λZ H Q=>ta Z H λx j=>Q (.bl (decide (x=.non))) j
def RelV.none_iff{x:V}{v:Am}(r:RelV x v):(v==Ys)=decide (x=.non):=by
 cases x with
 |non=>cases r;exact(ZD rfl).symm
 |_=>rw[Zp nofun];first|(cases r;rfl)|(obtain⟨t,rfl⟩:=r;rfl)
def Jut{j pos'}(ha:CK):PC X .Is a (.Constant .none j pos') (tIsN ta):=by intro Y s Z H Q I h;refine thn Dd λv z l=>?_;obtain⟨x,q,r,y,m⟩:=l;exact Constant_none (is_none_gen ⟨.bl _,q,r,by rw[y.none_iff];rfl,m⟩)
def tB(t:TE):TT:=λZ H Q=>t Z H λx j=>∃c,x=.bl c/\Q c j
def JuQ{t:TE}(h:PC X op a b t)(h1:Hx:=by first|exact Jjn _ Ax Ax|rfl):PE X Hw t:=λY s Z H Q I j=>wpAny_Compare1 Qab h1
def xY{t:TE}(h:PC X op a b t)(h1:Hx:=by first|exact Jjn _ Ax Ax|rfl):PT X Hw (tB t):=by intro Y s Z H Q I y;refine wpAny_isTrue_Compare1 (thn (h Y s Z H _ I y) λv B h1=>thn h1 λu F l=>thn l λc G⟨x,r,j,z,m⟩=>?_) h1;obtain⟨d,rfl,q⟩:=m;cases z;exact gG ⟨r,j,q⟩
variable{tA tB':TT}{rest:CY}
def tAnd(t u:TT):TT:=λZ H Q=>t Z H λc j=>if c=To then u Z j Q else Q Fo j
def tOr(t u:TT):TT:=λZ H Q=>t Z H λc j=>if c=To then Q To j else u Z j Q
def tNot(t:TT):TT:=λZ H Q=>t Z H λc j=>Q (!c) j
def JrZ(j:Ez):PW X (.BoolOp .And [a] pos) tA:=by
 intro l Y s Z H Q I h;refine isTrue_and (thn (j Y s Z H Q I h) λc m e=>?_);cases c with
 |true=>exact isTrue_and_nil e
 |false=>exact e
def JvB(j:Ez):PW X (.BoolOp .Or [a] pos) tA:=by
 intro l Y s Z H Q I h;refine isTrue_or (thn (j Y s Z H Q I h) λc m e=>?_);cases c with
 |false=>exact isTrue_or_nil e
 |true=>exact e
def JvJ(ha:Ez)(r:PW X (.BoolOp .And (b::rest) pos) tB'):PW X MG (tAnd tA tB'):=by
 intro y Y s Z H Q I h;refine isTrue_and (thn Dd λc z j=>?_);obtain⟨m,q,l⟩:=j;cases c with
 |true=>exact r y Y z Z m Q q l
 |false=>exact⟨m,q,l⟩
def pw_or(ha:Ez)(r:PW X (.BoolOp .Or (b::rest) pos) tB'):PW X (.BoolOp .Or (a::b::rest) pos) (tOr tA tB'):=by
 intro y Y s Z H Q I h;refine isTrue_or (thn Dd λc z j=>?_);obtain⟨m,q,l⟩:=j;cases c with
 |true=>exact⟨m,q,l⟩
 |false=>exact r y Y z Z m Q q l
def JvF(l:Ez):PT X NJ (tNot tA):=by intro Y s Z H Q I h;exact isTrue_not (thn (l Y s Z H (λc j=>Q (!c) j) I h) λc r⟨j,m,q⟩=>⟨j,m,q⟩)
def tAndV(ta tb:TE):TE:=λZ H Q=>ta Z H λx j=>∃c,x=.bl c/\if c=To then tb Z j Q else Q Bq j
def tNotV(ta:TE):TE:=λZ H Q=>ta Z H λx j=>∃c,x=.bl c/\Q (.bl (!c)) j
def Jvb{op}{t:TE}(h:PE X a t):PE X TZ t:=λY s Z H Q I j=>BoolOp_one Qab
def JuV(ha:CK)(y:PE X (.BoolOp .And (b::rest) pos) tb):PE X MG (tAndV ta tb):=by
 intro Y s Z H Q I h;refine BoolOp_and (thn Dd λv r l=>?_);obtain⟨x,q,m,z,j⟩:=l;obtain⟨c,rfl,j⟩:=j;cases z;refine gG ?_;cases c with
 |true=>exact y Y r Z q Q m j
 |false=>exact⟨.bl Fo,q,m,rfl,j⟩
def JuZ(ha:CK):PE X NJ (tNotV ta):=by intro Y s Z H Q I h;refine UnaryOp_ (thn Dd λv y j=>?_);obtain⟨x,q,m,r,l⟩:=j;obtain⟨c,rfl,l⟩:=l;cases r;exact not_of (gG ⟨.bl (!c),q,m,rfl,l⟩)
def tIf(t:TT)(ta tb:TE):TE:=λZ H Q=>t Z H λc j=>if c=To then ta Z j Q else tb Z j Q
def JiZ(B:PT X c tA)(y:CK)(z:F6):PE X OO (tIf tA ta tb):=by
 intro Y s Z H Q I h;refine wpAny_IfExp (thn (B Y s Z H _ I h) λd r j=>?_);obtain⟨m,q,l⟩:=j;cases d with
 |true=>exact y Y r Z m Q q l
 |false=>exact z Y r Z m Q q l
end
def SqL(K:Ak)(H:Hp)(a:Addr)(xs:Aw):Prop:=
 Rd H a AH\/
  ∃(o:Obj)(j:Cf)(n:Nat),K.lookup a=So o/\o.cls=.type "list"/\o.dict=No/\o.data=.seq j n/\j.size<=sizeLine/\Vals xs j.toList
def ModT(K:Ak)(y:Str)(a:Addr):Prop:=PySem.W.nsIn K mainGlobals y=So (So AE)\/
 ∃(b:Addr)(o:Obj)(j:Cf)(n:Nat),PySem.W.nsIn K mainGlobals y=So (So Hi)/\K.lookup b=So o/\o.cls=.type "tuple"/\o.data=.seq j n/\Value.ref a∈j.toList
def SqT(K:Ak)(H:Hp)(a:Addr)(xs:Aw):Prop:=
 H a=So Bm\/
  ∃(y:Str)(o:Obj)(j:Cf)(n:Nat),ModT K y a/\K.lookup a=So o/\o.cls=.type "tuple"/\o.dict=No/\o.data=.seq j n/\j.size<=sizeLine/\Vals xs j.toList
noncomputable def absV:Value->Option V
 |.none=>So .non
 |.bool b=>So Bt
 |.int i _=>So AZ
 |.str x _=>So Cu
 |.bytes b _=>So (.byt b)
 |.float b _=>So (.flt b)
 |.ref a=>So AE
 |.type n=>So (.ty n)
 |_=>No
def RelV.abs{x:V}(r:RelV x u):absV u=So x:=by
 cases x with
 |non=>cases r;rfl
 |bl _=>cases r;rfl
 |int _=>obtain⟨t,rfl⟩:=r;rfl
 |str _=>obtain⟨t,rfl⟩:=r;rfl
 |byt _=>obtain⟨t,rfl⟩:=r;rfl
 |flt _=>obtain⟨t,rfl⟩:=r;rfl
 |ref _=>cases r;rfl
 |ty _=>cases r;rfl
def RelV.inj{x y:V}{u:Am}(r:RelV x u)(q:DX):x=y:=zE (r.abs.symm.trans q.abs)
def Vals.inj:∀{xs ys:Aw}{us:AF},Vals xs us->Vals ys us->xs=ys
 |_,_,_,.nil,.nil=>rfl
 |_,_,_,.cons r t,.cons r' t'=>by rw[r.inj r',Vals.inj t t']
section
variable{xs ys:Aw}
def SqL.of(h:H a=So AH):SqL K H a xs:=.inl QcH
def SqT.of(h:H a=So Bm):SqT K H a xs:=.inl h
theorem Inv.list(I:AI)(h:J7):∃its:List Value,Vals xs its/\PlainL WL a AA/\xs.length<=sizeLine:=by
 rcases h with h|⟨o,its,n,l,q,j,m,y,r⟩
 ·obtain⟨z,its,n,r,e⟩:=h.ok YC;exact⟨its,r,⟨_,n,e,rfl,rfl,rfl⟩,z⟩
 ·refine⟨Qbm,r,⟨o,n,I.kIn a o l,q,j,by simpa using m⟩,?_⟩;have e:=Yx;simp only[ZU]at e;lia
theorem Inv.tuple(I:AI)(h:J6):∃its:List Value,Vals xs its/\IsTup WL a AA/\xs.length<=sizeLine:=by
 rcases h with h|⟨_,o,its,n,_,j,m,_,l,q,r⟩
 ·obtain⟨⟨z,_⟩,its,r,p⟩:=I.hok a _ h;exact QdI
 ·refine⟨Qbm,r,⟨o,I.kIn a o j,m,n,by simpa using l⟩,?_⟩;have e:=Yx;simp only[ZU]at e;lia
theorem Inv.tupleD(I:AI)(h:J6):∃(its:AF)(o:Obj)(n:Nat),Vals xs its/\s.heap.get? a=So o/\o.cls=.type "tuple"/\o.dict=No/\o.data=.seq AA n/\xs.length<=sizeLine:=by
 rcases h with h|⟨_,o,its,n,_,j,l,q,y,B,r⟩
 ·obtain⟨⟨z,m⟩,its,r,o,e,c,n,d⟩:=I.hok a _ h;exact⟨its,o,n,r,e,c,m _ e,d,z⟩
 ·refine⟨Qbm,o,n,r,I.kIn a o j,l,q,by simpa using y,?_⟩;have e:=Yx;simp only[ZU]at e;lia
def Inv.list_inj(I:AI)(h:J7)(h':SqL X.K H a ys):xs=ys:=by
 obtain⟨l,r,⟨o,n,e,_,_,d⟩,_⟩:=I.list h;obtain⟨j,y,⟨B,F,m,_,_,q⟩,_⟩:=I.list h';rw[e]at m;cases m;rw[d]at q;injection q with z _;have:l=j:=by simpa using iA Array.toList z
 subst this;exact r.inj y
def Inv.tuple_inj(I:AI)(h:J6)(h':SqT X.K H a ys):xs=ys:=by
 obtain⟨l,r,⟨o,e,_,n,d⟩,_⟩:=I.tuple h;obtain⟨j,y,⟨B,m,_,F,q⟩,_⟩:=I.tuple h';rw[e]at m;cases m;rw[d]at q;injection q with z _;have:l=j:=by simpa using iA Array.toList z
 subst this;exact r.inj y
end
section
variable{st:Stmt}{rest:BI}{t u:TS}
def tNext:TS:=λD Z H=>D.nx Z H
def tSeq(t u:TS):TS:=λD Z H=>t {D with nx:=u D} Z H
def JtF:PSs X [] tNext:=λ_ _ Z H _ I h=>wpAny_execs_nil ⟨Z,H,I,h⟩
def gH(h1:QcZ)(r:PSs X rest u):PSs X (st::rest) (tSeq t u):=by
 intro Y s Z H D I h;refine wpAny_execs_cons (thn (h1 Y s Z H {D with nx:=u D} I h) λf m q=>?_);cases f with
 |next=>obtain⟨j,W,l,q⟩:=q;exact r Y m j W D l q
 |ret v=>exact q
 |brk=>exact q
 |cont=>exact q
def lL(h1:QcZ):PSs X [st] t:=by
 intro Y s Z H D I h;refine wpAny_execs_cons (thn (h1 Y s Z H D I h) λf j q=>?_);cases f with
 |next=>exact wpAny_execs_nil q
 |ret v=>exact q
 |brk=>exact q
 |cont=>exact q
def Inv.quiet(I:AI):interactive Se=Fo:=by simp[interactive,I.ok.kind]
def tDrop(te:TE):TS:=λD Z H=>te Z H λ_ j=>D.nx Z j
def oO(he:F4)(q:'г' (swapsWith e No Yy Se=pure Fo) Ai):PS X Qdc (tDrop te):=by intro Y s Z H D I h;exact wpAny_Expr_any (thn F3 λv r⟨x,l,m,y,j⟩=>⟨Z,l,m,j⟩) I.quiet q
def tRet(te:TE):TS:=λD Z H=>te Z H D.rt
def nI(he:F4):PS X LS (tRet te):=by intro Y s Z H D I h;exact wpAny_Return_some (thn F3 λv r⟨x,l,m,q,j⟩=>⟨x,Z,l,m,q,j⟩)
def tIfS(c:TT)(t u:TS):TS:=λD Z H=>c Z H λb j=>if b=To then t D Z j else u D Z j
def JtV{a b:BI}{y:TT}(z:PT X c y)(B:PSs X a t)(F:PSs X b u):PS X (.If c a b pos) (tIfS y t u):=by
 intro Y s Z H D I h;refine wpAny_If (thn (z Y s Z H _ I h) λd m j=>?_);obtain⟨r,l,q⟩:=j;cases d with
 |true=>exact B Y m Z r D l q
 |false=>exact F Y m Z r D l q
end
noncomputable abbrev TG:=V->St->Hp->(St->Hp->Prop)->Prop
noncomputable abbrev TGs:=List V->St->Hp->(St->Hp->Prop)->Prop
def PG(X:Cx)(j:Expr)(t:TG):Prop:=
 ∀(Y:AU)(s:Ao)(Z:St)(H:Hp)(v:V)(u:Am)(Q:St->Hp->Prop),Inv X Y Z H s->RelV v u->t v Z H Q->
  wpAny Av X.A (assign j Se u) (λ_ l=>NP X Y Q l) X.xe s
def PGs(X:Cx)(l:CY)(t:TGs):Prop:=
 ∀(Y:AU)(s:Ao)(Z:St)(H:Hp)(vs:Aw)(us:AF)(Q:St->Hp->Prop),Inv X Y Z H s->Vals vs us->t vs Z H Q->
  wpAny Av X.A (assignInOrder ((assignEach l Se).map (·.2)) us) (λ_ j=>NP X Y Q j) X.xe s
def Jgx(i:Nat):TG:=λv Z H Q=>Q Yl H
def kL(m:EV)(hi:X.N[i]? =So x)(l:HB)(j:MR):PG X B7 EE:=by intro Y s Z H v u Q I r h;exact wpAny_assign_Name (wO I m hi l r (λy q=>⟨_,H,q,h⟩) j)
def gNil:TGs:=λvs Z H Q=>vs=[]/\Q Z H
def gCons(t:TG)(u:TGs):TGs:=λvs Z H Q=>∃v r,vs=v::r/\t v Z H λj W=>u r j W Q
def JmS:PGs X [] gNil:=by intro Y s Z H vs us Q I r h;obtain⟨e,h⟩:=h;subst e;cases r;exact assignInOrder_nil ⟨Z,H,I,h⟩
def zU{t:TG}{u:TGs}(h1:PG X e t)(y:PGs X es u)
  (J:'г' ((assignEach FC Se).map (·.2)=assign e Se::'ϕ'.map (·.2)) Ai):PGs X FC (gCons t u):=by
 intro Y s Z H vs us Q I r h;obtain⟨v,L,G,h⟩:=h;subst G;cases r with
 |cons r F=>rw[J];refine assignInOrder_cons (thn (h1 Y s Z H _ _ _ I r h) λ_ q l=>?_);obtain⟨j,B,m,z⟩:=l;exact y Y q j B _ _ Q m F z
def gTup(K:Ak)(n:Nat)(t:TGs):TG:=λv Z H Q=>∃a j,v=.ref a/\SqT K H a j/\j.length=n/\t j Z H Q
def JpM{t:TGs}{n:Nat}(B:CQ)(h:PGs X es t)
  (m:'г' ('ϕ'.length=n) Ai) (hst:'г' ('ϕ'.findIdx? (·.1)=No) Ai):PG X Qac (gTup X.K n t):=by intro Y s Z H v u Q I r j;obtain⟨a,q,J,F,L,j⟩:=j;subst J;cases r;obtain⟨N,l,G,O⟩:=I.tuple F;refine assign_Tuple_tuple (I.ok.hd B) G (by simp[m,<-L,l.length]) hst λh' z=>?_;have y:Inv X Y Z H {s with heap:=h'}:=I.kept (t':=Yp) λb o e=>z b o Ml e;exact h Y _ Z H q _ Q y (by simpa using l) j
def tAsg(te:TE)(g:TG):TS:=λD Z H=>te Z H λx j=>g x Z j D.nx
def qG{j:Pos}(z:EV)(hi:X.N[i]? =So x)(m:HB)(he:F4)(F:'г' (swapsWith e (So (.Name x j)) Yy Se=pure Fo) Ai)(hf:MR):
  PS X (.Assign [.Name x j] e pos) (tAsg te EE):=by intro Y s Z H D I h;refine wpAny_Assign_Name (thn F3 λv J⟨y,r,l,G,q⟩=>?_) F;exact wO l z hi m G (λL B=>⟨_,r,B,q⟩) hf
def tPar(i j:Nat)(ta:TA):TS:=λD Z H=>ta Z H λvs l=>∃v w,vs=[v,w]/\D.nx ('Ȑ'.set j (So w)) l
def JqP{j:Nat}{y:Str}{a b:Expr}{ta:TA}{r L pt:Pos}{kt k2 pt2}(hc:CQ)(hN:EV)(hi:X.N[i]? =So x)(hj:X.N[j]? =So y)(G:i≠j)
  (O:X.env.scope.names.lookup x=So .local) (U:X.env.scope.names.lookup y=So .local) (ha:PA X [a,b] ta)
  (hw:swappedStores UQ Ir Se=pure GW)
  (hs:'г' (swapsWithSole UQ Ir Yy Se=pure Fo) Ai):
  PS X (.Assign UQ Ir pos) (tPar i j ta):=by
 intro Y s Z H D I h;rw[exec_Assign_arm];refine Za (wpAny_standAt ?_);rw[hs];refine Za (Zb ?_);rw[if_neg 'p'];refine Za (Tuple_ (thn (ha _ Y s Z H _ I h) λus s1 F=>?_));obtain⟨vs,H1,I1,r1,z⟩:=F;obtain⟨v,w,e1,z⟩:=z;subst e1;obtain⟨m,l,rfl,rv,B⟩:∃m l,us=[m,l]/\RelV v m/\RelV w l:=by
  cases r1 with
  |cons p q=>
   cases q with
   |cons p' q'=>cases q';exact⟨_,_,rfl,p,p'⟩
 refine ZF ?_ (by show 2<=sizeLine;decide);have I2:Inv X Y Z H1 {s1 with heap:=s1.heap.push {cls:=.type "tuple",data:=.seq [m,l].toArray}}:=I1.kept (t':=YY) λb o e=>Zd _ e;rw[hw];refine Za (Zb ?_);show wpAny Av X.A (do rule "assign.swapped-stores";let items<-unpackItems (.ref AC) 2 No;assignInOrder Xp items.reverse;pure Flow.next) _ _ _;refine Za (xC (Za (unpackItems_tuple (items:=#[m,l]) HQ (IsTup.new s1.heap _) λh' J=>?_)));have I3:=I2.kept (h':=h') (t':=YY) λb o e=>J b o Ml e;show wpAny _ _ (assignInOrder Xp [l,m]>>=λ_=>pure Flow.next) _ _ _;refine Za (assignInOrder_cons (wpAny_bindName (wO I3 hN hj (.inl U) B (λs2 I4=>?_) (.inr U))));refine assignInOrder_cons (wpAny_bindName (wO I4 hN hi (.inl O) rv (λs3 N=>assignInOrder_nil (Zb ?_)) (.inr O)));rw[List.set_comm _ _ (Ne.symm G)]at N;exact⟨_,H1,N,z⟩
structure It where
 go:Nat->Hp->Prop
 yld:Nat->Hp->V->Hp->Prop
 stop:Nat->Hp->Prop
def FpOk(X:Cx)(Y:AU)(H:Hp)(b:Addr):Prop:=
 H b=No/\b≠AB/\b∉X.fs/\MN/\(∀x c,X.env.cells.lookup x=So c->c≠b)/\∀p∈X.pn++Y,p.1≠b
def Inv.fpOk(I:AI)(j:Aa<=b)(l:W b=No):FpOk X Y W b:=by
 refine⟨l,sD (Zw I.lt j),I.nofs j,.inr (Zy I.sz j),λx c e z=>?_,λp m z=>?_⟩
 ·obtain⟨v,q⟩:=I.cell x c e;exact absurd (Zw q.lt (by rw[z];exact j)) Cr
 ·exact absurd (Zw (Zk (I.pin p m).1) (by rw[z];exact j)) Cr
structure Turn(P:Bk)(w:Bc)(K:Ak)(tg:Expr)(J9:It)(fp:A7)(it:Addr)(tn:Nat->Heap->Prop):Prop where
 mem:it∈fp
 obj:∀i h,tn i h->∀b∈fp,∃o,h.get? b=So o/\∀v,o.data≠.cell v
 keep:∀i h h',tn i h->(∀b∈fp,∀o,h.get? b=So o->h'.get? b=So o)->tn i h'
 item:∀(X:Cx),Yu=P->X.w=w->X.K=K->X.calm=To->∀(i:Nat)(Y:AU)(s:Ao)(Z:St)(H:Hp)(E:Az),Inv X Y Z H s->(∀b∈fp,FpOk X Y H b)->tn i s.heap->J9.go i H->
  wpAny Cm X.A Dq (λr s1=>∃u,r=So u/\
   wpAny Cm X.A Rz (λ_ s2=>∃x W,Inv X Y Z W s2/\RelV x u/\J9.yld i H x W/\tn BQ cC/\∀b∈fp,W b=No) E s1) E s
 done:∀(X:Cx),Yu=P->X.w=w->X.K=K->X.calm=To->∀(i:Nat)(Y:AU)(s:Ao)(Z:St)(H:Hp)(E:Az),Inv X Y Z H s->(∀b∈fp,FpOk X Y H b)->tn i s.heap->J9.stop i H->
  wpAny Cm X.A Dq (λr s1=>r=No/\Inv X Y Z H s1) E s
 self:∀(A:Bg)(i:Nat)(s:Ao)(Q:Az)(E:Az),tn i s.heap->Q Ce s->wpAny Cm A (pyIter Ce) Q E s
noncomputable abbrev TI:=St->Hp->(It->Hp->Prop)->Prop
def PIE(X:Cx)(Y:AU)(Z:St)(tg:Expr)(R:It->Hp->Prop)(j:Am)(m:Ao):Prop:=
 ∃(q:Addr)(fp:A7)(l:Nat->Heap->Prop)(r:It)(W:Hp),j=.ref q/\Inv X Y Z W m/\Turn Yu X.w X.K tg r fp q l/\l 0 m.heap/\(∀b∈fp,FpOk X Y W b)/\R r W
def PI(X:Cx)(tg j:Expr)(l:TI):Prop:=
 ∀(Y:AU)(s:Ao)(Z:St)(H:Hp)(R:It->Hp->Prop),Inv X Y Z H s->l Z H R->
  wpAny Av X.A (eval j Se) (λv m=>wpAny Av X.A (pyIter v) Qa3 X.xe m) X.xe s
def gY{it:Addr}{o:Obj}{n:A9}{vs:Cf}{Q:Ej}(ho:s.heap.get? it=So o)(q:o.cls=.type n)(m:o.data=.fields vs)
  (l:["enumerate","zip","dict_itemiterator","dict_reverseitemiterator","odict_iterator","itertools.zip_longest","itertools.pairwise"].contains n=Fo) (j:Q () s):wpAny M A Rz Q E s:=by
 unfold letOwnedTupleGo;cases tg<;>first
  |exact Zb j
  |(cases u<;>first
    |exact Zb j
    |(refine Za (wpAny_load ho ?_);rw[q,m];show wpAny M A (if(["enumerate","zip","dict_itemiterator","dict_reverseitemiterator","odict_iterator","itertools.zip_longest","itertools.pairwise"].contains n&&vs[0]? ==So (rawInt _))=To then _ else _) Q E s;rw[if_neg (by intro h;rw[l,rC]at h;cases h)];exact Zb j))
noncomputable def Itl (K:Ak) (a:Addr):It:=
 ⟨λi H=>∃j x,SqL K H a j/\j[i]? =So x,λi H x W=>W=H/\∀j,SqL K H a j->j[i]? =So x,λi H=>∃j,SqL K H a j/\j.length<=i⟩
noncomputable def Itt (K:Ak) (a:Addr):It:=
 ⟨λi H=>∃j x,SqT K H a j/\j[i]? =So x,λi H x W=>W=H/\∀j,SqT K H a j->j[i]? =So x,λi H=>∃j,SqT K H a j/\j.length<=i⟩
noncomputable def Itr (lo:Int) (n:Nat):It:=⟨λi _=>i<n,λi H x W=>W=H/\x=.int (lo+i),λi _=>n<=i⟩
def Jhd(a it:Addr):Turn P w K tg QaK [it] it (λi h=>h.IsListIter it a i)where
 mem:=by simp
 obj:=λi h j b l=>by
  have e:b=it:=by simpa using l
  subst e
  obtain⟨o,e,c,d⟩:=j
  exact⟨o,e,λv z=>by rw[d]at z;cases z⟩
 keep:=λi h h' j k=>j.at λo e=>k it Af o e
 item:=by
  intro X y hw F hc i Y s Z H E I q j hg;subst y hw F;obtain⟨xs,x,r,O⟩:=hg;obtain⟨L,J,p,hz⟩:=I.list r;obtain⟨u,hu,ru⟩:=J.get O;obtain⟨B,N,f2,U,G,f5⟩:=q it Af;refine wpAny_pyNext_list_item j Z4 (x:=u) (by simpa using hu) λh' m sb=>?_;have I1:Inv X Y Z H {s with heap:=h'}:=I.turned (t':=Yp) (λb o l e=>(sb.2 b l).trans e) B N U G f5;obtain⟨o,e,c,d⟩:=id m;exact⟨u,rfl,gY (s:={s with heap:=h'}) e c d Ax ⟨x,H,I1,ru,⟨rfl,λys hy=>by rw[I.list_inj hy r];exact O⟩,m,λb l=>(q b l).1⟩⟩
 done:=by
  intro X y hw F hc i Y s Z H E I q j hg;subst y hw F;obtain⟨xs,r,O⟩:=hg;obtain⟨L,J,p,hz⟩:=I.list r;obtain⟨B,N,f2,U,G,f5⟩:=q it Af;have hl:=J.length;exact wpAny_pyNext_list_end HQ j Z4 DL λh' eb=>⟨rfl,I.turned (t':=Yp) Ut B N U G f5⟩
 self:=λ_ _ _ _ _ j h=>wpAny_pyIter_listiter j h
def JeI(a it:Addr):Turn P w K tg QaL [it] it (λi h=>h.IsTupleIter it a i)where
 mem:=by simp
 obj:=λi h j b l=>by
  have e:b=it:=by simpa using l
  subst e
  obtain⟨o,e,c,d⟩:=j
  exact⟨o,e,λv z=>by rw[d]at z;cases z⟩
 keep:=λi h h' j k=>j.at λo e=>k it Af o e
 item:=by
  intro X y hw F hc i Y s Z H E I q j U;subst y hw F;obtain⟨xs,x,r,N⟩:=U;obtain⟨its,J,p,hz⟩:=I.tuple r;obtain⟨u,hu,ru⟩:=J.get N;obtain⟨B,L,f2,O,G,f5⟩:=q it Af;refine wpAny_pyNext_tuple_item j (show s.heap.IsTuple a AA from p) (x:=u) (by simpa using hu) λh' m sb=>?_;have I1:Inv X Y Z H {s with heap:=h'}:=I.turned (t':=Yp) (λb o l e=>(sb.2 b l).trans e) B L O G f5;obtain⟨o,e,c,d⟩:=id m;exact⟨u,rfl,gY (s:={s with heap:=h'}) e c d Ax ⟨x,H,I1,ru,⟨rfl,λys hy=>by rw[I.tuple_inj hy r];exact N⟩,m,λb l=>(q b l).1⟩⟩
 done:=by
  intro X y hw F hc i Y s Z H E I q j U;subst y hw F;obtain⟨xs,r,N⟩:=U;obtain⟨its,J,p,hz⟩:=I.tuple r;obtain⟨B,L,f2,O,G,f5⟩:=q it Af;have hl:=J.length;exact wpAny_pyNext_tuple_end HQ j (show s.heap.IsTuple a its.toArray from p) DL λh' eb=>⟨rfl,I.turned (t':=Yp) Ut B L O G f5⟩
 self:=λ_ _ _ _ _ j h=>wpAny_pyIter_tupleiter j h
theorem Jka(it:Addr)(lo:Int)(n:Nat):Turn P w K tg eE [it] it (λi h=>IsRangeIter h it (lo+(i:Nat)*1) ((n:Int)-(i:Nat)) 1)where
 mem:=by simp
 obj:=λi h j b l=>by
  have e:b=it:=by simpa using l
  subst e
  exact⟨_,j,λv z=>by
   have z':Data.fields _=Data.cell v:=z
   cases z'⟩
 keep:=λi h h' j k=>k it Af _ j
 item:=by
  intro X r U B J i Y s Z H E I q j N;subst r U B;obtain⟨y,G,f2,L,F,O⟩:=q it Af;have W9:=Walks.range (prog:=Yu) (w:=X.w) (I.ok.hd J) it lo 1 n;refine W9.item i s _ _ N j λv h' tk hv m kk=>?_;obtain⟨t,rfl⟩:=hv;have I1:Inv X Y Z H {s with heap:=h',toks:=tk}:=I.turned (λb o l e=>kk b o (by simpa using l) e) y G L F O;refine⟨_,rfl,gY (s:={s with heap:=h',toks:=tk}) (n:="range_iterator") m rfl rfl Ax ⟨.int (lo+i),H,I1,⟨t,?_⟩,CU,m,λb l=>(q b l).1⟩⟩;rw[Int.mul_one]
 done:=by
  intro X r U B J i Y s Z H E I q j N;subst r U B;obtain⟨y,G,f2,L,F,O⟩:=q it Af;exact wpAny_pyNext_range_end (I.ok.hd J) j (by have:n<=i:=N;lia) λh' eb=>⟨rfl,I.turned (t':=Yp) Ut y G L F O⟩
 self:=λ_ _ _ _ _ j h=>wpAny_pyIter_rangeiter j h
theorem Jom{R:It->Hp->Prop}{lo hi:Int}{t u v:Tok}{tk:Nat}(I:AI)(h1:-(2^62)<=lo)(j:lo<2^62)(r:-(2^62)<=hi)(z:hi<2^62)
  (q:R (Itr lo (hi-lo).toNat) H):wpAny Av X.A (pyIter FF) Qa3 E {s with heap:=s.heap.push {cls:=.type "range",data:=.fields #[.int lo t,.int hi u,.int 1 v]},toks:=tk}:=by
 refine wpAny_pyIter_range (IsRange.new ..) (small_one h1 j r z) ?_;have I1:Inv X Y Z H {s with heap:=s.heap.push {cls:=.type "range",data:=.fields #[.int lo t,.int hi u,.int 1 v]},toks:=tk}:=I.kept λb o e=>Zd _ e;refine⟨(s.heap.push {cls:=.type "range",data:=.fields #[.int lo t,.int hi u,.int 1 v]}).objs.size,[(s.heap.push {cls:=.type "range",data:=.fields #[.int lo t,.int hi u,.int 1 v]}).objs.size],_,_,H,rfl,
  I1.kept (t':=tk) λb o e=>Zd _ e,Jka _ lo (hi-lo).toNat,?_,λb l=>?_,q⟩
 ·have y:lo+((0:Nat):Int)*1=lo:=by simp
  have m:(((hi-lo).toNat:Nat):Int)-((0:Nat):Int)=Builtin.Range.rangeSize lo hi 1:=by rw[rangeSize_one];split<;>lia
  show IsRangeIter _ _ (lo+((0:Nat):Int)*1) ((((hi-lo).toNat:Nat):Int)-((0:Nat):Int)) 1;rw[y,m];exact Zf _ rfl
 ·have e:b=(s.heap.push {cls:=.type "range",data:=.fields #[.int lo t,.int hi u,.int 1 v]}).objs.size:=by simpa using l
  subst e;exact I1.fpOk (Zh _) Fh
def iRng1 (ta:TA):TI:=λZ H R=>ta Z H λvs l=>∃j:Int,vs=[.int j]/\ -(2^62)<=j/\j<2^62/\R (Itr 0 j.toNat) l
def Jgp{a:Expr}{ta:TA}(F:Gl X "range")(m:X.mg "range"=No)(z:PA X [a] ta)(J:'г' (starEach [a] Se=[DN]) Ai):PI X tg (.Call (.Name "range" p) [a] [] pos) (iRng1 ta):=by
 intro Y s Z H R I h;refine Call_ (yN I F m boot_range (kX (thn (z pos Y s Z H _ I h) λus N⟨vs,O,y,L,l⟩=>?_) J rfl));obtain⟨j,e,l,B,q⟩:=l;subst e;cases L with
 |cons r G=>cases G;obtain⟨t,rfl⟩:=r;exact call_range_1 (Jom y Ad Ad l B (by simpa using q))
def tFor(G:TI)(g:TG)(z:TS):TS:=λD Z H=>G Z H λr B=>∃l:Nat->Nat->St->Hp->Prop,(∃m,l 0 m Z B)/\∀i m Z H,l i m Z H->
 (r.stop i H/\D.nx Z H)\/(r.go i H/\∃N:St->Hp->Prop,(∀j W,N j W->∃y,y<m/\l BQ y j W)/\∀x W,r.yld i H x W->g x Z W λq F=>z {D with nx:=N,ct:=N,bk:=D.nx} q F)
noncomputable def mF (fp:A7) (h:Heap):List (Addr×Obj):=fp.filterMap λb=>(h.get? b).map λo=>(b,o)
def JbI{o:Obj}(j:b∈fp)(e:h.get? b=So o):(b,o)∈mF fp h:=ZX.mpr ⟨b,j,by rw[e];rfl⟩
def Jhf{p:Addr×Obj}(m:p∈mF fp h):p.1∈fp/\h.get? p.1=So p.2:=by
 obtain⟨b,l,e⟩:=ZX.mp m;cases q:h.get? b with
 |none=>rw[q]at e;cases e
 |some o=>rw[q]at e;have j:(b,o)=p:=zE e;subst j;exact⟨l,q⟩
def Inv.pinned(I:AI)(q:∀b∈fp,FpOk X Y H b)(ho:∀b∈fp,∃o,s.heap.get? b=So o/\∀v,o.data≠.cell v):Inv X (Y++mF fp WL) Z H s:=
 I.pins_of λp B=>(ZC.mp B).elim (λz=>I.pin p (ZO _ z)) λz=>by
  obtain⟨l,e⟩:=Jhf z
  obtain⟨y,m,r,_⟩:=q p.1 l
  obtain⟨o,j,d⟩:=ho p.1 l
  rw[e]at j;cases j
  exact⟨e,y,m,r,d⟩
def Inv.unpinned{pl:AU}(I:Inv X (Y++pl) Z H s):Inv X Y Z H s:=I.pins_of λp j=>I.pin p (ZO _ (yM _ j))
def lT{G:Expr}{O:BI}{wi:TI}{g:TG}{tb:TS}(hp:K7)(hc:CQ)(hi:PI X tg G wi)(hg:PG X tg g)(J:PSs X O tb)
  (hs:∀x,foldedSetIterable G Se x=pure x:=by intro _;rfl):PS X (.For tg G O [] pos) (tFor wi g tb):=by
 intro Y s Z H D I h;refine wpAny_For (thn (hi Y s Z H _ I h) λv s1 h1=>thn h1 λitv s2 h2=>?_) hs;obtain⟨it,fp,tn,J9,H2,e,I2,T,st2,f2,W9,⟨m0,w0⟩,turn⟩:=h2;subst e;have F:∀{W:Hp},(∀b∈fp,W b=No)->∀b∈fp,FpOk X Y W b:=λhn b J=>⟨hn b J,(f2 b J).2⟩;refine codeAny_forLoop_any (λn s'=>∃i y W,Inv X Y y W s'/\tn i YG/\(∀b∈fp,W b=No)/\W9 i n y W) ?_ m0 ⟨0,Z,H2,I2,st2,λb J=>(f2 b J).1,w0⟩;rintro n s3⟨i,q,H3,I3,st3,fr3,w3⟩;rcases turn i n q H3 w3 with⟨stop,qn⟩|⟨go,N,hN,step⟩
 ·refine iM hp (thn (T.done X rfl rfl rfl hc i Y s3 q H3 X.xe I3 (F fr3) st3 stop) λr s4 l=>?_);obtain⟨hr,I4⟩:=l;subst hr;exact wpAny_execs_nil ⟨q,H3,I4,qn⟩
 ·refine iM hp (thn (T.item X rfl rfl rfl hc i Y s3 q H3 X.xe I3 (F fr3) st3 go) λr s4 l=>?_);obtain⟨u,hr,h4⟩:=l;subst hr;refine iM hp (thn h4 λ_ s5 l=>?_);obtain⟨x,H5,I5,r5,y5,U,fr5⟩:=l;have I5':=I5.pinned (F fr5) (T.obj _ _ U);refine iM hp (thn (hg _ s5 q H5 x u _ I5' r5 (step x H5 y5)) λ_ s6 l=>?_);obtain⟨σ6,H6,I6,q6⟩:=l;refine iM hp (thn (J _ s6 σ6 H6 _ I6 q6) λf s7 L=>?_);have again:∀{j:St}{B:Hp},Inv X (Y++mF fp aX) j B s7->N j B->∃m,m<n/\∃i y W,Inv X Y y W s7/\tn i s7.heap/\(∀b∈fp,W b=No)/\W9 i m y W:=fun{j B}z n7=>by obtain⟨m',hm,w7⟩:=hN j B n7;refine⟨m',hm,i+1,j,B,Qbn,T.keep _ _ _ U λb J o e=>(z.pin (b,o) QT).1,λb J=>?_,w7⟩;obtain⟨o,e,d⟩:=T.obj _ _ U b J;exact(z.pin (b,o) QT).2.1
  cases f with
  |next=>obtain⟨j,B,z,n7⟩:=L;exact again z n7
  |cont=>obtain⟨j,B,z,n7⟩:=L;exact again z n7
  |brk=>obtain⟨j,B,z,L⟩:=L;exact⟨j,B,Qbn,L⟩
  |ret v=>obtain⟨x7,j,B,z,r7,L⟩:=L;exact⟨x7,j,B,Qbn,r7,L⟩
noncomputable abbrev R2:=V->V->Hp->VK->Prop
variable{r:R2}
def OpR(X:Cx)(f:K6)(r:R2):Prop:=
 ∀(Y:AU)(s:Ao)(Z:St)(H:Hp)(x y:V)(v u:Am)(Q:VK),Inv X Y Z H s->RelV x v->RelV y u->r x y H Q->
  wpAny Av X.A (f v u) BX X.xe s
def UnR(X:Cx)(f:Value->Sem Value)(r:V->Hp->VK->Prop):Prop:=
 ∀(Y:AU)(s:Ao)(Z:St)(H:Hp)(x:V)(v:Am)(Q:VK),Inv X Y Z H s->RelV x v->r x H Q->
  wpAny Av X.A (f v) BX X.xe s
def pA(X:Cx)(f:Am)(r:List V->Hp->VK->Prop):Prop:=
 ∀(Y:AU)(s:Ao)(Z:St)(H:Hp)(j:Aw)(us:AF)(Q:VK),Inv X Y Z H s->Vals j us->r j H Q->
  wpAny Av X.A (call f us) BX X.xe s
def TruR(X:Cx)(r:V->Hp->(Bool->Hp->Prop)->Prop):Prop:=
 ∀(Y:AU)(s:Ao)(Z:St)(H:Hp)(x:V)(v:Am)(Q:EM),Inv X Y Z H s->RelV x v->r x H Q->
  wpAny Av X.A eF Mv X.xe s
def tOp(r:R2)(ta j:TE):TE:=λZ H Q=>ta Z H λx l=>j Z l λy m=>r x y m Q
def tUn(r:V->Hp->VK->Prop)(ta:TE):TE:=λZ H Q=>ta Z H λx j=>r x j Q
def rI(C:Int->Int->Prop)(g:Int->Int->V):R2:=λx y H Q=>∃i j,x=.int i/\y=.int j/\C i j/\Q DY H
def rI0(g:Int->Int->V):R2:=λx y H Q=>∃i j,x=.int i/\y=.int j/\Q DY H
noncomputable def rU (g:Int->V):V->Hp->VK->Prop:=λx H Q=>∃i,x=.int i/\Q (g i) H
section
variable{a b:Expr}{tb tc:TE}
def binT(ha:CK)(N:F6){R:V->V->Hp->Prop}(I:AI)
  (h:ta Z H λx B=>tb Z B λy l=>R x y l) {Q:Az} {f:K6}
  (F:∀v u z x y l,Inv X Y Z l z->RelV x v->RelV y u->R x y l->wpAny Av X.A (f v u) Q X.xe z):
  wpAny Av X.A CS (λv m=>wpAny Av X.A (eval b Se) (λu q=>wpAny Av X.A (f v u) Q X.xe q) X.xe m) X.xe s:=by refine thn Dd λv J j=>?_;obtain⟨x,B,G,r1,O⟩:=j;refine thn (N Y J Z B _ G O) λu z j=>?_;obtain⟨y,l,I2,L,U⟩:=j;exact F v u z x y l I2 r1 L U
def JtI{op:dQ}(ho:OpR X (binaryOp op) r)(z:CK)(B:F6):PE X (.BinOp a op b pos) MB:=by intro Y s Z H Q I h;exact wpAny_BinOp (binT z B I h λv u F x y j G l m q=>ho Y F Z j x y v u Q G l m q)
def pe_un{op:UnaryOp}{r:V->Hp->VK->Prop}(ho:UnR X (unaryOp op) r)(ha:CK):PE X (.UnaryOp op a pos) (tUn r ta):=by intro Y s Z H Q I h;exact UnaryOp_ (thn Dd λv q⟨x,l,m,y,j⟩=>ho Y q Z l x v Q m y j)
def opI{f:K6}{C:Int->Int->Prop}{g:Int->Int->Int}
  (l:∀(i j:Int)(t u:Tok)(s:Ao)(Q:Az)(E:Az),C i j->Q ON {s with toks:=Yp+1}->wpAny Av X.A Us Q E s):
  OpR X f (rI C λi j=>.int DY):=by intro Y s Z H x y v u Q I m z h;obtain⟨i,j,rfl,rfl,B,q⟩:=h;obtain⟨t,rfl⟩:=m;obtain⟨t',rfl⟩:=z;exact l i j t t' s _ _ B Vq
def opI0{f:K6}{g:Int->Int->Int}
  (l:∀(i j:Int)(t u:Tok)(s:Ao)(Q:Az)(E:Az),Q ON {s with toks:=Yp+1}->wpAny Av X.A Us Q E s):
  OpR X f (rI0 λi j=>.int DY):=by intro Y s Z H x y v u Q I m z h;obtain⟨i,j,rfl,rfl,q⟩:=h;obtain⟨t,rfl⟩:=m;obtain⟨t',rfl⟩:=z;exact l i j t t' s _ _ Vq
def opB0{f:K6}{g:Int->Int->Bool}
  (l:∀(i j:Int)(t u:Tok)(s:Ao)(Q:Az)(E:Az),Q (.bool DY) s->wpAny Av X.A Us Q E s):
  OpR X f (rI0 λi j=>.bl DY):=by intro Y s Z H x y v u Q I m z h;obtain⟨i,j,rfl,rfl,q⟩:=h;obtain⟨t,rfl⟩:=m;obtain⟨t',rfl⟩:=z;exact l i j t t' s _ _ ⟨.bl DY,H,I,rfl,q⟩
def CDiv(i j:Int):Prop:=0<j/\j<1073741824
def CMul(i j:Int):Prop:=(-(2^64)<i/\i<2^64)\/(-(2^64)<j/\j<2^64)
def CMul.ok{i j:Int}(h:CMul i j):IntMulOk i j:=by
 rcases h with⟨l,m⟩|⟨l,m⟩
 ·exact .of_left Pj
 ·exact .of_right Pj
def Jwd:OpR X Nd (rI0 λi j=>.int (i+j)):=opI0 λ_ _ _ _ _ _ _ q=>add_int q
def Juo:OpR X Qbu (rI0 λi j=>.int (i-j)):=opI0 λ_ _ _ _ _ _ _ q=>sub_int q
def Juf:OpR X Ss (rI CMul λi j=>.int (i*j)):=opI λ_ _ _ _ _ _ _ l q=>mul_int q l.ok
def Jtq:OpR X PH (rI CDiv λi j=>.int (i / j)):=opI λi j _ _ _ _ _ l q=>by
 have m:(0:Int)<j:=l.1
 have y:j<1073741824:=l.2
 exact floordiv_int Ad (by rw[Int.fdiv_eq_ediv_of_nonneg i 'c'];exact q) (.inl (PyProof.noPylong_small Ad))
def Jvt:OpR X Qbv (rI (λ_ j=>0<j) λi j=>.int (i % j)):=opI λi j _ _ _ _ _ l q=>by
 have m:(0:Int)<j:=l
 exact mod_int' Ad (by rw[Int.fmod_eq_emod_of_nonneg i 'c'];exact q)
def unI{f:Value->Sem Value}{g:Int->Int}
  (j:∀(i:Int)(t:Tok)(s:Ao)(Q:Az)(E:Az),Q (.int (g i) Yp) {s with toks:=Yp+1}->wpAny Av X.A (f eD) Q E s):
  UnR X f (rU λi=>.int (g i)):=by intro Y s Z H x v Q I l h;obtain⟨i,rfl,q⟩:=h;obtain⟨t,rfl⟩:=l;exact j i t s _ _ ⟨.int (g i),H,I.tok _,Au,q⟩
def JvV:UnR X (unaryOp .USub) (rU λi=>.int (-i)):=unI λ_ _ _ _ _ q=>neg_int q
end
section
variable{a b:Expr}{tb tc:TE}
def JpN{Q:VK}{k j:Bool}(I:AI)(q:Q (.bl k) H)(e:k=j):EP X Y Z Q (.bool j) s:=by subst e;exact⟨.bl k,H,I,rfl,q⟩
def op_lt:OpR X R8 (rI0 λi j=>.bl (decide (i<j))):=opB0 λ_ _ _ _ _ _ _ q=>lt_int q
def op_le:OpR X Qa4 (rI0 λi j=>.bl (decide (i<=j))):=opB0 λ_ _ _ _ _ _ _ q=>le_int q
def op_gt:OpR X Qbw (rI0 λi j=>.bl (decide (j<i))):=opB0 λ_ _ _ _ _ _ _ q=>gt_int q
def op_ge:OpR X Qa5 (rI0 λi j=>.bl (decide (j<=i))):=opB0 λ_ _ _ _ _ _ _ q=>ge_int q
def JlJ:OpR X R8 (λx y H Q=>∃i j,x=.str i/\y=.str j/\Q (.bl (decide (i.cps.toList<j.cps.toList))) H):=by intro Y s Z H x y v u Q I l m h;obtain⟨i,j,rfl,rfl,q⟩:=h;obtain⟨t,rfl⟩:=l;obtain⟨t',rfl⟩:=m;exact lt_str Qdd
def JkQ:OpR X Qby (λx y H Q=>∃i j,x=.str i/\y=.str j/\Q (.bl (!(Builtin.Str.occurrences j i 0 bB 1).isEmpty)) H):=by intro Y s Z H x y v u Q I l m h;obtain⟨i,j,rfl,rfl,q⟩:=h;obtain⟨t,rfl⟩:=l;obtain⟨t',rfl⟩:=m;exact in_str Qdd
def JcV(b:Expr)(h:'г' (op≠.In) EF)(h2:'г' (op≠.NotIn) EF):behindInMarks op b=Fo:=by
 have j:(op==CmpOp.In)=Fo:=by cases op<;>first|rfl|exact absurd rfl h
 have l:(op==CmpOp.NotIn)=Fo:=by cases op<;>first|rfl|exact absurd rfl h2
 cases b<;>first|rfl|(show(_&&(_||_)&&_)=Fo;rw[j,l,jJ,oJ,rC])
def Jru(ho:Qbj)(B:CK)(F:F6)(l:Hx):PE X Hw MB:=by intro Y s Z H Q I h;exact wpAny_Compare1 (binT B F I h λv u G x y j J m z q=>ho Y G Z j x y v u Q J m z q) l
def tTest(t:TE):TT:=λZ H Q=>t Z H λx W=>∃k,x=.bl k/\Q k W
def Jrb(ho:Qbj)(ha:CK)(L:F6)(m:Hx):PT X Hw (tTest MB):=by
 intro Y s Z H Q I h;refine wpAny_isTrue_Compare1 (thn Dd λv F⟨x,U,q,r1,O⟩=>thn (L Y F Z U _ q O) λu s2⟨y,l,I2,J,N⟩=>
  thn (ho Y s2 Z l x y v u _ I2 r1 J N) λc s3⟨z,G,B,r3,k,e,j⟩=>?_) m
 subst e;cases r3;exact gG ⟨G,B,j⟩
def Jql(r q:R2)(ta tb tc:TE):TE:=λZ H Q=>ta Z H λx l=>tb Z l λy m=>r x y m λz j=>∃k,z=.bl k/\
 (if k=To then tc Z j λF B=>q y F B Q else Q Bq j)
def Jnw{j:CmpOp}{G:R2}(ho:Qbj)(l:OpR X (compareOp j) G)(ha:CK)(N:F6)(hc:PE X c tc)
  (J:lastMarks [op,j] [b,c]=Fo:=by with_unfolding_all rfl):PE X (.Compare a [op,j] [b,c] pos) (Jql r G ta tb tc):=by
 intro Y s Z H Q I h;refine Compare_chain (thn Dd λv s1⟨x,H1,L,r1,U⟩=>chain_link (thn (N Y s1 Z H1 _ L U) λu s2⟨y,H2,I2,F,q2⟩=>
  thn (ho Y s2 Z H2 x y v u _ I2 r1 F q2) λd s3⟨z,B,q,r3,k,e,m⟩=>?_)) J
 subst e;cases r3;refine gG ?_;cases k with
 |false=>exact ite_ff ⟨.bl Fo,B,q,rfl,m⟩
 |true=>exact ite_tt (chain_last (thn (hc Y s3 Z B _ q m) λw' O⟨z',H4,I4,r4,q4⟩=>l Y O Z H4 y z' u w' Q I4 F r4 q4))
def TruV(K:Ak)(x:V)(H:Hp)(k:Bool):Prop:=
 match x with
 |.non=>k=Fo
 |.bl b=>k=b
 |.int i=>k=(i !=0)
 |.str y=>Z5<=sizeLine/\k=((Z5:Int)!=0)
 |.byt y=>y.size<=sizeLine/\k=((y.size:Int)!=0)
 |.ref p=>(∃j,SqL K H p j/\k=!j.isEmpty)\/(∃j,SqT K H p j/\k=!j.isEmpty)\/∃kvs,H p=So A3/\k=!kvs.isEmpty
 |_=>False
def JjU{j:BD}{vs:FR}(r:KV j vs):(!vs.isEmpty)=!j.isEmpty:=by cases r<;>rfl
def JeZ{xs:Aw}{j:AF}(r:Vals xs j):(!j.toArray.isEmpty)=!xs.isEmpty:=by cases r<;>simp
def uK:(sizeLine:Nat)<2^63:=by rw[ZG];decide
theorem Jwz:TruR X (λx H Q=>∃k,TruV X.K x H k/\Q k H):=by
 intro Y s Z H x v Q I B h;obtain⟨k,e,q⟩:=h;have U:=uK;have O:sizeLine=16777216:=ZG;cases x with
 |non=>cases B;have j:k=Fo:=e;subst j;exact truthy_none fN
 |bl b=>cases B;have j:k=b:=e;subst j;exact gG fN
 |int i=>obtain⟨t,rfl⟩:=B;have j:k=(i !=0):=e;subst j;exact PySem.P.truthy_int fN
 |str y=>obtain⟨t,rfl⟩:=B;obtain⟨N,j⟩:y.length<=sizeLine/\k=((Z5:Int)!=0):=e;subst j;exact PySem.P.truthy_str Ad QbV
 |byt y=>obtain⟨t,rfl⟩:=B;obtain⟨N,j⟩:y.size<=sizeLine/\k=((y.size:Int)!=0):=e;subst j;exact PySem.W.truthy_bytes Ad QbV
 |ref p=>
  cases B;have j:(∃z,SqL X.K H p z/\k=!z.isEmpty)\/(∃z,SqT X.K H p z/\k=!z.isEmpty)\/∃kvs,H p=So A3/\k=!kvs.isEmpty:=e;rcases j with⟨z,F,j⟩|⟨z,F,j⟩|⟨kvs,F,j⟩
  ·subst j;obtain⟨G,r,pl,J⟩:=I.list F;have l:=Yx;exact wpAny_truthy_list Y7 (by simp only[Zn];lia) ⟨H,I.tok _,by rw[JeZ r];exact q⟩
  ·subst j;obtain⟨G,r,pl,J⟩:=I.tuple F;have l:=Yx;exact truthy_tuple pl (by simp only[Zn];lia) ⟨H,I.tok _,by rw[JeZ r];exact q⟩
  ·subst j;obtain⟨J,L,vs,r,m⟩:BG<=sizeLine/\(p==sysModules)=Fo/\∃vs,KV kvs vs/\s.heap.DictOf Sr p vs:=I.hok p _ F;have l:BG=AQ:=oM r;exact wpAny_truthy_dict L m Ad ⟨H,I.tok _,by rw[JjU r];exact q⟩
 |_=>exact(show False from e).elim
def Joq(ha:CK)(z:∀j,isTrue a Se j=(do let v<-j;standAt a.pos;holding [v] eF)):
  PT X a (λZ H Q=>ta Z H λx W=>∃k,TruV X.K x W k/\Q k W):=by intro Y s Z H Q I h;exact isTrue_plain (thn Dd λv m⟨x,y,l,B,q⟩=>Jwz Y m Z y x v Q l B q) (z _)
def JjS:OpR X Nd (λx y H Q=>∃i j,x=.str i/\y=.str j/\i.length+j.length<=sizeLine/\Q (.str (i++j)) H):=by intro Y s Z H x y v u Q I m z h;obtain⟨i,j,rfl,rfl,l,q⟩:=h;obtain⟨t,rfl⟩:=m;obtain⟨t',rfl⟩:=z;exact add_str (λt' B=>⟨.str (i++j),H,I.tok _,Au,q⟩) l
def Jhm:OpR X (inplaceOp .Add) (λx y H Q=>∃i j,x=.str i/\y=.str j/\i.length+j.length<=sizeLine/\Q (.str (i++j)) H):=by intro Y s Z H x y v u Q I m z h;obtain⟨i,j,rfl,rfl,l,q⟩:=h;obtain⟨t,rfl⟩:=m;obtain⟨t',rfl⟩:=z;exact iadd_str (λt' B=>⟨.str (i++j),H,I.tok _,Au,q⟩) l
def rB{x:V}(r:Vals [x] us):∃u,us=[u]/\RelV x u:=by
 cases r with
 |cons j l=>cases l;exact⟨_,rfl,j⟩
def kY{x y:V}(r:Vals [x,y] us):∃u j,us=[u,j]/\RelV x u/\RelV y j:=by
 cases r with
 |cons q z=>
  cases z with
  |cons m l=>cases l;exact⟨_,_,rfl,q,m⟩
end
structure ObjM(h:Heap)(x dx C:Addr)(mA:Bf):Prop where
 obj:h.get? x=So QC
 ns:h.Ns1 dx mA
 ne:dx≠x
def JmG(n:h.Ns1 dx mA):∃l,h.get? dx=So l/\∀name,PySem.W.lookIn name l=So (mA name):=by
 obtain⟨o,es,L,B,G,F,_,m⟩:=n;refine⟨o,B,λname=>?_⟩;have e:=m name;unfold nsFind findBy at e;rw[<-Array.find?_toList]at e;unfold PySem.W.lookIn;rw[G];dsimp only;split
 ·rename_i y q;rw[q]at e;exact iA So e
 ·rename_i q;rw[q]at e;have a:es.toList.any (·.refKey)=Fo:=by rw[List.any_eq_false];intro y J;obtain⟨z,t,j⟩:=F y (Array.mem_toList_iff.mp J);simp[DictEntry.refKey,j]
  have I:¬es.toList.any (·.refKey)=To:=by rw[a];exact ZE
  rw[if_neg I];exact iA So e
def ObjM.look{x:Addr}(I:ObjM h x dx C mA):∃j,PySem.W.InstAt h x QC C (So j)/\∀name,PySem.W.lookIn name j=So (mA name):=
 let⟨j,l,m⟩:=JmG I.ns
 ⟨j,⟨I.obj,rfl,rfl,l⟩,m⟩
section
variable{x:Addr}{name:Str}{v:Am}
def Jtt{j:Bool}{Q:Az}(X:Ga)(I:TV)(y:PySem.W.plainGet K C name=To)(z:PySem.W.hasDictIn K C=To)
  (m:PySem.W.findIn K AV name=So No) (q:mA name=So v) (l:PySem.W.handedIn v=To) (h:Q v {s with toks:=Yp+1}):
  wpAny As A (getAttr Ck name j) Q E s:=by obtain⟨G,F,B⟩:=I.look;exact PySem.W.get_value X F (PySem.W.plainGet_of y).1 (PySem.W.findObj_own z m rfl (by rw[B,q])) l h
def JpE{pl:C1}{Q:Value×List Value->Shared->Prop}(X:Ga)(I:TV)(j:PySem.W.plainGet K C name=To)
  (m:PySem.W.findIn K AV name=So EZ) (q:PySem.W.isFn K A5=To) (l:mA name=No) (h:Q (.ref f,[.ref x]) s):
  wpAny As A (getMethod Ck name pl) Q E s:=by obtain⟨z,B,y⟩:=I.look;exact PySem.W.method_fn X B (PySem.W.plainGet_of j).1 (PySem.W.plainGet_of j).2 m (ZA.mp q) (by show(PySem.W.lookIn name z).map (·.isSome)=So Fo;rw[y,l];rfl) h
theorem JqY{ns:Ag}{Q:Ej}(X:Ga)(I:TV)
  (hs:PySem.W.findIn K AV "__setattr__"=So UU) (hp:PySem.W.plainOver K C=To) (O:PySem.W.takerIn K C name=So No) (J:PySem.W.hasDictIn K C=To)
  (hw:PySem.Within mA ns) (hsz:AX<=sizeLine)
  (h:∀h',ObjM h' x dx C (λy=>if y=name then So v else mA y)->Heap.SameBut dx WL h'->Q () {s with heap:=h',toks:=Yp+2}):
  wpAny As A (setAttr Ck name v) Q E s:=by obtain⟨od,F,hl⟩:=I.look;refine PySem.W.set_plain X F hs (PySem.W.osa_open (s:={s with toks:=Yp+1}) (r:=No) X F hp O λb=>?_);obtain⟨cd,L,z⟩:=PySem.W.any_some J;have N:s.heap.get? x=So ⟨.ref C,So dx,.plain,#[]⟩:=I.obj;refine Za (Zb (Za (Za (wpAny_loadPart N (Za (PySem.W.Looks.here (s:={s with toks:=Yp+1}) (PySem.W.looks_clsIn X L) ?_))))));rw[z];refine Zb (a:=So dx) (Za (Zb (Za ?_)));refine wpAny_nsSet1 (s:={s with toks:=Yp+1}) I.ns λh' l j=>?_;obtain⟨oD,G,U,B,m,q⟩:=l.count (PySem.Within.cons name v hw);refine Za (wpAny_lookBehind B (by rw[m];exact pastItsLine_dict (Zy q (by rw[Zm];lia))) ?_);exact Zb (h _ ⟨(j.2 _ (Ne.symm I.ne)).trans I.obj,l,I.ne⟩ j)
def JnK{R:N9}{vs:AF}(X:Ga)(m:PySem.W.makesIn K C=To)
  (hi:PySem.W.findIn K AV "__init__"=So EZ) (l:PySem.W.typeIn K A5=So (.type "function"))
  (h:codeAny As (A.under (.builtin "type.__call__" ⟨.ref C::vs,kw⟩)) (.call A5 ⟨.ref Es::vs,kw⟩) (PySem.W.InitBack Es R)
   {s with heap:='Ř'.push MI}):
  codeAny As A (.call AV ⟨vs,kw⟩) R s:=by obtain⟨y,g,d,t,q⟩:=s;exact PySem.W.make_core (PySem.W.makes_of X m) (PySem.W.looks_findIn X hi) (λj=>PySem.W.bind_fn X j l) BJ h
end
noncomputable def putF (f:Str) (v:V):List (Str×V)->List (Str×V)
 |[]=>[(f,v)]
 |(g,x)::r=>if g=f then(g,v)::r else(g,x)::putF f v r
def JdP(f g:Str)(v:V):∀fs:List (Str×V),(putF f v fs).lookup g=if g=f then So v else fs.lookup g
 |[]=>by
  show List.lookup g [(f,v)]=_
  by_cases h:g=f
  ·have j:(g==f)=To:=ZA.mpr h
   simp only[List.lookup,j,if_pos h]
  ·have j:(g==f)=Fo:=Zq.mpr h
   simp only[List.lookup,j,if_neg h]
 |(k,x)::r=>by
  have m:=JdP f g v r
  rw[show putF f v ((k,x)::r)=(if k=f then(k,v)::r else(k,x)::putF f v r)from rfl]
  by_cases l:k=f
  ·rw[if_pos l]
   by_cases h:g=k
   ·have j:(g==k)=To:=ZA.mpr h
    simp only[List.lookup,j,if_pos (h.trans l)]
   ·have j:(g==k)=Fo:=Zq.mpr h
    simp only[List.lookup,j,if_neg (λe:g=f=>h (e.trans l.symm))]
  ·rw[if_neg l]
   by_cases h:g=k
   ·have j:(g==k)=To:=ZA.mpr h
    simp only[List.lookup,j,if_neg (λe:g=f=>l (h.symm.trans e))]
   ·have j:(g==k)=Fo:=Zq.mpr h
    simp only[List.lookup,j]
    exact m
def Jeu(f:Str)(v:V):∀fs:List (Str×V),f∈(putF f v fs).map (·.1)/\∀g,g∈fs.map (·.1)->g∈(putF f v fs).map (·.1)
 |[]=>⟨by simp[putF],λg h=>by simp at h⟩
 |(k,x)::r=>by
  obtain⟨l,m⟩:=Jeu f v r
  rw[show putF f v ((k,x)::r)=(if k=f then(k,v)::r else(k,x)::putF f v r)from rfl]
  by_cases j:k=f
  ·rw[if_pos j]
   subst j
   exact⟨by simp,λg h=>by simpa using h⟩
  ·rw[if_neg j]
   refine⟨?_,λg h=>?_⟩
   ·rw[Zg]
    exact Zx _ l
   ·rw[Zg]at h⊢
    rcases Ze.mp h with e|e
    ·exact Ze.mpr (.inl e)
    ·exact Zx _ (m g e)
theorem JbP(f:Str)(v:V):∀fs:List (Str×V),(putF f v fs).length<=Qc7+1
 |[]=>by simp[putF]
 |(k,x)::r=>by
  have l:=JbP f v r
  rw[show putF f v ((k,x)::r)=(if k=f then(k,v)::r else(k,x)::putF f v r)from rfl]
  by_cases j:k=f
  ·rw[if_pos j,Zm,Zm];lia
  ·rw[if_neg j,Zm,Zm];lia
def RelO.some_of{o:Mo}(r:RelO Bi o):∃u,o=So u/\RelV v u:=by
 cases o with
 |none=>exact(show False from r).elim
 |some u=>exact⟨u,rfl,r⟩
def RelO.none_of{o:Mo}(r:RelO No o):o=No:=by
 cases o with
 |none=>rfl
 |some u=>exact(show False from r).elim
def Jlh(r:EH):PySem.W.handedIn u=To:=by
 cases v with
 |non=>cases(show u=Ys from r);rfl
 |bl b=>cases(show u=Value.bool b from r);rfl
 |int i=>obtain⟨t,e⟩:=(show∃t,u=Value.int i t from r);cases e;rfl
 |str x=>obtain⟨t,e⟩:=(show∃t,u=Value.str x t from r);cases e;rfl
 |byt b=>obtain⟨t,e⟩:=(show∃t,u=Value.bytes b t from r);cases e;rfl
 |flt b=>obtain⟨t,e⟩:=(show∃t,u=Value.float b t from r);cases e;rfl
 |ref a=>cases(show u=Value.ref a from r);rfl
 |ty n=>cases(show u=Value.type n from r);rfl
section
variable{fs fs':List (Str×V)}
def Jif(j:CM)(e:H a=So DU):∃mA,ObjM h a dx C mA/\(∀f,RelO Kk (mA f))/\PySem.Within mA (fs.map (·.1))/\fs.length<=1000/\H dx=So QcG:=by obtain⟨d,z,ne,ob,mA,n,r,q⟩:=(show ObjOk P w H h a DU from j a _ e);exact⟨mA,⟨ob,n,ne⟩,r,q,z,d⟩
end
structure Cls(K:Ak)(C:Addr):Prop where
 pg:PySem.W.plainGet K C YM=To
 hd:PySem.W.hasDictIn K C=To
 po:PySem.W.plainOver K C=To
 sa:PySem.W.findIn K AV "__setattr__"=So UU
def Cls.get{K:Ak}{C:Addr}(c:b9)(f:Str):PySem.W.plainGet K C f=To:=c.pg
def NoAttr(K:Ak)(C:Addr)(f:Str):Prop:=PySem.W.findIn K AV f=So No
def NoAttr.taker{f:Str}(n:NoAttr K C f):PySem.W.takerIn K C f=So No:=by unfold PySem.W.takerIn;rw[show PySem.W.findIn K 'N' f=So No from n];rfl
structure Meth(K:Ak)(C:Addr)(m:Str)(f:Addr):Prop where
 at_:PySem.W.findIn K AV m=So EZ
 fn:PySem.W.isFn K A5=To
 kp:PySem.W.keepIn K A5=To
section
variable{fs:List (Str×V)}{f:Str}
def JjR{b:Bool}{Q:Az}(I:AI)(e:H a=So DU)(c:Ey)(n:NoAttr X.K C f)(l:fs.lookup f=So v)
  (h:∀u m,Inv X Y Z H m->RelV v u->Q u m):wpAny Av A (getAttr AE f b) Q E s:=by obtain⟨mA,q,r,_,_,_⟩:=Jif YC e;obtain⟨u,y,j⟩:=RelO.some_of (v:=v) (o:=mA f) (by rw[<-l];exact r f);exact Jtt Y8 q (c.get f) c.hd n y (Jlh j) (h u _ Hm j)
def JeG{m:Str}{g:Addr}{pl:C1}{Q:Value×List Value->Shared->Prop}(I:AI)(e:H a=So DU)(c:Ey)(k:Meth X.K C m g)(l:fs.lookup m=No)
  (h:Q (.ref g,Cv) s):wpAny Av A (getMethod AE m pl) Q E s:=by obtain⟨mA,q,r,_,_,_⟩:=Jif YC e;have j:mA m=No:=RelO.none_of (by rw[<-l];exact r m);exact JpE Y8 q (c.get m) k.at_ k.fn j h
theorem Jkb{y:V}{Q:Ej}(I:AI)(e:H a=So DU)(c:Ey)(n:NoAttr X.K C f)(hl:fs.length<1000)(J:DX)
  (h:∀B,Inv X Y Z (upd H a Rg) B->Q () B):wpAny Av A (setAttr AE f u) Q E s:=by
 obtain⟨mA,l,r,F,_,m⟩:=Jif YC e;have G:(fs.map (·.1)).length<=sizeLine:=by rw[Zj,ZG];lia
 refine JqY Y8 l c.sa c.po n.taker c.hd F G λh' j sb=>h _ ?_;have U:∃o,h'.get? dx=So o:=let⟨o,_,_,L,_⟩:=j.ns;⟨o,L⟩;refine I.write (x:=a) (e:=dx) (by rw[e];exact jA) (.inr m) (λb q N z=>(sb.2 b N).trans z) U ?_;refine⟨by rw[Jc l.ne];exact m,?_,l.ne,j.obj,_,j.ns,λg=>?_,λg O=>?_⟩
 ·have:=JbP f y fs;lia
 ·show RelO ((putF f y fs).lookup g) (if g=f then So u else mA g);rw[JdP];by_cases q:g=f
  ·rw[if_pos q,if_pos q];exact J
  ·rw[if_neg q,if_neg q];exact r g
 ·by_cases q:g=f
  ·rw[q];exact(Jeu f y fs).1
  ·refine(Jeu f y fs).2 g (F g λz=>O ?_);show(if g=f then So u else mA g)=No;rw[if_neg q];exact z
def Inv.made(I:AI):Inv X Y Z (upd (upd H Aa (.own Es)) Es (.ins C Aa []))
  {s with heap:='Ř'.push MI}:=by
 have j:'Ř'.get? Aa=So a8:=Zf WL rfl;have m:('Ř'.push MI).get? Es=So MI:=by have:=Zf 'Ř' (o:=PySem.W.instObj C Aa) rfl;rwa[ZP]at this
 have F:'Ř'.Ns Aa (λ_=>No):=⟨a8,#[],_,j,rfl,(λe B=>absurd B Af),λ_=>rfl⟩;have z:=I.laid (a:=Aa) (o:=.own Es) (h':=s.heap.push a8) (t':=Yp) Pi (Zh _) ⟨_,j⟩;refine z.laid (a:=Aa+1) (o:=.ins C Aa []) (t':=Yp) Pi (Nat.le_of_eq (ZP _ _)) ?_;have ne:Aa≠Aa+1:=Zt aQ;refine⟨by rw[Jc ne,Je],yC _,ne,m,λ_=>No,(Heap.Ns1.of_empty F).at λo q=>Zd _ q,λ_=>jA,λy l=>absurd rfl l⟩
def Jsq{O:Env}{f:Str}{Q:Az}(l:attributeBase e f O (eval e O)=eval e O)
  (h:wpAny As A (eval e O) (λo j=>wpAny As A (getAttr o f To) Q E j) E s):wpAny As A (eval TY O) Q E s:=
 Attribute_any_ h (by rw[arm_eval_Attribute,l])
end
def tFld(K:Ak)(ta:TE)(f:Str):TE:=λZ H Q=>ta Z H λx j=>∃a C dx fs v,x=.ref a/\j a=So DU/\Cls K C/\NoAttr K C f/\fs.lookup f=So v/\Q v j
def sFld(K:Ak)(ta m:TE)(f:Str):TS:=λD Z H=>m Z H λy l=>ta Z l λx j=>∃a C dx fs,x=.ref a/\j a=So DU/\Cls K C/\NoAttr K C f/\fs.length<1000/\
 D.nx Z (upd j a Rg)
def InOp(X:Cx)(op:dQ)(j:V->V->Hp->VK->Prop):Prop:=
 ∀(Y:AU)(s:Ao)(Z:St)(H:Hp)(x y:V)(u v:Am)(Q:VK),Inv X Y Z H s->RelV x u->RelV y v->j x y H Q->wpAny Av X.A (inplaceOp op u v) BX X.xe s
section
variable{o value:Expr}{f:Str}{pos' tpos:Pos}{tv:TE}
def Jjv(he:PE X e ta)(z:attributeBase e f Se M3=eval e Se):PE X TY (tFld X.K ta f):=by intro Y s Z H Q I h;refine Jsq z (thn F3 λu L j=>?_);obtain⟨x,B,y,m,a,C,dx,fs,v,ex,G,c,n,l,q⟩:=j;subst ex;obtain rfl:u=Value.ref a:=m;exact JjR y G c n l λN O J F=>⟨v,B,J,F,q⟩
def iT(L:Qc0)(j:IL)(hs:swapsWith value (So (.Attribute o f pos')) Yy Se=pure Fo):PS X (.Assign [.Attribute o f pos'] value pos) (sFld X.K ta tv f):=by intro Y s Z H D I h;refine plainObj_wpAny_Assign_Attribute (thn (j Y s Z H _ I h) λu G⟨y,O,z,B,q⟩=>thn (L Y G Z O _ z q) λm s2⟨x,H2,I2,F,a,C,dx,fs,ex,U,c,n,l,N⟩=>?_) hs;subst ex;obtain rfl:m=Value.ref a:=F;exact Jkb I2 U c n l B λs3 J=>⟨Z,_,J,N⟩
end
structure Room(k:Nat)(A:Bg):Prop where
 hd:A.handled=No
 dp:A.depth+3*k+5<recursionLimit
 un:A.units+16*k+200<cLine
theorem Room.mono{j:Nat}(r:Room k A)(h:j<=k):Room j A:=⟨r.hd,by have:=r.dp;lia,by have:=r.un;lia⟩
theorem Room.deeper(r:Qc1)(O:Env):Room k (A.deeper O):=
 ⟨r.hd,by have:=r.dp;show A.depth+1+3*k+5<_;lia,by have:=r.un;show A.units+3+16*k+200<_;lia⟩
theorem Room.in1(r:Qc1):Room k YI:=
 ⟨r.hd,by have:=r.dp;show A.depth+3*k+5<_;lia,by have:=r.un;show A.units+1+16*k+200<_;lia⟩
def Jkd:(A.under (.builtin "type.__call__" ⟨.ref C::us,kw⟩)).depth=A.depth+1:=by first|rfl|simp[Around.under,Code.weight,Code.isCreation,Code.isGuard,Code.isCaller,Code.frames,Code.isFrame,guardIds]
def JkB:(A.under (.builtin "type.__call__" ⟨.ref C::us,kw⟩)).units=A.units+1:=by first|rfl|simp[Around.under,Code.cUnits,Code.frames,Code.isFrame]
theorem Room.make(r:Qc1)(C:Addr)(us:AF)(kw:Gy):Room k (A.under (.builtin "type.__call__" ⟨.ref C::us,kw⟩)):=
 ⟨r.hd,by have:=r.dp;rw[Jkd];lia,by have:=r.un;rw[JkB];lia⟩
theorem Room.depth(r:Room k A):A.depth<recursionLimit:=by have:=r.dp;lia
theorem Room.units(r:Room k A):A.units+64<cLine:=by have:=r.un;lia
def tNil:TA:=λ_ H Q=>Q [] H
def Juh(ta:TE)(tr:TA):TA:=λZ H Q=>ta Z H λx j=>tr Z j λm l=>Q (x::m) l
def rA:PA X [] tNil:=λ_ _ _ _ H Q I h=>Calls.spliced_nil ⟨[],H,I,.nil,h⟩
def JE(ha:F4)(B:bV)(O:Cj):PA X FC (Juh te t):=by intro pos Y s Z H Q I h;rw[O];show wpAny _ _ (spliced (Yc::backTo pos '~')) _ _ s;refine Calls.spliced_cons (thn Dd λu z j=>?_);obtain⟨x,L,q,y,J⟩:=j;exact thn (B pos Y z Z L _ q J) λus U⟨m,l,N,F,G⟩=>⟨x::m,l,N,.cons y F,G⟩
def tTup(t:TA):TE:=λZ H Q=>t Z H λxs j=>Ah<=sizeLine/\∀p,j p=No->Q EU (upd j p Bm)
def tLst(t:TA):TE:=λZ H Q=>t Z H λxs j=>Ah<=sizeLine/\∀p,j p=No->Q EU (upd j p AH)
def JwE{x1}(h:bV):PE X (.Tuple es x1 pos) (tTup t):=by intro Y s Z H Q I y;refine wpAny_Tuple_spliced (thn Qc λus s1⟨xs,l,j,r,z,q⟩=>⟨by rw[<-r.length];exact z,?_⟩);have m:l AC=No:=j.hok.fresh (Zh _);refine⟨.ref AC,upd l AC Bm,j.laid (t':=YY) TJ (Zh _) ?_,rfl,q _ m⟩;exact⟨⟨z,hU⟩,us,r,⟨_,Zf _ rfl,rfl,_,rfl⟩⟩
def JqV(h:bV):PE X Qb6 (tLst t):=by intro Y s Z H Q I y;refine wpAny_List_spliced (thn Qc λus s1⟨xs,l,j,r,z,q⟩=>⟨by rw[<-r.length];exact z,?_⟩);have m:l AC=No:=j.hok.fresh (Zh _);refine⟨.ref AC,upd l AC AH,j.laid (t':=YY) TJ (Zh _) ?_,rfl,q _ m⟩;exact⟨z,us,0,r,Zf _ rfl⟩
noncomputable abbrev Sp:=List V->Hp->VK->XK->Prop
noncomputable abbrev CXT:=List Env->Hp->Shared->XK->Value->Shared->Prop
structure Env0(P:Bk)(w:Bc)(K:Ak)(mg:Bf)(base:Heap)(A:Bg)(outer:Bb)(s:Ao)(H:Hp):Prop where
 frames:A.frames=So outer
 mod:Mod K mg base
 bs:∀b o,base.get? b=So o->s.heap.get? b=So o/\H b=No
 bsz:base.objs.size<=Aa
 funs:s.heap.FunFrames base outer
 frf:∀b∈frs outer,H b=No
 hok:HOk P w H WL
 bare:AllBare bS
variable{CX:CXT}
def CE(j:Bb)(P:Bk)(w:Bc)(H:Hp)(s:Ao)(Q:VK)(u:Am)(l:Ao):Prop:=
 ∃v W,l.os=s.os/\AllBare l.gens/\Un (frs j) [] H W WL aA/\HOk P w W aA/\RelV v u/\Q v W
def CR(CX:CXT)(j:Bb)(P:Bk)(w:Bc)(H:Hp)(s:Ao)(Q:VK)(E:XK)(r:Result)(l:Ao):Prop:=
 match r with
 |.ok (.ret u)=>CE j P w H s Q u l
 |.ok _=>False
 |.error e=>CX j H s E e l
structure FnOk(P:Bk)(w:Bc)(K:Ak)(mg:Bf)(base:Heap)(CX:CXT)(k:Nat)(f:Addr)(fd:A6)(ps:Ag)(sp:Sp):Prop where
 len:∀vs H Q E,sp vs H Q E->AQ=Ar
 run:∀(A:Bg)(outer:Bb)(s:Ao)(H:Hp)(args:Args)(us:AF)(vs:Aw)(Q:VK)(E:XK),Room k A->Env0 P w K mg base A outer s H->BindsTo s fd args (ps.zip us)->Vals vs us->sp vs H Q E->
  codeAny Cm A Qbz (CR CX outer P w H s Q E) s
def FnOk.imp{sp l:Sp}(F:FnOk P w K mg base CX k f fd ps sp)
  (h:∀vs H Q E,l vs H Q E->sp vs H Q E):FnOk P w K mg base CX k f fd ps l:=
 ⟨λvs H Q E q=>F.len vs H Q E (h _ _ _ _ q),λA j s H m us vs Q E z G B y I=>F.run A j s H m us vs Q E z G B y (h _ _ _ _ I)⟩
def Env0.make{outer:Bb}(e:Gx)(C:Addr)(us:AF)(kw:Gy):
  Env0 P w K mg base (A.under (.builtin "type.__call__" ⟨.ref C::us,kw⟩)) outer s H:=⟨by first|exact e.frames|(simpa[Around.under,Code.envs,Code.isFrame,pushEnvs]using e.frames),e.mod,e.bs,e.bsz,e.funs,e.frf,e.hok,e.bare⟩
section
variable{s':Ao}
def Inv.env0(I:AI):Env0 Yu X.w X.K X.mg YD X.A Yt s H:=
 ⟨fP,bA,I.bs,Zy dX I.sz,I.stack,I.stkFree,YC,YB⟩
def Inv.after{Q:VK}(I:AI)(h:CE Yt Yu X.w H s Q u s'):EP X Y Z Q u s':=by obtain⟨v,W,y,j,un,l,r,q⟩:=h;obtain⟨B,g,d,t,m⟩:=s';obtain rfl:m=s.os:=y;exact⟨v,W,I.call (h':=B) (g':=g) (d':=d) (t':=t) (ch:=[]) un l j QS,r,q⟩
end
def tCall(sp:Sp)(j:Aw)(E:XK)(t:TA):TE:=λZ H Q=>t Z H λvs l=>sp (vs++j) l Q E
def vS(C:Addr)(m:Str)(sp:Sp)(j:Aw)(E:XK)(ta:TE)(t:TA):TE:=λZ H Q=>ta Z H λx l=>∃a dx fs,x=.ref a/\l a=So DU/\fs.lookup m=No/\
 t Z l λvs q=>sp (x::(vs++j)) q Q E
def tMake(C:Addr)(sp:Sp)(l:Aw)(E:XK)(t:TA):TE:=λZ H Q=>t Z H λvs j=>∀x dx,j x=No->j dx=No->dx≠x->
 sp (.ref x::(vs++l)) (upd (upd j dx Hd) x Qb7) (λv m=>v=.non/\Q Ck m) E
def Binds(K:Ak)(fd:A6)(ps:Ag)(J:AF):Prop:=
 ∀(s:Ao)(us:AF),K.In s.heap->(us++J).length=Ar->BindsTo s fd G1 (ps.zip (us++J))
def Binds.all(h:∀us:List Value,us.length=Ar->bindArgs fd G1=pure HM):Binds K fd ps []:=λs us _ j=>by
 rw[zD]at j⊢
 exact .of_eq (h us j)
def zV(CX:CXT)(X:Cx)(E:XK):Prop:=∀(Y:AU)(Z:St)(H:Hp)(s:Ao)(e:Am)(j:Ao),Inv X Y Z H s->CX Yt H s E e j->X.xe e j
section
variable{sp:Sp}{dvs:Aw}{J:AF}{E:XK}{m:Str}{apos:Pos}{o:Expr}
def zY{Q:VK}(F:Iw)(y:GL)(q:Im)(B:HA)(L:Hy)
  (I:AI) (r:GK) (h:sp (vs++dvs) H Q E):wpAny Av X.A (call A5 us) BX X.xe s:=by
 have l:Vals (vs++dvs) (us++J):=r.append B;have G:(us++J).length=Ar:=by rw[<-l.length];exact F.len _ _ _ _ h
 refine jH (zC (F.run X.A Yt s H G1 (us++J) (vs++dvs) Q E y I.env0 (q s us Y8 G) l h) λr N j=>?_);cases r with
 |error e=>exact L Y Z H s e N I j
 |ok z=>
  cases z with
  |ret u=>exact I.after j
  |next=>exact False.elim j
  |brk=>exact False.elim j
  |cont=>exact False.elim j
def qU(F:Iw)(B:GL)(O:Z1)(y:X.mg x=So A5)(z:PySem.W.keepIn X.K A5=To)(L:Im)(U:HA)(G:Hy)
  (N:KM) (j:DS) (he:Cj) (hpl:Dg):
  PE X UL (tCall sp dvs E t):=by intro Y s Z H Q I h;refine lH (uI I O y ?_ j);refine PySem.W.callWith_K (h₀:=YD) aS z (thn (N pos Y s Z H _ I h) λus s1⟨vs,H1,l,r,q⟩=>⟨l.kIn,?_⟩) he hpl;exact zY F B L U G l r q
def Jmn{pl:C1}(he:Qc0)(c:Ey)(y:Meth X.K C m f)(F:Iw)(L:GL)(N:Im)(U:HA)(hx:Hy)(ha:KM)
  (j:Cj) (hpl:Dg)
  (ht:'г' (eval QR Se=(do
   let ov<-eval o Se
   standAt YR
   let(f,first)<-holding [ov] Ec
   callWith pos f first 'μ' Eb)) Ai):
  PE X QR (vS C m sp dvs E ta t):=by intro Y s Z H Q I h;refine PySem.W.methodCall_KW (pl:=pl) (thn F3 λu s1⟨x,H1,z,G,a,dx,fs,ex,O,l,q⟩=>?_) ht;subst ex;obtain rfl:u=Value.ref a:=G;refine JeG z O c y l ?_;refine PySem.W.callWith_K (first:=Cv) (h₀:=YD) aS y.kp (thn (ha pos Y s1 Z H1 _ z q) λus s2⟨vs,H2,B,r,q2⟩=>⟨B.kIn,?_⟩) j hpl;exact zY (us:=.ref a::us) (vs:=.ref a::vs) F L N U hx B (.cons rfl r) q2
def JoW {pl:C1} (he:Qc0) (c:Ey) (y:Meth X.K C m f) (F:Iw) (B:GL) (L:Im) (U:HA) (G:Hy)
  (N:'г' (eval QB Se = (do
   let ov <- eval o Se
   standAt YR
   let (f,first) <- holding [ov] Ec
   callWith pos f first 'Ɇ' Eb)) Ai) :
  PE X QB (vS C m sp dvs E ta tNil):=by intro Y s Z H Q I h;refine PySem.W.methodCall_KW (pl:=pl) (thn F3 λu s1 ⟨x,H1,j,z,a,dx,fs,ex,O,l,q⟩=>?_) N;subst ex;obtain rfl:u = Value.ref a:=z;refine JeG j O c y l ?_;exact PySem.W.callWith_K0 (first:=Cv) j.kIn y.kp (zY (us:=Cv) (vs:=Cv) F B L U G j Nm q)
structure Mk(K:Ak)(C f:Addr):Prop where
 makes:PySem.W.makesIn K C=To
 init:PySem.W.findIn K AV "__init__"=So EZ
 fn:PySem.W.isFn K A5=To
 kp:PySem.W.keepIn K AV=To
def Jph{Q:VK}(M:Mk X.K C f)(F:Iw)(N:Room A1 X.A)(hb:Im)(hd:HA)
  (U:Hy) (I:AI) (r:GK)
  (h:∀x dx,H x=No->H dx=No->dx≠x->sp (.ref x::(vs++dvs)) (upd (upd H dx Hd) x Qb7) (λv B=>v=.non/\Q Ck B) E):
  wpAny Av X.A (call AV us) BX X.xe s:=by
 have y:=h Es Aa (I.hok.fresh bM) Hq (Zt aQ);have l:=Inv.made (C:=C) I;have q:Vals (V.ref Es::(vs++dvs)) (Value.ref Es::(us++J)):=.cons rfl (r.append hd);have hl:(Value.ref Es::us++J).length=Ar:=by have e:=dY;rw[F.len _ _ _ _ y]at e;exact e.symm
 refine jH (JnK (f:=f) Y8 M.makes M.init (ZA.mp M.fn) (zC (F.run _ Yt _ _ ⟨Value.ref Es::us,[]⟩ (Value.ref Es::(us++J)) _ _ E (N.make C us [])
  (l.env0.make C us []) (hb _ (Value.ref Es::us) l.kIn hl) q y) λr O j=>?_))
 cases r with
 |error e=>exact U Y Z _ _ e O l j
 |ok G=>
  cases G with
  |ret u=>obtain⟨v,W,L,rv,ev,z⟩:=l.after j;subst ev;exact⟨rv,⟨V.ref Es,W,L,rfl,z⟩⟩
  |next=>exact False.elim j
  |brk=>exact False.elim j
  |cont=>exact False.elim j
def JjO(M:Mk X.K C f)(F:Iw)(y:Room A1 X.A)(q:Z1)(z:X.mg x=So AV)(l:Im)(B:HA)(G:Hy)
  (j:DS):PE X (.Call (.Name x p) [] [] pos) (tMake C sp dvs E tNil):=by intro Y s Z H Q I h;refine lH (uI I q z ?_ j);exact PySem.W.callWith_K0 Y8 M.kp (Jph (us:=[]) M F y l B G I .nil h)
end
structure FnScope(N P:Ag)(sc:AO):Prop where
 kind:sc.kind=.function
 co:sc.isCoroutine=Fo
 gen:sc.isGenerator=Fo
 nd:N.Nodup
 pre:N.take P.length=P
 par:∀x∈P,sc.names.lookup x=So .local\/sc.names.lookup x=So .cell
 nofree:∀y∈sc.names,y.2≠.free
def Jgo{j:Str->Option NameKind}:∀{binds:Gy}{m:Bf},(∀v,(x,v)∉binds)->bindL j binds m x=m x
 |[],_,_=>rfl
 |(n,v)::r,m,h=>by
  unfold bindL
  rw[Jgo λw l=>h w (Zx _ l)]
  split
  ·have:x≠n:=by rintro rfl;exact h v vM
   simp[this]
  ·rfl
def JgO{j:Str->Option NameKind}:∀{binds:Gy}{m:Bf},(∀v,(x,v)∉binds)->bindC j binds m x=m x
 |[],_,_=>rfl
 |(n,v)::r,m,h=>by
  unfold bindC
  rw[JgO λw l=>h w (Zx _ l)]
  split
  ·rfl
  ·have:x≠n:=by rintro rfl;exact h v vM
   simp[this]
def JgT{j:Str->Option NameKind}{x:Str}{v:Am}:∀{P:Ag}{vs:AF}{i:Nat}{m:Bf},P.Nodup->P[i]? =So x->vs[i]? =So v->j x=So .local->
  bindL j (P.zip vs) m x=So v
 |[],_,_,_,_,h,_,_=>by simp at h
 |_::_,[],_,_,_,_,h,_=>by simp at h
 |p::P,w::vs,0,m,nd,h1,h2,hk=>by
  simp at h1 h2;subst h1;subst h2
  show bindL j ((p,w)::P.zip vs) m p=_
  unfold bindL
  rw[Jgo λv l=>(vA.mp nd).1 (gM l).1,if_pos hk]
  simp
 |p::P,w::vs,i+1,m,nd,h1,h2,hk=>by
  show bindL j ((p,w)::P.zip vs) m x=_
  unfold bindL
  exact JgT (i:=i) (vA.mp nd).2 (by simpa using h1) (by simpa using h2) hk
def JgC{j:Str->Option NameKind}{x:Str}{v:Am}:∀{P:Ag}{vs:AF}{i:Nat}{m:Bf},P.Nodup->P[i]? =So x->vs[i]? =So v->j x≠So .local->
  bindC j (P.zip vs) m x=So v
 |[],_,_,_,_,h,_,_=>by simp at h
 |_::_,[],_,_,_,_,h,_=>by simp at h
 |p::P,w::vs,0,m,nd,h1,h2,hk=>by
  simp at h1 h2;subst h1;subst h2
  show bindC j ((p,w)::P.zip vs) m p=_
  unfold bindC
  rw[JgO λv l=>(vA.mp nd).1 (gM l).1,if_neg hk]
  simp
 |p::P,w::vs,i+1,m,nd,h1,h2,hk=>by
  show bindC j ((p,w)::P.zip vs) m x=_
  unfold bindC
  exact JgC (i:=i) (vA.mp nd).2 (by simpa using h1) (by simpa using h2) hk
noncomputable def jC (N:Ag) (vs:Aw):St:=vs.map So++List.replicate (N.length-AQ) No
noncomputable def cxOf (CX:CXT) (P:Bk) (w:Bc) (K:Ak) (mg:Bf) (base:Heap) (N:Ag) (qual:Str) (scope:AO) (f:Addr) (cd:Am) (A:Bg) (outer:Bb) (s:Ao) (H:Hp) (E:XK):Cx where
 prog:=P
 w:=w
 K:=K
 mg:=mg
 base:=base
 A:=A.deeper MM
 N:=N
 s₀:=s
 H₀:=H
 env:=envOfC qual scope Aa f cd
 outer:=outer
 stack:=envOfC qual scope Aa f cd::outer
 ex:=[]
 calm:=To
 fn:=λ_=>To
 pn:=[]
 xe:=λe l=>wpAny Cm (A.deeper MM) (leaving MM e) (λ_ j=>CX outer H s E e j) (λm j=>CX outer H s E m j) l
def Jjb{j:AO}{n:Nat}(h:j.names.lookup x=So .cell):∃c,(cellsFrom n j.names []).lookup x=So c:=by have q:=ZbS j.names n [] QcH;exact Option.isSome_iff_exists.mp q
theorem Jed{N:Ag}{j:Str}{scope:AO}{J:Am}{outer:Bb}{s1:Ao}{E:XK}
  (S:Sv) (hd:BE) (m:Gx) (hl:AQ=Ar) (r:GK)
  (x:InCallC s Aa (bindL '丬'.kindOf HM λ_=>No) 'Ύ' (bindC '丬'.kindOf HM λ_=>No) s1):
  Inv (cxOf CX P w K mg base N j scope f J A outer s H E) [] XT H s1:=by
 have hpl:Ar<=N.length:=by have:=iA YS S.pre;rw[jM]at this;lia
 obtain⟨L,tk,rfl,hk⟩:=x.done;have B:∀b:Addr,b∉(cxOf CX P w K mg base N j scope f J A outer s H E).ex:=λb z=>absurd (show b∈([]:List Addr)from z) Af;refine⟨⟨m.mod,S.kind,rfl,rfl,Zh _,λy z c L l=>?_,λy F=>?_,λy c _ h=>?_,λ_=>hd,lX m.frames,.inr CU,λb z=>absurd z (B b),m.bs,m.bsz,λb _ _=>B b,λb z=>absurd z (B b),m.funs,m.frf⟩,
  rfl,m.bare,Un.kept hk,⟨_,x.toInCall.ns,λi y v L l h3=>?_⟩,λy c h=>⟨_,x.cell y c h⟩,m.hok.fresh (Zh _),λy c h=>?_,λp I=>absurd (show p∈([]:List (Addr×Obj))from I) Af,m.hok.kept hk,?_⟩
 ·exact name_of_addr x.apart (xD L) (xD l)
 ·have F:scope.names.lookup y=So .cell\/scope.names.lookup y=So .free:=F;rcases F with F|F
  ·exact Jjb F
  ·exact absurd rfl (S.nofree _ (xD F))
 ·exact Nat.le_of_lt Qb
 ·have O:i<AQ:=by
   unfold jC at l;by_cases O:i<AQ
   ·exact O
   ·rw[yF (by simpa using O)]at l;rw[qM]at l;split at l<;>cases l
  have ha:vs[i]? =So v:=by
   unfold jC at l;rw[xF (by simpa using O),jD]at l;cases e:vs[i]? with
   |none=>rw[e]at l;cases l
   |some a=>rw[e]at l;cases l;rfl
  obtain⟨u,U,rv⟩:=r.get ha;have I:ps[i]? =So y:=by
   rw[<-S.pre,List.getElem?_take_of_lt 'c'];exact L
  have G:ps.Nodup:=by rw[<-S.pre];exact S.nd.sublist QQ
  refine⟨u,rv,?_⟩;rcases S.par y (mJ I)with k|k
  ·exact .inl ⟨k,JgT G I U k⟩
  ·obtain⟨c,e⟩:=Jjb (n:=Aa+1) k
   refine .inr ⟨.inl k,c,e,?_⟩;have q:=x.cell y c e;rw[JgC G I U (by show scope.names.lookup y≠_;rw[k];decide)]at q;exact q
 ·exact m.hok.fresh (Nat.le_of_lt Qb)
 ·unfold jC;show _=Yv;rw[Zi,Zj,nJ];lia
def sN{name qual:Str}{j:Ex}{l:BI}{scope:AO}{dV kV doc pm cdv ct oc:Am}{an od:D6}
  {osl:Ff} {N ps:Ag} {sp:Sp} (lk:K.lookup f=So ⟨oc,od,.func Xy,osl⟩) (hcd:PySem.W.codeIn K cdv qual=To) (S:Sv)
  (len:∀vs H Q E,sp vs H Q E->AQ=Ar)
  (B:∀(A:Bg)(outer:Bb)(s:Ao)(H:Hp)(vs:Aw)(Q:VK)(E:XK),Room k (A.deeper (envOfC qual scope Aa f cdv))->sp vs H Q E->
   ∃t,PSs Tc l t/\t {nx:=λ_ W=>Q .non W,rt:=Q} 'ɟ' H):
  FnOk P w K mg base CX A1 f Xy ps sp:=by
 refine⟨len,λA outer s H args us vs Q E hr J hb r U=>?_⟩;have hl:=len _ _ _ _ U;have KX:K.In WL:=J.mod.kin.keeps λb o e=>(J.bs b o e).1;have lim:s.heap.NoLimit:=J.mod.nolimit.keeps λb o e=>(J.bs b o e).1;have F:∀y∈ps.zip us,scope.names.lookup y.1=So .local\/(scope.names.lookup y.1=So .cell/\('Ύ'.lookup y.1).isSome=To):=λ⟨n,v⟩hy=>by
  rcases S.par n (gM hy).1 with q|q
  ·exact .inl q
  ·exact .inr Up
 refine oX hr.depth cZ rfl S.co S.gen rfl UC (hb _ _ _ _ ?_);refine jX S.kind F λO he s1 x=>?_;subst he;refine UZ;obtain⟨t,ht,hq⟩:=B A outer s H vs Q E (hr.deeper _) U;have I:Inv Tc [] XT H s1:=Jed S hr.hd J hl r x;refine ZT (ht [] s1 XT H _ I hq) (λfl s' G=>?_) λe s' G=>G;have L:∀{m:St}{W:Hp}{v:V}{u:Am},Inv Tc [] m W s'->RelV v u->Q v W->CE outer P w H s Q u s':=
  fun{m W v u}z rv q=>⟨v,W,z.os,z.bare,z.base,z.hok,rv,q⟩
 cases fl with
 |ret u=>obtain⟨v,m,W,z,rv,q⟩:=G;exact L z rv q
 |next=>obtain⟨m,W,z,q⟩:=G;exact L (v:=V.non) (u:=Ys) z rfl q
 |brk=>obtain⟨_,_,_,q⟩:=G;exact False.elim q
 |cont=>obtain⟨_,_,_,q⟩:=G;exact False.elim q
section
variable{id T:A9}{r:List V->Hp->VK->Prop}
def tCB(r:List V->Hp->VK->Prop)(t:TA):TE:=λZ H Q=>t Z H λvs j=>r vs j Q
def yO(z:pA X Du r)(F:Z1)(m:X.mg x=No)(l:bootBuiltins x=So Du)(B:KM)(j:'г' (x≠"__name__") EF)(hdb:DS)
  (he:Cj) (hpl:Dg):PE X UL (tCB r t):=by intro Y s Z H Q I h;refine lH (yN I F m l ?_ j hdb);exact PyProof.Rows.callWith_builtin1 (thn Qa λus y⟨vs,J,q,L,G⟩=>z Y y Z J vs us Q q L G) he hpl
def JgN(z:pA X EY r)(F:Z1)(m:X.mg x=No)(l:bootBuiltins x=So EY)(B:KM)(j:'г' (x≠"__name__") EF)(hdb:DS)
  (he:Cj) (hpl:Dg):PE X UL (tCB r t):=by intro Y s Z H Q I h;refine lH (yN I F m l ?_ j hdb);exact kX (thn Qa λus y⟨vs,J,q,L,G⟩=>z Y y Z J vs us Q q L G) he hpl
end
end L2
namespace HT
open PySem PyProof.Rows
section
variable{prog:Bk}{w:Bc}{A:Bg}{E:Az}{s:Ao}
def Jtg{t b:Addr}{vs ws:AF}{Q:Az}(C:IsTup WL t CP)(B:QG)(q:vs≠[])
  (h1:ws=[]->Q HG s) (z:ws≠[]->Q FF {s with heap:=s.heap.push {cls:=.type "tuple",data:=.seq (vs++ws).toArray}})
  (hsz:AQ+Cw<=sizeLine):wpAny As A Rf Q E s:=by
 obtain⟨⟨cls,v,data,sl⟩,l,u,n,y⟩:=id C;obtain⟨⟨r,f,o,i⟩,a,j,x,h⟩:=id B;simp only at u y j h;subst u y j h;have e:CP++ws.toArray=(vs++ws).toArray:=by simp
 by_cases m:ws=[]
 ·exact concat_meets ⟨_,l,rfl⟩ ⟨_,a,rfl⟩ noFill_tuple_add seq_tuple_add sX KW QcI
   (tuple_addW1 t b CP Qbo n x v f sl i (by simpa using q) (by simp[m])) ⟨l,a,h1 m⟩
 ·refine concat_meets ⟨_,l,rfl⟩ ⟨_,a,rfl⟩ noFill_tuple_add seq_tuple_add sX KW QcI
   (tuple_addW2 t b CP Qbo n x v f sl i (by simpa using q) (by simpa using m) (by rw[Zn,Zn];exact hsz)) ⟨l,a,?_⟩
  rw[e];exact z m
noncomputable def sIx (n d:Nat):Option Int->Nat
 |none=>d
 |some v=>if v<0 then(v+(n:Int)).toNat else min Qcs n
theorem Jus(n d:Nat)(b:d<=n)(o:A2):sIx n d o<=n:=by
 cases o with
 |none=>exact b
 |some v=>
  show(if v<0 then(v+(n:Int)).toNat else min Qcs n)<=n;by_cases a:v<0
  ·rw[if_pos a];lia
  ·rw[if_neg a];exact Nat.min_le_right _ _
theorem JlA(v:Int)(n d:Nat):(if v<0 then max (v+(n:Int)) 0 else min v (n:Int))=((sIx n d Bi:Nat):Int):=by
 show(if v<0 then max (v+(n:Int)) 0 else min v (n:Int))=(((if v<0 then(v+(n:Int)).toNat else min Qcs n):Nat):Int);by_cases a:v<0
 ·simp only[if_pos a];lia
 ·simp only[if_neg a];lia
theorem Jkg(lo hi:A2)(n:Nat):Builtin.Slice.sliceAdjust lo hi 1 (n:Int)=(((sIx n 0 lo:Nat):Int),((sIx n n hi:Nat):Int)):=by
 have a:¬((1:Int)<0):=by lia
 unfold Builtin.Slice.sliceAdjust;simp only[a,ZN];refine Prod.ext ?_ ?_
 ·cases lo with
  |none=>rfl
  |some v=>exact JlA v n 0
 ·cases hi with
  |none=>rfl
  |some v=>exact JlA v n n
theorem Jki(i j:Nat):Builtin.Slice.slicePlaces (i:Int) (j:Int) 1=j-i:=by
 unfold Builtin.Slice.slicePlaces;have a:(1:Int)>0:=by lia
 simp only[a,if_true,Int.ediv_one];split<;>lia
def JeH{v:Am}{o:A2}{Q:Option Int->Shared->Prop}(p:IsPart v o)(h:Q o s):wpAny As A (Builtin.Slice.slicePartIndex v) Q E s:=by
 cases p with
 |none=>exact slicePart_none h
 |int i t=>exact slicePart_int h
def Jbl{sl:Addr}{i f:Am}{lo hi:A2}{n:Nat}{Q:Int×Int×Nat->Shared->Prop}(l:s.heap.IsSliceOf sl i f .none)(pl:IsPart i lo)(m:IsPart f hi)
  (h:Q (((sIx n 0 lo:Nat):Int),1,sIx n n hi-sIx n 0 lo) s):wpAny As A (Builtin.Slice.sliceApplied K1 (pure (n:Int))) Q E s:=by obtain⟨o,a,j,b⟩:=id l;unfold Builtin.Slice.sliceApplied Builtin.Slice.sliceFields;refine Za (Za (ZV a b (x:=i) rfl (Za (ZV a b (x:=f) rfl (Za (ZV a b (x:=.none) rfl (Zb ?_)))))));refine Za (slicePart_none ?_);show wpAny _ _ (if((1:Int)==0)=To then _ else _) _ _ s;rw[if_neg 'p'];refine Za (JeH pl (Za (JeH m (Za (Zb ?_)))));show wpAny _ _ (match Builtin.Slice.sliceAdjust lo hi 1 (n:Int)with|(lo,hi)=>pure (lo,(1:Int),Builtin.Slice.slicePlaces lo hi 1)) _ _ s;rw[Jkg lo hi n];show wpAny _ _ (pure (((sIx n 0 lo:Nat):Int),(1:Int),Builtin.Slice.slicePlaces ((sIx n 0 lo:Nat):Int) ((sIx n n hi:Nat):Int) 1)) _ _ s;rw[Jki];exact Zb h
theorem Jpy(xs:Cf)(i k:Nat):((List.range k).filterMap fun(m:Nat)=>xs[((i:Int)+(m:Int)*1).toNat]?).toArray=((xs.toList.drop i).take k).toArray:=by
 have e:(fun(m:Nat)=>xs[((i:Int)+(m:Int)*1).toNat]?)=λm=>xs[i+m]?:=by
  funext m;have:((i:Int)+(m:Int)*1).toNat=i+m:=by lia
  rw[this]
 rw[e];have:=pick_run xs i k;rw[List.filterMap_map]at this;have a:((λx=>xs[x]?)∘λx=>i+x)=λm=>xs[i+m]?:=rfl;rw[a]at this;rw[this]
theorem JcT{t sl:Addr}{items:Cf}{o r:Am}{lo hi:A2}{Q:Az}(b:Os)(u:s.heap.IsSliceOf sl o r .none)(pl:IsPart o lo)(v:IsPart r hi)
  (z:¬(sIx Ay 0 lo=0/\sIx Ay Ay hi=Ay))
  (h:Q FF {s with heap:=s.heap.push {cls:=.type "tuple",data:=.seq ('ȧ'.take GB).toArray}})
  (hsz:Ay<=sizeLine):wpAny As A Ph Q E s:=by
 have a:sizeOk (.seq ('ȧ'.take GB).toArray):=by show('ȧ'.take GB).toArray.size<=sizeLine;rw[Zn,jM,tJ,ZU];lia
 have B:sIx Ay Ay hi<=Ay:=Jus _ _ (Zh _) hi;obtain⟨x,j,i,y⟩:=id u;have l:s.TypeIs K1 "slice":=⟨x,j,i⟩;unfold getItem;try with_reducible refine jB ?_
 first|refine Za (Zb ?_)|skip
 refine Za (wpAny_sequenceKey aJ Ax ?_);refine Za (ZM (name:=oS "__getitem__") aJ wR
  (ZH wR aJ entry_tuple_getitem ?_ Q3))
 show wpAny _ _ (Builtin.Tuple.tupleItemsOf (.ref t)>>=_) _ _ s;refine Za (tupleItemsOf_ b ?_);refine Za (mH l ?_);rw[if_pos 'p'];refine Za (Jbl u pl v ?_);have f:¬((((sIx Ay 0 lo:Nat):Int)==0&&(1:Int)==1&& GB==Ay)=To):=by intro q;rw[Zc,Zc]at q;have C:((sIx Ay 0 lo:Nat):Int)=0:=eq_of_beq q.1.1;have F:sIx Ay Ay hi-sIx Ay 0 lo=Ay:=eq_of_beq q.2;exact z ⟨by lia,by lia⟩
 show wpAny _ _ (if(((sIx Ay 0 lo:Nat):Int)==0&&(1:Int)==1&& GB==Ay)=To then _ else _) _ _ s;rw[if_neg f,Jpy];first
  |exact Za (m:=Builtin.Tuple.tupleExact _) (ZF (Zb ⟨_,rfl,Zb h⟩) a)
  |exact Za (m:=Builtin.Tuple.tupleExact _) (ZF (Za (Zb (Zb ⟨_,rfl,Zb h⟩))) a)
  |exact Za (Za (m:=Builtin.Tuple.tupleExact _) (ZF (Zb (Zb ⟨_,rfl,Zb h⟩)) a))
  |exact Za (Za (m:=Builtin.Tuple.tupleExact _) (ZF (Zb ⟨_,rfl,Zb h⟩) a))
end
end HT
namespace L2
open PySem PySem.Spec PyProof.Rows
variable{X:Cx}{xs:Aw}{us:AF}{α:Type}
noncomputable abbrev TO:=St->Hp->(Option Int->Hp->Prop)->Prop
def PO(X:Cx)(e:fK)(t:TO):Prop:=
 ∀(Y:AU)(s:Ao)(Z:St)(H:Hp)(Q:Option Int->Hp->Prop),Inv X Y Z H s->t Z H Q->
  wpAny Av X.A (evalPart e Se) (λu a=>∃o W,Inv X Y Z W a/\IsPart u o/\Q o W) X.xe s
noncomputable def tNoPart:TO:=λ_ H Q=>Q No H
noncomputable def tPart (t:TE):TO:=λZ H Q=>t Z H λx a=>∃i,x=.int i/\Q (So i) a
section
variable{e:Expr}{te:TE}{lo hi:fK}{tl th:TO}{pos p2:Pos}
def Jrg:PO X No tNoPart:=by intro Y s Z H Q I h;rw[evalPart_none];exact Zb ⟨No,H,I,.none,h⟩
def Jsl(h:F4):PO X (So e) (tPart te):=by intro Y s Z H Q I l;rw[evalPart_some];refine thn (h Y s Z H _ I l) λu o a=>?_;obtain⟨x,j,b,m,f⟩:=a;obtain⟨i,rfl,q⟩:=f;obtain⟨t,rfl⟩:=m;exact⟨So i,j,b,.int i t,q⟩
def SlR(X:Cx)(r:S6):Prop:=
 ∀(Y:AU)(s:Ao)(Z:St)(H:Hp)(x:V)(v b a:Am)(lo hi:A2)(sl:Addr)(Q:VK),Inv X Y Z H s->RelV x v->s.heap.IsSliceOf sl b a .none->IsPart b lo->IsPart a hi->r x lo hi H Q->
  ∃T id,typeLookup EY "__getitem__"=pure (So Du)/\s.TypeIs v T/\wpAny Av X.A (getItem v K1) BX X.xe s
def tSl(r:S6)(te:TE)(tl th:TO):TE:=λZ H Q=>te Z H λx a=>tl Z a λl b=>th Z b λu f=>r x l u f Q
def Jox{r:S6}(y:SlR X r)(he:F4)(C:PO X lo tl)(t:PO X hi th):PE X QP (tSl r te tl th):=by intro Y s Z H Q I h;refine Subscript_ (thn F3 λv G f=>?_);obtain⟨x,O,w,W,z⟩:=f;refine wpAny_Slice (thn (C Y G Z O _ w z) λj A⟨l,E,U,pl,M⟩=>thn (t Y A Z E _ U M) λi a f=>?_);obtain⟨u,m,F,J,o⟩:=f;rw[evalPart_none];refine Zb ?_;have L:Inv X Y Z m {a with heap:=a.heap.push {cls:=.type "slice",data:=.fields #[j,i,.none]}}:=F.kept (t':=a.toks) λb ob q=>Zd _ q;obtain⟨T,id,B,P,N⟩:=y Y {a with heap:=a.heap.push {cls:=.type "slice",data:=.fields #[j,i,.none]}} Z m x v j i l u bF Q L W (Heap.IsSliceOf.new ..) pl J o;show wpAny Av X.A (subscriptTail e Xj v (.ref bF)) BX X.xe {a with heap:=a.heap.push {cls:=.type "slice",data:=.fields #[j,i,.none]}};exact tail_any (ops:=[.ref bF,v]) P B N (by with_unfolding_all rfl)
noncomputable def cutV (xs:Aw) (lo hi:A2):List V:=(xs.drop S1).take S9
theorem JdK(xs:Aw)(lo hi:A2):'Ʌ'.length<=Ah:=by unfold cutV;rw[jM,tJ];lia
def rSlT (K:Ak):V->Option Int->Option Int->Hp->VK->Prop:=λx lo hi H Q=>∃a xs,x=.ref a/\SqT K H a xs/\
 ¬(HT.sIx Ah 0 lo=0/\HT.sIx Ah Ah hi=Ah)/\∀p,H p=No->Q EU (upd H p (.tup 'Ʌ'))
def Jux:SlR X (rSlT X.K):=by
 intro Y s Z H x v y z lo hi sl Q I l w pl m h;obtain⟨a,xs,rfl,t,u,q⟩:=h;cases l;obtain⟨its,r,j,i⟩:=I.tuple t;have f:Dr=Ah:=by rw[Zn];exact r.length.symm
 refine⟨"tuple",_,bG,j.typeIs,?_⟩;refine HT.JcT j w pl m (by rw[f];exact u) ?_ (by rw[f];exact i);rw[f];refine⟨.ref Aa,_,I.laid (t':=Yp) (o:=.tup 'Ʌ') ND (Zh _) ?_,rfl,q _ Hq⟩;exact⟨⟨Zy Qb8 i,hU⟩,_,(r.drop S1).take S9,IsTup.new _ _⟩
def rCatT(K:Ak):R2:=λx y H Q=>∃a b xs ys,x=.ref a/\y=.ref b/\SqT K H a xs/\SqT K H b ys/\xs≠[]/\xs.length+BU<=sizeLine/\
 (ys=[]->Q AE H)/\(ys≠[]->∀p,H p=No->Q EU (upd H p (.tup (xs++ys))))
def Vals.nil_iff(r:GM):us=[]↔xs=[]:=by
 cases r with
 |nil=>simp
 |cons _ _=>simp
def JtG:OpR X Nd (rCatT X.K):=by intro Y s Z H x y v u Q I m r h;obtain⟨a,b,xs,A,rfl,rfl,B,C,t,j,F,E⟩:=h;cases m;cases r;obtain⟨J,i,G,_⟩:=I.tuple B;obtain⟨l,f,p2,_⟩:=I.tuple C;refine HT.Jtg G p2 (λz=>t (i.nil_iff.mp z)) (λz=>⟨.ref a,H,I,rfl,F (f.nil_iff.mp z)⟩) (λz=>?_) (by rw[<-i.length,<-f.length];exact j);refine⟨.ref Aa,_,I.laid (t':=Yp) (o:=.tup (xs++A)) ND (Zh _) ?_,rfl,E (λw=>z (f.nil_iff.mpr w)) _ Hq⟩;exact⟨⟨by rw[Zi];exact j,hU⟩,_,i.append f,IsTup.new _ _⟩
end
noncomputable def ixN (n:Nat) (i:Int):Option Nat:=if 0<=i then(if i<n then So i.toNat else No)else if -(n:Int)<=i then So (i+n).toNat else No
def atI  (xs:AD) (i:Int):Option α:=(ixN Ah i).bind λj=>xs[j]?
theorem JrO{n:Nat}{i:Int}{j:Nat}(h:ixN n i=So j):seqIndex? i n=So j/\j<n/\ -(n:Int)<=i/\i<n:=by
 unfold ixN at h;by_cases b:0<=i
 ·rw[if_pos b]at h;by_cases a:i<n
  ·rw[if_pos a]at h;have e:i.toNat=j:=zE h;exact⟨by rw[seqIndex_of b a,e],by lia,by lia,a⟩
  ·rw[if_neg a]at h;cases h
 ·rw[if_neg b]at h;by_cases a:-(n:Int)<=i
  ·rw[if_pos a]at h;have e:(i+n).toNat=j:=zE h;exact⟨by rw[seqIndex_neg 'c' a,e],by lia,a,by lia⟩
  ·rw[if_neg a]at h;cases h
def JhN{xs:AD}{i:Int}{v:α}(h:atI xs i=So v):∃j,seqIndex? i Ah=So j/\xs[j]? =So v/\j<Ah/\ -(Ah:Int)<=i/\i<Ah:=by
 unfold atI at h;cases e:ixN Ah i with
 |none=>rw[e]at h;cases h
 |some j=>rw[e]at h;obtain⟨b,a,f,l⟩:=JrO e;exact⟨j,b,h,a,f,l⟩
def sU(b:Expr):Prop:=∀o i,subscripted b Fo o i=operate [o,i] Qde
def IxR(X:Cx)(r:R2):Prop:=
 ∀(b a:Expr)(Y:AU)(s:Ao)(Z:St)(H:Hp)(x y:V)(v u:Am)(Q:VK),Inv X Y Z H s->RelV x v->RelV y u->r x y H Q->
  subscripted a Fo v u=operate [v,u] (getItem v u)->wpAny Av X.A (subscriptTail b a v u) BX X.xe s
def MtR(X:Cx)(id:A9)(r:MC):Prop:=
 ∀(Y:AU)(s:Ao)(Z:St)(H:Hp)(x:V)(xs:Aw)(v:Am)(us:AF)(Q:VK),Inv X Y Z H s->RelV x v->Vals xs us->r x xs H Q->
  wpAny Av X.A (call Du (v::us)) BX X.xe s
section
variable{a b:Expr}{ta tb:TE}{pos:Pos}
def pe_ix{r:R2}(l:IxR X r)(m:CK)(o:F6)(z:sU b):PE X NC MB:=by intro Y s Z H Q I h;exact Subscript_ (binT m o I h λv u t x y f w i j q=>l a b Y t Z f x y v u Q w i j q (z _ _))
def rIxL(K:Ak):R2:=λx y H Q=>∃p xs i v,x=.ref p/\y=.int i/\SqL K H p xs/\atI xs i=So v/\Q v H
def rIxT(K:Ak):R2:=λx y H Q=>∃p xs i v,x=.ref p/\y=.int i/\SqT K H p xs/\atI xs i=So v/\Q v H
def rIxS:R2:=λx y H Q=>∃z i c,x=.str z/\y=.int i/\z.length<=sizeLine/\atI YU i=So c/\Q (.str ⟨#[c]⟩) H
theorem Jsa:IxR X (rIxL X.K):=by
 intro m B Y s Z H x y v u Q I G N h E;obtain⟨p,xs,i,z,rfl,rfl,P,L,q⟩:=h;cases G;obtain⟨t,rfl⟩:=N;obtain⟨its,r,pl,hz⟩:=I.list P;obtain⟨j,l,O,h3,W,U⟩:=JhN L;obtain⟨w,C,o⟩:=r.get O;have M:=Yx;have hn:=uK;have f:EP X Y Z Q w s:=⟨z,H,I,o,q⟩;by_cases F:0<=i
 ·have A:i.toNat=j:=by
   rw[seqIndex_of F U]at l;exact zE l
  exact item_listR Y7 F Ad (by rw[A];simpa using C) f E
 ·have A:(i+(Dr:Int)).toNat=j:=by
   rw[seqIndex_neg 'c' W]at l;rw[Zn,<-M];exact zE l
  exact subscriptTail_builtinR (x:=w) QcA aE
   (wpAny_getItem_list_neg (Q:=λr J=>r=w/\EP X Y Z Q r J) Y7 Ad (by rw[Zn]<;>lia) Ad (by rw[A];simpa using C) ⟨rfl,f⟩) E
def Juy:IxR X (rIxT X.K):=by
 intro l o Y s Z H x y v u Q I B M h G;obtain⟨p,xs,i,z,rfl,rfl,O,E,q⟩:=h;cases B;obtain⟨t,rfl⟩:=M;obtain⟨J,r,pl,U⟩:=I.tuple O;obtain⟨j,L,N,W,h4,h5⟩:=JhN E;obtain⟨w,A,m⟩:=r.get N;have F:=Yx;have P:=uK;have f:EP X Y Z Q w s:=⟨z,H,I,m,q⟩;exact subscriptTail_builtinR (x:=w) pl.typeIs slot_tuple_getitem.lookup
  (getItem_tuple (j:=j) (Q:=λr C=>r=w/\EP X Y Z Q r C) pl Ad Ad (by rw[Zn,<-F];exact L) (by simpa using A) ⟨rfl,f⟩) G
def JtR:IxR X rIxS:=by
 intro f l Y s Z H x y v u Q I o r h G;obtain⟨z,i,c,rfl,rfl,M,C,q⟩:=h;obtain⟨t,rfl⟩:=o;obtain⟨N,rfl⟩:=r;obtain⟨j,m,w,O,J,B⟩:=JhN C;have F:z.cps.toList.length=z.length:=by simp[Str.length]
 rw[F]at m J B;have L:=uK;exact tail_any (pM s z t) slot_str_getitem.lookup (getItem_str (c:=c) (by
  have E:decide (i< -(2^63:Int))=Fo:=Zp Ad;have A:decide (i≥2^63)=Fo:=Zp Ad;rw[E,A,jJ]) (by rw[m];simpa using w) ⟨.str ⟨#[c]⟩,H,I.tok _,Au,q⟩) G
theorem Jgj(lo hi:A2)(n:Nat):(sliceBounds lo hi No n).1=((HT.sIx n 0 lo:Nat):Int)/\(sliceBounds lo hi No n).2.1=((HT.sIx n n hi:Nat):Int)/\(sliceBounds lo hi No n).2.2=1:=by
 refine⟨?_,?_,rfl⟩
 ·cases lo with
  |none=>simp[sliceBounds,HT.sIx]
  |some i=>
   simp only[sliceBounds,HT.sIx,Option.getD_none,show(1:Int)>0 by decide,if_true];by_cases h:i<0
   ·simp only[h,if_true]<;>lia
   ·simp only[h,ZN]<;>lia
 ·cases hi with
  |none=>simp[sliceBounds,HT.sIx]
  |some i=>
   simp only[sliceBounds,HT.sIx,Option.getD_none,show(1:Int)>0 by decide,if_true];by_cases h:i<0
   ·simp only[h,if_true]<;>lia
   ·simp only[h,ZN]<;>lia
def JfO(its:AF)(lo hi:A2):slicePick AA lo hi No=((its.drop (HT.sIx aI 0 lo)).take (HT.sIx aI aI hi-HT.sIx aI 0 lo)).toArray:=by obtain⟨f,i,h⟩:=Jgj lo hi Dr;unfold slicePick;rw[f,i,h];simp only[sliceRange_one,pick_run,Zn]<;>rfl
def rSlL (K:Ak):V->Option Int->Option Int->Hp->VK->Prop:=λx h f H Q=>∃a xs,x=.ref a/\SqL K H a xs/\∀p,H p=No->Q EU (upd H p (.lst (cutV xs h f)))
theorem JrD:SlR X (rSlL X.K):=by intro Y s Z H x v y z lo hi sl Q I l u pl m h;obtain⟨a,xs,rfl,t,q⟩:=h;cases l;obtain⟨w,r,i,j⟩:=I.list t;have f:=Yx;refine⟨"list",_,aE,i.isList.typeIs,?_⟩;refine wpAny_getItem_list_slice i.isList u pl m .none Af ?_ (by rw[Zn]<;>lia);rw[JfO,<-f];refine⟨.ref Aa,_,I.laid (t':=Yp) (o:=.lst 'Ʌ') ND (Zh _) ?_,rfl,q _ Hq⟩;exact⟨Zy Qb8 j,_,0,(r.drop S1).take S9,Zf _ rfl⟩
theorem Jbr:pA X Nl (λxs H Q=>∃p ys,xs=FK/\(SqL X.K H p ys\/SqT X.K H p ys)/\Q (.int BU) H):=by
 intro Y s Z H xs us Q I r h;obtain⟨p,ys,rfl,i,q⟩:=h;obtain⟨u,rfl,o⟩:=rB r;cases o;have t:=uK;rcases i with i|i
 ·obtain⟨l,j,pl,m⟩:=I.list i;have f:=bB;exact Calls.call_len_list Y7 (by simp only[Zn]<;>lia) ⟨.int BU,H,I.tok _,⟨Yp+1,by rw[Zn,f]⟩,q⟩
 ·obtain⟨l,j,pl,m⟩:=I.tuple i;have f:=bB;exact len_tuple pl (by simp only[Zn]<;>lia) ⟨.int BU,H,I.tok _,⟨Yp+1,by rw[Zn,f]⟩,q⟩
def Jgr:pA X Nl (λxs H Q=>∃z,xs=[.str z]/\z.length<=sizeLine/\Q (.int dZ) H):=by intro Y s Z H xs us Q I r h;obtain⟨z,rfl,i,q⟩:=h;obtain⟨u,rfl,t,rfl⟩:=rB r;have f:=uK;exact len_str Ad ⟨.int dZ,H,I.tok _,Au,q⟩
theorem Jcf:pA X R7 (λxs H Q=>∃p f,xs=FK/\((SqL X.K H p f/\∀l,H l=No->Q BK (upd H l (.tup f)))\/(SqT X.K H p f/\Q EU H))):=by
 intro Y s Z H xs us Q I r h;obtain⟨p,f,rfl,h⟩:=h;obtain⟨u,rfl,x⟩:=rB r;cases x;rcases h with⟨j,q⟩|⟨j,q⟩
 ·obtain⟨its,m,pl,v⟩:=I.list j;have t:=eA;refine call_tuple_list Y7 (λi w=>?_) (by simp only[Zn]<;>lia);have I1:Inv X Y Z H {s with heap:=i}:=I.kept (t':=Yp) w;have y:Inv X Y Z (upd H i.objs.size (.tup f)) {s with heap:=i.push {cls:=.type "tuple",data:=.seq AA}}:=
   I1.laid (t':=Yp) TH (Zh _) (show ObjOk Yu X.w _ _ _ (.tup f)from⟨⟨v,hU⟩,its,m,IsTup.new _ _⟩)
  exact⟨.ref i.objs.size,_,y,rfl,q _ Fh⟩
 ·obtain⟨its,m,pl,v⟩:=I.tuple j;exact call_tuple_same pl ⟨.ref p,H,I,rfl,q⟩
def tyV(K:Ak)(T:A9)(x:V)(H:Hp):Prop:=match x with
 |.str _=>T="str"
 |.int _=>T="int"
 |.ref p=>(T="list"/\∃xs,SqL K H p xs)\/(T="tuple"/\∃o,K.lookup p=So o/\o.cls=.type "tuple"/\o.dict=No)\/
   (T="dict"/\((∃kvs,H p=So A3)\/∃kvs,H p=So KC))\/(T="set"/\∃S n,H p=So (.set S n))\/(T="list"/\∃t xs,H p=So c0)
 |_=>False
def JwF{Y:AU}{Z:St}{H:Hp}{s:Ao}{T:A9}{x:V}{v:Am}(I:AI)(r:RelV x v)(ty:tyV X.K T x H):
  s.TypeIs v T/\∀a,v=.ref a->∃ob,s.heap.get? a=So ob/\ob.dict=No:=by
 cases x with
 |str z=>obtain⟨t,rfl⟩:=r;cases(show T="str" from ty);exact⟨pM s z t,λ_ e=>nomatch e⟩
 |int i=>obtain⟨t,rfl⟩:=r;cases(show T="int" from ty);exact⟨typeIs_int s i t,λ_ e=>nomatch e⟩
 |ref p=>
  cases r;rcases ty with⟨rfl,xs,u⟩|⟨rfl,o,f,q,l⟩|⟨rfl,f⟩|⟨rfl,S,n,f⟩|⟨rfl,t,xs,f⟩
  ·obtain⟨m,_,pl,_⟩:=I.list u;refine⟨QcA,λa e=>?_⟩;cases e;obtain⟨o,n,e,c,l,_⟩:=pl;exact⟨o,e,l⟩
  ·refine⟨⟨o,I.kIn p o f,q⟩,λa e=>?_⟩;cases e;exact⟨o,I.kIn _ o f,l⟩
  ·have z:∃o,s.heap.get? p=So o/\o.ExactDict:=by
    rcases f with⟨j,f⟩|⟨j,f⟩
    ·obtain⟨_,_,_,_,o,_,_,e,ex,_⟩:=I.hok p _ f;exact⟨o,e,ex⟩
    ·exact(show False from I.hok p _ f).elim
   obtain⟨o,e,ex⟩:=z;refine⟨⟨o,e,ex.1⟩,λa h=>?_⟩;cases h;exact⟨o,e,ex.2.1⟩
  ·obtain⟨o,_,_,_,e,ex,_⟩:=I.hok p _ f;refine⟨⟨o,e,ex.1⟩,λa h=>?_⟩;cases h;exact⟨o,e,ex.2.1⟩
  ·obtain⟨_,m,n,_,e⟩:=I.hok p _ f;refine⟨Gi,λa h=>?_⟩;cases h;exact Gi
 |_=>exact False.elim ty
def tBM(K:Ak)(T:A9)(r:MC)(to:TE)(t:TA):TE:=λZ H Q=>to Z H λx f=>tyV K T x f/\t Z f λxs h=>r x xs h Q
variable{o e:Expr}{es:CY}{to:TE}{t:TA}{name:Str}{apos cpos:Pos}{T id:A9}{r:MC}
def nN(y:PlainAttrs T)(i:Slot T name id)(j:S4)(A:MtR X id r)(ho:PE X o to)(G:KM)
  (f:'г' (attributeBase o name Se RZ=eval o Se) Ai)
  (hfew:'г' (((backTo cpos (starEach FC Se)).all (λx=>!x.1)&&(backToKw cpos Od).all (λx=>x.1.isSome)
   &&decide ((e::es).length+([]:List Keyword).length+(if([]:List Keyword).isEmpty then 0 else 1)<30))=To) Ai)
  (hline:'г' ((dM==aU)=To) Ai) (hs:Cj) (hplain:'г' ((backTo cpos '~').any (·.1)=Fo) Ai):
  PE X (.Call (.Attribute o name apos) FC [] cpos) (tBM X.K T r to t):=by intro Y s Z H Q I h;refine wpAny_Call_method_late f hfew hline rfl (thn LQ λv B l=>?_);obtain⟨x,M,m,q,ty,L⟩:=l;obtain⟨w,F⟩:=JwF m q ty;refine⟨T,id,y,i,j,w,F,?_⟩;have u:=G cpos Y B Z M _ m L;rw[hs]at u⊢;refine zR (by show(Fo||(backTo cpos '~').any (·.1))=Fo;rw[hplain]<;>rfl) (wQ ?_);exact thn u λus N⟨C,z,O,E,J⟩=>A Y N Z z x C v us Q O q E J
end
def MtM(X:Cx)(id:A9)(r:MC):Prop:=
 ∀(Y:AU)(s:Ao)(Z:St)(H:Hp)(x:V)(xs:Aw)(v:Am)(us:AF)(Q:VK),Inv X Y Z H s->RelV x v->Vals xs us->r x xs H Q->
  wpAny Av X.A (call Du (v::us)) BX X.xe s
def Vals.one:∀{x:V}{us:AF},Vals [x] us->∃u,us=[u]/\RelV x u
 |_,_,.cons r .nil=>IJ
def Vals.reverse(h:GM):Vals Y2 us.reverse:=by
 induction h with
 |nil=>exact .nil
 |cons r t a=>rw[rR,rR];exact Vals.append a (.cons r .nil)
def Vals.rep(h:GM):∀k:Nat,Vals 'ϖ'.flatten (List.replicate k us).flatten
 |0=>.nil
 |k+1=>by
  rw[mG,mG,wJ,wJ]
  exact Vals.append h (Vals.rep h k)
def JgW(its:AF):∀(k:Nat)(a:AF),
  List.foldl (λb f=>b++f) a.toArray (List.replicate k AA)=(a++(List.replicate k its).flatten).toArray
 |0,a=>by simp
 |k+1,a=>by
  have e:a.toArray++AA=(a++its).toArray:=by simp
  have h:(a++its)++(List.replicate k its).flatten=a++(List.replicate A1 its).flatten:=by
   rw[mG,wJ,List.append_assoc]
  rw[<-h,<-JgW its k (a++its),<-e,mG,zL]
section
variable{Y:AU}{Z:St}{H:Hp}{s:Ao}{l b:Addr}{ys zs:Aw}
def Inv.lset{its its':AF}{n:Nat}{f:Array Value->Array Value}{t':Nat}(I:AI)(a:H l=So AH)
  (e:s.heap.get? l=So {cls:=.type "list",data:=.seq AA n}) (hf:f AA=its'.toArray) (hv:Vals ys its') (hz:BU<=sizeLine):
  Inv X Y Z (upd H l KA) {s with heap:=s.heap.update l Qb9,toks:=t'}:=by have q:=PySem.IsL.update e f;rw[hf]at q;refine I.write (x:=l) (e:=l) (by rw[a];exact trivial) BJ (λi u hb h=>(ZS WL Qb9 Fg).trans h) ⟨_,q⟩ ?_;exact⟨hz,its',_,hv,q⟩
def Inv.lnew{its:AF}{t':Nat}(I:AI)(a:Vals ys its)(hz:BU<=sizeLine):
  Inv X Y Z (upd H Aa KA) {s with heap:=s.heap.push {cls:=.type "list",data:=.seq AA},toks:=t'}:=
 I.laid Pg (Zh _) ⟨hz,its,0,a,Zf _ rfl⟩
def Inv.fresh(I:AI):H Aa=No:=I.hok.fresh (Zh _)
def Inv.lstM(I:AI)(a:H l=So AH):Ah<=sizeLine/\∃(its:AF)(n:Nat),Vals xs its/\xs.length=aI/\s.heap.get? l=So {cls:=.type "list",data:=.seq AA n}:=by obtain⟨z,its,n,r,e⟩:=I.hok l _ a;exact⟨z,its,n,r,Yx,e⟩
def Jjd{n:Nat}(h:n<=sizeLine):Builtin.List.listTooLong n=Fo:=by unfold Builtin.List.listTooLong;exact Zp Ad
end
def rAppend:V->List V->Hp->VK->Prop:=λx a H Q=>∃l xs y,x=.ref l/\a=[y]/\H l=So AH/\xs.length<sizeLine/\Q .non (upd H l (.lst (xs++[y])))
theorem Jgg:MtM X "list.append" rAppend:=by intro Y s Z H x o v us Q I f j h;obtain⟨l,xs,y,rfl,rfl,b,m,q⟩:=h;cases f;obtain⟨u,rfl,i⟩:=j.one;obtain⟨z,a,n,r,t,e⟩:=I.lstM b;refine xA Qbt Gi QaH Ry (PySem.list_append l a.toArray n u (by rw[Zn];lia)) ⟨e,?_⟩;refine⟨.non,_,I.lset (its':=a++[u]) b e Af (r.append (.cons i .nil)) ?_,rfl,q⟩;rw[Zi,ZQ];lia
def rRep:R2:=λx y H Q=>∃l k xs,x=.ref l/\y=.int k/\H l=So AH/\ -(2^63)<=k/\k<2^63/\xs.length*k.toNat<=sizeLine/\
 ∀p,H p=No->Q EU (upd H p (.lst (List.replicate aY xs).flatten))
def JsK(xs:AD)(k:Nat):'ϖ'.flatten.length=k*Ah:=by
 induction k with
 |zero=>simp
 |succ k a=>rw[mG,wJ,Zi,a,Nat.succ_mul,Nat.add_comm]
theorem JuI:OpR X Ss rRep:=by
 intro Y s Z H x y v u Q I L G h;obtain⟨l,k,xs,rfl,rfl,J,E,O,B,q⟩:=h;cases L;obtain⟨t,rfl⟩:=G;obtain⟨z,its,n,r,C,e⟩:=I.lstM J;have f:Dr*k.toNat<=sizeLine:=by rw[Zn,<-C];exact B
 have i:¬its.toArray.size*k.toNat>(2^63-1) / 8:=by
  have:(sizeLine:Nat)<=(2^63-1) / 8:=by decide
  lia
 have o:¬(!Builtin.List.listFitsIndex k)=To:=by rw[fitsIndex_both E O];exact ZE
 have b:¬Builtin.List.listTooLong (Dr*k.toNat)=To:=by rw[Jjd f];exact ZE
 have j:List.foldl (λw A=>w++A) #[] (List.replicate (if its.toArray.isEmpty=To then 0 else k.toNat) AA)=(List.replicate aY its).flatten.toArray:=by
  have N:∀m:Nat,List.foldl (λw A=>w++A) #[] (List.replicate m AA)=(List.replicate m its).flatten.toArray:=λm=>by have:=JgW its m [];rw[yL]at this;exact this
  rw[N];cases its with
  |nil=>simp
  |cons a P=>rw[if_neg 'k']
 refine wpAny_binaryOp_repeat_ref (T:="list") (U:="int") Ax Gi (λM=>typeIs_int M k t) noFill_list_mul F.fills_int_mul QdN repeat_list F.slot_int_index.lookup
  (xA QdN (typeIs_int s k t) F.entry_int_rmul (F.args_int_rmul_2 _ _) (int___rmul___int_list k t l AA n)
   ⟨e,rfl,Gi,xA F.slot_list_mul Gi F.entry_list_mul (F.args_list_mul_2 _ _) (AutoListH.list___mul___list_int_3 l AA n k t o i b) ⟨e,?_⟩⟩)
 rw[j];exact⟨.ref _,_,I.lnew (t':=Yp) (r.rep aY) (by rw[JsK,Nat.mul_comm];exact B),rfl,q _ I.fresh⟩
end L2
namespace Att
open PySem PySem.W PySem.Calls PyProof.Rows
def Jes{P:Params}{h:Heap}:∀(ns:A0)(vs:AF),WellAll P h vs (ns.map WData.int)->IntsAre vs ns:=by
 intro ns;induction ns with
 |nil=>intro vs w;rw[sE]at w;cases w;exact .nil
 |cons n ns f=>
  intro vs w;rw[Zg]at w;cases w with
  |cons a b=>cases a;exact .cons _ _ Qau
theorem JmH{l:OpenLaw}{n:Nat}(v:l.most=So n){P:Params}{h:Heap}{args:List WData}{f:AF}
  (b:l.row.toRowW.claim.pre args=To) (s:WellAll P h f args):
  ∃a vs ns,f=[Value.ref a]/\args=[WData.list (ns.map WData.int)]/\h.get? a=So {cls:=.type "list",data:=.seq CP}/\IntsAre vs ns/\ns.length<=n:=by
 have t:WShape.hasAll [] args [.list .int]=To:=(pre_splitW b).1;have u:l.pre.holds [] {args:=args}=To:=(pre_splitW b).2;obtain⟨d,r,rfl,w,z⟩:=hasAllW_cons t;obtain rfl:=hasAllW_nil z;obtain⟨E,rfl,A⟩:=hasW_list w;obtain⟨ns,rfl⟩:=items_int A;have i:AX<=n:=by
  unfold OpenLaw.pre at u;have o:(WTm.not (.lt (.lit (.int (n:Int))) (.len (.arg 0)))).holds [] {args:=[.list HY]}=To:=by have o:=(holds_andW u).1;rw[v]at o;exact o
  have m:=condW_of o (w_not (w_lt w_lit (w_len_list (w_arg rfl))));rw[Zj]at m;refine Nat.le_of_not_lt λq=>?_;have C:(n:Int)<((AX:Nat):Int):=by lia
  first
   |(rw[ZD C]at m;exact absurd m (by decide))
   |(simp at m;lia)
 cases s with
 |cons B x=>
  cases x;cases B with
  |list y j=>exact⟨_,_,ns,rfl,rfl,y,Jes ns _ j,i⟩
def Jmc(l:OpenLaw)(args:List WData):l.row.toRowW.claim.post args F8 args=To:=
 postW_of (r:=dN) (X:=(To==To))
  (show WShape.has [] F8 .bool=To by first|rfl|decide|simp[WShape.has,WShape.arms,WShape.armsAll])
  (show(WTm.eq .res (.lit F8)).value [] {args:=args,res:=So F8,after:=args}=So (.bool (To==To))from w_eq_bool (w_res rfl) w_lit) rfl
def Jhy{l:OpenLaw}{n:Nat}{q:Bk}{loose:Ag}{F:(Str->Option Value)->Heap->Prop}{L:World->Heap->Prop}{d:DefRec}
  (X:l.most=So n) (C:d.params.defaults=[])
  (U:∀(w:Bc)(h b:Ao)(mg mb:Bf)(s:Addr)(o:Obj)(y x j:Am)(a:Addr)(vs:AF)(ns:A0),
   Ground q loose [] F w h mg mb b.heap->L w b.heap->
   b.heap.get? s=So o->o.data=.func (docDef d.name aK YF d.scope y x j)->b.heap.CodeRec x d.name->mg d.name=So (.ref s)->
   b.heap.get? a=So {cls:=.type "list",data:=.seq CP}->IntsAre vs ns->AX<=n->b.gens=#[]->
   codeAny (model bT w) callerA (.call (.ref s) SL) (λr v=>r=.ok (.ret F8)/\OldK b.heap v.heap/\v.os=b.os/\AllBare v.gens) b):
  WalkO q loose F L dN d [] RM:=by intro w h b mg mb G M s o y x j Y kV O P A H z hg J E as t I hrd B W;obtain rfl:Y=.none:=Dflts.none H C;obtain rfl:kV=.none:=Dflts.noKw H;obtain⟨a,vs,ns,rfl,rfl,u,i,m⟩:=JmH X t B;refine enter_call (zC (U w h b mg mb s o y x j a vs ns G M O (fd_plain P) A z u i m hg) λr v hq=>?_);obtain⟨rfl,Z,h3,h4⟩:=hq;exact⟨.inl ⟨.bool To,.bool To,[],rfl,λ_=>rfl,.bool To,Jmc l _,λ_=>⟨Qb1,λ_ N=>(nomatch N)⟩⟩,Z,h3,h4⟩
end Att
namespace L2
open PySem PySem.Spec PyProof.Rows
variable{H W:Hp}{X:Cx}{a:Addr}{s:Ao}{u:Am}{Y:AU}{Z:St}{w:Bc}{y:V}{kvs:List (Key×V)}{A:Bg}{E:Az}{P:Bk}{o:dS}{pos:Pos}
def Jgf:∀{vs:AF}{ns:A0},IntsAre vs ns->Vals RY vs
 |_,_,.nil=>.nil
 |_,_,.cons n t h=>.cons HJ (Jgf h)
noncomputable def wG (s:Stmt) (j:Nat):Stmt:=match s with
 |.ClassDef _ _ _ b _ _ _ _ _ _ _=>b.getD j P9
 |_=>.Pass ⟨0,0,0,0⟩
noncomputable def nL (s:Stmt):Arguments:=match s with
 |.FunctionDef _ a _ _ _ _ _ _ _ _=>a
 |_=>{posonlyargs:=[],args:=[],vararg:=No,kwonlyargs:=[],kw_defaults:=[],kwarg:=No,defaults:=[]}
noncomputable def Jp (s:Stmt):List Stmt:=match s with
 |.FunctionDef _ _ b _ _ _ _ _ _ _=>b
 |_=>[]
noncomputable def Ja (s:Stmt):Scope:=match s with
 |.FunctionDef _ _ _ _ _ _ b _ _ _=>b
 |_=>{kind:=.function,names:=[],isGenerator:=Fo,isCoroutine:=Fo}
noncomputable abbrev E0:XK:=λ_ _ _=>False
inductive Fune(K:Ak)(x qual:Str)(st:Stmt)(f:Addr)(fd:A6):Prop where
 |mk (oc:Value) (od:Option Addr) (kV doc pm:Value) (an:Option Addr) (cdv ct:Value) (osl:Array (Option Value)) (h:fd=PySem.W.fnOf x qual (nL st) (Jp st) (Ja st) .none kV doc pm an cdv ct/\K.lookup f=So ⟨oc,od,.func fd,osl⟩/\PySem.W.codeIn K cdv qual=To):Fune K x qual st f fd
structure Fun(K:Ak)(x qual:Str)(st:Stmt)(f:Addr)(fd:A6):Prop where
 ex:Fune K x qual st f fd
 kp:PySem.W.keepIn K A5=To
section
variable{K:Ak}{mg:Bf}{base:Heap}
def Fun.binds{x qual:Str}{st:Stmt}{f:Addr}{fd:A6}{ps:Ag}(F:Ef)
  (h:∀(kV doc pm:Am)(an:D6)(cdv ct:Am)(us:AF),us.length=Ar->bindArgs Te G1=pure HM):Binds K fd ps []:=by obtain⟨j,m,kV,doc,pm,an,cdv,ct,b,rfl,l,i⟩:=F.ex;exact .all (h kV doc pm an cdv ct)
def Jqc{x qual:Str}{st:Stmt}{f:Addr}{h:Am}{i an:D6}{b:Ff}{kV doc pm cdv ct:Am}(l:K.lookup f=So ⟨h,i,.func Te,b⟩)
  (c:PySem.W.codeIn K cdv qual=To) (k:PySem.W.keepIn K A5=To):Fun K x qual st f Te:=⟨⟨h,i,kV,doc,pm,an,cdv,ct,b,rfl,l,c⟩,k⟩
end
def iteF{A B:Prop}(h:B):if Fo=To then A else B:=by rw[if_neg ZE];exact h
def iteT{A B:Prop}(h:A):if To=To then A else B:=by rw[if_pos rfl];exact h
def Same(H W:Hp):Prop:=∀b o,H b=So o->W b=So o
def Same.refl(H:Hp):Same H H:=λ_ _ h=>h
def Same.trans{i f:Hp}(a:Same H i)(b:Same i f):Same H f:=λc o h=>b c o (a c o h)
def Same.free(e:Ct){l:Addr}(h:W l=Option.none):H l=Option.none:=by
 cases q:H l with
 |none=>rfl
 |some o=>rw[e l o q]at h;cases h
def Same.seq{K:Ak}{xs:Aw}(e:Ct)(h:dG):SqL K W a xs:=by
 rcases h with(h|⟨o,h⟩)|h
 ·exact .inl (.inl (e _ _ h))
 ·exact .inl (.inr ⟨o,e _ _ h⟩)
 ·exact .inr h
section
variable{κ:Type}[DecidableEq κ]
noncomputable def valV (kvs:BD) (k:κ):Option V:=(kvs.find? λb=>decide (b.1=k)).map (·.2)
noncomputable def putK (kvs:BD) (k:κ) (v:V):List (κ×V):=
 if(kvs.any λb=>decide (b.1=k))=To then kvs.map (λb=>if b.1=k then(b.1,v)else b)else kvs++[(k,v)]
noncomputable def pI (kvs:BD) (k:κ):List (κ×V):=kvs.filter λb=>decide (b.1≠k)
def Jfv{p:κ×V}{r:BD}{k:κ}(e:p.1=k):valV (p::r) k=So p.2:=by simp[valV,yQ,e]
def Jft{p:κ×V}{r:BD}{k:κ}(e:¬p.1=k):valV (p::r) k=valV r k:=by simp[valV,yQ,e]
def JfK(k:κ):∀kvs:List (κ×V),(kvs.any λb=>decide (b.1=k))=(valV kvs k).isSome
 |[]=>rfl
 |p::r=>by
  rw[uD]
  by_cases e:p.1=k
  ·simp only[Jfv e,ZD e,Bool.true_or,kG]
  ·rw[Jft e,Zp e,nM];exact JfK k r
theorem JhC(kvs:BD)(k:κ)(v:V):'Ϡ'.length<=BG+1:=by
 unfold putK;split
 ·rw[Zj];lia
 ·rw[Zi,Zm,yE];lia
def RelO.isSome_eq{u:Mo}(r:RelO o u):o.isSome=u.isSome:=by
 cases o with
 |none=>cases u with
  |none=>rfl
  |some _=>exact(show False from r).elim
 |some _=>cases u with
  |none=>exact(show False from r).elim
  |some _=>rfl
def RelO.getD{u:Mo}{d:V}{d':Am}(r:RelO o u)(b:RelV d d'):RelV (o.getD d) (u.getD d'):=by
 cases o with
 |none=>cases u with
  |none=>exact b
  |some _=>exact(show False from r).elim
 |some _=>cases u with
  |none=>exact(show False from r).elim
  |some _=>exact r
def KV.val{kvs:BD}{vs:FR}(r:F1)(k:κ):RelO (valV kvs k) (valueAt vs k):=by
 unfold KV at r;induction r with
 |nil=>exact jA
 |@cons p q v i h t m=>
  obtain⟨j,l⟩:=h;by_cases e:p.1=k
  ·have f:q.1=k:=j.symm.trans e;have b:valueAt (q::i) k=So q.2:=by simp[valueAt,yQ,f]
   rw[Jfv e,b];exact l
  ·have f:¬q.1=k:=λz=>e (j.trans z);have b:valueAt (q::i) k=valueAt i k:=by simp[valueAt,yQ,f]
   rw[Jft e,b];exact m
def KV.any{kvs:BD}{vs:FR}(r:F1)(k:κ):(kvs.any λb=>decide (b.1=k))=vs.any λb=>decide (b.1=k):=by
 unfold KV at r;induction r with
 |nil=>rfl
 |cons h t f=>rw[uD,uD,f,h.1]
def KV.repl{kvs:BD}{vs:FR}(r:F1)(k:κ)(j:DX):
  KV (kvs.map λb=>if b.1=k then(b.1,y)else b) (vs.map λb=>if b.1=k then(b.1,u)else b):=by
 unfold KV at r⊢;induction r with
 |nil=>exact .nil
 |@cons p q v m h t i=>
  rw[Zg,Zg];refine .cons ?_ i;obtain⟨f,l⟩:=h;by_cases e:p.1=k
  ·rw[if_pos e,if_pos (f.symm.trans e)];exact⟨f,j⟩
  ·rw[if_neg e,if_neg (λz=>e (f.trans z))];exact⟨f,l⟩
def KV.put{kvs:BD}{vs:FR}(r:F1)(k:κ)(b:DX):KV (putK kvs k y) (stored vs k u):=by
 unfold putK stored;rw[r.any k];by_cases e:(vs.any λf=>decide (f.1=k))=To
 ·rw[if_pos e,if_pos e];exact r.repl k b
 ·rw[if_neg e,if_neg e];exact Paired.snoc r ⟨rfl,b⟩
def KV.drop{kvs:BD}{vs:FR}(r:F1)(k:κ):KV (pI kvs k) (without vs k):=by
 unfold KV at r⊢;unfold pI without;induction r with
 |nil=>exact .nil
 |@cons p q m v h t i=>
  obtain⟨f,j⟩:=h;rw[iD,iD];by_cases e:p.1=k
  ·have a:¬decide (p.1≠k)=To:=by simp[e]
   have b:¬decide (q.1≠k)=To:=by simp[f.symm.trans e]
   rw[if_neg a,if_neg b];exact i
  ·have l:¬q.1=k:=λz=>e (f.trans z);have a:decide (p.1≠k)=To:=by simp[e]
   have b:decide (q.1≠k)=To:=by simp[l]
   rw[if_pos a,if_pos b];exact .cons ⟨f,j⟩ i
def KV.length{kvs:BD}{vs:FR}(r:F1):BG=AQ:=oM r
def JoQ(kvs:BD)(k:κ):(pI kvs k).length<=BG:=List.length_filter_le _ _
end
def Jkz{k:Key}(r:RelV (kV k) u):'Յ'.is k u=To:=by
 cases k with
 |inl i=>obtain⟨t,e⟩:=(show∃t,u=Value.int i t from r);subst e;exact Jhz P w i t
 |inr x=>obtain⟨t,e⟩:=(show∃t,u=Value.str x t from r);subst e;exact Jim P w x t
 |non=>cases(show u=Ys from r);rfl
section
variable{h:Heap}
def rd_of{u:HO}(ok:CM)(e:Rd H a u):ObjOk P w H h a u:=e.ok ok
def nG(ok:CM)(e:Rd H a A3):BG<=sizeLine/\(a==sysModules)=Fo/\∃b,KV kvs b/\h.DictOf 'Յ' a b:=
 show ObjOk P w H h a A3 from rd_of ok e
def oY(ok:CM)(e:H a=So A3):BG<=sizeLine/\(a==sysModules)=Fo/\∃b,KV kvs b/\h.DictOf 'Յ' a b:=nG ok (.inl e)
end
def DGet(H:Hp)(a:Addr)(y:V)(r:dS):Prop:=
 (∃kvs k,Rd H a A3/\y=kV k/\r=valV kvs k)\/False
def DPut(H:Hp)(a:Addr)(y v:V)(W:Hp):Prop:=
 (∃kvs k,H a=So A3/\y=kV k/\kvs.length<sizeLine/\W=upd H a (.dK 'Ϡ'))\/False
def DPut.k{k:Key}{v:V}(e:H a=So A3)(b:BG<sizeLine):DPut H a (kV k) v (upd H a (.dK 'Ϡ')):=.inl ⟨kvs,k,e,rfl,b,rfl⟩
section
variable{v:V}{r:Am}
def Inv.big(I:AI):sysModules<Aa:=by have h:mainGlobals<Aa:=(I.mod.glob.keeps I.bk).lt;exact Nat.lt_trans Ax h
def Jgs{Q:Az}(F:A.units+60<cLine)(I:AI)(g:DGet H a y Bi)(m:DX)(h:∀b j,Inv X Y Z H j->RelV v b->Q b j):
  wpAny Av A (getItem AE u) Q E s:=by
 rcases g with⟨kvs,k,e,q,l⟩|B
 ·subst q;obtain⟨z,G,t,i,x⟩:=nG YC e;obtain⟨b,C,f⟩:=RelO.some_of (v:=v) (o:=valueAt t k) (by rw[l];exact i.val k);exact wpAny_getItem_of bN x.mapOf C (h b _ Hm f)
 ·exact B.elim
def d_in{Q:Az}(x:A.units+60<cLine)(I:AI)(g:Mn)(m:DX)(h:∀f,Inv X Y Z H f->Q (.bool eB) f):
  wpAny Av A (compareOp .In u AE) Q E s:=by
 rcases g with⟨kvs,k,e,t,l⟩|j
 ·subst t;obtain⟨z,q,B,b,i⟩:=nG YC e;refine wpAny_in_of bN q i.mapOf ?_;rw[<-(b.val k).isSome_eq,<-l];exact h _ Hm
 ·exact j.elim
def JrA{Q:Az}(x:A.units+60<cLine)(I:AI)(g:Mn)(m:DX)(h:∀f,Inv X Y Z H f->Q (.bool (!o.isSome)) f):
  wpAny Av A (compareOp .NotIn u AE) Q E s:=by
 rcases g with⟨kvs,k,e,t,l⟩|j
 ·subst t;obtain⟨z,q,B,b,i⟩:=nG YC e;refine wpAny_notIn_of bN q i.mapOf ?_;rw[<-(b.val k).isSome_eq,<-l];exact h _ Hm
 ·exact j.elim
def JlT{h':Heap}{t':Nat}{ob:HO}(I:AI)(j:Mut (H a))(i:Heap.SameBut a WL h')(h:∃q,h'.get? a=So q)(new:ObjOk Yu X.w (upd H a ob) h' a ob):
  Inv X Y Z (upd H a ob) {s with heap:=h',toks:=t'}:=
 I.write (x:=a) (e:=a) j BJ (λb q f z=>(i.2 b f).trans z) h new
def JqM{h':Heap}{vs:List (Key×Value)}(z:BG<=sizeLine)(f:(a==sysModules)=Fo)(b:F1)(dd:h'.DictOf 'Յ' a vs):
  ObjOk P w W h' a A3:=⟨z,f,vs,b,dd⟩
theorem JgX{Q:Ej}(U:A.units+60<cLine)(I:AI)(g:DPut H a y v W)(m:DX)(G:RelV v r)(h:∀i,Inv X Y Z W i->Q () i):
  wpAny Av A (setItem AE u r) Q E s:=by
 rcases g with⟨kvs,k,e,t,l,O⟩|C
 ·subst t O;obtain⟨z,F,vs,f,x⟩:=oY YC e;have j:AQ<=sizeLine:=by rw[<-f.length];exact z
  have L:'Ϡ'.length<=sizeLine:=by have:=JhC kvs k v;lia
  refine wpAny_setItem_pairs (hsz:=j) bN x λN b M=>h _ ?_;have J:∃q,N.get? a=So q:=let⟨q,_,_,B,_⟩:=b;⟨q,B⟩;exact JlT I (by rw[e];exact jA) M J (JqM L F (f.put k G) b)
 ·exact C.elim
end
section
variable{k:Key}
def d_pop{v:V}{b:AF}{Q:Az}(I:AI)(e:H a=So A3)(r:RelV (kV k) u)(l:valV kvs k=So v)(C:b=[]\/∃x,b=[x])
  (h:∀m F,Inv X Y Z (upd H a LN) F->RelV v m->Q m F):wpAny Av A (call (.builtin "dict.pop") (.ref a::u::b)) Q E s:=by
 obtain⟨z,N,G,f,J⟩:=oY YC e;obtain⟨m,O,B⟩:=RelO.some_of (v:=v) (o:=valueAt G k) (by rw[<-l];exact f.val k);have hp:(keyPart u).isSome=To:=by
  cases k with
  |inl i=>obtain⟨t,q⟩:=(show∃t,u=Value.int i t from r);subst q;rfl
  |inr x=>obtain⟨t,q⟩:=(show∃t,u=Value.str x t from r);subst q;rfl
  |non=>cases(show u=Ys from r);rfl
 have L:argsOk "dict.pop" ⟨.ref a::u::b,[]⟩:=by
  rcases C with q|⟨x,q⟩
  ·subst q;exact PySem.F.args_dict_pop_2 _ _
  ·subst q;exact PySem.F.args_dict_pop_3 _ _ _
 refine call_meetsIn f6 J.typeIs PySem.F.entry_dict_pop L (meets_dict_pop_there Sr a (Jkz r) b C hp)
  ⟨G,m,J,by rw[<-f.length];exact z,O,λh' j hs=>h m _ ?_ B⟩
 have U:∃q,h'.get? a=So q:=let⟨q,_,_,M,_⟩:=j;⟨q,M⟩;exact JlT I (by rw[e];exact jA) hs U (JqM (Zy (JoQ kvs k) z) N (f.drop k) j)
end
def NoSl(i:Expr):Prop:=∀b f,subscripted i Fo b f=operate [b,f] (getItem b f)
def JsJ{prog:Bk}{O:Env}{f b:Expr}{T id:A9}{Q:Az}
  (C:typeLookup EY "__getitem__"=pure (So Du)) (F:NoSl b)
  (h:wpAny As A (eval f O) (λo m=>wpAny As A (eval b O) (λi j=>j.TypeIs o T/\wpAny As A Qde Q E j) E m) E s):
  wpAny As A (eval (.Subscript f b pos) O) Q E s:=by
 refine Subscript_ (ZT h (λo m z=>ZT z (λi j l=>?_) λ_ _ x=>x) λ_ _ x=>x);obtain⟨B,l⟩:=l;unfold subscriptTail;refine Za ?_;rw[getitemInPython_of_ne B.not_modules];refine Za (wpAny_specialOf B C ?_);have t:wpAny As A (subscripted b Fo o i) (λr q=>wpAny As A (letTemporaryGo f o r>>=λ_=>pure r) Q E q) E j:=by rw[F o i];exact wpAny_operating (ZT l (λr q v=>Za (wpAny_letTemporaryGo (Zb v))) λ_ _ x=>x)
 first
  |exact Zb (Za t)
  |exact Za (Zb (Za t))
  |exact Za t
def JhU(I:AI)(g:Mn):s.TypeIs AE "dict":=by
 rcases g with⟨kvs,k,e,_,_⟩|f
 ·obtain⟨_,_,h,_,b⟩:=nG YC e;exact b.typeIs
 ·exact f.elim
def tDGet(h ty:TE):TE:=λZ H Q=>h Z H λx f=>ty Z f λy b=>∃a v,x=.ref a/\DGet b a y Bi/\Q v b
def tDIn(ty h:TE):TE:=λZ H Q=>ty Z H λy f=>h Z f λx b=>∃a o,x=.ref a/\DGet b a y o/\Q (.bl eB) b
def Jsd(ty h:TE):TE:=λZ H Q=>ty Z H λy f=>h Z f λx b=>∃a o,x=.ref a/\DGet b a y o/\Q (.bl (!o.isSome)) b
def sDPut(i ty l:TE):TS:=λD Z H=>l Z H λv f=>i Z f λx h=>ty Z h λy j=>∃a b,x=.ref a/\DPut j a y v b/\D.nx Z b
def sDAug(i ty r:TE)(q:V->V->Hp->VK->Prop):TS:=λD Z H=>i Z H λx h=>ty Z h λy b=>∃a v,x=.ref a/\DGet b a y Bi/\
 r Z b λm l=>q v m l λz j=>∃f,DPut j a y z f/\D.nx Z f
section
variable{o i e value:Expr}{pos' tpos:Pos}{td ty tv:TE}
def JrC(l:Ht)(ho:FZ)(hi:Ew)(J:NoSl i):PE X (.Subscript o i pos) (tDGet td ty):=by intro Y s Z H Q I h;refine JsJ PySem.F.slot_dict_getitem.lookup J (thn LQ λu B⟨x,G,q,r,C⟩=>thn (hi Y B Z G _ q C) λL M f=>?_);obtain⟨y,m,j,z,a,v,ex,g,F⟩:=f;subst ex;obtain rfl:u=Value.ref a:=r;exact⟨JhU j g,Jgs l j g z λN O t b=>⟨v,m,t,b,F⟩⟩
def Jqy(f:Ht)(hi:Ew)(ho:FZ):PC X .In i o (tDIn ty td):=by intro Y s Z H Q I h;refine thn OM λG v⟨y,C,m,q,z⟩=>thn OL λu J b=>?_;obtain⟨x,j,F,t,a,l,ex,g,B⟩:=b;subst ex;obtain rfl:u=Value.ref a:=t;exact d_in f F g q λL r=>⟨.bl l.isSome,j,r,rfl,B⟩
def Jmk(f:Ht)(hi:Ew)(ho:FZ):PC X .NotIn i o (Jsd ty td):=by intro Y s Z H Q I h;refine thn OM λG v⟨y,C,m,q,z⟩=>thn OL λu J b=>?_;obtain⟨x,j,F,t,a,l,ex,g,B⟩:=b;subst ex;obtain rfl:u=Value.ref a:=t;exact JrA f F g q λL r=>⟨.bl (!l.isSome),j,r,rfl,B⟩
def JlU(j:Ht)(ho:FZ)(hi:Ew)(f:IL)(z:swapsWith value (So (.Subscript o i pos')) Yy Se=pure Fo):
  PS X (.Assign [.Subscript o i pos'] value pos) (sDPut td ty tv):=by intro Y s Z H D I h;refine wpAny_Assign_Subscript (thn (f Y s Z H _ I h) λr L⟨v,O,l,B,q⟩=>thn (ho Y L Z O _ l q) λu t⟨x,C,U,m,N⟩=>thn (hi Y t Z C _ U N) λiv s3⟨y,H3,G,F,a,J,ex,g,b⟩=>?_) z;subst ex;obtain rfl:u=Value.ref a:=m;exact JgX j G g F B λs4 M=>⟨Z,J,M,b⟩
def JtD{B:dQ}{C:V->V->Hp->VK->Prop}(t:Ht)(ho:FZ)(hi:Ew)(J:IL)(l:InOp X B C)
  (ha:∀j f b,augStore i j f b=(do holding [b,j,f] (setItem j f b);release [b,j,f] [];pure .next)):PS X (.AugAssign (.Subscript o i tpos) B value pos) (sDAug td ty tv C):=by intro Y s Z H D I h;refine wpAny_AugAssign_SubscriptAny (thn LQ λu s1⟨x,H1,M,N,q1⟩=>thn (hi Y s1 Z H1 _ M q1) λf s2⟨y,H2,I2,F,a,v,ex,g,q2⟩=>?_) ha;subst ex;obtain rfl:u=Value.ref a:=N;refine Jgs t I2 g F λw' s3 I3 q=>thn (J Y s3 Z H2 _ I3 q2) λG U⟨y2,H3,I4,m,L⟩=>thn (l Y U Z H3 v y2 w' G _ I4 q m L) λw3 s5 r=>?_;obtain⟨z,H4,I5,rz,O,g5,q4⟩:=r;exact JgX t I5 g5 F rz λs6 I6=>⟨Z,O,I6,q4⟩
end
def JnF(h:Heap)(b:sysModules<BV):ObjOk P w H (h.push {cls:=.type "dict",data:=.dict #[]}) BV QcJ:=
 ⟨yC _,Zq.mpr (Ne.symm (Zt b)),[],.nil,Heap.DictOf.new h⟩
def tDNewK:TE:=λ_ H Q=>∀p,H p=No->Q EU (upd H p QcJ)
def Jjj:PE X (.Dict [] [] pos) tDNewK:=λY s Z H Q I h=>
 wpAny_Dict_empty ⟨.ref Aa,_,I.laid (a:=Aa) (o:=.dK []) (t':=Yp) Pg (Zh _) (JnF WL I.big),rfl,h _ Hq⟩
structure M1(X:Cx)(o:Expr)(m:Str)(apos:Pos)(e:Expr)(cpos:Pos):Prop where
 base:attributeBase o m Se RZ=eval o Se
 few:((backTo cpos PF).all (λx=>!x.1)&&(backToKw cpos Od).all (λx=>x.1.isSome)
  &&decide (([e]:List Expr).length+([]:List Keyword).length+(if([]:List Keyword).isEmpty then 0 else 1)<30))=To
 line:(dM==aU)=To
 trees:backTo cpos PF=[Yc]
structure M2(X:Cx)(o:Expr)(m:Str)(apos:Pos)(e f:Expr)(cpos:Pos):Prop where
 base:attributeBase o m Se RZ=eval o Se
 few:((backTo cpos QA).all (λx=>!x.1)&&(backToKw cpos Od).all (λx=>x.1.isSome)
  &&decide (([e,f]:List Expr).length+([]:List Keyword).length+(if([]:List Keyword).isEmpty then 0 else 1)<30))=To
 line:(dM==aU)=To
 trees:backTo cpos QA=[Yc,(Fo,eval f Se)]
def IsD(H:Hp)(a:Addr):Prop:=(∃kvs,Rd H a A3)\/∃kvs,Rd H a KC
def Jqs(I:AI)(d:IsD H a):
  s.TypeIs AE "dict"/\(∀b,Value.ref a=.ref b->∃ob,s.heap.get? b=So ob/\ob.dict=No)/\(a==sysModules)=Fo:=by
 rcases d with⟨kvs,e⟩|⟨kvs,e⟩
 ·obtain⟨_,i,l,_,f⟩:=nG YC e;refine⟨f.typeIs,λb q=>?_,i⟩;cases q;obtain⟨ob,_,_,h,j,_⟩:=f;exact⟨ob,h,j.2.1⟩
 ·exact e.elim (λq=>(I.hok a _ q).elim) λ⟨_,q⟩=>(I.hok a _ q).2.elim
section
variable{d:V}{r:Am}
def JuK{Q:Az}(x:A.units+60<cLine)(I:AI)(g:Mn)(m:DX)(h:∀j f,Inv X Y Z H f->RelV Qdf j->Q j f):
  wpAny Av A (call (.builtin "dict.get") [.ref a,u]) Q E s:=by
 rcases g with⟨kvs,k,e,q,l⟩|t
 ·subst q;obtain⟨z,v,B,b,i⟩:=nG YC e;refine call_meetsIn f9 i.typeIs PySem.F.entry_dict_get (PySem.F.args_dict_get_2 _ _) (meets_dict_get Sr a bN v) ⟨_,i.mapOf,h _ _ Hm ?_⟩;rw[l];exact(b.val k).getD rfl
 ·exact t.elim
end
def JvD(h ty:TE):TE:=λZ H Q=>h Z H λx b=>∃a,x=.ref a/\IsD b a/\ty Z b λy f=>∃o,DGet f a y o/\Q Qdf f
def JuF(h ty:TE):TE:=λZ H Q=>h Z H λx b=>∃a,x=.ref a/\IsD b a/\ty Z b λy f=>∃kvs k v,f a=So A3/\y=kV k/\valV kvs k=So v/\Q v (upd f a LN)
section
variable{o e f:Expr}{apos cpos:Pos}{td ty tx:TE}
def Jpn(l:Ht)(ho:FZ)(z:PE X e ty)(m:M1 X o "get" apos e cpos):PE X (.Call (.Attribute o "get" apos) [e] [] cpos) (JvD td ty):=by intro Y s Z H Q I h;refine wpAny_Call_method m.base m.few m.line zW f9 PySem.F.type_dict_get (thn LQ λu G i=>?_);obtain⟨x,L,j,q,a,ex,d,t⟩:=i;subst ex;obtain rfl:u=Value.ref a:=q;obtain⟨r,v,_⟩:=Jqs j d;refine⟨r,v,?_⟩;rw[m.trees];refine zR rfl (wQ (Calls.spliced_cons (thn (z Y G Z L _ j t) λiv O⟨y,B,M,C,N,g,J⟩=>Calls.spliced_nil ?_)));exact JuK l M g C λw' U F b=>⟨_,B,F,b,J⟩
def Jok(ho:FZ)(C:PE X e ty)(m:M1 X o "pop" apos e cpos):PE X (.Call (.Attribute o "pop" apos) [e] [] cpos) (JuF td ty):=by intro Y s Z H Q I h;refine wpAny_Call_method m.base m.few m.line zW f6 PySem.F.type_dict_pop (thn LQ λu J i=>?_);obtain⟨x,N,j,q,a,ex,d,t⟩:=i;subst ex;obtain rfl:u=Value.ref a:=q;obtain⟨r,z,_⟩:=Jqs j d;refine⟨r,z,?_⟩;rw[m.trees];refine zR rfl (wQ (Calls.spliced_cons (thn (C Y J Z N _ j t) λiv U⟨y,H2,O,F,kvs,k,v,B,L,l,M⟩=>Calls.spliced_nil ?_)));subst L;exact d_pop O B F l BJ λw' s3 G b=>⟨v,_,G,b,M⟩
end
end L2
namespace Pu
open PySem
variable{α β:Type}{E:Dc}{nt:Nat}
inductive D where
 | non | bl (b:Bool) | int (i:Int) | str (x:Str) | tup (ds:List D) | lst (ds:List D)
 | dct (t z:Bool) (ks vs:List D) | exc (c:Str) | fn (x:Str) (i:Nat)
 | obj (a:Nat) (ns:List Str) (fs:List D)
 | mls (t:Str) (ds:List D) | adr (b:Nat)
 deriving Inhabited
inductive Rs(α:Type)where
 |ok (a:α)|ex (c:Str)|sk
variable{P:D->Prop}
noncomputable def Rs.bind :Rs α->(α->Rs β)->Rs β
 |.ok a,f=>f a
 |.ex c,_=>.ex c
 |.sk,_=>.sk
noncomputable def Rs.calm :Rs α->Rs α
 |.ok a=>.ok a
 |.ex _=>.sk
 |.sk=>.sk
@[simp]def Rs.calm_ok(a:α):(Rs.ok a).calm=.ok a:=rfl
def Rs.Good(r:Rs α)(P:α->Prop)(E:Dc):Prop:=
 match r with
 |.ok a=>P a
 |.ex c=>E c
 |.sk=>False
@[simp]def Rs.bo(a:α)(f:α->Rs β):(Rs.ok a).bind f=f a:=rfl
@[simp]def Rs.bind_ex(c:Str)(f:α->Rs β):(Rs.ex c:Rs α).bind f=.ex c:=rfl
@[simp]def Rs.bind_stuck(f:α->Rs β):(Rs.sk:Rs α).bind f=.sk:=rfl
def Rs.bind_assoc{b:Type}(r:Rs α)(f:α->Rs β)(g:β->Rs b):(r.bind f).bind g=r.bind λa=>(f a).bind g:=by cases r<;>rfl
def Rs.gB{r:Rs α}{f:α->Rs β}{P:β->Prop}:(r.bind f).Good P E↔r.Good (λa=>(f a).Good P E) E:=by cases r<;>rfl
def Rs.good_calm{r:Rs α}{P:α->Prop}{b:Dc}(h:r.calm.Good P E):r.Good P b:=by
 cases r with
 |ok a=>exact h
 |ex c=>exact h.elim
 |sk=>exact h
def Rs.Good.mono{r:Rs α}{P b:α->Prop}{f:Dc}(h:GJ)(j:∀a,P a->b a)(i:∀c,E c->f c):r.Good b f:=by
 cases r with
 |ok a=>exact j a h
 |ex c=>exact i c h
 |sk=>exact h
def Rs.Good.imp{r:Rs α}{P b:α->Prop}(h:GJ)(f:∀a,P a->b a):r.Good b E:=h.mono f λ_ x=>x
mutual
def D.eqv:D->D->Bool
 |.non,.non=>To
 |.bl a,.bl b=>a==b
 |.bl a,.int b=>(if a then 1 else 0)==b
 |.int a,.bl b=>a==(if b then 1 else 0)
 |.int a,.int b=>a==b
 |.str a,.str b=>a==b
 |.tup as,.tup bs=>eqvs as bs
 |.lst as,.lst bs=>eqvs as bs
 |_,_=>Fo
def eqvs:List D->List D->Bool
 |[],[]=>To
 |a::as,b::bs=>D.eqv a b&&eqvs as bs
 |_,_=>Fo
end
mutual
def D.imm:D->Bool
 |.non=>To
 |.bl _=>To
 |.int _=>To
 |.str _=>To
 |.exc _=>To
 |.fn _ _=>To
 |.tup J=>imms J
 |.lst _=>Fo
 |.dct _ z _ a=>z&&imms a
 |.obj _ _ _=>Fo
 |.mls _ _=>Fo
 |.adr _=>Fo
def imms:List D->Bool
 |[]=>To
 |d::J=>D.imm d&&imms J
end
mutual
def D.dep:D->Nat
 |.non=>0
 |.bl _=>0
 |.int _=>0
 |.str _=>0
 |.tup J=>deps J+1
 |.lst J=>deps J+1
 |.dct _ _ _ _=>1000
 |.exc _=>1000
 |.fn _ _=>1000
 |.obj _ _ _=>1000
 |.mls _ _=>1000
 |.adr _=>1000
def deps:List D->Nat
 |[]=>0
 |d::J=>max (D.dep d) (deps J)
end
mutual
theorem vZ:∀d:D,d.dep<=900->d.eqv d=To
 |.non,_=>rfl
 |.bl b,_=>ZJ b
 |.int i,_=>ZJ i
 |.str x,_=>ZJ x
 |.tup J,h=>JhT J (qR h)
 |.lst J,h=>JhT J (qR h)
 |.dct _ _ _ _,h=>by simp only[D.dep]at h;lia
 |.exc _,h=>by simp only[D.dep]at h;lia
 |.fn _ _,h=>by simp only[D.dep]at h;lia
 |.obj _ _ _,h=>by simp only[D.dep]at h;lia
 |.mls _ _,h=>by simp only[D.dep]at h;lia
 |.adr _,h=>by simp only[D.dep]at h;lia
theorem JhT:∀J:List D,deps J<=900->eqvs J J=To
 |[],_=>rfl
 |d::J,h=>by rw[show eqvs (d::J) (d::J)=(d.eqv d&&eqvs J J)from rfl,vZ d (Zy (Nat.le_max_left _ _) h),JhT J (Zy (Nat.le_max_right _ _) h)];rfl
end
def wH(x y:Str):(D.str x).eqv Hc=(x==y):=rfl
def JtN(a b:D)(f bs:Aq):eqvs (a::f) (b::bs)=(a.eqv b&&eqvs f bs):=rfl
noncomputable def ixn (n:Nat) (i:Int):Option Nat:=if 0<=i then(if i<n then So i.toNat else No)else if -(n:Int)<=i then So (i+n).toNat else No
def atD  (xs:AD) (i:Int):Option α:=(ixn Ah i).bind λj=>xs[j]?
noncomputable def six (n d:Nat):Option Int->Nat
 |none=>d
 |some v=>if v<0 then(v+(n:Int)).toNat else min Qcs n
def cutD  (xs:AD) (lo hi:A2):List α:=(xs.drop (six Ah 0 lo)).take (six Ah Ah hi-six Ah 0 lo)
noncomputable def lineD:Nat:=16777216
noncomputable def Rs.ofOpt :Option α->Rs α
 |some a=>.ok a
 |none=>.sk
noncomputable def kN (x:Str):List D:=x.cps.toList.map λc=>.str ⟨#[c]⟩
def D.walk:D->Rs cI
 |.tup J=>.ok J
 |.lst J=>.ok J
 |.str x=>.ok (kN x)
 |_=>.sk
def D.truth:D->Rs Bool
 |.non=>.ok Fo
 |.bl b=>.ok b
 |.int i=>.ok (i !=0)
 |.str x=>if x.length<=lineD then .ok ((Yo:Int)!=0)else .sk
 |.tup J=>.ok (!J.isEmpty)
 |.lst J=>.ok (!J.isEmpty)
 |_=>.sk
noncomputable def D.bound:D->Rs (Option Int)
 |.non=>.ok No
 |.int i=>.ok (So i)
 |_=>.sk
noncomputable def ltS (a b:Str):Bool:=decide (a.cps.toList<b.cps.toList)
def insS (x:Str):List Str->List Str
 |[]=>[x]
 |y::ys=>if x==y then y::ys else if ltS x y then x::y::ys else y::insS x ys
def Jx:List Str->List Str
 |[]=>[]
 |x::xs=>insS x (Jx xs)
noncomputable def mkS (l:Aj):Str:=⟨l.toArray⟩
noncomputable def Jn (sep:Aj):List (List Nat)->List Nat
 |[]=>[]
 |[x]=>x
 |x::y::r=>x++(sep++Jn sep (y::r))
noncomputable def lN (x:Nat):List (List Nat)->List B3
 |[]=>[[x]]
 |p::r=>(x::p)::r
def Jk (c:Nat):List Nat->List B3
 |[]=>[[]]
 |x::l=>if x=c then[]::Jk c l else lN x QcK
noncomputable def cutL (c:Nat):List Nat->List Nat×Option B3
 |[]=>([],No)
 |x::l=>if x=c then([],So l)else(x::(cutL c l).1,(cutL c l).2)
def uC (x:Aj) (c:Nat):D:=match cutL c x with
 |(a,So b)=>.tup [.str bO,.str (mkS [c]),.str Qav]
 |(_,No)=>.tup [.str (mkS x),.str Gj,.str Gj]
noncomputable def JQ:List D->Option GV
 |[]=>So []
 |.str x::J=>(JQ J).map (x::·)
 |_::_=>No
inductive O1 where
 |neg|not|isN|notN|len|all|any|tuple|list|sset|lset|truth|isStr|isTup|range|enum|asI|rows|isC (cs:List Str) (c:Str)|items|dictP|rev|join|fld (f:Str)|sortD|isO (ns:List Str)
inductive O2 where
 |add|sub|mul|fdiv|mod|eq|ne|lt|le|gt|ge|isin|idx|zip|rep|index|count|dIn (t:Bool)|dNi (t:Bool)|dGet (t:Bool)|joinS|splitS|partS|ends|strt
noncomputable def smallI (i:Int):Bool:=decide (-(2^64)<i)&&decide (i<2^64)
noncomputable def midI (i:Int):Bool:=decide (-(2^62)<=i)&&decide (i<2^62)
noncomputable def JZ (a:D):Bool:=decide (a.dep<=20)
noncomputable def upTo (lo:Int) (n:Nat):List D:='ր'.map fun(k:Nat)=>D.int (lo+(k:Int))
noncomputable def oV (k:Nat):List D->List D
 |[]=>[]
 |d::J=>.tup [.int k,d]::oV A1 J
noncomputable def zipD:List D->List D->List D
 |a::as,b::bs=>.tup [a,b]::zipD as bs
 |_,_=>[]
noncomputable def sC:List D->Option (List Bool)
 |[]=>So []
 |.bl b::J=>(sC J).map (b::·)
 |_::_=>No
noncomputable def digs (cs:Aj):Nat:=cs.foldl (λa c=>a*10+(c-48)) 0
noncomputable def sG:D->Option Str
 |.str x=>if x.length<=1000 then So x else No
 |.int i=>if i.natAbs<2^64 then So (toString i:A9)else No
 |_=>No
def yA:List D->Option Str
 |[]=>So YM
 |d::J=>match sG d,yA J with
  |some x,So y=>if x.length+y.length<=2000 then So (x++y)else No
  |_,_=>No
noncomputable def JwN (kp:D->Bool):List D->Option (List D×List D)
 |[]=>So ([],[])
 |d::J=>match d with
  |.tup [k,v]=>if kp k then(JwN kp J).map λp=>(k::p.1,v::p.2)else No
  |_=>No
noncomputable def keyN:D->Bool
 |.str _=>To
 |.non=>To
 |_=>Fo
noncomputable abbrev rowsD:List D->Option (List D×List D):=JwN keyN
noncomputable def banD (x:Str):Bool:=x==oS "any"||x==oS "number"||x==oS "one"||x==oS "rest"||x==oS "word"
noncomputable def keyB:D->Bool
 |.int _=>To
 |.str _=>To
 |.non=>To
 |_=>Fo
def keyD (t:Bool):D->Bool
 |.tup _=>Fo
 |d=>!t&&keyB d
noncomputable def oA (k:D):List D->List D->Option D
 |a::ks,v::vs=>if a.eqv k then So v else oA k ks vs
 |_,_=>No
noncomputable def setD (k v:D):List D->List D->List D
 |a::ks,u::vs=>(if a.eqv k then v else u)::setD k v ks vs
 |_,vs=>vs
def putD (k v:D) (ks vs:Aq):List D×List D:=if ks.any λa=>a.eqv k then(ks,setD k v ks vs)else(ks++[k],vs++[v])
noncomputable def idxD (x:D):List D->Option Nat
 |[]=>No
 |d::J=>if d.eqv x then So 0 else(idxD x J).map (·+1)
noncomputable def JpI:List D->Option eG
 |[]=>So []
 |.int i::J=>(JpI J).map (i::·)
 |_::_=>No
noncomputable def lexI:List Int->List Int->Bool
 |[],[]=>Fo
 |[],_::_=>To
 |_::_,[]=>Fo
 |i::is,j::js=>if i=j then lexI is js else decide (i<j)
def keysOf:List D->Option (List eG)
 |[]=>So []
 |.tup ks::J=>match JpI ks,keysOf J with
  |some k,So r=>So (k::r)
  |_,_=>No
 |_::_=>No
noncomputable def Jqt (J:Aq):Rs D:=match rowsD J with
 |some (ks,vs)=>if ks.Pairwise (λa b=>a.eqv b=Fo)/\ks.length<=1000 then .ok (.dct Fo To ks vs)else .sk
 |none=>.sk
noncomputable def isiD (f:D->Bool):D->Rs D
 |.dct _ _ _ _=>.sk
 |.exc _=>.sk
 |.fn _ _=>.sk
 |.obj _ _ _=>.sk
 |.mls _ _=>.sk
 |.adr _=>.sk
 |d=>.ok (.bl (f d))
noncomputable def onII (a b:D) (k:Int->Int->Rs D):Rs D:=match a with
 |.int i=>match b with
  |.int j=>k i j
  |_=>.sk
 |_=>.sk
noncomputable def onSS (a b:D) (k:Str->Str->Rs D):Rs D:=match a with
 |.str i=>match b with
  |.str j=>k i j
  |_=>.sk
 |_=>.sk
def Jgw{a b:D}{k:Str->Str->Rs D}(h:(onSS a b k).Good P E):∃i j,a=.str i/\b=.str j/\(k i j).Good P E:=by
 cases a<;>first|exact(show False from h).elim|skip
 cases b<;>first|exact(show False from h).elim|exact QaF
noncomputable def onQ (a:D) (k:List D->Rs D):Rs D:=match a with
 |.tup J=>k J
 |.lst J=>k J
 |_=>.sk
def JjB{a:D}{k:List D->Rs D}(h:(onQ a k).Good P E):∃J,(a=.tup J\/a=.lst J)/\(k J).Good P E:=by cases a<;>first|exact(show False from h).elim|exact⟨_,.inl rfl,h⟩|exact⟨_,.inr rfl,h⟩
noncomputable def onD (a:D) (k:Bool->List D->List D->Rs D):Rs D:=match a with
 |.dct t _ ks b=>k t ks b
 |_=>.sk
def Jjh{a:D}{k:Bool->List D->List D->Rs D}(h:(onD a k).Good P E):∃t z ks b,a=.dct t z ks b/\(k t ks b).Good P E:=by cases a<;>first|exact(show False from h).elim|exact⟨_,_,_,_,rfl,h⟩
def tL{a b:D}{k:Int->Int->Rs D}(h:(onII a b k).Good P E):∃i j,a=.int i/\b=.int j/\(k i j).Good P E:=by
 cases a<;>first|exact(show False from h).elim|skip
 cases b<;>first|exact(show False from h).elim|exact QaF
def op1 (o:O1) (d:D):Rs D:=
 match o with
 |.neg=>match d with
  |.int i=>.ok (.int (-i))
  |_=>.sk
 |.not=>match d with
  |.bl b=>.ok (.bl !b)
  |_=>.sk
 |.isN=>match d with
  |.non=>.ok B0
  |_=>.ok Bq
 |.notN=>match d with
  |.non=>.ok Bq
  |_=>.ok B0
 |.len=>match d with
  |.tup J=>.ok QaM
  |.lst J=>.ok QaM
  |.mls _ J=>.ok QaM
  |.str x=>if x.length<=lineD then .ok (.int Yo)else .sk
  |_=>.sk
 |.all=>match d with
  |.lst J=>match sC J with
   |some bs=>.ok (.bl (bs.all id))
   |none=>.sk
  |_=>.sk
 |.any=>match d with
  |.lst J=>match sC J with
   |some bs=>.ok (.bl (bs.any id))
   |none=>.sk
  |_=>.sk
 |.tuple=>match d with
  |.tup J=>.ok G9
  |.lst J=>.ok G9
  |_=>.sk
 |.list=>match d with
  |.tup J=>.ok BL
  |.lst J=>.ok BL
  |_=>.sk
 |.sset=>match d with
  |.lst J=>match JQ J with
   |some h=>if h.length<60 then .ok (.lst ((Jx h).map .str))else .sk
   |none=>.sk
  |_=>.sk
 |.lset=>match d with
  |.lst J=>match JQ J with
   |some h=>if h.length<60 then .ok (.int (Jx h).length)else .sk
   |none=>.sk
  |_=>.sk
 |.truth=>d.truth.bind λb=>.ok Bt
 |.isStr=>isiD (λd=>match d with
   |.str _=>To
   |_=>Fo) d
 |.isTup=>isiD (λd=>match d with
   |.tup _=>To
   |_=>Fo) d
 |.range=>match d with
  |.int i=>if midI i then .ok (.lst (upTo 0 i.toNat))else .sk
  |_=>.sk
 |.enum=>onQ d λJ=>.ok (.lst (oV 0 J))
 |.asI=>match d with
  |.int i=>.ok AZ
  |_=>.sk
 |.rows=>match d with
  |.tup J=>.ok G9
  |.lst J=>.ok BL
  |_=>.sk
 |.fld f=>match d with
  |.obj _ l fs=>match(l.zip fs).lookup f with
   |some v=>.ok v
   |none=>.sk
  |_=>.sk
 |.isC q c=>match d with
  |.exc m=>if q.contains m then .ok (.bl (c==oS "ValueError"||m==c))else .sk
  |_=>.sk
 |.items=>match d with
  |.dct _ To ks r=>.ok (.lst (zipD ks r))
  |_=>.sk
 |.dictP=>match d with
  |.tup J=>Jqt J
  |.lst J=>Jqt J
  |_=>.sk
 |.rev=>match d with
  |.lst J=>.ok (.lst Qc8)
  |_=>.sk
 |.join=>match d with
  |.lst J=>match yA J with
   |some x=>.ok Cu
   |none=>.sk
  |_=>.sk
 |.isO l=>match d with
  |.obj a j fs=>if j=l then .ok (.obj a j fs)else .sk
  |_=>.sk
 |.sortD=>match d with
  |.dct Fo _ ks _=>match JQ ks with
   |some h=>if h.Nodup/\h.length<60 then .ok (.lst ((Jx h).map .str))else .sk
   |none=>.sk
  |_=>.sk
noncomputable def repS (x:Str) (k:Int):Str:=⟨(List.replicate aY x.cps).foldl (·++·) #[]⟩
noncomputable def qE (x:Str) (c:Nat):Bool:=decide (c∈x.cps.toList)
def op2 (o:O2) (a b:D):Rs D:=
 match o with
 |.add=>match a,b with
  |.int i,.int j=>.ok (.int (i+j))
  |.str x,.str y=>if x.length+y.length<=lineD then .ok (.str (x++y))else .sk
  |.tup xs,.tup ys=>if Ah+BU<=lineD then .ok (.tup (xs++ys))else .sk
  |.lst xs,.lst ys=>if Ah+BU<=lineD then .ok (.lst (xs++ys))else .sk
  |_,_=>.sk
 |.sub=>onII a b λi j=>.ok (.int (i-j))
 |.mul=>match a,b with
  |.int i,.int j=>if smallI i||smallI j then .ok (.int (i*j))else .sk
  |.str x,.int k=>if 2<=k/\k<=1000/\1<=Yo/\x.length<=1000 then .ok (.str (repS x k))else .sk
  |_,_=>.sk
 |.fdiv=>onII a b λi j=>if 0<j/\j<1073741824 then .ok (.int (i / j))else .sk
 |.mod=>onII a b λi j=>if 0<j then .ok (.int (i % j))else .sk
 |.eq=>if JZ a&&JZ b then .ok (.bl (a.eqv b))else .sk
 |.ne=>if JZ a&&JZ b then .ok (.bl (!a.eqv b))else .sk
 |.lt=>match a with
  |.int i=>match b with
   |.int j=>.ok (.bl (decide (i<j)))
   |_=>.sk
  |.str x=>match b with
   |.str y=>.ok (.bl (ltS x y))
   |_=>.sk
  |_=>.sk
 |.le=>onII a b λi j=>.ok (.bl (decide (i<=j)))
 |.gt=>onII a b λi j=>.ok (.bl (decide (j<i)))
 |.ge=>onII a b λi j=>.ok (.bl (decide (j<=i)))
 |.isin=>match a,b with
  |.str x,.str y=>if x.cps=#[x.cps.getD 0 0]then .ok (.bl (qE y (x.cps.getD 0 0)))else .sk
  |a,.tup J=>if JZ (.tup J)&&JZ a then .ok (.bl Qz)else .sk
  |a,.lst J=>if JZ BL&&JZ a then .ok (.bl Qz)else .sk
  |_,_=>.sk
 |.idx=>match a,b with
  |.tup J,.int i=>Rs.ofOpt (atD J i)
  |.lst J,.int i=>Rs.ofOpt (atD J i)
  |.str x,.int i=>if x.length<=lineD then Rs.ofOpt ((atD Yw i).map λc=>.str ⟨#[c]⟩)else .sk
  |_,_=>.sk
 |.zip=>onQ a λxs=>onQ b λys=>.ok Pf
 |.rep=>match a,b with
  |.lst J,.int k=>if midI k&&decide (Ac*k.toNat<=lineD)then .ok (.lst (List.replicate aY J).flatten)else .sk
  |_,_=>.sk
 |.dIn f=>onD b λt ks _=>if t=f/\keyD t a=To then .ok (.bl (ks.any λd=>d.eqv a))else .sk
 |.dNi f=>onD b λt ks _=>if t=f/\keyD t a=To then .ok (.bl (!ks.any λd=>d.eqv a))else .sk
 |.dGet f=>onD a λt ks h=>if t=f/\keyD t b=To then Rs.ofOpt (oA b ks h)else .sk
 |.index=>match a,b with
  |.lst J,x=>if JZ BL&&JZ x&&decide (Ac<=1000)then Rs.ofOpt ((idxD x J).map λn=>.int n)else .sk
  |_,_=>.sk
 |.count=>match a,b with
  |.lst J,x=>if JZ BL&&JZ x&&decide (Ac<=1000)then .ok (.int (J.countP λd=>d.eqv x))else .sk
  |_,_=>.sk
 |.joinS=>match a,b with
  |.str s,.lst J=>match JQ J with
   |some xs=>if s.length<=1000/\(Jn YJ (xs.map (·.cps.toList))).length<=20000 then .ok (.str (mkS (Jn YJ (xs.map (·.cps.toList)))))else .sk
   |none=>.sk
  |.str s,.tup J=>match JQ J with
   |some xs=>if s.length<=1000/\(Jn YJ (xs.map (·.cps.toList))).length<=20000 then .ok (.str (mkS (Jn YJ (xs.map (·.cps.toList)))))else .sk
   |none=>.sk
  |_,_=>.sk
 |.splitS=>onSS a b λx y=>if x.length<=20000/\y.cps=#[y.cps.getD 0 0]then .ok (.lst ((Jk Qa6 Yw).map λl=>.str RT))else .sk
 |.partS=>onSS a b λx y=>if x.length<=20000/\y.cps=#[y.cps.getD 0 0]then .ok (uC Yw Qa6)else .sk
 |.ends=>onSS a b λx y=>.ok (.bl (decide (0+y.length<=Yo)&&(x.cps.extract (x.length-y.length) (x.length-y.length+y.length)==y.cps)))
 |.strt=>onSS a b λx y=>.ok (.bl (decide (0+y.length<=Yo)&&(x.cps.extract 0 (0+y.length)==y.cps)))
inductive Px where
 |var (i:Nat)|con (d:D)|un (o:O1) (a:Px)|bi (o:O2) (a b:Px)|and (a b:Px)|or (a b:Px)|ite (c a b:Px)|nil|cons (a as:Px)|tup (as:Px)|dis (as:Px)|call (f:Nat) (as:Px)|sl (a lo hi:Px)|walk (a:Px)|comp (nt:Nat) (src c e:Px)|told (f:Nat) (cs:List Str) (a:Px)
 deriving Inhabited
noncomputable def usesP:Px->Nat->Bool
 |.var j,i=>j==i
 |.con _,_=>Fo
 |.un _ a,i=>usesP a i
 |.bi _ a b,i=>usesP a i||usesP b i
 |.and a b,i=>usesP a i||usesP b i
 |.or a b,i=>usesP a i||usesP b i
 |.ite c a b,i=>usesP c i||usesP a i||usesP b i
 |.nil,_=>Fo
 |.cons a b,i=>usesP a i||usesP b i
 |.tup a,i=>usesP a i
 |.dis a,i=>usesP a i
 |.call _ a,i=>usesP a i
 |.sl a b c,i=>usesP a i||usesP b i||usesP c i
 |.walk a,i=>usesP a i
 |.comp nt s c e,i=>usesP s i||usesP c (i+(if nt=0 then 1 else nt))||usesP e (i+(if nt=0 then 1 else nt))
 |.told _ _ a,i=>usesP a i
def sepP (M:Aj) (p:Px):Bool:=M.all λi=>!usesP p i
mutual
def D.noL:D->Bool
 |.lst _=>Fo
 |.tup J=>noLs J
 |.dct _ _ _ a=>noLs a
 |.obj _ _ fs=>noLs fs
 |.mls _ J=>noLs J
 |_=>To
def noLs:List D->Bool
 |[]=>To
 |d::J=>D.noL d&&noLs J
end
noncomputable def noLI:Option (Option D)->Bool
 |some (So d)=>d.noL
 |_=>To
noncomputable abbrev Fm:=List (Option D)
variable{O:Fm}
noncomputable def qY:List D->Rs Fm
 |[x,.tup [y,z]]=>.ok Pp
 |_=>.sk
def kA (nt:Nat) (d:D):Rs Fm:=
 if nt=0 then .ok [So d]else match d with
  |.tup J=>if nt=5 then qY J else if Ac=nt then .ok (J.map So)else .sk
  |_=>.sk
def JiN{J:Aq}{r:Rs Fm}(h:qY J=r):r=.sk\/∃x y z,J=[x,.tup [y,z]]/\r=.ok Pp:=by
 unfold qY at h;split at h
 ·exact .inr ⟨_,_,_,rfl,h.symm⟩
 ·exact .inl h.symm
def mV{d:D}{c:Str}(h:kA nt d=.ex c):False:=by
 unfold kA at h;split at h
 ·cases h
 ·split at h
  ·split at h
   ·rcases JiN h with z|⟨_,_,_,_,z⟩<;>cases z
   ·split at h<;>cases h
  ·cases h
def JX (nt:Nat) (c e:Fm->Rs D) (O:Fm):List D->Rs cI
 |[]=>.ok []
 |d::J=>(kA nt d).bind λa=>(c (a++O)).calm.bind λb=>match b with
  |.bl To=>(e (a++O)).bind λy=>(JX nt c e O J).bind λf=>.ok (y::f)
  |.bl Fo=>JX nt c e O J
  |_=>.sk
noncomputable abbrev CallD:=Nat->List D->Rs D
noncomputable def D.asL:D->Rs cI
 |.lst J=>.ok J
 |_=>.sk
def evD (U:Ae):Px->Fm->Rs D
 |.var i,O=>match O[i]? with
  |some (So d)=>.ok d
  |_=>.sk
 |.con d,_=>.ok d
 |.un o a,O=>'ű'.bind (op1 o)
 |.bi o a b,O=>'ű'.bind λx=>(evD U b O).bind λy=>op2 o x y
 |.and a b,O=>'ű'.bind λx=>match x with
  |.bl To=>evD U b O
  |.bl Fo=>.ok Bq
  |_=>.sk
 |.or a b,O=>'ű'.bind λx=>match x with
  |.bl To=>.ok B0
  |.bl Fo=>evD U b O
  |_=>.sk
 |.ite c a b,O=>'Ժ'.bind λx=>match x with
  |.bl To=>evD U a O
  |.bl Fo=>evD U b O
  |_=>.sk
 |.nil,_=>.ok Hl
 |.cons a as,O=>'ű'.bind λx=>'Ǚ'.bind λy=>y.asL.bind λJ=>.ok (.lst (x::J))
 |.tup as,O=>'Ǚ'.bind λy=>y.asL.bind λJ=>if Ac<=lineD then .ok (.tup J)else .sk
 |.dis as,O=>'Ǚ'.bind λy=>y.asL.bind λJ=>if Ac<=lineD then .ok BL else .sk
 |.call f as,O=>'Ǚ'.bind λy=>y.asL.bind λJ=>U f J
 |.sl a lo hi,O=>'ű'.bind λx=>(evD U lo O).bind λl=>l.bound.bind λl=>(evD U hi O).bind λh=>h.bound.bind λh=>match x with
  |.tup J=>.ok (.tup Mu)
  |.lst J=>.ok (.lst Mu)
  |.str x=>if x.length<=20000 then .ok (.str Vo)else .sk
  |_=>.sk
 |.walk a,O=>'ű'.bind λx=>x.walk.bind λJ=>.ok BL
 |.comp nt src c e,O=>'ѳ'.bind λs=>s.asL.bind λJ=>if Ac<=lineD then(JX nt Yj 'Ո' O J).bind λj=>.ok (.lst j)else .sk
 |.told f cs a,O=>match evD U a O with
  |.ok d=>.ok d
  |.ex c=>if cs.contains c then(match U f CZ with
   |.ok d=>.ok d
   |_=>.sk)else .sk
  |.sk=>.sk
inductive Sx where
 |skip|seq (a b:Sx)|set (m:Bool) (i:Nat) (e:Px)|own (i:Nat) (e:Px)|app (m:Bool) (i:Nat) (e:Px)|ext (m:Bool) (i:Nat) (e:Px)|eff (e:Px)|ret (e:Px)|ite (c:Px) (a b:Sx)|loop (m:Bool) (ts:List Nat) (nt:Nat) (src:Px) (body:Sx)|brk|raise (c:Str) (p:Px)|whl (n:Nat) (c:Px) (body:Sx)|put (m t:Bool) (i:Nat) (k v:Px)|ownD (t:Bool) (i:Nat)|retF (i:Nat)|sw (is:List Nat) (b:Sx)
 deriving Inhabited
inductive Fw where
 |nx|rt (d:D)|bk|ct
noncomputable def yB:List Nat->List (Option D)->Fm->Fm
 |i::is,s::ss,O=>yB is ss Mj
 |_,_,O=>O
def forL (ts:Aj) (nt:Nat) (a:Fm->Rs (Fw×Fm)):List D->Fm->Rs (Fw×Fm)
 |[],O=>.ok aG
 |d::J,O=>(kA nt d).bind λb=>(a (yB ts b O)).bind λr=>match r with
  |(.nx,env2)=>forL ts nt a J env2
  |(.ct,env2)=>forL ts nt a J env2
  |(.bk,env2)=>.ok HD
  |(.rt d,env2)=>.ok Lr
noncomputable def whlL (c:Fm->Rs D) (a:Fm->Rs (Fw×Fm)):Nat->Fm->Rs (Fw×Fm)
 |0,_=>.sk
 |n+1,O=>(c O).bind λb=>match b with
  |.bl To=>(a O).bind λr=>match r with
   |(.nx,env2)=>whlL c a n env2
   |(.ct,env2)=>whlL c a n env2
   |(.bk,env2)=>.ok HD
   |(.rt d,env2)=>.ok Lr
  |.bl Fo=>.ok aG
  |_=>.sk
noncomputable def txtOk:D->Bool
 |.str x=>decide (Yo<=1000)&&x.cps.toList.all λc=>decide (c<256)
 |_=>Fo
def lK:D->Bool
 |.lst J=>J.all txtOk
 |_=>Fo
noncomputable def mutS:Sx->Bool
 |.seq a b=>mutS a||mutS b
 |.app _ _ _=>To
 |.ext _ _ _=>To
 |.ite _ a b=>mutS a||mutS b
 |.loop _ _ _ _ b=>mutS b
 |.whl _ _ b=>mutS b
 |.put _ _ _ _ _=>To
 |_=>Fo
noncomputable def Jv (M:Aj):Nat->Fm->Fm
 |_,[]=>[]
 |j,s::O=>(if j∈M then No else s)::Jv M (j+1) O
noncomputable def kK:Rs (Fw×Fm)->Rs (Fw×Fm)
 |.ok (.rt d,O)=>.ok EA
 |.ok _=>.sk
 |.ex c=>.ex c
 |.sk=>.sk
def exD (U:Ae):Sx->Fm->Rs (Fw×Fm)
 |.skip,O=>.ok aG
 |.seq a b,O=>(exD U a O).bind λr=>match r with
  |(.nx,env2)=>exD U b env2
  |r=>.ok r
 |.set m i e,O=>'Ɵ'.bind λd=>if m&&!d.imm then .sk else .ok Qcw
 |.own i e,O=>'Ɵ'.bind λd=>match d with
  |.lst J=>if !imms J then .sk else .ok fZ
  |_=>.sk
 |.ownD t i,O=>.ok VY
 |.retF i,O=>match O[i]? with
  |some (So (.dct t Fo ks vs))=>.ok (.rt SK,O)
  |_=>.sk
 |.app m i e,O=>match O[i]? with
  |some (So (.lst J))=>'Ɵ'.bind λd=>if(m&&!d.imm)||!decide (Ac<lineD)then .sk else .ok (.nx,O.set i (So (.lst (J++[d]))))
  |_=>.sk
 |.ext m i e,O=>match O[i]? with
  |some (So (.lst J))=>'Ɵ'.bind λy=>y.asL.bind λf=>if(m&&!imms f)||!decide (Ac+f.length<=lineD)then .sk else .ok (.nx,O.set i (So (.lst (J++f))))
  |_=>.sk
 |.eff e,O=>'Ɵ'.bind λ_=>.ok aG
 |.ret e,O=>'Ɵ'.bind λd=>.ok EA
 |.ite c a b,O=>'Ժ'.bind λx=>match x with
  |.bl To=>exD U a O
  |.bl Fo=>exD U b O
  |_=>.sk
 |.loop m ts nt src body,O=>'ѳ'.bind λs=>s.asL.bind λJ=>if m&&(mutS body||!imms J)then .sk else forL ts nt (exD U body) J O
 |.brk,O=>.ok (.bk,O)
 |.raise c p,O=>'Ơ'.bind λd=>if lK d then .ex c else .sk
 |.whl n c body,O=>whlL Yj (exD U body) n O
 |.put m t' i k v,O=>match O[i]? with
  |some (So (.dct t Fo ks vs))=>(evD U v O).bind λy=>(evD U k O).bind λx=>if(m&&!y.imm)||!(t==t')||!keyD t x||!decide (Bh<1000)then .sk else .ok (.nx,O.set i (So (.dct t Fo (putD x y ks vs).1 (putD x y ks vs).2)))
  |_=>.sk
 |.sw is b,O=>kK (exD U b Ln)
theorem zI{M:Aj}:∀(O:Fm)(j i:Nat),(Jv M j O)[i]? =(O[i]?).map λs=>if j+i∈M then No else s
 |[],_,_=>by simp[Jv]
 |s::O,j,0=>by simp[Jv]
 |s::O,j,i+1=>by
  have:=zI (M:=M) O (j+1) i
  simp only[Jv,yJ,this]
  rw[show j+1+i=j+'{' by lia]
def Jlx{d:D}{new:Fm}(h:kA nt d=.ok new):new.length=if nt=0 then 1 else nt:=by
 unfold kA at h;split at h
 ·rename_i q;cases h;simp[q]
 ·rename_i q;split at h
  ·split at h
   ·rename_i e;subst e;rcases JiN h with z|⟨_,_,_,_,z⟩
    ·cases z
    ·cases z;rfl
   ·split at h
    ·rename_i e;cases h;simp[q,e]
    ·cases h
  ·cases h
def Jek{c e f b:Fm->Rs D}{env':Fm}(j:∀a:Fm,bC=(if nt=0 then 1 else nt)->c (a++O)=f (a++env'))(h:∀a:Fm,bC=(if nt=0 then 1 else nt)->e (a++O)=b (a++env')):
  ∀J,JX nt c e O J=JX nt f b env' J
 |[]=>rfl
 |d::J=>by
  have m:=Jek j h J
  unfold JX
  cases l:kA nt d with
  |ok a=>
   have i:=Jlx l
   simp only[Rs.bo,j a i,h a i,m]
  |ex x=>rfl
  |sk=>rfl
theorem JdV(U:Ae):∀(p:Px)(O env':Fm),(∀i,usesP p i=To->O[i]? =env'[i]?)->evD U p O=evD U p env':=by
 intro p;induction p with
 |var j=>intro O env' h;simp only[evD,h j (by simp[usesP])]
 |con d=>intro O env' h;rfl
 |un o a l=>intro O env' h;simp only[evD,l O env' λi q=>h i ':']
 |bi o a b l m=>intro O env' h;simp only[evD,l O env' λi q=>h i ':',m O env' λi q=>h i ':']
 |and a b l m=>intro O env' h;simp only[evD,l O env' λi q=>h i ':',m O env' λi q=>h i ':']
 |or a b l m=>intro O env' h;simp only[evD,l O env' λi q=>h i ':',m O env' λi q=>h i ':']
 |ite c a b t l m=>intro O env' h;simp only[evD,t O env' λi q=>h i ':',l O env' λi q=>h i ':',m O env' λi q=>h i ':']
 |nil=>intro O env' h;rfl
 |cons a b l m=>intro O env' h;simp only[evD,l O env' λi q=>h i ':',m O env' λi q=>h i ':']
 |tup a l=>intro O env' h;simp only[evD,l O env' λi q=>h i ':']
 |dis a l=>intro O env' h;simp only[evD,l O env' λi q=>h i ':']
 |call f a l=>intro O env' h;simp only[evD,l O env' λi q=>h i ':']
 |sl a b c l m t=>intro O env' h;simp only[evD,l O env' λi q=>h i ':',m O env' λi q=>h i ':',t O env' λi q=>h i ':']
 |walk a l=>intro O env' h;simp only[evD,l O env' λi q=>h i ':']
 |told f A a l=>intro O env' h;simp only[evD,l O env' λi q=>h i ':']
 |comp nt s c e x t w=>
  intro O env' h;have app:∀(u:Px),(∀i,usesP u (i+(if nt=0 then 1 else nt))=To->O[i]? =env'[i]?)->∀r:Fm,Yx=(if nt=0 then 1 else nt)->∀i,usesP u i=To->(r++O)[i]? =(r++env')[i]?:=λu y r v i z=>by
   by_cases q:i<Yx
   ·rw[xF q,xF q]
   ·rw[yF 'c',yF 'c'];refine y _ ?_;rw[show i-r.length+(if nt=0 then 1 else nt)=i by lia];exact z
  simp only[evD,x O env' λi q=>h i ':'];rw[show JX nt 'ͻ' 'Ո' O=JX nt 'ͻ' 'Ո' env' from funext λJ=>Jek (λr v=>t _ _ (app c OK r v)) (λr v=>w _ _ (app e OK r v)) J]
def Jw(U:Ae){M:Aj}{p:Px}(O:Fm)(h:BW):evD U p eH=evD U p O:=by
 refine JdV U p _ _ λi f=>?_;have a:i∉M:=λb=>by have:=wA.mp h i b;rw[f]at this;simp at this
 rw[zI];simp only[iJ,if_neg a];cases O[i]? <;>rfl
noncomputable def Jd:Rs (Fw×Fm)->Rs D
 |.ok (.nx,_)=>.ok .non
 |.ok (.rt d,_)=>.ok d
 |.ok _=>.sk
 |.ex c=>.ex c
 |.sk=>.sk
structure DefD where
 slots:Nat
 params:Nat
 body:Sx
noncomputable def JG (n:Nat) (J:Aq):Fm:=J.map So++List.replicate (n-Ac) No
def runD (defs:B4):Nat->CallD
 |0=>λ_ _=>.sk
 |k+1=>λf J=>match defs[f]? with
  |some d=>if Ac=aK then Jd (exD B1 YF DV)else .sk
  |none=>.sk
def Rs.ofOpt_ex{o:Option α}{c:Str}:Rs.ofOpt o≠.ex c:=by cases o<;>simp[Rs.ofOpt]
noncomputable def xH:Px->Bool
 |.var _=>To
 |.con _=>To
 |_=>Fo
def vO(U:Ae){p:Px}(h:xH p=To):evD U p O=.sk\/∃d,evD U p O=.ok d:=by
 cases p with
 |var i=>
  simp only[evD];cases O[i]? with
  |none=>exact .inl rfl
  |some o=>cases o with
   |none=>exact .inl rfl
   |some d=>exact .inr ⟨d,rfl⟩
 |con d=>exact .inr ⟨d,rfl⟩
 |_=>cases h
def qK:Px->Bool
 |.nil=>To
 |.cons a p=>xH a&&qK p
 |_=>Fo
def JgG(U:Ae){p:Px}:qK p=To->evD U p O=.sk\/∃J,evD U p O=.ok BL:=by
 induction p with
 |nil=>exactλ_=>.inr ⟨[],rfl⟩
 |cons a p _ f=>
  intro h;simp only[qK,Zc]at h;simp only[evD];rcases vO U (O:=O) h.1 with q|⟨d,q⟩
  ·rw[q];exact .inl rfl
  ·rcases f h.2 with b|⟨J,b⟩
   ·rw[q,b];exact .inl rfl
   ·rw[q,b];exact .inr ⟨d::J,rfl⟩
 |_=>exactλh=>Bool.noConfusion h
def JvZ(a b:D)(c:Str):op2 .idx a b≠.ex c:=by intro h;cases a<;>first|(cases h;done)|(cases b<;>first|(cases h;done)|exact Rs.ofOpt_ex h|(simp only[op2]at h;split at h;exact Rs.ofOpt_ex h;cases h))
noncomputable def isIdx:O2->Bool
 |.idx=>To
 |_=>Fo
def noEx:Px->Bool
 |.tup a=>qK a
 |.bi o a b=>isIdx o&&(xH a&&xH b)
 |p=>xH p
def Jhu(U:Ae)(p:Px)(O:Fm)(c:Str)(h:noEx p=To):evD U p O≠.ex c:=by
 have f:∀{p:Px},xH p=To->evD U p O≠.ex c:=λh e=>by rcases vO U (O:=O) h with q|⟨d,q⟩<;>(rw[q]at e;cases e)
 cases p with
 |tup a=>
  intro e;simp only[evD]at e;rcases JgG U (O:=O) (show qK a=To from h)with q|⟨J,q⟩
  ·rw[q]at e;cases e
  ·rw[q]at e;simp only[Rs.bo,D.asL]at e;split at e<;>cases e
 |bi o a b=>
  simp only[noEx,Zc]at h;obtain⟨l,r,s⟩:=h;have j:o=.idx:=by cases o<;>first|rfl|cases l
  subst j;intro e;simp only[evD]at e;rcases vO U (O:=O) r with q|⟨d,q⟩
  ·rw[q]at e;cases e
  ·rw[q]at e;simp only[Rs.bo]at e;rcases vO U (O:=O) s with i|⟨m,i⟩
   ·rw[i]at e;cases e
   ·rw[i]at e;exact JvZ d m c e
 |_=>exact f h
def JfS(x:Str):∀(l:Ag)(w:Str),w∈insS x l↔w=x\/w∈l
 |[],w=>by simp[insS]
 |y::ys,w=>by
  unfold insS
  split
  ·next h=>
   have:x=y:=by simpa using h
   subst this
   simp
  ·split
   ·simp
   ·simp only[Ze,JfS x ys w]
    constructor
    ·rintro(h|h|h)<;>simp[h]
    ·rintro(h|h|h)<;>simp[h]
def JO:∀(l:Ag)(w:Str),w∈Jx l↔w∈l
 |[],w=>Iff.rfl
 |y::ys,w=>by
  unfold Jx
  rw[JfS,JO ys w]
  simp
def LtS(a b:Str):Prop:=a.cps.toList<b.cps.toList
def LtS.irrefl(a:Str):¬LtS a a:=List.lt_irrefl _
def LtS.trans{a b c:Str}(h:LtS a b)(h':LtS b c):LtS a c:=List.lt_trans h h'
def LtS.asymm{a b:Str}(h:LtS a b)(h':LtS b a):False:=LtS.irrefl a (h.trans h')
def LtS.total{a b:Str}(h:¬LtS a b)(f:a≠b):LtS b a:=by
 by_cases z:LtS b a
 ·exact z
 ·exfalso;apply f;have e:a.cps.toList=b.cps.toList:=List.le_antisymm (List.not_lt.mp z) (List.not_lt.mp h);cases a with
  |mk x=>cases b with
   |mk y=>have:x=y:=Array.toList_inj.mp e;rw[this]
def JgY(x:Str):∀l:List Str,l.Pairwise LtS->(insS x l).Pairwise LtS
 |[],_=>by simp[insS]
 |y::ys,h=>by
  obtain⟨i,j⟩:=jG.mp h
  unfold insS
  split
  ·exact h
  ·next f=>
   have f:x≠y:=by simpa using f
   split
   ·next a=>
    have a:LtS x y:=ZW (p:=Yw<y.cps.toList) a
    refine jG.mpr ⟨λz b=>?_,h⟩
    rcases Ze.mp b with rfl|b
    ·exact a
    ·exact a.trans (i z b)
   ·next a=>
    have a:¬LtS x y:=λz=>a (ZD (p:=Yw<y.cps.toList) z)
    refine jG.mpr ⟨λz b=>?_,JgY x ys j⟩
    rcases(JfS x ys z).mp b with rfl|b
    ·exact LtS.total a f
    ·exact i z b
def JH:∀l:List Str,(Jx l).Pairwise LtS
 |[]=>Qb1
 |x::xs=>JgY x _ (JH xs)
def JdS:∀a b:List Str,a.Pairwise LtS->b.Pairwise LtS->(∀k,k∈a↔k∈b)->a=b
 |[],[],_,_,_=>rfl
 |[],y::b,_,_,h=>by
  have:=(h y).mpr Af
  simp at this
 |x::a,[],_,_,h=>by
  have:=(h x).mp Af
  simp at this
 |x::a,y::b,hx,hy,h=>by
  obtain⟨l,m⟩:=jG.mp hx
  obtain⟨j,o⟩:=jG.mp hy
  have e:x=y:=by
   rcases Ze.mp ((h x).mp Af)with e|e
   ·exact e
   ·rcases Ze.mp ((h y).mpr Af)with i|i
    ·exact i.symm
    ·exact((j x e).asymm (l y i)).elim
  subst e;rw[JdS a b m o λk=>?_];constructor
  ·intro f
   rcases Ze.mp ((h k).mp (by simp[f]))with e|e
   ·subst e;exact((LtS.irrefl _) (l _ f)).elim
   ·exact e
  ·intro f
   rcases Ze.mp ((h k).mpr (by simp[f]))with e|e
   ·subst e;exact((LtS.irrefl _) (j _ f)).elim
   ·exact e
theorem JmL:∀l:List Str,(Jx l).length<=l.length:=by
 have ins:∀(x:Str)(l:Ag),(insS x l).length<=Yr+1:=by
  intro x l;induction l with
  |nil=>simp[insS]
  |cons y f b=>
   unfold insS;split
   ·simp
   ·split
    ·simp
    ·simp only[Zm];lia
 intro l;induction l with
 |nil=>simp[Jx]
 |cons x a b=>unfold Jx;have:=ins x (Jx a);simp only[Zm];lia
def Jas(l:Ag)(h:l.Pairwise LtS):l.Nodup:=h.imp fun{a b}z e=>by
 subst e
 exact LtS.irrefl _ z
mutual
def Jl:D->Bool
 |.non=>To
 |.bl _=>To
 |.int _=>To
 |.str _=>To
 |.exc _=>To
 |.fn _ _=>To
 |.adr _=>To
 |.tup J=>Jg J
 |.lst J=>Jg J
 |.dct _ z _ a=>z&&Jg a
 |.obj _ _ _=>Fo
 |.mls _ _=>Fo
def Jg:List D->Bool
 |[]=>To
 |d::J=>Jl d&&Jg J
end
noncomputable def plE:Fm->Bool
 |[]=>To
 |none::O=>plE O
 |some d::O=>Jl d&&plE O
def kU:∀{O:Fm}{i:Nat}{d:D},plE O=To->O[i]? =So BB->Jl d=To
 |[],_,_,_,h=>by simp at h
 |none::O,0,d,_,h=>by simp at h
 |some x::O,0,d,p,h=>by simp at h;subst h;simp only[plE,Zc]at p;exact p.1
 |none::O,i+1,d,p,h=>kU (O:=O) (i:=i) p DG
 |some x::O,i+1,d,p,h=>by simp only[plE,Zc]at p;exact kU (i:=i) p.2 DG
def Jmj{i j:Nat}{d:D}(p:plE C5=To)(h:O[j]? =So BB)(n:j≠i):Jl d=To:=kU p (by rw[Zv (Ne.symm n)];exact h)
inductive Rc where
 |ok (d st:D)|ex (c:Str) (st:D)|sk
def Rc.Good(r:Rc)(P:D->D->Prop)(E:Str->D->Prop):Prop:=match r with
 |.ok d a=>P d a
 |.ex c a=>E c a
 |.sk=>False
noncomputable abbrev CallB:=Nat->D->List D->Rc
inductive Rx where
 |ok (d:D) (env:Fm)|ex (c:Str) (env:Fm)|sk
def Rx.Good(r:Rx)(P:D->Fm->Prop)(E:EK):Prop:=match r with
 |.ok d O=>P d O
 |.ex c O=>E c O
 |.sk=>False
noncomputable def Rx.bind (r:Rx) (f:D->Fm->Rx):Rx:=match r with
 |.ok d O=>f d O
 |.ex c O=>.ex c O
 |.sk=>.sk
def Rx.Good.imp{r:Rx}{P a:D->Fm->Prop}{E b:EK}(h:GJ)(i:∀d e,P d e->a d e)(f:∀c e,E c e->b c e):r.Good a b:=by
 cases r with
 |ok d e=>exact i d e h
 |ex c e=>exact f c e h
 |sk=>exact h
inductive Bx where
 |pur (p:Px)|call (r:Bool) (f i:Nat) (ns:List Str) (as:Px)|bi (o:O2) (a b:Bx)|isN (a:Bx)|or (a b:Bx)|tolB (fi:Nat) (cs:List Str) (f i:Nat) (ns:List Str) (as:Px)
noncomputable def Rx.of (O:Fm):Rs D->Rx
 |.ok d=>.ok d O
 |.ex c=>.ex c O
 |.sk=>.sk
noncomputable def Rx.lay (r:Bool) (O:Fm) (i:Nat):Rc->Rx
 |.ok d st=>.ok d Hr
 |.ex c st=>if r then .ex c Hr else .sk
 |.sk=>.sk
noncomputable def pN (U:Ae) (fi:Nat) (cs:Ag) (O:Fm) (i:Nat):Rc->Rx
 |.ok d st=>.ok d Hr
 |.ex c st=>if cs.contains c then(match U fi CZ with
  |.ok d=>.ok d Hr
  |_=>.sk)else .sk
 |.sk=>.sk
def evB (U:Ae) (bc:AG):Bx->Fm->Rx
 |.pur p,O=>.of O 'Ơ'
 |.call r f i ns as,O=>match O[i]? with
  |some (So (.obj a ns' fs))=>if ns'=ns then match evD U as O with
   |.ok (.lst J)=>if plE C5&&Jg J then .lay r O i (bc f B2 J)else .sk
   |.ex c=>if r then .ex c O else .sk
   |_=>.sk else .sk
  |_=>.sk
 |.bi o a b,O=>'ց'.bind λx h=>(evB U bc b h).bind λy j=>if Jl x then .of j (op2 o x y)else .sk
 |.isN a,O=>'ց'.bind λx h=>.of h (op1 .isN x)
 |.tolB fi cs f i ns as,O=>match O[i]? with
  |some (So (.obj a ns' fs))=>if ns'=ns then match evD U as O with
   |.ok (.lst J)=>if plE C5&&Jg J then pN U fi cs C5 i (bc f B2 J)else .sk
   |_=>.sk else .sk
  |_=>.sk
 |.or a b,O=>'ց'.bind λx h=>match x with
  |.bl To=>.ok B0 h
  |.bl Fo=>evB U bc b h
  |_=>.sk
inductive Bs where
 |lift (p:Sx)|seq (a b:Bs)|ite (t:Bx) (a b:Bs)|eff (e:Bx)|set (i:Nat) (e:Bx)|ret (p:Px)|loop (ts:List Nat) (nt:Nat) (src:Px) (body:Bs)|raise (c:Str) (p:Px)|newL (f:Str)|appF (f:Str) (p:Px)|putK (f:Str) (k p:Px)|popK (f:Str) (k:Px)|retB (e:Bx)
inductive Rq where
 |ok (f:Fw) (env:Fm)|ex (c:Str) (env:Fm)|sk
def Rq.Good(r:Rq)(P:Fw->Fm->Prop)(E:EK):Prop:=match r with
 |.ok d O=>P d O
 |.ex c O=>E c O
 |.sk=>False
noncomputable def Rq.bind (r:Rq) (f:Fw->Fm->Rq):Rq:=match r with
 |.ok d O=>f d O
 |.ex c O=>.ex c O
 |.sk=>.sk
noncomputable def Rx.next (r:Rx) (f:D->Fm->Rq):Rq:=match r with
 |.ok d O=>f d O
 |.ex c O=>.ex c O
 |.sk=>.sk
def Rq.gB{r:Rq}{f:Fw->Fm->Rq}{P:Fw->Fm->Prop}{E:EK}:(r.bind f).Good P E↔r.Good (λd O=>(f d O).Good P E) E:=by cases r<;>rfl
def Rx.good_next{r:Rx}{f:D->Fm->Rq}{P:Fw->Fm->Prop}{E:EK}:(r.next f).Good P E↔r.Good (λd O=>(f d O).Good P E) E:=by cases r<;>rfl
def Rq.Good.imp{r:Rq}{P a:Fw->Fm->Prop}{E b:EK}(h:GJ)(i:∀d e,P d e->a d e)(f:∀c e,E c e->b c e):r.Good a b:=by
 cases r with
 |ok d e=>exact i d e h
 |ex c e=>exact f c e h
 |sk=>exact h
noncomputable def liftQ (w:Bool):Rs (Fw×Fm)->Rq
 |.ok (.rt d,O)=>if w then .sk else .ok CJ O
 |.ok (f,O)=>.ok f O
 |_=>.sk
def forB (ts:Aj) (nt:Nat) (b:Fm->Rq):List D->Fm->Rq
 |[],O=>.ok .nx O
 |d::J,O=>match kA nt d with
  |.ok h=>(b (yB ts h O)).bind λf a=>match f with
   |.nx=>forB ts nt b J a
   |.ct=>forB ts nt b J a
   |.bk=>.ok .nx a
   |.rt d=>.ok CJ a
  |_=>.sk
noncomputable def putN  (f:Str) (v:α):List Str->List α->List α
 |n::ns,x::xs=>if n=f then v::xs else x::putN f v ns xs
 |_,xs=>xs
noncomputable def jI:D->Bool
 |.dct _ _ _ a=>Jg a
 |.mls _ J=>Jg J
 |d=>Jl d
def chgF (f:Str) (d':D) (O:Fm):Rq:=match O with
 |some (.obj a ns fs)::env'=>if ns.contains f&&fs.all jI&&plE env'&&decide (AX<1000)then .ok .nx MP else .sk
 |_=>.sk
noncomputable def othD (m:Bool) (f:Str):D->Bool
 |.mls t J=>(!m||!(t==f))&&Jg J
 |.dct _ _ _ a=>m&&Jg a
 |d=>Jl d
def chgM (m:Bool) (f:Str) (g:D->Option D) (O:Fm):Rq:=match O with
 |some (.obj a ns fs)::env'=>match(ns.zip fs).lookup f with
  |some d=>match g d with
   |some d'=>if plE env'&&(putN f D.non ns fs).all (othD m f)then .ok .nx MP else .sk
   |none=>.sk
  |none=>.sk
 |_=>.sk
noncomputable def delD (k:D):List D->List D->List D×List D
 |a::ks,v::vs=>if a.eqv k then delD k ks vs else(a::(delD k ks vs).1,v::(delD k ks vs).2)
 |ks,vs=>(ks,vs)
noncomputable def appG (f:Str) (d:D):D->Option D
 |.mls t J=>if t==f&&Jg J&&decide (Ac<1000)then So (.mls t (J++[d]))else No
 |_=>No
def putG (x y:D):D->Option D
 |.dct Fo Fo ks a=>if Jg a&&decide (Bh<1000)then So (.dct Fo Fo (putD x y ks a).1 (putD x y ks a).2)else No
 |_=>No
def popG (x:D):D->Option D
 |.dct Fo Fo ks b=>if Jg b&&ks.any (λa=>a.eqv x)then So (.dct Fo Fo (delD x ks b).1 (delD x ks b).2)else No
 |_=>No
noncomputable def Rc.at (O:Fm):Rc->Rq
 |.ok d st=>.ok CJ (So st::O)
 |.ex c st=>.ex c (So st::O)
 |.sk=>.sk
def exO (w:Bool) (U:Ae) (bc:AG):Bs->Fm->Rq
 |.lift p,O=>liftQ w (exD U p O)
 |.seq a b,O=>(exO w U bc a O).bind λf j=>match f with
  |.nx=>exO w U bc b j
  |f=>.ok f j
 |.ite t a b,O=>(evB U bc t O).next λx h=>match x with
  |.bl To=>exO w U bc a h
  |.bl Fo=>exO w U bc b h
  |_=>.sk
 |.eff e,O=>'ւ'.next λ_ h=>.ok .nx h
 |.set i e,O=>'ւ'.next λd h=>if Jl d then .ok .nx (h.set i BB)else .sk
 |.ret p,O=>match evD U p O with
  |.ok d=>.ok CJ O
  |.ex c=>.ex c O
  |.sk=>.sk
 |.loop ts nt src body,O=>match evD U src O with
  |.ok (.lst J)=>if Jg J&&imms J then forB ts nt FV J O else .sk
  |.ex c=>.ex c O
  |_=>.sk
 |.raise c p,O=>match evD U p O with
  |.ok d=>if lK d then .ex c O else .sk
  |_=>.sk
 |.newL f,O=>chgF f (.mls f []) O
 |.appF f p,O=>match evD U p O with
  |.ok d=>if Jl d then chgM To f (appG f d) O else .sk
  |_=>.sk
 |.putK f k p,O=>match evD U p O with
  |.ok y=>match evD U k O with
   |.ok x=>if Jl y&&keyD Fo x then chgM Fo f (putG x y) O else .sk
   |_=>.sk
  |_=>.sk
 |.popK f k,O=>match evD U k O with
  |.ok x=>if keyD Fo x then chgM Fo f (popG x) O else .sk
  |_=>.sk
 |.retB e,O=>'ւ'.next λd h=>.ok CJ h
structure DefB where
 slots:Nat
 params:Nat
 body:Bs
noncomputable def jE:D->D->Bool
 |.obj a _ _,.obj b _ _=>a==b
 |_,_=>Fo
def ansB (s0:D):Rq->Rc
 |.ok .nx (So st::_)=>if jE s0 st then .ok .non st else .sk
 |.ok (.rt d) (So st::_)=>if jE s0 st then .ok d st else .sk
 |.ex c (So st::_)=>if jE s0 st then .ex c st else .sk
 |_=>.sk
def runB (defs:B4) (bdefs:FY):Nat->CallB
 |0=>λ_ _ _=>.sk
 |k+1=>λf st J=>match bdefs[f]? with
  |some b=>if Ac+1=b.params then ansB st (exO To B1 BY b.body (JG b.slots (st::J)))else .sk
  |none=>.sk
noncomputable def nsS:List Str:=[oS "tables",oS "done",oS "undone"]
def Jlq (a:Nat):D:=.obj a nsS [.dct Fo Fo [] [],.mls E1 [],.mls E8 []]
def mutB:Bs->Bool
 |.lift p=>mutS p
 |.seq a b=>mutB a||mutB b
 |.ite _ a b=>mutB a||mutB b
 |.loop _ _ _ b=>mutB b
 |_=>Fo
end Pu
namespace Rd
open PySem PySem.Spec PyProof.Rows L2 PySem.W
variable{H:Hp}{P:Bk}{w:Bc}{s s':Ao}{h base B:Heap}{A:Bg}{C a:Addr}{mg:Bf}
def HOk.onB{h':Heap}(ok:CM)(tr:∀b u,H b=So u->∃o,B.get? b=So o)(k1:B.StaysIn h)(k2:B.StaysIn h'):HOk P w H h':=λa o e=>
 ObjOk.stay (ok a o e) (λb u i q=>by
  have l:∃o,B.get? b=So o:=by
   rcases i with rfl|i
   ·exact tr _ _ e
   ·exact tr _ _ i
  obtain⟨ob,f⟩:=l;have j:=k1 b ob f;rw[q]at j;cases j;exact k2 b _ f) J2 (λ_ _ z=>z)
def ObjOk.has{o:HO}(x:Nu):∃ob,h.get? a=So ob:=by
 cases o with
 |lst i=>obtain⟨_,_,_,_,e⟩:=x;exact⟨_,e⟩
 |lsm _ i=>obtain⟨_,_,_,_,e⟩:=x;exact⟨_,e⟩
 |tup i=>obtain⟨_,_,_,ob,e,_⟩:=x;exact⟨_,e⟩
 |dK b=>obtain⟨_,_,_,_,ob,_,_,e,_⟩:=x;exact⟨_,e⟩
 |dT b=>exact x.elim
 |set S n=>obtain⟨ob,_,_,_,e,_⟩:=x;exact⟨_,e⟩
 |ins C j fs=>obtain⟨_,_,_,e,_⟩:=x;exact⟨_,e⟩
 |own y=>obtain⟨_,e⟩:=x;exact⟨_,e⟩
 |xd fs=>obtain⟨_,⟨_,_,_,e,_⟩,_⟩:=x;exact⟨_,e⟩
 |rng r q=>obtain⟨_,_,_,e⟩:=x;exact⟨_,e⟩
 |frz ob u=>obtain⟨e,_⟩:=x;exact⟨_,e⟩
 |tbl l=>obtain⟨_,_,_,_,e,_⟩:=x;exact⟨_,e⟩
 |met f y=>exact⟨_,(show h.get? a=So _ from x)⟩
 |ext m=>obtain⟨_,⟨_,e⟩,_⟩:=x;exact⟨_,e⟩
def HOk.has(ok:CM){b:Addr}{u:HO}(e:H b=So u):∃o,h.get? b=So o:=ObjOk.has (ok b u e)
def CXr (P:Bk) (w:Bc):CXT:=λf H s E e s'=>∃(a C:Addr)(W:Hp)(B:Heap)(i:Am),e=.ref a/\s'.os=s.os/\AllBare s'.gens/\Un (frs f) [] H W WL YG/\HOk P w W YG/\
 Heap.FlyingW B f a AV i YG/\(∀b u,W b=So u->∃o,B.get? b=So o)/\(∀b o,s.heap.get? b=So o->b∉frs f->(H b=No->B.get? b=So o)/\∃j,B.get? b=So j)/\E AV No W
def qZ(B:Heap)(l:Bb)(e:Addr)(b a0 fl:Am)(h:Heap):Prop:=B.StaysIn h/\B.get? e=No/\h.FunFrames B l/\h.TracedAtW B e b a0 fl
section
variable{M:Model}{E:Az}{O:Env}{outer:Bb}{L e:Addr}{cls a0 fl:Am}{Q:Ej}
def Jev(v:A.frames=So CB)(m:O.frame=So L)(x:RF)(F:∀l,Heap.HeldW B CB e cls a0 L l->s.heap.UpToSlots l->Q () {s with heap:=l}):wpAny M A OJ Q E s:=by
 obtain⟨W,r,X,t⟩:=x;by_cases G:fl=rawInt L
 ·subst G;exact wpAny_noteFrame_againW m t (F WL ⟨W,r,X,t⟩ (Heap.UpToSlots.refl _))
 ·obtain⟨oe,I,T,oT,ts,N,⟨hc,h0⟩,J,U,z,y,u,i,Y⟩:=t;subst hc;unfold noteFrame;simp only[m];refine Za (ZV N J U ?_);rw[if_pos 'k'];refine Za (ZV u i Y ?_);rw[if_neg (by simpa using G)];refine Za (qC u i (zJ.mp Y).1 ?_);have oth:∀b,b≠T->(s.heap.update T (Obj.mapFields (·.setIfInBounds 3 Ys))).get? b=s.heap.get? b:=λb hb=>ZS _ _ Fg;have Z:∀b o,s.heap.get? b=So o->(∀I,o.data≠.fields I)->b≠T:=λb o hb f q=>by rw[q,u]at hb;injection hb with hb;subst hb;exact f ts i
  refine wpAny_entryW v (X.of_keeps λb o hb f=>⟨o,'仆'.trans hb,rfl⟩) m ((oth e (Ne.symm y)).trans N) (λb o j=>(oth b λq=>by
   rw[q,z]at j;cases j).trans (W b o j)) r J (zJ.mp U).1 h0 λl hN=>?_
  obtain⟨x1,x2,x3,x4⟩:=hN;exact F l ⟨x1,r,x2,x3⟩ λb o hb f=>x4 b o ('仆'.trans hb) f
def Jkv(f:A.frames=So CB)(q:O.frame=So L)(x:RF)(o:∀l,Heap.FlyingW B outer e cls a0 l->s.heap.UpToSlots l->Q () {s with heap:=l}):wpAny M A (leaving O KI) Q E s:=by unfold leaving;refine Za (Jev f q x λz b r=>?_);refine wpAny_landsW b λv j i=>?_;obtain⟨y,u,⟨_,_,m⟩,t⟩:=j;exact o v ⟨y,u,m,t⟩ (r.trans i)
end
structure FlyIn(X:Cx)(C a:Addr)(W:Hp)(s':Ao):Prop where
 inv:∃Y Z,Inv X Y Z W s'/\((∃h vs,Heap.MadeExcOf h YG a AV vs/\Inv X Y Z W {s' with heap:=h})\/
  ∃B a0 fl,qZ B Yt a AV a0 fl YG/\(∀b u,W b=So u->∃o,B.get? b=So o)/\(∀b o,X.s₀.heap.get? b=So o->b∉frs X.stack->b∉X.ex->(X.H₀ b=No->B.get? b=So o)/\∃o',B.get? b=So o')/\∀p∈X.pn,B.get? p.1=So p.2)
noncomputable def cxE (CX:CXT) (P:Bk) (w:Bc) (K:Ak) (mg:Bf) (base:Heap) (N:Ag) (O:Env) (fn:Str->Bool) (cm:Bool) (A:Bg) (outer:Bb) (s:Ao) (H:Hp) (E:XK):Cx where
 prog:=P
 w:=w
 K:=K
 mg:=mg
 base:=base
 A:=A.deeper O
 N:=N
 s₀:=s
 H₀:=H
 env:=O
 outer:=outer
 stack:=O::outer
 ex:=[]
 calm:=cm
 fn:=fn
 pn:=[]
 xe:=λe s'=>wpAny Cm (A.deeper O) (leaving O e) (λ_ b=>CX outer H s E e b) (λf b=>CX outer H s E f b) s'
section
variable{K:Ak}{N:Ag}{O:Env}{fn:Str->Bool}{cm:Bool}{outer:Bb}{W:Hp}{E:XK}
def Jjf(j:O.frame=So Aa){Y:AU}{Z:Cg}{h1 h':Heap}{a0:Am}(I:Inv 'ƞ' Y Z W {s' with heap:=h1})
  (fl:Heap.FlyingW B outer a AV a0 h') (k1:B.StaysIn h1) (up:h1.UpToSlots h') (tr:∀b u,W b=So u->∃o,B.get? b=So o)
  (kp:∀b o,s.heap.get? b=So o->b∉frs CB->(H b=No->B.get? b=So o)/\∃t,B.get? b=So t) (hE:Qc2):CXr P w outer H s E AE {s' with heap:=h'}:=by
 have l:∀b o,s.heap.get? b=So o->b∉frs outer->b∉frs CB:=λb o f m q=>by
  unfold frs at q;rw[wD,j]at q;rcases Ze.mp q with e|q
  ·have:=Zk f;rw[e]at this;exact absurd this Cr
  ·exact m q
 have u:=Z8;refine⟨a,C,W,B,a0,rfl,I.os,YB,⟨?_,?_,?_,?_,u.tups,u.frzs,u.tbls⟩,HOk.onB YC tr k1 fl.1,fl,tr,λb o f m=>kp b o f (l b o f m),hE⟩
 ·intro b o f m j _;exact fl.1 b o ((kp b o f (l b o f j)).1 m)
 ·intro b o f m j _;obtain⟨sl,y⟩:=u.slot b o f m j (by show b∉([]:List Addr);simp);obtain⟨_,z,i,x⟩:=(show s.heap.FunFrames base outer from I.ok.funs).mem j;rw[f]at i;cases i;obtain⟨r,v⟩:=up b _ y x;exact⟨r,v⟩
 ·intro b o f m _;exact u.free b o f m (by show b∉([]:List Addr);simp)
 ·intro b o f _;by_cases j:b∈frs outer
  ·obtain⟨_,z,i,x⟩:=(show s.heap.FunFrames base outer from I.ok.funs).mem j;rw[f]at i;cases i;obtain⟨sl,y⟩:=u.slot b o f Qb5 j (by show b∉([]:List Addr);simp);obtain⟨r,v⟩:=up b _ y x;exact⟨_,v⟩
  ·obtain⟨t,e⟩:=(kp b o f (l b o f j)).2;exact⟨t,fl.1 b t e⟩
def JdL(f:O.frame=So Aa)(F:FlyIn 'ƞ' C a W s')(hE:Qc2):'ƞ'.xe AE s':=by
 obtain⟨Y,Z,I,hx⟩:=F.inv;have hst:'ƞ'.stack=O::outer:=rfl;show wpAny Cm (A.deeper (O)) (leaving (O) AE) _ _ s';have l:(A.deeper (O)).frames=So CB:=fP;rcases hx with⟨h,vs,L,j⟩|⟨B,a0,flv,r,tr,U,_⟩
 ·have G:∀y∈(O::outer),∀b,y.frame=So b->b∈frs CB:=λy x b i=>ZX.mpr ⟨y,x,i⟩;have M:(hideAll h (frs CB)).StaysIn h:=λb o q=>of_hideAll _ q;refine wpAny_leaves_madeW l f M (funFrames_hide j.stack G) L λh' t r _ _ v=>?_;refine Jjf f (B:=hideAll h (frs CB)) (h1:=h) j r M ((yW L.keeps).trans v) (λb u e=>?_) (λb o i m=>SN) hE
  ·obtain⟨o,X⟩:=HOk.has j.hok e;exact⟨o,hideAll_get _ X λz=>by rw[j.stkFree b z]at e;cases e⟩
  ·refine hideAll_get _ (j.base.keep b o i h0 (λz=>m ?_) (by show b∉([]:List Addr);simp)) m;exact ZX.mpr (by obtain⟨e,x,f⟩:=ZX.mp z;exact⟨e,.tail _ x,f⟩)
  ·obtain⟨o',e⟩:=j.base.there b o i (by show b∉([]:List Addr);simp);exact⟨o',hideAll_get _ e m⟩
 ·refine Jkv l f r λh' J v=>?_;exact Jjf f (h1:=YG) I J r.1 v tr (λb o i m=>U b o i m (by show b∉([]:List Addr);simp)) hE
end
def yU{K:Ak}{N:Ag}{i:Str}{b:AO}{f:Addr}{l:Am}{j:Bb}{W:Hp}{E:XK}(F:FlyIn 'ҕ' C a W s')(hE:Qc2):'ҕ'.xe AE s':=
 JdL (O:=envOfC i b Aa f l) (fn:=λ_=>To) (cm:=To) rfl F hE
def pL{X:Cx}{Y:AU}{Z:Cg}{E:XK}{e:Am}(I:AI)(h:CXr Yu X.w Yt H s E e s'):∃a C W,e=.ref a/\FlyIn X C a W s'/\E AV No W:=by
 obtain⟨a,C,W,B,a0,rfl,J,hg,u,l,G,tr,j,hE⟩:=h;have I':Inv X Y Z W s':=I.call' J u l hg QS;have i:∀b,b∉X.fs->b≠AB->b∉frs Yt:=λb h1 h2 F=>by
  rcases Ze.mp (I.stkSub b F)with e|e
  ·exact h2 e
  ·exact h1 e
 refine⟨a,C,W,rfl,⟨Y,Z,I',.inr ⟨B,a0,.none,G,tr,λb o m r f=>?_,λp U=>?_⟩⟩,hE⟩;rotate_left
 ·obtain⟨N,q2,x,q4,_⟩:=I.pin p (yM _ U);exact(j p.1 p.2 N (i p.1 q4 x)).1 q2
 have t:b∉X.fs:=λz=>r (by
  rcases I.ok.stk with e|⟨e,_⟩
  ·rw[e];exact z
  ·rw[e];obtain⟨M,O,y⟩:=ZX.mp z;exact ZX.mpr ⟨M,.tail _ O,y⟩)
 constructor
 ·intro v;have q:=I.base.keep b o m v t f;exact(j b o q r).1 (I.base.free b o m v f)
 ·obtain⟨L,q⟩:=I.base.there b o m f;exact(j b L q r).2
def Jel{M:Model}{E:Az}{O:Env}{outer:Bb}{L e:Addr}{f:Am}{j:AF}{Q:Ej}
  (r:A.frames=So CB) (u:O.frame=So L) (m:base.StaysIn h) (X:h.FunFrames base CB) (i:Heap.MadeExcOf h WL e f j)
  (y:∀q a0,Heap.HeldW base CB e f a0 L q->s.heap.UpToSlots q->Q () {s with heap:=q}):wpAny M A OJ Q E s:=by
 obtain⟨t,v,W,Y⟩:=i.there;have fresh:∀b,h.get? b=No->base.get? b=No:=λb l=>by
  cases N:base.get? b with
  |none=>rfl
  |some G=>have:=m b G N;rw[l]at this;cases this
 unfold noteFrame;simp only[u];refine Za (ZV (x:=Ys) v rfl rfl ?_);rw[if_neg (show¬((Value.none !=Value.none)=To) by decide)];refine wpAny_entryW (a0:=.ref t) r (X.of_keeps λb o l _=>⟨o,i.keeps b o l,rfl⟩) u v (λb o l=>i.keeps b o (m b o l)) (fresh e i.new) rfl (by show 1<6;decide) rfl λq U=>?_;obtain⟨J,F,I,z⟩:=U;exact y q HG ⟨J,fresh e i.new,F,I⟩ z
noncomputable def nmK:Value->Str
 |.str n _=>n
 |_=>YM
def JtC(P:Bk){K:Ak}{x:Str}{f:AF}{b:A9}(M:Mod K mg base)(j:PySem.W.nsIn K mainGlobals x=So Bv)(q:excIn K C f b=To):OwnCls x C f b mg base:=by obtain⟨mb,m,u⟩:=M.blt;obtain⟨o,r,G,E,F,k,l⟩:=id M.glob;refine PySem.W.own_of_in (p:=P) (loose:=r.toList.map λe=>nmK Z0) (mb:=mb) M.kin ⟨M.glob,m,M.nolimit,u,λy _ h _ _ _=>?_⟩ j q;rw[<-l];refine Option.map_eq_none_iff.mpr (Array.find?_eq_none.mpr λe i z=>h (Zz.mpr ⟨e,by simpa using i,?_⟩));obtain⟨n,t,v⟩:=k e i;rw[v]at z⊢;exact eq_of_beq z
section
variable{X:Cx}{x:Str}{e:Expr}{te:TE}{np cpos pos:Pos}{bs0:AF}{Bn nid iid:A9}
def JoC(f:CQ)(hg:Z1)(U:PySem.W.nsIn X.K mainGlobals x=So Bv)(F:X.mg x=So AV)(hq:excIn X.K C bs0 nid=To)(o:ExcBaseFacts Bn nid iid bs0)(ha:F4)(l:FE)
  (j:K5):PS X Xv (λD Z H=>te Z H λv W=>([v]:List V).length=1/\∀a s',FlyIn X C a W s'->X.xe AE s'):=by
 intro Y s Z H D I h;obtain⟨tl,N,nm,E,bs,J,sn,sub,ab,col,dd,k0,k1,k2,k3,k5,mN,G,hN,m,T⟩:=(JtC Yu bA U hq).obj;refine wpAny_Raise_call_subT (C:=C) (nm:=nm) (q:=E) (N:=N) (bs:=bs) (bm:=tl) (hdct:=J) (sn:=sn) (sub:=sub) (ab:=ab) (col:=col) (dd:=dd) (k0:=k0) (k1:=k1) (k2:=k2) (k3:=k3) (k5:=k5)
  o (mN:=mN) (T.hasType o.hasBase) (I.ok.hd f) (by rw[j];rfl) m (uI I hg F dI l)
 have r:=(JE ha rA j) cpos Y s Z H (λvs W=>AQ=1/\∀a s',FlyIn X C a W s'->X.xe AE s') I h;rw[j]at r⊢;refine wQ (ZT r (λu t M=>?_) λ_ _ z=>z);obtain⟨vs,H2,i,O,y,hx⟩:=M;have L:u.length<=sizeLine:=by rw[<-O.length,y];decide
 refine⟨rfl,L,i.bk _ _ G,hN.keeps i.bk,T.keeps i.bk,λh' a b=>?_⟩;exact hx a _ ⟨Y,Z,i.kept (t':=t.toks) b.keeps,.inl ⟨t.heap,u,b,i⟩⟩
end
end Rd
namespace Rd
open PySem PySem.Spec PyProof.Rows L2 Pu
variable{H W:Hp}{Z:Cg}{d:D}{xs:Aw}{s:Ao}{X:Cx}{x:Str}{J:Aq}{a Cd:Addr}{Y:AU}{pos:Pos}{v:V}{pc ps pe:Px}{o:O2}{scope:AO}{A:Bg}{E:Az}{N:Ag}{nm:Bd}{elt iter tg:Expr}{ifs:CY}{its:AF}{nt:Nat}{cs:DP}{prog:Bk}{fp:A7}{α:Type}{P:D->Prop}
noncomputable def keyV:L2.Key->D
 |.inl n=>.int n
 |.inr x=>.str x
 |.non=>.non
mutual
def JuT:KTr L2.Key->D
 |.a k=>keyV k
 |.t ks=>.tup (zN ks)
def zN:List (KTr Z2)->List D
 |[]=>[]
 |k::ks=>JuT k::zN ks
end
def DK(H:Hp)(a:Addr)(t z:Bool)(ks:Aq)(xs:Aw):Prop:=match t with
 |true=>∃kvs:List (List (KTr Z2)×V),(match z with
  |true=>∃o,H a=So (.frz o KC)
  |false=>H a=So KC)/\ks=kvs.map (λp=>.tup (zN p.1))/\xs=kvs.map (·.2)
 |false=>∃kvs:List (L2.Key×V),(match z with
  |true=>∃o,H a=So (.frz o A3)
  |false=>H a=So A3)/\ks=kvs.map (λp=>keyV p.1)/\xs=kvs.map (·.2)
def DK.mono{t z:Bool}{ks:Aq}(e:∀o,H a=So o->W a=So o)(h:R0):DK W a t z ks xs:=by
 cases t<;>cases z<;>obtain⟨b,f,i⟩:=h
 ·exact QdJ
 ·exact⟨b,let⟨o,h⟩:=f;⟨o,e _ h⟩,i⟩
 ·exact QdJ
 ·exact⟨b,let⟨o,h⟩:=f;⟨o,e _ h⟩,i⟩
noncomputable def clsN (ns:Ag):Str:=if ns.contains (oS "rows")then oS "Board" else oS "Site"
mutual
def Rep(K:Ak)(H:Hp):D->V->Prop
 |.non,v=>v=.non
 |.bl b,v=>v=.bl b
 |.int i,v=>v=.int i
 |.str x,v=>v=.str x
 |.tup J,v=>∃a xs,v=.ref a/\SqT K H a xs/\Reps K H J xs
 |.lst J,v=>∃a xs,v=.ref a/\SqL K H a xs/\Reps K H J xs
 |.dct t z ks vs,v=>∃a xs,v=.ref a/\DK H a t z ks xs/\Reps K H vs xs
 |.exc c,v=>∃a o C,v=.ref a/\H a=So (.frz o Oc)/\o.cls=.ref C/\PySem.W.nsIn K mainGlobals c=So Bv
 |.fn x _,v=>∃f,v=.ref f/\PySem.W.nsIn K mainGlobals x=So EZ
 |.obj a ns fs,v=>v=.ref a/\∃C h xs,H a=So (.ins C h 'ȷ')/\PySem.W.nsIn K mainGlobals CO=So Bv/\ns.length=Qc7/\Reps K H fs xs
 |.mls t J,v=>∃a xs,v=.ref a/\H a=So (.lsm t xs)/\Reps K H J xs
 |.adr b,v=>v=.ref b
def Reps(K:Ak)(H:Hp):List D->List V->Prop
 |[],xs=>xs=[]
 |d::J,xs=>∃x r,xs=x::r/\Rep K H d x/\Reps K H J r
end
def SqT.same{K:Ak}(e:Ct)(h:dH):SqT K W a xs:=by
 rcases h with h|h
 ·exact .inl (e _ _ h)
 ·exact .inr h
mutual
def Rep.mono{K:Ak}{H W:Hp}(e:Ct):∀(d:D){v:V},Rep K H d v->Rep K W d v
 |.non,_,h=>h
 |.bl _,_,h=>h
 |.int _,_,h=>h
 |.str _,_,h=>h
 |.tup J,_,⟨a,xs,e1,h1,h2⟩=>⟨a,xs,e1,SqT.same e h1,Reps.mono e J h2⟩
 |.lst J,_,⟨a,xs,e1,h1,h2⟩=>⟨a,xs,e1,e.seq h1,Reps.mono e J h2⟩
 |.dct t z ks vs,_,⟨a,xs,e1,h1,h2⟩=>⟨a,xs,e1,h1.mono (e a),Reps.mono e vs h2⟩
 |.exc c,_,⟨a,o,C,e1,h1,h2⟩=>⟨a,o,C,e1,e _ _ h1,h2⟩
 |.fn x _,_,h=>h
 |.obj a ns fs,_,⟨e1,C,dx,xs,h1,h2,h3,h5⟩=>⟨e1,C,dx,xs,e _ _ h1,h2,h3,Reps.mono e fs h5⟩
 |.mls t J,_,⟨a,xs,e1,h1,h2⟩=>⟨a,xs,e1,e _ _ h1,Reps.mono e J h2⟩
 |.adr _,_,h=>h
def Reps.mono{K:Ak}{H W:Hp}(e:Ct):∀(J:Aq){xs:Aw},Reps K H J xs->Reps K W J xs
 |[],_,h=>h
 |d::J,_,⟨x,r,e1,h1,h2⟩=>⟨x,r,e1,Rep.mono e d h1,Reps.mono e J h2⟩
end
def Reps.length{K:Ak}{H:Hp}:∀{J:Aq}{xs:Aw},Reps K H J xs->Ah=Ac
 |[],_,h=>by cases h;rfl
 |d::J,_,⟨x,r,e1,h1,h2⟩=>by subst e1;simp[Reps.length h2]
def Reps.get{K:Ak}{H:Hp}:∀{J:Aq}{xs:Aw}{i:Nat}{d:D},Reps K H J xs->J[i]? =So d->∃x,xs[i]? =So x/\Rep K H d x
 |[],_,_,_,_,e=>by simp at e
 |d::J,_,0,d',⟨x,r,e1,h1,h2⟩,e=>by subst e1;simp at e;subst e;exact⟨x,rfl,h1⟩
 |d::J,_,i+1,d',⟨x,r,e1,h1,h2⟩,e=>by
  subst e1
  obtain⟨y,b,f⟩:=Reps.get (i:=i) h2 (by simpa using e)
  exact⟨y,by simpa using b,f⟩
def Reps.get'{K:Ak}:∀{J:Aq}{xs:Aw}{i:Nat}{x:V},Reps K H J xs->xs[i]? =So x->∃d,J[i]? =So d/\Rep K H d x
 |[],_,_,_,h,e=>by cases h;simp at e
 |d::J,_,0,d',⟨x,r,e1,h1,h2⟩,e=>by subst e1;simp at e;subst e;exact⟨d,rfl,h1⟩
 |d::J,_,i+1,d',⟨x,r,e1,h1,h2⟩,e=>by
  subst e1
  obtain⟨y,b,f⟩:=Reps.get' (i:=i) h2 (by simpa using e)
  exact⟨y,by simpa using b,f⟩
def Reps.append{K:Ak}:∀{J b:Aq}{xs ys:Aw},Reps K H J xs->Reps K H b ys->Reps K H (J++b) (xs++ys)
 |[],_,_,_,h,h'=>by cases h;exact h'
 |d::J,b,_,ys,⟨x,r,e1,h1,h2⟩,h'=>by subst e1;exact⟨x,r++ys,rfl,h1,Reps.append h2 h'⟩
def Reps.take{K:Ak}:∀(n:Nat){J:Aq}{xs:Aw},Reps K H J xs->Reps K H (J.take n) (xs.take n)
 |0,_,_,h=>by simp[Reps]
 |n+1,[],_,h=>by cases h;simp[Reps]
 |n+1,d::J,_,⟨x,r,e1,h1,h2⟩=>by subst e1;exact⟨x,r.take n,rfl,h1,Reps.take n h2⟩
def Reps.drop{K:Ak}:∀(n:Nat){J:Aq}{xs:Aw},Reps K H J xs->Reps K H (J.drop n) (xs.drop n)
 |0,_,_,h=>by simpa using h
 |n+1,[],_,h=>by cases h;simp[Reps]
 |n+1,d::J,_,⟨x,r,e1,h1,h2⟩=>by subst e1;exact Reps.drop n h2
def Reps.nil_iff{K:Ak}(h:E5):xs=[]↔J=[]:=by
 have:=h.length;constructor
 ·intro e;subst e;cases J with
  |nil=>rfl
  |cons _ _=>simp at this
 ·intro e;subst e;exact h
def Reps.one{K:Ak}(h:D5):Reps K H [d] [v]:=⟨v,[],rfl,h,rfl⟩
def Tups(K:Ak)(H W:Hp):Prop:=(∀a xs,SqT K H a xs->SqT K W a xs)/\∀a o u,H a=So (.frz o u)->W a=So GY
def Tups.of{K:Ak}(e:Ct):Tups K H W:=⟨λ_ _ h=>SqT.same e h,λ_ _ _ h=>e _ _ h⟩
mutual
def Rep.tups{K:Ak}{H W:Hp}(e:Tups K H W):∀(d:D){v:V},d.imm=To->Rep K H d v->Rep K W d v
 |.non,_,_,h=>h
 |.bl _,_,_,h=>h
 |.int _,_,_,h=>h
 |.str _,_,_,h=>h
 |.tup J,_,i,⟨a,xs,e1,h1,h2⟩=>⟨a,xs,e1,e.1 _ _ h1,Reps.tups e J (by simpa[D.imm]using i) h2⟩
 |.lst J,_,i,_=>by simp[D.imm]at i
 |.dct t z ks vs,_,i,⟨a,xs,e1,h1,h2⟩=>by
  simp only[D.imm,Zc]at i
  refine⟨a,xs,e1,?_,Reps.tups e vs i.2 h2⟩
  obtain⟨rfl,_⟩:=i
  cases t<;>obtain⟨b,⟨o,f⟩,j⟩:=h1
  ·exact⟨b,⟨o,e.2 _ _ _ f⟩,j⟩
  ·exact⟨b,⟨o,e.2 _ _ _ f⟩,j⟩
 |.exc c,_,_,⟨a,o,C,e1,h1,h2⟩=>⟨a,o,C,e1,e.2 _ _ _ h1,h2⟩
 |.fn x _,_,_,h=>h
 |.obj a ns fs,_,i,_=>by simp[D.imm]at i
 |.mls _ _,_,i,_=>by simp[D.imm]at i
 |.adr _,_,i,_=>by simp[D.imm]at i
def Reps.tups{K:Ak}{H W:Hp}(e:Tups K H W):∀(J:Aq){xs:Aw},imms J=To->Reps K H J xs->Reps K W J xs
 |[],_,_,h=>h
 |d::J,_,i,⟨x,r,e1,h1,h2⟩=>by
  simp only[imms,Zc]at i
  exact⟨x,r,e1,Rep.tups e d i.1 h1,Reps.tups e J i.2 h2⟩
end
noncomputable def hid (L:A7) (H:Hp):Hp:=λa=>if a∈L then No else H a
noncomputable def Chgb:HO->Prop
 |.lst _=>True
 |.dK _=>True
 |.dT _=>True
 |_=>False
def Ows(L:A7)(H:Hp):Prop:=∀a∈L,∃o,H a=So o/\Chgb o
def ItOk(b:It):Prop:=∀(L:A7)(i:Nat)(H:Hp)(x:V)(W:Hp),Ows L H->b.yld i H x W->b.yld i Ba x Kz
section
variable{L L':A7}{H1:Hp}{o:HO}
def JF(h:a∉L):hid L H a=H a:=by unfold hid;rw[if_neg h]
def wI(h:a∈L):hid L H a=No:=by unfold hid;rw[if_pos h]
def nV(h:hid L H a=So o):a∉L/\H a=So o:=by
 unfold hid at h;split at h
 ·cases h
 ·rename_i q;exact⟨q,h⟩
def hid_same:Same Ba H:=λa o h=>(nV h).2
def JjM(k:∀a o,H a=So o->a∉L->W a=So o/\a∉L'):Same Ba (hid L' W):=λa o h=>by
 obtain⟨b,j⟩:=nV h
 obtain⟨i,f⟩:=k a o j b
 rw[JF f];exact i
def vB:hid [] H=H:=by funext a;exact JF Af
def JsY(h:a∉L):hid L E3=upd Ba a o:=by
 funext b;by_cases q:b=a
 ·subst q;rw[JF h,Je,Je]
 ·rw[Jc q];by_cases r:b∈L
  ·rw[wI r,wI r]
  ·rw[JF r,JF r,Jc q]
end
def ReadOk(K:Ak)(H:Hp)(Z:Cg)(O:Fm):Prop:=∀(i:Nat)(d:D),O[i]? =So BB->∃v,Z[i]? =So Bi/\Rep K H d v
def ReadOk.mono{K:Ak}{O:Fm}(r:ReadOk K H Z O)(e:Ct):ReadOk K W Z O:=λi d h=>
 let⟨v,b,f⟩:=r i d h
 ⟨v,b,f.mono e⟩
def XE(X:Cx)(C:Addr)(H:Hp):Prop:=∀a b,FlyIn X C a H b->X.xe AE b
def XW(X:Cx)(H:Hp)(c:Str):Prop:=∀C W,X.mg c=So AV->Same H W->XE X C W
def XW.mono{c:Str}(e:Ct)(h:XW X H c):XW X W c:=λC b f s=>h C b f (e.trans s)
def Out(X:Cx)(H:Hp)(Q:VK)(d:D):Prop:=∀v W,Same H W->Rep X.K W d v->Q v W
def Out.mono{b:Hp}{Q:VK}(h:Out X H Q d)(e:Same H b):Out X b Q d:=λv W f r=>h v W (e.trans f) r
def Out.now{Q:VK}(h:Out X H Q d)(r:IK):Q v H:=h v H E6 r
def tI(X:Cx)(U:Ae)(p:Px):TE:=λZ H Q=>∃O,ReadOk X.K H Z O/\(evD U p O).Good BH Bz
def tT(X:Cx)(U:Ae)(p:Px):TT:=λZ H Q=>∃O,ReadOk X.K H Z O/\(evD U p O).Good (λd=>∃b,d=.bl b/\∀W,Same H W->Q b W) Bz
def tA(X:Cx)(U:Ae)(p:Px):TA:=λZ H Q=>∃O,ReadOk X.K H Z O/\(evD U p O).Good (λd=>∃J,d=.lst J/\∀b W,Same H W->Reps X.K W J b->Q b W) Bz
section
variable{U:Ae}{e a b c:Expr}{es:CY}{p pa pb:Px}
def PE.weak{t t':TE}(h:PE X e t)(f:∀Z H Q,t' Z H Q->t Z H Q):PE X e t':=λY s Z H Q I i=>h Y s Z H Q I Mi
def PT.weak{t t':TT}(h:PT X e t)(f:∀Z H Q,t' Z H Q->t Z H Q):PT X e t':=λY s Z H Q I i=>h Y s Z H Q I Mi
def PW.weak{t t':TT}(h:PW X e t)(f:∀Z H Q,t' Z H Q->t Z H Q):PW X e t':=λw Y s Z H Q I i=>h w Y s Z H Q I Mi
def PA.weak{t t':TA}(h:bV)(f:∀Z H Q,t' Z H Q->t Z H Q):PA X es t':=λp Y s Z H Q I i=>h p Y s Z H Q I Mi
def tI.then{O:Fm}{Q:VK}{k:D->Rs D}(r:LJ)(h:('Ơ'.bind k).Good BH Bz){f:VK}
  (j:∀d v W,Same H W->Rep X.K W d v->ReadOk X.K W Z O->(k d).Good (Out X W Q) (XW X W)->f v W):tI X U p Z H f:=by refine⟨O,r,'Ĥ'.imp λd i v W s l=>j d v W s l (r.mono s) (i.mono (λm o=>o.mono s) λc x=>x.mono s)⟩
def JpP{i:Nat}(t:X.N[i]? =So x)(l:Vis Cy x)(u:FE)(j:Fd):PE X B7 Kj:=by
 refine PE.weak (iC t l u j) λZ H Q f=>?_;obtain⟨O,r,h⟩:=f;simp only[evD]at h;cases q:O[i]? with
 |none=>rw[q]at h;exact h.elim
 |some o=>
  cases o with
  |none=>rw[q]at h;exact h.elim
  |some d=>rw[q]at h;obtain⟨v,m,w⟩:=r i d q;exact⟨v,m,Out.now h w⟩
def JI{i:Int}{j}:PE X QE (tI X U (.con AZ)):=PE.weak JvL λZ H Q⟨O,r,h⟩=>Out.now h rfl
def zM{i:Bool}{j}:PE X (.Constant (.bool i) j pos) (tI X U (.con (.bl i))):=PE.weak pe_bl λZ H Q⟨O,r,h⟩=>Out.now h rfl
def Jqp{j}:PE X QU (tI X U CH):=PE.weak JtT λZ H Q⟨O,r,h⟩=>Out.now h rfl
def Jo{j}:PE X QD (tI X U (.con Cu)):=PE.weak JpY λZ H Q⟨O,r,h⟩=>Out.now h rfl
def JtU(X:Cx)(x:Str)(d:D):Prop:=∃v u,X.mg x=So u/\RelV v u/\∀H,Rep X.K H d v
def JrR(i:Z1)(h:JtU X x d)(l:FE):PE X B7 Qad:=by obtain⟨v,u,j,r,f⟩:=h;exact PE.weak (Jma i j r l) λZ H Q⟨O,r,h⟩=>Out.now h (f H)
def rD2(X:Cx)(o:O2):R2:=λx y H Q=>∃f h,Rep X.K H f x/\Rep X.K H h y/\(op2 o f h).Good BH Bz
def tI.two{Q:VK}(h:tI X U Qdg Z H Q):tOp Ky HL c5 Z H Q:=by obtain⟨O,r,h⟩:=h;refine tI.then r h λi x C z u q f=>?_;refine tI.then q f λj y w t l B m=>?_;exact⟨i,j,u.mono t,l,m⟩
def wN{f:dQ}(ho:OpR X (binaryOp f) Ky)(i:AJ)(j:Br):PE X (.BinOp a f b pos) K4:=
 PE.weak (JtI ho i j) λZ H Q h=>h.two
def gT{op:CmpOp}(ho:OpR X LH Ky)(f:AJ)(i:Br)(j:Hx):PE X Hw K4:=
 PE.weak (Jru ho f i j) λZ H Q h=>h.two
def tT.asTest{Q:EM}(h:tT X U p Z H Q):tI X U p Z H λx W=>∃k,x=.bl k/\Q k W:=by obtain⟨O,r,h⟩:=h;refine⟨O,r,h.imp λd f v W s i=>?_⟩;obtain⟨b,e,q⟩:=f;subst e;exact⟨b,i,q W s⟩
def oK{op:CmpOp}(ho:OpR X LH Ky)(f:AJ)(i:Br)(j:Hx):PT X Hw (tT X U Qdg):=
 PT.weak (Jrb ho f i j) λZ H Q h=>h.asTest.two
def pI_ix(l:IxR X Ky)(f:AJ)(i:Br)(j:sU b):PE X NC K4:=
 PE.weak (pe_ix l f i j) λZ H Q h=>h.two
def tT.and{Q:EM}(h:tT X U J1 Z H Q):tAnd NG Mh Z H Q:=by
 obtain⟨O,r,h⟩:=h;refine⟨O,r,'Ĥ'.imp λd f=>?_⟩;cases d with
 |bl b=>
  refine T8;cases b with
  |true=>exact iteT ⟨O,r.mono s,f.mono (λd⟨i,e,q⟩=>Ri) λc x=>x.mono s⟩
  |false=>obtain⟨i,e,q⟩:=f;cases e;exact iteF (q W s)
 |_=>exact f.elim
def tT.or{Q:EM}(h:tT X U (.or pa pb) Z H Q):tOr NG Mh Z H Q:=by
 obtain⟨O,r,h⟩:=h;refine⟨O,r,'Ĥ'.imp λd f=>?_⟩;cases d with
 |bl b=>
  refine T8;cases b with
  |false=>exact iteF ⟨O,r.mono s,f.mono (λd⟨i,e,q⟩=>Ri) λc x=>x.mono s⟩
  |true=>obtain⟨i,e,q⟩:=f;cases e;exact iteT (q W s)
 |_=>exact f.elim
def sT{op}(f:G2):PW X TZ NG:=by
 cases op
 ·exact JrZ f
 ·exact JvB f
def Jvg{rest:CY}(f:G2)(i:PW X (.BoolOp .And (b::rest) pos) Mh):PW X MG (tT X U J1):=
 PW.weak (JvJ f i) λZ H Q h=>h.and
def mY{rest:CY}(f:G2)(i:PW X (.BoolOp .Or (b::rest) pos) Mh):PW X (.BoolOp .Or (a::b::rest) pos) (tT X U (.or pa pb)):=
 PW.weak (pw_or f i) λZ H Q h=>h.or
def wZ(j:G2):PT X NJ (tT X U Qdh):=by
 refine PT.weak (JvF j) λZ H Q f=>?_;obtain⟨O,r,h⟩:=f;refine⟨O,r,'Ĥ'.imp λd i=>?_⟩;cases d with
 |bl b=>obtain⟨l,e,q⟩:=i;cases e;exact⟨b,rfl,q⟩
 |_=>exact i.elim
def Jtj{K:Ak}{b:Bool}(r:D5)(h:d.truth=.ok b):TruV K v H b:=by
 cases d with
 |non=>cases r;simp only[D.truth]at h;cases h;rfl
 |bl c=>cases r;simp only[D.truth]at h;cases h;rfl
 |int i=>cases r;simp only[D.truth]at h;cases h;rfl
 |str x=>
  cases r;simp only[D.truth]at h;split at h
  ·rename_i q;cases h;exact⟨by rw[ZG];exact q,rfl⟩
  ·cases h
 |tup J=>obtain⟨a,xs,rfl,f,j⟩:=r;simp only[D.truth]at h;cases h;refine .inr (.inl ⟨xs,f,?_⟩);have:=bB;cases J<;>cases xs<;>simp_all
 |lst J=>obtain⟨a,xs,rfl,f,j⟩:=r;simp only[D.truth]at h;cases h;refine .inl ⟨xs,f,?_⟩;have:=bB;cases J<;>cases xs<;>simp_all
 |_=>simp only[D.truth]at h;cases h
def Jot{c:Str}(h:d.truth=.ex c):False:=by cases d<;>simp only[D.truth]at h<;>first|cases h|(split at h<;>cases h)
def JrJ{c:Str}(h:d.walk=.ex c):False:=by cases d<;>simp only[D.walk]at h<;>cases h
def nZ(m:AJ)(t:∀f,isTrue a Se f=(do let v<-f;standAt a.pos;holding [v] eF)):PT X a (tT X U (.un .truth pa)):=by
 refine PT.weak (Joq m t) λZ H Q l=>?_;obtain⟨O,r,h⟩:=l;refine⟨O,r,'Ĥ'.imp λd i v W s u=>?_⟩;simp only[op1]at i;cases j:d.truth with
 |ok b=>rw[j]at i;obtain⟨w,e,q⟩:=i;cases e;exact⟨b,Jtj u j,q W s⟩
 |ex c=>exact(Jot j).elim
 |sk=>rw[j]at i;exact i.elim
def JwI{op}(f:AJ):PE X TZ HL:=Jvb f
def JvG{rest:CY}(j:AJ)(l:PE X (.BoolOp .And (b::rest) pos) c5):PE X MG (tI X U J1):=by
 refine PE.weak (JuV j l) λZ H Q f=>?_;obtain⟨O,r,h⟩:=f;refine tI.then r h λd v W s m q i=>?_;cases d with
 |bl b=>
  cases m;refine⟨b,rfl,?_⟩;cases b with
  |true=>exact iteT ⟨O,q,i⟩
  |false=>exact iteF (Out.now i rfl)
 |_=>exact i.elim
def JvH(j:AJ):PE X NJ (tI X U Qdh):=by
 refine PE.weak (JuZ j) λZ H Q f=>?_;obtain⟨O,r,h⟩:=f;refine tI.then r h λd v W s l q i=>?_;cases d with
 |bl b=>cases l;exact⟨b,rfl,Out.now i rfl⟩
 |_=>exact i.elim
def pI_if(m:Qbr)(j:AJ)(l:Br):PE X OO (tI X U (.ite pc pa pb)):=by
 refine PE.weak (JiZ m j l) λZ H Q f=>?_;obtain⟨O,r,h⟩:=f;refine⟨O,r,'Ĥ'.imp λd i=>?_⟩;cases d with
 |bl b=>
  refine T8;cases b with
  |true=>exact iteT Xz
  |false=>exact iteF Xz
 |_=>exact i.elim
def Jt:PA X [] (tA X U .nil):=by refine PA.weak rA λZ H Q f=>?_;obtain⟨O,r,h⟩:=f;obtain⟨J,e,q⟩:=h;cases e;exact q [] H E6 rfl
def Jb(t:PE X e HL)(m:PA X es (tA X U pb))(B:Cj):PA X FC (tA X U (.cons pa pb)):=by
 refine PA.weak (JE t m B) λZ H Q f=>?_;obtain⟨O,r,h⟩:=f;refine⟨O,r,'Ĥ'.imp λd w v W s C=>?_⟩;refine⟨O,r.mono s,((Rs.gB.mp w).imp λy j=>?_).mono (λ_ x=>x) λc x=>x.mono s⟩;cases y with
 |lst J=>refine⟨J,rfl,λi l s2 z=>?_⟩;obtain⟨u,e,q⟩:=j;cases e;exact q (v::i) l Dt ⟨v,i,rfl,C.mono s2,z⟩
 |_=>exact j.elim
def zH{a:Addr}{K:Ak}(h:H a=No)(r:E5):Same H (upd H a Bm)/\Rep K (upd H a Bm) G9 AE:=by
 have s:Same H (upd H a Bm):=λb o e=>by rw[Jc (Ji e h)];exact e
 exact⟨s,a,xs,rfl,SqT.of Je,r.mono s⟩
def iI{a:Addr}{K:Ak}(h:H a=No)(r:E5):Same H (upd H a AH)/\Rep K RX BL AE:=by
 have s:Same H RX:=λb o e=>by rw[Jc (Ji e h)];exact e
 exact⟨s,a,xs,rfl,SqL.of Je,r.mono s⟩
def Jqw{k:Nat}(h:Qbs):PE X Qac (tI X U (.tup p)):=by
 refine PE.weak (JwE h) λZ H Q i=>?_;obtain⟨O,r,h⟩:=i;refine⟨O,r,'Ĥ'.imp λd f=>?_⟩;cases d with
 |lst J=>
  simp only[D.asL,Rs.bo]at f;refine⟨J,rfl,λt W s j=>?_⟩;split at f
  ·rename_i l;refine⟨by rw[j.length,ZG];exact l,λa q=>?_⟩;obtain⟨s2,m⟩:=zH q j;exact f _ _ Dt m
  ·exact f.elim
 |_=>exact f.elim
def OutF(X:Cx)(H:Hp)(Q:VK)(d:D):Prop:=∃J,d=.lst J/\∀l xs W,Same H W->H l=No->W l=So AH->Reps X.K W J xs->Q BK W
def tF(X:Cx)(U:Ae)(p:Px):TE:=λZ H Q=>∃O,ReadOk X.K H Z O/\(evD U p O).Good (OutF X H Q) Bz
end
structure Gw where
 prog:Program
 w:World
 K:PySem.W.Frag
 mg:Str->Option Value
 base:Heap
 A:Around
variable{G:Gw}
noncomputable def gwOf (X:Cx):Gw:=⟨Yu,X.w,X.K,X.mg,YD,X.A⟩
noncomputable def visB (nm:Bd) (x:Str):Bool:=match nm.lookup x with
 |some .local=>To
 |some .cell=>To
 |some .free=>To
 |_=>Fo
noncomputable def celB (nm:Bd) (x:Str):Bool:=match nm.lookup x with
 |some .cell=>To
 |some .free=>To
 |_=>Fo
noncomputable def locB (nm:Bd) (x:Str):Bool:=match nm.lookup x with
 |some .local=>To
 |some .cell=>To
 |_=>Fo
noncomputable def gloB (nm:Bd) (x:Str):Bool:=match nm.lookup x with
 |some .globalImplicit=>To
 |_=>Fo
structure Ctx(X:Cx)(G:Gw)(N:Ag)(nm:Bd):Prop where
 g:gwOf X=G
 hN:X.N=N
 nd:N.Nodup
 vis:∀x,visB nm x=To->Vis Cy x
 cel:∀x,celB nm x=To->X.env.kindOf x=So .cell\/X.env.kindOf x=So .free
 glo:∀x,gloB nm x=To->Gl X x
 sto:∀x,locB nm x=To->Loc Cy x/\(X.fn x=To\/X.env.scope.names.lookup x=So .local)
 calm:X.calm=To
 un:X.A.units+64<cLine
 fr:∃e0 out0 L,Yt=e0::out0/\e0.frame=So L/\X.env.frame=So L
def Ctx.K(C:Al):X.K=G.K:=by rw[<-C.g];rfl
def Ctx.mg(C:Al):X.mg=G.mg:=by rw[<-C.g];rfl
def Walk(K:Ak)(f:It)(H:Hp)(J:Aq):Prop:=∀W,Same H W->
 (∀i,i<Ac->f.go i W)/\f.stop Ac W/\∀i x b,i<Ac->f.yld i W x b->Same W b/\∃d,J[i]? =So d/\Rep K b d x
def tW (X:Cx) (U:Ae) (p:Px):TI:=λZ H R=>∃O,ReadOk X.K H Z O/\(evD U p O).Good (λd=>∃J,d=.lst J/\∀b W,Same H W->Walk X.K b W J->ItOk b->R b W) Bz
noncomputable def sA (cs:DP):List (Str×NameKind)->List (Str×Addr)->List (Str×Addr)
 |[],acc=>acc
 |(n,k)::r,acc=>match k,cs.lookup n with
  |.free,So a=>sA cs r ((n,a)::acc)
  |_,_=>sA cs r acc
def Jbj{O:Env}:∀(f:Bd)(b:DP),(∀y∈f,y.2=.free->∃c,O.cells.lookup y.1=So c)->
  (forIn f b λx r=>if(x.2==aN)=To then do let a<-cellOf O x.1;pure (ForInStep.yield ((x.1,a)::r))else pure TF:Sem (List (Str×Addr)))=pure (sA Qct f b)
 |[],b,_=>rfl
 |(n,k)::r,b,h=>by
  rw[List.forIn_cons]
  by_cases l:k=.free
  ·subst l
   obtain⟨c,w⟩:=h (n,.free) QaN rfl
   have i:O.cells.lookup n=So c:=w
   have u:cellOf O n=pure c:=by unfold cellOf;rw[i]
   simp only[ZJ,if_true,u]
   have m:=Jbj r ((n,c)::b) λy j=>h y (.tail _ j)
   simp only[sA,i]
   exact m
  ·have q:(k==aN)=Fo:=by simpa using l
   simp only[q,Zo,ZN]
   have m:=Jbj r b λy j=>h y (.tail _ j)
   have t:sA Qct ((n,k)::r) b=sA Qct r b:=by
    cases k<;>first|rfl|exact absurd rfl l
   rw[t];exact m
def JcL{O:Env}(h:∀y∈D9,y.2=.free->∃c,O.cells.lookup y.1=So c):closureFor scope O=pure (sA Qct D9 []):=by have e:=Jbj (O:=O) D9 [] h;unfold closureFor;simp only[bind_pure];exact e
def pP:∀(f:Bd)(b:DP),(∀x c,b.lookup x=So c->cs.lookup x=So c)->∀x c,(sA cs f b).lookup x=So c->cs.lookup x=So c
 |[],b,h=>h
 |(n,k)::r,b,h=>by
  intro x c
  have keep:=pP r b h x c
  unfold sA
  split
  ·rename_i a j
   refine pP r _ (λy d e=>?_) x c
   by_cases i:y=n
   ·subst i
    simp only[Zl,ZJ]at e
    cases e
    exact j
   ·have l:(y==n)=Fo:=by simpa using i
    simp only[Zl,l]at e
    exact h y d e
  ·exact keep
def JcH:∀(f:Bd)(b:DP)(x:Str),(∃c,b.lookup x=So c)->∃c,(sA cs f b).lookup x=So c
 |[],b,x,h=>h
 |(n,k)::r,b,x,h=>by
  unfold sA
  split
  ·refine JcH r _ x ?_
   by_cases i:x=n
   ·subst i;exact⟨_,by simp only[Zl,ZJ];rfl⟩
   ·have j:(x==n)=Fo:=by simpa using i
    obtain⟨c,l⟩:=h
    exact⟨c,by simp only[Zl,j];exact l⟩
  ·exact JcH r b x h
def uL:∀(b:Bd)(f:DP)(x:Str),(x,aN)∈b->(∃c,cs.lookup x=So c)->∃c,(sA cs b f).lookup x=So c
 |[],f,x,h,_=>nomatch h
 |(n,k)::r,f,x,h,i=>by
  rcases Ze.mp h with e|j
  ·cases e
   obtain⟨c,i⟩:=i
   unfold sA
   rw[i]
   exact JcH r _ _ ⟨c,by simp only[Zl,ZJ]⟩
  ·unfold sA
   split
   ·exact uL r _ x j i
   ·exact uL r f x j i
noncomputable def relk (O:Env) (p:Str×NameKind):Str×NameKind:=if(p.2==aN&&O.scope.kind==.function&&O.kindOf p.1==So .cell)=To then(p.1,YQ)else(p.1,p.2)
def JhS(O:Env)(n:Str)(k:dU):relk O (n,k)=(n,k)\/(k=.free/\relk O (n,k)=(n,.cell)):=by
 unfold relk;split
 ·rename_i b;simp only[Zc,ZA]at b;exact .inr ⟨b.1.1,rfl⟩
 ·exact .inl rfl
def JfR(scope:AO)(O:Env):'ӧ'.names=scope.names.map cJ:=rfl
def JbR{O:Env}{x:Str}:∀{b:Bd}{k:dU},b.lookup x=So k->(b.map cJ).lookup x=So k\/(k=.free/\(b.map cJ).lookup x=So .cell)
 |[],_,h=>by simp at h
 |(n,k')::r,k,h=>by
  rw[Zg]
  by_cases i:x=n
  ·subst i
   simp only[Zl,ZJ]at h
   cases h
   rcases JhS O x k' with e|⟨j,e⟩
   ·rw[e];exact .inl (by simp only[Zl,ZJ])
   ·rw[e];exact .inr ⟨j,by simp only[Zl,ZJ]⟩
  ·have f:(x==n)=Fo:=by simpa using i
   simp only[Zl,f]at h
   have l:=JbR (O:=O) h
   rcases JhS O n k' with e|⟨_,e⟩<;>rw[e]<;>simp only[Zl,f]<;>exact l
def Jgv{O:Env}{x:Str}:∀{b:Bd},b.lookup x=No->(b.map cJ).lookup x=No
 |[],_=>rfl
 |(n,k')::r,h=>by
  rw[Zg]
  by_cases i:x=n
  ·subst i;simp only[Zl,ZJ]at h;cases h
  ·have f:(x==n)=Fo:=by simpa using i
   simp only[Zl,f]at h
   have j:=Jgv (O:=O) h
   rcases JhS O n k' with e|⟨_,e⟩<;>rw[e]<;>simp only[Zl,f]<;>exact j
def Ju{O:Env}{k:dU}(h:scope.names.lookup x=So k):'ӧ'.names.lookup x=So k\/(k=.free/\(relabel scope O).names.lookup x=So .cell):=JbR h
def rL{O:Env}{k:dU}(h:'ӧ'.names.lookup x=So k):scope.names.lookup x=So k\/(k=.cell/\scope.names.lookup x=So .free):=by
 rw[JfR]at h;cases q:scope.names.lookup x with
 |none=>rw[Jgv q]at h;cases h
 |some i=>
  rcases JbR (O:=O) q with z|⟨b,f⟩
  ·rw[z]at h;cases h;exact .inl rfl
  ·rw[f]at h;cases h;subst b;exact .inr CU
def mem_of_lookup{α:Type}:∀{l:List (Str×α)}{x:Str}{a:α},l.lookup x=So a->(x,a)∈l
 |[],_,_,h=>by simp at h
 |(n,b)::r,x,a,h=>by
  by_cases f:x=n
  ·subst f;simp only[Zl,ZJ]at h;cases h;exact .head _
  ·have i:(x==n)=Fo:=by simpa using f
   simp only[Zl,i]at h
   exact .tail _ (mem_of_lookup h)
def JgK{w:Bc}{R:N9}{b:Expr}{it F:Am}{O:Env}(I:Nat->Shared->Prop)
  (M:∀n s,I n s->wpAny As A (pyNext it) (λr j=>match r with
   |none=>R (.ok .next) j
   |some v=>wpAny As A (letOwnedTupleGo b it v) (λ_ f=>wpAny As A (assign b O v) (λ_ z=>
     wpAny As A (forIn ifs To λc r=>if r=To then do let ok<-isTrue c O (eval c O);pure (ForInStep.yield ok)else pure TF) (λok l=>
      if ok=To then wpAny As A (eval elt O) (λx y=>
       wpAny As A (PySem.call (.builtin "list.append") [F,x]) (λ_ B=>∃m,m<n/\I m B) IA y) IA l
      else∃m,m<n/\I m l) IA z) IA f) IA j) IA s)
  (n:Nat) (h:I n s):
  codeAny As A (.compLoop Xh 0 it F O) R s:=by
 refine codeAny_loop rfl I (λn s hI=>?_) n h;show wpAny _ A ((compTurn Xh 0 it F O).onRaise (λx=>do noteFrame x O;theTreesLotGoes x)) _ _ s;refine wpAny_noted ?_;rw[compTurn_list];refine Za (wpAny_standAt (Za (ZT (M n s hI) (λr j u=>?_) λ_ _ q=>q)));cases r with
 |none=>exact Zb u
 |some v=>
  refine Za (ZT u (λ_ f C=>?_) λ_ _ q=>q);refine Za (ZT C (λ_ z L=>Za (ZT L (λok l t=>?_) λ_ _ q=>q)) λ_ _ q=>q);cases ok with
  |false=>exact Zb ⟨rfl,t⟩
  |true=>exact Za (Za (ZT t (λx y U=>Za (ZT U (λ_ B h₅=>Zb (Zb ⟨rfl,h₅⟩)) λ_ _ q=>q)) λ_ _ q=>q))
noncomputable def dum (n:Str):Str:=⟨n.cps.push 0⟩
def hidN (ls N:Ag):List Str:=N.map λn=>if ls.contains n then dum n else n
def Jia:∀(b:Bd)(n:Nat)(f:DP)(x:Str)(c:Addr),'ɹ'.lookup x=So c->f.lookup x=So c\/(n<=c/\(x,YQ)∈b)
 |[],_,_,_,_,h=>.inl h
 |(y,k)::r,n,f,x,c,h=>by
  unfold cellsFrom at h
  split at h
  ·rename_i l
   rw[ZA]at l
   subst l
   rcases Jia r (n+1) _ x c h with q|⟨j,i⟩
   ·by_cases m:x=y
    ·subst m
     simp only[Zl,ZJ,ZR]at q
     subst q
     exact .inr ⟨Zh _,by simp⟩
    ·have t:(x==y)=Fo:=by simpa using m
     simp only[Zl,t]at q
     exact .inl q
   ·exact .inr ⟨qR j,by simp[i]⟩
  ·rcases Jia r n f x c h with q|⟨j,i⟩
   ·exact .inl q
   ·exact .inr ⟨j,by simp[i]⟩
def lZ:∀(f:Bd)(n:Nat)(b:DP),(∀x c,b.lookup x=So c->c<n)->(∀x y c,b.lookup x=So c->b.lookup y=So c->x=y)->∀x y c,'Ө'.lookup x=So c->'Ө'.lookup y=So c->x=y
 |[],_,_,_,h=>h
 |(z,k)::r,n,b,hlt,h=>by
  unfold cellsFrom
  split
  ·refine lZ r (n+1) _ (λx c e=>?_) λx y c m l=>?_
   ·by_cases j:x=z
    ·subst j
     simp only[Zl,ZJ,ZR]at e
     subst e;exact ZaN _
    ·have i:(x==z)=Fo:=by simpa using j
     simp only[Zl,i]at e
     exact oB (hlt x c e)
   ·by_cases j:x=z<;>by_cases q:y=z
    ·rw[j,q]
    ·subst j
     have i:(y==x)=Fo:=by simpa using q
     simp only[Zl,ZJ,ZR]at m
     simp only[Zl,i]at l
     subst m
     exact absurd (hlt y _ l) Cr
    ·subst q
     have i:(x==y)=Fo:=by simpa using j
     simp only[Zl,ZJ,ZR]at l
     simp only[Zl,i]at m
     subst l
     exact absurd (hlt x _ m) Cr
    ·have i:(x==z)=Fo:=by simpa using j
     have t:(y==z)=Fo:=by simpa using q
     simp only[Zl,i]at m
     simp only[Zl,t]at l
     exact h x y c m l
  ·exact lZ r n b hlt h
def JhQ:∀(b:Bd)(n:Nat)(f:DP)(x:Str),(x,YQ)∉b->'ɹ'.lookup x=f.lookup x
 |[],_,_,_,_=>rfl
 |(y,k)::r,n,f,x,h=>by
  unfold cellsFrom
  split
  ·rename_i i
   rw[ZA]at i
   rw[JhQ r _ _ x λq=>h (by simp[q])]
   have j:x≠y:=λe=>h (by simp[e,i])
   have l:(x==y)=Fo:=by simpa using j
   simp only[Zl,l]
  ·exact JhQ r _ _ x λq=>h (by simp[q])
def uU:∀(f:Bd)(n:Nat)(b:DP)(x:Str),(∃c,b.lookup x=So c)->∃c,'Ө'.lookup x=So c
 |[],_,_,_,h=>h
 |(y,k)::r,n,b,x,h=>by
  unfold cellsFrom
  split
  ·refine uU r _ _ x ?_
   by_cases i:x=y
   ·exact⟨n,by simp[Zl,i]⟩
   ·have j:(x==y)=Fo:=by simpa using i
    simpa only[Zl,j]using h
  ·exact uU r _ _ x h
def JpH:∀(b:Bd)(n:Nat)(f:DP)(x:Str),(x,YQ)∈b->∃c,'ɹ'.lookup x=So c
 |[],_,_,_,h=>by cases h
 |(y,k)::r,n,f,x,h=>by
  unfold cellsFrom
  rcases Ze.mp h with q|q
  ·cases q
   simp only[ZJ,if_true]
   exact uU r _ _ _ ⟨n,by simp[Zl]⟩
  ·split<;>exact JpH r _ _ x q
theorem Jin:∀(b:Bd)(h:Heap)(f:DP)(x:Str)(c:Addr),(cellsFrom BV b f).lookup x=So c->f.lookup x=So c\/(BV<=c/\(pushCells h b).IsCell c No)
 |[],_,_,_,_,e=>.inl e
 |(y,k)::r,h,f,x,c,e=>by
  unfold cellsFrom at e
  unfold pushCells
  split at e
  ·rename_i j
   rw[if_pos j]
   have i:(h.push {cls:=.type "cell",data:=.cell No}).objs.size=BV+1:=ZP ..
   rw[<-i]at e
   rcases Jin r (h.push {cls:=.type "cell",data:=.cell No}) _ x c e with q|⟨u,t⟩
   ·by_cases l:x=y
    ·subst l
     simp only[Zl,ZJ,ZR]at q
     subst q
     exact .inr ⟨Zh _,_,xQ _ _ _ _ HS,rfl⟩
    ·have m:(x==y)=Fo:=by simpa using l
     simp only[Zl,m]at q
     exact .inl q
   ·exact .inr ⟨by lia,t⟩
  ·rename_i j
   rw[if_neg j]
   exact Jin r h f x c e
def JkS{lo:Nat}:∀(b:Bd)(n:Nat)(f:DP)(x:Str),lo<=n->((x,YQ)∈b\/∀c,f.lookup x=So c->lo<=c)->∀c,'ɹ'.lookup x=So c->lo<=c
 |[],_,_,_,_,h,c,e=>by
  rcases h with h|h
  ·cases h
  ·exact h c e
 |(y,k)::r,n,f,x,hn,h,c,e=>by
  unfold cellsFrom at e
  split at e
  ·refine JkS r (n+1) _ x (ZbU hn) ?_ c e
   by_cases j:x=y
   ·refine .inr λl i=>?_
    subst j
    simp only[Zl,ZJ,ZR]at i
    subst i;exact hn
   ·have m:(x==y)=Fo:=by simpa using j
    rcases h with h|h
    ·rcases Ze.mp h with q|q
     ·cases q;exact absurd rfl j
     ·exact .inl q
    ·refine .inr λl i=>?_
     simp only[Zl,m]at i
     exact h l i
  ·rename_i t
   refine JkS r n f x hn ?_ c e
   rcases h with h|h
   ·rcases Ze.mp h with q|q
    ·cases q;exact absurd (ZJ _) t
    ·exact .inl q
   ·exact .inr h
def iP (X:Cx) (ls:Ag) (scope:AO) (C:Addr) (s:Ao) (H:Hp) (fp:A7) (E:Az):Cx:=
 {X with N:=ls++hidN ls X.N,s₀:=s,H₀:=H,env:=compEnvC scope (cellsFrom (C+1) D9 (sA X.env.cells D9 [])) C Se,outer:=Yt,ex:=fp,fn:=λx=>scope.names.lookup x==So .cell,pn:=[],xe:=E}
def Jul (N:Ag) (nm:Bd) (ls:Ag) (b:Bd):Bool:=
 b.all λy=>(y.2 !=.cell||(b.lookup y.1==So .cell&&ls.contains y.1))&&(y.2 !=.free||celB nm y.1)&&(y.2 !=.local||(b.lookup y.1==So .local&&(ls.contains y.1||!N.contains y.1)))
structure ScOk(N:Ag)(nm:Bd)(ls:Ag)(sc:AO):Prop where
 kind:sc.kind=.function
 nd:(ls++hidN ls N).Nodup
 all:Jul N nm ls Yz=To
 no:∀n∈N,ls.contains n=To->sc.names.lookup (dum n)=No
section
variable{ls:Ag}{sc:AO}
def ScOk.at(h:E9){y:Str×NameKind}(b:y∈sc.names):(y.2=.cell->sc.names.lookup y.1=So .cell/\y.1∈ls)/\(y.2=.free->celB nm y.1=To)/\(y.2=.local->sc.names.lookup y.1=So .local/\(y.1∈ls\/y.1∉N)):=by
 have q:=wA.mp h.all y b;simp only[Zc,bne_iff_ne,kC,ZA,kB,vQ,Zs,xJ]at q;refine⟨λe=>?_,λe=>?_,λe=>?_⟩
 ·rcases q.1.1 with z|z
  ·exact absurd e z
  ·exact z
 ·rcases q.1.2 with z|z
  ·exact absurd e z
  ·exact z
 ·rcases q.2 with z|z
  ·exact absurd e z
  ·exact z
def ScOk.fcell(h:E9)(b:sc.names.lookup x=So .free):(x,YQ)∉sc.names:=λq=>by
 have:=((h.at q).1 rfl).1
 rw[b]at this;cases this
def ScOk.cells(h:E9)(C:Al)(ok:X.Ok):∀y∈sc.names,y.2=.free->∃c,X.env.cells.lookup y.1=So c:=λy b e=>ok.has _ (C.cel _ ((h.at b).2.1 e))
def JoR(C:Al)(h:E9):Ctx Re G C7 Yz where
 g:=C.g
 hN:=by show ls++hidN ls X.N=_;rw[C.hN]
 nd:=h.nd
 vis:=λx b=>by
  show Vis 'Ȁ' x
  unfold visB at b
  split at b
  ·rename_i e
   rcases Ju (O:=Se) e with z|⟨z,_⟩
   ·exact .inl z
   ·cases z
  ·rename_i e
   rcases Ju (O:=Se) e with z|⟨z,_⟩
   ·exact .inr FQ
   ·cases z
  ·rename_i e
   rcases Ju (O:=Se) e with z|⟨_,z⟩
   ·exact .inr G8
   ·exact .inr FQ
  ·cases b
 cel:=λx b=>by
  show(relabel sc Se).names.lookup x=So .cell\/(relabel sc Se).names.lookup x=So .free
  unfold celB at b
  split at b
  ·rename_i e
   rcases Ju (O:=Se) e with z|⟨z,_⟩
   ·exact .inl z
   ·cases z
  ·rename_i e
   rcases Ju (O:=Se) e with z|⟨_,z⟩
   ·exact .inr z
   ·exact .inl z
  ·cases b
 glo:=λx b=>by
  show(relabel sc Se).names.lookup x=So .globalImplicit
  unfold gloB at b
  split at b
  ·rename_i e
   rcases Ju (O:=Se) e with z|⟨z,_⟩
   ·exact z
   ·cases z
  ·cases b
 sto:=λx b=>by
  show Loc 'Ȁ' x/\((sc.names.lookup x==So .cell)=To\/(relabel sc Se).names.lookup x=So .local)
  unfold locB at b
  split at b
  ·rename_i e
   rcases Ju (O:=Se) e with z|⟨z,_⟩
   ·exact QaG
   ·cases z
  ·rename_i e
   rcases Ju (O:=Se) e with z|⟨z,_⟩
   ·exact⟨.inr z,.inl (by rw[e];rfl)⟩
   ·cases z
  ·cases b
 calm:=YO
 un:=C.un
 fr:=C.fr
noncomputable abbrev pE (its:AF) (n:Nat):Obj:={cls:=.type "list",dict:=No,data:=.seq AA n}
theorem JoH{j:Heap}{tk:Nat}{m:Bf}{h0:Heap}(C:Al)(h:E9)(hh:j=pushCells h0 Yz)(h0s:h0.objs.size=Cd+1)(I:AI)
  (hf:∀b∈fp,FpOk X Y H b) (ho:∀b∈fp,∃o,s.heap.get? b=So o) (hC:Cd=Aa+1) (hns:j.Ns Cd m) (keep:∀b o,s.heap.get? b=So o->j.get? b=So o)
  (hacc:j.get? Aa=So (pE [] 0)):
  Inv Re [(Aa,pE [] 0)] (List.replicate Bo No++Z) H {s with heap:=j,toks:=tk}:=by
 subst hC
 have sub:∀x c,'ǖ'.lookup x=So c->X.env.cells.lookup x=So c:=pP Yz [] λx c e=>by simp at e
 have old':∀x c,'ǖ'.lookup x=So c->c<Aa:=λx c e=>by
  obtain⟨v,o,h1,h2⟩:=I.cell x c (sub x c e)
  exact Zk h1
 have L:∀x c,(cellsFrom (Aa+1+1) Yz Gz).lookup x=So c->X.env.cells.lookup x=So c\/(Aa+1+1<=c/\j.IsCell c No):=λx c e=>by
  rw[<-h0s]at e
  rcases Jin Yz h0 _ x c e with q|⟨q1,q2⟩
  ·exact .inl (sub x c q)
  ·exact .inr ⟨h0s▸q1,hh▸q2⟩
 have stk:∀b∈frs Yt,b<Aa:=λb F=>by
  obtain⟨_,o,ho,_⟩:=I.stack.mem F
  exact Zk ho
 refine⟨⟨bA,h.kind,b0,I.ok.blt,jF _,lZ _ _ _ (λx c e=>oB (oB (old' x c e))) λx y c e1 e2=>I.ok.inj x y c (sub x c e1) (sub y c e2),λx hk=>?_,λx c z e=>?_,I.ok.hd,fP,.inl rfl,λb F=>?_,I.bs,Zy dX I.sz,λb o e F=>?_,λb F hz=>?_,I.stack,I.stkFree⟩,
  rfl,YB,Un.kept keep,⟨m,hns,λi x v hN B hv=>?_⟩,λx c e=>?_,?_,λx c e=>?_,λp hp=>?_,I.hok.kept keep,?_⟩
 ·--every cell name has its cell
  have hk':'Ȁ'.names.lookup x=So .cell\/(relabel sc Se).names.lookup x=So .free:=hk
  have t:sc.names.lookup x=So .free\/sc.names.lookup x=So .cell:=by
   rcases hk' with z|z
   ·rcases rL z with q|⟨_,q⟩
    ·exact .inr q
    ·exact .inl q
   ·rcases rL z with q|⟨q,_⟩
    ·exact .inl q
    ·cases q
  rcases t with t|t
  ·have hm:=mem_of_lookup t
   exact uU _ _ _ _ (uL Yz [] x hm (h.cells C I.ok (x,.free) hm rfl))
  ·exact JpH _ _ _ _ (mem_of_lookup t)
 ·have z':sc.names.lookup x=So .cell:=by
   have z2:(sc.names.lookup x==So .cell)=To:=z
   simpa using z2
  have U:(cellsFrom (Aa+1+1) Yz Gz).lookup x=So c:=e
  have:=JkS (lo:=Aa+1+1) _ _ _ _ (Zh _) (.inl (mem_of_lookup z')) c U
  show Aa<=c
  lia
 ·obtain⟨o,e⟩:=ho b F
  refine⟨Zt (oB (Zk e)),λx c U=>?_⟩
  rcases L x c U with q|⟨q,_⟩
  ·exact(hf b F).2.2.2.2.1 x c q
  ·have:=Zk e
   exactλee=>jS _ (Zw (oB (oB this)) (ee▸q))
 ·rcases(hf b F).2.2.2.1 with z|z
  ·exact I.ok.noex b o e z
  ·exact absurd (Zw (Zk (I.ok.bs b o e).1) z) Cr
 ·rcases Ze.mp (I.stkSub b hz)with z|z
  ·exact(hf b F).2.1 z
  ·exact(hf b F).2.2.1 z
 ·--a name that the block sees
  have f:(ls++hidN ls X.N)[i]? =So x:=hN
  by_cases hi:i<Bo
  ·rw[xF (by simpa using hi)]at B
   rw[qM]at B
   split at B<;>cases B
  ·have hi':Bo<=i:=Nat.le_of_not_lt hi
   rw[yF hi']at f
   rw[yF (by simpa using hi')]at B
   rw[nJ]at B
   obtain⟨f,hxl⟩:X.N[i-Bo]? =So x/\x∉ls:=by
    unfold hidN at f
    rw[jD]at f
    cases q:X.N[i-Bo]? with
    |none=>rw[q]at f;cases f
    |some n=>
     rw[q]at f
     simp only[rJ,ZR]at f
     by_cases hc:ls.contains n=To
     ·rw[if_pos hc]at f
      have hno:=h.no n (by rw[<-C.hN];exact mJ q) hc
      rw[f]at hno
      have M:'Ȁ'.names.lookup x=So .local\/(relabel sc Se).names.lookup x=So .cell\/(relabel sc Se).names.lookup x=So .free:=hv
      exfalso
      rcases M with z|z|z<;>rcases rL z with q|⟨_,q⟩<;>(rw[hno]at q;cases q)
     ·rw[if_neg hc]at f
      subst f
      exact⟨rfl,by simpa using hc⟩
   have hxN:x∈N:=by rw[<-C.hN];exact mJ f
   have t:sc.names.lookup x=So .free:=by
    have M:'Ȁ'.names.lookup x=So .local\/(relabel sc Se).names.lookup x=So .cell\/(relabel sc Se).names.lookup x=So .free:=hv
    rcases M with z|z|z
    ·rcases rL z with q|⟨q,_⟩
     ·have w:=((h.at Qae).2.2 rfl).2
      rcases w with w|w
      ·exact absurd w hxl
      ·exact absurd hxN w
     ·cases q
    ·rcases rL z with q|⟨_,q⟩
     ·exact absurd ((h.at Qae).1 rfl).2 hxl
     ·exact q
    ·rcases rL z with q|⟨q,_⟩
     ·exact q
     ·cases q
   have hm:=mem_of_lookup t
   have hk:=C.cel x ((h.at hm).2.1 rfl)
   have hvX:Vis Cy x:=by
    rcases hk with z|z
    ·exact .inr FQ
    ·exact .inr G8
   obtain⟨m0,_,hl⟩:=YH
   obtain⟨u,r,l⟩:=hl (i-Bo) x v f B hvX
   refine⟨u,r,.inr HH⟩
   ·show(relabel sc Se).names.lookup x=So .cell\/(relabel sc Se).names.lookup x=So .free
    rcases Ju (O:=Se) t with z|⟨_,z⟩
    ·exact .inr z
    ·exact .inl z
   ·rcases l with⟨z,_⟩|⟨_,c,e,z⟩
    ·rcases hk with w|w<;>(rw[w]at z;cases z)
    ·obtain⟨c',U⟩:=uL (cs:=X.env.cells) Yz [] x hm ⟨c,e⟩
     have e2:=sub x c' U
     rw[e]at e2
     cases e2
     obtain⟨o,h1,h2⟩:=z
     exact⟨c,(JhQ _ _ _ _ (h.fcell t)).trans U,o,keep _ _ h1,h2⟩
 ·rcases L x c e with q|⟨_,q⟩
  ·obtain⟨v,o,h1,h2⟩:=I.cell x c q
   exact⟨v,o,keep _ _ h1,h2⟩
  ·exact⟨No,q⟩
 ·exact I.hok.fresh bM
 ·rcases L x c e with q|⟨q,_⟩
  ·exact I.freeC x c q
  ·exact I.hok.fresh Ad
 ·have e:p=(Aa,pE [] 0):=by simpa[iP]using hp
  subst e
  exact⟨hacc,I.hok.fresh (Zh _),Zt aQ,λF=>jS _ (stk _ F),λv z=>(by cases z)⟩
 ·show(List.replicate Bo No++Z).length=(ls++hidN ls X.N).length
  rw[Zi,Zi,nJ,I.len]
  unfold hidN
  rw[Zj]
end
open PySem.SeqAt (EqAt RcAt RcNeAt)
def JiD:∀{f bs:Aq},eqvs f bs=To->YW=Qc9
 |[],[],_=>rfl
 |[],_::_,h=>nomatch h
 |_::_,[],h=>nomatch h
 |a::f,b::bs,h=>by
  simp[JiD (Bool.and_eq_true_iff.mp h).2]
def JcG:∀f bs:List D,YW=bs.length->eqvs f bs=(List.range YW).all λj=>(f.getD j .non).eqv (bs.getD j .non)
 |[],[],_=>rfl
 |a::f,b::bs,h=>by
  have i:=JcG f bs DG
  rw[Zm,rX,nH,rE]
  rw[JtN,i]
  rfl
def JlF{b bs:Aq}(h:b.length≠bs.length):eqvs b bs=Fo:=by
 cases e:eqvs b bs with
 |false=>rfl
 |true=>exact absurd (JiD e) h
theorem lU:∀{J:Aq}{n j:Nat},deps J<=n->'ǲ'.dep<=n
 |[],n,j,_=>by simp[D.dep]
 |d::J,n,0,h=>by simp only[deps]at h;simp;lia
 |d::J,n,j+1,h=>by
  simp only[deps]at h
  have:=lU (J:=J) (n:=n) (j:=j) Ad
  simpa using this
section
variable{X:Cx}{Y:AU}{Z:Cg}{H:Hp}{s:Ao}
def Jgz(I:BM){ys:Aw}(h1:J7)(m:SqT X.K H a ys):False:=by obtain⟨its,_,i,_⟩:=I.list h1;obtain⟨f,_,l,_⟩:=I.tuple m;obtain⟨o,e,c,_⟩:=i.isList;obtain⟨q,h,b,_⟩:=l;rw[e]at h;cases h;rw[c]at b;injection b with j;exact absurd j Ax
inductive KD(X:Cx)(H:Hp):D->V->Prop
 |non:KD X H .non .non
 |bl (b:Bool):KD X H (.bl b) (.bl b)
 |int (i:Int):KD X H (.int i) (.int i)
 |str (x:Str):KD X H (.str x) (.str x)
 |tup {ds:List D} {a:Addr} {xs:List V} (h:SqT X.K H a xs) (r:Reps X.K H ds xs):KD X H (.tup ds) (.ref a)
 |lst {ds:List D} {a:Addr} {xs:List V} (h:SqL X.K H a xs) (r:Reps X.K H ds xs):KD X H (.lst ds) (.ref a)
def kd(p:d.dep<1000)(r:IK):KD X H d v:=by
 cases d with
 |non=>cases r;exact .non
 |bl b=>cases r;exact .bl b
 |int i=>cases r;exact .int i
 |str x=>cases r;exact .str x
 |tup J=>obtain⟨a,xs,rfl,f,h⟩:=r;exact .tup f h
 |lst J=>obtain⟨a,xs,rfl,f,h⟩:=r;exact .lst f h
 |_=>simp[D.dep]at p
def Jfn{n:Nat}(f:∀{d d':D}{v:V},d.dep<=n->d'.dep<1000->Rep X.K H d v->Rep X.K H d' v->d=d'):∀{J b:Aq}{xs:Aw},deps J<=n->deps b<1000->Reps X.K H J xs->Reps X.K H b xs->J=b
 |[],b,xs,_,_,h,h'=>by
  cases h
  cases b with
  |nil=>rfl
  |cons _ _=>obtain⟨_,_,e,_⟩:=h';cases e
 |d::J,[],_,_,_,⟨_,_,e,_⟩,h'=>by cases e;cases h'
 |d::J,c::b,_,p,p',⟨x,r,e,h1,h2⟩,⟨x',r',e1,h3,h4⟩=>by
  cases e;cases e1
  simp only[deps]at p p'
  rw[f 'c' 'c' h1 h3,Jfn f 'c' 'c' h2 h4]
def Rep.inj(I:BM)(n:Nat):n<1000->∀{d d':D}{v:V},d.dep<=n->d'.dep<1000->Rep X.K H d v->Rep X.K H d' v->d=d':=by
 induction n using Nat.strongRecOn with
 |_ n l=>
  intro u d d' v p i r m;have k:=kd Ad r;have t:=kd i m;clear r m;rcases k with _|_|_|_|⟨b,h⟩|⟨b,h⟩<;>rcases t with _|_|_|_|⟨f,j⟩|⟨f,j⟩<;>first|rfl|skip
  ·cases I.tuple_inj b f;simp only[D.dep]at p i;rw[Jfn (n:=n-1) (λq=>l (n-1) Ad Ad q) 'c' 'c' h j]
  ·exact(Jgz I f b).elim
  ·exact(Jgz I b f).elim
  ·cases I.list_inj b f;simp only[D.dep]at p i;rw[Jfn (n:=n-1) (λq=>l (n-1) Ad Ad q) 'c' 'c' h j]
def JiX(I:BM)(f:Ic)(b:K0){j:Nat}(h:j<Dr):∃v,Rep X.K H 'ǲ' v/\RelV v AA[j]:=by
 have r:j<its.length:=by simpa using h
 have w:=aL;have y:=YW;have q:J[j]? =So 'ǲ':=by rw[rM,Zu 'c'];rfl
 obtain⟨v,l,i⟩:=f.get q;obtain⟨u,m,t⟩:=b.get l;refine⟨v,i,?_⟩;have:AA[j]=u:=by have e:its[j]? =So u:=m;rw[Zu r]at e;simpa using e
 rw[this];exact t
inductive KU(X:Cx)(H:Hp)(s:Ao):D->Value->Prop
 |non:KU X H s .non .none
 |bl (b:Bool):KU X H s (.bl b) (.bool b)
 |int (i:Int) (t:Tok):KU X H s (.int i) (.int i t)
 |str (x:Str) (t:Tok):KU X H s (.str x) (.str x t)
 |tup {ds:List D} {a:Addr} {xs:List V} {its:List Value} (r:Reps X.K H ds xs) (v:Vals xs its) (p:IsTup s.heap a 'Ɔ'):KU X H s (.tup ds) (.ref a)
 |lst {ds:List D} {a:Addr} {xs:List V} {its:List Value} (r:Reps X.K H ds xs) (v:Vals xs its) (p:s.heap.IsList a 'Ɔ'):KU X H s (.lst ds) (.ref a)
def ku(I:BM){u:Am}(p:d.dep<1000)(r:IK)(q:EH):KU X H s d u:=by
 cases kd p r with
 |non=>cases q;exact .non
 |bl b=>cases q;exact .bl b
 |int i=>obtain⟨t,rfl⟩:=q;exact .int i t
 |str x=>obtain⟨t,rfl⟩:=q;exact .str x t
 |tup f l=>cases q;obtain⟨its,j,h,_⟩:=I.tuple f;exact .tup l j h
 |lst f l=>cases q;obtain⟨its,j,h,_⟩:=I.list f;exact .lst l j h.isList
def EqAt.rc{u b:Am}{k:Bool}(q:KU X H s d u)(h:RcAt A s u b k)(i:u=b->k=To):EqAt A s u b k:=λprog w E Q f=>by
 unfold eqBool
 refine jB (qH (λe=>?_) λ_=>?_)
 ·rw[i (eq_of_beq e)]at f
  exact Za (xC (Zb f))
 ·cases q<;>exact Za (h prog w E _ (gG f))
theorem xX(I:BM)(n:Nat):∀(A:Bg)(d d':D){v O:V}{u B:Am},d.dep<=n->n<=900->d'.dep<1000->Rep X.K H d v->Rep X.K H d' O->RelV v u->RelV O B->A.units+n+1<cLine->
  RcAt A s u B (d.eqv d')/\RcNeAt A s u B (!d.eqv d')/\EqAt A s u B (d.eqv d'):=by
 induction n using Nat.strongRecOn with
 |_ n ih=>
  intro A d d' v O u B p hn F r U q q' hu;have k:=ku I Ad r q;have k':=ku I F U q';suffices z:RcAt A s u B (d.eqv d')/\RcNeAt A s u B (!d.eqv d')from⟨z.1,z.2,EqAt.rc k z.1 λe=>by subst e;cases q.inj q';rw[<-Rep.inj I n 'c' p F r U];exact vZ d Ad⟩
  have b:A.units<cLine:=by lia
  have M:∀{J l:Aq}{xs ys:Aw}{its its2:AF},(D.tup J).dep<=n->(D.tup l).dep<1000->Reps X.K H J xs->Reps X.K H l ys->Vals xs its->Vals ys its2->∀j(g1:j<Dr)(g2:j<Fc),EqAt YI s AA[j] its2.toArray[j] ('ǲ'.eqv QbA):=λz1 z2 w y t i j g1 g2=>by obtain⟨w1,k1,k2⟩:=JiX I w t g1;obtain⟨w2,k3,k4⟩:=JiX I y i g2;simp only[D.dep]at z1 z2;exact(ih (n-1) Ad YI _ _ (lU Ad) Ad (iF (lU (Zh _)) Ad) k1 k3 k2 k4 (by show A.units+1+(n-1)+1<cLine;lia)).2.2
  clear ih r U q q';rcases k with _|_|_|_|@⟨J,_,_,its,w,t,f⟩|@⟨J,_,_,its,w,t,f⟩<;>rcases k' with _|_|_|_|@⟨l,_,_,its2,y,i,h⟩|@⟨l,_,_,its2,y,i,h⟩
  ·exact⟨.none_none,.none_none⟩
  ·exact⟨.none_bool _,.none_bool _⟩
  ·exact⟨.none_int _ _,.none_int _ _⟩
  ·exact⟨.none_str _ _,.none_str _ _⟩
  ·exact⟨.none_tuple h b,.none_tuple h b⟩
  ·exact⟨.none_list h b,.none_list h b⟩
  ·exact⟨.bool_none _,.bool_none _⟩
  ·exact⟨.bool_bool _ _,.bool_bool _ _⟩
  ·exact⟨.bool_int _ _ _,.bool_int _ _ _⟩
  ·exact⟨.bool_str _ _ _,.bool_str _ _ _⟩
  ·exact⟨.bool_tuple _ h b,.bool_tuple _ h b⟩
  ·exact⟨.bool_list _ h b,.bool_list _ h b⟩
  ·exact⟨.int_none _ _,.int_none _ _⟩
  ·exact⟨.int_bool _ _ _,.int_bool _ _ _⟩
  ·exact⟨.int_int _ _ _ _,.int_int _ _ _ _⟩
  ·exact⟨.int_str _ _ _ _,.int_str _ _ _ _⟩
  ·exact⟨.int_tuple _ _ h b,.int_tuple _ _ h b⟩
  ·exact⟨.int_list _ _ h b,.int_list _ _ h b⟩
  ·exact⟨.str_none _ _,.str_none _ _⟩
  ·exact⟨.str_bool _ _ _,.str_bool _ _ _⟩
  ·exact⟨.str_int _ _ _ _,.str_int _ _ _ _⟩
  ·exact⟨.str_str _ _ _ _,.str_str _ _ _ _⟩
  ·exact⟨.str_tuple _ _ h b,.str_tuple _ _ h b⟩
  ·exact⟨.str_list _ _ h b,.str_list _ _ h b⟩
  ·exact⟨.tuple_none f b,.tuple_none f b⟩
  ·exact⟨.tuple_bool _ f b,.tuple_bool _ f b⟩
  ·exact⟨.tuple_int _ _ f b,.tuple_int _ _ f b⟩
  ·exact⟨.tuple_str _ _ f b,.tuple_str _ _ f b⟩
  ·have C:Dr=Ac:=by rw[Zn,<-t.length,w.length]
   have L:Fc=l.length:=by rw[Zn,<-i.length,y.length]
   have ev:((List.range (min Dr Fc)).all (λj=>'ǲ'.eqv QbA)&&its.toArray.size==Fc)=eqvs J l:=by
    rw[C,L];by_cases m:Ac=Yr
    ·rw[JcG J l m,<-m,Nat.min_self];simp
    ·rw[JlF m];simp[m]
   show RcAt A s _ _ (eqvs J l)/\RcNeAt A s _ _ (!eqvs J l);rw[<-ev];exact⟨.tuples f h b Nc,.tuples f h b Nc⟩
  ·exact⟨.tuple_list f h b,.tuple_list f h b⟩
  ·exact⟨.list_none f b,.list_none f b⟩
  ·exact⟨.list_bool _ f b,.list_bool _ f b⟩
  ·exact⟨.list_int _ _ f b,.list_int _ _ f b⟩
  ·exact⟨.list_str _ _ f b,.list_str _ _ f b⟩
  ·exact⟨.list_tuple f h b,.list_tuple f h b⟩
  ·have C:Dr=Ac:=by rw[Zn,<-t.length,w.length]
   have L:Fc=l.length:=by rw[Zn,<-i.length,y.length]
   show RcAt A s _ _ (eqvs J l)/\RcNeAt A s _ _ (!eqvs J l);by_cases m:Ac=Yr
   ·rw[JcG J l m,<-C];exact⟨.lists f h (by rw[C,L,m]) b Nc,.lists f h (by rw[C,L,m]) b Nc⟩
   ·rw[JlF m];have hb:('Ɗ' !=Fc)=To:=by rw[C,L];simpa using m
    exact⟨.lists_lengths f h hb b,.lists_lengths f h hb b⟩
end
section
variable{U:Ae}{c:Expr}{p:Px}
def PIf(X:Cx)(ifs:CY)(t:TT):Prop:=∀(Y:AU)(s:Ao)(Z:Cg)(H:Hp)(Q:EM),L2.Inv X Y Z H s->t Z H Q->
 wpAny Av X.A (forIn ifs To λc r=>if r=To then do let ok<-isTrue c Se (eval c Se);pure (ForInStep.yield ok)else pure TF) Mv X.xe s
def JhL:PIf X [] (tT X U Cb):=λY s Z H Q I⟨O,r,b,e,q⟩=>by
 cases e
 exact wpAny_tests_nil ⟨H,I,q H E6⟩
def Jrs(h:PT X c eI):PIf X [c] eI:=λY s Z H Q I w=>wpAny_tests_one (h Y s Z H Q I w)
def Jlr:∀{l:AD},Yr=2->∃a b,l=[a,b]
 |[a,b],_=>⟨a,b,rfl⟩
def TgOk(X:Cx)(tg:Expr)(nt m:Nat):Prop:=∀(Y:AU)(s:Ao)(l j:Cg)(H:Hp)(d:D)(v:V)(u:Am)(f:Fm)(Q:L2.St->Hp->Prop),Yr=m->L2.Inv X Y (l++j) H s->RelV v u->Rep X.K H d v->kA nt d=.ok f->
 (∀b:L2.St,aL=m->YW=m->(∀(i:Nat)(h:D),f[i]? =So (So h)->∃w,b[i]? =So (So w)/\Rep X.K H h w)->Q (b++j) H)->
 wpAny Av X.A (assign tg Se u) (λ_ q=>NP X Y Q q) X.xe s
def Jvq(w:X.N[0]? =So x)(j:EV)(l:HB)(f:Vf):TgOk X B7 0 1:=by
 intro Y s t q H d v u m Q y I r z b h;refine kL (pos:=pos) j w l f Y s (t++q) H v u Q I r ?_;obtain⟨C,rfl⟩:=List.length_eq_one_iff.mp y;simp only[kA,if_true]at b;cases b;refine h [So v] rfl rfl λi B e=>?_;cases i with
 |zero=>simp at e;subst e;exact⟨v,rfl,z⟩
 |succ i=>simp at e
def JtX{y:Str}{k:Nat}{p1 q:Pos}(hN:X.N[0]? =So x)(l:X.N[1]? =So y)(m:EV)(hx:HB)(w:Vf)
  (hy:Loc Cy y) (hg:X.fn y=To\/X.env.scope.names.lookup y=So .local) (hc:CQ):TgOk X (.Tuple [.Name x p1,.Name y q] k pos) 2 2:=by
 intro Y s lo hi H d v u new Q L I r M b h;refine JpM (pos:=pos) hc (zU (kL (pos:=p1) m hN hx w) (zU (kL (pos:=q) m l hy hg) JmS)) rfl rfl Y s (lo++hi) H v u Q I r ?_;unfold kA at b;rw[if_neg 'p']at b;cases d with
 |tup J=>
  dsimp only at b;rw[if_neg 'p']at b;split at b
  ·rename_i C;cases b;obtain⟨a,xs,rfl,hq,z⟩:=M;obtain⟨d0,d1,rfl⟩:=Jlr C;obtain⟨j,r0,t,h0,f,r1,F,O,B⟩:=z;subst F;subst B;subst t;refine⟨a,[j,f],rfl,hq,rfl,j,[f],rfl,f,[],rfl,rfl,?_⟩;obtain⟨l0,l1,rfl⟩:=Jlr L;refine h [So j,So f] rfl rfl λi d' e=>?_;rcases i with _|_|i
   ·simp at e;subst e;exact⟨j,rfl,h0⟩
   ·simp at e;subst e;exact⟨f,rfl,O⟩
   ·simp at e
  ·cases b
 |_=>cases b
end
def xV{J:AD}{i:Nat}{d:α}(h:J[i]? =So d):J.drop i=d::J.drop BQ:=by obtain⟨b,f⟩:=ZB.mp h;rw[List.drop_eq_getElem_cons b,f]
def ReadOk.front{K:Ak}{lo hi:Cg}{new O:Fm}(l:lo.length=new.length)(j:∀(i:Nat)(d':D),new[i]? =So (So d')->∃w,lo[i]? =So (So w)/\Rep K H d' w)(r:ReadOk K H hi O):ReadOk K H (lo++hi) (new++O):=by
 intro i d e;by_cases f:i<new.length
 ·rw[xF f]at e;obtain⟨w,b,h⟩:=j i d e;exact⟨w,by rw[xF 'c'];exact b,h⟩
 ·rw[yF 'c']at e;obtain⟨w,b,h⟩:=r _ d e;exact⟨w,by rw[yF 'c',l];exact b,h⟩
section
variable{ls:Ag}{sc:AO}{U:Ae}
def Jdh{M:Model}{h:Addr}{f:DP}{m:Str}{l:D6}{j:Am}{i:Env}{b:Addr}{Q:Env->Shared->Prop}
  (r:Q (newEnv scope Aa h (cellsFrom Es D9 f) m l j (So i) b) {s with heap:=pushCells (s.heap.push {cls:=.type "dict",data:=.dict #[]}) D9}):
  wpAny M A (newFunctionEnv scope h f [] m l j (So i) b) Q E s:=by simp only[newFunctionEnv,kG,if_true];refine Za (wpAny_alloc ?_);refine Za (wpAny_layCells _ (λname kind cells=>by cases q:kind==YQ<;>simp[q]) _ _ _ _ ?_);rw[show({s with heap:=s.heap.push {cls:=.type "dict",data:=.dict #[]}}:Shared).heap.objs.size='Ɓ'+1 from ZP ..];rw[List.forIn_nil];exact Za (Zb (Zb r))
def JhF(X:Cx)(Cd:Addr)(x:Am)(f:Ao):Prop:=∃m,f.heap.Ns Cd m/\∀h,Heap.SameBut Cd f.heap h->∀b:Env,b.locals=Cd->wpAny Av X.A (PySem.passOn "comprehension.variables-let-go" x b:Sem Value) (λ_ _=>False) X.xe {f with heap:=h}
def Jrf{e:Am}{O env':Env}(h:O.frame=env'.frame):noteFrame e O=noteFrame e env':=by unfold noteFrame PySem.frameOf;rw[h]
structure Sib(X X':Cx):Prop where
 code:X'.env.code=X.env.code
 qual:X'.env.qual=Qbp
 base:X'.base=YD
 mg:X'.mg=X.mg
 tb:∀P ps,X.H₀ P=So (.tbl ps)->∃more,X'.H₀ P=So (.tbl (ps++more))
def JsL{H2:Hp}{s2 s':Ao}{E':Az}{Cc:Addr}{ce:Env}(C:Al)(I2:L2.Inv X Y Z H2 s2)(f2:∀b∈fp,FpOk X Y H2 b)(hCd:AN<=Cd)
  (F:FlyIn 'ɧ' Cc a W s') (hx:∀s5,FlyIn X Cc a W s5->X.xe AE s5) (hce:ce.frame=X.env.frame):notedBy Av X.A ce (JhF X Cd) AE s':=by
 obtain⟨e0,f,L,j,hf0,hfx⟩:=C.fr;obtain⟨ps,σ',I',hxx⟩:=F.inv;have hfr:X.A.frames=So (e0::f):=by rw[<-j];exact I2.ok.frames
 show wpAny _ X.A (noteFrame AE ce) _ _ s';rw[Jrf (env':=e0) (hce.trans (hfx.trans hf0.symm))];have hstk:∀b,b∉X.fs->b≠AB->b∉frs Yt:=λb h1 h2 hm=>by
  rcases Ze.mp (I2.stkSub b hm)with e|e
  ·exact h2 e
  ·exact h1 e
 have rest:∀(B:Heap)(a0:Am)(h1 h4:Heap),L2.Inv 'ɧ' ps σ' W {s' with heap:=h1}->B.StaysIn h1->(∀b u,W b=So u->∃o,B.get? b=So o)->
   (∀b o,s2.heap.get? b=So o->b∉frs X.stack->b∉fp->(H2 b=No->B.get? b=So o)/\∃o',B.get? b=So o')->Heap.HeldW B (e0::f) a (.ref Cc) a0 L h4->h1.UpToSlots h4->JhF X Cd AE {s' with heap:=h4}:=by
  intro B a0 h1 h4 I1 k1 tr kp i up;obtain⟨m,hn,_⟩:=I1.loc;have hn4:h4.Ns Cd m:=up.ns hn;refine⟨m,hn4,λM hsb cenv _=>?_⟩;obtain⟨g1,g2,g3,oe,vs,T,oT,ts,he,hcls,hd,hv1,hnT,hTe,hT,y,h3⟩:=i;obtain⟨oC,esC,epC,hoC,hdC,_⟩:=hn4;have hfC:W Cd=No:=I1.free;have neC:∀b o vs,h4.get? b=So o->o.data=.fields vs->b≠Cd:=λb o vs hb hd' q=>by
   rw[q,hoC]at hb;cases hb;rw[hdC]at hd';cases hd'
  have he5:=(hsb.2 a (neC a oe vs he hd)).trans he;have hT5:=(hsb.2 T (neC T oT ts hT y)).trans hT;have hsz3:3<ts.size:=(zJ.mp h3).1;unfold PySem.passOn;refine Za (ZV he5 hd hv1 ?_);rw[if_neg (show¬((Value.ref T==Value.none)=To)from by simp)];have go:∀(v:Am),X.xe AE {s' with heap:=M.update T (Obj.mapFields (·.setIfInBounds 3 v))}:=λv=>by
   refine hx _ ?_;have hT6:(M.update T (Obj.mapFields (·.setIfInBounds 3 v))).get? T=So (Obj.mapFields (·.setIfInBounds 3 v) oT):=ZY _ hT5 (mX (kJ y _));have oth:∀b,b≠T->(M.update T (Obj.mapFields (·.setIfInBounds 3 v))).get? b=M.get? b:=λb hb=>ZS _ _ Fg;have B5:∀b o,b≠Cd->B.get? b=So o->(M.update T (Obj.mapFields (·.setIfInBounds 3 v))).get? b=So o:=λb o hb hB=>(oth b λq=>by rw[q,hnT]at hB;cases hB).trans ((hsb.2 b hb).trans (g1 b o hB));have hB':∀{b o},b≠Cd->B.get? b=So o->'ō'.get? b=So o:=λhb hB=>uE _ hB (by simpa using hb);have w:∀{b o},'ō'.get? b=So o->b≠Cd/\B.get? b=So o:=fun{b o}q=>⟨λz=>(by
    rw[PySem.W.hideAll_none [Cd] (by simp[z])]at q;cases q),qQ _ q⟩
   have noB':∀{b},B.get? b=No->'ō'.get? b=No:=fun{b}q=>by
    cases z:'ō'.get? b with
    |none=>rfl
    |some o=>rw[(w z).2]at q;cases q
   have t:∀b o,s2.heap.get? b=So o->b≠Cd:=λb o q=>Zt (Zw (Zk q) hCd);have frm:∀b o,h1.get? b=So o->(∀vs,o.data≠.fields vs)->b≠Cd->∃sl,(M.update T (Obj.mapFields (·.setIfInBounds 3 v))).get? b=So {o with slots:=sl}:=λb o hb hnf hne=>by
    obtain⟨sl,e4⟩:=up b o hb hnf;exact⟨sl,(oth b λq=>by
     rw[q,hT]at e4;injection e4 with e4;exact hnf ts (by have:=iA Obj.data e4;rw[y]at this;exact this.symm)).trans ((hsb.2 b hne).trans e4)⟩
   have U1:Un HZ fp H2 W cC h1:=I1.base;have fo:∀b∈frs Yt,∃o,s2.heap.get? b=So o/\∀vs,o.data≠.fields vs:=λb hb=>(I2.stack.mem hb).2;have nfp:∀b∈frs Yt,b∉fp:=λb hb hm=>by obtain⟨_,q1,q2,_⟩:=f2 b hm;exact hstk b q2 q1 hb
   have slt:∀b o,s2.heap.get? b=So o->H2 b=No->b∈frs X.stack->∃sl,(M.update T (Obj.mapFields (·.setIfInBounds 3 v))).get? b=So {o with slots:=sl}:=λb o hb h0 hf=>by obtain⟨sl,e1⟩:=U1.slot b o hb h0 hf (nfp b hf);obtain⟨o',ho',hnf⟩:=fo b hf;rw[hb]at ho';cases ho';obtain⟨sl2,e2⟩:=frm b _ e1 hnf eJ;exact⟨sl2,e2⟩
   have un:Un HZ fp H2 W cC (M.update T (Obj.mapFields (·.setIfInBounds 3 v))):=by
    refine⟨λb o hb h0 hf hp=>B5 b o eJ ((kp b o hb hf hp).1 h0),λb o hb h0 hf hp=>slt b o hb h0 hf,U1.free,λb o hb hp=>?_,U1.tups,U1.frzs,U1.tbls⟩;by_cases hf:b∈frs Yt
    ·obtain⟨sl,e⟩:=slt b o hb (I2.stkFree b hf) hf;exact⟨_,e⟩
    ·obtain⟨o',e⟩:=(kp b o hb hf hp).2;exact⟨o',B5 b o' eJ e⟩
   have trB:∀b u,W b=So u->∃o,'ō'.get? b=So o:=λb u e=>by obtain⟨o,q⟩:=tr b u e;exact⟨o,hB' (λz=>by rw[z,hfC]at e;cases e) q⟩
   have st6:'ō'.StaysIn (M.update T (Obj.mapFields (·.setIfInBounds 3 v))):=λb o q=>B5 b o (w q).1 (w q).2;have ff:(M.update T (Obj.mapFields (·.setIfInBounds 3 v))).FunFrames 'ō' Yt:=by
    have base:∀l:List Env,(∀b∈frs l,b∈frs Yt)->h4.FunFrames B l->(M.update T (Obj.mapFields (·.setIfInBounds 3 v))).FunFrames 'ō' l:=by
     intro l;induction l with
     |nil=>intro _ _;trivial
     |cons en r ih=>intro hs hl;obtain⟨hk,⟨L1,o1,hf1,hn1,ho1,hd1⟩,hr⟩:=hl;have hL1:L1∈frs Yt:=hs L1 (by unfold frs;rw[wD,hf1];exact vM);obtain⟨o2,I,_⟩:=fo L1 hL1;refine⟨hk,⟨L1,o1,hf1,noB' hn1,?_,hd1⟩,ih (λb hb=>hs b (by unfold frs;rw[wD,hf1];exact Zx _ hb)) hr⟩;exact(oth L1 λq=>by rw[q,hT]at ho1;cases ho1;exact hd1 ts y).trans ((hsb.2 L1 (t L1 o2 I)).trans ho1)
    rw[j];exact base (e0::f) (λb hb=>by rw[j];exact hb) g3
   refine⟨⟨Y,Z,I2.call' (ch:=fp) I1.os un (HOk.onB I1.hok trB (λb o q=>k1 b o (w q).2) st6) I1.bare (λb hb=>?_),.inr ⟨PySem.W.hideAll B [Cd],a0,v,⟨st6,noB' g2,ff,oe,vs,T,_,_,(oth a (Ne.symm hTe)).trans he5,hcls,hd,hv1,noB' hnT,hTe,hT6,kJ y _,by simp[hsz3]⟩,trB,λb o hb hn hnx=>?_,λp hp=>?_⟩⟩⟩
   ·obtain⟨_,f1',f2',f3',f4',f5'⟩:=f2 b hb;exact OR
   ·have nfs:b∉X.fs:=λz=>hn (by
     rcases I2.ok.stk with e|⟨e,_⟩
     ·rw[e];exact z
     ·rw[e];obtain⟨e',he',hf'⟩:=ZX.mp z;exact ZX.mpr ⟨e',.tail _ he',hf'⟩)
    have np:b∉fp:=λz=>by
     rcases(f2 b z).2.2.2.1 with q|q
     ·exact hnx q
     ·exact absurd (Zw (Zk hb) q) Cr
    obtain⟨o2,I⟩:=I2.base.there b o hb hnx;have q:=kp b o2 I hn np;refine SN
    ·have e2:=I2.base.keep b o hb h0 nfs hnx
     rw[I]at e2;cases e2;exact hB' (t b _ I) (q.1 (I2.base.free b _ hb h0 hnx))
    ·obtain⟨o',e⟩:=q.2
     exact⟨o',hB' (t b _ I) e⟩
   ·obtain⟨q1,q2,q3,q4,_⟩:=I2.pin p eL;exact hB' (t _ _ q1) ((kp p.1 p.2 q1 (hstk p.1 q4 q3) λz=>(f2 _ z).2.2.2.2.2 p eL rfl).1 q2)
  have fly:wpAny Av X.A (do setFlight AE cenv.frame;throw AE:Sem Value) (λ_ _=>False) X.xe {s' with heap:=M}:=by
   refine Za ?_;unfold setFlight;refine Za (ZV he5 hd hv1 ?_);rw[if_pos 'k'];exact qC hT5 y hsz3 (wpAny_throw (go _))
  first
   |exact Za (Zb fly)
   |exact fly
 rcases hxx with⟨h,vs,hm,Ih⟩|⟨B,a0,flv,fl,tr,kp,_⟩
 ·have hk:(PySem.W.hideAll h (frs (e0::f))).StaysIn h:=λb o q=>qQ _ q;have hin:∀O∈(e0::f),∀b,O.frame=So b->b∈frs (e0::f):=λO he b hb=>ZX.mpr ⟨O,he,hb⟩;have hs0:'ɧ'.stack=e0::f:=j;have hstk2:h.FunFrames YD (e0::f):=by rw[<-hs0];exact Ih.stack
  refine Jel hfr hf0 hk (PySem.W.funFrames_hide hstk2 hin) hm λh' a0 i up=>?_;refine rest _ a0 h h' Ih hk (λb u e=>?_) (λb o hb hn hp=>?_) i ((yW hm.keeps).trans up)
  ·obtain⟨o,ho⟩:=HOk.has Ih.hok e;exact⟨o,uE _ ho λz=>by rw[Ih.stkFree b (by rw[hs0];exact z)]at e;cases e⟩
  ·rw[j]at hn;refine⟨λh0=>uE _ (Ih.base.keep b o hb h0 (by show b∉frs Yt;rw[j];exact hn) hp) hn,?_⟩;obtain⟨o',e⟩:=Ih.base.there b o hb hp;exact⟨o',uE _ e hn⟩
 ·have fl':qZ B (e0::f) a (.ref Cc) a0 flv YG:=by rw[<-j];exact fl
  exact Jev hfr hf0 fl' λh' i up=>rest B a0 YG h' I' fl.1 tr kp i up
inductive CI(X:Cx)(call:Ae)(X':Cx)(ac:Addr)(tn:Nat->Heap->Prop)(fp:A7)(H H2:Hp)(n:Nat)(σ:Cg)(nt:Nat)(pc pe:Px)(env:Fm)(ds:Aq)(Gd:List D->Prop):Nat->Shared->Prop
 |mk (i:Nat) (lo:L2.St) (H':Hp) (its:List Value) (k:Nat) (ys:List V) (done:List D) (s':Shared):L2.Inv X' [(ac,pE its k)] (lo++σ) H' s'->lo.length=n->tn i s'.heap->(∀b∈fp,H' b=No)->Same H2 H'->Vals ys its->Reps X.K H' done ys->done.length<=i->i<='Ƃ'->(JX nt (evD call pc) (evD call pe) env (ds.drop i)).Good (λrest=>Gd (done++rest)) Bz->
  CI X call X' ac tn fp H H2 n σ nt pc pe env ds Gd (Ac-i) s'
theorem Jgb{O:Fm}{Gd:List D->Prop}{RR0:Value->Addr->Result->Shared->Prop}(C:Al)(h:E9)(hsrc:Gr)
  (htg:∀X',Ctx X' G C7 sc.names->TgOk X' tg nt Bo) (hif:∀X',Ctx X' G C7 sc.names->PIf X' ifs Dv) (helt:∀X',Ctx X' G C7 sc.names->Sib X X'->PE X' elt Gh)
  (I:BM) (r:LJ) (hw:tW X U ps Z H λJ9 W=>∃J,Walk X.K J9 W J/\Same H W/\J.length<=lineD/\(JX nt Lu Ls O J).Good Gd Bz)
  (hok:∀(w:Addr)(ys:Aw)(Hf:Hp)(Cd:Addr)(m:Bf)(s4:Ao)(dn:Aq),L2.Inv X Y Z Hf s4->s4.heap.Ns Cd m->FpOk X Y Hf Cd->Hf w=So (.lst ys)->H w=No->Same H Hf->Reps X.K Hf dn ys->Gd dn->RR0 (.ref w) Cd (.ok .next) s4) (hRR:∀w Cd x s',JhF X Cd x s'->RR0 w Cd (.error x) s'):
  wpAny Av X.A Qca (λx s₁=>wpAny Av X.A (pyIter x) (λit s₂=>wpAny Av X.A (newList []) (λw M=>
   wpAny Av X.A (newFunctionEnv sc X.env.globals Gz [] Qbp No .none (So Se)) (λcenv s₄=>
    codeAny Av X.A (.compStart Fu 0 it w {cenv with scope:=relabel sc Se}) (RR0 w cenv.locals) s₄) X.xe M) X.xe s₂) X.xe s₁) X.xe s:=by
 refine thn (hsrc Y s Z H _ I hw) λv s1 h1=>thn h1 λitv s2 h2=>?_;obtain⟨it,fp,tn,J9,H2,rfl,I2,T,st2,f2,J,hW,s02,hz,hG2⟩:=h2;refine ZF (Jdh ?_);dsimp only;generalize hH2:s2.heap.push {cls:=.type "list",dict:=No,data:=.seq ([]:List Value).toArray}=Hh;obtain⟨j,l⟩:∃j,j=pushCells (Hh.push {cls:=.type "dict",data:=.dict #[]}) Yz:=Au;rw[<-l];have hns₁:j.Ns YK (λ_=>No):=l▸(Heap.Ns.new Hh (.type "dict")).keeps (xQ _ _);have hC:Hh.objs.size=AN+1:=by rw[<-hH2,ZP]
 have hlt:∀b o,s2.heap.get? b=So o->b<AN:=λb o e=>Zk e;have old:∀b o,s2.heap.get? b=So o->j.get? b=So o:=λb o e=>by rw[l];exact xQ _ _ _ _ (Zd _ (hH2▸Zd _ e))
 have hacc:j.get? AN=So (pE [] 0):=by rw[l];exact xQ _ _ _ _ (Zd _ (hH2▸Zf _ rfl))
 have fpl:∀b∈fp,b<AN:=λb hb=>by obtain⟨o,e,_⟩:=T.obj _ _ st2 b hb;exact hlt b o e
 let RR:Result->Shared->Prop:=RR0 (.ref AN) YK;let ce:Env:=compEnvC sc (cellsFrom (YK+1) Yz Gz) YK Se;let E':Value->Shared->Prop:=notedBy Av X.A ce λe s'=>RR (.error e) s';let X':Cx:=iP X ls sc YK s2 H2 fp E';have C':Ctx X' G C7 Yz:=JoR C h;have SB:Sib X X':=⟨rfl,rfl,rfl,rfl,λP ps z=>I2.base.tbls P ps z⟩;have I4:L2.Inv X' [(AN,pE [] 0)] (List.replicate Bo No++Z) H2 {s2 with heap:=j}:=
  JoH C h l (ZP ..) I2 f2 (λb hb=>let⟨o,e,_⟩:=T.obj _ _ st2 b hb;⟨o,e⟩) hC hns₁ old hacc
 have sub:∀x c,'ǖ'.lookup x=So c->X.env.cells.lookup x=So c:=pP Yz [] λx c e=>by simp at e
 have stat:∀{W:Hp}{o:Obj},(∀b∈fp,W b=No)->∀b∈fp,FpOk X' [(AN,o)] W b:=fun{W o}hn b hb=>by
  have hb':=fpl b hb;refine⟨hn b hb,?_,I4.ok.exfs b hb,.inl hb,(I4.ok.exf b hb).2,λp hp=>?_⟩
  ·show b≠Hh.objs.size;rw[hC];exact Zt (oB hb')
  ·have e:p=(AN,o):=by simpa[X',iP]using hp
   rw[e];exact sD hb'
 have loop:∀M:Shared,M={s2 with heap:=j}->
   codeAny Av X.A (.compLoop Fu 0 Ce (.ref AN) ce) RR M:=by
  rintro M rfl;refine JgK (CI X U X' AN tn fp H H2 Bo Z nt pc pe O J Gd) ?_ Ac
   (.mk 0 (List.replicate Bo No) H2 [] 0 [] [] _ I4 nJ (T.keep _ _ _ st2 (λb hb o e=>old b o e)) (λb hb=>(f2 b hb).1) MA .nil rfl (Zh _) (yC _) (by simpa using hG2))
  rintro _ s'⟨i,lo,W,its,k,ys,done,_,I',hlo,st,fr,sm,hv,hr,hdl,hil,hg⟩;by_cases hi:i<Ac
  ·have go:=(hW W sm).1 i hi
   refine thn (T.item X' rfl rfl rfl C'.calm i _ s' (lo++Z) W X'.xe I' (stat fr) st go) λr' s4 zz0=>?_;obtain⟨u,hr',h4⟩:=zz0;subst hr';refine thn h4 λ_ s5 zz0=>?_;obtain⟨x,H5,I5,r5,y5,st5,fr5⟩:=zz0;obtain⟨s45,d,hd,rd⟩:=(hW W sm).2.2 i x H5 hi y5;rw[xV hd]at hg;simp only[JX]at hg;replace hg:=Rs.gB.mp hg;cases hb:kA nt d with
   |sk=>rw[hb]at hg;exact hg.elim
   |ex c=>exact(mV hb).elim
   |ok new=>
    rw[hb]at hg;replace hg:=Rs.gB.mp hg;have I5p:=I5.pinned (stat fr5) (T.obj _ _ st5);refine thn (htg X' C' _ s5 lo Z H5 d x u new (λσ' H''=>∃t:L2.St,σ'=t++Z/\t.length=Bo/\H5=H''/\ReadOk X.K H5 (t++Z) (new++O)) hlo I5p r5 rd hb λt l1 l2 hn=>
     ⟨t,rfl,l1,rfl,ReadOk.front (l1.trans l2.symm) hn (r.mono ('ք'.trans s45))⟩) λ_ s6⟨σ6,H6,I6,t,e6,l6,e7,rd6⟩=>?_
    subst e6;subst e7;refine thn (hif X' C' _ s6 _ _ (λb H7=>Same H5 H7/\(if b=To then((evD U pe (new++O)).bind λy=>'丷'.bind λys=>Rs.ok (y::ys)).Good (λrest=>Gd (done++rest)) Bz
     else(JX nt Lu Ls O Ib).Good (λrest=>Gd (done++rest)) Bz)) I6 ⟨new++O,rd6,Rs.good_calm (hg.mono (λd' hd'=>?_) λc z=>z)⟩) λok s7⟨H7,I7,L,q7⟩=>?_
    ·cases d' with
     |bl b=>
      refine⟨b,rfl,λH7 L=>⟨L,?_⟩⟩;cases b with
      |true=>exact iteT hd'
      |false=>exact iteF hd'
     |_=>exact hd'.elim
    have tn7:∀{s9:Ao}{H9:Hp}{o:Obj}{σ9:Cg},L2.Inv X' ([(AN,o)]++mF fp aX) σ9 H9 s9->tn BQ s9.heap/\∀b∈fp,H9 b=No:=fun{s9 H9 o σ9}I9=>by refine⟨T.keep _ _ _ st5 λb hb o' e=>(I9.pin (b,o') Q2).1,λb hb=>?_⟩;obtain⟨o',e,_⟩:=T.obj _ _ st5 b hb;exact(I9.pin (b,o') Q2).2.1
    cases ok with
    |false=>
     rw[if_neg ZE];have q7':'丷'.Good (λrest=>Gd (done++rest)) Bz:=by rw[if_neg ZE]at q7;exact q7
     obtain⟨t7,f7⟩:=tn7 I7;exact⟨Ac- BQ,by lia,.mk BQ t H7 its k ys done _ I7.unpinned l6 t7 f7 ((sm.trans s45).trans L) hv (hr.mono (s45.trans L)) Ad Ad q7'⟩
    |true=>
     rw[if_pos rfl];rw[if_pos rfl]at q7;replace q7:=Rs.gB.mp q7;refine thn (helt X' C' SB _ s7 _ _ (λv8 H8=>Same H7 H8/\∃y,Rep X.K H8 y v8/\(JX nt Lu Ls O Ib).Good (λrest=>Gd (done++(y::rest))) Bz) I7
      ⟨new++O,rd6.mono L,q7.mono (λy hy v8 H8 s78 r8=>⟨s78,y,r8,Rs.gB.mp hy⟩) λc z C0 H0 hm0 s0 a0 s0' F0=>ZT (JsL C I2 f2 (by rw[hC];exact jF _) F0 (λs5 F5=>z C0 H0 hm0 (('ք'.trans s45).trans (L.trans s0)) a0 s5 F5) rfl) (λ_ _ e=>hRR _ _ _ _ e) λ_ _ e=>hRR _ _ _ _ e⟩) λu8 s8⟨v8,H8,I8,r8,s78,y,ry,q8⟩=>?_
     have e8:=(I8.pin R3 Af).1;have hlen:its.length<=lineD:=by have h1:=hv.length;have h2:=hr.length;lia
     refine xA Qbt ⟨_,e8,rfl⟩ QaH Ry (PySem.list_append s2.heap.objs.size its.toArray k u8 (by rw[Zn,ZG];exact hlen)) ⟨e8,?_⟩;have q9:=PySem.IsL.update e8 (λx=>x.push u8);have hpush:its.toArray.push u8=(its++[u8]).toArray:=by simp
     rw[hpush]at q9;obtain⟨k9,q9⟩:∃k9,(s8.heap.update AN UJ).get? AN=So (pE (its++[u8]) k9):=⟨_,q9⟩;have f:=(I8.pin R3 Af).2;have I8u:L2.Inv X' (mF fp aX) (t++Z) H8 s8:=I8.pins_of λp hp=>I8.pin p (ZO _ (ZO _ hp));have I9:L2.Inv X' (mF fp aX) (t++Z) H8 {s8 with heap:=s8.heap.update AN UJ,toks:=s8.toks}:=by
      refine I8u.turned (it:=AN) (λb o hb e=>(ZS s8.heap _ Fg).trans e) f.1 f.2.1 (.inr (Zh _)) (λx c e=>?_) (λp hp=>?_)
      ·rcases Jia _ _ _ _ _ e with q|⟨q,_⟩
       ·obtain⟨v0,o0,h0,_⟩:=I2.cell x c (sub x c q);exact Zt (hlt c o0 h0)
       ·rw[hC]at q;exact sD (Zw (oB aQ) q)
      ·have hp':p∈mF fp aX:=by simpa[X',iP]using hp
       exact Zt (fpl _ (Jhf hp').1)
     have I10:L2.Inv X' ([(AN,pE (its++[u8]) k9)]++mF fp aX) (t++Z) H8 {s8 with heap:=s8.heap.update AN UJ,toks:=s8.toks}:=
      I9.pins_of λp hp=>(ZC.mp hp).elim (λz=>by
       have e:p=(AN,pE (its++[u8]) k9):=by simpa using z
       subst e;exact⟨q9,f.1,f.2.1,f.2.2.1,λv z=>(by cases z)⟩) λz=>I9.pin p (ZO _ z)
     obtain⟨t10,f10⟩:=tn7 I10;refine⟨Ac- BQ,by lia,.mk BQ t H8 (its++[u8]) _ (ys++[v8]) (done++[y]) _ I10.unpinned l6 t10 f10 (((sm.trans s45).trans L).trans s78) (hv.append (.cons r8 .nil)) ((hr.mono ((s45.trans L).trans s78)).append (Reps.one ry)) ?_ Ad ?_⟩
     ·rw[Zi,ZQ];lia
     ·simpa using q8
  ·--the end
   have hie:i=Ac:=by lia
   subst hie;rw[mR]at hg;simp only[JX]at hg;have hg':Gd done:=by have hg2:Gd (done++[]):=hg;simpa using hg2
   refine thn (T.done X' rfl rfl rfl C'.calm Ac _ s' (lo++Z) W X'.xe I' (stat fr) st (hW W sm).2.1) λr' s4 zz0=>?_;obtain⟨hr',I5⟩:=zz0;subst hr';obtain⟨m',hn',_⟩:=I5.loc;have f:=I5.pin R3 Af;have hlen:BU<=sizeLine:=by have h2:=hr.length;rw[ZG];have h3:lineD=16777216:=rfl;lia
   have HC:W YK=No:=I5.free;have okH:HOk Yu X.w MH Qcu:=by
    intro b o e;by_cases hb:b=AN
    ·subst hb;rw[Je]at e;cases e;exact⟨hlen,its,k,hv,f.1⟩
    ·rw[Jc hb]at e;have ok5:ObjOk Yu X.w W Qcu b o:=I5.hok b o e;refine ok5.stay (λc w' hc q=>q) (λc q=>?_) (λc xs q=>?_) λc o' u' q=>?_
     ·by_cases B:c=AN
      ·subst B;rw[f.2.1]at q;cases q
      ·rw[Jc B];exact q
     ·by_cases B:c=AN
      ·subst B;rw[f.2.1]at q;cases q
      ·rw[Jc B];exact q
     ·by_cases B:c=AN
      ·subst B;rw[f.2.1]at q;cases q
      ·rw[Jc B];exact q
   have un:Un HZ fp H2 MH cC Qcu:=by
    have U9:Un HZ fp H2 W cC Qcu:=I5.base;have ne1:∀b o,s2.heap.get? b=So o->b≠AN:=λb o e=>Zt (hlt b o e);have neH:∀b u,H2 b=So u->b≠AN:=λb u e z=>by rw[z,I2.hok.fresh (Zh _)]at e;cases e
    refine⟨U9.keep,U9.slot,λb o e n h2=>?_,U9.there,λb xs e=>?_,λb o u e=>?_,λb ps' e=>?_⟩
    ·rw[Jc (ne1 b o e)];exact U9.free b o e n h2
    ·rw[Jc (neH b _ e)];exact U9.tups b xs e
    ·rw[Jc (neH b _ e)];exact U9.frzs b o u e
    ·rw[Jc (neH b _ e)];exact U9.tbls b ps' e
   have If:L2.Inv X Y Z MH s4:=I2.call' (ch:=fp) I5.os un okH I5.bare λb hb=>by obtain⟨_,f1',f2',f3',f4',f5'⟩:=f2 b hb;exact OR
   have sH:Same W MH:=λb o e=>by rw[Jc (Ji e f.2.1)];exact e
   have hCn:upd W AN KA YK=No:=by rw[Jc (by rw[hC];exact Nat.succ_ne_self _)];exact HC
   exact hok AN ys _ YK m' s4 done If hn' (I2.fpOk (by rw[hC];exact jF _) hCn) Je (s02.free (I2.hok.fresh (Zh _))) ('ք'.trans sH) (hr.mono sH) hg'
 exact codeAny_compStart_list (loop _ rfl) (T.self _ 0 _ _ _ (T.keep _ _ _ st2 λb hb o e=>old b o e) (loop _ rfl))
def Jgc{O:Fm}{Q:VK}(r:LJ)(l:(evD U LZ O).Good (OutF X H Q) Bz):
  tW X U ps Z H λf W=>∃J,Walk X.K f W J/\Same H W/\J.length<=lineD/\(JX nt Lu Ls O J).Good (λj=>OutF X H Q (.lst j)) Bz:=by
 refine⟨O,r,(Rs.gB.mp l).imp λd b=>?_⟩;cases d with
 |lst J=>
  simp only[D.asL,Rs.bo]at b;split at b
  ·rename_i h;exact⟨J,rfl,λf W i w _=>⟨J,w,i,h,Rs.gB.mp b⟩⟩
  ·exact b.elim
 |_=>exact b.elim
def JqN{h':Heap}(I:BM)(f:FpOk X Y H Cd)(h:Heap.SameBut Cd WL h'):L2.Inv X Y Z H {s with heap:=h'}:=by obtain⟨m,j,t,l,q,r⟩:=f;exact I.turned (t':=Yp) (λb o i e=>(h.2 b i).trans e) m j l q r
def JhK(C:Al)(h:E9)(i:Gr)
  (t:∀X',Ctx X' G C7 sc.names->TgOk X' tg nt Bo) (l:∀X',Ctx X' G C7 sc.names->PIf X' ifs Dv) (j:∀X',Ctx X' G C7 sc.names->Sib X X'->PE X' elt Gh)
  (B:∀x,foldedSetIterable iter Se x=pure x:=by intro _;rfl):PE X Fu My:=by rintro Y s Z H Q I⟨O,r,F⟩;rw[eval_ListComp];refine wpAny_comprehension_free (use:=No) rfl B Qy h.kind (λy hy e=>((h.at hy).2.2 e).1) (Jgb (RR0:=λb C=>compPost Av X.A X.xe No BX b C) C h i t l j I r (Jgc r F) ?_ λ_ _ _ _ e=>e);intro b M u Cd m s4 dn If L f ha h0 sm rs hg;refine⟨m,L,λh' q=>⟨.ref b,u,JqN If f q,rfl,?_⟩⟩;obtain⟨ds',z,w⟩:=hg;cases z;exact w b M u sm h0 ha rs
def Jfe{w z:Pos}{i:Nat}{y:Str}(C:Al)(h:E9)(hi:X.N[i]? =So y)(hy:locB nm y=To)(l:Gr)
  (L:∀X',Ctx X' G C7 sc.names->TgOk X' tg nt Bo) (B:∀X',Ctx X' G C7 sc.names->PIf X' ifs Dv) (u:∀X',Ctx X' G C7 sc.names->PE X' elt Gh)
  (hs:∀x,foldedSetIterable iter Se x=pure x:=by intro _;rfl):PS X (.Assign [.Name y z] Fu w) (tAsg My EE):=by
 obtain⟨t,F⟩:=C.sto y hy;have nd:X.N.Nodup:=by rw[C.hN];exact C.nd
 have sw:∃b,swapsWith Fu (So (.Name y z)) w.line Se=pure b:=Au;obtain⟨b,sw⟩:=sw;cases b with
 |false=>exact qG nd hi t (JhK C h l L B Qx hs) sw F
 |true=>
  rintro Y s Z H D I⟨O,r,hG⟩;rw[exec_Assign_Name_used _ _ _ _ sw];refine Za (wpAny_standAt (Za ?_));show wpAny _ X.A (do let _<-comprehension Fu sc Se _ (newList []) Fo Qca (So Uw)) _ _ s;refine Za (ZT (wpAny_comprehension_free (use:=So Uw) (Q:=λ_ M=>SP X Y D .next M) rfl hs Qy h.kind (λy hy e=>((h.at hy).2.2 e).1)
   (Jgb (RR0:=λj C=>compPost Av X.A X.xe (So Uw) (λ_ M=>SP X Y D .next M) j C) C h l L B Qx I r (Jgc r hG) ?_ λ_ _ _ _ e=>e)) (λ_ M hq=>Zb (Zb hq)) λ_ _ e=>e)
  intro j ys Hf Cd m s4 dn If hn f ha h0 sm rs hg;show wpAny _ X.A (assign (.Name y z) Se (.ref j)) _ _ s4;refine wpAny_assign_Name (Jgy If nd hi t (v:=.ref j) rfl (λs5 I5⟨ad,sb,had⟩=>?_) F);have hne:Cd≠ad:=by
   rcases had with q|q
   ·rw[q];exact f.2.1
   ·exact Ne.symm (f.2.2.2.2.1 y ad q)
  refine⟨m,hn.sameBut sb hne,λh' hsb=>⟨_,Hf,JqN I5 f hsb,?_⟩⟩;obtain⟨ds',e',hQ⟩:=hg;cases e';exact hQ j ys Hf sm h0 ha rs
end
def Jno(l b:Addr)(items f:Cf)(n q:Nat)(dd i:D6)(sl j:Ff)(r:Ay+f.size<=sizeLine):
  Meets (Builtin.«list.__add__» Qh) (λ_ R s=>s.heap.get? l=So {cls:=.type "list",dict:=dd,data:=.seq items n,slots:=sl}/\s.heap.get? b=So {cls:=.type "list",dict:=i,data:=.seq f q,slots:=j}/\R (.ok (.ret (Value.ref Aa))) {s with heap:=s.heap.push {cls:=Value.type "list",data:=Data.seq (items++f)},toks:=Yp}):=
 .of_wp λprog w A R s h=>by
  obtain⟨L,g,d,I,B⟩:=s;obtain⟨t,m,h⟩:=h;have u:=QcB;have y:=fG;have z:=fX;have C:=fU;have F:=fV
  wp_walk using AutoSeq1.wpAny_loadPart' t,AutoSeq1.wpAny_loadPart' m;exact Lx
def JkM{w:Bc}{l b:Addr}{items f:Cf}{Q:Az}(M:OW)(I:s.heap.IsList b f)
  (h:Q FF {s with heap:=s.heap.push {cls:=.type "list",data:=.seq (items++f)}}) (hsz:Ay+f.size<=sizeLine):wpAny As A (binaryOp .Add BK Hi) Q E s:=by obtain⟨⟨cls,C,data,sl⟩,u,z,n,B⟩:=id M;obtain⟨⟨y,q,r,t⟩,i,m,L,j⟩:=id I;simp only at z B m j;subst z B m j;exact concat_meets ⟨_,u,rfl⟩ ⟨_,i,rfl⟩ PySem.noFill_list_add PySem.seq_list_add F.slot_list_add F.entry_list_add (F.args_list_add_2 _ _) (Jno l b items f n L C q sl t hsz) ⟨u,i,h⟩
def Jny{w:Bc}{t b:Addr}{ws:AF}{Q:Az}(L:IsTup WL t ([]:List Value).toArray)(I:QG)
  (h:Q Hi s):wpAny As A Rf Q E s:=by
 obtain⟨⟨C,F,z,sl⟩,u,y,n,B⟩:=id L;obtain⟨⟨r,l,m,q⟩,f,j,M,i⟩:=id I;simp only at y B j i;subst y B j i;exact concat_meets ⟨_,u,rfl⟩ II noFill_tuple_add seq_tuple_add sX KW QcI
   (tuple_addW0 t b ([]:List Value).toArray Qbo n M F l sl q Af) ⟨u,f,h⟩
def xI{n:Nat}(h:n<=lineD):n<=sizeLine:=by rw[ZG];exact h
def Jwc{a b:D}{E:Dc}(h:(op2 .add a b).Good P E):(∃i j,a=.int i/\b=.int j)\/(∃i j,a=.str i/\b=.str j)\/(∃i j,a=.tup i/\b=.tup j)\/∃i j,a=.lst i/\b=.lst j:=by cases a<;>first|exact(show False from h).elim|(cases b<;>first|exact(show False from h).elim|exact .inl Fb|exact .inr (.inl Fb)|exact .inr (.inr (.inl Fb))|exact .inr (.inr (.inr Fb)))
theorem Jtd:OpR X Nd (rD2 X .add):=by
 rintro Y s Z H x y v u Q I r z⟨dx,dy,C,F,h⟩;rcases Jwc h with⟨i,j,rfl,rfl⟩|⟨i,j,rfl,rfl⟩|⟨J,es,rfl,rfl⟩|⟨J,es,rfl,rfl⟩
 ·exact Jwd Y s Z H x y v u Q I r z ⟨_,_,C,F,Out.now h rfl⟩
 ·simp only[op2]at h;split at h
  ·rename_i w;exact JjS Y s Z H x y v u Q I r z ⟨_,_,C,F,xI w,Out.now h rfl⟩
  ·exact h.elim
 ·simp only[op2]at h;split at h
  ·rename_i w;obtain⟨a,xs,rfl,t,l⟩:=C;obtain⟨b,ys,rfl,B,m⟩:=F;have M:=Yr;have U:=eA;by_cases hx:xs=[]
   ·subst hx;have hd:J=[]:=l.nil_iff.mp rfl;subst hd;cases r;cases z;obtain⟨its,q,O,_⟩:=I.tuple t;obtain⟨f,q2,p2,_⟩:=I.tuple B;cases q;exact Jny O p2 ⟨.ref b,H,I,rfl,Out.now h ⟨b,ys,rfl,B,m⟩⟩
   ·refine JtG Y s Z H _ _ v u Q I r z ⟨a,b,xs,ys,rfl,rfl,t,B,hx,xI (by rw[M,U];exact w),λhy=>?_,λhy p hp=>?_⟩
    ·have he:es=[]:=m.nil_iff.mp hy;subst he;exact Out.now h ⟨a,xs,rfl,t,by simpa using l⟩
    ·obtain⟨s1,q⟩:=zH (K:=X.K) hp (l.append m);exact h _ _ s1 q
  ·exact h.elim
 ·simp only[op2]at h;split at h
  ·rename_i w;obtain⟨a,xs,rfl,t,l⟩:=C;obtain⟨b,ys,rfl,B,m⟩:=F;have M:=Yr;have U:=eA;cases r;cases z;obtain⟨its,q,O,_⟩:=I.list t;obtain⟨f,q2,p2,_⟩:=I.list B;have l3:=dY;have l4:=q2.length;have L:Ah+BU<=sizeLine:=xI (by rw[M,U];exact w);refine JkM O.isList p2.isList ?_ (by rw[Zn,Zn];lia);have ea:AA++f.toArray=(its++f).toArray:=by simp
   rw[ea];obtain⟨s1,w1⟩:=iI (K:=X.K) (xs:=xs++ys) I.fresh (l.append m);exact⟨.ref _,_,I.lnew (t':=Yp) (q.append q2) (by rw[Zi];exact L),rfl,h _ _ s1 w1⟩
  ·exact h.elim
def Jrm:OpR X Qbu (rD2 X .sub):=by rintro Y s Z H x y v u Q I b f⟨q,r,m,l,h⟩;obtain⟨i,j,rfl,rfl,t⟩:=tL h;exact Juo Y s Z H x y v u Q I b f Iv
theorem Jir(xs:Array α):∀(n:Nat)(b:Array α),((List.replicate n xs).foldl (·++·) b).size=b.size+n*xs.size
 |0,b=>by simp
 |n+1,b=>by
  rw[mG,zL,Jir xs n,Array.size_append,Nat.succ_mul]
  lia
def Jvr{a b:D}{E:Dc}(h:(op2 .mul a b).Good P E):(∃i j,a=.int i/\b=.int j)\/∃i j,a=.str i/\b=.int j:=by cases a<;>first|exact(show False from h).elim|(cases b<;>first|exact(show False from h).elim|exact .inl Fb|exact .inr Fb)
theorem Jtp:OpR X Ss (rD2 X .mul):=by
 rintro Y s Z H x y v u Q I f l⟨O,dy,r,m,h⟩;rcases Jvr h with⟨i,j,rfl,rfl⟩|⟨i,j,rfl,rfl⟩
 ·simp only[op2]at h;split at h
  ·rename_i b;refine Juf Y s Z H x y v u Q I f l ⟨i,j,r,m,?_,Out.now h rfl⟩;simp only[smallI,kC,Zc,Zs]at b;exact b
  ·exact h.elim
 ·simp only[op2]at h;split at h
  ·rename_i b;obtain⟨L,h2,h3,F⟩:=b;have C:x=V.str i:=r;have B:y=V.int j:=m;subst C B;obtain⟨t,rfl⟩:=f;obtain⟨U,rfl⟩:=l;have M:i.length*j.toNat<=1000*1000:=Nat.mul_le_mul F Ad;have w:PySem.Builtin.Str.tooLong (i.length*j.toNat)=Fo:=by unfold PySem.Builtin.Str.tooLong;rw[Zp];have:=ZG;lia
   have z:(j==1||i.length==0)=Fo:=by rw[nC,Zq,Zq];lia
   refine P.mul_str ?_ (λ_ _ q=>?_) (λ_ _=>w) ?_
   ·rw[Zp 'c',Zp 'c'];rfl
   ·have:(1000:Int)<=(2^63-1) / j:=by
     refine(Int.le_ediv_iff_mul_le Ad).mpr ?_;lia
    lia
   ·rw[if_neg 'c',if_neg (by rw[z];exact ZE)];refine⟨?_,⟨.str (repS i j),H,I.tok _,Au,Out.now h rfl⟩⟩;have e:(⟨'զ'.foldl (·++·) #[]⟩:Str).length=i.length*j.toNat:=by show('զ'.foldl (·++·) #[]).size=_;rw[Jir,Nat.mul_comm];simp[Str.length]
    rw[e];have:=ZG;lia
  ·exact h.elim
def JnH:OpR X PH (rD2 X .fdiv):=by
 rintro Y s Z H x y v u Q I l m⟨t,w,r,q,h⟩;obtain⟨i,j,rfl,rfl,b⟩:=tL h;split at b
 ·rename_i f;exact Jtq Y s Z H x y v u Q I l m RD
 ·exact b.elim
def Jsb:OpR X Qbv (rD2 X .mod):=by
 rintro Y s Z H x y v u Q I l m⟨t,w,r,q,h⟩;obtain⟨i,j,rfl,rfl,b⟩:=tL h;split at b
 ·rename_i f;exact Jvt Y s Z H x y v u Q I l m RD
 ·exact b.elim
def Jqj(t:Hs):OpR X (compareOp .Eq) (rD2 X .eq):=by
 rintro Y s Z H x y v u Q I l m⟨b,f,r,q,h⟩;have i:(if(JZ b&&JZ f)=To then Rs.ok (.bl (b.eqv f))else .sk:Rs D).Good BH Bz:=h;split at i
 ·rename_i j;simp only[JZ,Zc,Zs]at j;exact(xX I 20 X.A b f j.1 Ad Ad r q l m Ad).1 Yu X.w X.xe _ Vz
 ·exact i.elim
def JkX(t:Hs):OpR X (compareOp .NotEq) (rD2 X .ne):=by
 rintro Y s Z H x y v u Q I l m⟨b,f,r,q,h⟩;have i:(if(JZ b&&JZ f)=To then Rs.ok (.bl (!b.eqv f))else .sk:Rs D).Good BH Bz:=h;split at i
 ·rename_i j;simp only[JZ,Zc,Zs]at j;exact(xX I 20 X.A b f j.1 Ad Ad r q l m Ad).2.1 Yu X.w X.xe _ Vz
 ·exact i.elim
def lt_cs{a b:D}{E:Dc}(h:(op2 .lt a b).Good P E):(∃i j,a=.int i/\b=.int j)\/∃i j,a=.str i/\b=.str j:=by cases a<;>first|exact(show False from h).elim|(cases b<;>first|exact(show False from h).elim|exact .inl Fb|exact .inr Fb)
def mZ:OpR X R8 (rD2 X .lt):=by
 rintro Y s Z H x y v u Q I b f⟨q,r,m,l,h⟩;rcases lt_cs h with⟨i,j,rfl,rfl⟩|⟨i,j,rfl,rfl⟩
 ·exact op_lt Y s Z H x y v u Q I b f Iv
 ·exact JlJ Y s Z H x y v u Q I b f Iv
def Jvo:OpR X Qa4 (rD2 X .le):=by rintro Y s Z H x y v u Q I b f⟨q,r,m,l,h⟩;obtain⟨i,j,rfl,rfl,t⟩:=tL h;exact op_le Y s Z H x y v u Q I b f Iv
def Jqx:OpR X Qbw (rD2 X .gt):=by rintro Y s Z H x y v u Q I b f⟨q,r,m,l,h⟩;obtain⟨i,j,rfl,rfl,t⟩:=tL h;exact op_gt Y s Z H x y v u Q I b f Iv
def JwO:OpR X Qa5 (rD2 X .ge):=by rintro Y s Z H x y v u Q I b f⟨q,r,m,l,h⟩;obtain⟨i,j,rfl,rfl,t⟩:=tL h;exact op_ge Y s Z H x y v u Q I b f Iv
theorem iZ:∀{J:Aq}{j:Nat}{d:D},J[j]? =So d->d.dep<=deps J
 |[],_,_,h=>by simp at h
 |a::J,0,d,h=>by simp at h;subst h;simp only[deps];lia
 |a::J,j+1,d,h=>by
  have:=iZ (J:=J) (j:=j) (d:=d) DG
  simp only[deps];lia
open Classical in
noncomputable def eU (J:Aq) (its:AF) (d:D) (y:Am):Bool:=decide (∃(j:Nat)(b:D),its[j]? =So y/\J[j]? =So b/\b.eqv d=To)
open Classical in
def lS(I:BM)(r:Ic)(l:K0)(pd:deps J<1000){d':D}{j:Nat}{y:Am}(h1:its[j]? =So y)(h:J[j]? =So d'):
  eU J its d y=d'.eqv d:=by
 have same:∀k b,its[k]? =So y->J[k]? =So b->b=d':=λk b i f=>by
  obtain⟨O,C,F⟩:=r.get h
  obtain⟨M,z,w⟩:=r.get f
  obtain⟨U,m,B⟩:=l.get C
  obtain⟨L,q,u⟩:=l.get z
  rw[h1]at m;cases m
  rw[i]at q;cases q
  have:=B.inj u
  subst this
  exact Rep.inj I _ pd (iZ f) (iF (iZ h) pd) w F
 cases e:d'.eqv d with
 |true=>exact ZD ⟨j,d',h1,h,e⟩
 |false=>
  refine Zp ?_
  rintro⟨k,b,i,f,t⟩
  rw[same k b i f,e]at t
  cases t
open Classical in
theorem JqJ(I:BM)(l:Ic)(h:K0)(pd:deps J<1000)(d:D):its.toArray.any '亴'=J.any λf=>f.eqv d:=by
 have t:=h.length
 have w:=Yr
 rw[show its.toArray.any '亴'=its.any '亴' by simp,Bool.eq_iff_iff,List.any_eq_true,List.any_eq_true]
 constructor
 ·rintro⟨y,u,e⟩
  obtain⟨j,f,_,r,m⟩:=ZW e
  exact⟨f,mJ r,m⟩
 ·rintro⟨f,q,e⟩
  obtain⟨j,i⟩:=uQ q
  have b:j<its.length:=by
   have:=(ZB.mp i).1
   lia
  refine⟨its[j],List.getElem_mem b,?_⟩
  rw[lS I l h pd (Zu b) i]
  exact e
theorem nT(L:Hs)(I:BM)(h:Ic)(f:K0){x:V}{v:Am}(F:Rep X.K H d x)(q:RelV x v)(w:deps J<=20)(r:d.dep<=20):
  ∀y,y∈AA->EqAt cD s y v (eU J its d y):=by
 intro y t;have l:y∈its:=by simpa using t
 obtain⟨j,i⟩:=uQ l;have M:=YW;have U:=h.length;have B:=(ZB.mp i).1;have b:J[j]? =So 'ǲ':=by rw[rM,Zu 'c'];rfl
 rw[lS I h f 'c' i b];obtain⟨O,z,C⟩:=h.get b;obtain⟨u1,m,u⟩:=f.get z;rw[i]at m;cases m;exact(xX I 20 cD _ d (lU w) Ax Ad C F u q (by show X.A.units+1+20+1<cLine;lia)).2.2
def JoA(h:x.cps=#[x.cps.getD 0 0]):x=⟨#[x.cps.getD 0 0]⟩:=by obtain⟨c⟩:=x;show Str.mk c=_;rw[<-h]
def JpS(F:Hs):OpR X Qby (rD2 X .isin):=by
 rintro Y s Z H x y v u Q I r t⟨b,L,C,B,h⟩;cases L with
 |str z=>
  cases b with
  |str w=>
   simp only[op2]at h;split at h
   ·rename_i j;refine JkQ Y s Z H x y v u Q I r t ⟨w,z,C,B,?_⟩;have e:=PySem.StrLaws.found_one z (w.cps.getD 0 0);rw[<-JoA j]at e;rw[e];exact Out.now h rfl
   ·exact h.elim
  |_=>exact(show False from h).elim
 |tup J=>
  have f:(if(JZ (.tup J)&&JZ b)=To then Rs.ok (.bl Qw)else .sk:Rs D).Good BH Bz:=by cases b<;>exact h
  split at f
  ·rename_i j;have i:deps J+1<=20/\b.dep<=20:=by simpa[JZ,D.dep]using j
   obtain⟨a,xs,rfl,q,l⟩:=B;cases t;obtain⟨its,m,p,_⟩:=I.tuple q;refine SeqAt.in_tupleAt (eU J its b) p (nT F I l m C r Ad i.2) Po;rw[JqJ I l m 'c'];exact Out.now f rfl
  ·exact f.elim
 |lst J=>
  have f:(if(JZ BL&&JZ b)=To then Rs.ok (.bl Qw)else .sk:Rs D).Good BH Bz:=by cases b<;>exact h
  split at f
  ·rename_i j;have i:deps J+1<=20/\b.dep<=20:=by simpa[JZ,D.dep]using j
   obtain⟨a,xs,rfl,q,l⟩:=B;cases t;obtain⟨its,m,p,_⟩:=I.list q;refine SeqAt.in_listAt (eU J its b) Z4 (nT F I l m C r Ad i.2) Po;rw[JqJ I l m 'c'];exact Out.now f rfl
  ·exact f.elim
 |_=>cases b<;>exact(show False from h).elim
def JmI{K:Ak}{i:Int}(b:E5)(h:atD J i=So d):∃x,atI xs i=So x/\Rep K H d x:=by
 have l:=aL;unfold atD at h;unfold atI;have e:L2.ixN Ah i=ixn Ac i:=by rw[l];rfl
 rw[e];cases q:ixn Ac i with
 |none=>rw[q]at h;cases h
 |some j=>rw[q]at h;exact b.get h
def JuA:IxR X (rD2 X .idx):=by
 rintro b f Y s Z H x y v u Q I l m⟨O,U,r,B,h⟩F;cases O<;>first|exact(show False from h).elim|(cases U<;>first|exact(show False from h).elim|skip)
 ·rename_i z i;simp only[op2]at h;split at h
  ·rename_i M;cases q:atD YU i with
   |none=>rw[q]at h;exact h.elim
   |some c=>rw[q]at h;exact JtR b f Y s Z H x y v u Q I l m ⟨z,i,c,r,B,xI M,q,Out.now h rfl⟩ F
  ·exact h.elim
 ·rename_i J i;simp only[op2]at h;cases q:atD J i with
  |none=>rw[q]at h;exact h.elim
  |some d=>rw[q]at h;obtain⟨a,xs,rfl,j,C⟩:=r;obtain⟨w,L,t⟩:=JmI C q;exact Juy b f Y s Z H _ y v u Q I l m VW F
 ·rename_i J i;simp only[op2]at h;cases q:atD J i with
  |none=>rw[q]at h;exact h.elim
  |some d=>rw[q]at h;obtain⟨a,xs,rfl,j,C⟩:=r;obtain⟨w,L,t⟩:=JmI C q;exact Jsa b f Y s Z H _ y v u Q I l m VW F
end Rd
namespace HT
open PySem PyProof.Rows
def Jcx{prog:Bk}{w:Bc}{A:Bg}{E:Az}{s:Ao}{t sl:Addr}{items:Cf}{r u:Am}{lo hi:A2}{Q:Az}(b:Os)(x:s.heap.IsSliceOf sl r u .none)(pl:IsPart r lo)(z:IsPart u hi)
  (v:sIx Ay 0 lo=0/\sIx Ay Ay hi=Ay) (h:Q HG s):wpAny As A Ph Q E s:=by
 obtain⟨C,l,j,F⟩:=id x;have m:s.TypeIs K1 "slice":=⟨C,l,j⟩;unfold getItem;try with_reducible refine jB ?_
 first|refine Za (Zb ?_)|skip
 refine Za (wpAny_sequenceKey aJ Ax ?_);refine Za (ZM (name:=oS "__getitem__") aJ wR
  (ZH wR aJ entry_tuple_getitem ?_ Q3))
 show wpAny _ _ (Builtin.Tuple.tupleItemsOf (.ref t)>>=_) _ _ s;refine Za (tupleItemsOf_ b ?_);refine Za (mH m ?_);rw[if_pos 'p'];refine Za (Jbl x pl z ?_);have a:(((sIx Ay 0 lo:Nat):Int)==0&&(1:Int)==1&& GB==Ay)=To:=by rw[v.1,v.2];simp
 show wpAny _ _ (if(((sIx Ay 0 lo:Nat):Int)==0&&(1:Int)==1&& GB==Ay)=To then _ else _) _ _ s;rw[if_pos a];have f:∀{i:Bool->Shared->Prop},i To s->wpAny As YI (Builtin.Tuple.tupleIsExact HG) i E s:=fun{i}q=>by obtain⟨o,y,B,n,G⟩:=id b;unfold Builtin.Tuple.tupleIsExact;refine Za (mH (T:="tuple") ⟨o,y,B⟩ ?_);exact Zb q
 first
  |exact Za (f (by simp only[if_true];exact Za (xC (Zb ⟨_,rfl,Zb h⟩))))
  |exact Za (wpAny_of_in1 (f (by simp only[if_true];exact Za (xC (Zb ⟨_,rfl,Zb h⟩)))))
end HT
namespace Rd
open PySem PySem.Spec PyProof.Rows L2 Pu
open PySem.SeqAt (EqAt RcAt RcNeAt)
variable{H H0 H1 W:Hp}{a l it tp:Addr}{Z σ':Cg}{s:Ao}{K:Ak}{X:Cx}{i k j n ep sl:Nat}{w:Bc}{A:Bg}{E:Az}{prog P:Bk}{N ks:Ag}{M is:Aj}{Y:AU}{xs:Aw}{G:Gw}{nm:Bd}{pos p1 p2 px apos np:Pos}{x y:Str}{J:Aq}{O:Fm}{t lb t1 t2 m z:Bool}{p pa pb:Px}{h h':Heap}{L L1:A7}{e b tg:Expr}{o:O1}{v:V}{α:Type}{es:Lg}{bs:List Bool}{items:Cf}{elts:CY}{st:Stmt}{R:N9}
section
variable{X:Cx}{U:Ae}{e a b c:Expr}{es:CY}{p pa pb pc pl ph:Px}{pos:Pos}
def JfM{lo hi:A2}(f:E5):Reps K H (cutD J lo hi) 'Ʌ':=by
 have l:=YW;have e:cutV xs lo hi=(xs.drop (six Ac 0 lo)).take (six Ac Ac hi-six Ac 0 lo):=by unfold cutV;rw[l];rfl
 rw[e];exact(f.drop _).take _
def JkO{v:Am}{o:A2}(h:IsPart v o):∃p:Option (Int×Tok),v=partValue p/\p.map (·.1)=o:=by
 cases h with
 |none=>exact⟨No,rfl,rfl⟩
 |int i t=>exact⟨So (i,t),rfl,rfl⟩
theorem JgZ(n:Nat)(lo hi:A2):Builtin.Str.strSliceIndices lo hi 1 n=(List.range (six n n hi-six n 0 lo)).map λk=>six n 0 lo+k:=by
 have q:∀a b:Nat,sliceRange (a:Int) (b:Int) 1=(List.range (b-a)).map λk=>a+k:=λa b=>by
  unfold sliceRange;have e:(if(a:Int)<b then((b:Int)-a+1-1) / 1 else 0).toNat=b-a:=by split<;>simp<;>lia
  simp only[show(1:Int)>0 by decide,if_true,e];refine vD λk _=>?_;lia
 have f:∀(v:A2)(d:Nat),(match v with|none=>(d:Int)|some i=>max 0 (min (if i<0 then i+(n:Int)else i) n))=((six n d v:Nat):Int):=λv d=>by
  cases v with
  |none=>rfl
  |some i=>
   unfold six;by_cases h:i<0
   ·simp only[h,if_true];lia
   ·simp only[h,ZN];lia
 rw[<-q];have r:=f lo 0;have u:=f hi n;unfold Builtin.Str.strSliceIndices;simp only[show(1:Int)>0 by decide,if_true];rw[<-r,<-u];cases lo<;>cases hi<;>rfl
theorem JkU(x:Str)(lo hi:A2):Txt.slice x lo hi=mkS Vi:=by
 have q:x.cps.toList.length=x.length:=ZU;have f:∀(d:Nat),d<=x.length->∀v,six Yo d v<=x.length:=λd F v=>by
  cases v with
  |none=>exact F
  |some i=>simp only[six];split<;>lia
 have B:=f 0 (yC _) lo;have C:=f Yo (Zh _) hi;have u:'Ͻ'.filterMap (x.cps[·]?)=Pu.cutD Yw lo hi:=by
  rw[JgZ,Pu.cutD,q];have:=StrLaws.picks Yw (six Yo Yo hi-six Yo 0 lo);generalize six Yo 0 lo=a at B this;generalize six Yo Yo hi=b at C this;by_cases h:a<=b
  ·rw[<-this a 'c'];simp only[xM]
  ·rw[show b-a=0 by lia];simp
 unfold Txt.slice;rw[u];split
 ·rename_i h;have hl:'Ͻ'.length=x.length:=by simpa using h
  rw[JgZ,Zj,pR]at hl;have I:six Yo 0 lo=0:=by lia
  have r:six Yo Yo hi=x.length:=by lia
  rw[Pu.cutD,q,I,r,Nat.sub_zero,List.drop_zero,<-q,List.take_length];rfl
 ·rfl
def rSlD (X:Cx):V->Option Int->Option Int->Hp->VK->Prop:=λx q f H Q=>∃d,Rep X.K H d x/\(match d with
 |.tup J=>Rs.ok (.tup (cutD J q f))
 |.lst J=>.ok (.lst (cutD J q f))
 |.str x=>if x.length<=20000 then .ok (.str (mkS (Pu.cutD Yw q f)))else .sk
 |_=>.sk:Rs D).Good BH Bz
def slD:SlR X (rSlD X):=by
 rintro Y s Z H x v vl vu lo hi sl Q I rx hs pl pu⟨d,r,h⟩;cases d with
 |tup J=>
  obtain⟨a,xs,rfl,B,h2⟩:=r;by_cases hw:HT.sIx Ah 0 lo=0/\HT.sIx Ah Ah hi=Ah
  ·cases rx;obtain⟨its,r,ht,hz⟩:=I.tuple B;have q:Dr=Ah:=by rw[Zn];exact r.length.symm
   refine⟨"tuple",_,bG,ht.typeIs,HT.Jcx ht hs pl pu (by rw[q];exact hw) ⟨.ref a,H,I,rfl,Out.now h ⟨a,xs,rfl,B,?_⟩⟩⟩;have e:=JfM (lo:=lo) (hi:=hi) h2;have e2:cutV xs lo hi=xs:=by unfold cutV;rw[hw.1,hw.2];simp
   rw[e2]at e;exact e
  ·refine Jux Y s Z H _ v vl vu lo hi sl Q I rx hs pl pu ⟨a,xs,rfl,B,hw,λp hp=>?_⟩;obtain⟨s1,q1⟩:=zH (K:=X.K) hp (JfM (lo:=lo) (hi:=hi) h2);exact h _ _ s1 q1
 |lst J=>obtain⟨a,xs,rfl,B,h2⟩:=r;refine JrD Y s Z H _ v vl vu lo hi sl Q I rx hs pl pu ⟨a,xs,rfl,B,λp hp=>?_⟩;obtain⟨s1,q1⟩:=iI (K:=X.K) hp (JfM (lo:=lo) (hi:=hi) h2);exact h _ _ s1 q1
 |str x=>
  cases r;obtain⟨t,rfl⟩:=rx;have h:(if x.length<=20000 then Rs.ok (D.str (mkS Vi))else Rs.sk:Rs D).Good BH Bz:=h;split at h
  ·rename_i hz;obtain⟨f,e1,e2⟩:=JkO pl;obtain⟨C,e3,e4⟩:=JkO pu;obtain⟨o,ho,hc,hd⟩:=hs;subst e1 e3 e2 e4;refine⟨"str",_,F.slot_str_getitem.lookup,pM _ _ _,wpAny_getItem_str_slice (l:=f) (u:=C) (st:=No) ⟨o,ho,hc,hd⟩ rfl (post_val_or_str ⟨?_,λt' k=>?_⟩)⟩
   ·exact Zy (Txt.slice_le x _ _) (Zy hz (show 20000<=sizeLine by rw[ZG];decide))
   ·refine⟨.str (Txt.slice x (f.map (·.1)) (C.map (·.1))),H,I.tok _,Au,?_⟩;rw[JkU];exact Out.now h rfl
  ·exact h.elim
 |_=>exact h.elim
def tO (X:Cx) (U:Ae) (p:Px):TO:=λZ H Q=>∃O,ReadOk X.K H Z O/\('Ơ'.bind D.bound).Good (λo=>∀W,Same H W->Q o W) Bz
def yI:PO X No (tO X U CH):=λY s Z H Q I⟨O,r,h⟩=>Jrg Y s Z H Q I (h H E6)
def qF(h:B6):PO X (So e) (tO X U J0):=λY s Z H Q I⟨O,r,f⟩=>Jsl h Y s Z H Q I (by
 simp only[evD,Rs.bind_assoc]at f
 refine⟨O,r,(Rs.gB.mp f).imp λd q v W u B=>?_⟩
 cases d with
 |int i=>exact⟨i,B,q W u⟩
 |_=>exact(show False from q).elim)
def iH{lo hi:fK}{p2:Pos}(he:PE X e HL)(hl:PO X lo (tO X U pl))(hu:PO X hi (tO X U ph)):PE X QP (tI X U (.sl pa pl ph)):=by refine PE.weak (Jox slD he hl hu) λZ H Q q=>?_;obtain⟨O,r,h⟩:=q;refine tI.then r h λd v H1 s1 rv I C=>?_;rw[<-Rs.bind_assoc]at C;refine⟨O,I,(Rs.gB.mp C).imp λl F H2 f=>?_⟩;rw[<-Rs.bind_assoc]at F;refine⟨O,I.mono f,((Rs.gB.mp F).imp λu h3 H3 B=>?_).mono (λ_ x=>x) λc x=>x.mono f⟩;refine⟨d,rv.mono c6,?_⟩;have h4:=h3.mono (λd'(o:Out X H1 Q d')=>o.mono c6) λc(x:XW X H1 c)=>x.mono c6;cases d<;>exact h4
def tF.of{Q:VK}(h:tI X U p Z H Q)(u:∀O d,ReadOk X.K H Z O->evD U p O=.ok d->∃J,d=.lst J):tF X U p Z H Q:=by
 obtain⟨O,r,h⟩:=h;refine Dp;cases q:evD U p O with
 |ok d=>rw[q]at h;obtain⟨J,rfl⟩:=u O d r q;exact⟨J,rfl,λl xs W s C B f=>h _ _ s ⟨l,xs,rfl,SqL.of B,f⟩⟩
 |ex c=>rw[q]at h;exact h
 |sk=>rw[q]at h;exact h
noncomputable def isL:Px->Bool
 |.comp _ _ _ _=>To
 |.dis _=>To
 |_=>Fo
def Jho{d:D}(h:isL p=To)(e:evD U p O=.ok d):∃J,d=.lst J:=by
 cases p with
 |comp u a b c=>
  simp only[evD]at e;cases q:evD U a O with
  |ok f=>
   rw[q]at e;cases f with
   |lst J=>
    simp only[Rs.bo,D.asL]at e;split at e
    ·cases r:JX u (evD U b) Yj O J with
     |ok B=>rw[r]at e;cases e;exact⟨B,rfl⟩
     |ex c=>rw[r]at e;cases e
     |sk=>rw[r]at e;cases e
    ·cases e
   |_=>cases e
  |ex c=>rw[q]at e;cases e
  |sk=>rw[q]at e;cases e
 |dis a=>
  simp only[evD]at e;cases q:evD U a O with
  |ok f=>
   rw[q]at e;cases f with
   |lst J=>
    simp only[Rs.bo,D.asL]at e;split at e
    ·cases e;exact⟨J,rfl⟩
    ·cases e
   |_=>cases e
  |ex c=>rw[q]at e;cases e
  |sk=>rw[q]at e;cases e
 |_=>cases h
def JW(h:Nt)(r:isL p=To):PE X e FA:=PE.weak h λZ H Q f=>tF.of f λO d _ q=>Jho r q
def wB(h:Qbs):PE X Qb6 (tF X U (.dis p)):=by
 refine PE.weak (JqV h) λZ H Q q=>?_;obtain⟨O,r,h⟩:=q;refine⟨O,r,'Ĥ'.imp λd f=>?_⟩;cases d with
 |lst J=>
  simp only[D.asL,Rs.bo]at f;refine⟨J,rfl,λI W s u=>?_⟩;split at f
  ·rename_i F;refine⟨by rw[u.length,ZG];exact F,λa B=>?_⟩;obtain⟨s2,r2⟩:=iI B u;obtain⟨ds',e',C⟩:=f;cases e';exact C a I _ Dt (s.free B) Je (u.mono s2)
  ·exact f.elim
 |_=>exact f.elim
def rC1 (X:Cx) (o:O1):List V->Hp->VK->Prop:=λxs H Q=>∃x d,xs=[x]/\Rep X.K H d x/\(op1 o d).Good BH Bz
def tC1{Q:VK}(h:PN):tCB QaO (tA X U (.cons pa .nil)) Z H Q:=by obtain⟨O,r,h⟩:=h;refine Dp;simp only[evD];refine Rs.gB.mpr ('Ĥ'.imp λd u=>?_);simp only[Rs.bo,D.asL];refine⟨[d],rfl,λI W s B=>?_⟩;obtain⟨x,F,f,q,C⟩:=B;cases C;subst f;exact⟨x,d,rfl,q,u.mono TC λ_ x=>x.mono s⟩
section
variable{G:Gw}{N:Ag}{nm:Bd}{x:Str}{id T:A9}{p1:Pos}
def yT(C:Al)(hc:pA X Du QaO)(r:AJ)(F:gloB nm x=To)(I:G.mg x=No)(B:bootBuiltins x=So Du)(u:x≠"__name__")(f:FE)
  (q:Ti):PE X Qv TB:=
 PE.weak (yO hc (C.glo _ F) (by rw[C.mg];exact I) B (Jb r Jt q) u f q rfl) λZ H Q h=>tC1 h
def pI_ty(C:Al)(hc:pA X EY QaO)(r:AJ)(F:gloB nm x=To)(I:G.mg x=No)(B:bootBuiltins x=So EY)(u:x≠"__name__")(f:FE)
  (q:Ti):PE X Qv TB:=
 PE.weak (JgN hc (C.glo _ F) (by rw[C.mg];exact I) B (Jb r Jt q) u f q rfl) λZ H Q h=>tC1 h
end
def Inv.kind(I:BM){a:Addr}{o f:HO}(h:H a=So o)(C:Mut (So o))(hn:ObjOk Yu X.w H WL a o->ObjOk Yu X.w (upd H a f) WL a f):L2.Inv X Y Z (upd H a f) s:=by
 have ne:∀{b u},H b=So u->Mut (So u)=False->upd H a f b=H b:=fun{b u}e m=>Jc λz=>by
  subst z
  rw[h]at e;cases e
  rw[m]at C;exact C
 have r:∀{b},H b=No->upd H a f b=No:=fun{b}e=>by rw[Jc λz=>by rw[z,h]at e;cases e];exact e
 exact{
  ok:=I.ok,os:=I.os,bare:=YB
  base:=⟨fQ,fS,λb B hb h0 hx=>r (I.base.free b B hb h0 hx),dP,λb xs q=>by rw[ne 'ϸ' rfl];exact I.base.tups b xs q,λb B u q=>by rw[ne (I.base.frzs b B u q) rfl];exact I.base.frzs b B u q,λb qs q=>by
   obtain⟨m,e⟩:=I.base.tbls b qs q
   exact⟨m,by rw[ne e rfl];exact e⟩⟩
  loc:=YH,cell:=Z3,free:=r YE,freeC:=λx c e=>r Ie
  pin:=λp F=>⟨(I.pin p F).1,r (I.pin p F).2.1,(I.pin p F).2.2⟩
  hok:=I.hok.write (by rw[h];exact C) BJ Nk (HOk.has YC h) (hn (I.hok a o h))
  len:=aF}
def Inv.asL(I:BM){a:Addr}{t:Str}(h:H a=So c0):L2.Inv X Y Z RX s:=Inv.kind I h trivial id
def Inv.asM(I:BM){a:Addr}(t:Str)(h:H a=So AH):L2.Inv X Y Z (upd H a c0) s:=Inv.kind I h trivial id
def JuD{a:Addr}{o u:HO}(h:H a=So o):upd (upd H a u) a o=H:=funext λb=>by
 by_cases q:b=a
 ·subst q;rw[Je,h]
 ·rw[Jc q,Jc q]
def JtM:pA X Nl (rC1 X .len):=by
 rintro Y s Z H xs B Q I C⟨x,d,e,r,h⟩;subst e;cases d with
 |str z=>
  simp only[op1]at h;split at h
  ·rename_i hz;exact Jgr Y s Z H _ B Q I C ⟨z,by rw[show x=V.str z from r],xI hz,Out.now h rfl⟩
  ·exact h.elim
 |tup J=>obtain⟨a,ys,rfl,f,q⟩:=r;exact Jbr Y s Z H _ B Q I C ⟨a,ys,rfl,.inr f,by rw[q.length];exact Out.now h rfl⟩
 |lst J=>obtain⟨a,ys,rfl,f,q⟩:=r;exact Jbr Y s Z H _ B Q I C ⟨a,ys,rfl,.inl f,by rw[q.length];exact Out.now h rfl⟩
 |mls t J=>obtain⟨a,ys,rfl,f,q⟩:=r;refine thn (Jbr Y s Z _ _ B (λv W=>v=.int BU/\W=upd H a KA) (Inv.asL I f) C ⟨a,ys,rfl,.inl (.inl (.inl Je)),rfl,rfl⟩) λu s1 zz0=>?_;obtain⟨v,H1,I1,F,e1,e2⟩:=zz0;subst e1 e2;have I2:=Inv.asM I1 t (xs:=ys) Je;rw[JuD f]at I2;exact⟨_,H,I2,F,by rw[q.length];exact Out.now h rfl⟩
 |_=>exact(show False from h).elim
def JnU:pA X R7 (rC1 X .tuple):=by
 rintro Y s Z H xs B Q I C⟨x,d,e,r,h⟩;subst e;cases d with
 |tup J=>obtain⟨a,q,rfl,f,u⟩:=r;exact Jcf Y s Z H _ B Q I C ⟨a,q,rfl,.inr ⟨f,Out.now h ⟨a,q,rfl,f,u⟩⟩⟩
 |lst J=>obtain⟨a,q,rfl,f,u⟩:=r;refine Jcf Y s Z H _ B Q I C ⟨a,q,rfl,.inl ⟨f,λl hl=>?_⟩⟩;obtain⟨F,q1⟩:=zH (K:=X.K) hl u;exact h _ _ F q1
 |_=>exact(show False from h).elim
def JhP:∀{J:Aq}{bs:List Bool}{xs:Aw},sC J=So bs->Reps K H J xs->xs=bs.map V.bl
 |[],_,_,h,r=>by
  simp only[sC]at h
  cases h
  cases r
  rfl
 |d::J,bs,_,h,⟨x,r,e,h1,h2⟩=>by
  subst e
  cases d with
  |bl b=>
   simp only[sC]at h
   cases q:sC J with
   |none=>rw[q]at h;cases h
   |some f=>
    rw[q]at h
    cases h
    have:=JhP q h2
    subst this
    cases h1
    rfl
  |_=>simp[sC]at h
def JlK:'乾'.all P8=bs.all id:=by
 induction bs with
 |nil=>rfl
 |cons b bs f=>rw[Zm,rX,nH,rE];simp only[nH,<-f];rfl
def JlB:'乾'.any P8=bs.any id:=by
 induction bs with
 |nil=>rfl
 |cons b bs f=>rw[Zm,rX,uD,vL];simp only[uD,<-f];rfl
theorem JjG(r:CQ)(I:BM){a:Addr}(h1:SqL X.K H a (bs.map V.bl)){Q:Az}{g:Bool}{tr:Nat->Bool}
  (hq:∀h' B,(∀b o,s.heap.get? b=So o->h'.get? b=So o)->Q (.bool g) {s with heap:=h',toks:=B}):
  wpAny Av cD (pyIter AE) (λit f=>∃I fp wr n P St tr,it=.ref I/\Walks Yu X.w cD I fp wr n P St/\St 0 f.heap/\TruthOf Yu X.w cD P tr/\n=Qc9/\tr=(λi=>bs.getD i Fo)/\
   ∀h' B,(∀b o,b∉wr->f.heap.get? b=So o->h'.get? b=So o)->Q (.bool g) {f with heap:=h',toks:=B}) X.xe s:=by
 obtain⟨its,rv,p,hz⟩:=I.list h1;have hh:X.A.in1.handled=No:=by show X.A.handled=No;exact I.ok.hd r
 refine uM Z4 ?_;obtain⟨o,ho,_⟩:=Z4;have hlt:a<Aa:=Zk ho;refine⟨Aa,_,_,_,_,_,λi=>bs.getD i Fo,rfl,Walks.list hh Aa a (Zt hlt) AA,⟨El,p.isList.push _⟩,?_,?_,rfl,λh' B k=>?_⟩
 ·intro i v Q' E' s' hv q;have C:its[i]? =So v:=by simpa using hv
  have F:=rv.length;have hi:i<its.length:=(ZB.mp C).1;have hbi:(bs.map V.bl)[i]? =So (V.bl (bs.getD i Fo)):=by rw[jD,rM,Zu (by rw[Zj]at F;lia)];rfl
  obtain⟨u,e1,e2⟩:=rv.get hbi;rw[C]at e1;cases e1;cases e2;exact gG q
 ·have F:=rv.length;rw[Zj]at F;rw[Zn];exact F.symm
 ·refine hq h' B λb o e=>k b o ?_ D2;intro hb;have:b=Aa:=by simpa using hb
  rw[this]at e;exact jS _ (Zk e)
def Jvl(f:CQ):pA X (.builtin "all") (rC1 X .all):=by
 rintro Y s Z H xs us Q I rv⟨x,d,e,r,h⟩;subst e;cases d with
 |lst J=>
  simp only[op1]at h;cases q:sC J with
  |none=>rw[q]at h;exact h.elim
  |some bs=>rw[q]at h;obtain⟨a,ys,rfl,h1,h2⟩:=r;have:=JhP q h2;subst this;obtain⟨u,rfl,F⟩:=rB rv;cases F;refine call_all_walk (thn (JjG (g:=bs.all id) (tr:=λ_=>To) f I h1 (Q:=EP X Y Z Q) λh' C k=>Wk) λit s2 B=>?_);obtain⟨I',fp,wr,n,Pz,Sz,tr,e1,W9,st,tt,e2,e3,hq⟩:=B;subst e2;subst e3;refine Xm;rw[JlK];exact hq h' C k
 |_=>exact(show False from h).elim
def JwG(f:CQ):pA X (.builtin "any") (rC1 X .any):=by
 rintro Y s Z H xs us Q I rv⟨x,d,e,r,h⟩;subst e;cases d with
 |lst J=>
  simp only[op1]at h;cases q:sC J with
  |none=>rw[q]at h;exact h.elim
  |some bs=>rw[q]at h;obtain⟨a,ys,rfl,h1,h2⟩:=r;have:=JhP q h2;subst this;obtain⟨u,rfl,F⟩:=rB rv;cases F;refine call_any_walk (thn (JjG (g:=bs.any id) (tr:=λ_=>To) f I h1 (Q:=EP X Y Z Q) λh' C k=>Wk) λit s2 B=>?_);obtain⟨I',fp,wr,n,Pz,Sz,tr,e1,W9,st,tt,e2,e3,hq⟩:=B;subst e2;subst e3;refine Xm;rw[JlB];exact hq h' C k
 |_=>exact(show False from h).elim
def tI.un1{Q:VK}{f:VK}(h:PN)(u:∀d v W,Same H W->Rep X.K W d v->(op1 o d).Good (Out X W Q) (XW X W)->f v W):tI X U pa Z H f:=by obtain⟨O,r,h⟩:=h;exact tI.then r h λd v W s B _ q=>u d v W s B q
def Jrk{d:D}(r:D5):op1 .isN d=.ok (.bl (decide (v=.non)))/\op1 .notN d=.ok (.bl (!decide (v=.non))):=by
 cases d with
 |non=>cases r;rw[ZD rfl];exact CU
 |_=>rw[Zp (by rintro rfl;first|(cases r;done)|(obtain⟨_,_,e,_⟩:=r;cases e;done)|(obtain⟨e,_⟩:=r;cases e;done)|(obtain⟨_,e,_⟩:=r;cases e;done)|(obtain⟨_,_,_,e,_⟩:=r;cases e))];exact CU
def JwA{j p'}(q:AJ):PT X (.Compare a [.Is] [.Constant .none j p'] pos) (tT X U (.un .isN pa)):=
 PT.weak (xY (Jut q)) λZ H Q h=>h.asTest.un1 λd v W s r f=>by rw[(Jrk r).1]at f;exact Out.now f rfl
def JqT(q:AJ):PE X (.UnaryOp .USub a pos) (tI X U (.un .neg pa)):=by
 refine PE.weak (pe_un JvV q) λZ H Q h=>h.un1 λd v W s r f=>?_;cases d with
 |int i=>exact⟨i,r,Out.now f rfl⟩
 |_=>exact(show False from f).elim
def tI.chain{I o2:O2}{Q:VK}(h:tI X U (.and (.bi I pa pb) (.bi o2 pb pc)) Z H Q):Jql (rD2 X I) (rD2 X o2) HL c5 (tI X U pc) Z H Q:=by
 obtain⟨O,r,h⟩:=h;simp only[evD,Rs.bind_assoc]at h;refine tI.then r h λdx x H1 s1 r1 C f=>?_;cases u:evD U pb O with
 |ok dy=>
  rw[u]at f;refine⟨O,C,?_⟩;rw[u];intro y H2 B r2;have h2:=f.mono (λd(o:Out X H1 Q d)=>o.mono B) λc(x:XW X H1 c)=>x.mono B;simp only[Rs.bo]at h2;refine⟨dx,dy,r1.mono B,r2,(Rs.gB.mp h2).imp λdz F z H3 q r3=>?_⟩;cases dz with
  |bl k=>
   refine⟨k,r3,?_⟩;cases k with
   |true=>have h3:=F.mono (λd(o:Out X H2 Q d)=>o.mono q) λc(x:XW X H2 c)=>x.mono q;refine iteT (tI.then (C.mono (B.trans q)) h3 λdw w H4 s4 r4 q4 h4=>⟨dy,dw,r2.mono (q.trans s4),r4,h4⟩)
   |false=>exact iteF (F _ _ q rfl)
  |_=>exact F.elim
 |ex c=>exact⟨O,C,by rw[u]at f⊢;exact f⟩
 |sk=>rw[u]at f;exact f.elim
def JoB{u B:O2}{q f:CmpOp}(ho:OpR X (compareOp q) (rD2 X u))(r:OpR X (compareOp f) (rD2 X B))(C:AJ)(F:Br)(hc:PE X c (tI X U pc))
  (I:lastMarks [q,f] [b,c]=Fo):PE X (.Compare a [q,f] [b,c] pos) (tI X U (.and (.bi u pa pb) (.bi B pb pc))):=PE.weak (Jnw ho r C F hc I) λZ H Q h=>h.chain
end
noncomputable def Jqb (t:Bool):String:=if t then "tuple_iterator" else "list_iterator"
def IsIt(t:Bool)(h:Heap)(it a:Addr)(i:Nat):Prop:=∃o,h.get? it=So o/\o.cls=.type (Jqb t)/\o.data=.fields #[.ref a,.int i 0]
def IsSq(t:Bool)(h:Heap)(a:Addr)(items:Cf):Prop:=match t with
 |true=>h.IsTuple a items
 |false=>h.IsList a items
def IsIt.stay(x:QdD)(k:∀o,h.get? it=So o->h'.get? it=So o):IsIt t h' it a i:=let⟨o,e,r⟩:=x;⟨o,k o e,r⟩
def IsSq.stay(x:IsSq t h a items)(k:∀o,h.get? a=So o->h'.get? a=So o):IsSq t h' a items:=by
 cases t
 ·exact let⟨o,e,r⟩:=(show h.IsList a items from x);(show h'.IsList a items from⟨o,k o e,r⟩)
 ·exact let⟨o,e,r⟩:=(show h.IsTuple a items from x);(show h'.IsTuple a items from⟨o,k o e,r⟩)
def IsIt.lt(x:QdD):it<BV:=let⟨_,e,_⟩:=x;Zk e
def Jcb{x:Am}{Q:Az}(hit:Oq)(I:OV)(U:items[i]? =So x)
  (B:∀h',IsIt t h' it a BQ->Heap.SameBut it WL h'->Q x {s with heap:=h'}):wpAny As A VC Q E s:=by
 cases t with
 |false=>exact wpAny_nextOf_list_item (l:=a) (i:=i) hit I U B
 |true=>obtain⟨o,q,C,f⟩:=id hit;obtain⟨ol,r,_,nl,u⟩:=(show s.heap.IsTuple a items from I);have ty:s.TypeIs Ce "tuple_iterator":=⟨o,q,C⟩;unfold Builtin.SmallTypes.nextOf;refine Za (ZM (name:=oS "__next__") ty iS (ZH iS ty dF ?_ VO));show wpAny _ _ (field Ce 0>>=_) _ _ s;refine Za (ZV q f (x:=.ref a) rfl ?_);show wpAny _ _ (if(Value.ref a==Ys)=To then _ else _) _ _ s;rw[if_neg (show¬((Value.ref a==Value.none)=To)from ZE)];show wpAny _ _ (field Ce 1>>=_) _ _ s;refine Za (ZV q f (x:=.int i 0) rfl ?_);show wpAny _ _ (seqItems? AE>>=_) _ _ s;refine Za (yD r u ?_);simp only[gF,U];refine Za (qC q f Af (Zb ⟨x,rfl,Zb (B _ ?_ (tE ..))⟩));refine⟨_,ZY _ q (mX (kJ f _)),(Obj.cls_mapFields ..).trans C,?_⟩;rw[kJ f];simp[rawInt]
def Jfa{Q:Az}(B:BE)(hit:Oq)(C:OV)(I:items[i]? =No)
  (hE:∀h' e,Heap.ExtBut it WL h'->(∃o,h'.get? e=So o/\o.cls=.type "StopIteration")->E KI {s with heap:=h'}):wpAny As A VC Q E s:=by
 cases t with
 |false=>exact wpAny_nextOf_list_end B (l:=a) (i:=i) hit C I hE
 |true=>
  obtain⟨o,f,U,r⟩:=id hit;obtain⟨ol,q,_,nl,u⟩:=(show s.heap.IsTuple a items from C);have ty:s.TypeIs Ce "tuple_iterator":=⟨o,f,U⟩;unfold Builtin.SmallTypes.nextOf;refine Za (ZM (name:=oS "__next__") ty iS (ZH iS ty dF ?_ VO));show wpAny _ _ (field Ce 0>>=_) _ _ s;refine Za (ZV f r (x:=.ref a) rfl ?_);show wpAny _ _ (if(Value.ref a==Ys)=To then _ else _) _ _ s;rw[if_neg (show¬((Value.ref a==Value.none)=To)from ZE)];show wpAny _ _ (field Ce 1>>=_) _ _ s;refine Za (ZV f r (x:=.int i 0) rfl ?_);show wpAny _ _ (seqItems? AE>>=_) _ _ s;refine Za (yD q u ?_);simp only[gF,I];refine Za (xC (Za (qC f r Af ?_)));show wpAny _ _ (newExc NS []>>=_) _ _ _;refine Za ?_;simp only[newExc,newTuple];refine Za (ZF ?_ (by size_fits));refine Za (m:=firstArgMember _ _) (wpAny_of_eq (a:=Ys) (by first|rfl|(simp only[firstArgMember];rfl)) (ZF ?_ (by size_fits)));delta raiseNew;refine Za (wpAny_handled ?_);first|rw[show A.in1.handled=No from B]|rw[B]
  refine Za (Zb (wpAny_throw ?_));exact hE _ _ (((tE ..).extBut.push _).push _) Gs
def Sq(K:Ak)(t:Bool)(H:Hp)(a:Addr)(xs:Aw):Prop:=match t with
 |true=>SqT K H a xs
 |false=>SqL K H a xs
def Sq.same(e:Ct)(h:Sq K t H a xs):Sq K t W a xs:=by
 cases t
 ·exact Same.seq e (show SqL K H a xs from h)
 ·exact SqT.same e (show SqT K H a xs from h)
section
variable{ys:Aw}
def jL(I:BM)(h:QdE):∃its:List Value,Vals xs its/\IsSq t WL a AA/\xs.length<=sizeLine:=by
 cases t
 ·obtain⟨its,r,p,z⟩:=I.list h;exact⟨its,r,Z4,z⟩
 ·obtain⟨its,r,p,z⟩:=I.tuple h;exact QdI
def JqL(I:BM)(h:QdE)(h':Sq X.K t H a ys):xs=ys:=by
 cases t
 ·exact I.list_inj h h'
 ·exact I.tuple_inj h h'
end
def mW{tk:Nat}{ch:A7}(I:BM)(C:∀b∈ch,FpOk X Y H b)(k:∀b o,b∉ch->s.heap.get? b=So o->h'.get? b=So o):
  L2.Inv X Y Z H {s with heap:=h',toks:=tk}:=by
 refine I.step (g':=bS) (d':=aH) (ch:=ch) (λb B=>?_) (λb o _ _ f e _=>k b o f e) (λb o _ _ f e _=>⟨Qcr,k b o f e⟩) OP (λb o f e=>⟨o,k b o f e⟩) (λ_ _ e=>e) (λ_ _ _ e=>e) (λb ps e=>⟨#[],by rw[e];simp⟩) (λm hm=>?_) (λb u e=>?_) YB
 ·obtain⟨_,U,_,f3,f4,f5⟩:=C b B;exact⟨f3,U,f4,f5⟩
 ·obtain⟨o,es,ep,ho,r⟩:=hm;exact⟨o,es,ep,k _ o (λB=>(C _ B).2.1 rfl) ho,r⟩
 ·refine(I.hok b u e).stay (λc v f q=>k c v ?_ q) HR λ_ _ q=>q;intro B;have F:=(C c B).1;rcases f with z|z
  ·rw[<-z,F]at e;cases e
  ·rw[F]at z;cases z
def JdQ{tk:Nat}{ch:A7}{o:HO}(I:BM)(U:∀b∈ch,FpOk X Y H b)(k:∀b o,b∉ch->s.heap.get? b=So o->h'.get? b=So o)
  (hp:Aa<=a) (new:Rk):L2.Inv X Y Z E3 {s with heap:=h',toks:=tk}:=by
 have hn:H a=No:=I.hok.fresh hp;have f:∀b u,H b=So u->b≠a:=λb u e z=>by rw[z,hn]at e;cases e
 have ne2:∀b ob,s.heap.get? b=So ob->b≠a:=λb ob e=>Zt (Zw (Zk e) hp);refine I.step (g':=bS) (d':=aH) (ch:=ch) (λb C=>?_) (λb o _ _ B e _=>k b o B e) (λb o _ _ B e _=>⟨Qcr,k b o B e⟩) (λb ob _ e n=>by rw[Jc (ne2 b ob e)];exact n) (λb o B e=>⟨o,k b o B e⟩)
  (λb xs e=>by rw[Jc (f b _ e)];exact e) (λb ob u e=>by rw[Jc (f b _ e)];exact e) (λb ps e=>⟨#[],by rw[Jc (f b _ e),e];simp⟩) (λm hm=>?_) (λb u e=>?_) YB
 ·obtain⟨_,f1,_,f3,f4,f5⟩:=U b C;exact⟨f3,f1,f4,f5⟩
 ·obtain⟨o,es,ep,ho,r⟩:=hm;exact⟨o,es,ep,k _ o (λC=>(U _ C).2.1 rfl) ho,r⟩
 ·by_cases C:b=a
  ·subst C;rw[Je]at e;cases e;exact new
  ·rw[Jc C]at e;refine(I.hok b u e).stay (λc v B q=>k c v ?_ q) (λc q=>?_) (λc xs q=>?_) λc o' u' q=>by rw[Jc (f c _ q)];exact q
   ·intro hcb;have F:=(U c hcb).1;rcases B with z|z
    ·rw[<-z,F]at e;cases e
    ·rw[F]at z;cases z
   ·rw[Jc (f c _ q)];exact q
   ·rw[Jc (f c _ q)];exact q
structure Apart(z TI TO i1 i2:Addr):Prop where
 all:[z,TI,TO,i1,i2].Nodup
def Apart.ne{z TI TO f q:Addr}(D:Apart z TI TO f q):TI≠z/\TO≠z/\f≠z/\q≠z/\TI≠TO/\TI≠f/\TI≠q/\TO≠f/\TO≠q/\f≠q:=by have h:=D.all;simp only[vA,Ze,ZK,lA,not_or]at h;obtain⟨⟨r,a2,I,B⟩,⟨C,F,U⟩,⟨c1,u⟩,d1,_⟩:=h;exact⟨Ne.symm r,Ne.symm a2,Ne.symm I,Ne.symm B,C,F,U,c1,u,d1⟩
section
variable{z TI TO i1 i2 l1 l2:Addr}{xs ys:Cf}{x y a b:Am}
def JqX{Q:Az}(D:SQ)(hz:QX)(hTI:VX)(hTO:Oo)(h1:Pr)(h2:Pq)
  (hl1:On) (hl2:Om) (n1:l1∉[z,TO,i1,i2]) (n2:l2∉[z,TO,i1,i2]) (hx:xs[k]? =So x) (hy:ys[k]? =So y)
  (hQ:∀h',IsZip h' z TI TO (rawInt Aa)->IsPair h' TO x y->IsIt t1 h' i1 l1 A1->IsIt t2 h' i2 l2 A1->IsPair h' Aa x y->(∀c o,c∉[z,TO,i1,i2]->s.heap.get? c=So o->h'.get? c=So o)->Q FF {s with heap:=h'}):
  wpAny As A (Builtin.«zip.__next__» QbW) (λfin s'=>∃v,fin=.done (.ret v)/\Q v s') E s:=by
 obtain⟨d1,d2,d3,d4,d5,d6,d7,d8,d9,d10⟩:=D.ne;simp only[Ze,ZK,lA,not_or]at n1 n2;obtain⟨m1,m2,m3,m4⟩:=n1;obtain⟨o1,o2,o3,o4⟩:=n2;show wpAny _ _ (field FP 2>>=_) _ _ _;refine Za (ZV hz rfl (x:=.bool Fo) rfl ?_);show wpAny _ _ (field FP 3>>=_) _ _ _;refine Za (ZV hz rfl (x:=.ref TI) rfl (Za (yD hTI rfl ?_)));show wpAny _ _ (Builtin.SmallTypes.ownedTupleIsFree (.ref z)>>=_) _ _ _;refine Za ?_;unfold Builtin.SmallTypes.ownedTupleIsFree;refine Za (ZV hz rfl (x:=.none) rfl (Zb ?_));simp only[if_true];refine Za (xC (Za (ZV hz rfl (x:=.ref TO) rfl (Za (mC hz Af λg1 U s1=>?_)))));replace U:IsZip g1 z TI TO .ellipsis:=U;refine Za ?_;simp only[List.zipIdx_cons,List.zipIdx_nil,List.forIn_cons,List.forIn_nil];refine Za (Za (wpAny_onRaise ?_));show wpAny _ _ (Builtin.SmallTypes.nextOf (.ref i1)>>=_) _ _ _;refine Za (Jcb (h1.stay λo e=>s1.extBut _ _ d3 e) (hl1.stay λo e=>s1.extBut _ _ m1 e) hx λg2 k1 s2=>Zb ?_);have I:IsPair g2 TO a b:=s2.extBut _ _ d8 (s1.extBut _ _ d2 hTO);refine Za (yD I rfl (Za (vW I λg3 B s3=>?_)));replace B:IsPair g3 TO x b:=B;refine Za (wpAny_letGo (Zb ?_));refine Za (Za (wpAny_onRaise ?_));show wpAny _ _ (Builtin.SmallTypes.nextOf (.ref i2)>>=_) _ _ _;refine Za (Jcb (h2.stay λo e=>s3.extBut _ _ IZ (s2.extBut _ _ Qdi (s1.extBut _ _ d4 e))) (hl2.stay λo e=>s3.extBut _ _ o2 (s2.extBut _ _ o3 (s1.extBut _ _ o1 e))) hy λg4 k2 s4=>Zb ?_);have F:IsPair g4 TO x b:=s4.extBut _ _ d9 B;refine Za (yD F rfl (Za (vW F λr f s5=>?_)));replace f:IsPair r TO x y:=f;refine Za (wpAny_letGo (Zb (Zb (Za (yD f rfl (Za (wpAny_newTuple ?_)))))));have hsz:r.objs.size=Aa:=by rw[s5.1,s4.1,s3.1,s2.1,s1.1]
 have hz5:IsZip r z TI TO .ellipsis:=s5.extBut _ _ IY (s4.extBut _ _ (Ne.symm d4) (s3.extBut _ _ IY (s2.extBut _ _ IX U)));have kp:∀c o,c∉[z,TO,i1,i2]->s.heap.get? c=So o->r.get? c=So o:=λc o u e=>by simp only[Ze,ZK,lA,not_or]at u;exact s5.extBut _ _ u.2.1 (s4.extBut _ _ u.2.2.2 (s3.extBut _ _ u.2.1 (s2.extBut _ _ u.2.2.1 (s1.extBut _ _ u.1 e))))
 have e1:IsIt t1 r i1 l1 A1:=k1.stay λo e=>s5.extBut _ _ (Ne.symm d8) (s4.extBut _ _ d10 (s3.extBut _ _ (Ne.symm d8) e));have e2:IsIt t2 r i2 l2 A1:=k2.stay λo e=>s5.extBut _ _ IZ e;have zl:z<r.objs.size:=Zk hz5;show wpAny _ _ (Builtin.SmallTypes.ownedTupleHandOut FP (.ref aB)>>=_) _ _ _;refine Za ?_;unfold Builtin.SmallTypes.ownedTupleHandOut;have hz6:IsZip (r.push {cls:=.type "tuple",data:=.seq #[x,y]}) z TI TO .ellipsis:=Zd _ hz5;refine Za (mC hz6 Af λg7 hz7 s7=>?_);replace hz7:IsZip g7 z TI TO PD:=hz7;refine mC hz7 Af λg8 C s8=>?_;replace C:IsZip g8 z TI TO PD:=C;have up:∀c o,c≠z->r.get? c=So o->g8.get? c=So o:=λc o u e=>s8.extBut _ _ u (s7.extBut _ _ u D2);have hT8:IsPair g8 aB x y:=s8.extBut _ _ (sD zl) (s7.extBut _ _ (sD zl) HS);rw[hsz]at C hT8;refine Zb J4;show Q (.ref aB) _;rw[hsz];exact hQ g8 C (up _ _ d2 f) (e1.stay λo e=>up _ o d3 e) (e2.stay λo e=>up _ o d4 e) hT8 λc o u e=>up c o (λq=>u (by simp[q])) (kp c o u e)
def JuN{Q:Fin->Shared->Prop}(hh:BE)(D:SQ)(hz:QX)(hTI:VX)(hTO:Oo)(h1:Pr)(h2:Pq)
  (hl1:On) (hl2:Om) (n1:l1∉[z,TO,i1,i2]) (n2:l2∉[z,TO,i1,i2]) (hend:xs[k]? =No\/ys[k]? =No)
  (hE:∀h' e,(∀c o,c∉[z,TO,i1,i2]->s.heap.get? c=So o->h'.get? c=So o)->(∃o,h'.get? e=So o/\o.cls=.type "StopIteration")->E KI {s with heap:=h'}):
  wpAny As A (Builtin.«zip.__next__» QbW) Q E s:=by
 obtain⟨d1,d2,d3,d4,d5,d6,d7,d8,d9,d10⟩:=D.ne;simp only[Ze,ZK,lA,not_or]at n1 n2;obtain⟨m1,m2,m3,m4⟩:=n1;obtain⟨o1,o2,o3,o4⟩:=n2;show wpAny _ _ (field FP 2>>=_) _ _ _;refine Za (ZV hz rfl (x:=.bool Fo) rfl ?_);show wpAny _ _ (field FP 3>>=_) _ _ _;refine Za (ZV hz rfl (x:=.ref TI) rfl (Za (yD hTI rfl ?_)));show wpAny _ _ (Builtin.SmallTypes.ownedTupleIsFree (.ref z)>>=_) _ _ _;refine Za ?_;unfold Builtin.SmallTypes.ownedTupleIsFree;refine Za (ZV hz rfl (x:=.none) rfl (Zb ?_));simp only[if_true];refine Za (xC (Za (ZV hz rfl (x:=.ref TO) rfl (Za (mC hz Af λg1 C F=>?_)))));replace C:IsZip g1 z TI TO .ellipsis:=C;refine Za ?_;simp only[List.zipIdx_cons,List.zipIdx_nil,List.forIn_cons,List.forIn_nil];refine Za (Za (wpAny_onRaise ?_));show wpAny _ _ (Builtin.SmallTypes.nextOf (.ref i1)>>=_) _ _ _;have f:∀c,c∉[z,TO,i1,i2]->c≠z/\c≠TO/\c≠i1/\c≠i2:=λc B=>by simpa[not_or]using B
 cases hx:xs[k]? with
 |none=>
  refine Za (Jfa hh Wc Wi hx λg2 e I he=>?_);obtain⟨oe,r,u⟩:=he;have hz2:IsZip g2 z TI TO .ellipsis:=I _ _ IX C;have hez:e≠z:=λq=>by subst q;rw[hz2]at r;cases r;simp at u
  exact mC hz2 Af λg3 _ s3=>hE g3 e (λc o B q=>s3.extBut _ _ (f c B).1 (I _ _ (f c B).2.2.1 (F.extBut _ _ (f c B).1 q))) ⟨oe,s3.extBut _ _ hez r,u⟩
 |some x=>
  have hy:ys[k]? =No:=by rcases hend with q|q;(·rw[hx]at q;cases q);exact q
  refine Za (Jcb Wc Wi hx λg2 k1 I=>Zb ?_);have U:IsPair g2 TO a b:=I.extBut _ _ d8 (F.extBut _ _ d2 hTO);refine Za (yD U rfl (Za (vW U λg3 hTO3 s3=>Za (wpAny_letGo (Zb ?_)))));refine Za (Za (wpAny_onRaise ?_));show wpAny _ _ (Builtin.SmallTypes.nextOf (.ref i2)>>=_) _ _ _;refine Za (Jfa hh (h2.stay λo e=>s3.extBut _ _ IZ (I.extBut _ _ Qdi (F.extBut _ _ d4 e))) (hl2.stay λo e=>s3.extBut _ _ o2 (I.extBut _ _ o3 (F.extBut _ _ o1 e))) hy λg4 e s4 he=>?_);obtain⟨oe,r,u⟩:=he;have hz4:IsZip g4 z TI TO .ellipsis:=s4 _ _ (Ne.symm d4) (s3.extBut _ _ IY (I.extBut _ _ IX C));have hez:e≠z:=λq=>by subst q;rw[hz4]at r;cases r;simp at u
  exact mC hz4 Af λg5 _ s5=>hE g5 e (λc o B q=>s5.extBut _ _ (f c B).1 (s4 _ _ (f c B).2.2.2 (s3.extBut _ _ (f c B).2.1 (I.extBut _ _ (f c B).2.2.1 (F.extBut _ _ (f c B).1 q))))) ⟨oe,s5.extBut _ _ hez r,u⟩
end
def Jja{b:Addr}{f:Aw}(I:BM)(h:Sq X.K t H l f)(r:FpOk X Y H b):l≠b:=by
 rintro rfl;have mod:∀o,X.K.lookup l=So o->False:=λo e=>by
  have B:=I.mod.kin l o e;rcases r.2.2.2.1 with q|q
  ·exact I.ok.noex l o B q
  ·exact absurd (Zw (Zk (I.ok.bs l o B).1) q) Cr
 have C:∀u,Rd H l u->False:=λu q=>by rcases q with q|⟨o,q⟩<;>(rw[r.1]at q;cases q)
 cases t
 ·rcases(show SqL X.K H l f from h)with q|⟨o,_,_,q,_⟩
  ·exact C _ q
  ·exact mod o q
 ·rcases(show SqT X.K H l f from h)with q|⟨_,o,_,_,_,q,_⟩
  ·exact C _ (.inl q)
  ·exact mod o q
def Itz (K:Ak) (t1 t2:Bool) (q r:Addr):It:=
 ⟨λi H=>∃xs f x y,Sq K t1 H q xs/\Sq K t2 H r f/\xs[i]? =So x/\f[i]? =So y,
  λi H x W=>∃T u v,H T=No/\x=.ref T/\W=upd H T (.tup [u,v])/\(∀xs,Sq K t1 H q xs->xs[i]? =So u)/\∀f,Sq K t2 H r f->f[i]? =So v,
  λi H=>∃xs f,Sq K t1 H q xs/\Sq K t2 H r f/\(xs[i]? =No\/f[i]? =No)⟩
def Juw(z TI TO f q r u:Addr)(t1 t2:Bool)(i:Nat)(h:Heap):Prop:=IsZip h z TI TO .none/\IsPair h TI (.ref f) (.ref q)/\(∃a b,IsPair h TO a b)/\IsIt t1 h f r i/\IsIt t2 h q u i
def JoZ{tpos:Pos}(t1 t2:Bool)(l1 l2 z TI TO i1 i2:Addr)(D:SQ):
  Turn P w K (.Tuple elts k tpos) (Itz K t1 t2 l1 l2) [z,TI,TO,i1,i2] z (Juw z TI TO i1 i2 l1 l2 t1 t2)where
 mem:=by simp
 obj:=λi h st b r=>by
  obtain⟨h1,h2,⟨a,c,h3⟩,⟨o4,h4,_,h4'⟩,⟨o5,h5,_,h5'⟩⟩:=st
  simp only[Ze,ZK,lA]at r
  rcases r with rfl|rfl|rfl|rfl|rfl
  ·exact⟨_,h1,λv q=>by cases q⟩
  ·exact⟨_,h2,λv q=>by cases q⟩
  ·exact⟨_,h3,λv q=>by cases q⟩
  ·exact⟨_,h4,λv q=>by rw[h4']at q;cases q⟩
  ·exact⟨_,h5,λv q=>by rw[h5']at q;cases q⟩
 keep:=λi h h' st q=>let⟨h1,h2,⟨a,c,h3⟩,h4,h5⟩:=st;⟨q z Af _ h1,q TI Af _ h2,⟨a,c,q TO Af _ h3⟩,h4.stay λo e=>q i1 Af o e,h5.stay λo e=>q i2 Af o e⟩
 item:=by
  intro X hP hw hK C i Y s Z H E I hf st hg;subst hP hw hK;obtain⟨xs,ys,x,y,q1,q2,hx,hy⟩:=hg;obtain⟨its,rv,p1,_⟩:=jL I q1;obtain⟨its2,rv2,p2,_⟩:=jL I q2;obtain⟨u,hu,ru⟩:=rv.get hx;obtain⟨v,hv,rw2⟩:=rv2.get hy;obtain⟨hz,B,⟨a,b,U⟩,j1,j2⟩:=st;have f:∀{t:Bool}{l:Addr}{zs:Aw},Sq X.K t H l zs->l∉[z,TO,i1,i2]:=fun{t l zs}q r=>
   Jja I q (hf l (by simp only[Ze,ZK,lA]at r⊢;rcases r with e|e|e|e<;>simp[e])) rfl
  have hT:s.TypeIs FP "zip":=⟨_,hz,rfl⟩;unfold pyNext;refine Za (pC (ZM (name:=oS "__next__") hT oQ (ZH oQ hT QcC
   (JqX D hz B U j1 j2 p1 p2 (f q1) (f q2) (x:=u) (y:=v) (by simpa using hu) (by simpa using hv) λh' a1 a2 a3 a4 a5 a6=>Zb ?_) P7)))
  refine⟨_,rfl,wpAny_letOwnedTupleGo_zip a1 λh2 b1 b2=>?_⟩;obtain⟨d1,d2,d3,d4,_⟩:=D.ne;have zl:z<Aa:=Zk hz;have kp:∀c o,c∉[z,TI,TO,i1,i2]->s.heap.get? c=So o->h2.get? c=So o:=λc o C e=>by simp only[Ze,ZK,lA,not_or]at C;exact(b2.2 c C.1).trans (a6 c o (by simp[C]) e)
  have hT2:IsPair h2 Aa u v:=(b2.2 _ (sD zl)).trans a5;have I2:L2.Inv X Y Z (upd H Aa (.tup [x,y])) {s with heap:=h2,toks:=Yp}:=
   JdQ I hf kp (Zh _) ⟨⟨by rw[ZG];show 2<=_;decide,λo q=>by rw[show h2.get? 'Ɓ'=So _ from hT2]at q;cases q;rfl⟩,[u,v],.cons ru (.cons rw2 .nil),_,hT2,rfl,_,rfl⟩
  have hTI2:IsPair h2 TI (.ref i1) (.ref i2):=(b2.2 _ d1).trans (a6 TI _ (by obtain⟨_,_,_,_,d5,d6,d7,_⟩:=D.ne;simp[d1,d5,d6,d7]) B);refine⟨.ref Aa,_,I2,rfl,⟨Aa,x,y,I.hok.fresh (Zh _),rfl,rfl,λzs q=>by rw[JqL I q q1];exact hx,λzs q=>by rw[JqL I q q2];exact hy⟩,
   ⟨b1,hTI2,⟨u,v,(b2.2 _ d2).trans a2⟩,a3.stay λo e=>(b2.2 _ d3).trans e,a4.stay λo e=>(b2.2 _ d4).trans e⟩,λb r=>?_⟩
  have hbl:b<Aa:=by
   simp only[Ze,ZK,lA]at r;rcases r with rfl|rfl|rfl|rfl|rfl
   ·exact zl
   ·exact Zk B
   ·exact Zk U
   ·exact j1.lt
   ·exact j2.lt
  rw[Jc (Zt hbl)];exact(hf b r).1
 done:=by
  intro X hP hw hK C i Y s Z H E I hf st hg;subst hP hw hK;obtain⟨xs,ys,q1,q2,hx⟩:=hg;obtain⟨its,rv,p1,_⟩:=jL I q1;obtain⟨its2,rv2,p2,_⟩:=jL I q2;obtain⟨hz,B,⟨a,b,U⟩,j1,j2⟩:=st;have f:∀{t:Bool}{l:Addr}{zs:Aw},Sq X.K t H l zs->l∉[z,TO,i1,i2]:=fun{t l zs}q r=>
   Jja I q (hf l (by simp only[Ze,ZK,lA]at r⊢;rcases r with e|e|e|e<;>simp[e])) rfl
  have hT:s.TypeIs FP "zip":=⟨_,hz,rfl⟩;unfold pyNext;refine Za (pC (ZM (name:=oS "__next__") hT oQ (ZH oQ hT QcC
   (JuN (show X.A.in1.handled=No from I.ok.hd C) D hz B U j1 j2 p1 p2 (f q1) (f q2) ?_ λh' e hk he=>?_) P7)))
  ·rcases hx with q|q
   ·exact .inl (by simpa using rv.none_of q)
   ·exact .inr (by simpa using rv2.none_of q)
  ·obtain⟨o,ho,hoc⟩:=he;refine Za (kH (T:="StopIteration") (b:=To) ⟨o,ho,hoc⟩ wL (Zb ⟨rfl,mW (tk:=Yp) I hf λc o C e=>hk c o ?_ e⟩));simp only[Ze,ZK,lA,not_or]at C⊢;exact⟨C.1,C.2.2.1,C.2.2.2⟩
 self:=λA i s Q E st h=>wpAny_pyIter_zip st.1 h
noncomputable abbrev sY (t:Bool) (l:Addr):Obj:={cls:=.type (Jqb t),data:=.fields #[.ref l,.int 0 0]}
def Jhb{xs:Cf}{Q:Az}(h:IsSq t WL l xs)(f:Q FF {s with heap:=s.heap.push (sY t l)}):wpAny As A (pyIter BK) Q E s:=by
 cases t
 ·exact uM (show s.heap.IsList l xs from h) f
 ·exact wpAny_pyIter_tuple (show s.heap.IsTuple l xs from h) f
def IsSq.push{xs:Cf}(x:IsSq t h a xs)(o:Obj):IsSq t (h.push o) a xs:=x.stay λ_ e=>Zd _ e
noncomputable abbrev zh1 (h:Heap) (t:Bool) (l:Addr):Heap:=h.push (sY t l)
noncomputable abbrev zh3 (h:Heap) (t1 t2:Bool) (f q:Addr):Heap:='久'.push {cls:=.type "tuple",data:=.seq #[.ref BV,.ref (zh1 h t1 f).objs.size]}
noncomputable abbrev zh4 (h:Heap) (t1 t2:Bool) (f q:Addr):Heap:=(zh3 h t1 t2 f q).push {cls:=.type "tuple",data:=.seq #[.none,.none]}
noncomputable abbrev zipOb (a b:Addr):Obj:={cls:=.type "zip",data:=.fields #[.none,.bool Fo,.bool Fo,.ref a,.ref b]}
noncomputable abbrev zh5 (h:Heap) (t1 t2:Bool) (f q:Addr):Heap:=(zh4 h t1 t2 f q).push (zipOb '久'.objs.size (zh3 h t1 t2 f q).objs.size)
def Jtx(f q:Addr)(xs ys:Cf)(t1 t2:Bool):
  Meets (Builtin.«zip.__new__» ⟨[.type "zip",.ref f,.ref q],[]⟩) (λ_ R s=>IsSq t1 WL f xs/\IsSq t2 WL q ys/\R (.ok (.ret (.ref 'Υ'.objs.size))) {s with heap:=zh5 WL t1 t2 f q}):=
 .of_wp λprog w A R s h=>by
  obtain⟨U,g,d,tk,I⟩:=s;obtain⟨C,u,h⟩:=h
  have F:=sub_zip
  have B:IsSq t1 (Shared.heap ⟨U,g,d,tk,I⟩) f xs:=C
  have r:IsSq t2 (Shared.heap ⟨U.push (sY t1 f),g,d,tk,I⟩) q ys:=u.push _
  wp_walk using Jhb B,Jhb r
  exact Lx
open AutoSeq1 (wpAny_loadPart')
def JlC{f q:Addr}{xs ys:Cf}{Q:Az}(C:IsSq t1 WL f xs)(u:IsSq t2 WL q ys)
  (h:∀h',Juw (Aa+4) (Aa+2) (Aa+3) Aa Es f q t1 t2 0 h'->(∀c o,s.heap.get? c=So o->h'.get? c=So o)->Q (.ref (Aa+4)) {s with heap:=h'}):
  wpAny As A (PySem.call (.type "zip") [.ref f,.ref q]) Q E s:=by
 refine callType_new F.called_zip Ax (F.typeCall_zip_2 _ _) (F.newCall_zip_2 _ _) (λobj=>F.args_object_init_3 obj _ _) F.entry_zip_new (Jtx f q xs ys t1 t2) ⟨C,u,?_⟩;have I:'ɺ'.objs.size=Aa+1:=ZP ..;have r:(zh1 'ɺ' t2 q).objs.size=Aa+2:=by rw[ZP,I]
 have B:'乿'.objs.size=Aa+3:=by rw[ZP,r]
 have z4:'Υ'.objs.size=Aa+4:=by rw[ZP,B]
 have p1:∀(g:Heap)(o o':Obj)(b:Addr),g.get? b=So o->(g.push o').get? b=So o:=λg o o' b e=>Zd _ e;have U:'ǈ'.get? 'Υ'.objs.size=So _:=Zf _ rfl;have g4:'ǈ'.get? '乿'.objs.size=So _:=p1 _ _ _ _ HS;have g3:'ǈ'.get? (zh1 'ɺ' t2 q).objs.size=So _:=p1 _ _ _ _ SJ;have g2:'ǈ'.get? 'ɺ'.objs.size=So _:=p1 _ _ _ _ QbB;have g1:'ǈ'.get? Aa=So _:=p1 _ _ _ _ (p1 _ _ _ _ QbB);show _/\_;rw[r,B,z4]at U;rw[I,r]at g3;rw[B]at g4;rw[I]at g2;rw[z4];exact⟨⟨_,U,rfl⟩,h _ ⟨U,g3,⟨_,_,g4⟩,⟨_,g1,rfl,rfl⟩,⟨_,g2,rfl,rfl⟩⟩ λc o x=>p1 _ _ _ _ (p1 _ _ _ _ (p1 _ _ _ _ (p1 _ _ _ _ (p1 _ _ _ _ x))))⟩
def JqG{d:D}(r:D5)(h:d=.tup J\/d=.lst J):∃t a xs,v=.ref a/\Sq K t H a xs/\Reps K H J xs:=by
 rcases h with rfl|rfl
 ·obtain⟨a,xs,e,f,q⟩:=r;exact⟨To,a,xs,e,f,q⟩
 ·obtain⟨a,xs,e,f,q⟩:=r;exact⟨Fo,a,xs,e,f,q⟩
def JiW:∀(f bs:Aq)(i:Nat)(a b:D),f[i]? =So a->bs[i]? =So b->(zipD f bs)[i]? =So (.tup [a,b])
 |a::f,b::bs,0,_,_,h,h'=>by simp at h h';simp[zipD,h,h']
 |a::f,b::bs,i+1,_,_,h,h'=>by simpa[zipD]using JiW f bs i _ _ DG (by simpa using h')
 |[],_,_,_,_,h,_=>by simp at h
 |_::_,[],_,_,_,_,h'=>by simp at h'
def JfV:∀(f bs:Aq),(zipD f bs).length=min YW Qc9
 |[],_=>by simp[zipD]
 |_::_,[]=>by simp[zipD]
 |a::f,b::bs=>by simp[zipD,JfV f bs]
theorem JoP(I:BM){b:Addr}{ys:Aw}{es:Aq}(h1:Sq X.K t1 H a xs)(r:Ic)(h3:Sq X.K t2 H b ys)(C:Reps X.K H es ys):Walk X.K (Itz X.K t1 t2 a b) H (zipD J es):=by
 intro W sm;have l:=Yx;have l':=C.length;have q:=Sq.same sm h1;have f:=Sq.same sm h3;refine⟨λi B=>?_,⟨xs,ys,q,f,?_⟩,λi x H'' B⟨T,u,v,hT,e1,e2,hu,U⟩=>?_⟩
 ·rw[JfV]at B;exact⟨xs,ys,xs[i]'(by lia),ys[i]'(by lia),q,f,Zu Ad,Zu Ad⟩
 ·rw[JfV];by_cases hh:Ac<=es.length
  ·exact .inl (yR Ad)
  ·exact .inr (yR Ad)
 ·subst e1;subst e2;obtain⟨d,hd,F⟩:=(r.mono sm).get' (hu xs q);obtain⟨e,he,re⟩:=(C.mono sm).get' (U ys f);obtain⟨s1,r1⟩:=zH (K:=X.K) (J:=[d,e]) (xs:=[u,v]) hT ⟨_,_,rfl,F,_,_,rfl,re,rfl⟩;exact⟨s1,_,JiW _ _ _ _ _ hd he,r1⟩
theorem Jiw(h1:dH)(q:E5)(inj:∀W u,Same H W->SqT K W a u->True):Walk K QaL H J:=by intro W sm;have l:=dY;have f:=SqT.same sm h1;refine⟨λi r=>⟨xs,xs[i]'(by lia),f,Zu Ad⟩,⟨xs,f,by lia⟩,λi x F r⟨e,C⟩=>?_⟩;subst e;obtain⟨d,B,I⟩:=(q.mono sm).get' (C xs f);exact⟨Same.refl _,d,B,I⟩
theorem JiY(h1:dG)(q:E5):Walk K QaK H J:=by intro W sm;have l:=dY;have f:=Same.seq sm h1;refine⟨λi r=>⟨xs,xs[i]'(by lia),f,Zu Ad⟩,⟨xs,f,by lia⟩,λi x C r⟨e,B⟩=>?_⟩;subst e;obtain⟨d,u,F⟩:=(q.mono sm).get' (B xs f);exact⟨Same.refl _,d,u,F⟩
def JjW{lo:Int}:Walk K eE H (upTo lo n):=by
 intro W sm;have l:(upTo lo n).length=n:=by simp[Pu.upTo]
 refine⟨λi f=>by rw[l]at f;exact f,by show n<=_;rw[l];exact Zh _,λi x r f⟨e,q⟩=>?_⟩;subst e;refine⟨Same.refl _,.int (lo+i),?_,q⟩;rw[l]at f;simp[Pu.upTo,List.getElem?_range f]
noncomputable def Its (x:Str):It:=⟨λi _=>i<Qbq,λi H v W=>W=H/\∃c,x.cps[i]? =So c/\v=.str ⟨#[c]⟩,λi _=>i=Qbq⟩
def JnA:Walk K (Its x) H (kN x):=by
 intro W sm;have l:(kN x).length=x.cps.size:=by simp[kN]
 refine⟨λi f=>by rw[l]at f;exact f,l,λi v u f⟨e,c,q,r⟩=>?_⟩;subst e;refine⟨Same.refl _,.str ⟨#[c]⟩,?_,r⟩;unfold kN;rw[jD,xM,q];rfl
def JjC(q:BE)(I:Addr)(x:Str)(t:Tok):Walks P w A I [I] [I] Qbq (SignAt x) (λi h=>h.IsStrIter I QbC x t i):=by
 cases f:x.cps.all (·<128)
 ·rw[show strIterType x="str_iterator" by simp[strIterType,f]];exact Walks.strWide q I x t
 ·rw[show strIterType x="str_ascii_iterator" by simp[strIterType,f]];exact Walks.strAscii q I x t
def Jop(x:Str)(t:Tok)(I:Addr):Turn P w K (.Name y px) (Its x) [I] I (λi h=>h.IsStrIter I QbC x t i)where
 mem:=by simp
 obj:=λi h st b f=>by
  have e:b=I:=by simpa using f
  subst e
  obtain⟨o,h1,_,h3⟩:=st
  exact⟨o,h1,λv q=>by rw[h3]at q;cases q⟩
 keep:=λi h h' st k=>let⟨o,h1,h2⟩:=st;⟨o,k I Af o h1,h2⟩
 item:=by
  intro X C hw F hc i Y s Z H E r B st hg;subst C hw F;refine(JjC (r.ok.hd hc) I x t).item i s _ _ hg st λv h' tk hv st' kk=>?_;obtain⟨c,u,U,rfl⟩:=hv;have I1:L2.Inv X Y Z H {s with heap:=h',toks:=tk}:=mW r B λb o f e=>kk b o f e;exact⟨_,rfl,Zb ⟨.str ⟨#[c]⟩,H,I1,⟨u,rfl⟩,⟨rfl,c,U,rfl⟩,st',λb f=>(B b f).1⟩⟩
 done:=by
  intro X C hw F hc i Y s Z H E r B st hg;subst C hw F;have e:i=x.cps.size:=hg;subst e;exact(JjC (r.ok.hd hc) I x t).done s _ _ st λh' tk kk=>⟨rfl,mW r B λb o f e=>kk b o f e⟩
 self:=λA i s Q E st h=>by
  cases ha:x.cps.all (·<128)
  ·rw[show strIterType x="str_iterator" by simp[strIterType,ha]]at st;exact wpAny_pyIter_striter_wide st h
  ·rw[show strIterType x="str_ascii_iterator" by simp[strIterType,ha]]at st;exact wpAny_pyIter_striter_ascii st h
def Jqo:ItOk QaK:=λL i H x W _⟨e,h⟩=>⟨by rw[e],λxs q=>h xs (hid_same.seq q)⟩
def JpU:ItOk QaL:=λL i H x W _⟨e,h⟩=>⟨by rw[e],λxs q=>h xs (SqT.same hid_same q)⟩
def JoY{lo:Int}:ItOk eE:=λL i H x W _⟨e,h⟩=>⟨by rw[e],h⟩
def Juj:ItOk (Its x):=λL i H v W _⟨e,h⟩=>⟨by rw[e],h⟩
def Jet{T:Addr}(f:Ows L H)(h:H T=No):T∉L:=λq=>by
 obtain⟨o,e,_⟩:=f T q
 rw[h]at e;cases e
def JvE{b:Addr}:ItOk (Itz K t1 t2 a b):=λL i H x W B⟨T,u,v,f,C,F,U,I⟩=>by
 have r:=Jet B f
 exact⟨T,u,v,by rw[JF r];exact f,C,by rw[F,JsY r],λxs q=>U xs PB,λxs q=>I xs PB⟩
section
variable{U:Ae}{a l:Expr}
def kT(hl:PE X l FA):PI X (.Name y px) l (tW X U (.walk p)):=by
 rintro Y s Z H R I⟨O,r,h⟩;refine thn (hl Y s Z H (λv W=>∃d J,Rep X.K W d v/\d.walk=.ok J/\Same H W/\∀J9 H2,Same H H2->Walk X.K J9 H2 J->ItOk J9->R J9 H2) I ⟨O,r,'Ĥ'.imp λd C v W s1 rv=>?_⟩) λv s1⟨x,H1,I1,r1,d,J,rd,F,s2,f⟩=>?_
 ·cases q:d.walk with
  |ok J=>rw[q]at C;obtain⟨ds',e,f⟩:=C;cases e;exact⟨d,J,rv,q,s1,f⟩
  |ex c=>exact(JrJ q).elim
  |sk=>rw[q]at C;exact C.elim
 cases d with
 |tup es=>
  cases F;obtain⟨a,xs,rfl,B,h2⟩:=rd;cases r1;obtain⟨its,rv,pt,hz⟩:=I1.tuple B;refine wpAny_pyIter_tuple (show s1.heap.IsTuple a AA from pt) ⟨AC,[AC],_,_,H1,rfl,I1.kept (t':=YY) λb o e=>Zd _ e,JeI a _,El,λb u=>?_,f _ _ s2 (Jiw B h2 λ_ _ _ _=>trivial) JpU⟩;have e:b=AC:=by simpa using u
  subst e;exact I1.fpOk (Zh _) Fh
 |lst es=>
  cases F;obtain⟨a,xs,rfl,B,h2⟩:=rd;cases r1;obtain⟨its,rv,pt,hz⟩:=I1.list B;refine uM pt.isList ⟨AC,[AC],_,_,H1,rfl,I1.kept (t':=YY) λb o e=>Zd _ e,Jhd a _,El,λb u=>?_,f _ _ s2 (JiY B h2) Jqo⟩;have e:b=AC:=by simpa using u
  subst e;exact I1.fpOk (Zh _) Fh
 |str z=>
  cases F;have hx:x=V.str z:=rd;subst hx;obtain⟨t,rfl⟩:=r1;refine wpAny_pyIter_strU ⟨AC,[AC],_,_,H1,rfl,I1.kept (t':=YY) λb o e=>Zd _ e,Jop z t _,El,λb u=>?_,f _ _ s2 JnA Juj⟩;have e:b=AC:=by simpa using u
  subst e;exact I1.fpOk (Zh _) Fh
 |_=>cases F
def Jrh{tp:Pos}(hl:PE X l FA):PI X OI l (tW X U Xo):=by
 rintro Y s Z H R I⟨O,r,h⟩;simp only[evD,Rs.bind_assoc]at h;refine thn (hl Y s Z H (λv W=>∃d J,Rep X.K W d v/\(d=.tup J\/d=.lst J)/\Same H W/\∀B H2,Same H H2->Walk X.K B H2 J->ItOk B->R B H2) I ⟨O,r,'Ĥ'.imp λd F v W s1 u=>?_⟩) λv s1⟨x,H1,I1,r1,d,J,rd,hw,s2,f⟩=>?_
 ·cases d with
  |tup J=>obtain⟨ds',e,f⟩:=F;cases e;exact⟨_,J,u,.inl rfl,s1,f⟩
  |lst J=>obtain⟨ds',e,f⟩:=F;cases e;exact⟨_,J,u,.inr rfl,s1,f⟩
  |_=>exact(show False from F).elim
 rcases hw with rfl|rfl
 ·obtain⟨a,xs,rfl,q,h2⟩:=rd;cases r1;obtain⟨its,u,pt,hz⟩:=I1.tuple q;refine wpAny_pyIter_tuple (show s1.heap.IsTuple a AA from pt) ⟨AC,[AC],_,_,H1,rfl,I1.kept (t':=YY) λb o e=>Zd _ e,JeI a _,El,λb C=>?_,f _ _ s2 (Jiw q h2 λ_ _ _ _=>trivial) JpU⟩;have e:b=AC:=by simpa using C
  subst e;exact I1.fpOk (Zh _) Fh
 ·obtain⟨a,xs,rfl,q,h2⟩:=rd;cases r1;obtain⟨its,u,pt,hz⟩:=I1.list q;refine uM pt.isList ⟨AC,[AC],_,_,H1,rfl,I1.kept (t':=YY) λb o e=>Zd _ e,Jhd a _,El,λb C=>?_,f _ _ s2 (JiY q h2) Jqo⟩;have e:b=AC:=by simpa using C
  subst e;exact I1.fpOk (Zh _) Fh
def JfX(C:Al)(ha:AJ)(hg:gloB nm "range"=To)(hm:G.mg "range"=No)(u:starEach [a] Se=[DN]):PI X tg (.Call Wz [a] [] pos) (tW X U (.un .range pa)):=by
 rintro Y s Z H R I⟨O,r,h⟩;refine Jgp Gg (by rw[C.mg];exact hm) (Jb (U:=U) ha Jt u) u Y s Z H R I Dp;simp only[evD];refine Rs.gB.mpr ('Ĥ'.imp λd f=>?_);cases d with
 |int i=>
  simp only[op1]at f;split at f
  ·rename_i q;simp only[midI,Zc,Zs]at q;obtain⟨ds',e,F⟩:=f;cases e;refine⟨[.int i],rfl,λvs W s1 rs=>?_⟩;obtain⟨v,r',e1,B,h2⟩:=rs;cases h2;cases B;subst e1;exact⟨i,rfl,q.1,q.2,F _ _ s1 JjW JoY⟩
  ·exact f.elim
 |_=>exact(show False from f).elim
def Jwe{tp:Pos}(C:Al)(ha:AJ)(hb:Br)(hg:gloB nm "zip"=To)(hm:G.mg "zip"=No)(hs:starEach [a,b] Se=DN::starEach [b] Se)
  (B:starEach [b] Se=[(Fo,eval b Se)]):PI X OI (.Call (.Name "zip" p1) [a,b] [] pos) (tW X U (.bi .zip pa pb)):=by
 rintro Y s Z H R I⟨O,r,h⟩;refine Call_ (yN I Gg (by rw[C.mg];exact hm) boot_zip (kX (thn (Jb (U:=U) ha (Jb hb Jt B) hs pos Y s Z H (λvs W=>∃d J v f es v',vs=[v,v']/\Rep X.K W d v/\(d=.tup J\/d=.lst J)/\Rep X.K W f v'/\(f=.tup es\/f=.lst es)/\Same H W/\∀J9 H2,Same H H2->Walk X.K J9 H2 (zipD J es)->ItOk J9->R J9 H2) I Dp)
  λus s1 zz=>?_) hs (by rw[B];rfl)))
 ·simp only[evD];refine Rs.gB.mpr ('Ĥ'.imp λd hd=>?_);refine Rs.gB.mpr ((Rs.gB.mpr ((Rs.gB.mp hd).imp λf hd'=>?_)));refine⟨[d,f],rfl,λvs W s1 rs=>?_⟩;obtain⟨v,r',e1,h1,v',r'',e2,h2,h3⟩:=rs;cases h3;subst e2;subst e1;obtain⟨J,w1,g⟩:=JjB hd';obtain⟨es,w2,g⟩:=JjB g;obtain⟨_,e,hR⟩:=g;cases e;exact⟨d,J,v,f,es,v',rfl,h1,w1,h2,w2,s1,hR⟩
 obtain⟨vs,H1,q,r1,d,J,v,f,es,v',e1,rd,hw,rd',hw',s2,hR⟩:=zz;subst e1;obtain⟨t,l,xs,rfl,q1,q2⟩:=JqG rd hw;obtain⟨t',l',ys,rfl,q3,q4⟩:=JqG rd' hw';obtain⟨u,u',rfl,ru,ru'⟩:=kY r1;cases ru;cases ru';obtain⟨its,rv,pt,hz⟩:=jL q q1;obtain⟨its2,rv2,pt2,hz2⟩:=jL q q3;have ap:Apart (AC+4) (AC+2) (AC+3) AC (AC+1):=⟨by simp[vA]⟩;refine JlC pt pt2 λh' st kp=>wpAny_pyIter_zip st.1 ⟨AC+4,_,_,_,H1,rfl,q.kept (t':=YY) kp,JoZ t t' l l' _ _ _ _ _ ap,st,λb hb=>?_,hR _ _ s2 (JoP q q1 q2 q3 q4) JvE⟩;have F:AC<=b:=by simp only[Ze,ZK,lA]at hb;rcases hb with rfl|rfl|rfl|rfl|rfl<;>first|exact Zh _|exact Nat.le_add_right _ _
 exact q.fpOk F (q.hok.fresh F)
end
noncomputable def uni (L:A7) (H H1:Hp):Hp:=λa=>if a∈L then H a else H1 a
section
variable{L':A7}{o:HO}
def JY(h:a∉L):uni L H H1 a=H1 a:=by unfold uni;rw[if_neg h]
def lP(h:a∈L):uni L H H1 a=H a:=by unfold uni;rw[if_pos h]
def pO(h:∀a∈L,H1 a=No):hid L E2=H1:=by
 funext a;by_cases q:a∈L
 ·rw[wI q,h a q]
 ·rw[JF q,JY q]
def sV(s:Same Ba H1):Same H E2:=λa o h=>by
 by_cases q:a∈L
 ·rw[lP q];exact h
 ·rw[JY q];exact s a o (by rw[JF q];exact h)
def Ows.tup(h:Ows L H):Tups K H Ba:=by
 have f:∀b o,H b=So o->¬Chgb o->b∉L:=λb o e B C=>by obtain⟨u,r,c⟩:=h b C;rw[e]at r;cases r;exact B c
 refine⟨λb xs q=>?_,λb o u q=>by rw[JF '伄'];exact q⟩;rcases q with q|q
 ·exact .inl (by rw[JF '伄'];exact q)
 ·exact .inr q
end
section
variable{ps:AU}{s':Ao}
def Chgc:HO->Prop
 |.lsm _ _=>True
 |.ins _ _ _=>True
 |.own _=>True
 |o=>Chgb o
structure OwC(L:A7)(H:Hp):Prop where
 all:∀a∈L,∃o,H a=So o/\Chgc o
 own:∀b a,b∈L->H b=So (.own a)->a∈L/\∃C fs,H a=So (.ins C b fs)
 dx:∀a C d fs,a∈L->H a=So (.ins C d fs)->d∈L
def Ows.c(h:Ows L H):OwC L H where
 all:=λa q=>by
  obtain⟨o,e,c⟩:=h a q
  exact⟨o,e,by cases o<;>first|exact c|exact c.elim⟩
 own:=λb a r e=>by obtain⟨o,f,c⟩:=h b r;rw[e]at f;cases f;exact c.elim
 dx:=λa C d fs q e=>by obtain⟨o,f,c⟩:=h a q;rw[e]at f;cases f;exact c.elim
def Inv.obj(I:BM)(r:Qcn)(u:a∈L):∃ob,s.heap.get? a=So ob/\∀v,ob.data≠.cell v:=by
 obtain⟨o,h,B⟩:=r.all a u;have:=I.hok a o h;cases o with
 |lst xs=>obtain⟨_,q,n,_,e⟩:=this;exact⟨_,e,λv z=>by cases z⟩
 |lsm _ xs=>obtain⟨_,q,n,_,e⟩:=this;exact⟨_,e,λv z=>by cases z⟩
 |dK f=>obtain⟨_,_,vs,_,ob,es,ep,e,c,d,_⟩:=this;exact⟨ob,e,λv z=>by rw[d]at z;cases z⟩
 |ins C dx fs=>obtain⟨_,_,_,e,_⟩:=this;exact⟨_,e,λv z=>by cases z⟩
 |own b=>obtain⟨_,C,fs,F⟩:=r.own a b u h;obtain⟨_,_,_,_,mA,⟨od,es,ep,U,d,_⟩,_⟩:=I.hok b _ F;exact⟨od,U,λv z=>by rw[d]at z;cases z⟩
 |dT f=>exact(show False from this).elim
 |_=>exact B.elim
def JiH(I:BM)(q:Qcn):∀L1:List Addr,(∀a∈L1,a∈L)->∃ps:List (Addr×Obj),ps.map (·.1)=L1/\∀p∈ps,s.heap.get? p.1=So p.2/\∀v,p.2.data≠.cell v
 |[],_=>⟨[],rfl,by simp⟩
 |a::L1,h=>by
  obtain⟨ob,B,u⟩:=Inv.obj I q (h a Af)
  obtain⟨ps,C,F⟩:=JiH I q L1 λb r=>h b (by simp[r])
  refine⟨(a,ob)::ps,by simp[C],λp f=>?_⟩
  rcases Ze.mp f with rfl|f
  ·exact⟨B,u⟩
  ·exact F p f
def Inv.fsFree(I:BM){b:Addr}(f:b∈X.fs):H b=No:=by obtain⟨_,o,q,_⟩:=I.ok.funs.mem f;exact I.base.free b o q (I.ok.frf b f) λz=>I.ok.exfs b z f
def Inv.hide(I:BM)(F:Qcn):∃ps:List (Addr×Obj),ps.map (·.1)=L/\(∀p∈ps,s.heap.get? p.1=So p.2)/\L2.Inv X (ps++Y) Z Ba s:=by
 obtain⟨ps,e1,e2⟩:=JiH I F L λ_ z=>z
 have C:∀p∈ps,p.1∈L:=λp f=>by rw[<-e1];exact lG f
 have r:∀b o,H b=So o->¬Chgc o->b∉L:=λb o e nc hm=>by
  obtain⟨u,B,c⟩:=F.all b hm
  rw[e]at B;cases B;exact nc c
 have U:∀b,H b=No->hid L H b=No:=λb e=>by unfold hid;split<;>first|rfl|exact e
 refine⟨ps,e1,λp f=>(e2 p f).1,?_⟩
 exact{
  ok:=I.ok,os:=I.os,bare:=YB
  base:=⟨fQ,fS,λb o q n x=>U b QO,dP,λb xs q=>by
    have:=I.base.tups b xs q
    rw[JF 'Ϙ'];exact this,
   λb o u q=>by
    have:=I.base.frzs b o u q
    rw[JF 'Ϙ'];exact this,
   λb qs q=>by
    obtain⟨m,this⟩:=I.base.tbls b qs q
    exact⟨m,by rw[JF 'Ϙ'];exact this⟩⟩
  loc:=YH,cell:=Z3,free:=U _ YE,freeC:=λx c e=>U _ Ie
  pin:=λp f=>by
   have hp':p∈ps\/p∈X.pn++Y:=by
    simp only[ZC]at f⊢
    rcases f with h|h|h
    ·exact .inr QcH
    ·exact .inl h
    ·exact .inr QcL
   rcases hp' with f|f
   ·obtain⟨o,B,_⟩:=F.all p.1 (C p f)
    refine⟨(e2 p f).1,wI (C p f),λz=>?_,λz=>?_,(e2 p f).2⟩
    ·rw[z,I.free]at B;cases B
    ·rw[Inv.fsFree I z]at B;cases B
   ·obtain⟨q1,q2,q3⟩:=I.pin p f
    exact⟨q1,U _ q2,q3⟩
  hok:=λa o e=>by
   obtain⟨h1,h2⟩:=nV e
   exact(I.hok a o h2).stay Nk (λb q=>by rw[JF λhm=>h1 (F.own b a hm q).1];exact q) (λb xs q=>by rw[JF '伅'];exact q) λb o' u' q=>by rw[JF '伅'];exact q
  len:=aF}
def Inv.unhide(I:BM)(hL:Qcn)(e1:ps.map (·.1)=L)(e2:∀p∈ps,s.heap.get? p.1=So p.2)(sm:∀b xs,hid L H b=So Bm->H1 b=So Bm)(f:L2.Inv X (ps++Y) σ' H1 s'):(∀a∈L,H1 a=No)/\L2.Inv X Y σ' E2 s':=by
 have U:∀b o,H b=So o->¬Chgc o->b∉L:=λb o e nc hm=>by
  obtain⟨u,e3,c⟩:=hL.all b hm
  rw[e]at e3;cases e3;exact nc c
 have B:∀a∈L,∃ob,s.heap.get? a=So ob/\s'.heap.get? a=So ob/\H1 a=No:=λa F=>by
  rw[<-e1]at F
  obtain⟨p,hp,rfl⟩:=Zz.mp F
  obtain⟨q1,q2,_⟩:=f.pin p (by simp[hp])
  exact⟨p.2,e2 p hp,q1,q2⟩
 have hnL:∀b,H b=No->b∉L:=λb e hm=>by
  obtain⟨o,e3,_⟩:=hL.all b hm
  rw[e]at e3;cases e3
 have tp:∀b xs,H b=So Bm->uni L H H1 b=So Bm:=λb xs q=>by
  have hb:=U b _ q λz=>z
  rw[JY hb];exact sm b _ (by rw[JF hb];exact q)
 refine⟨λa F=>let⟨_,_,_,h⟩:=B a F;h,?_⟩
 exact{
  ok:=I.ok,os:=f.os,bare:=f.bare
  base:=⟨f.base.keep,f.base.slot,λb o q n x=>by rw[JY (hnL b QO)];exact f.base.free b o q n x,f.base.there,
   λb xs q=>by rw[JY (U b _ 'ϸ' λz=>z)];exact f.base.tups b xs q,
   λb o u q=>by rw[JY (U b _ (I.base.frzs b o u q) λz=>z)];exact f.base.frzs b o u q,
   λb qs q=>by
    obtain⟨m,this⟩:=I.base.tbls b qs q
    rw[JY (U b _ this λz=>z)];exact f.base.tbls b qs q⟩
  loc:=f.loc,cell:=f.cell
  free:=by rw[JY (hnL _ YE)];exact f.free
  freeC:=λx c e=>by rw[JY (hnL _ Ie)];exact f.freeC x c e
  pin:=λp hp=>by
   obtain⟨q1,q2,q3⟩:=f.pin p (by
    simp only[ZC]at hp⊢
    rcases hp with h|h
    ·exact .inl h
    ·exact .inr QcL)
   exact⟨q1,by rw[JY (hnL _ (I.pin p hp).2.1)];exact q2,q3⟩
  hok:=λa o e=>by
   by_cases F:a∈L
   ·rw[lP F]at e
    obtain⟨u,e3,hc⟩:=hL.all a F
    rw[e]at e3;cases e3
    have:=I.hok a o e
    have trB:∀{b:Addr}{x:Obj},b∈L->s.heap.get? b=So x->s'.heap.get? b=So x:=fun{b x}hb q=>by
     obtain⟨ob,h1,h2,_⟩:=B b hb
     rw[h1]at q;cases q;exact h2
    have tr:∀{x:Obj},s.heap.get? a=So x->s'.heap.get? a=So x:=trB F
    cases o with
    |lst xs=>obtain⟨z,its,n,r,q⟩:=this;exact Oh
    |lsm _ xs=>obtain⟨z,its,n,r,q⟩:=this;exact Oh
    |own y=>obtain⟨x,q⟩:=this;exact⟨x,tr q⟩
    |ins C dx fs=>
     obtain⟨d,z,ne,q,mA,⟨od,es,ep,q2,c⟩,r⟩:=this
     have hd:=hL.dx a C dx fs F e
     exact⟨by rw[lP hd];exact d,z,ne,tr q,mA,⟨od,es,ep,trB hd q2,c⟩,r⟩
    |dK kvs=>obtain⟨z,y,vs,r,ob,es,ep,q,c⟩:=this;exact⟨z,y,vs,r,ob,es,ep,tr q,c⟩
    |dT kvs=>exact(show False from this).elim
    |_=>exact hc.elim
   ·rw[JY F]at e
    have nz:∀b o,H1 b=So o->b∉L:=λb o q hm=>by
     obtain⟨_,_,_,h⟩:=B b hm
     rw[q]at h;cases h
    exact(f.hok a o e).stay Nk (λb q=>by rw[JY (nz b _ q)];exact q) (λb xs q=>by rw[JY (nz b _ q)];exact q) λb o' u' q=>by rw[JY (nz b _ q)];exact q
  len:=f.len}
end
def OutH(X:Cx)(L:A7)(H:Hp)(Q:VK)(d:D):Prop:=∀v W,Same H W->(∀a∈L,W a=H a)->Rep X.K Kz d v->Q v W
def tH(X:Cx)(U:Ae)(p:Px):TE:=λZ H Q=>∃O L,Ows L H/\ReadOk X.K Ba Z O/\(evD U p O).Good (OutH X L H Q) QaP
def OutFH(X:Cx)(L:A7)(H:Hp)(Q:VK)(d:D):Prop:=∃J,d=.lst J/\∀l xs W,Same H W->(∀a∈L,W a=H a)->H l=No->W l=So AH->Reps X.K Kz J xs->Q BK W
def tFH(X:Cx)(U:Ae)(p:Px):TE:=λZ H Q=>∃O L,Ows L H/\ReadOk X.K Ba Z O/\(evD U p O).Good (OutFH X L H Q) QaP
section
variable{U:Ae}
def oE(he:B6):PE X e (tH X U p):=by
 rintro Y s Z H Q I⟨O,L,F,r,h⟩;obtain⟨ps,e1,e2,I'⟩:=Inv.hide I F.c;refine ZT (he (ps++Y) s Z Ba (λv H1=>Same Ba H1/\((∀a∈L,H1 a=No)->Q v E2)) I' ⟨O,r,h.mono (λd hd v H1 B C=>⟨B,λf=>hd v _ (sV B) Nx ?_⟩) λc z=>z⟩)
  (λu B⟨v,H1,I1,C,sm,q⟩=>?_) λ_ _ z=>z
 ·rw[pO f];exact C
 ·obtain⟨f,I2⟩:=Inv.unhide I F.c e1 e2 NR I1;exact⟨v,_,I2,C,q f⟩
def JtY(he:Nt):PE X e c7:=by
 rintro Y s Z H Q I⟨O,L,hL,r,h⟩;obtain⟨ps,e1,e2,I'⟩:=Inv.hide I hL.c;refine ZT (he (ps++Y) s Z Ba (λv H1=>Same Ba H1/\((∀a∈L,H1 a=No)->Q v E2)) I' ⟨O,r,h.mono (λd⟨J,ed,hd⟩=>⟨J,ed,λl xs H1 F h0 C B=>⟨F,λf=>?_⟩⟩) λc z=>z⟩)
  (λu F⟨v,H1,I1,B,sm,q⟩=>?_) λ_ _ z=>z
 ·have hl:l∉L:=λhm=>by rw[f l hm]at C;cases C
  exact hd l xs _ (sV F) Nx (by rw[JF hl]at h0;exact h0) (by rw[JY hl];exact C) (by rw[pO f];exact B)
 ·obtain⟨f,I2⟩:=Inv.unhide I hL.c e1 e2 NR I1;exact⟨v,_,I2,B,q f⟩
end
def tWH (X:Cx) (U:Ae) (p:Px):TI:=λZ H R=>∃O L,Ows L H/\ReadOk X.K Ba Z O/\(evD U p O).Good (λd=>∃J,d=.lst J/\∀f W,Same H W->(∀a∈L,W a=H a)->Walk X.K f Kz J->ItOk f->R f W) QaP
section
variable{U:Ae}{iter:Expr}
def Jui(hi:PI X tg iter (tW X U p)):PI X tg iter (tWH X U p):=by
 rintro Y s Z H R I⟨O,L,hL,r,h⟩;obtain⟨ps,e1,e2,I'⟩:=Inv.hide I hL.c;refine ZT (hi (ps++Y) s Z Ba (λf H1=>Same Ba H1/\((∀a∈L,H1 a=No)->R f E2)) I' ⟨O,r,h.mono (λd⟨J,ed,hd⟩=>⟨J,ed,λf H1 F w ok=>⟨F,λC=>hd f _ (sV F) Nx ?_ ok⟩⟩) λc z=>z⟩)
  (λv F q1=>ZT q1 (λitv s2 zz=>?_) λ_ _ z=>z) λ_ _ z=>z
 ·rw[pO C];exact w
 ·obtain⟨it,fp,tn,f,H1,e3,I1,T,t0,hf,sm,q⟩:=zz;obtain⟨C,I2⟩:=Inv.unhide I hL.c e1 e2 NR I1;refine⟨it,fp,tn,f,_,e3,I2,T,t0,λb hb=>?_,q C⟩;obtain⟨f0,f1,f2,f3,f4,f5⟩:=hf b hb;have B:b∉L:=λhm=>by rw[<-e1]at hm;obtain⟨p,u,rfl⟩:=Zz.mp hm;exact f5 p (by simp[u]) rfl
  exact⟨by rw[JY B];exact f0,f1,f2,f3,f4,λp u=>f5 p (by
   simp only[ZC]at u⊢;rcases u with h|h
   ·exact .inl h
   ·exact .inr QcL)⟩
end
noncomputable def owA (O:Fm) (Z:Cg) (i:Nat):Option Addr:=match O[i]?,Z[i]? with
 |some (So _),So (So (.ref l))=>So l
 |_,_=>No
def Ow (M:Aj) (O:Fm) (Z:Cg):List Addr:=M.filterMap (owA O Z)
def owA_iff:owA O Z i=So l↔∃d,O[i]? =So BB/\Z[i]? =So C9:=by
 unfold owA;constructor
 ·intro h;split at h
  ·rename_i d m f q;cases h;exact⟨d,f,q⟩
  ·cases h
 ·rintro⟨d,f,q⟩;rw[f,q]
def mem_Ow:l∈Ow M O Z↔∃i∈M,∃d,O[i]? =So BB/\Z[i]? =So C9:=by
 unfold Ow;rw[ZX];constructor
 ·rintro⟨i,f,h⟩;exact⟨i,f,owA_iff.mp h⟩
 ·rintro⟨i,f,h⟩;exact⟨i,f,owA_iff.mpr h⟩
def JfJ{env':Fm}(h:∀i∈M,owA O Z i=owA env' σ' i):Ow M O Z=Ow M env' σ':=by
 unfold Ow;induction M with
 |nil=>rfl
 |cons i M f=>simp only[wD,h i (.head _),f λj q=>h j (.tail _ q)]
def JrB{s:AY}{t:dS}(h:j≠i):owA Mj (Z.set i t) j=owA O Z j:=by unfold owA;rw[Zv (Ne.symm h),Zv (Ne.symm h)]
def xB{s:AY}{t:dS}(h:i∉M):Ow M Mj (Z.set i t)=Ow M O Z:=JfJ λj f=>JrB λe=>h (e▸f)
noncomputable def OwnIs (K:Ak) (f H:Hp) (l:Addr):D->Prop
 |.lst J=>∃xs,H l=So AH/\Reps K f J xs
 |.dct t z ks q=>z=Fo/\∃xs,DK H l t Fo ks xs/\Reps K f q xs
 |_=>False
def OwnIs.mono{u f:Hp}{d:D}(h:OwnIs K u H l d)(e:Same u f)(k:∀o,H l=So o->W l=So o):OwnIs K f W l d:=by
 cases d with
 |lst J=>obtain⟨xs,q,r⟩:=h;exact⟨xs,k _ q,r.mono e⟩
 |dct t z ks C=>obtain⟨B,xs,q,r⟩:=h;exact⟨B,xs,q.mono k,r.mono e⟩
 |_=>exact h.elim
def OwnIs.chg{r:Hp}{d:D}(h:QdF):∃o,H l=So o/\Chgb o:=by
 cases d with
 |lst J=>obtain⟨xs,f,B⟩:=h;exact⟨_,f,trivial⟩
 |dct t z ks F=>
  obtain⟨C,xs,f,B⟩:=h;cases t<;>obtain⟨u,q,_⟩:=f
  ·exact QbX
  ·exact QbX
 |_=>exact h.elim
def OwnIs.rep{r:Hp}{d:D}(h:QdF)(e:Same r H):Rep K H d BK:=by
 cases d with
 |lst J=>obtain⟨xs,f,q⟩:=h;exact⟨l,xs,rfl,SqL.of f,q.mono e⟩
 |dct t z ks u=>obtain⟨rfl,xs,f,q⟩:=h;exact⟨l,xs,rfl,f,q.mono e⟩
 |_=>exact h.elim
structure EnvOk(K:Ak)(M:Aj)(H0 H:Hp)(Z:Cg)(O:Fm):Prop where
 same:Same H0 H
 len:Z.length=O.length
 read:∀(i:Nat)(d:D),i∉M->O[i]? =So BB->∃v,Z[i]? =So Bi/\Rep K CN d v
 own:∀(i:Nat)(d:D),i∈M->O[i]? =So BB->∃l,Z[i]? =So C9/\H0 l=No/\OwnIs K CN H l d
 apart:∀(i j:Nat)(l:Addr)(d d':D),i∈M->j∈M->i≠j->O[i]? =So BB->O[j]? =So (So d')->Z[i]? =So C9->Z[j]? ≠So C9
structure Fz(L:A7)(H:Hp)(L':A7)(W:Hp):Prop where
 keep:∀a o,H a=So o->a∉L->W a=So o
 own:∀l∈L',l∈L\/H l=No
section
variable{L2:A7}{H2:Hp}
def Fz.of(s:bW)(h:∀l∈L1,l∈L\/H l=No):Fz L H L1 H1:=⟨λa o e _=>s a o e,h⟩
def Fz.sm(s:bW):Fz L H L H1:=.of s λ_ h=>.inl h
def Fz.trans(a:Fz L H L1 H1)(b:Fz L1 H1 L2 H2):Fz L H L2 H2 where
 keep:=λc o e r=>b.keep c o (a.keep c o e r) λf=>by
  rcases a.own c f with h|h
  ·exact r h
  ·rw[e]at h;cases h
 own:=λl u=>by
  rcases b.own l u with h|h
  ·exact a.own l h
  ·by_cases f:l∈L
   ·exact .inl f
   ·cases q:H l with
    |none=>exact .inr rfl
    |some o=>rw[a.keep l o q f]at h;cases h
def Fz.hid(a:Fz L H L1 H1):Same Ba (hid L1 H1):=JjM λb o e f=>⟨a.keep b o e f,λq=>by
 rcases a.own b q with h|h
 ·exact f h
 ·rw[e]at h;cases h⟩
end
def EnvOk.ows(e:CW):Ows BF H:=λa q=>by
 obtain⟨i,u,d,r,C⟩:=mem_Ow.mp q
 obtain⟨l,f,_,B⟩:=e.own i d u r
 rw[C]at f;cases f
 exact B.chg
def EnvOk.same0(e:CW):Same H0 CN:=λa o h=>by
 have C:a∉Ow M O Z:=λr=>by
  obtain⟨i,B,d,u,F⟩:=mem_Ow.mp r
  obtain⟨l,f,q,_⟩:=e.own i d B u
  rw[F]at f;cases f
  rw[h]at q;cases q
 rw[JF C];exact e.same a o h
def EnvOk.readOk(e:CW):ReadOk K H Z O:=λi d h=>by
 by_cases r:i∈M
 ·obtain⟨l,f,_,q⟩:=e.own i d r h
  exact⟨_,f,q.rep hid_same⟩
 ·obtain⟨v,f,q⟩:=e.read i d r h
  exact⟨v,f,q.mono hid_same⟩
def EnvOk.readHid(e:CW):ReadOk K CN Z eH:=λi d h=>by
 rw[zI]at h
 cases q:O[i]? with
 |none=>rw[q]at h;cases h
 |some s=>
  rw[q]at h
  simp only[rJ,iJ,ZR]at h
  split at h
  ·cases h
  ·rename_i f
   subst h
   exact e.read i d f q
def EnvOk.grow(e:CW)(s:Ct):EnvOk K M H0 W Z O where
 same:=e.same.trans s
 len:=e.len
 read:=λi d q h=>let⟨v,f,r⟩:=e.read i d q h;⟨v,f,r.mono (Fz.sm s).hid⟩
 own:=λi d q h=>let⟨l,f,u,r⟩:=e.own i d q h;⟨l,f,u,r.mono (Fz.sm s).hid (s l)⟩
 apart:=e.apart
theorem wC{l:AD}{a b:α}(h:(l.set i a)[j]? =So b):(j=i/\b=a/\i<Yr)\/(j≠i/\l[j]? =So b):=by
 by_cases q:j=i
 ·subst q;by_cases f:j<Yr
  ·rw[kD f]at h;cases h;exact .inl ⟨rfl,rfl,f⟩
  ·rw[yR (by rw[xE];lia)]at h;cases h
 ·rw[Zv 'Ǒ']at h;exact .inr ⟨q,h⟩
def EnvOk.put(e:CW){d:D}(u:i∉M)(r:Rep K CN d v):EnvOk K M H0 H Yl Gq where
 same:=aD
 len:=by rw[xE,xE];exact e.len
 read:=λj B f h=>by
  rw[xB u]
  rcases wC h with⟨rfl,hd,hl⟩|⟨q,h⟩
  ·cases hd;exact⟨v,kD (by rw[e.len];exact hl),r⟩
  ·rw[Zv 'Ǒ'];exact e.read j B f h
 own:=λj B f h=>by
  rw[xB u]
  rcases wC h with⟨rfl,_,_⟩|⟨q,h⟩
  ·exact absurd f u
  ·rw[Zv 'Ǒ'];exact e.own j B f h
 apart:=λj k l d1 d2 f F q C I U=>by
  have n1:j≠i:=λz=>u (z▸f)
  have n2:k≠i:=λz=>u (z▸F)
  rw[Zv '亹']at C U
  rw[Zv 'Ӛ']at I⊢
  exact e.apart j k l d1 d2 f F q C I U
theorem JqH{d:D}(b:Addr)(h:b∈Ow M Gq UK):b=l\/b∈Ow M O Z:=by
 obtain⟨j,B,u,r,f⟩:=mem_Ow.mp h;by_cases q:j=i
 ·subst q;by_cases C:j<Z.length
  ·rw[kD C]at f;cases f;exact .inl rfl
  ·rw[yR (by rw[xE];lia)]at f;cases f
 ·rw[Zv 'Ǒ']at r f;exact .inr (mem_Ow.mpr ⟨j,B,u,r,f⟩)
def EnvOk.putOwn(e:CW)(s:Ct){d:D}(h0:H l=No)(hl:∀Hh,Tups K W Hh->OwnIs K Hh W l d):
  EnvOk K M H0 W UK Gq/\Fz BF H Sn W:=by
 have fz:Fz BF H Sn W:=.of s λb hb=>by
  rcases JqH b hb with rfl|h
  ·exact .inr h0
  ·exact .inl h
 have ows:Ows Sn W:=λb hb=>by
  rcases JqH b hb with rfl|h
  ·exact(hl W (Tups.of MA)).chg
  ·obtain⟨o,h1,h2⟩:=e.ows b h;exact⟨o,s _ _ h1,h2⟩
 refine⟨{
  same:=e.same.trans s
  len:=by rw[xE,xE];exact e.len
  read:=λj d' B h=>?_
  own:=λj d' B h=>?_
  apart:=λj k m d1 d2 B hk F h1 h2 h3 U=>?_},fz⟩
 ·rcases wC h with⟨rfl,hd,u⟩|⟨F,h⟩
  ·cases hd
   exact⟨.ref l,kD (by rw[e.len];exact u),(hl _ ows.tup).rep hid_same|>λr=>by
    have ho:l∉Ow M (O.set j BB) (Z.set j C9):=λhm=>by
     obtain⟨k,hk,d2,k1,I⟩:=mem_Ow.mp hm
     by_cases q:k=j
     ·exact B (q▸hk)
     ·rw[Zv 'Ǒ']at k1 I
      obtain⟨l',f,_,g3⟩:=e.own k d2 hk k1
      rw[I]at f;cases f
      obtain⟨o,g4,_⟩:=g3.chg
      rw[h0]at g4;cases g4
    have:=hl _ (ows.tup)
    cases d with
    |lst J=>obtain⟨xs,C,q2⟩:=this;exact⟨l,xs,rfl,SqL.of (by rw[JF ho];exact C),q2⟩
    |dct t z ks vs=>obtain⟨rfl,xs,C,q2⟩:=this;exact⟨l,xs,rfl,C.mono λo q=>by rw[JF ho];exact q,q2⟩
    |_=>exact this.elim⟩
  ·obtain⟨v,f,g2⟩:=e.read j d' B h
   exact⟨v,by rw[Zv (Ne.symm F)];exact f,g2.mono fz.hid⟩
 ·rcases wC h with⟨rfl,hd,u⟩|⟨F,h⟩
  ·cases hd;exact⟨l,kD (by rw[e.len];exact u),e.same.free h0,hl _ ows.tup⟩
  ·obtain⟨m,f,g0,g2⟩:=e.own j d' B h
   exact⟨m,by rw[Zv (Ne.symm F)];exact f,g0,g2.mono fz.hid (s m)⟩
 ·have old:∀q dq,q∈M->q≠i->O[q]? =So (So dq)->Z[q]? ≠So C9:=λq dq hq hqi hqe hqs=>by
   obtain⟨l',f,_,g3⟩:=e.own q dq hq hqe
   rw[f]at hqs;cases hqs
   obtain⟨o,g4,_⟩:=g3.chg
   rw[h0]at g4;cases g4
  rcases wC h1 with⟨C,_,u⟩|⟨n1,k1⟩
  ·rw[C,kD (by rw[e.len];exact u)]at h3
   cases h3
   rcases wC h2 with⟨q,_,_⟩|⟨n2,I⟩
   ·exact F (C.trans q.symm)
   ·rw[Zv 'Ӛ']at U
    exact old k d2 hk n2 I U
  ·rw[Zv '亹']at h3
   rcases wC h2 with⟨q2,_,u⟩|⟨n2,I⟩
   ·rw[q2,kD (by rw[e.len];exact u)]at U
    cases U
    exact old j d1 B n1 k1 h3
   ·rw[Zv 'Ӛ']at U
    exact e.apart j k m d1 d2 B hk F k1 I h3 U
def Jhw{o:HO}(h:l∈L):hid L Lm=hid L H:=by
 funext b;by_cases q:b∈L
 ·rw[wI q,wI q]
 ·rw[JF q,JF q,Jc (λz:b=l=>q (by rw[z];exact h))]
def EnvOk.change(e:CW){d d':D}{o:HO}(hi:i∈M)(u:O[i]? =So BB)(B:Z[i]? =So C9)(new:OwnIs K CN Lm l d'):
  EnvOk K M H0 Lm Z (O.set i (So d'))/\Fz BF H (Ow M SI Z) Lm:=by
 have hl:l∈Ow M O Z:=mem_Ow.mpr ⟨i,hi,d,u,B⟩;obtain⟨l',F,h0,h2⟩:=e.own i d hi u;rw[B]at F;cases F;have iσ:i<O.length:=(ZB.mp u).1;have ow:Ow M SI Z=Ow M O Z:=JfJ λj r=>by
  by_cases q:j=i
  ·subst q;rw[owA_iff.mpr ⟨d,u,B⟩];exact owA_iff.mpr ⟨d',kD iσ,B⟩
  ·unfold owA;rw[Zv 'Ǒ']
 have hh:hid (Ow M SI Z) Lm=hid BF H:=by rw[ow,Jhw hl]
 refine⟨⟨λb ob q=>?_,by rw[xE];exact e.len,λj dj r h=>?_,λj dj r h=>?_,λj k m d1 d2 r hk C F h2 h3=>?_⟩,⟨λa ob q C=>?_,λb hb=>.inl (by rw[ow]at hb;exact hb)⟩⟩
 ·rw[Jc (Ji q h0)];exact e.same b ob q
 ·rw[hh];rcases wC h with⟨rfl,_,_⟩|⟨C,h⟩
  ·exact absurd hi r
  ·exact e.read j dj r h
 ·rw[hh];rcases wC h with⟨rfl,hd,_⟩|⟨C,h⟩
  ·cases hd;exact⟨l,B,h0,new⟩
  ·obtain⟨m,g1,g0,g2⟩:=e.own j dj r h;have hne:m≠l:=λz=>e.apart i j l _ _ hi r (Ne.symm C) u h B (z▸g1);exact⟨m,g1,g0,g2.mono MA λob q=>by rw[Jc hne];exact q⟩
 ·have f:∀(q:Nat)(I:D),(O.set i (So d'))[q]? =So (So I)->∃U,O[q]? =So (So U):=λq I hq=>by
   rcases wC hq with⟨rfl,_,_⟩|⟨_,hq⟩
   ·exact⟨_,u⟩
   ·exact⟨I,hq⟩
  obtain⟨e1,k1⟩:=f j d1 F;obtain⟨e2,k2⟩:=f k d2 h2;exact e.apart j k m e1 e2 r hk C k1 k2 h3
 ·rw[Jc (λz:a=l=>C (by rw[z];exact hl))];exact q
def Chg(m:Bool)(L:A7)(H:Hp)(f:A7)(W:Hp):Prop:=Fz L H f W/\(m=Fo->Same H W)
section
variable{n:Bool}{L2:A7}{H2:Hp}
def Chg.of(s:bW):Chg m L H L H1:=⟨Fz.sm s,λ_=>s⟩
def Chg.trans(a:M7)(b:Chg n L1 H1 L2 H2):Chg (m||n) L H L2 H2:=⟨a.1.trans b.1,λh=>by
 simp only[nC]at h
 exact(a.2 h.1).trans (b.2 h.2)⟩
def Chg.weak(a:M7)(h:n=Fo->m=Fo):Chg n L H L1 H1:=⟨a.1,λq=>a.2 (h q)⟩
end
def OutS(X:Cx)(M:Aj)(H0:Hp)(L:A7)(H:Hp)(m:Bool)(D:Ends)(r:Fw×Fm):Prop:=match r.1 with
 |.nx=>∀σ' W,EnvOk X.K M H0 W σ' r.2->Chg m L H (Ow M r.2 σ') W->D.nx σ' W
 |.rt d=>∀v W,Same H0 W->Rep X.K W d v->D.rt v W
 |.bk=>∀σ' W,EnvOk X.K M H0 W σ' r.2->Chg m L H (Ow M r.2 σ') W->D.bk σ' W
 |.ct=>∀σ' W,EnvOk X.K M H0 W σ' r.2->Chg m L H (Ow M r.2 σ') W->D.ct σ' W
def tS(X:Cx)(U:Ae)(M:Aj)(H0:Hp)(p:Sx):TS:=λD Z H=>∃O,EnvOk X.K M H0 H Z O/\(exD U p O).Good (OutS X M H0 BF H (mutS p) D) Hk
def OutS.after{n k:Bool}{D:Ends}{r:Fw×Fm}(h:OutS X M H0 L H k D r)(c:M7)(I:k=Fo->m=Fo/\n=Fo):OutS X M H0 L1 H1 n D r:=by
 obtain⟨f,e⟩:=r;have C:∀{F:A7}{W:Hp},Chg n L1 H1 F W->Chg k L H F W:=λU=>(c.trans U).weak λq=>by obtain⟨a,b⟩:=I q;rw[a,b];rfl
 cases f with
 |nx=>exactλσ' W u B=>h σ' W u (C B)
 |rt d=>exact h
 |bk=>exactλσ' W u B=>h σ' W u (C B)
 |ct=>exactλσ' W u B=>h σ' W u (C B)
section
variable{U:Ae}{c:Expr}{pc:Px}{a b:Sx}{rest sa sb:BI}
def PS.weak{t t':TS}(h:QcZ)(f:∀D Z H,t' D Z H->t D Z H):PS X st t':=λY s Z H D I q=>h Y s Z H D I (f D Z H q)
def PSs.weak{f:BI}{t t':TS}(h:PSs X f t)(q:∀D Z H,t' D Z H->t D Z H):PSs X f t':=λY s Z H D I r=>h Y s Z H D I (q D Z H r)
def sI:PSs X [] (tS X U M H0 .skip):=PSs.weak JtF λD Z H⟨O,e,h⟩=>h Z H e (Chg.of E6)
def tG(h:PS X st Nb):PSs X [st] Nb:=lL h
def Jy(h1:PS X st Nb)(I:PSs X rest R6):PSs X (st::rest) (tS X U M H0 KP):=by
 refine PSs.weak (gH h1 I) λD Z H⟨O,e,h⟩=>D7;refine(Rs.gB.mp h).imp λr F=>?_;obtain⟨f,C⟩:=r;have wk:mutS KP=Fo->mutS a=Fo:=λq=>(nC.mp q).1;cases f with
 |nx=>intro σ' W u B;refine⟨C,u,F.imp λr2 I=>I.after B λq=>nC.mp q⟩
 |rt d=>exact F
 |bk=>exactλσ' W u B=>F σ' W u (B.weak wk)
 |ct=>exactλσ' W u B=>F σ' W u (B.weak wk)
def rK(q:B6):PS X LS (tS X U M H0 (.ret p)):=by refine PS.weak (nI q) λD Z H⟨O,e,h⟩=>Gk;exact(Rs.gB.mp h).mono (λd f v W s r=>f v W Qa7 r) λc z=>z.mono aD
def mS(F:Qbr)(I:PSs X sa Nb)(hb:PSs X sb R6):PS X Qaf (tS X U M H0 Ki):=by
 refine PS.weak (JtV F I hb) λD Z H⟨O,e,h⟩=>Gk;refine(Rs.gB.mp h).mono (λd u=>?_) λc z=>z.mono aD;cases d with
 |bl k=>
  refine⟨k,rfl,λW s=>?_⟩;have f:∀{q:Sx},(mutS Ki=Fo->mutS q=Fo)->(exD U q O).Good (OutS X M H0 BF H (mutS Ki) D) (XW X H0)->tS X U M H0 q D Z W:=λB hg=>
   ⟨O,e.grow s,hg.imp λr C=>C.after (m:=Fo) (Chg.of s) λz=>⟨rfl,B z⟩⟩
  cases k with
  |true=>exact iteT (f (λz=>(nC.mp z).1) u)
  |false=>exact iteF (f (λz=>(nC.mp z).2) u)
 |_=>exact u.elim
def Jij(q:i∉M)(f:BW){D:Ends}(h:Vl):tAsg (tH X U p) EE D Z H:=by obtain⟨O,e,h⟩:=h;simp only[exD,rC,Zo,ZN]at h;refine L4;rw[Jw U O f];exact(Rs.gB.mp h).mono (λd u v W s k r=>u _ _ ('ǽ'.put q r) (by rw[xB q];exact Chg.of s)) λc z=>z.mono Z6
def Jns{D:Ends}(h:tS X U M H0 (.own i p) D Z H):tAsg (tF X U p) EE D Z H:=by
 obtain⟨O,e,h⟩:=h;refine⟨O,Y1,'Ĥ'.mono (λd f=>?_) λc z=>z.mono aD⟩;cases d with
 |lst J=>
  simp only at f;split at f
  ·exact f.elim
  ·rename_i q;have r:imms J=To:=by simpa using q
   refine⟨J,rfl,λl xs W s u F C=>?_⟩;obtain⟨I,B⟩:=e.putOwn s (i:=i) (d:=.lst J) u λHh tp=>⟨xs,F,Reps.tups tp J r C⟩;exact f _ _ I ⟨B,λ_=>s⟩
 |_=>exact f.elim
def JuB(C:Al)(hi:N[i]? =So x)(F:locB nm x=To)(r:i∉M)(f:BW)(u:B6)(B:MQ):
  PS X Gu UB:=by obtain⟨q,I⟩:=C.sto x F;exact PS.weak (qG DJ (by rw[C.hN];exact hi) q (oE u) B I) λD Z H h=>Jij r f h
def Jwk(C:Al)(hi:N[i]? =So x)(u:locB nm x=To)(q:Nt)(r:MQ):
  PS X Gu Q0:=by obtain⟨f,B⟩:=C.sto x u;exact PS.weak (qG DJ (by rw[C.hN];exact hi) f q r B) λD Z H h=>Jns h
def Joh  {te:TE} (hM:Qco) {D:Ends}   (h:tS X U M H0 (.app m i p) D Z H)
  (B:∀ O,EnvOk X.K M H0 H Z O -> ∀ Q,'Ơ'.Good (λd=>∀ v H1,Same H H1 -> (m = To -> d.imm = To) -> Rep X.K IW d v -> Q v H1) Hk -> (∀ d,evD U p O = .ok d -> m = To -> d.imm = To) -> te Z H Q) :
  ∃ l,Z[i]? = So C9 /\ (∃ xs,H l = So AH) /\ te Z H λv H1=>∃ xs,H1 l = So AH /\ Ah < sizeLine /\ D.nx Z (upd H1 l (.lst (xs ++ [v]))):=by
 obtain ⟨O,e,h⟩:=h;simp only [exD] at h;cases q:O[i]? with
 | none=>rw [q] at h; exact h.elim
 | some o=>
  rw [q] at h;cases o with
  | none=>exact h.elim
  | some d=>
   cases d with
   | lst J=>
    obtain ⟨l,r,h0,xs,hl,hr⟩:=e.own i _ hM q;refine ⟨l,r,⟨xs,hl⟩,B O e _ ('Ĥ'.imp λd I v H1 u him r1=>?_) λd ed hm=>?_⟩
    ·split at I
     ·exact I.elim
     ·rename_i f;simp only [kC,not_or,kB,lR,xJ,Decidable.not_not] at f;have F:=u _ _ hl;have C:Ac < lineD:=by simpa using f.2
      refine ⟨xs,F,by rw [hr.length,ZG]; exact C,?_⟩;obtain ⟨e2,f2⟩:=(e.grow u).change (d':=.lst (J ++ [d])) (o:=.lst (xs ++ [v])) hM q r ⟨_,Je,(hr.mono (Fz.sm u).hid).append (Reps.one r1)⟩;exact I Z _ e2 ⟨(Fz.sm u).trans f2,λz=>by cases z⟩
    ·rw [ed] at h;simp only [Rs.bo] at h;split at h
     ·exact h.elim
     ·rename_i f;simp only [kC,not_or,hm,lM] at f;simpa using f.1
   | _=>exact h.elim
def Jup  (C:Al) (hi:N[i]? = So x) (hx:J5) (hd1:FE) (I:Fd) (hM:Qco) (F:BW) (he:B6)
  (u:CF) {f:Pos} (B:K5):PS X XB RK:=by
 refine PS.weak (oO (nN xW fH fJ Jgg (iC (by rw [C.hN]; exact hi) (C.vis x hx) hd1 I) (JE (oE he) rA B) rfl (by rw [B]; rfl) u B rfl) rfl) λD Z H h=>?_;obtain ⟨l,hσ,⟨xs,u⟩,h⟩:=Joh (te:=tH X U p) hM h λO e Q g _=>⟨Jv M 0 O,Ow M O Z,e.ows,b7,by
  rw [Jw U O F];exact g.mono (λd q v W s k r=>q v W s (λz=>by cases z) r) λc z=>z.mono Z6⟩
 obtain ⟨O,L,k1,k2,k3⟩:=h;refine ⟨.ref l,hσ,.inl ⟨rfl,xs,SqL.of u⟩,O,L,k1,k2,k3.imp λd q v H1 s1 kk r1=>?_⟩;simp only [tNil];obtain ⟨ys,g1,g2,g3⟩:=q v H1 s1 kk r1;exact ⟨l,ys,v,rfl,rfl,g1,g2,g3⟩
end
def JiO:∀{J:Aq}{i:Nat}{d:D},imms J=To->J[i]? =So d->d.imm=To
 |[],_,_,_,h=>by simp at h
 |a::J,0,d,hi,h=>by simp only[imms,Zc]at hi;simp at h;rw[<-h];exact hi.1
 |a::J,i+1,d,hi,h=>by simp only[imms,Zc]at hi;exact JiO hi.2 DG
def gS(X:Cx)(M:Aj)(H0:Hp)(q:Aj)(r:Nat):TG:=λv Z H Q=>∃O d f,EnvOk X.K M H0 H Z O/\Rep X.K CN d v/\kA r d=.ok f/\∀σ',EnvOk X.K M H0 H σ' (yB q f O)->Ow M (yB q f O) σ'=Ow M O Z->Q σ' H
section
variable{U:Ae}{z:Str}{l:Nat}{p3:Pos}
def JwP(C:Al)(hi:N[i]? =So x)(F:locB nm x=To)(q:i∉M):PG X B7 Qag:=by obtain⟨B,h2⟩:=C.sto x F;rintro Y s Z H v u Q I r⟨O,d,new,e,rd,f,h⟩;refine kL (pos:=pos) (i:=i) DJ (by rw[C.hN];exact hi) B h2 Y s Z H v u Q I r ?_;simp only[kA,if_true]at f;cases f;exact h _ (e.put q rd) (xB q)
def Juu(C:Al)(hi:N[i]? =So x)(hx:locB nm x=To)(F:i∉M)(hj:N[j]? =So y)(hy:locB nm y=To)(q:j∉M):PG X UX Pe:=by
 obtain⟨h1,h2⟩:=C.sto x hx;obtain⟨h3,h4⟩:=C.sto y hy;rintro Y s Z H v u Q I r⟨O,d,new,e,rd,f,h⟩;refine JpM (pos:=pos) YO (zU (kL (i:=i) (pos:=p1) DJ (by rw[C.hN];exact hi) h1 h2) (zU (kL (i:=j) (pos:=p2) DJ (by rw[C.hN];exact hj) h3 h4) JmS)) rfl rfl Y s Z H v u Q I r ?_;unfold kA at f;rw[if_neg 'p']at f;cases d with
 |tup J=>
  dsimp only at f;rw[if_neg 'p']at f;split at f
  ·rename_i hd;cases f;obtain⟨a,xs,rfl,hq,hr⟩:=rd;match J,hd with
   |[d0,d1],_=>obtain⟨x0,r0,e0,k0,B,r1,e1,k1,e2⟩:=hr;subst e1;subst e2;subst e0;exact⟨a,[x0,B],rfl,SqT.same hid_same hq,rfl,x0,[B],rfl,B,[],rfl,rfl,h _ ((e.put F k0).put q (by rw[xB F];exact k1)) (by rw[show yB [i,j] ([d0,d1].map So) O=(O.set i (So d0)).set j (So d1)from rfl,xB q,xB F])⟩
  ·cases f
 |_=>cases f
theorem JjJ{u:Sx}{ts:Aj}{nt:Nat}{D:Ends}{J:FX}{J9:It}(e:OU)(s1:bW)
  (wk:∀I W,Chg D3 BF H1 I W->Ows I W->(∀i,i<Ac->J9.go i W)/\J9.stop Ac W/\∀i x H'',i<Ac->J9.yld i W x H''->Same W H''/\∃d,J[i]? =So d/\Rep X.K (hid I H'') d x)
  (h:(forL ts nt QaQ J O).Good Uv Hk):
  ∃W9:Nat->Nat->L2.St->Hp->Prop,(∃m,W9 0 m Z H1)/\∀i m Z H,W9 i m Z H->(J9.stop i H/\D.nx Z H)\/(J9.go i H/\∃Nn:L2.St->Hp->Prop,(∀σ' W,Nn σ' W->∃m',m'<m/\W9 BQ m' σ' W)/\
   ∀x W,J9.yld i H x W->gS X M H0 ts nt x Z W λC H2=>tS X U M H0 u {D with nx:=Nn,ct:=Nn,bk:=D.nx} C H2):=by
 refine⟨λi m σ' W=>∃B,EnvOk X.K M H0 W σ' B/\Chg D3 BF H1 (Ow M B σ') W/\i<=Ac/\m=Ac-i/\(forL ts nt QaQ eN B).Good Uv Hk,
  ⟨Ac,O,e,Chg.of MA,yC _,rfl,by simpa using h⟩,?_⟩
 rintro i m σ' W⟨B,e',c',hi,rfl,F⟩;obtain⟨w1,w2,w3⟩:=wk _ W c' e'.ows;have cH:∀{I:A7}{Hz:Hp},Chg D3 BF H1 I Hz->Chg D3 BF H I Hz:=λz=>((Chg.of (m:=Fo) s1).trans z).weak λq=>by rw[q];rfl
 by_cases hlt:i<Ac
 ·refine .inr ⟨w1 i hlt,λC H2=>∃m',m'<Ac-i/\∃B,EnvOk X.K M H0 H2 C B/\Chg D3 BF H1 (Ow M B C) H2/\i+1<=Ac/\m'=Ac- BQ/\(forL ts nt QaQ Ib B).Good Uv Hk,λC H2 q=>q,λx H2 hy=>?_⟩;obtain⟨s2,d,hd,rd⟩:=w3 i x H2 hlt hy;rw[xV hd]at F;simp only[forL]at F;replace F:=Rs.gB.mp F;cases hb:kA nt d with
  |sk=>rw[hb]at F;exact F.elim
  |ex c=>exact(mV hb).elim
  |ok new=>
   rw[hb]at F;refine⟨B,d,new,e'.grow s2,rd,hb,λσ3 e3 ow3=>⟨yB ts new B,e3,(Rs.gB.mp F).imp λr hr=>?_⟩⟩;have c2:Chg D3 BF H1 (Ow M B σ') H2:=(c'.trans (n:=Fo) (Chg.of s2)).weak λq=>by rw[q];rfl
   have cc:∀{I:A7}{Hz:Hp},Chg D3 (Ow M (yB ts new B) σ3) H2 I Hz->Chg D3 BF H1 I Hz:=λz=>by rw[ow3]at z;exact(c2.trans z).weak λq=>by rw[q];rfl
   obtain⟨f,env4⟩:=r;cases f with
   |nx=>exactλσ4 H4 e4 c4=>⟨_,by lia,env4,e4,cc c4,by lia,rfl,hr⟩
   |ct=>exactλσ4 H4 e4 c4=>⟨_,by lia,env4,e4,cc c4,by lia,rfl,hr⟩
   |bk=>exactλσ4 H4 e4 c4=>hr σ4 H4 e4 (cH (cc c4))
   |rt d=>exact hr
 ·have he:i=Ac:=by lia
  subst he;rw[mR]at F;exact .inl ⟨w2,F σ' W e' (cH c')⟩
variable{iter:Expr}{body:BI}{src:Px}{sb:Sx}{ts:Aj}{nt:Nat}
def JpL(C:Al)(hp:K7)(hi:QF)(hg:Uk)(hb:Q4)(r:sepP M src=To)
  (hs:∀x,foldedSetIterable iter Se x=pure x):PS X Rv (tS X U M H0 (.loop Fo ts nt src sb)):=by
 refine PS.weak (lT hp YO (Jui hi) hg hb hs) λD Z H⟨O,e,h⟩=>L4;rw[Jw U O r];refine(Rs.gB.mp h).mono (λd B=>?_) λc z=>z.mono Z6;cases d with
 |lst J=>simp only[Pu.D.asL,Rs.bo,rC,Zo,ZN]at B;refine⟨J,rfl,λJ9 W s1 kk w ok=>JjJ (U:=U) (e.grow s1) s1 (λL' u q ow=>?_) B⟩;have I:Same eO (hid L' u):=q.1.hid;obtain⟨a1,a2,a3⟩:=w u (I.trans hid_same);refine⟨a1,a2,λi x f hi hy=>⟨(a3 i x f hi hy).1,?_⟩⟩;have F:=ok L' i u x f ow hy;exact((w _ I).2.2 i x _ hi F).2
 |_=>exact B.elim
def Jrq(C:Al)(hp:K7)(hi:QF)(hg:Uk)(hb:Q4)
  (hs:∀x,foldedSetIterable iter Se x=pure x):PS X Rv (tS X U M H0 (.loop To ts nt src sb)):=by
 refine PS.weak (lT hp YO hi hg hb hs) λD Z H⟨O,e,h⟩=>Gk;refine(Rs.gB.mp h).mono (λd f=>?_) λc z=>z.mono aD;cases d with
 |lst J=>
  simp only[Pu.D.asL,Rs.bo,lM]at f;split at f
  ·exact f.elim
  ·rename_i F;simp only[kC,not_or,lR,kB,Bool.not_eq_false]at F;refine⟨J,rfl,λJ9 W s1 w ok=>JjJ (U:=U) (e.grow s1) s1 (λL' Hz q ow=>?_) f⟩;obtain⟨a1,a2,a3⟩:=w Hz (q.2 F.1);refine⟨a1,a2,λi x u hi hy=>?_⟩;obtain⟨I,d,f,r⟩:=a3 i x u hi hy;have B:Ows L' u:=λa ha=>let⟨o,h1,h2⟩:=ow a ha;⟨o,I _ _ h1,h2⟩;exact⟨I,d,f,Rep.tups B.tup d (JiO F.2 f) r⟩
 |_=>exact f.elim
end
def spI(K:Ak)(mg:Bf)(U:Ae)(fi:Nat):Sp:=λf H Q E=>∃J,Reps K H J f/\(U fi J).Good (λd=>∀v W,Same H W->Rep K W d v->Q v W) (λc=>∀C W,mg c=So AV->Same H W->E AV No W)
theorem Room.out(r:Room k A.in1.in1):Room k A:=⟨r.hd,r.dp,by have:=r.un;simp only[Around.in1]at this;lia⟩
inductive Calleee(G:Gw)(call:Ae)(fi:Nat)(x:Str):Prop where
 |mk (kk:Nat) (f:Addr) (fd:FuncData) (ps:List Str) (h:FnOk G.prog G.w G.K G.mg G.base (CXr G.prog G.w) kk f fd ps (spI G.K G.mg call fi)/\Room kk G.A.in1.in1/\G.mg x=So (.ref f)/\PySem.W.keepIn G.K (.ref f)=To/\Binds G.K fd ps []):Calleee G call fi x
structure Callee(G:Gw)(U:Ae)(fi:Nat)(x:Str):Prop where
 ex:Calleee G U fi x
section
variable{U:Ae}{es:CY}{fi:Nat}
def Jte(C:Al)(hc:M6)(hg:gloB nm x=To)(B:FE)(ha:Dy)(he:Cj)
  (hpl:Dg):PE X Ud P6:=by
 obtain⟨kk,f,fd,ps,F,q,hm,hk,hb⟩:=hc.ex;have q:=Room.out q;have hG:=C.g;subst hG;have hp:zV Ik X (λcls _ W=>∀C,cls=.ref C->XE X C W):=λY Z H s e s' I hc=>by obtain⟨a,C,W,rfl,F,hE⟩:=pL I hc;exact hE C rfl a s' F
 refine PE.weak (qU F q IV hm hk hb .nil hp ha B he hpl) λZ H Q⟨O,r,h⟩=>Dp;refine(Rs.gB.mp h).imp λd u=>?_;cases d with
 |lst J=>simp only[D.asL,Rs.bo]at u;refine RC;show spI X.K X.mg U fi (vs++[]) W Q _;rw[zD];exact⟨J,rs,u.mono (λd o v H2 s2 rv=>o v H2 Dt rv) λc z C H2 hm2 s2 C' e=>by cases e;exact z C H2 hm2 Dt⟩
 |_=>exact u.elim
end
def Jgm{d:D}(h:(JG n J)[i]? =So BB):J[i]? =So d:=by
 unfold JG at h;by_cases f:i<Ac
 ·rw[xF (by simpa using f),jD]at h;cases q:J[i]? with
  |none=>rw[q]at h;cases h
  |some r=>rw[q]at h;cases h;rfl
 ·rw[yF (by simpa using f),qM]at h;split at h<;>cases h
section
variable{mg:Bf}{base:Heap}{defs:B4}{fi:Nat}{d:DefD}
theorem oP{vs:Aw}(hs:d.slots=Yv)(hl:Ac<=Yv)(I:∀i∈M,Ac<=i)(r:Reps K H J vs):EnvOk K M H H Kh DV:=by
 have l:=Yx;have get:∀(i:Nat)(f:D),(JG Y6 J)[i]? =So (So f)->∃v,(L2.jC N vs)[i]? =So Bi/\Rep K H f v:=λi f h=>by have h':=Jgm h;obtain⟨v,B,F⟩:=r.get h';refine⟨v,?_,F⟩;have u:i<AQ:=(ZB.mp B).1;unfold L2.jC;rw[xF (by simpa using u),jD,B];rfl
 have no:∀(i:Nat)(f:D),i∈M->(JG Y6 J)[i]? =So (So f)->False:=λi f u h=>by have h':=Jgm h;have:=(ZB.mp h').1;have:=I i u;lia
 have C:Ow M DV Kh=[]:=by
  cases q:Ow M DV (L2.jC N vs)with
  |nil=>rfl
  |cons b t=>obtain⟨i,u,f,B,_⟩:=mem_Ow.mp (show b∈Ow M DV Kh by rw[q];simp);exact(no i f u B).elim
 refine⟨Same.refl H,?_,λi f _ h=>by rw[C,vB];exact get i f h,λi f u h=>(no i f u h).elim,λi j l U d2 u _ _ h=>(no i U u h).elim⟩;unfold L2.jC JG;rw[Zi,Zi,Zj,Zj,nJ,nJ,hs,l]
structure HX(X:Cx)(nm:Bd):Prop where
 sc:X.env.scope.names=nm
 pass:PassesOwn Av X.A Se X.xe
 stk:X.stack=Se::X.outer
 frm:X.env.frame=So AB
 ex:X.ex=[]
theorem JuG{qual:Str}{f:Addr}{fd:A6}{ps:Ag}(F:Ef)(S:LL)(hd:defs[fi]? =So d)(hs:d.slots=Yv)(hp:d.params=Ar)(hM:∀i∈M,Ar<=i)(hpN:Ar<=Yv)
  (B:∀(X:Cx)(A:Bg)(H0:Hp),Ctx X An N 'ū'.names->Room j A->HX X 'ū'.names->PSs X Dh (tS X B1 M H0 YF)):
  FnOk P w K mg base Ci (j+1) f fd ps OH:=by
 have U:∀J,runD defs A1 fi J=if Ac=aK then Jd (exD B1 YF DV)else .sk:=λJ=>by
  simp only[runD,hd]
 obtain⟨oc,od,kV,doc,pm,an,cdv,ct,osl,rfl,lk,hcd⟩:=F.ex
 refine sN lk hcd S (λvs H Q E h=>?_) (λA I s H vs Q E hr h=>?_)
 ·obtain⟨J,r,g⟩:=h
  rw[U]at g
  split at g
  ·rename_i q
   rw[r.length,q,hp]
  ·exact g.elim
 ·obtain⟨J,r,g⟩:=h
  rw[U]at g
  split at g
  ·rename_i q
   have C:Ctx (cxOf Ci P w K mg base N qual B9 f cdv A I s H E) ⟨P,w,K,mg,base,A.deeper IC⟩ N 'ū'.names:={
    g:=rfl
    hN:=rfl
    nd:=S.nd
    vis:=λy u=>by
     show Vis B9 y
     unfold visB at u
     split at u
     ·rename_i z;exact .inl z
     ·rename_i z;exact .inr FQ
     ·rename_i z;exact .inr G8
     ·cases u
    cel:=λy u=>by
     show(Ja st).names.lookup y=So .cell\/(Ja st).names.lookup y=So .free
     unfold celB at u
     split at u
     ·rename_i z;exact .inl z
     ·rename_i z;exact .inr z
     ·cases u
    glo:=λy u=>by
     show(Ja st).names.lookup y=So .globalImplicit
     unfold gloB at u
     split at u
     ·rename_i z;exact z
     ·cases u
    sto:=λy u=>by
     show Loc B9 y/\(To=To\/_)
     unfold locB at u
     split at u
     ·rename_i z;exact TU
     ·rename_i z;exact TQ
     ·cases u
    calm:=rfl
    un:=hr.units
    fr:=T7}
   refine⟨_,B _ _ H C hr NT,JG Y6 J,oP hs Ad (λi hi=>by have:=hM i hi;lia) r,?_⟩
   cases q2:exD B1 YF DV with
   |ok r2=>
    rw[q2]at g
    obtain⟨fl,env2⟩:=r2
    cases fl with
    |nx=>exactλσ' W e' _=>g .non W e'.same rfl
    |rt dd=>exactλv W s' r'=>g v W s' r'
    |bk=>exact g.elim
    |ct=>exact g.elim
   |ex c=>
    rw[q2]at g
    exactλC2 H2 hm s2 a s' F=>yU F QbD
   |sk=>rw[q2]at g;exact g.elim
  ·exact g.elim
def Jnq{f:Addr}{fd:A6}{ps:Ag}:FnOk P w K mg base Ci 0 f fd ps RJ:=
 ⟨λu H Q E⟨_,_,h⟩=>bU,λA q s H r B u Q E _ _ _ _⟨_,_,h⟩=>bU⟩
end
section
variable{U:Ae}
open PySem.AutoSeq1 in
def Jkt(t:Bool)(l:Addr)(items:Cf)(n:Nat)(b:Addr)(f:Cf)(hs0:¬(!items.isEmpty&&Builtin.List.listTooLong (Ay+f.size))=To)(r:Ay<=sizeLine)(C:Ay+f.size<=sizeLine+1):
  Meets (Builtin.«list.extend» Qh) (λ_ R s=>s.heap.get? l=So {cls:=.type "list",dict:=No,data:=.seq items n,slots:=#[]}/\(∃F I sl,s.heap.get? b=So {cls:=.type (if t then "tuple" else "list"),dict:=F,data:=.seq f I,slots:=sl})/\R (.ok (.ret Ys)) {s with heap:=s.heap.update l (Obj.mapSeq λx=>x++f),toks:=Yp}):=
 .of_wp λprog w A R s h=>by
  obtain⟨hp,g,d,tk,os⟩:=s;obtain⟨B,⟨F,I,sl,u⟩,h⟩:=h;have f1:=QcB;have f2:=fG;have f3:=fX;have f4:=fU;have f5:=fV
  have q:(items++f).size<=sizeLine+1:=by rw[Array.size_append];exact C
  cases t with
  |true=>
   simp only[if_true]at u
   wp_walk using(qJ B rfl (hz:=r) (_hz':=q)),TR B,TR u;exact Lx
  |false=>
   simp only[Zo,ZN]at u
   wp_walk using(qJ B rfl (hz:=r) (_hz':=q)),TR B,TR u;exact Lx
def rExtS (K:Ak):V->List V->Hp->VK->Prop:=λx q H Q=>∃l b xs f,x=.ref l/\q=[.ref b]/\H l=So AH/\(SqL K H b f\/SqT K H b f)/\xs.length+f.length<=sizeLine/\Q .non (upd H l (.lst (xs++f)))
theorem Jtl:MtM X "list.extend" (rExtS X.K):=by
 intro Y s Z H x vs v us Q I rx rv h;obtain⟨l,b,xs,zs,rfl,rfl,hH,hB,hz,q⟩:=h;cases rx;obtain⟨u,rfl,ru⟩:=rv.one;cases ru;obtain⟨z,its,n,r,hl,e⟩:=I.lstM hH;obtain⟨t,its2,B,hb⟩:∃(t:Bool)(its2:AF),Vals zs its2/\∃C n2 sl,s.heap.get? b=So {cls:=.type (if t then "tuple" else "list"),dict:=C,data:=.seq its2.toArray n2,slots:=sl}:=by
  rcases hB with h|h
  ·obtain⟨its2,B,⟨o,n2,e2,c2,d2,k2⟩,_⟩:=I.list h;obtain⟨c,C,da,sl⟩:=o;simp only at c2 k2;subst c2;subst k2;exact⟨Fo,its2,B,C,n2,sl,e2⟩
  ·obtain⟨its2,B,⟨o,e2,c2,n2,k2⟩,_⟩:=I.tuple h;obtain⟨c,C,da,sl⟩:=o;simp only at c2 k2;subst c2;subst k2;exact⟨To,its2,B,C,n2,sl,e2⟩
 have hl2:=B.length;have hsz:Dr+Fc<=sizeLine:=by rw[Zn,Zn];lia
 have f:¬(!its.toArray.isEmpty&&Builtin.List.listTooLong (Dr+Fc))=To:=by rw[Jjd hsz,oJ];exact ZE
 refine xA F.slot_list_extend Gi F.entry_list_extend (F.args_list_extend_2 _ _)
  (Jkt t l AA n b its2.toArray f (by rw[Zn];lia) Ad) ⟨e,hb,?_⟩
 refine⟨.non,_,I.lset (its':=its++its2) hH e Af (r.append B) ?_,rfl,q⟩;rw[Zi];lia
def Jof  (hM:Qco) {D:Ends}   (h:tS X U M H0 (.ext m i p) D Z H) :
  ∃ O l xs,EnvOk X.K M H0 H Z O /\ Z[i]? = So C9 /\ H l = So AH /\ 'Ơ'.Good (λd=>∃ es,d = .lst es /\ (m = To -> imms es = To) /\ ∀ r H1,Same H H1 -> Reps X.K IW es r -> ∃ ys,H1 l = So KA /\ BU + r.length <= sizeLine /\ D.nx Z (upd H1 l (.lst (ys ++ r)))) Hk:=by
 obtain ⟨O,e,h⟩:=h;simp only [exD] at h;cases q:O[i]? with
 | none=>rw [q] at h; exact h.elim
 | some o=>
  rw [q] at h;cases o with
  | none=>exact h.elim
  | some d=>
   cases d with
   | lst J=>
    obtain ⟨l,u,h0,xs,hl,I⟩:=e.own i _ hM q;refine ⟨O,l,xs,e,u,hl,'Ĥ'.imp λd f=>?_⟩;cases d with
    | lst es=>
     simp only [Pu.D.asL,Rs.bo] at f;split at f
     ·exact f.elim
     ·rename_i C;simp only [kC,not_or,lR,Bool.and_eq_false_iff] at C;have F:Ac + es.length <= lineD:=by simpa using C.2
      refine ⟨es,rfl,λhm=>?_,λr H1 B r1=>⟨xs,B _ _ hl,by rw [I.length,r1.length,ZG]; exact F,?_⟩⟩
      ·rcases C.1 with z | z
       ·rw [hm] at z; cases z
       ·simpa using z
      ·obtain ⟨e2,f2⟩:=(e.grow B).change (d':=.lst (J ++ es)) (o:=.lst (xs ++ r)) hM q u ⟨_,Je,(I.mono (Fz.sm B).hid).append r1⟩;exact f Z _ e2 ⟨(Fz.sm B).trans f2,λz=>by cases z⟩
    | _=>exact f.elim
   | _=>exact h.elim
def Jua  (C:Al) (hi:N[i]? = So x) (hx:J5) (hd1:FE) (hd2:Fd) (hM:Qco) (hsp:BW) (he:B6)
  (hl:CF) {q:Pos} (hs:K5):PS X (.Expr Xn q) Vw:=by
 refine PS.weak (oO (nN xW PySem.F.slot_list_extend PySem.F.type_list_extend Jtl (iC (by rw [C.hN]; exact hi) (C.vis x hx) hd1 hd2) (JE (oE he) rA hs) rfl (by rw [hs]; rfl) hl hs rfl) rfl) λD Z H h=>?_;obtain ⟨O,l,xs,e,hσ,hl,g⟩:=Jof hM h;simp only [evD,Rs.bind_assoc] at g;refine ⟨.ref l,hσ,.inl ⟨rfl,xs,SqL.of hl⟩,Jv M 0 O,Ow M O Z,e.ows,b7,?_⟩;rw [Jw U O hsp];refine (Rs.gB.mp g).mono (λd f v H1 s1 kk r1=>?_) λc z=>z.mono Z6;simp only [tNil];cases d with
 | tup es=>obtain ⟨es',I,_,f⟩:=f;cases I;obtain ⟨b,r,rfl,B,q2⟩:=r1;obtain ⟨ys,u,F,g3⟩:=f r H1 s1 q2;exact ⟨l,b,ys,r,rfl,rfl,u,.inr (SqT.same hid_same B),F,g3⟩
 | lst es=>obtain ⟨es',I,_,f⟩:=f;cases I;obtain ⟨b,r,rfl,B,q2⟩:=r1;obtain ⟨ys,u,F,g3⟩:=f r H1 s1 q2;exact ⟨l,b,ys,r,rfl,rfl,u,.inl (hid_same.seq B),F,g3⟩
 | _=>exact (show False from f).elim
end
noncomputable def vK:D->String
 |.non=>"NoneType"
 |.bl _=>"bool"
 |.int _=>"int"
 |.str _=>"str"
 |.tup _=>"tuple"
 |.lst _=>"list"
 |_=>""
def Joc{Q:Az}{c:Am}{k:Bool}{d:D}{x:V}{u:Am}(I:BM)(r:Rep X.K H d x)(f:RelV x u)(U:vK d≠"")
  (e:PySem.W.kitOne X.K Qcb c=So k) (h:∀tk,Q (.bool k) {s with toks:=tk}):wpAny Av A (PySem.call Ui [u,c]) Q E s:=by
 cases d with
 |non=>cases r;cases(show u=Ys from f);exact pH PySem.W.kitx_none Y8 jA e (λz=>nomatch z) h
 |bl y=>cases r;cases(show u=Value.bool y from f);exact pH PySem.W.kitx_bool Y8 jA e (λz=>nomatch z) h
 |int i=>cases r;obtain⟨t,rfl⟩:=f;exact pH PySem.W.kitx_int Y8 jA e (λz=>nomatch z) h
 |str y=>cases r;obtain⟨t,rfl⟩:=f;exact pH PySem.W.kitx_str Y8 jA e (λz=>nomatch z) h
 |tup J=>obtain⟨a,xs,rfl,q,_⟩:=r;cases(show u=Value.ref a from f);obtain⟨C,_,p,_⟩:=I.tuple q;obtain⟨o,B,F,_⟩:=p;exact pH PySem.W.kitx_tuple Y8 ⟨o,B,F⟩ e (λz=>nomatch z) h
 |lst J=>obtain⟨a,xs,rfl,q,_⟩:=r;cases(show u=Value.ref a from f);obtain⟨C,_,p,_⟩:=I.list q;obtain⟨o,B,F,_⟩:=Z4;exact pH PySem.W.kitx_list Y8 ⟨o,B,F⟩ e (λz=>nomatch z) h
 |_=>exact absurd rfl U
example (K:Ak):PySem.W.kitOne K (.type "str") R7=So Fo:=by
 first|rfl|decide|(unfold PySem.W.kitOne PySem.W.kitCls;simp)
def JjL(h:E5):∀k:Nat,Reps K H (List.replicate k J).flatten 'ϖ'.flatten
 |0=>rfl
 |k+1=>by
  rw[mG,mG,wJ,wJ]
  exact h.append (JjL h k)
section
variable{U:Ae}{a:Expr}
def yS(o:O1)(T:A9):Prop:=∀(K:Ak)(d:D),(vK d≠""/\∃k,PySem.W.kitOne K Qcb EY=So k/\op1 o d=.ok (.bl k))\/op1 o d=.sk
def JkI:yS .isStr "str":=λK d=>by cases d<;>first|exact .inl ⟨by simp[vK],_,by rfl,by rfl⟩|exact .inr rfl
def JsN:yS .isTup "tuple":=λK d=>by cases d<;>first|exact .inl ⟨by simp[vK],_,by rfl,by rfl⟩|exact .inr rfl
def Juc{T:A9}(hi:yS o T):pA X Ui (λxs H Q=>∃x d,xs=[x,.ty T]/\Rep X.K H d x/\(op1 o d).Good BH Bz):=by
 rintro Y s Z H xs us Q I rv⟨x,d,e,r,h⟩;subst e;obtain⟨u1,f,rfl,u,B⟩:=kY rv;cases(show f=Value.type T from B);rcases hi X.K d with⟨C,k,e1,F⟩|e;rotate_left
 ·rw[e]at h;exact h.elim
 rw[F]at h;exact Joc I r u C e1 λtk=>⟨.bl k,H,I.kept (t':=tk) (λ_ _ q=>q),rfl,Out.now h rfl⟩
def cIsi{T:A9}(hi:yS o T)(C:Al)(hm:G.mg "isinstance"=No)(hy:G.mg y=No)(hv:bootBuiltins y=So EY)(ha:AJ)(hg:gloB nm "isinstance"=To)(f:gloB nm y=To)(I:y≠"__name__")(u:(y==Ye)=Fo)
  (F:starEach [a,.Name y p2] Se=DN::starEach [.Name y p2] Se):PE X (.Call QN [a,.Name y p2] [] pos) TB:=by refine PE.weak (yO (Juc hi) Gg (by rw[C.mg];exact hm) cX (JE ha (JE (JlS (v:=.ty T) (C.glo _ f) (by rw[C.mg];exact hy) hv rfl I u) rA rfl) F) Ab Ab F rfl) λZ H Q B=>?_;obtain⟨O,r,h⟩:=B;refine⟨O,r,'Ĥ'.imp λd hd v W s rv=>?_⟩;exact⟨v,d,rfl,rv,hd.mono TC λ_ q=>q.mono s⟩
def oN{a:Addr}(f:ModT K y a){its:AF}{sl:Ff}(v:K.lookup a=So ⟨.type "tuple",No,.seq AA n,sl⟩)(hz:its.length<=1000)(r:K0)(rs:∀H,Reps K H J xs)(H:Hp):Rep K H G9 AE:=
 ⟨a,xs,rfl,.inr ⟨y,_,AA,n,f,v,rfl,rfl,rfl,xI (Zy (by simpa using hz) Ax),by simpa using r⟩,rs H⟩
end
noncomputable def yG (es:List (Int×Value)):List Str:=es.map λe=>strOf e.2
def TS(prog:Bk)(w:Bc)(lb:Bool)(h:Heap)(a:Addr)(ks:Ag):Prop:=
 ∃o es ep t,(h.get? a=So o/\o.ExactSet/\o.data=.set es ep t)/\ElemsOf 'Ğ' Z7/\(t.fits Yq=To/\es.size<scanBound)/\t.led=lb/\(es.size≠0->t.plain=Fo)/\(yG Z7).Perm ks/\ks.Nodup
def TS.stay(x:QaE)(k:∀o,h.get? a=So o->h'.get? a=So o):TS prog w lb h' a ks:=
 let⟨o,es,ep,t,⟨e,f⟩,q⟩:=x
 ⟨o,es,ep,t,⟨k o e,f⟩,q⟩
def TS.there(x:QaE):∃o,h.get? a=So o:=let⟨o,_,_,_,⟨e,_⟩,_⟩:=x;⟨o,e⟩
def Jmf(t:EG)(n:Nat):(t.orStandIn n).led=t.led:=by unfold SetTable.orStandIn;split<;>rfl
def JtA(t:EG)(es:Lg)(h:Int)(x:Am):(layNew t es h x).2.1.led=t.led:=by
 unfold layNew;split
 ·exact Jmf ..
 ·rfl
def Jnn(t:EG)(es:Lg)(n:Nat):(relayAll t es n).2.1.led=t.led/\(t.plain=Fo->(relayAll t es n).2.1.plain=Fo):=by
 unfold relayAll;split
 ·rename_i r f q;have e:r.led=t.led/\r.plain=t.plain:=by
   unfold SetTable.relaid SetTable.laid at q;cases u:SetTable.layClean (SetTable.sizeAbove n-1) (es.map (·.1))with
   |none=>rw[u]at q;cases q
   |some B=>rw[u]at q;cases q;exact CU
  dsimp only;split
  ·exact⟨e.1,λz=>e.2.trans z⟩
  ·exact Og
 ·exact Og
def oZ{k:Str}{v:Am}(h:'Ğ'.is k v=To):∃t,v=.str k t:=Value.isStrOf_shape h
def JvA{es:List (Int×Value)}(h:ElemsOf 'Ğ' es)(k:Str):k∈yG es↔∃e∈es,'Ğ'.is k e.2=To:=by
 unfold yG;rw[Zz];constructor
 ·rintro⟨e,r,rfl⟩;obtain⟨⟨u,f,_⟩,_⟩:=h e r;obtain⟨t,q⟩:=oZ f;refine⟨e,r,?_⟩;rw[q]at f⊢;exact f
 ·rintro⟨e,r,f⟩;obtain⟨t,q⟩:=oZ f;exact⟨e,r,by rw[q];rfl⟩
def JiT{o:Obj}{f:Lg}{t t':EG}(ho:s.heap.get? a=So o)(I:o.ExactSet)(r:o.data=.set es ep t)
  (h1:ElemsOf 'Ğ' f.toList) (h2:t'.fits f.size=To) (B:f.size<scanBound) (U:t'.led=lb) (C:t'.plain=Fo) (F:(yG f.toList).Perm ks) (u:ks.Nodup):
  TS prog w lb '亀' a ks/\(s.heap.update a Uy).get? a=So {o with data:=.set f (ep+1) t'}:=by
 have g:'亀'.get? a=So {o with data:=.set f (ep+1) t'}:=by have q:=ZY Uy ho (by rw[putSet_of f t' r];rfl);rwa[putSet_of f t' r]at q
 exact⟨⟨_,f,ep+1,t',⟨g,I,rfl⟩,h1,⟨h2,B⟩,U,λ_=>C,F,u⟩,g⟩
def JkW{b:Bool}{Q:Ej}(h:Q () s):wpAny As A (match b with|true=>rule "set.scan.the-table-gave-way"|false=>pure ()) Q E s:=by
 cases b
 ·exact Zb h
 ·exact xC h
theorem Jwq{tk:Tok}{Q:Bool->Shared->Prop}(hS:TS prog w lb WL a ks)(hb:Bh+1<scanBound)
  (h:∀b h',Heap.SameBut a WL h'->TS prog w lb h' a (if x∈ks then ks else ks++[x])->Q b {s with heap:=h'}):wpAny As A (setAddHashed a Gc (hashStr w x)) Q E s:=by
 obtain⟨o,es,ep,t,⟨ho,hx,hd⟩,f,⟨hf,hz⟩,hl,hp,hk,hn⟩:=hS;have hlen:es.size=Bh:=by have:=hk.length_eq;simpa[yG]using this
 have F:'Ğ'.is x Gc=To:=by simp[PySem.strKind,Value.isStrOf]
 have I:x∈ks↔∃e∈es.toList,'Ğ'.is x e.2=To:=(hk.mem_iff).symm.trans (JvA f x);have hh:hashStr w x='Ğ'.hash x:=rfl;rw[hh];unfold setAddHashed setAddHashedIn;refine jB (Za (vJ ho hd hf ?_));dsimp only;rw[byScan_of rfl hz f];simp only[if_true];unfold setAddByScan;refine Za (Za (xC (Za (wpAny_setScan_of F ho hd hf f ?_))));cases hr:List.findIdx? (λe=>'Ğ'.is x e.2) Z7 with
 |some j=>dsimp only;obtain⟨hj,hpj,_⟩:=List.findIdx?_eq_some_iff_getElem.mp hr;have B:x∈ks:=I.mpr ⟨_,List.getElem_mem hj,hpj⟩;refine Zb (Zb ?_);have q:=h Fo WL (Heap.SameBut.refl a WL) (by rw[if_pos B];exact⟨o,es,ep,t,⟨ho,hx,hd⟩,f,⟨hf,hz⟩,hl,hp,hk,hn⟩);cases s;exact q
 |none=>
  dsimp only;have B:¬x∈ks:=λz=>by obtain⟨e,he,hp⟩:=I.mp z;have:=List.findIdx?_eq_none_iff.mp hr e he;rw[hp]at this;cases this
  rw[if_neg B]at h;have a1:=layNew_perm t es ('Ğ'.hash x) Gc;have a2:=layNew_fits t es ('Ğ'.hash x) Gc;have a3:=JtA t es ('Ğ'.hash x) Gc;generalize layNew t es ('Ğ'.hash x) Gc=L at a1 a2 a3⊢;obtain⟨es1,t1,wd,gv⟩:=L;dsimp only at a1 a2 a3⊢;rw[Array.toList_push]at a1;have b1:ElemsOf 'Ğ' es1.toList:=(f.push F rfl).perm a1;have b2:(yG es1.toList).Perm (ks++[x]):=by have c1:=a1.map λe:Int×Value=>strOf e.2;rw[uA]at c1;exact c1.trans (hk.append_right [x])
  have b3:(ks++[x]).Nodup:=by rw[oR];refine⟨hn,by simp,λu hu v hv e=>?_⟩;rw[ZZ]at hv;subst hv e;exact B hu
  have b4:es1.size<scanBound:=by have:=b2.length_eq;simp only[yG,Zj,ZU,Zi,ZQ]at this;lia
  refine Za (JkW ?_);have C:∀t2:SetTable,t2.led=lb->t2.plain=Fo->t2.fits es1.size=To->wpAny As A (do
    storeSet a es1 t2;if(!wd&&t2.tooFull)=To then do
      (match(relayAll t2 es1 Gn).2.2 with|true=>rule "set.scan.the-table-gave-way"|false=>pure ());storeSet a (relayAll t2 es1 Gn).1 (relayAll t2 es1 Gn).2.1;pure (So To)
     else pure (So To)) (λr s'=>wpAny As A (match r with
      |some U=>pure U
      |none=>setAddHashedIn a Gc ('Ğ'.hash x) 99999) Q E s') E s:=by
   intro t2 c1 c2 c3;refine Za (wpAny_storeSet_of ho hd ?_ (fits_of_scanBound b4));obtain⟨T1,g1⟩:=JiT (s:=s) ho hx hd b1 c3 b4 c1 c2 b2 b3;have u1:=tE WL a (Obj.putSet es1 t2);split
   ·have d1:=relayAll_perm t2 es1 Gn
    have d2:=relayAll_fits t2 es1 Gn;have d3:=Jnn t2 es1 Gn;generalize relayAll t2 es1 Gn=R at d1 d2 d3⊢;obtain⟨es2,t3,gv2⟩:=R;dsimp only at d1 d2 d3⊢;refine Za (JkW ?_);have z2:es2.size=es1.size:=by simpa using d1.length_eq
    refine Za (wpAny_storeSet_of g1 rfl ?_ (fits_of_scanBound (by rw[z2];exact b4)));obtain⟨T2,_⟩:=JiT (s:={s with heap:=s.heap.update a (Obj.putSet es1 t2)}) g1 hx rfl (b1.perm d1) d2 (by rw[z2];exact b4) (d3.1.trans c1) (d3.2 c2) ((d1.map _).trans b2) b3;exact Zb (Zb (h To _ (u1.trans (tE _ a _)) T2))
   ·exact Zb (Zb (h To _ u1 T1))
  split
  ·refine Za ?_;rw[hashByValue_scannable 8 (x:=.str x tk) rfl];refine Zb ?_;exact C _ Qdj rfl (SetTable.fits_plain_off a2)
  ·rename_i np;refine Za (Zb ?_);simp only[if_true];exact C _ Qdj (by simpa using np) a2
noncomputable def addS (ks:Ag) (x:Str):List Str:=if x∈ks then ks else ks++[x]
def metS (ws:Ag):List Str:=ws.foldl addS []
def Jnr(ws:Ag)(x:Str):metS (ws++[x])=addS 'ћ' x:=by unfold metS;rw[List.foldl_append];rfl
def JmT(val:Nat->Str)(i:Nat):metS ((List.range BQ).map val)=addS (metS ('ϡ'.map val)) Qaw:=by rw[List.range_succ,uA];exact Jnr _ _
def Jor(ws:Ag):∀(ks:Ag)(k:Str),k∈ws.foldl addS ks↔k∈ks\/k∈ws:=by
 induction ws with
 |nil=>intro ks k;simp
 |cons x ws f=>
  intro ks k;rw[zL,f];unfold addS;split
  ·rename_i h;constructor
   ·rintro(z|z)<;>simp[z]
   ·rintro(z|z)
    ·exact .inl z
    ·rcases Ze.mp z with rfl|z
     ·exact .inl h
     ·exact .inr z
  ·simp[or_assoc]
def JjD(ws:Ag)(k:Str):k∈metS ws↔k∈ws:=by rw[metS,Jor];simp
theorem JpA(ws:Ag):∀ks:List Str,'伇'.length<=Bh+Cw:=by
 induction ws with
 |nil=>intro ks;simp
 |cons x ws f=>
  intro ks;rw[zL];have:=f (addS ks x);have q:(addS ks x).length<=Bh+1:=by unfold addS;split<;>simp
  simp only[Zm];lia
def JfF(ws:Ag):'ћ'.length<=Cw:=by have:=JpA ws [];simpa[metS]using this
section
variable{I:Addr}{fp wr:A7}{G:Array GenState->Array GenState->Prop}{P:Nat->Value->Prop}{St:Nat->Shared->Prop}
theorem Jtu(W9:WalksS prog w YI I fp wr G n P St)(S:Addr)(hSf:S∉fp)(val:Nat->Str)(hval:∀i v,P i v->∃t,v=.str Qaw t)(B:n+1<scanBound):
  ∀(k i:Nat)(s:Ao),n-i=k->i<=n->St i s->TS prog w lb WL S (metS ('ϡ'.map val))->
   (∀f,Moved (S::wr) G s f->TS prog w lb f.heap S (metS ('ր'.map val))->R (.ok (.ret .none)) f)->codeAny As A (.builtin "set.update.loop" ⟨[.ref S,.ref I],[]⟩) R s:=by
 have q:S∉wr:=λh=>hSf (W9.sub _ h);have r:∀b∈wr,b∈S::wr:=λb B=>Zx _ B;intro k;induction k with
 |zero=>
  intro i s hk hi u hS hR;obtain rfl:i=n:=by lia
  refine vF fW ?_;rw[rH wW _];show wpAny _ YI (pyNext (.ref I)>>=_) _ _ s;refine Za (W9.done s _ _ u λf C=>?_);show wpAny _ YI (ret Ys) _ _ f;exact Zb (hR f (C.mono r) (hS.stay λo e=>C.heap S o q e))
 |succ k ih=>
  intro i s hk hi u hS hR;have hlt:i<n:=by lia
  refine vF fW ?_;rw[rH wW _];show wpAny _ YI (pyNext (.ref I)>>=_) _ _ s;refine Za (W9.item i s _ _ hlt u λv f hP hst' C=>?_);obtain⟨t,rfl⟩:=hval i v hP;have hS':=hS.stay λo e=>C.heap S o q e;show wpAny _ YI (holding [Value.str Qaw t] (setAdd S (.str Qaw t))>>=_) _ _ f;refine Za (jB ?_);unfold setAdd;refine jB (Za ('Ğ'.pyHash (k:=val i) (by simp[PySem.strKind,Value.isStrOf]) ?_));have room:(metS ('ϡ'.map val)).length+1<scanBound:=by have:=JfF ('ϡ'.map val);simp only[Zj,pR]at this;lia
  refine Jwq (s:={f with toks:=f.toks+1}) hS' room λ_ h' U hS2=>?_;have hSi:TS prog w lb h' S (metS ((List.range BQ).map val)):=by rw[JmT];exact hS2
  refine Zb ⟨oH wW _,ih BQ _ Ad hlt (W9.frame _ f _ _ hst' bM λb B o e=>?_) hSi λs'' hm'' hS''=>?_⟩
  ·rw[U.2 b (λh:b=S=>hSf (by rw[<-h];exact B))];exact e
  ·refine hR s'' (Moved.trans W9.gtrans ((C.mono r).then_heap bM λb o B e=>?_) hm'') hS'';rw[U.2 b (λh:b=S=>B (by rw[h];exact vM))];exact e
end
noncomputable abbrev byT (w:Bc):Bool:=w.params.followText "set-order"
noncomputable abbrev newS (w:Bc):Obj:={cls:=.type "set",dict:=No,data:=.set #[] 0 (.fresh 0 0 (!byT w))}
def Jrv(a:Am){Q:Az}(h:Q FF {s with heap:=s.heap.push (newS w)}):codeAny As A (.call (.builtin "set.__new__") Ue) (wants Q E) s:=by refine codeAny_of_tree ?_;show wpAny _ YI (do checkBuiltinCall "set.__new__" Ue;again (.builtin "set.__new__" Ue)) _ _ s;refine Za (wpAny_of_eq (F.newCall_set_1 a) (Zb ⟨oH F.plain_set_new _,vF F.entry_set_new ?_⟩));rw[rH F.plain_set_new _];unfold Builtin.«set.__new__» Builtin.Frozenset.newClass;have sub:=sub_set_self;obtain⟨r,g,d,q,f⟩:=s;dsimp only;wp_walk;refine sJ (Zb ?_);dsimp only;simp only[newObj];refine Za (wpAny_alloc (Zb (Zb h)))
def JlZ{ws:Ag}{Q:Az}(hh:BE)(hl:OW)(hi:StrsAre items.toList ws)(hb:Ay+1<scanBound)
  (h:∀(h':Heap)(tk:Nat),TS prog w (!byT w) h' Aa (metS ws)->(∀b o,b<Aa->s.heap.get? b=So o->h'.get? b=So o)->Q FF {s with heap:=h',toks:=tk}):
  wpAny As A (call Kg [.ref l]) Q E s:=by
 obtain⟨c,tl,hmro⟩:=F.called_set.mro;have hmade:=F.called_set.made;have hsub:=F.called_set.sub;refine jH (codeAny_of_tree ?_);show wpAny _ _ (callAny Kg _) _ _ _;refine Zb ⟨Code.quiet_builtin _ Ab,vF F.entry_type_call ?_⟩;rw[Around.under_plain (weight_type_call_type "set" [.ref l] []) rfl];have h1:=F.called_set.notType;have h2:=F.called_set.canCreate;have hct:=F.typeCall_set_1 BK;repeat(any_goals(first|assumption|wp_step))
 refine zC (Jrv BK (E:=E) (Q:=λobj C=>obj=.ref Aa/\C={s with heap:=s.heap.push (newS w)}) CU) λr C hr=>?_;cases r with
 |error e=>exact hr
 |ok fl=>
  cases fl with
  |ret obj=>
   obtain⟨rfl,rfl⟩:=hr;have hS:'ȝ'.get? Aa=So QcM:=Zf _ rfl;have hT:Shared.TypeIs {s with heap:=s.heap.push (newS w)} '&' "set":=⟨_,hS,rfl⟩;have hli:=F.called_set.init.lookup;have hbi:=F.called_set.init.bind FF;repeat(any_goals(first|assumption|wp_step))
   refine zC (uW (R:=wants (λr I=>r=.none/\∃h' tk,I={s with heap:=h',toks:=tk}/\TS prog w (!byT w) h' Aa (metS ws)/\
     (∀b o,b<Aa->s.heap.get? b=So o->h'.get? b=So o)) E) F.called_set.init.plain F.entry_set_init (check_set_init_1 hT ?_)) λr₂ I f=>?_
   ·obtain⟨ol,hol,hcl,nl,hdl⟩:=hl;obtain⟨ocls,odict,odata,u⟩:=ol;simp only at hcl hdl;subst hcl;subst hdl;have hol':'ȝ'.get? l=So {cls:=.type "list",dict:=odict,data:=.seq items nl,slots:=u}:=Zd _ hol;have hsls:=F.sub_list_set;have hslf:=F.sub_list_frozenset;have hne:(Value.type "list"==Value.type "dict")=Fo:=by decide
    have hl1:'ȝ'.IsList l items:=⟨_,hol',rfl,nl,rfl⟩;unfold Builtin.«set.__init__» noKeywords Builtin.Frozenset.updateFrom;generalize hPI:pyIter=PI;wp_walk;subst hPI;refine uM hl1 (Za (wpAny_runValue ?_));have hlS:l<Aa:=Zk hol;have hh3:A.in1.in1.in1.handled=No:=by simp[hh]
    have hneI:l≠(s.heap.push QcM).objs.size:=by rw[ZP];exact Zt (oB hlS)
    have hSf:Aa∉['ȝ'.objs.size,l]:=by rw[ZP];simp only[Ze,ZK,lA,not_or];exact⟨Zt aQ,sD hlS⟩
    have hlen:Ay=Cw:=by have:=hi.strs;rw[<-this];simp
    have hval:∀(i:Nat)(v:Am),items[i]? =So v->∃t,v=.str ((λi=>ws.getD i ⟨#[]⟩) i) t:=λi v hv=>by
     have hv':items.toList[i]? =So v:=by rw[xM];exact hv
     obtain⟨x,t,e⟩:=hi.all v (mJ hv');have q:=iA (λl:List Str=>l[i]?) hi.strs;simp only[jD,hv',rJ]at q;refine⟨t,?_⟩;rw[e]at q⊢;simp only[rM,<-q];rfl
    have hws:(List.range Ay).map (λi=>ws.getD i ⟨#[]⟩)=ws:=by rw[hlen];refine kR Af λi h1 h2=>?_;simp[rM,h2]
    refine Jtu (lb:=!byT w) ((Walks.list hh3 _ l hneI items).toS) Aa hSf (λi=>ws.getD i ⟨#[]⟩) hval hb (Ay-0) 0 _ Ad (yC _) ⟨El,(hl1.push _)⟩ ?hS0 ?hR;case hS0=>
     refine⟨newS w,#[],0,.fresh 0 0 (!byT w),⟨Zd _ hS,QbY,rfl⟩,λe he=>by simp at he,⟨rfl,by decide⟩,rfl,λz=>absurd rfl z,lQ _,List.nodup_nil⟩
    case hR=>
     intro s' hm B;rw[hws]at B;obtain⟨h',g',d',tk',os'⟩:=s';have eg:g'=s.gens:=hm.gens;have ed:d'=s.drawn:=hm.drawn;have eo:os'=s.os:=hm.os;subst eg;subst ed;subst eo;show wpAny _ _ _ _ _ _;refine Zb ?_;show wpAny _ _ (ret Ys) _ _ _;refine Zb ⟨rfl,h',tk',rfl,B,λb o hb e=>?_⟩;have hb1:b≠Aa:=Zt hb;have hb2:b≠(s.heap.push QcM).objs.size:=by rw[ZP];exact Zt (oB hb)
     exact hm.heap b o (by simp only[Ze,ZK,lA,not_or];exact⟨hb1,hb2⟩) (Zd _ D2)
   ·cases r₂ with
    |error e=>exact f
    |ok U=>
     cases U with
     |ret r=>
      obtain⟨rfl,h',tk,rfl,B,hk'⟩:=f;repeat(any_goals(first|assumption|wp_step))
      exact h _ _ B hk'
     |_=>exact f.elim
  |_=>exact hr.elim
def Jri:entryFor table "set.__iter__"=So Builtin.«frozenset.__iter__»:=entryFor_alias (id':="frozenset.__iter__") (by kernel_rfl) rfl Ab (by kernel_rfl)
def oU:entryFor table "set_iterator.__next__"=So Builtin.«set_iterator.__next__»:=entryFor_of_tree (by kernel_rfl)
def at_next:Slot "set_iterator" "__next__" "set_iterator.__next__":=.of (owner:="set_iterator") (n:="__next__") (by rw[typeLookup_type,builtinLookup_eq_fast];kernel_rfl) Ab Ab Ab (by first|exact .inl Ab|exact .inr Ab) (by rw[kQ];kernel_rfl)
def JiB:Manifest.owners.lookup (String.ofList 'ǧ'.reverse)=So Manifest.sig_set_iterator:=by kernel_rfl
def wV(a:Am):argsOk "set_iterator.__next__" ⟨[a],[]⟩:=by unfold argsOk;rw[signature?_of (id:="set_iterator.__next__") (n:=['_','_','t','x','e','n','_','_']) (o:='ǧ') (by kernel_rfl) JiB];kernel_rfl
def Jlb{src:Source}{Q:Nat->Shared->Prop}(f:n≠0)(h:∀i d,i<n->Q i {s with drawn:=d}):wpAny As A (choose src n) Q E s:=λq p _=>⟨f,h _ _ (Nat.mod_lt _ (Nat.pos_of_ne_zero f))⟩
def JcD:∀(xs:AD)(i:Nat)(h:i<Ah),(xs[i]::xs.eraseIdx i).Perm xs
 |x::xs,0,h=>lQ _
 |x::xs,i+1,h=>by
  simp only[List.getElem_cons_succ,List.eraseIdx_cons_succ]
  exact(List.Perm.swap ..).trans ((JcD xs i DG).cons x)
theorem Jit:∀(n:Nat)(xs:AD)(s:Ao)(Q:List α->Shared->Prop),Ah=n->(∀q d,q.Perm xs->Q q {s with drawn:=d})->wpAny As A (drawOrder n xs) Q E s
 |0,[],s,Q,_,h=>by
  unfold drawOrder
  refine Zb ?_
  have:=h [] aH (lQ _)
  cases s;exact this
 |n+1,x::xs,s,Q,hl,h=>by
  unfold drawOrder
  refine Za (Jlb Af λi d f=>?_)
  have u:(x::xs)[i]? =So (x::xs)[i]:=Zu f
  rw[u]
  dsimp only
  refine Za (Jit n _ _ _ (by rw[List.length_eraseIdx_of_lt f];lia) λq r B=>Zb ?_)
  refine h _ r ?_
  exact(List.Perm.cons _ B).trans (JcD _ i f)
 |0,x::xs,s,Q,hl,_=>by simp at hl
 |n+1,[],s,Q,hl,_=>by simp at hl
theorem Jgn(next:Nat->Nat):∀(fuel k:Nat)(left:AD)(out:Array α),left.length=fuel->(pickOrder.go next fuel k left out).toList.Perm (out.toList++left)
 |0,k,left,out,h=>by
  have:left=[]:=uX.mp h
  subst this
  simp[pickOrder.go]
 |fuel+1,k,left,out,h=>by
  have f:next k % left.length<left.length:=Nat.mod_lt _ Ad
  unfold pickOrder.go
  rw[Zu f]
  dsimp only
  refine(Jgn next fuel A1 _ _ (by rw[List.length_eraseIdx_of_lt f];lia)).trans ?_
  rw[Array.toList_push,List.append_assoc]
  exact(List.Perm.append_left _ (JcD _ _ f))
def IsSI(h:Heap)(it:Addr)(first:Am)(i:Nat)(a:Addr)(n ep:Nat):Prop:=h.get? it=So {cls:=.type "set_iterator",data:=.fields #[first,.int i 0,.ref a,.int n 0,.int ep 0]}
structure SetAt(h:Heap)(a:Addr)(o:Obj)(es:Lg)(ep:Nat)(t:EG):Prop where
 ho:h.get? a=So o
 hx:o.ExactSet
 hd:o.data=.set es ep t
 hf:t.fits Yq=To
def SetAt.stay{o:Obj}{t:EG}(x:SetAt h a o es ep t)(k:∀o,h.get? a=So o->h'.get? a=So o):SetAt h' a o es ep t:=⟨k _ x.ho,x.hx,x.hd,x.hf⟩
section
variable{o:Obj}{t:EG}
def IsSI.ty{h:Heap}{first:Am}{i n:Nat}{s:Ao}(x:RE):s.TypeIs Ce "set_iterator":=⟨_,x,rfl⟩
def Jmr{Q:Fin->Shared->Prop}(f:BE)(hE:∀h' e,(∀b o,s.heap.get? b=So o->h'.get? b=So o)->(∃o,h'.get? e=So o/\o.cls=.type "StopIteration")->E KI {s with heap:=h'}):
  wpAny As A (do raiseNew (<-newExc NS [])) Q E s:=by refine Za ?_;simp only[newExc,newTuple];refine Za (ZF ?_ (by size_fits));refine Za (m:=firstArgMember _ _) (wpAny_of_eq (a:=Ys) (by first|rfl|(simp only[firstArgMember];rfl)) (ZF ?_ (by size_fits)));delta raiseNew;refine Za (wpAny_handled ?_);rw[f];refine Za (Zb (wpAny_throw ?_));exact hE _ _ Qu Gs
def JgH{nx:Nat}{x:Am}{Q:Em}(hit:Wr)(q:Hv)(f:∀(C:Az)(u:MK),u (So (x,nx)) s->wpAny As YI NA u C s)
  (B:∀h',IsSI h' it (.int nx 0) BQ a Yq ep->Heap.SameBut it WL h'->Q (So x) {s with heap:=h'}):wpAny As A Dq Q E s:=by unfold pyNext;refine Za (pC (ZM (name:=oS "__next__") (hit.ty (h:=WL)) at_next (ZH at_next (hit.ty (h:=WL)) oU ?_ (wV _))));show wpAny _ _ (fieldsOf Ce>>=_) _ _ s;refine Za (sF hit rfl ?_);show wpAny _ _ (setEntries a>>=_) _ _ s;refine Za (wM q.ho q.hd q.hf ?_);show wpAny _ _ (if(((Yq:Nat):Int)!=(Yq:Int))=To then _ else _) _ _ s;rw[if_neg 'k'];show wpAny _ _ (setNext a sl i ep>>=_) _ _ s;refine Za (f _ _ ?_);refine Za (qC hit rfl Af ?_);have r:(s.heap.update it (Obj.mapFields (·.setIfInBounds 0 (rawInt (nx:Int))))).get? it=So {cls:=.type "set_iterator",data:=.fields #[.int nx 0,.int i 0,.ref a,.int Yq 0,.int ep 0]}:=ZY _ hit rfl;refine Za (qC r rfl Af (Zb ⟨x,rfl,Zb (B _ ?_ ((tE ..).trans (tE ..)))⟩));exact ZY _ r rfl
def Jhg{Q:Em}(hh:BE)(hit:Wr)(r:Hv)(q:∀(E':Az)(B:MK),B No s->wpAny As YI NA B E' s)
  (C:∀h',(∀b o,b≠it->s.heap.get? b=So o->h'.get? b=So o)->Q No {s with heap:=h'}):wpAny As A Dq Q E s:=by unfold pyNext;refine Za (pC (ZM (name:=oS "__next__") (hit.ty (h:=WL)) at_next (ZH at_next (hit.ty (h:=WL)) oU ?_ (wV _))));show wpAny _ _ (fieldsOf Ce>>=_) _ _ s;refine Za (sF hit rfl ?_);show wpAny _ _ (setEntries a>>=_) _ _ s;refine Za (wM r.ho r.hd r.hf ?_);show wpAny _ _ (if(((Yq:Nat):Int)!=(Yq:Int))=To then _ else _) _ _ s;rw[if_neg 'k'];show wpAny _ _ (setNext a sl i ep>>=_) _ _ s;refine Za (q _ _ ?_);refine Za (qC hit rfl Af ?_);refine Jmr hh λh' e U I=>?_;obtain⟨F,u,f⟩:=I;refine Za (kH (T:="StopIteration") (b:=To) ⟨F,u,f⟩ wL (Zb (C h' λb o hb e=>U b o ?_)));exact(ZS _ _ Fg).trans e
def Jkw{ord:Cf}{e:Int×Value}{Q:Em}(hit:Wd)(f:Hv)(q:s.heap.get? tp=So {cls:=.type "tuple",data:=.seq ord})(hj:ord[i]? =So (.int (j:Int) 0))(he:es[j]? =So e)
  (hQ:∀h',IsSI h' it (.ref tp) BQ a Yq ep->Heap.SameBut it WL h'->Q (So e.2) {s with heap:=h'}):wpAny As A Dq Q E s:=by
 unfold pyNext;refine Za (pC (ZM (name:=oS "__next__") (hit.ty (h:=WL)) at_next (ZH at_next (hit.ty (h:=WL)) oU ?_ (wV _))));show wpAny _ _ (fieldsOf Ce>>=_) _ _ s;refine Za (sF hit rfl ?_);show wpAny _ _ (setEntries a>>=_) _ _ s;refine Za (wM f.ho f.hd f.hf ?_);show wpAny _ _ (if(((Yq:Nat):Int)!=(Yq:Int))=To then _ else _) _ _ s;rw[if_neg 'k'];show wpAny _ _ (seqItems? (.ref tp)>>=_) _ _ s;refine Za (yD q rfl ?_);simp only[gF,hj];refine Za ?_;unfold setNextDrawn;refine Za (vJ f.ho f.hd f.hf ?_);simp only[bne_self_eq_false,Zo,ZN,he];first|refine Za (Zb (Zb ?_))|refine Zb ?_
 refine Za (qC hit rfl Af (Zb ⟨e.2,rfl,Zb (hQ _ ?_ (tE ..))⟩));exact ZY _ hit rfl
def Jey{ord:Cf}{Q:Em}(U:BE)(hit:Wd)(r:Hv)(f:s.heap.get? tp=So {cls:=.type "tuple",data:=.seq ord})(hj:ord[i]? =No)
  (hQ:∀h',(∀b o,b≠it->s.heap.get? b=So o->h'.get? b=So o)->Q No {s with heap:=h'}):wpAny As A Dq Q E s:=by unfold pyNext;refine Za (pC (ZM (name:=oS "__next__") (hit.ty (h:=WL)) at_next (ZH at_next (hit.ty (h:=WL)) oU ?_ (wV _))));show wpAny _ _ (fieldsOf Ce>>=_) _ _ s;refine Za (sF hit rfl ?_);show wpAny _ _ (setEntries a>>=_) _ _ s;refine Za (wM r.ho r.hd r.hf ?_);show wpAny _ _ (if(((Yq:Nat):Int)!=(Yq:Int))=To then _ else _) _ _ s;rw[if_neg 'k'];show wpAny _ _ (seqItems? (.ref tp)>>=_) _ _ s;refine Za (yD f rfl ?_);simp only[gF,hj];refine Za (qC hit rfl Af ?_);have B:(s.heap.update it (Obj.mapFields (·.setIfInBounds 0 (rawInt 0)))).get? it=So {cls:=.type "set_iterator",data:=.fields #[.int 0 0,.int i 0,.ref a,.int Yq 0,.int ep 0]}:=ZY _ hit rfl;refine Za (qC B rfl Af ?_);refine Jmr U λh' e I F=>?_;obtain⟨C,u,q⟩:=F;refine Za (kH (T:="StopIteration") (b:=To) ⟨C,u,q⟩ wL (Zb (hQ h' λb o hb e=>I b o ?_)));exact(ZS _ _ Fg).trans ('ѷ'.trans e)
def JmK(f:Hv)(q:byT w=To)(u:Az)(r:MK)(h:r (((pickOrder Lq es)[i]?).map λe=>(e.2,sl)) s):wpAny As A NA r u s:=by
 unfold setNext;refine Za (vJ f.ho f.hd f.hf ?_);unfold setsByText;refine Za (Za (sJ (Zb ?_)));show wpAny _ _ (if byT w=To then _ else _) _ _ s;rw[if_pos q];simp only[bne_self_eq_false,Zo,ZN];first|refine Za (Zb ?_)|skip
 unfold setWalk;refine Za (Za (vJ f.ho f.hd f.hf ?_));unfold setsByText;refine Za (Za (sJ (Zb ?_)));show wpAny _ _ (if byT w=To then _ else _) _ _ s;rw[if_pos q];refine Za (sJ (Zb ?_));exact Zb h
def Jqu(f:Hv)(C:byT w=Fo)(h1:es.size<=1)(F:es.size=0\/t.led=To)(r:Az)(q:MK)
  (h:q (match es[SetTable.below Qcv sl]?,t.place[SetTable.below Qcv sl]? with
   |some (_,x),So j=>So (x,j+1)
   |_,_=>No) s):wpAny As A NA q r s:=by
 unfold setNext;refine Za (vJ f.ho f.hd f.hf ?_);unfold setsByText;refine Za (Za (sJ (Zb ?_)));show wpAny _ _ (if byT w=To then _ else _) _ _ s;rw[if_neg (by rw[C];decide)];have u:(!t.plain&&decide (Yq>1))=Fo:=by rw[Zp 'c',oJ]
 show wpAny _ _ (if(!t.plain&&decide (Yq>1))=To then _ else _) _ _ s;rw[if_neg (by rw[u];decide)];have B:(!t.led&&!es.isEmpty)=Fo:=by
  rcases F with z|z
  ·have:es.isEmpty=To:=by simpa[Array.isEmpty]using z
   rw[this];simp
  ·rw[z];rfl
 show wpAny _ _ ((if(!t.led&&!es.isEmpty)=To then _ else _)>>=_) _ _ s;rw[if_neg (by rw[B];decide)];refine Za (Zb (Zb h))
end
def Jov:entryFor table "set_iterator.__iter__"=So Builtin.«dict_keyiterator.__iter__»:=entryFor_alias (id':="dict_keyiterator.__iter__") (by kernel_rfl) rfl Ab (by kernel_rfl)
def Jjr:Slot "set_iterator" "__iter__" "set_iterator.__iter__":=.of (owner:="set_iterator") (n:="__iter__") (by rw[typeLookup_type,builtinLookup_eq_fast];kernel_rfl) Ab Ab Ab (by first|exact .inl Ab|exact .inr Ab) (by rw[kQ];kernel_rfl)
def Jko(a:Am):argsOk "set_iterator.__iter__" ⟨[a],[]⟩:=by unfold argsOk;rw[signature?_of (id:="set_iterator.__iter__") (n:=['_','_','r','e','t','i','_','_']) (o:='ǧ') (by kernel_rfl) JiB];kernel_rfl
section
variable{o:Obj}{t:EG}
def Jec{first:Am}{Q:Az}(hit:RE)(h:Q Ce s):wpAny As A (pyIter Ce) Q E s:=by refine sM (hit.ty (h:=WL)) Jjr (ZH Jjr (hit.ty (h:=WL)) Jov ?_ (Jko _));show wpAny _ _ (ret Ce) _ _ s;exact Zb ⟨_,rfl,"set_iterator",_,(hit.ty (h:=WL)),at_next.lookup,h⟩
def JmQ(hh:BE)(hT:byT w=To)(F:a≠it):Walks prog w A it [it,a] [it] ('К'.toList.map (·.2)).length (λi v=>('К'.toList.map (·.2))[i]? =So v)
  (λi h=>IsSI h it (.int (0:Nat) 0) i a Yq ep/\SetAt h a o es ep t)where
 sub:=λb f=>by simp at f;simp[f]
 frame:=λi h h' st I=>⟨I it Af _ st.1,st.2.stay λo e=>I a Af o e⟩
 item:=λi s Q E hi st u=>by
  have r:i<(pickOrder Lq es).size:=by simpa using hi
  refine JgH (sl:=0) (nx:=0) (x:=(pickOrder Lq es)[i].2) st.1 st.2 (λC B q=>JmK st.2 hT C B ?_) λh' g1 U=>?_
  ·rw[wF r];exact q
  ·refine u _ h' Yp ?_ ⟨g1,st.2.stay λo e=>(U.2 a F).trans e⟩ λb o f e=>(U.2 b λz=>f (by simp[z])).trans e
   rw[jD,xM,wF r];rfl
 done:=λs Q E st u=>by
  refine Jhg (sl:=0) hh st.1 st.2 (λC B q=>JmK st.2 hT C B ?_) λh' k=>u h' Yp λb o f e=>k b o (λz=>f (by simp[z])) e
  rw[Array.getElem?_eq_none 'k'];exact q
 self:=λi s Q E st h=>Jec st.1 h
def Jks{ord:Aj}(hh:BE)(F:a≠it)(u:tp≠it)(ho:∀j∈ord,j<Yq):Walks prog w A it [it,a,tp] [it] (ord.map λj=>(es.getD j QcV).2).length (λi v=>(ord.map λj=>(es.getD j QcV).2)[i]? =So v)
  (λi h=>IsSI h it (.ref tp) i a Yq ep/\SetAt h a o es ep t/\h.get? tp=So {cls:=.type "tuple",data:=.seq (ord.map λj:Nat=>Value.int (j:Int) 0).toArray})where
 sub:=λb q=>by simp at q;simp[q]
 frame:=λi h h' st B=>⟨B it Af _ st.1,st.2.1.stay λo e=>B a Af o e,B tp Af _ st.2.2⟩
 item:=λi s Q E hi st r=>by
  have f:i<ord.length:=by simpa using hi
  have I:ord[i]<es.size:=ho _ (List.getElem_mem f)
  refine Jkw (j:=ord[i]) (e:=es[ord[i]]) st.1 st.2.1 st.2.2 (by simp[f]) (wF I) λh' U C=>?_
  refine r _ h' Yp ?_ ⟨U,st.2.1.stay λo e=>(C.2 a F).trans e,(C.2 tp u).trans st.2.2⟩ λb o q e=>(C.2 b λz=>q (by simp[z])).trans e
  rw[jD,Zu f]
  simp[Array.getD,I]
 done:=λs Q E st r=>Jey hh st.1 st.2.1 st.2.2 Af λh' k=>r h' Yp λb o q e=>k b o (λz=>q (by simp[z])) e
 self:=λi s Q E st h=>Jec st.1 h
theorem JnR(hh:BE)(hT:byT w=Fo)(hne:a≠it)(h1:es.size<=1)(hl:es.size=0\/t.led=To):Walks prog w A it [it,a] [it] (es.toList.map (·.2)).length (λi v=>(es.toList.map (·.2))[i]? =So v)
  (λi h=>IsSI h it (.int ((if i=0 then 0 else t.place.getD 0 0+1:Nat):Nat) 0) i a Yq ep/\SetAt h a o es ep t)where
 sub:=λb f=>by simp at f;simp[f]
 frame:=λi h h' st hk=>⟨hk it Af _ st.1,st.2.stay λo e=>hk a Af o e⟩
 item:=λi s Q E hi st B=>by
  have u:i<es.size:=by simpa using hi
  have i0:i=0:=by lia
  subst i0
  have hsz:es.size=1:=by lia
  have U:t.place.size=1:=by
   have:=st.2.hf;simp only[SetTable.fits,Zc,ZA]at this;lia
  have f:SetTable.below Qcv 0=0:=by
   unfold SetTable.below;rw[U];simp[SetTable.below.go]
  refine JgH (sl:=0) (nx:=t.place.getD 0 0+1) (x:=es[0].2) st.1 st.2 (λI C q=>Jqu st.2 hT h1 hl I C ?_) λh' g1 g2=>?_
  ·rw[f,wF u,wF (show 0<t.place.size by lia)]
   have:t.place.getD 0 0=t.place[0]:=by simp[Array.getD,U]
   rw[this]at q;exact q
  ·refine B _ h' Yp ?_ ⟨g1,st.2.stay λo e=>(g2.2 a hne).trans e⟩ λb o f e=>(g2.2 b λz=>f (by simp[z])).trans e
   rw[jD,xM,wF u];rfl
 done:=λs Q E st B=>by
  rw[Zj,ZU]at st;refine Jhg hh st.1 st.2 (λI C q=>Jqu st.2 hT h1 hl I C ?_) λh' k=>B h' Yp λb o f e=>k b o (λz=>f (by simp[z])) e;have U:t.place.size=es.size:=by
   have:=st.2.hf;simp only[SetTable.fits,Zc,ZA]at this;exact this.1
  have r:es.size<=SetTable.below Qcv (if es.size=0 then 0 else t.place.getD 0 0+1):=by
   by_cases z:es.size=0
   ·lia
   ·have z1:es.size=1:=by lia
    rw[if_neg z];have F:t.place.size=1:=by lia
    unfold SetTable.below;rw[F];have h0:t.place[0]? =So (t.place[0]'(by lia)):=wF Ad;simp[SetTable.below.go,h0,z1]
  rw[Array.getElem?_eq_none r];exact q
 self:=λi s Q E st h=>Jec st.1 h
def JoD{Q:Az}(hS:TS prog w (!byT w) WL a ks)(hk:Bh<=4000)
  (hQ:∀(h1:Heap)(d:Drawn)(I:Addr)(fp:A7)(vs:AF)(ks':Ag)(St:Nat->Heap->Prop),(∀b o,s.heap.get? b=So o->h1.get? b=So o)->(∀b∈fp,b=a\/s.heap.objs.size<=b)->Aa<=I->
   (∀A':Around,A'.handled=No->Walks prog w A' I fp [I] AQ (λi v=>vs[i]? =So v) St)->St 0 h1->StrsAre vs ks'->ks'.Perm ks->Q QcN {s with heap:=h1,drawn:=d}):wpAny As A (pyIter AE) Q E s:=by
 obtain⟨o,es,ep,t,⟨f,hx,hd⟩,hel,⟨hf,hz⟩,hl,hp,hkp,hn⟩:=hS;have sa:SetAt WL a o es ep t:=⟨f,hx,hd,hf⟩;have hty:s.TypeIs AE "set":=⟨o,f,hx.1⟩;have C:a<Aa:=Zk f;have allS:∀e∈es.toList,∃x u,e.2=.str x u:=λe he=>by obtain⟨⟨k,hk,_⟩,_⟩:=hel e he;obtain⟨u,q⟩:=oZ hk;exact⟨k,u,q⟩
 have r:∀l:List (Int×Value),l.Perm es.toList->StrsAre (l.map (·.2)) ((l.map (·.2)).map strOf)/\((l.map (·.2)).map strOf).Perm ks:=λl pl=>by
  refine⟨strsAre_map _ λv hv=>?_,?_⟩
  ·obtain⟨e,he,rfl⟩:=Zz.mp hv;exact allS e (pl.mem_iff.mp he)
  ·rw[Zr];exact(pl.map _).trans hkp
 refine sM hty QdO (ZH QdO hty Jri ?_ (F.args_set_iter_1 _));unfold Builtin.«frozenset.__iter__» Builtin.Frozenset.slot0 slotArgs;simp only[List.isEmpty_nil,kM,Zo,ZN,bind_assoc,yE,bne_self_eq_false];unfold Builtin.Frozenset.addrOf Builtin.Frozenset.sizeOf;refine Za (Zb ?_);try dsimp only
 refine Za (Zb ?_);refine Za (Za (wM f hd hf (Zb ?_)));unfold setDrawn;refine Za (Za (vJ f hd hf ?_));unfold setsByText;refine Za (Za (sJ (Zb ?_)));refine Zb ?_;show wpAny _ _ (if(!byT w&&(!t.plain&&decide (Yq>1)))=To then _ else _) _ _ s;have z1:es.size<=sizeLine:=fits_of_scanBound hz;by_cases B:(!byT w&&(!t.plain&&decide (Yq>1)))=To
 ·rw[if_pos B];refine Za (Jit _ _ _ _ Af λord d po=>?_);refine Za (wpAny_newTuple ?_ (by rw[Zj,po.length_eq,pR];exact z1));refine Za (wpAny_setEpoch_of (Zd _ f) hd hf ?_);refine Za (ZF (Zb Xl));have oj:∀j∈ord,j<es.size:=λj hj=>by simpa using po.mem_iff.mp hj
  have pl:((ord.map λj=>es.getD j QcV)).Perm Z7:=by
   have c1:=po.map λj=>es.getD j J8;refine c1.trans (List.Perm.of_eq ?_);refine kR Af λi h1 h2=>?_;have h3:i<es.size:=by simpa using h2
   simp[Array.getD,h3]
  obtain⟨U,q2⟩:=r _ pl;have em:(ord.map λj=>es.getD j J8).map (·.2)=ord.map λj=>(es.getD j J8).2:=by rw[Zr];rfl
  rw[em]at U q2;refine hQ _ d _ [_,a,Aa] _ _ _ Qu (λb hb=>?_) ?_ (λA' hA=>Jks (tp:=Aa) (ord:=ord) hA ?_ ?_ oj) ⟨Zf _ rfl,sa.stay λo e=>Zd _ D2,Zd _ HS⟩ U q2
  ·simp only[Ze,ZK,lA]at hb;rcases hb with rfl|rfl|rfl
   ·right;show _<=(Heap.push _ _).objs.size;rw[ZP];exact jF _
   ·exact .inl rfl
   ·exact .inr (Zh _)
  ·show _<=(Heap.push _ _).objs.size;rw[ZP];exact jF _
  ·show a≠(Heap.push _ _).objs.size;rw[ZP];exact Zt (oB C)
  ·show Aa≠(Heap.push _ _).objs.size;rw[ZP];exact Zt aQ
 ·rw[if_neg B];refine Za (Zb ?_);refine Za (wpAny_setEpoch_of f hd hf ?_);refine Za (ZF (Zb Xl));have fpo:∀b∈[Aa,a],b=a\/s.heap.objs.size<=b:=λb hb=>by
   simp only[Ze,ZK,lA]at hb;rcases hb with rfl|rfl
   ·exact .inr (Zh _)
   ·exact .inl rfl
  have kp:∀(x:Obj)b o,s.heap.get? b=So o->(s.heap.push x).get? b=So o:=λx b o e=>Zd _ e;cases hT:byT w with
  |true=>
   have pl:'К'.toList.Perm Z7:=by have:=Jgn Lq Yq 0 Z7 #[] Af;simpa[pickOrder]using this
   obtain⟨U,q2⟩:=r _ pl;exact hQ _ aH _ _ _ _ _ (kp _) fpo (Zh _) (λA' hA=>JmQ (o:=o) (t:=t) hA hT (Zt C)) Wa U q2
  |false=>
   have few:es.size<=1:=by
    by_cases z:es.size<=1
    ·exact z
    ·exfalso;apply B;rw[hT,hp 'c',ZD 'c'];rfl
   obtain⟨U,q2⟩:=r _ (lQ _);rw[hT]at hl;exact hQ _ aH _ _ _ _ _ (kp _) fpo (Zh _) (λA' hA=>JnR (o:=o) (t:=t) hA hT (Zt C) few (.inr hl)) Wa U q2
end
def JnE{Q:Bool->Shared->Prop}(q:s.TypeIs AE "set")(h:Q Fo s):wpAny As A (Builtin.List.listLengthHint AE) Q E s:=by unfold Builtin.List.listLengthHint;refine Za (wpAny_specialOf q F.slot_set_len.lookup ?_);generalize hid:("set.__len__":String)=id0;wp_delta;rw[show splitId id0=So ("set","__len__")from by subst hid;decide+kernel];subst hid;refine Za (kH (T:="set") (b:=To) q (by rw[kQ];kernel_rfl) (qH P5 (λ_=>qH (λ_=>?_) P4)));exact Za (mH q (Zb h))
theorem JhJ{Q:List Value->Shared->Prop}(hh:BE)(hS:TS prog w (!byT w) WL a ks)(hk:Bh<60)
  (hQ:∀(h1:Heap)(d:Drawn)(tk:Nat)(vs:AF)(q:Ag),(∀b o,s.heap.get? b=So o->h1.get? b=So o)->Aa<=h1.objs.size->StrsAre vs q->q.Perm ks->Q vs {s with heap:=h1,drawn:=d,toks:=tk}):wpAny As A (collect AE) Q E s:=by
 obtain⟨oa,hoa⟩:=hS.there;have hty:∀u:Shared,TS prog w (!byT w) u.heap a ks->u.TypeIs AE "set":=λu⟨o,_,_,_,⟨e,x,_⟩,_⟩=>⟨o,e,x.1⟩;have hne:Aa≠a:=sD (Zk hoa);unfold collect;refine Za (wpAny_runValue (vF gA ?_));rw[rH F.plain_proto_collect _];show wpAny _ YI (newList []>>=λl=>again (.builtin "list.__iadd__" ⟨[l,.ref a],[]⟩)) _ _ s;refine Za (ZF ?_);refine Zb Wj;rw[rH tX _];show wpAny _ YI (Builtin.List.listExtendWith FF AE FF) _ _ _;unfold Builtin.List.listExtendWith;have hS1:TS prog w (!byT w) (s.heap.push {cls:=.type "list",data:=.seq ([]:List Value).toArray}) a ks:=hS.stay λo e=>Zd _ e;refine Za (mH (hty {s with heap:=s.heap.push {cls:=.type "list",data:=.seq ([]:List Value).toArray}} hS1) ?_);have h1:Builtin.List.listSameRef FF AE=Fo:=by simp[Builtin.List.listSameRef,hne]
 have h2:(Value.type "set"==Value.type "list")=Fo:=by decide
 have h3:(Value.type "set"==Value.type "tuple")=Fo:=by decide
 simp only[h1,h2,h3,jJ,Zo,ZN];refine Za (JoD (s:={s with heap:=s.heap.push {cls:=.type "list",data:=.seq ([]:List Value).toArray}}) hS1 Ad λC d I fp vs q St kp fpo hI W9 st q1 q2=>?_);have hsz:(s.heap.push {cls:=.type "list",data:=.seq ([]:List Value).toArray}).objs.size=Aa+1:=ZP ..;have hSf:Aa∉fp:=λz=>by
  rcases fpo _ z with e|e
  ·exact hne e
  ·change(s.heap.push {cls:=.type "list",data:=.seq ([]:List Value).toArray}).objs.size<=_ at e;rw[hsz]at e;lia
 have hIS:Aa≠I:=λz=>by change(s.heap.push {cls:=.type "list",data:=.seq ([]:List Value).toArray}).objs.size<=_ at hI;rw[hsz]at hI;lia
 have hlen:AQ=Bh:=by have:=q2.length_eq;rw[<-q1.strs,Zj]at this;exact this
 have hnl:AQ<=sizeLine:=by rw[ZG];lia
 have U:C.get? Aa=So {cls:=.type "list",data:=.seq #[]}:=kp _ _ HS;have hh1:A.in1.in1.handled=No:=by simp[hh]
 have key:∀(g:Heap)(c:Nat)(tk:Nat),St 0 g->(∀b o,b≠Aa->C.get? b=So o->g.get? b=So o)->g.get? Aa=So {cls:=.type "list",data:=.seq #[] c}->
   codeAny As A (.builtin "list.extend.loop" ⟨[.ref Aa,.ref I,.ref Aa],[]⟩) (λr u=>match r with
    |.ok (.ret v)=>wpAny As A (match v with
     |.ref a=>do match(<-load a).data with
      |.seq xs _=>pure xs.toList
      |_=>unsupported "internal:collect"
     |_=>unsupported "internal:collect") Q E u
    |.ok _=>False
    |.error e=>E e u) {s with heap:=g,drawn:=d,toks:=tk}:=by
  intro g c tk st' kp' hL;refine codeAny_extend_loopS (W9 YI (by simp[hh])).toS hnl Aa hSf _ AQ 0 _ #[] c rfl (yC _) st' hL (ItemsOf.nil _) λu f c' hm hS' B=>?_;have e2:f.toList=vs:=by
   refine kR (by simpa using B.1) λi a1 a2=>?_;have a3:i<f.size:=by simpa using a1
   have:vs[i]? =So f[i]:=B.2 i f[i] (wF a3);rw[Zu a2]at this;simpa using(zE this).symm
  show wpAny _ _ (load Aa>>=_) _ _ u;refine Za (wpAny_load hS' (Zb ?_));obtain⟨g',ge',d',tk',os'⟩:=u;have eg:ge'=s.gens:=hm.gens;have ed:d'=d:=hm.drawn;have eo:os'=s.os:=hm.os;subst eg ed eo;show Q f.toList _;rw[e2];refine hQ g' d' tk' vs q (λb o e=>?_) (Nat.le_of_lt (Zk hS')) q1 q2;have hb:b<Aa:=Zk e;refine hm.heap b o ?_ (kp' b o (Zt hb) (kp b o D2));simp only[Ze,ZK,lA,not_or];refine⟨Zt hb,λz=>?_⟩;change(s.heap.push {cls:=.type "list",data:=.seq ([]:List Value).toArray}).objs.size<=_ at hI;rw[hsz]at hI;have hb':b<Aa:=hb;rw[z]at hb';exact absurd (Zw hb' (qR hI)) Cr
 have hS2:TS prog w (!byT w) C a ks:=hS1.stay λo e=>kp a o e;refine Za (jB (JnE (hty {s with heap:=C,drawn:=d} hS2) ?_));refine qH (λ_=>?_) (λ_=>Zb ⟨oH sQ _,key C 0 Yp st (λb o _ e=>e) U⟩);refine Za (xC (Za ?_));show wpAny _ YI (updateSeq Aa (·.push .none)>>=λ_=>updateSeq Aa (·.pop)) _ _ _;refine Za (qJ U rfl ?_);have hL2:=ZY (Obj.mapSeq (·.push Ys)) U rfl;refine qJ (hz:=by seq_fits) hL2 rfl ?_;have hL3:=ZY (Obj.mapSeq (·.pop)) hL2 rfl;have oth:∀b o,b≠Aa->C.get? b=So o->((C.update Aa (Obj.mapSeq (·.push Ys))).update Aa (Obj.mapSeq (·.pop))).get? b=So o:=λb o hb e=>'ѷ'.trans ('ѷ'.trans e);exact Zb ⟨oH sQ _,key _ _ Yp ((W9 YI (by simp[hh])).frame 0 _ _ st λb hb o e=>oth b o (λz=>hSf (z▸hb)) e) oth hL3⟩
theorem JgV{Q:Az}(hh:BE)(hS:TS prog w (!byT w) WL a ks)(hk:Bh<60)
  (h:∀(h':Heap)(d:Drawn)(tk:Nat)(l:Addr)(vs:AF)(r:Ag)(e:Nat),(∀b o,s.heap.get? b=So o->h'.get? b=So o)->Aa<=l->h'.get? l=So (seqObj "list" CP e)->StrsAre vs r->r.Perm ks->PyProof.Rows.sortedS r=To->Q BK {s with heap:=h',drawn:=d,toks:=tk}):
  wpAny As A (call Nz Cv) Q E s:=by
 obtain⟨oa,hoa⟩:=hS.there;refine Calls.call_function_entry kind_sorted plain_sorted entry_sorted Qa8 ?_;unfold Builtin.«sorted»;refine Za (m:=checkCount "sorted" 1 1 _) (Zb (Za (JhJ (by simp[hh]) hS hk λC d tk vs ks' kp I F q2=>?_)));have U:AQ=Bh:=by have:=q2.length_eq;rw[<-F.strs,Zj]at this;exact this
 refine Za (wpAny_newList ?_ (by rw[ZG];lia));have f:(C.push Uc).get? C.objs.size=So Uc:=Zf _ rfl;refine Za (jB (ZH slot_list_sort II entry_list_sort (list_sort_treeK strKind_oneLt (s:={s with heap:=C.push Uc,drawn:=d,toks:=tk}) f F.keysOf (λv₁ v₂ rest e=>keyKind_strs (by rw[<-e];exact F)) Ad λu a1 a2=>J4) OG));obtain⟨r,b1,b2,b3⟩:=sorted_out_str F a1 a2;obtain⟨e,he⟩:=sortedHeap_at (out:=(arrOf u).map (·.2)) f;refine Zb ⟨_,rfl,h _ d tk C.objs.size ((arrOf u).map (·.2)).toList r e (λb o q=>?_) I (by rw[Array.toArray_toList];exact he) b1 (b2.trans q2) b3⟩;have q':=kp b o q;have B:=Zk q';rw[sortedHeap_old (Zt B) (by rw[ZP];exact oB B)];exact Zd _ q'
noncomputable def SetO (X:Cx) (a:Addr) (ks:Ag):HO:=.ext λh=>TS Yu X.w (!byT X.w) h a ks
section
def JdF:∀{ws:Ag}{f:AF},Vals RV f->StrsAre f ws
 |[],_,.nil=>.nil
 |x::ws,_,.cons ⟨t,e⟩ r=>by subst e;exact .cons x t (JdF r)
def Jew:∀{ws:Ag}{f:AF},StrsAre f ws->Vals RV f
 |_,_,.nil=>.nil
 |_,_,.cons x t r=>.cons HJ (Jew r)
def Jmx(I:BM)(d:Drawn):L2.Inv X Y Z H {s with drawn:=d}:=⟨I.ok,I.os,YB,Z8,YH,Z3,YE,YX,I.pin,YC,aF⟩
def rSet (X:Cx):List V->Hp->VK->Prop:=λxs H Q=>∃p f,xs=FK/\SqL X.K H p (f.map bK)/\f.length<60/\∀l,H l=No->Q BK (upd H l (SetO X l (metS f)))
theorem Jva(hc:CQ):pA X Kg (rSet X):=by intro Y s Z H xs us Q I r h;obtain⟨p,ws,rfl,hq,hl,q⟩:=h;obtain⟨u,rfl,U⟩:=rB r;cases U;obtain⟨its,C,pl,hz⟩:=I.list hq;have f:=C.length;rw[Zj]at f;refine JlZ (items:=AA) (ws:=ws) HQ Y7 (by simpa using JdF C) (by rw[Zn,<-f];show _<4096;lia) λh' tk B F=>?_;obtain⟨o,ho⟩:=B.there;exact⟨.ref Aa,_,I.laid (t':=tk) (λb o e=>F b o (Zk e) e) (Zh _) (show ObjOk Yu X.w _ h' _ (SetO X Aa 'ћ')from⟨B,⟨o,ho⟩,λh1 h2 z k=>TS.stay z k⟩),rfl,q _ Hq⟩
theorem Jla(hc:CQ):pA X Nz (λxs H Q=>∃p ks,xs=FK/\H p=So (SetO X p ks)/\ks.length<60/\∀(l:Addr)(f:Ag),H l=No->f.Perm ks->PyProof.Rows.sortedS f=To->Q BK P3):=by
 intro Y s Z H xs us Q I r h;obtain⟨p,ks,rfl,hq,hl,q⟩:=h;obtain⟨u,rfl,rx⟩:=rB r;cases rx;have hS:TS Yu X.w (!byT X.w) WL p ks:=(I.hok p _ hq).1;refine JgV HQ hS hl λh' d U l vs f e kp B hg F C q3=>?_;have hz:AQ=Bh:=by have:=C.length_eq;rw[<-F.strs,Zj]at this;exact this
 have I1:L2.Inv X Y Z P3 {s with heap:=h',drawn:=d,toks:=U}:=
  (Jmx I d).laid (t':=U) kp B ⟨by rw[Zj,C.length_eq,ZG];lia,vs,e,Jew F,hg⟩
 exact⟨.ref l,_,I1,rfl,q l f (I.hok.fresh B) C q3⟩
theorem JwC:pA X Nl (λxs H Q=>∃p ks,xs=FK/\H p=So (SetO X p ks)/\ks.length<60/\Q (.int Bh) H):=by
 intro Y s Z H xs us Q I r h;obtain⟨p,ks,rfl,hq,hl,q⟩:=h;obtain⟨u,rfl,U⟩:=rB r;cases U;obtain⟨o,es,ep,t,⟨ho,hx,hd⟩,hel,⟨F,hz⟩,_,_,B,_⟩:=(I.hok p _ hq).1;have f:es.size=Bh:=by have:=B.length_eq;simpa[yG]using this
 have C:((Yq:Nat):Int)<2^63:=by
  have:((Yq:Nat):Int)<60:=by lia
  exact Int.lt_trans this Ax
 refine call_len_set ho hx hd F C ?_;refine⟨.int Bh,H,I.kept (t':=Yp+1+1) (λb o e=>e),⟨_,by rw[f]⟩,q⟩
def JdW:∀(p:Str)(l:Ag),risingS p l=To->(p::l).Nodup->(p::l).Pairwise LtS
 |p,[],_,_=>by simp
 |p,x::r,h,hn=>by
  simp only[risingS,Zc,kB]at h
  obtain⟨q,I⟩:=h
  rw[ltCps_eq]at q
  have F:¬LtS x p:=by simpa[LtS]using q
  obtain⟨B,C⟩:=vA.mp hn
  have u:=JdW x r I C
  have px:LtS p x:=LtS.total F λe=>B (by simp[e])
  refine jG.mpr ⟨λz f=>?_,u⟩
  rcases Ze.mp f with rfl|f
  ·exact px
  ·exact px.trans ((jG.mp u).1 z f)
def JgQ{f ws:Ag}(h1:f.Perm ks)(B:PyProof.Rows.sortedS f=To)(r:ks.Nodup)(u:∀k,k∈ks↔k∈ws):f=Pu.Jx ws:=by
 have q:f.Nodup:=h1.symm.nodup r;have C:f.Pairwise LtS:=by
  cases f with
  |nil=>exact List.Pairwise.nil
  |cons p l=>exact JdW p l B q
 exact JdS _ _ C (JH ws) λk=>(h1.mem_iff.trans (u k)).trans (JO ws k).symm
def Jkr(ws:Ag):∀ks:List Str,ks.Nodup->'伇'.Nodup:=by
 induction ws with
 |nil=>intro ks h;exact h
 |cons x ws B=>
  intro ks h;rw[zL];refine B _ ?_;unfold addS;split
  ·exact h
  ·rename_i f;rw[oR];refine⟨h,by simp,λu r v q e=>?_⟩;rw[ZZ]at q;subst q e;exact f r
def JeR(ws:Ag):'ћ'.Nodup:=Jkr ws [] List.nodup_nil
def JmZ(ws:Ag):'ћ'.length='Ӂ'.length:=by have f:'ћ'.Perm 'Ӂ':=(List.perm_ext_iff_of_nodup (JeR ws) (Jas _ (JH ws))).mpr λk=>(JjD ws k).trans (JO ws k).symm;exact f.length_eq
def jQ:∀{J:Aq}{ws:Ag},JQ J=So ws->J=ws.map Y3
 |[],ws,h=>by cases h;rfl
 |.str x::J,ws,h=>by
  simp only[JQ]at h
  cases q:JQ J with
  |none=>rw[q]at h;cases h
  |some f=>rw[q]at h;cases h;rw[jQ q];rfl
 |.non::J,ws,h=>by cases h
 |.bl _::J,ws,h=>by cases h
 |.int _::J,ws,h=>by cases h
 |.tup _::J,ws,h=>by cases h
 |.lst _::J,ws,h=>by cases h
def JfD:∀{ws:Ag}{xs:Aw},Reps K H 'Ʋ' xs->xs=ws.map bK
 |[],xs,h=>by cases h;rfl
 |w::ws,xs,h=>by
  obtain⟨x,r,rfl,f,q⟩:=h
  cases f
  rw[JfD q];rfl
def JfN:∀f:List Str,Reps K H (f.map Y3) Ta
 |[]=>rfl
 |w::f=>⟨.str w,f.map bK,rfl,rfl,JfN f⟩
variable{U:Ae}{a:Expr}{p3:Pos}
def Jqh(C:Al)(u:AJ)(q:gloB nm "set"=To)(f:G.mg "set"=No)(r:Ti):PE X (.Call VZ [a] [] p3) (tCB (rSet X) (Juh HL tNil)):=
 JgN (Jva YO) (C.glo _ q) (by rw[C.mg];exact f) boot_set (JE u rA r) Ab Ab r rfl
def JsB(C:Al)(ha:AJ)(hg:gloB nm "sorted"=To)(hm:G.mg "sorted"=No)(F:gloB nm "set"=To)(hm2:G.mg "set"=No)(hs:Fy):PE X (.Call Pd Pn [] pos) (tI X U (.un .sset pa)):=by
 refine PE.weak (yO (Jla YO) Gg (by rw[C.mg];exact hm) Ab (JE (Jqh C ha F hm2 hs) rA rfl) Ab Ab rfl rfl) λZ H Q h=>?_;obtain⟨O,r,h⟩:=h;refine⟨O,r,'Ĥ'.imp λd f=>λv H1 s1 rv=>?_⟩;show∃p u,[v]=FK/\_;cases d with
 |lst J=>
  obtain⟨p,xs,rfl,h1,h2⟩:=rv;simp only[op1]at f;cases q:JQ J with
  |none=>rw[q]at f;exact f.elim
  |some u=>
   rw[q]at f;have e:=jQ q;subst e;have e2:=JfD h2;subst e2;simp only at f;split at f
   ·rename_i B;refine Vk;show∃p' ks,Qc5=[.ref p']/\_;refine⟨l,metS u,rfl,Je,iF (JfF u) B,λl2 ss I a1 a2=>?_⟩;have e3:=JgQ a1 a2 (JeR u) (JjD u);subst e3;have s2:Same H1 Qdk:=λb o e=>by rw[Jc (Ji e hl)];exact e
    obtain⟨s3,r3⟩:=iI (K:=X.K) (H:=upd H1 l Tw) I (JfN (Pu.Jx u));exact f _ _ (s1.trans (s2.trans s3)) r3
   ·exact f.elim
 |_=>exact f.elim
def Jsg(C:Al)(ha:AJ)(hg:gloB nm "len"=To)(hm:G.mg "len"=No)(F:gloB nm "set"=To)(I:G.mg "set"=No)(hs:Fy):PE X (.Call Qa9 Pn [] pos) (tI X U (.un .lset pa)):=by
 refine PE.weak (yO JwC Gg (by rw[C.mg];exact hm) PySem.boot_len (JE (Jqh C ha F I hs) rA rfl) Ab Ab rfl rfl) λZ H Q h=>?_;obtain⟨O,r,h⟩:=h;refine⟨O,r,'Ĥ'.imp λd f=>λv H1 s1 rv=>?_⟩;show∃p u,[v]=FK/\_;cases d with
 |lst J=>
  obtain⟨p,xs,rfl,h1,h2⟩:=rv;simp only[op1]at f;cases q:JQ J with
  |none=>rw[q]at f;exact f.elim
  |some u=>
   rw[q]at f;have e:=jQ q;subst e;have e2:=JfD h2;subst e2;simp only at f;split at f
   ·rename_i B;refine Vk;show∃p' ks,Qc5=[.ref p']/\_;refine⟨l,metS u,rfl,Je,iF (JfF u) B,?_⟩;have s2:Same H1 Qdk:=λb o e=>by rw[Jc (Ji e hl)];exact e
    rw[JmZ];exact f _ _ Ds rfl
   ·exact f.elim
 |_=>exact f.elim
end
noncomputable def plainN (x:Str):Bool:=!(x==Ye)&&!(x==Ym)
def chkV (N:Ag) (nm:Bd) (i:Nat) (x:Str):Bool:=(N[i]? ==So x)&&visB nm x&&plainN x
def chkS (N:Ag) (nm:Bd) (i:Nat) (x:Str):Bool:=(N[i]? ==So x)&&locB nm x&&plainN x
def chkG (nm:Bd) (x:Str):Bool:=gloB nm x&&plainN x
section
variable{X:Cx}{U:Ae}{G:Gw}{N:Ag}{nm:Bd}{e a b c:Expr}{es:CY}{p pa pb pc pl ph:Px}{pos p1 p2 p3:Pos}{x y:Str}
def plainN.d(h:plainN x=To):(x==Ye)=Fo/\(x==Ym)=Fo:=by simpa[plainN]using h
def vV(C:Al){i:Nat}(h:Ho):PE X B7 Kj:=by simp only[chkV,Zc,ZA]at h;obtain⟨f,q⟩:=plainN.d h.2;exact JpP (by rw[C.hN];exact h.1.1) (C.vis x h.1.2) f q
def mD(G:Gw)(x:Str)(d:D):Prop:=∃v u,G.mg x=So u/\RelV v u/\∀H,Rep G.K H d v
def vG(C:Al){d:D}(r:mD G x d)(h:chkG nm x=To):PE X B7 Qad:=by simp only[chkG,Zc]at h;obtain⟨B,I⟩:=plainN.d h.2;obtain⟨v,u,f,F,q⟩:=r;exact JrR (C.glo x h.1) ⟨v,u,by rw[C.mg];exact f,F,λH=>by rw[C.K];exact q H⟩ B
def cF(C:Al){fi:Nat}(u:M6)(h:chkG nm x=To)(q:Dy)(r:Yd)(f:Yn):
  PE X Ud P6:=by simp only[chkG,Zc]at h;exact Jte C u h.1 (plainN.d h.2).1 q r f
def cLen(C:Al)(u:G.mg "len"=No)(f:AJ)(q:gloB nm "len"=To)(r:Fy):PE X (.Call Qa9 [a] [] pos) (tI X U (.un .len pa)):=yT C JtM f q u PySem.boot_len Ab Ab r
def cAll(C:Al)(u:G.mg "all"=No)(f:AJ)(q:gloB nm "all"=To)(r:Fy):PE X (.Call (.Name "all" p1) [a] [] pos) (tI X U (.un .all pa)):=yT C (Jvl YO) f q u boot_all Ab Ab r
def cAny(C:Al)(u:G.mg "any"=No)(f:AJ)(q:gloB nm "any"=To)(r:Fy):PE X (.Call (.Name "any" p1) [a] [] pos) (tI X U (.un .any pa)):=yT C (JwG YO) f q u boot_any Ab Ab r
def Jwa(C:Al)(u:G.mg "tuple"=No)(f:AJ)(q:gloB nm "tuple"=To)(r:Fy):PE X (.Call (.Name "tuple" p1) [a] [] pos) (tI X U (.un .tuple pa)):=pI_ty C JnU f q u PyProof.Rows.boot_tuple Ab Ab r
def eEq(C:Al)(q:AJ)(f:Br):PE X Ru (tI X U QbE):=gT (Jqj C.un) q f ED
def eNe(C:Al)(q:AJ)(f:Br):PE X UI (tI X U R5):=gT eQ q f ED
def eLt(f:AJ)(q:Br):PE X Rt (tI X U QbF):=gT mZ f q ED
def eIn(C:Al)(q:AJ)(f:Br)(r:behindInMarks .In b=Fo):PE X NX (tI X U Qah):=gT (JpS C.un) q f r
def tEq(C:Al)(q:AJ)(f:Br):PT X Ru (tT X U QbE):=oK (Jqj C.un) q f ED
def tNe(C:Al)(q:AJ)(f:Br):PT X UI (tT X U R5):=oK eQ q f ED
def tLt(f:AJ)(q:Br):PT X Rt (tT X U QbF):=oK mZ f q ED
def tGt(f:AJ)(q:Br):PT X (.Compare a [.Gt] [b] pos) (tT X U (.bi .gt pa pb)):=oK Jqx f q ED
def tIn(C:Al)(q:AJ)(f:Br)(r:behindInMarks .In b=Fo):PT X NX (tT X U Qah):=oK (JpS C.un) q f r
def eIx(f:AJ)(q:Br)(r:sU b:=by intro _ _;rfl):PE X NC (tI X U (.bi .idx pa pb)):=pI_ix JuA f q r
def eAdd(f:AJ)(q:Br):PE X (.BinOp a .Add b pos) (tI X U (.bi .add pa pb)):=wN Jtd f q
def eSub(f:AJ)(q:Br):PE X (.BinOp a .Sub b pos) (tI X U (.bi .sub pa pb)):=wN Jrm f q
def eMul(f:AJ)(q:Br):PE X Qt (tI X U (.bi .mul pa pb)):=wN Jtp f q
def eMod(f:AJ)(q:Br):PE X (.BinOp a .Mod b pos) (tI X U (.bi .mod pa pb)):=wN Jsb f q
def eDiv(f:AJ)(q:Br):PE X (.BinOp a .FloorDiv b pos) (tI X U (.bi .fdiv pa pb)):=wN JnH f q
def gOne(C:Al)(h:chkS N nm 0 x=To):TgOk X B7 0 1:=by simp only[chkS,Zc,ZA]at h;obtain⟨f,q⟩:=C.sto x h.1.2;exact Jvq (by rw[C.hN];exact h.1.1) DJ f q
def gTwo(C:Al)(h:chkS N nm 0 x=To)(h':chkS N nm 1 y=To):TgOk X UX 2 2:=by simp only[chkS,Zc,ZA]at h h';obtain⟨f,r⟩:=C.sto x h.1.2;obtain⟨q,u⟩:=C.sto y h'.1.2;exact JtX (by rw[C.hN];exact h.1.1) (by rw[C.hN];exact h'.1.1) DJ f r q u YO
def scB (N:Ag) (nm:Bd) (ls:Ag) (f:AO):Bool:=(f.kind==.function)&&decide (ls++hidN ls N).Nodup&&Jul N nm ls f.names&&N.all (λn=>!ls.contains n||(f.names.lookup (dum n)).isNone)
def scO{ls:Ag}{f:AO}(h:scB N nm ls f=To):ScOk N nm ls f:=by simp only[scB,Zc,ZA,Zs]at h;refine⟨h.1.1.1,h.1.1.2,h.1.2,λn q r=>?_⟩;have:=wA.mp h.2 n q;simp only[r,kM,nM,Option.isNone_iff_eq_none]at this;exact this
variable{M:Aj}{H0:Hp}{i j l:Nat}{px:Pos}
def chkA (N:Ag) (nm:Bd) (M:Aj) (i:Nat) (x:Str):Bool:=chkS N nm i x&&!M.contains i
def chkA.at(h:Ei):N[i]? =So x/\locB nm x=To/\i∉M:=by simp only[chkA,chkS,Zc,ZA,kB,vQ,xJ]at h;exact⟨h.1.1.1,h.1.1.2,h.2⟩
def chkO (N:Ag) (nm:Bd) (M:Aj) (i:Nat) (x:Str):Bool:=chkS N nm i x&&M.contains i&&visB nm x
def chkO.at(h:Eh):N[i]? =So x/\locB nm x=To/\plainN x=To/\i∈M/\visB nm x=To:=by simp only[chkO,chkS,Zc,ZA,vQ,Zs]at h;exact⟨h.1.1.1.1,h.1.1.1.2,h.1.1.2,h.1.2,h.2⟩
def aSet(C:Al)(h:Ei)(q:B6)(f:BW)(u:Oa):PS X Gu UB:=by obtain⟨r,F,B⟩:=chkA.at h;exact JuB C r F B f q u
def aOwn(C:Al)(h:Eh)(q:Nt)(r:Oa):PS X Gu Q0:=by obtain⟨f,u,B,I,F⟩:=chkO.at h;exact Jwk C f u q r
section
variable{elt tg iter:Expr}{ifs:CY}{ps pe:Px}{nt:Nat}{ls:Ag}{sc:AO}
def JwB(h:PS X st (tAsg (tF X U p) EE)):PS X st (tAsg c7 EE):=by
 rintro Y s Z H D I⟨O,L,hL,r,g⟩;obtain⟨ps,e1,e2,I'⟩:=Inv.hide I hL.c;refine ZT (h (ps++Y) s Z Ba ⟨λσ' H1=>Same Ba H1/\((∀a∈L,H1 a=No)->D.nx σ' E2),λ_ _=>False,λ_ _=>False,λ_ _=>False⟩ I' ⟨O,r,g.mono (λd⟨J,ed,hd⟩=>⟨J,ed,λl xs H1 F h0 C rv=>⟨F,λB=>?_⟩⟩) λc z=>z⟩)
  (λf F q=>?_) λ_ _ z=>z
 ·have hl:l∉L:=λhm=>by rw[B l hm]at C;cases C
  exact hd l xs _ (sV F) Nx (by rw[JF hl]at h0;exact h0) (by rw[JY hl];exact C) (by rw[pO B];exact rv)
 ·cases f with
  |next=>obtain⟨σ',H1,I1,sm,q⟩:=q;obtain⟨B,I2⟩:=Inv.unhide I hL.c e1 e2 NR I1;exact⟨σ',_,I2,q B⟩
  |brk=>obtain⟨_,_,_,q⟩:=q;exact q.elim
  |cont=>obtain⟨_,_,_,q⟩:=q;exact q.elim
  |ret u=>obtain⟨_,_,_,_,_,q⟩:=q;exact q.elim
def Joi(hM:i∉M)(u:BW)(hl:isL p=To){D:Ends}(h:Vl):tAsg c7 EE D Z H:=by
 obtain⟨O,L,C,k2,f⟩:=Jij hM u h;refine⟨O,L,C,k2,?_⟩;cases q:evD U p O with
 |ok d=>
  rw[q]at f;obtain⟨J,rfl⟩:=Jho hl q;refine⟨J,rfl,λl xs H1 s1 kk h0 F rv=>f _ _ s1 kk ?_⟩;have r:l∉L:=λI=>by obtain⟨o,B,_⟩:=C l I;rw[h0]at B;cases B
  exact⟨l,xs,rfl,SqL.of (by rw[JF r];exact F),rv⟩
 |ex c=>rw[q]at f;exact f
 |sk=>rw[q]at f;exact f.elim
noncomputable def tgN:Expr->List Str
 |.Name x _=>[x]
 |.Tuple es _ _=>es.filterMap λe=>match e with
  |.Name x _=>So x
  |_=>No
 |_=>[]
noncomputable abbrev cN (tg:Expr) (N:Ag):List Str:=tgN tg++hidN Yk N
def aSetC(C:Al)(h:Ei)(u:scB N nm Yk sc=To)(f:Gr)(I:∀X',Ctx X' G CL sc.names->TgOk X' tg nt 'ʊ'.length)(B:∀X',Ctx X' G CL sc.names->PIf X' ifs Dv)
  (r:∀X',Ctx X' G CL sc.names->PE X' elt Gh) (F:sepP M LZ=To) (hs:∀x,foldedSetIterable iter Se x=pure x):PS X XQ (tS X U M H0 (.set Fo i LZ)):=by obtain⟨h1,h2,h3⟩:=chkA.at h;exact PS.weak (JwB (Jfe C (scO u) (by rw[C.hN];exact h1) h2 f I B r hs)) λD Z H q=>Joi h3 F rfl q
def aOwnC(C:Al)(h:Eh)(B:scB N nm Yk sc=To)(r:Gr)(F:∀X',Ctx X' G CL sc.names->TgOk X' tg nt 'ʊ'.length)(u:∀X',Ctx X' G CL sc.names->PIf X' ifs Dv)
  (f:∀X',Ctx X' G CL sc.names->PE X' elt Gh) (hs:∀x,foldedSetIterable iter Se x=pure x):PS X XQ (tS X U M H0 (.own i LZ)):=by obtain⟨I,h2,h3,h4,h5⟩:=chkO.at h;exact PS.weak (Jfe C (scO B) (by rw[C.hN];exact I) h2 r F u f hs) λD Z H q=>Jns q
def Jub(C:Al)(r:scB N nm Yk sc=To)(f:Gr)(B:∀X',Ctx X' G CL sc.names->TgOk X' tg nt 'ʊ'.length)(u:∀X',Ctx X' G CL sc.names->PIf X' ifs Dv)
  (q:∀X',Ctx X' G CL sc.names->PE X' elt Gh) (I:∀x,foldedSetIterable iter Se x=pure x):PE X Fu My:=JhK C (scO r) f B u (λX' F _=>q X' F) I
def Jwi(C:Al)(r:scB N nm Yk sc=To)(f:Gr)(B:∀X',Ctx X' G CL sc.names->TgOk X' tg nt 'ʊ'.length)(u:∀X',Ctx X' G CL sc.names->PIf X' ifs Dv)
  (q:∀X',Ctx X' G CL sc.names->Sib X X'->PE X' elt Gh) (F:∀x,foldedSetIterable iter Se x=pure x:=by intro _;rfl):PE X Fu My:=JhK C (scO r) f B u q F
end
def aApp{f:Pos}(C:Al)(h:Eh)(F:B6)(hl:CF)(q:BW)(hs:Ob):
  PS X XB RK:=by obtain⟨r,h2,u,h4,B⟩:=chkO.at h;obtain⟨I,d2⟩:=plainN.d u;exact Jup C r B I d2 h4 q F hl hs
def aExt{f:Pos}(C:Al)(h:Eh)(F:B6)(hl:CF)(q:BW)(hs:Ob):
  PS X (.Expr Xn f) Vw:=by obtain⟨r,h2,u,h4,B⟩:=chkO.at h;obtain⟨I,d2⟩:=plainN.d u;exact Jua C r B I d2 h4 q F hl hs
def lOne(C:Al)(h:Ei):PG X B7 Qag:=by obtain⟨f,r,q⟩:=chkA.at h;exact JwP C f r q
def lTwo(C:Al)(h:Ei)(h':chkA N nm M j y=To):PG X UX Pe:=by obtain⟨f,F,r⟩:=chkA.at h;obtain⟨q,u,B⟩:=chkA.at h';exact Juu C f F r q u B
theorem eRep(hl:isL pa=To)(ha:PE X a (tF X U pa))(hb:Br):PE X Qt (tI X U (.bi .rep pa pb)):=by
 refine PE.weak (JtI JuI ha hb) λZ H Q⟨O,r,h⟩=>Dp;simp only[evD]at h;cases q:evD U pa O with
 |ok dx=>
  obtain⟨J,rfl⟩:=Jho hl q;rw[q,Rs.bo]at h;refine⟨J,rfl,λl xs H1 u k0 k1 F=>⟨O,r.mono u,'Ĥ'.mono (λI f y H2 B r2=>?_) λc z=>z.mono u⟩⟩;cases I with
  |int k=>
   simp only[op2]at f;split at f
   ·rename_i C;simp only[midI,Zc,Zs]at C;refine⟨l,k,xs,rfl,r2,B _ _ k1,by lia,by lia,by rw[F.length,ZG];exact C.2,λq hq=>?_⟩;obtain⟨s3,r3⟩:=iI (K:=X.K) hq (JjL (F.mono B) aY);exact f _ _ ((u.trans B).trans s3) r3
   ·exact f.elim
  |_=>exact(show False from f).elim
 |ex c=>rw[q]at h;exact h
 |sk=>rw[q]at h;exact h.elim
end
structure Landed(X:Cx)(H:Hp)(B h:Heap):Prop where
 tr:∀b u,H b=So u->∃o,B.get? b=So o
 kp:∀b o,X.s₀.heap.get? b=So o->b∉frs X.stack->(X.H₀ b=No->B.get? b=So o)/\∃o',B.get? b=So o'
 pn:∀p∈X.pn,B.get? p.1=So p.2
section
variable{ps:AU}{B h1 h2:Heap}
def Inv.land(hst:X.stack=Se::X.outer)(hfm:X.env.frame=So AB)(hex:X.ex=[])(I:L2.Inv X ps Z H {s with heap:=h1})(L:Landed X H B h1)(k1:B.StaysIn h1)(k2:B.StaysIn h2)(up:h1.UpToSlots h2)(t:Nat):
  L2.Inv X [] 'Ǎ' H {s with heap:=h2,toks:=t}:=by
 have hnx:∀b,b∉X.ex:=λb=>by rw[hex];simp
 have nst:∀b o,X.s₀.heap.get? b=So o->b∉X.fs->b∉frs Yt:=λb o f F U=>by
  rw[hst]at U
  unfold frs at U
  rw[wD,hfm]at U
  rcases Ze.mp U with e|U
  ·have:=Zk f
   rw[e]at this
   exact absurd (Zw this bH) Cr
  ·exact F U
 have u:=Z8
 exact{
  ok:=I.ok,os:=I.os,bare:=YB
  base:=⟨λb o f F C _=>k2 b o ((L.kp b o f Qdl).1 F),λb o f F C _=>by
    obtain⟨sl,e1⟩:=u.slot b o f F C (hnx b)
    obtain⟨_,o1,r,hd⟩:=(bZ).mem C
    rw[f]at r
    cases r
    obtain⟨sl2,e2⟩:=up b _ e1 hd
    exact⟨sl2,e2⟩,
   u.free,λb o f _=>by
    by_cases C:b∈X.fs
    ·obtain⟨_,o1,r,hd⟩:=(bZ).mem C
     rw[f]at r
     cases r
     obtain⟨sl,e1⟩:=u.slot b o f (I.ok.frf b C) C (hnx b)
     obtain⟨sl2,e2⟩:=up b _ e1 hd
     exact⟨_,e2⟩
    ·obtain⟨o',e⟩:=(L.kp b o f Qdl).2
     exact⟨o',k2 b o' e⟩,u.tups,u.frzs,u.tbls⟩
  loc:=by
   obtain⟨m,F,_⟩:=YH
   exact⟨m,up.ns F,λi x v _ q _=>by
    rw[qM]at q
    split at q<;>cases q⟩
  cell:=λx c e=>by
   obtain⟨v,o,ho,hd⟩:=I.cell x c e
   obtain⟨sl,e2⟩:=up c o ho λvs z=>by rw[hd]at z;cases z
   exact⟨v,_,e2,hd⟩
  free:=YE,freeC:=YX
  pin:=λp hp=>by
   have hp':p∈X.pn:=by simpa using hp
   obtain⟨_,q2,q3⟩:=I.pin p (yM _ hp')
   exact⟨k2 _ _ (L.pn p hp'),q2,q3⟩
  hok:=HOk.onB YC L.tr k1 k2
  len:=by simp}
def Inv.know(I:L2.Inv X ps Z H s){o:Obj}(r:H a=No)(ho:s.heap.get? a=So o)(hb:B.get? a=No)(L:Landed X H B WL)(hst:X.stack=Se::X.outer)(hfm:X.env.frame=So AB)(hex:X.ex=[])(hps:ps=[])
  {vs:Cf} (hd:o.data=.fields vs):L2.Inv X ps Z (upd H a HW) s:=by
 have U:a∉frs Yt:=λhm=>by
  obtain⟨_,o1,C,hn⟩:=I.stack.mem hm
  rw[ho]at C;cases C
  exact hn vs hd
 have hL:a≠AB:=λz=>U (by
  rw[hst]
  unfold frs
  rw[wD,hfm,z]
  exact .head _)
 have ne:∀b,b≠a->upd H a HW b=H b:=λb h=>Jc h
 exact{
  ok:=I.ok,os:=I.os,bare:=YB
  base:=⟨fQ,fS,λb f hb' hn hx=>by
    by_cases q:b=a
    ·subst q
     obtain⟨o2,e⟩:=(L.kp b f hb' U).2
     rw[hb]at e;cases e
    ·rw[ne b q];exact I.base.free b f hb' hn hx,dP,
   λb xs q=>by rw[ne b (Ji 'ϸ' r)];exact I.base.tups b xs q,λb f u q=>by rw[ne b (Ji (I.base.frzs b f u q) r)];exact I.base.frzs b f u q,λb qs q=>by
    obtain⟨m,e⟩:=I.base.tbls b qs q
    exact⟨m,by rw[ne b (Ji e r)];exact e⟩⟩
  loc:=YH,cell:=Z3
  free:=by rw[ne _ (Ne.symm hL)];exact I.free
  freeC:=λx c e=>by
   have:c≠a:=λz=>by
    obtain⟨v,o2,F,hd2⟩:=I.cell x c e
    rw[z,ho]at F;cases F
    rw[hd]at hd2;cases hd2
   rw[ne c this];exact I.freeC x c e
  pin:=λp hp=>by
   obtain⟨q1,q2,q3⟩:=I.pin p hp
   have:p.1≠a:=λz=>by
    have hp':p∈X.pn:=by rw[hps]at hp;simpa using hp
    have:=L.pn p hp'
    rw[z,hb]at this;cases this
   exact⟨q1,by rw[ne _ this];exact q2,q3⟩
  hok:=λb u e=>by
   by_cases q:b=a
   ·subst q
    rw[Je]at e;cases e
    exact⟨ho,trivial,⟨o,ho⟩,λ_ _ _ _=>trivial⟩
   ·rw[ne b q]at e
    exact(I.hok b u e).stay (λ_ _ _ z=>z) (λc z=>by rw[ne c (Ji z r)];exact z) (λc xs z=>by rw[ne c (Ji z r)];exact z) λc f u' z=>by rw[ne c (Ji z r)];exact z
  len:=aF}
end
def Inv.locals(I:BM){U:Bf}{t:Nat}(r:Heap.SameBut AB WL h')(hn:h'.Ns AB U)(hl:σ'.length=Qbl)
  (hm:∀(i:Nat)(x:Str)(v:V),X.N[i]? =So x->σ'[i]? =So Bi->Vis Cy x->∃u,RelV v u/\Look Se h' U x u):L2.Inv X Y σ' H {s with heap:=h',toks:=t}:=by
 have f:∀b o,X.s₀.heap.get? b=So o->b≠AB:=λb o e=>Zt LW
 exact{
  ok:=I.ok,os:=I.os,bare:=YB
  base:=⟨λb o e n F B=>(r.2 b QaR).trans (I.base.keep b o e n F B),λb o e n F B=>let⟨sl,e1⟩:=I.base.slot b o e n F B;⟨sl,(r.2 b QaR).trans e1⟩,I.base.free,
   λb o e B=>let⟨o',e1⟩:=I.base.there b o e B;⟨o',(r.2 b QaR).trans e1⟩,I.base.tups,I.base.frzs,I.base.tbls⟩
  loc:=⟨U,hn,hm⟩
  cell:=λy c e=>let⟨w',z⟩:=I.cell y c e;⟨w',z.sameBut r (I.cne y c e)⟩
  free:=YE,freeC:=YX
  pin:=λp hp=>let⟨e,n,ne,nf,d⟩:=I.pin p hp;⟨(r.2 p.1 ne).trans e,n,ne,nf,d⟩
  hok:=λb ob e=>(I.hok b ob e).stay (λc w' C q=>(r.2 c (by
   rintro rfl
   rcases C with rfl|C
   ·rw[I.free]at e;cases e
   ·rw[I.free]at C;cases C)).trans q) HR λ_ _ q=>q
  len:=hl}
inductive ExcCe(G:Gw)(x:Str):Prop where
 |mk C (h:PySem.W.nsIn G.K mainGlobals x=So (So (.ref C))/\G.mg x=So (.ref C)/\∃bs nid iid Bn,PySem.W.excIn G.K C bs nid=To/\ExcBaseFacts Bn nid iid bs):ExcCe G x
structure ExcC(G:Gw)(x:Str):Prop where
 ex:ExcCe G x
noncomputable abbrev Cx.mk1 (X:Cx) (E:Az) (Y:AU):Cx:={X with xe:=E,pn:=X.pn++Y}
noncomputable abbrev Cx.mk2 (X:Cx) (A:Bg) (E:Az) (Y:AU):Cx:={X with xe:=E,pn:=X.pn++Y,A:=A,calm:=Fo}
def Cx.Ok.to1(ok:X.Ok):'ֆ'.Ok:=X5
def Cx.Ok.of1(ok:'ֆ'.Ok):X.Ok:=X5
def Cx.Ok.to2(ok:X.Ok)(f:A.frames=X.A.frames):(Cx.mk2 X A E Y).Ok:=⟨ok.mod,ok.kind,ok.glob,ok.blt,ok.above,ok.inj,ok.has,ok.cab,λh=>(by cases h),f.trans ok.frames,ok.stk,ok.exf,ok.bs,ok.bsz,ok.noex,ok.exfs,ok.funs,ok.frf⟩
def Inv.to1(I:BM):L2.Inv Fj [] Z H s:=⟨Cx.Ok.to1 I.ok,I.os,YB,Z8,YH,Z3,YE,YX,λp f=>I.pin p (by simpa using f),YC,aF⟩
def Inv.of1(I:Ol):L2.Inv X Y Z H s:=⟨Cx.Ok.of1 I.ok,I.os,YB,Z8,YH,Z3,YE,YX,λp f=>I.pin p (by simpa using f),YC,aF⟩
def Inv.to2{r:Az}(I:Ol)(q:A.frames=X.A.frames):L2.Inv (Cx.mk2 X A r Y) [] Z H s:=⟨Cx.Ok.to2 (Cx.Ok.of1 I.ok) q,I.os,YB,Z8,YH,Z3,YE,YX,λp f=>I.pin p f,YC,aF⟩
def Inv.of2{q:Az}(I:L2.Inv (Cx.mk2 X A q Y) [] Z H s)(ok:X.Ok):L2.Inv X Y Z H s:=⟨ok,I.os,YB,Z8,YH,Z3,YE,YX,λp f=>I.pin p (by simpa using f),YC,aF⟩
inductive Takese(G:Gw)(rn:Str)(cs:Ag):Prop where
 |mk CR (h:G.mg rn=So (.ref CR)/\∀c∈cs,∃C,PySem.W.nsIn G.K mainGlobals c=So (So (.ref C))/\G.mg c=So (.ref C)/\PySem.W.exmOne G.K (.ref C) (.ref CR)=So To):Takese G rn cs
structure Takes(G:Gw)(rn:Str)(cs:Ag):Prop where
 ex:Takese G rn cs
def tM(X:Cx)(U:Ae)(p:Px):TE:=λZ H Q=>∃O,ReadOk X.K H Z O/\('Ơ'.bind λd=>if lK d then .ok d else .sk).Good (λd=>∀v W,Same H W->Q v W) Bz
section
variable{U:Ae}{cpos:Pos}
def Jjs(C:Al)(hc:ExcC G x)(u:chkG nm x=To)(he:PE X e (tM X U p))(hs:K5):
  PS X Xv (tS X U M H0 (.raise x p)):=by
 obtain⟨I,g1,g2,bs,nid,iid,Bn,hq,FB⟩:=hc.ex;simp only[chkG,Zc]at u;have f:X.mg x=So QcN:=by rw[C.mg];exact g2
 refine PS.weak (JoC YO (C.glo x u.1) (by rw[C.K];exact g1) f (by rw[C.K];exact hq) FB he (plainN.d u.2).1 hs) λD Z H⟨O,r,h⟩=>⟨O,r.readOk,?_⟩;simp only[exD]at h;cases q:evD U p O with
 |ok d=>
  rw[q]at h;simp only[Rs.bo]at h⊢;by_cases B:lK d=To
  ·rw[if_pos B]at h⊢;exactλv W s=>⟨rfl,λa s' F=>h I W f (r.same.trans s) a s' F⟩
  ·rw[if_neg B]at h;exact h.elim
 |ex c=>rw[q]at h;exact(show XW X H0 c from h).mono r.same
 |sk=>rw[q]at h;exact h.elim
def lY{z:Str}{k}:PE X (.Constant aV k pos) (tM X U .nil):=PE.weak JpY λZ H Q⟨O,r,h⟩=>h _ H E6
def JL(x y:Str):(x++y).length=Yo+y.length:=PySem.strLen_append x y
end
section
variable{U:Ae}{a:Expr}
def JtQ(I:BM){f:AF}(u:Ic)(r:Vals xs f)(pd:deps J<1000)(d:D):f.map (eU J f d)=J.map λC=>C.eqv d:=by have F:=Yx;have l2:=u.length;refine kR DL λj q B=>?_;simp only[Zj]at q B;rw[List.getElem_map,List.getElem_map];exact lS I u r pd (Zu q) (Zu B)
def JdX(f:α->Bool)(l:AD):l.countP f=(l.map f).countP id:=by rw[List.countP_map];rfl
def JiR:∀{J:Aq}{x:D}{n:Nat},idxD x J=So n->(∃d,J[n]? =So d/\d.eqv x=To)/\∀m d,m<n->J[m]? =So d->d.eqv x=Fo
 |[],x,n,h=>by simp[idxD]at h
 |d::J,x,n,h=>by
  unfold idxD at h
  split at h
  ·rename_i q
   cases h
   exact⟨⟨d,rfl,q⟩,λm u B=>absurd B (Nat.not_lt_zero _)⟩
  ·rename_i q
   rw[qX]at h
   obtain⟨k,I,rfl⟩:=h
   obtain⟨⟨u,C,h2⟩,F⟩:=JiR I
   refine⟨⟨u,by simpa using C,h2⟩,λm r B f=>?_⟩
   cases m with
   |zero=>simp at f;subst f;simpa using q
   |succ m=>exact F m r Ad (by simpa using f)
def Jpp(hu:Hs):MtR X "list.count" (λx xs H Q=>∃y,xs=[y]/\∃J q,Rep X.K H BL x/\Rep X.K H q y/\(op2 .count BL q).Good BH Bz):=by
 rintro Y s Z H x xs v us Q I rx rv⟨y,e,J,q,r1,r2,h⟩;subst e;obtain⟨u,rfl,ru⟩:=rB rv;simp only[op2]at h;split at h
 ·rename_i B;simp only[JZ,Zc,Zs]at B;have hdep:deps J+1<=20:=B.1.1;obtain⟨l,zs,rfl,h1,h2⟩:=r1;cases rx;obtain⟨its,f,⟨o,n,C,c1,d1,k1⟩,_⟩:=I.list h1;obtain⟨oc,od,oda,r⟩:=o;simp only at c1 d1 k1;subst c1;subst d1;subst k1;refine xA Qb2 ⟨_,C,rfl⟩ F.entry_list_count (F.args_list_count_2 _ _) (SeqAt.list_countAt l AA n No r u (eU J its q)) ⟨C,nT hu I h2 f r2 ru Ad B.1.2,?_⟩;refine⟨.int _,H,I.tok _,Au,?_⟩;rw[JdX,JtQ I h2 f 'c',<-JdX];exact Out.now h rfl
 ·exact h.elim
theorem JnO(hu:Hs):MtR X "list.index" (λx xs H Q=>∃y,xs=[y]/\∃J f,Rep X.K H BL x/\Rep X.K H f y/\(op2 .index BL f).Good BH Bz):=by
 rintro Y s Z H x xs v us Q I rx rv⟨y,e,J,f,r1,r2,h⟩;subst e;obtain⟨u,rfl,ru⟩:=rB rv;simp only[op2]at h;split at h
 ·rename_i hc;simp only[JZ,Zc,Zs]at hc;have hdep:deps J+1<=20:=hc.1.1;cases q:idxD f J with
  |none=>rw[q]at h;exact h.elim
  |some j=>
   rw[q]at h;obtain⟨⟨d',g1,g2⟩,g3⟩:=JiR q;obtain⟨l,zs,rfl,h1,h2⟩:=r1;cases rx;obtain⟨its,r,⟨o,n,e1,c1,d1,k1⟩,_⟩:=I.list h1;obtain⟨oc,od,oda,osl⟩:=o;simp only at c1 d1 k1;subst c1;subst d1;subst k1;have l1:=Yx;have l2:=h2.length;have hj:j<Ac:=(ZB.mp g1).1;have C:∀(m:Nat)(B:m<Dr),eU J its f AA[m]=(J[m]'(by simp at B;lia)).eqv f:=λm B=>by
    have hm':m<its.length:=by simpa using B
    have:=lS I h2 r Ad (d:=f) (j:=m) (Zu hm') (Zu (by lia:m<Ac));simpa using this
   refine xA Qb3 ⟨_,e1,rfl⟩ F.entry_list_index (F.args_list_index_2 _ _) (SeqAt.list_indexAt l AA n No osl u (eU J its f) j DL Ad ?_ ?_) ⟨e1,nT hu I h2 r r2 ru Ad hc.1.2,?_⟩
   ·rw[C j 'Ï'];have:J[j]=d':=by rw[Zu hj]at g1;simpa using g1
    rw[this];exact g2
   ·intro m B hlt;rw[C m B];exact g3 m _ hlt (Zu (by simp at B;lia))
   ·exact⟨.int _,H,I.tok _,Au,Out.now h rfl⟩
 ·exact h.elim
def JjP{id:A9}{name:Str}{o:O2}(I:Slot "list" name id)(hty:S4)(ho:∀dx C,(∀J,dx≠.lst J)->op2 o dx C=.sk)
  (hm:MtR X id (λx xs H Q=>∃y,xs=[y]/\∃J C,Rep X.K H BL x/\Rep X.K H C y/\(op2 o BL C).Good BH Bz)) (ha:AJ) (hb:Br) (hn:noEx pb=To) (hl:CF)
  (u:'г' (attributeBase a name Se CS=eval a Se) Ai) (hs:Hn):PE X Xa K4:=by
 refine PE.weak (nN F.plainAttrs_list I hty hm ha (JE hb rA hs) u (by rw[hs];rfl) hl hs rfl) λZ H Q h=>?_;obtain⟨O,r,h⟩:=h;refine tI.then r h λdx x H1 s1 r1 q1 B=>?_;cases f:evD U pb O with
 |ex c=>exact absurd f (Jhu U pb O c hn)
 |sk=>rw[f]at B;exact B.elim
 |ok C=>
  rw[f]at B;simp only[Rs.bo]at B;have ty:∃J,dx=.lst J:=by
   cases dx with
   |lst J=>exact⟨J,rfl⟩
   |_=>rw[ho _ _ (by intro J;simp)]at B;exact B.elim
  obtain⟨J,rfl⟩:=ty;obtain⟨l,xs,rfl,g1,g2⟩:=(show _ from r1);refine⟨.inl ⟨rfl,xs,g1⟩,O,q1,?_⟩;rw[f];intro y H2 s2 r2;exact⟨y,rfl,J,C,r1.mono s2,r2,B.mono (λ_ o=>o.mono s2) λ_ q=>q.mono s2⟩
end
section
open PySem.W PySem.Calls
variable{K:Frag}{x D:Addr}
structure ExKit(K:Frag)(D:Addr):Prop where
 g:findIn K Dl "__getattribute__"=So (So MO)
 n:findIn K Dl "__getattr__"=So No
 b:mroIn K D QM=So To
 d:hasDictIn K D=To
 a:findIn K Dl "__class__"=So (So Fq)
 s:specialIn K Fq "__get__"=So (So Ld)
 t:takesIn K Fq=So To
 m:mroIn K D Qba=So To
open Builtin.ObjectAttr in
def Joz{M:Model}(f:K.In h)(q:Eu):Looks M h (find Ck Dl "__class__") (.bind Ld Fq):=by
 have r:=looks_takesIn (M:=M) f q.t
 have u:Looks M h (dataDescriptor? (So Fq) (So Ld)) (So (.builtin "getset_descriptor.__get__",.builtin "object.__class__")):=by
  unfold dataDescriptor?
  exact Looks.andThen r .now
 exact(looks_findIn (M:=M) f q.a).andThen ((looks_specialIn (M:=M) f q.s).andThen (u.andThen (Looks.tag .now)))
open Builtin Builtin.ObjectAttr Builtin.Getset_descriptor in
def Jtf{tp:Am}(f:Ga)(lt:UO)(r:Eu)(q:OT):codeAny As A (.call Ld ⟨[.builtin "object.__class__",.ref x,tp],[]⟩) R s:=by
 obtain⟨I,u,F,C,U⟩:=s
 have B:=looks_mroIn (M:=model prog w) f r.m
 refine(uW KF.slot_gs.plain KF.entry_gs (KF.slot_gs.check _ _ _ _ _ _ _ _ KF.type_class (KF.args_gs _ _ _) ?_))
 (unfold Builtin.«getset_descriptor.__get__» descrGet);(rw[dga_obj]);(refine Za (Zb ?_))
 (unfold descrGetter descrCheckInstance descrNameAndClass isInstance);(simp only[KF.owner_class]);(repeat lk)
 refine⟨(Code.quiet_builtin _ Ab),vF KF.entry_class ?_⟩
 (unfold Builtin.«object.__class__» shownTypeOf);(repeat lk);exact q
open Builtin Builtin.ObjectAttr in
def Jpd{tk:Tok}(f:Ga)(lt:UO)(r:Eu)(u:OT):codeAny As A (.call MO ⟨[.ref x,.str "__class__" tk],[]⟩) R s:=by
 obtain⟨h0,C,d0,U,o0⟩:=s
 have I:=looks_mroIn (M:=model prog w) f r.b
 have e3:=Joz (M:=model prog w) (x:=x) f r
 have B:builtinKind "BaseException.__getattribute__"=So .slot:=Ab
 have q:splitId "BaseException.__getattribute__"=So ("BaseException","__getattribute__"):=Ab
 have F:=PySem.F.args_bexc_ga Ck (.str "__class__" tk)
 refine uW PySem.F.excAttr_ValueError.ga.plain PySem.F.entry_bexc_ga ?_
 (simp only[checkBuiltinCall,B,q]);(refine Za ?_);(unfold isInstance);(repeat lk)
 exact wpAny_run (Jtf f lt r (Zb (Zb u)))
def JmV{Q:Em}(f:Ga)(lt:UO)(q:Eu)(u:Q (So Dl) {s with toks:=Yp+1}):wpAny As A (getAttr? Ck "__class__") Q E s:=by obtain⟨U,r,F,B,o0⟩:=s;have I:=looks_findIn (M:=model prog w) f q.g;have C:=looks_findIn (M:=model prog w) f q.n;have f3:=PySem.F.excAttr_ValueError.ga.bind Ck;(unfold getAttr? getAttrBy? getAttrBy);(refine Za (wpAny_mkText (Za (pC (jB (Za (lt.at (Za (I.at ?_)))))))));(show wpAny _ _ (getAttrByItsOwn Ck _ Dl MO Fo Fo) _ _ _);(unfold getAttrByItsOwn);refine Za (m:=hookBefore Dl) (C.at ?_);refine Za (pC (jB ?_));(show wpAny _ _ (boundAndCalled _ _ _) _ _ _);(unfold boundAndCalled);(rw[f3]);(refine Za (Zb ?_));refine jH (Jpd (s:=⟨U,r,F,B+1,o0⟩) f lt q ?_);exact Zb (Zb u)
def JnL{ox:Obj}(I:Eu):KitX K Ck Dl (λh=>h.get? x=So ox/\ox.cls=.ref D)where
 ty:=λ_ _ _⟨u,C⟩=>C▸(Looks.ld u).andThen .now
 it:=λ_ _ f _=>by
  obtain⟨U,r,_⟩:=any_some I.d
  unfold clsIn at r
  split at r
  ·rename_i B
   intro A' Q' E' s' k q
   (unfold isType loadHead);exact Za (wpAny_loadPart (k _ _ (f _ _ B)) (Zb q))
  ·cases r
 ne:=λh tp dd its n sl f F=>by
  obtain⟨U,r,_⟩:=any_some I.d
  refine(Bool.eq_false_iff.mpr λq=>?_)
  have e:D=tp:=Value.ref.inj (ZA.mp q)
  subst e
  unfold clsIn at r
  split at r
  ·rename_i B
   have z:=(f _ _ B).symm.trans F
   cases z
  ·cases r
 ca:=λf⟨u,C⟩k=>JmV f (C▸(Looks.ld u).andThen .now) I k
end
inductive IsaCe(G:Gw)(t:Str)(cs:Ag):Prop where
 |mk (u:Value) (v:V) (h:RelV v u/\(G.mg t=So u\/(G.mg t=No/\bootBuiltins t=So u/\t≠"__name__"))/\∀c∈cs,∃C,PySem.W.nsIn G.K mainGlobals c=So (So (.ref C))/\ExKit G.K C/\PySem.W.kitOne G.K (.ref C) u=So (t==oS "ValueError"||c==t)):IsaCe G t cs
structure IsaC(G:Gw)(t:Str)(cs:Ag):Prop where
 ex:IsaCe G t cs
section
variable{U:Ae}{a:Expr}{t:Str}{cs:Ag}
def Jvx{u:Am}(B:EH)(hc:∀c∈cs,∃C,PySem.W.nsIn X.K mainGlobals c=So Bv/\ExKit X.K C/\PySem.W.kitOne X.K AV u=So (t==oS "ValueError"||c==t)):
  pA X Ui (λxs H Q=>∃x d,xs=[x,v]/\Rep X.K H d x/\(op1 (.isC cs t) d).Good BH Bz):=by
 rintro Y s Z H xs us Q I rvs⟨x,d,e,r,h⟩;subst e;obtain⟨u1,u2,rfl,r1,F⟩:=kY rvs;cases d with
 |exc c=>
  simp only[op1]at h;split at h
  ·rename_i hin;obtain⟨C,g1,Z9,f⟩:=hc c (by simpa using hin);obtain⟨a,o,C',rfl,k1,k2,k3⟩:=r;rw[g1]at k3;cases k3;cases r1;obtain⟨ho,_⟩:=I.hok a _ k1;have e2:u2=u\/True:=.inr trivial;have h2:PySem.W.kitOne X.K AV u2=So (t==oS "ValueError"||c==t):=by
    have:∀{w:V}{p q:Am},RelV w p->RelV w q->(∀T,w≠.ty T)->(∀b,w≠.ref b)->True:=λ_ _ _ _=>trivial;cases v with
    |ref b=>cases B;cases F;exact f
    |ty T=>cases B;cases F;exact f
    |non=>cases B;cases F;exact f
    |bl b=>cases B;cases F;exact f
    |_=>obtain⟨_,rfl⟩:=B;first|(unfold PySem.W.kitOne PySem.W.kitCls at f;simp at f;done)|exact absurd f (by simp[PySem.W.kitOne,PySem.W.kitCls])
   exact pH (JnL (ox:=o) Z9) Y8 ⟨ho,k2⟩ h2 (λz=>nomatch z) λtk=>⟨.bl _,H,I.kept (t':=tk) (λ_ _ q=>q),rfl,Out.now h rfl⟩
  ·exact h.elim
 |_=>exact(show False from h).elim
end
def zG(a b:Z2):(keyV a).eqv (keyV b)=decide (a=b):=by cases a<;>cases b<;>first|exact(Zp nofun).symm|exact(ZD rfl).symm|exact(Jqd _ _).symm|exact(Jqa _ _).symm
def uO{d:D}(h:keyD Fo d=To):∃k,d=keyV k:=by
 cases d with
 |int i=>exact⟨.inl i,rfl⟩
 |str x=>exact⟨.inr x,rfl⟩
 |non=>exact⟨.non,rfl⟩
 |_=>simp[keyD,keyB]at h
def lO{k:Z2}{y:V}(r:Rep K H ET y):y=kV k:=by cases k<;>cases r<;>rfl
noncomputable def iY (k:List (KTr Z2)):D:=.tup (zN k)
mutual
def JpO{K:Ak}{H:Hp}:∀(k:KTr Z2){v:V},KH H k v->Rep K H (JuT k) v
 |.a k,v,h=>by cases(show v=kV k from h);cases k<;>rfl
 |.t ks,v,⟨a,xs,e,h1,h2⟩=>⟨a,xs,e,.inl h1,JlY ks h2⟩
def JlY{K:Ak}{H:Hp}:∀(ks:List (KTr Z2)){xs:Aw},KHs H ks xs->Reps K H (zN ks) xs
 |[],_,h=>h
 |k::ks,_,⟨v,r,e,h1,h2⟩=>⟨v,r,e,JpO k h1,JlY ks h2⟩
end
def banV:Value->Nat
 |.str x _=>if banD x then 1 else 0
 |_=>0
def NoKT(K:Ak):Prop:=∀(y:Str)(b:Addr)(o:Obj)(f:Cf)(n:Nat),ModT K y b->K.lookup b=So o->o.cls=.type "tuple"->o.data=.seq f n->2<=(f.toList.map banV).sum
def JqI{d:D}(h:keyD To d=To):False:=by cases d<;>cases h
section
variable{κ:Type}[DecidableEq κ]{g:κ->D}
def look_of(u:∀a b,(g a).eqv (g b)=decide (a=b)){k:κ}:∀{f:BD}{vs:Aq},Reps K H vs (f.map (·.2))->match oA (g k) (f.map λp=>g p.1) vs with
  |some d=>∃v,valV f k=So v/\Rep K H d v
  |none=>valV f k=No
 |[],vs,h=>by
  cases vs with
  |nil=>rfl
  |cons _ _=>obtain⟨_,_,e,_⟩:=h;cases e
 |p::f,vs,h=>by
  cases vs with
  |nil=>cases h
  |cons d vs=>
   obtain⟨x,r,e,B,F⟩:=h
   simp only[Zg,nQ]at e
   obtain⟨rfl,rfl⟩:=e
   simp only[Zg,oA,u]
   by_cases q:p.1=k
   ·simp only[q,decide_true,if_true]
    exact⟨p.2,Jfv q,B⟩
   ·simp only[q,decide_false,Zo,ZN]
    have C:=look_of u (k:=k) F
    rw[Jft q];exact C
def hZ(q:∀a b,(g a).eqv (g b)=decide (a=b)){k:κ}(f:BD):((f.map λp=>g p.1).any λd=>d.eqv (g k))=(valV f k).isSome:=by rw[<-JfK,vL];simp only[ZL,q]
def wY(I:∀a b,(g a).eqv (g b)=decide (a=b)){k:κ}{d:D}(C:D5){f:BD}{vs:Aq}(h:Reps K H vs (f.map (·.2))):
  (putD (g k) d (f.map λp=>g p.1) vs).1=(putK f k v).map (λp=>g p.1)/\Reps K H (putD (g k) d (f.map λp=>g p.1) vs).2 ((putK f k v).map (·.2)):=by
 have B:=hZ I (k:=k) f;rw[<-JfK]at B;unfold putD putK;rw[B];by_cases q:(f.any λU=>decide (U.1=k))=To
 ·rw[if_pos q,if_pos q];refine HH
  ·show f.map _=_;rw[Zr];refine vD λp _=>?_;show g p.1=g (if p.1=k then(p.1,v)else p).1;split<;>rfl
  ·clear q B;show Reps K H (setD _ _ _ _) _;induction f generalizing vs with
   |nil=>
    cases vs with
    |nil=>rfl
    |cons _ _=>obtain⟨_,_,e,_⟩:=h;cases e
   |cons p f ih=>
    cases vs with
    |nil=>cases h
    |cons u vs=>
     obtain⟨x,r,e,h1,h2⟩:=h;simp only[Zg,nQ]at e;obtain⟨rfl,rfl⟩:=e;simp only[Zg,setD,I];refine⟨_,_,rfl,?_,ih h2⟩;by_cases F:p.1=k
     ·simp only[F,decide_true,if_true];exact C
     ·simp only[F,decide_false,Zo,ZN];exact h1
 ·rw[if_neg q,if_neg q];refine⟨by simp,?_⟩;simp only[uA,Zg,sE];exact h.append (Reps.one C)
end
def dk_k{ks:Aq}(h:DK H a Fo z ks xs):∃kvs:List (L2.Key×V),Rd H a A3/\ks=kvs.map (λp=>keyV p.1)/\xs=kvs.map (·.2):=by
 cases z<;>obtain⟨kvs,f,q⟩:=h
 ·exact⟨kvs,.inl f,q⟩
 ·exact⟨kvs,.inr f,q⟩
def dk_t{ks:Aq}(h:DK H a To z ks xs):∃f:List (List (KTr Z2)×V),Rd H a (.dT f)/\ks=f.map (λp=>iY p.1)/\xs=f.map (·.2):=by
 cases z<;>obtain⟨f,q,r⟩:=h
 ·exact⟨f,.inl q,r⟩
 ·exact⟨f,.inr q,r⟩
section
variable{X:Cx}{U:Ae}{G:Gw}{N:Ag}{nm:Bd}{e a b:Expr}{p pa pb:Px}{pos p1:Pos}{x:Str}{i:Nat}{M:Aj}{H0:Hp}{px:Pos}
def JhY{ks vs:Aq}{q:D}{x y:V}(hK:t=To->NoKT X.K)(r1:Rep X.K H (.dct t z ks vs) x)(C:Rep X.K H q y)(r:keyD t q=To):∃l o,x=.ref l/\DGet H l y o/\(ks.any λd=>d.eqv q)=eB/\∀d,oA q ks vs=So d->∃v,o=So v/\Rep X.K H d v:=by
 obtain⟨l,xs,rfl,u,F⟩:=r1;cases t with
 |false=>obtain⟨f,B,rfl,rfl⟩:=dk_k u;obtain⟨k,rfl⟩:=uO r;have:=lO C;subst this;refine⟨l,valV f k,rfl,.inl ⟨f,k,B,rfl,rfl⟩,hZ zG f,λd I=>?_⟩;have:=look_of zG (k:=k) F;rw[I]at this;exact this
 |true=>exact(JqI r).elim
def eDGet(C:Al){t':Bool}(hK:t'=To->NoKT G.K)(ha:AJ)(I:Br)(hs:NoSl b):PE X NC (tI X U (.bi (.dGet t') pa pb)):=by
 have hu:=C.un;refine PE.weak (JrC Ad ha I hs) λZ H Q B=>?_;obtain⟨O,r,h⟩:=B;refine tI.then r h λdx x H1 s1 r1 q1 h1=>tI.then q1 h1 λdy y H2 s2 r2 q2 h2=>?_;obtain⟨t,z,ks,F,rfl,f⟩:=Jjh h2;split at f
 ·rename_i u;obtain⟨rfl,u⟩:=u;obtain⟨l,o,e1,g,_,hl⟩:=JhY (by rw[C.K];exact hK) Lw r2 u;cases q:oA dy ks F with
  |none=>rw[q]at f;exact f.elim
  |some d=>rw[q]at f;obtain⟨v,e2,rv⟩:=hl d q;subst e2;exact⟨l,v,e1,g,Out.now f rv⟩
 ·exact f.elim
def rZ{g:Bool->Bool}{t':Bool}{q u:D}{x y:V}{P:D->Prop}{E:Dc}(I:t'=To->NoKT X.K)(r1:Rep X.K H q x)(C:Rep X.K H u y)
  (h:(onD u λt ks _=>if t=t'/\keyD t q=To then .ok (.bl (g (ks.any λd=>d.eqv q)))else .sk).Good P E):∃l o,y=.ref l/\DGet H l x o/\P (.bl (g eB)):=by
 obtain⟨t,z,ks,vs,rfl,f⟩:=Jjh h;split at f
 ·rename_i r;obtain⟨rfl,r⟩:=r;obtain⟨l,o,e1,B,F,_⟩:=JhY I C r1 r;rw[F]at f;exact⟨l,o,e1,B,f⟩
 ·exact f.elim
def eDIn(C:Al){t':Bool}(hK:t'=To->NoKT G.K)(ha:AJ)(hb:Br)(B:behindInMarks .In b=Fo):PE X NX (tI X U P1):=by have hu:=C.un;refine PE.weak (JuQ Qcc B) λZ H Q f=>?_;obtain⟨O,r,h⟩:=f;refine tI.then r h λdx x H1 s1 r1 q1 u=>tI.then q1 u λdy y H2 s2 I q2 F=>?_;obtain⟨l,o,e1,g,q⟩:=rZ (g:=id) (by rw[C.K];exact hK) Lw I F;exact Uz
def tDIn(C:Al){t':Bool}(hK:t'=To->NoKT G.K)(ha:AJ)(hb:Br)(B:'г' (behindInMarks .In b=Fo) Ai):PT X NX (tT X U P1):=by have hu:=C.un;refine PT.weak (xY Qcc B) λZ H Q f=>?_;obtain⟨O,r,h⟩:=f.asTest;refine tI.then r h λdx x H1 s1 r1 q1 u=>tI.then q1 u λdy y H2 s2 I q2 F=>?_;obtain⟨l,o,e1,g,q⟩:=rZ (g:=id) (by rw[C.K];exact hK) Lw I F;exact Uz
def tDNi(C:Al){t':Bool}(hK:t'=To->NoKT G.K)(ha:AJ)(hb:Br)(B:behindInMarks .NotIn b=Fo):PT X (.Compare a [.NotIn] [b] pos) (tT X U (.bi (.dNi t') pa pb)):=by have hu:=C.un;refine PT.weak (xY (Jmk Ad ha hb) B) λZ H Q f=>?_;obtain⟨O,r,h⟩:=f.asTest;refine tI.then r h λdx x H1 s1 r1 q1 u=>tI.then q1 u λdy y H2 s2 I q2 F=>?_;obtain⟨l,o,e1,g,q⟩:=rZ (g:=not) (by rw[C.K];exact hK) Lw I F;exact Uz
def Jvw(C:Al)(h:Eh)(hs:swapsWith Qbb Qax Yy Se=pure Fo):PS X (.Assign dJ Qbb pos) (tS X U M H0 (.ownD Fo i)):=by
 obtain⟨u,I,h3,h4,h5⟩:=chkO.at h;obtain⟨k1,F⟩:=C.sto x I;refine PS.weak (qG DJ (by rw[C.hN];exact u) k1 Jjj hs F) λD Z H f=>?_;obtain⟨O,e,h⟩:=f;intro l r;have s:Same H (upd H l QcJ):=λb o q=>by rw[Jc (Ji q r)];exact q
 obtain⟨e2,B⟩:=e.putOwn s (i:=i) (d:=.dct Fo Fo [] []) r λHh tp=>⟨rfl,[],⟨[],Je,rfl,rfl⟩,rfl⟩;exact h _ _ e2 ⟨B,λ_=>s⟩
theorem aPut{b v:Expr}{I pv:Px}{ps:Pos}(C:Al){t':Bool}(hK:t'=To->NoKT G.K)(h:Eh)(hb:PE X b (tI X U I))(hv:PE X v (tI X U pv))(h1:sepP M I=To)(h2:sepP M pv=To)
  (hs:swapsWith v (So (.Subscript FD b ps)) Yy Se=pure Fo):PS X (.Assign [.Subscript FD b ps] v pos) (tS X U M H0 (.put Fo t' i I pv)):=by
 obtain⟨g1,g2,g3,g4,g5⟩:=chkO.at h;obtain⟨d1,d2⟩:=plainN.d g3;have hu:=C.un;refine PS.weak (JlU Ad (iC (by rw[C.hN];exact g1) IU d1 d2) (oE hb) (oE hv) hs) λD Z H zz0=>?_;obtain⟨O,e,h⟩:=zz0;simp only[exD]at h;cases q:O[i]? with
 |none=>rw[q]at h;exact h.elim
 |some o=>
  rw[q]at h;cases o with
  |none=>exact h.elim
  |some d=>
   cases d with
   |dct t z ks vs=>
    cases z with
    |true=>exact h.elim
    |false=>
     simp only at h;obtain⟨l,B,h0,hz,xs,hl,hr⟩:=e.own i _ g4 q;refine L4;rw[Jw U O h2];refine(Rs.gB.mp h).mono (λdv hdv v H1 s1 k1 r1=>?_) λc z=>z.mono Z6;have F:=e.grow s1;refine⟨.ref l,B,Jv M 0 O,Ow M O Z,F.ows,F.readHid,?_⟩;rw[Jw U O h1];refine(Rs.gB.mp hdv).mono (λdk f y u s2 k2 r2=>?_) λc z=>z.mono F.same0;split at f
     ·exact f.elim
     ·rename_i r;simp only[rC,nM,kC,not_or,kB,lR,Bool.not_eq_false,xJ,Decidable.not_not,ZA,Zq,ne_eq]at r;obtain⟨⟨htt,hc1⟩,hc2⟩:=r;have r:=mB hc1 hc2;subst htt;have e2:=F.grow s2;have f2:Same CN eR:=(Fz.sm Ds).hid;have f3:Same IW eR:=(Fz.sm s2).hid;have fin:∀ob,OwnIs X.K eR (upd u l ob) l (.dct t Fo (putD dk dv ks vs).1 (putD dk dv ks vs).2)->D.nx Z (upd u l ob):=λob nw=>by obtain⟨e3,f4⟩:=e2.change (o:=ob) g4 q B nw;exact f _ _ e3 ⟨(Fz.sm Ds).trans f4,λz=>by cases z⟩
      cases t with
      |true=>exact(JqI r.1).elim
      |false=>
       obtain⟨k,rfl⟩:=uO r.1;have hy:=lO r2;subst hy;obtain⟨kvs,w1,rfl,rfl⟩:=hl;have w2:u l=So A3:=s2 _ _ (s1 _ _ w1);have hlen:BG<1000:=by simpa using r.2
       refine⟨l,_,rfl,DPut.k (k:=k) w2 (by show _<16777216;lia),fin _ ?_⟩;obtain⟨p1,p2⟩:=wY zG (k:=k) (r1.mono f3) (hr.mono f2);exact QbZ
   |_=>exact h.elim
end
def JrG(I:BM){kvs:List (L2.Key×V)}(e:H l=So A3):∃o,L2.Inv X Y Z (upd H l (.frz o A3)) s:=by obtain⟨z,B,C,f,u⟩:=oY YC e;obtain⟨o,es,ep,r,_⟩:=id u;exact⟨o,I.write (t':=Yp) (x:=l) (e:=l) (h':=WL) (by rw[e];exact jA) BJ Nk ⟨o,r⟩ ⟨r,z,B,C,f,u⟩⟩
def JsD(I:BM){f:List (List (KTr Z2)×V)}(e:H l=So (.dT f)):∃o,L2.Inv X Y Z (upd H l (.frz o (.dT f))) s:=(show False from I.hok l _ e).elim
def Jda:∀{J:Aq}{xs:Aw},Reps K H J xs->Reps K H Qc8 Y2
 |[],_,h=>by cases h;rfl
 |d::J,xs,h=>by
  obtain⟨x,r,rfl,f,q⟩:=h
  rw[rR,rR]
  exact(Jda q).append (Reps.one f)
section
variable{U:Ae}{a:Expr}
def aRetF(C:Al)(h:Eh):PS X (.Return Qax pos) (tS X U M H0 (.retF i)):=by
 obtain⟨g1,g2,g3,g4,g5⟩:=chkO.at h;obtain⟨d1,d2⟩:=plainN.d g3;rintro Y s Z H D I⟨O,e,h⟩;simp only[exD]at h;cases q:O[i]? with
 |none=>rw[q]at h;exact h.elim
 |some o=>
  rw[q]at h;cases o with
  |none=>exact h.elim
  |some d=>
   cases d with
   |dct t z ks vs=>
    cases z with
    |true=>exact h.elim
    |false=>
     obtain⟨l,hσ,h0,hz,xs,hl,hr⟩:=e.own i _ g4 q;have hlo:l∈Ow M O Z:=mem_Ow.mpr ⟨i,g4,_,q,hσ⟩;have fin:∀ob,Rep X.K IT SK BK->D.rt BK IT:=λob r=>h _ _ (λb o' B=>by rw[Jc (Ji B h0)];exact e.same b o' B) r;have rr:∀ob,Reps X.K IT vs xs:=λob=>hr.mono λb o' B=>by
      by_cases z:b∈Ow M O Z
      ·rw[wI z]at B;cases B
      ·rw[JF z]at B;rw[Jc (λk:b=l=>z (k▸hlo))];exact B
     refine ZT (nI (iC (by rw[C.hN];exact g1) IU d1 d2) Y s Z H ⟨λ_ _=>False,λv W=>v=.ref l/\W=H,λ_ _=>False,λ_ _=>False⟩ I ⟨.ref l,hσ,rfl,rfl⟩) (λf s1 r=>?_) λ_ _ z=>z;cases f with
     |next=>obtain⟨_,_,_,z⟩:=r;exact z.elim
     |brk=>obtain⟨_,_,_,z⟩:=r;exact z.elim
     |cont=>obtain⟨_,_,_,z⟩:=r;exact z.elim
     |ret u=>
      obtain⟨v,σ',W,I',rv,rfl,rfl⟩:=r;cases t with
      |false=>obtain⟨F,w1,rfl,rfl⟩:=hl;obtain⟨o,I2⟩:=JrG I' w1;exact XS
      |true=>obtain⟨F,w1,rfl,rfl⟩:=hl;obtain⟨o,I2⟩:=JsD I' w1;exact XS
   |_=>exact h.elim
theorem eRev{st:Expr}{ps:Px}(ha:AJ)(hb:PE X st (tI X U ps))(hz:∀O,evD U ps O=.ok (.int (-1))):PE X (.Subscript a Ra pos) (tI X U (.un .rev pa)):=by
 rintro Y s Z H Q I⟨O,r,h⟩;refine Subscript_ (thn (ha Y s Z H (λx H1=>Same H H1/\∃d,Rep X.K H1 d x/\(op1 .rev d).Good BH Bz) I ⟨O,r,'Ĥ'.imp λd hd v W F rv=>⟨F,d,rv,hd⟩⟩) λv s1 f=>?_);obtain⟨x,H1,I1,r1,sm,d,rd,q1⟩:=f;cases d with
 |lst J=>
  obtain⟨l,xs,rfl,h1,h2⟩:=rd;cases r1;have hn:∀{t:Ao},wpAny Av X.A (evalPart No Se) (λu F=>u=.none/\F=t) X.xe t:=fun{t}=>by rw[evalPart_none];exact Zb CU
  refine wpAny_Slice (thn hn λvl s2 f=>?_);obtain⟨e1,e2⟩:=f;subst e1;subst e2;refine thn hn λvu s2 f=>?_;obtain⟨e1,e2⟩:=f;subst e1;subst e2;rw[evalPart_some];refine thn (hb Y s2 Z H1 (λx H2=>Same H1 H2/\x=.int (-1)) I1 ⟨O,r.mono sm,by rw[hz];exactλv W F rv=>⟨F,rv⟩⟩) λvk B f=>?_;obtain⟨y,H3,I3,r3,C,q3⟩:=f;subst q3;obtain⟨tk,rfl⟩:=r3;have I4:L2.Inv X Y Z H3 {B with heap:=B.heap.push {cls:=.type "slice",data:=.fields #[.none,.none,.int (-1) tk]}}:=I3.kept (t':=B.toks) λb ob q=>Zd _ q;obtain⟨its,rr,ht,hzz⟩:=I4.list (C.seq h1);have hlen:=rr.length;(show wpAny Av X.A (subscriptTail a Ra BK (.ref QcD)) _ X.xe {B with heap:=B.heap.push {cls:=.type "slice",data:=.fields #[.none,.none,.int (-1) tk]}});refine tail_any (ops:=[.ref l,.ref QcD]) ht.isList.typeIs aE (wpAny_getItem_list_slice ht.isList (Heap.IsSliceOf.new ..) .none .none (.int (-1) tk) Ax ?_ (by rw[Zn]<;>lia)) (by with_unfolding_all rfl);rw[PySem.W.krv_pick];have hr:Reps X.K H3 Qc8 Y2:=Jda (h2.mono C);have fr:∀{p:Addr},H3 p=No->Same H3 (upd H3 p (.lst Y2)):=fun{p}h0 b o q=>by rw[Jc (Ji q h0)];exact q
  have h0:=I4.hok.fresh (Zh _);refine⟨.ref _,_,I4.laid (t':=B.toks) (o:=.lst Y2) ND (Zh _) ⟨by rw[List.length_reverse];exact hzz,_,0,rr.reverse,Zf _ rfl⟩,rfl,?_⟩;exact q1 _ _ ((sm.trans C).trans (fr h0)) ⟨_,_,rfl,SqL.of Je,hr.mono (fr h0)⟩
 |_=>exact(show False from q1).elim
end
def gQ{d:D}(h:(Jv is 0 O)[i]? =So BB):i∉is/\O[i]? =So BB:=by
 rw[zI]at h;cases q:O[i]? with
 |none=>rw[q]at h;cases h
 |some s=>
  rw[q]at h;simp only[rJ,iJ,ZR]at h;split at h
  ·cases h
  ·rename_i f;exact⟨f,by rw[h]⟩
def Jgd:∀(O:Fm)(j:Nat),(Jv is j O).length=O.length
 |[],_=>rfl
 |s::O,j=>by simp[Jv,Jgd O (j+1)]
noncomputable def swB (M M2 is:Aj):Bool:=(M++M2).all λi=>is.contains i||(M.contains i&&M2.contains i)
def swB.at{M2:Aj}(h:swB M M2 is=To)(hi:i∉is):i∈M↔i∈M2:=by
 have k:∀j∈M++M2,j∉is->j∈M/\j∈M2:=λj r f=>by have:=wA.mp h j r;simp only[kC,Zc,List.contains_iff_mem]at this;exact this.resolve_left f
 exact⟨λq=>(k i (by simp[q]) hi).2,λq=>(k i (by simp[q]) hi).1⟩
def EnvOk.switch{M2:Aj}(e:CW)(C:swB M M2 is=To):EnvOk K M2 H0 H Z Ln:=by
 have sub:∀a,a∈Ow M2 Ln Z->a∈Ow M O Z:=λa ha=>by
  obtain⟨i,f,d,U,h2⟩:=mem_Ow.mp ha
  obtain⟨r,u⟩:=gQ U
  exact mem_Ow.mpr ⟨i,'ӛ'.mpr f,d,u,h2⟩
 have sm:Same CN (hid (Ow M2 Ln Z) H):=JjM λa o h I=>⟨h,λhm=>I (sub a hm)⟩
 exact{
  same:=aD
  len:=by rw[Jgd];exact e.len
  read:=λi d f h=>by
   obtain⟨r,u⟩:=gQ h
   obtain⟨v,F,B⟩:=e.read i d (λq=>f ('ӛ'.mp q)) u
   exact⟨v,F,B.mono sm⟩
  own:=λi d f h=>by
   obtain⟨r,u⟩:=gQ h
   obtain⟨l,F,B,h7⟩:=e.own i d ('ӛ'.mpr f) u
   exact⟨l,F,B,h7.mono sm λ_ q=>q⟩
  apart:=λi j l d d' f hj I U h2=>by
   obtain⟨r,u⟩:=gQ U
   obtain⟨F,B⟩:=gQ h2
   exact e.apart i j l d d' ('ӛ'.mpr f) ((swB.at C F).mpr hj) I u B}
section
variable{X:Cx}{U:Ae}{M M2 is:Aj}{H0:Hp}{e:Expr}{p:Px}{b:Sx}{pos:Pos}{rest:BI}
def sS_sw(u:swB M M2 is=To)(h:PSs X rest (tS X U M2 H0 b)):PSs X rest (tS X U M H0 (.sw is b)):=by
 refine PSs.weak h λD Z H⟨O,e,g⟩=>⟨Jv is 0 O,e.switch u,?_⟩;change(kK (exD U b Ln)).Good _ _ at g;cases q:exD U b (Jv is 0 O)with
 |ok r=>
  obtain⟨f,B⟩:=r;rw[q]at g;cases f with
  |rt d=>exact g
  |nx=>exact g.elim
  |bk=>exact g.elim
  |ct=>exact g.elim
 |ex c=>rw[q]at g;exact g
 |sk=>rw[q]at g;exact g.elim
end
end Rd
namespace Rd
open PySem PySem.Spec PyProof.Rows L2
open Sem (wp)
end Rd
namespace Rd
open PySem PySem.Spec PyProof.Rows L2 Pu
variable{X:Cx}{pos p1 p2 px p3:Pos}{G:Gw}{N:Ag}{nm:Bd}{s:Ao}{a v e b:Expr}{pa pv pk p:Px}{w:Bc}{prog:Bk}{A:Bg}{d:Addr}{E:Az}{H H0:Hp}{i ep:Nat}{x y:Str}{M:Aj}{t:Bool}{ks:Aq}{xs:Aw}{od o:Obj}{es:M5}{vs:CY}{Y:AU}{Z:Cg}
section
variable{U:Ae}
def JfZ{α f:Type}{R:α->f->Prop}:∀{xs:AD}{us:List f},Ah=us.length->(∀(j:Nat)x u,xs[j]? =So x->us[j]? =So u->R x u)->Paired R xs us
 |[],[],_,_=>.nil
 |x::xs,u::us,h,k=>.cons (k 0 x u rfl rfl) (JfZ DG λj x u a b=>k (j+1) x u (by simpa using a) (by simpa using b))
end
section
variable{U:Ae}{pe:Px}
def PJV(X:Cx)(U:Ae)(vs:CY)(p:Px):Prop:=∀(Y:AU)(s:Ao)(Z:Cg)(H:Hp)(O:Fm)(f:Str)(Q:Str->Shared->Prop)(J:Aq)(y:Str),L2.Inv X Y Z H s->ReadOk X.K H Z O->evD U p O=.ok BL->yA J=So y->
 f.length+y.length<=1000000->(∀j h,L2.Inv X Y Z h j->Same H h->Q (f++y) j)->Joins Av X.A X.xe Pc f Q s
def JmE(x:Str):x++Str.empty=x:=by cases x with|mk c=>show Str.mk (c++#[])=_;simp
def JgF(x y z:Str):x++y++z=x++(y++z):=by cases x with|mk a=>cases y with|mk b=>cases z with|mk c=>exact iA Str.mk (Array.append_assoc ..)
def Jsf:PJV X U [] .nil:=λY s Z H O f Q J y I r j h l k=>by
 cases j
 cases h
 have:=k s H I E6
 rw[JmE]at this
 exact this
def JeV{d:D}{J:Aq}(h:yA (d::J)=So y):∃a b,sG d=So a/\yA J=So b/\y=a++b:=by
 unfold yA at h;split at h
 ·rename_i a b j f;split at h
  ·cases h;exact⟨a,b,j,f,rfl⟩
  ·cases h
 ·cases h
theorem Job(he:PE X e (tI X U pe))(hs:xH pe=To)(h:PJV X U vs p):PJV X U (.FormattedValue e (-1) No pos::vs) (.cons pe p):=by
 intro Y s Z H O l Q J y I r f hy hl kk;simp only[evD]at f;rcases vO U (O:=O) hs with q|⟨d,q⟩
 ·rw[q]at f;cases f
 rw[q]at f;simp only[Rs.bo]at f;cases P:evD U p O with
 |ex c=>rw[P]at f;cases f
 |sk=>rw[P]at f;cases f
 |ok d2=>
  rw[P]at f;cases d2 with
  |lst es=>
   simp only[Pu.D.asL,Rs.bo]at f;cases f;obtain⟨a,b,j,e2,rfl⟩:=JeV hy;rw[JL]at hl;have rest:∀(m:Ao)B,L2.Inv X Y Z B m->Same H B->Joins Av X.A X.xe Pc (l++a) Q m:=λm B F sm=>
    h Y m Z B O (l++a) Q es b F (r.mono sm) P e2 (by rw[JL];lia) λs2 H2 I2 sm2=>by rw[JgF];exact kk s2 H2 I2 (sm.trans sm2)
   have hz:(l++a).length<=sizeLine:=by rw[JL,ZG];lia
   refine wpAny_FormattedValue_plain (ZT (he Y s Z H (λv W=>Rep X.K W d v/\Same H W) I ⟨O,r,by rw[q];exactλv W m L=>⟨L,m⟩⟩) (λu m⟨v,B,F,L,hv,sm⟩=>?_) λ_ _ z=>z);cases d with
   |str z=>
    cases hv;obtain⟨t,rfl⟩:=L;simp only[sG]at j;split at j
    ·rename_i C;cases j;exact formatField_str (λt' tk=>⟨_,t',rfl,hz,rest _ B (F.tok tk) sm⟩) (by rw[ZG];lia)
    ·cases j
   |int i=>
    cases hv;obtain⟨t,rfl⟩:=L;simp only[sG]at j;split at j
    ·rename_i C;cases j;refine formatField_int_small ?_ ⟨_,_,rfl,hz,rest _ B (F.tok _) sm⟩;by_cases h0:i.natAbs=0
     ·rw[h0];decide
     ·exact Zw ((Nat.log2_lt h0).mpr C) Ax
    ·cases j
   |_=>simp[sG]at j
  |_=>cases f
theorem eFst{j l:Expr}(h:PJV X U (j::l::vs) p)(m:qK p=To):PE X (.JoinedStr (j::l::vs) pos) (tI X U (.un .join p)):=by
 rintro Y s Z H Q I⟨O,r,g⟩;simp only[evD]at g;rcases JgG U (O:=O) m with q|⟨J,q⟩
 ·rw[q]at g;exact g.elim
 rw[q]at g;simp only[Rs.bo,op1]at g;cases f:yA J with
 |none=>rw[f]at g;exact g.elim
 |some y=>
  rw[f]at g;have L:y.length<=2000:=by
   cases J with
   |nil=>cases f;decide
   |cons d J=>
    unfold yA at f;split at f
    ·split at f
     ·rename_i B;cases f;rw[JL];exact B
     ·cases f
    ·cases f
  refine wpAny_JoinedStr (h Y s Z H O YM _ J y I r q f (by show 0+_<=_;lia) λF C z sm=>⟨?_,.str _,C,z.tok _,Au,?_⟩)
  ·rw[JL];show 0+_<=16777216;lia
  ·have u:Str.empty++y=y:=by cases y with|mk c=>show Str.mk (#[]++c)=_;simp
   rw[u];exact g _ _ sm rfl
end
section
variable{it:Addr}{ok ov:Am}
theorem JnD{e:DictEntry}{Q:Em}(hit:Wq)(J:s.heap.get? d=So od)(u:Eg)(hx:es[i]? =So e)
  (hQ:∀P,IsItemIterOut P it d BQ Yq ep Z0 Y4 Aa->P.get? Aa=So {cls:=.type "tuple",data:=.seq #[e.key,Y4]}->
   (∀b o,b≠it->s.heap.get? b=So o->P.get? b=So o)->Q (So FF) {s with heap:=P}):
  wpAny As A Dq Q E s:=by
 obtain⟨r,g,B,O,I⟩:=s;have z:Shared.TypeIs ⟨r,g,B,O,I⟩ Ce "dict_itemiterator":=QdK;have own:Builtin.Dict_items.ownsTuple "dict_itemiterator"=To:=by decide
 unfold pyNext;refine Za (pC (ZM (name:=oS "__next__") z uR (ZH uR z cG ?_ V9)));refine Za (Zb (Za (Za ?_)));refine Za (vR z (Zb (Za (sF hit rfl ?_))));simp only[own,if_true];show wpAny _ _ (if Fp=To then _ else _) _ _ _;rw[if_neg (show¬(Fp=To)from ZE)];refine Za (Zb (Za (uJ J u ?_)));rw[if_neg 'k'];refine Za (Zb (Za (pJ J u ?_)));rw[if_neg 'k'];refine Zb ?_;simp only[show¬((i:Int)<0)from by lia,ZN,gF,hx];refine Za (Za (vR z (Zb (Za (pX z ?_)))));show wpAny _ _ (setField Ce 3 (rawInt ((i:Int)+1))>>=_) _ _ ⟨r,g,B,O,I⟩;refine Za (mC hit Af λh j l=>?_);replace l:Heap.SameBut it r h:=l;replace j:IsItemIter h it d BQ Yq ep ok ov:=by unfold IsItemIter;rw[show((i+1:Nat):Int)=(i:Int)+1 by lia];simpa[rawInt]using j
 have C:Shared.TypeIs ⟨h,g,B,O,I⟩ Ce "dict_itemiterator":=⟨_,j,rfl⟩;refine Za (jB (Za (pX C (Za (pX C ?_)))));show wpAny _ _ (Builtin.Dict_items.pairFromOwner Ce 6 Z0 Y4) _ _ ⟨h,g,B,O,I⟩;unfold Builtin.Dict_items.pairFromOwner;refine Za (wpAny_newTuple ?_);have z1:h.objs.size=r.objs.size:=l.1;have il:it<r.objs.size:=Zk hit;have ne:r.objs.size≠it:=sD il;show wpAny _ _ (Builtin.Dict_items.ownedTupleIsFree Ce>>=_) _ _ ⟨h.push {cls:=.type "tuple",data:=.seq #[e.key,Y4]},g,B,O,I⟩;have L:(h.push {cls:=.type "tuple",data:=.seq #[e.key,Y4]}).get? aB=So {cls:=.type "tuple",data:=.seq #[e.key,Y4]}:=by rw[<-z1];exact Zf _ rfl
 have f:IsItemIter (h.push {cls:=.type "tuple",data:=.seq #[e.key,Y4]}) it d BQ Yq ep ok ov:=Zd _ j;have k2:∀b o,b≠it->r.get? b=So o->(h.push {cls:=.type "tuple",data:=.seq #[e.key,Y4]}).get? b=So o:=λb o m q=>Zd _ (l.extBut b o m q);rw[z1];generalize h.push {cls:=.type "tuple",data:=.seq #[e.key,Y4]}=h2 at L f k2⊢;refine Za ?_;unfold Builtin.Dict_items.ownedTupleIsFree;refine Za (ZV f rfl (x:=.none) rfl (Zb ?_));simp only[if_true];refine Za (ZV f rfl (x:=ok) rfl (Za (ZV f rfl (x:=ov) rfl ?_)));refine Za (mC f Af λh3 W hs3=>Za (mC (show IsItemIter h3 it d BQ Yq ep Z0 ov from W) Af λh4 he4 hs4=>?_));refine Za (mC (show IsItemIter h4 it d BQ Yq ep Z0 Y4 from he4) Af λh5 he5 hs5=>?_);refine Za (mC (show IsItemIterOut h5 it d BQ Yq ep Z0 Y4 aB from he5) Af λU he6 hs6=>?_);have kk:∀b o,b≠it->h2.get? b=So o->U.get? b=So o:=λb o m q=>
  (show Heap.SameBut it h5 U from hs6).extBut b o m ((show Heap.SameBut it h4 h5 from hs5).extBut b o m ((show Heap.SameBut it h3 h4 from hs4).extBut b o m ((show Heap.SameBut it h2 h3 from hs3).extBut b o m q)))
 exact Za (wpAny_letGo (Zb (Zb ⟨_,rfl,Zb (hQ U he6 (kk _ _ ne L) λb o m q=>kk b o m (k2 b o m q))⟩)))
theorem JsW{Q:Em}(J:BE)(hit:Wq)(j:s.heap.get? d=So od)(h:Eg)(O:es[i]? =No)
  (I:∀C,(∀b o,b≠it->s.heap.get? b=So o->C.get? b=So o)->Q No {s with heap:=C}):
  wpAny As A Dq Q E s:=by
 obtain⟨u,g,z,r,q⟩:=s;have l:Shared.TypeIs ⟨u,g,z,r,q⟩ Ce "dict_itemiterator":=QdK;have own:Builtin.Dict_items.ownsTuple "dict_itemiterator"=To:=by decide
 unfold pyNext;refine Za (pC (ZM (name:=oS "__next__") l uR (ZH uR l cG ?_ V9)));refine Za (Zb (Za (Za ?_)));refine Za (vR l (Zb (Za (sF hit rfl ?_))));simp only[own,if_true];show wpAny _ _ (if Fp=To then _ else _) _ _ _;rw[if_neg (show¬(Fp=To)from ZE)];refine Za (Zb (Za (uJ j h ?_)));rw[if_neg 'k'];refine Za (Zb (Za (pJ j h ?_)));rw[if_neg 'k'];refine Zb ?_;simp only[show¬((i:Int)<0)from by lia,ZN,gF,O];refine Za (Za (vR l (Zb ?_)));show wpAny _ _ (setField Ce 2 .none>>=_) _ _ ⟨u,g,z,r,q⟩;refine Za (mC hit Af λB L f=>?_);replace f:Heap.SameBut it u B:=f;show wpAny _ _ (newExc NS []>>=_) _ _ ⟨B,g,z,r,q⟩;refine Za ?_;simp only[newExc,newTuple];refine Za (ZF (Za (m:=firstArgMember _ _) (wpAny_of_eq (a:=Ys) (by first|rfl|(simp only[firstArgMember];rfl)) (ZF ?_ (by size_fits)))) (by size_fits));delta raiseNew;refine Za (wpAny_handled ?_);rw[show A.in1.handled=No from J];refine Za (Zb (wpAny_throw ?_));refine Za (kH (T:="StopIteration") (b:=To) Gs wL ?_);exact Zb (I _ ((f.extBut.push _).push _))
end
def KR(H:Hp)(d:D)(v:V):Prop:=(∃c,d=keyV c/\v=kV c)\/∃c,d=iY c/\KH H (.t c) v
def KR.rep{K:Ak}{d:D}{v:V}(h:KR H d v):Rep K H d v:=by
 rcases h with⟨c,rfl,rfl⟩|⟨c,rfl,h⟩
 ·cases c<;>rfl
 ·exact JpO (.t c) h
def JoK{Q:Az}(ho:s.heap.get? d=So od)(l:od.cls=.type "dict")(j:(d==sysModules)=Fo)
  (h:Q FF {s with heap:=s.heap.push {cls:=.type "dict_items",data:=.fields #[.ref d]}}):wpAny As A (call (.builtin "dict.items") [.ref d]) Q E s:=by have f:s.TypeIs D0 "dict":=⟨od,ho,l⟩;refine ZH F.slot_dict_items f F.entry_dict_items ?_ (F.args_dict_items_1 _);unfold Builtin.«dict.items»;refine Za ?_;unfold Builtin.Dict.noArgs;refine Za (wpAny_notOrdered_dict f ?_);show wpAny _ _ (pure d) _ _ s;refine Zb ?_;show wpAny _ _ (Builtin.Dict.showsAll d>>=_) _ _ s;unfold Builtin.Dict.showsAll;rw[if_neg (by rw[j];exact ZE)];exact Za (Zb (Za (ZF (Zb Lx))))
theorem Joo{v:Addr}{Q:Az}(j:s.heap.IsItemsView v d)(ho:s.heap.get? d=So od)(f:Eg)
  (m:Q FF {s with heap:=s.heap.push {cls:=.type "dict_itemiterator",data:=.fields #[.none,.bool Fo,.ref d,.int 0 0,.int Yq 0,.int ep 0,.none,.none]}}):wpAny As A (pyIter (.ref v)) Q E s:=by
 obtain⟨r,l,q,h⟩:=id j;have own:Builtin.Dict_items.ownsTuple "dict_itemiterator"=To:=by decide
 refine sM j.typeIs fY (ZH fY j.typeIs F.entry_dict_items_iter ?_ (F.args_dict_items_iter_1 _));unfold Builtin.«dict_items.__iter__»;refine Za (Zb (Za ?_));unfold Builtin.Dict_items.dictOf;refine Za (ZV l h (x:=.ref d) rfl (Zb (Za ?_)));unfold Builtin.Dict_items.newIterator;refine Za (uJ ho f (Za (pJ ho f ?_)));simp only[own,if_true];refine ZF (Zb ⟨_,rfl,"dict_itemiterator",_,Gs,bI,?_⟩) (by simp only[sizeOk,Builtin.Dict_items.ownedTupleFields,Zn,Zi,Zm,yE,ZG];lia);simpa[rawInt,Builtin.Dict_items.ownedTupleFields]using m
def DKo(H:Hp)(d:Addr)(t:Bool)(o:Obj)(ks:Aq)(xs:Aw):Prop:=match t with
 |true=>∃kvs:List (List (KTr Z2)×V),H d=So (.frz o KC)/\ks=kvs.map (λp=>iY p.1)/\xs=kvs.map (·.2)
 |false=>∃kvs:List (L2.Key×V),H d=So (.frz o A3)/\ks=kvs.map (λp=>keyV p.1)/\xs=kvs.map (·.2)
def DKo.of(h:DK H d t To ks xs):∃o,DKo H d t o ks xs:=by cases t<;>obtain⟨f,⟨o,q⟩,j,l⟩:=h<;>exact⟨o,f,q,j,l⟩
def DKo.same{W:Hp}(s:Ct)(h:Il):DKo W d t o ks xs:=by cases t<;>obtain⟨f,q,j,l⟩:=h<;>exact⟨f,s _ _ q,j,l⟩
def DKo.inj{H:Hp}{d:Addr}{t:Bool}{o z:Obj}{ks f:Aq}{xs j:Aw}(h:Il)(h':DKo H d t z f j):ks=f/\xs=j:=by cases t<;>obtain⟨F,q,C,B⟩:=h<;>obtain⟨r,u,m,l⟩:=h'<;>rw[q]at u<;>cases u<;>exact⟨C.trans m.symm,B.trans l.symm⟩
def DKo.len(h:Il):Bh=Ah:=by cases t<;>obtain⟨f,_,rfl,rfl⟩:=h<;>simp
def Iti (K:Ak) (t:Bool) (d:Addr) (o:Obj):It:=
 ⟨λi H=>∃ks xs,DKo H d t o ks xs/\i<Ah,
  λi H x W=>∃T f y,H T=No/\x=.ref T/\W=upd H T (.tup [f,y])/\∀ks xs,DKo H d t o ks xs->xs[i]? =So y/\∃k,ks[i]? =So k/\KR H k f,
  λi H=>∃ks xs,DKo H d t o ks xs/\xs.length=i⟩
def JcP{α f:Type}{R:α->f->Prop}:∀{xs:AD}{us:List f}{i:Nat}{x:α},Paired R xs us->xs[i]? =So x->∃u,us[i]? =So u/\R x u
 |_,_,_,_,.nil,e=>by simp at e
 |_,_,0,_,.cons r t,e=>by simp at e;subst e;exact IJ
 |_,_,i+1,_,.cons r t,e=>by
  obtain⟨u,h,j⟩:=JcP (i:=i) t (by simpa using e)
  exact⟨u,by simpa using h,j⟩
theorem JfH(I:BM)(h:Il):s.heap.get? d=So o/\o.cls=.type "dict"/\o.dict=No/\(d==sysModules)=Fo/\∃es ep,o.data=.dict es ep/\es.size=Ah/\
  ∀i,i<Ah->∃e k z y,es[i]? =So e/\ks[i]? =So k/\xs[i]? =So y/\RelV y Y4/\RelV z Z0/\KR H k z:=by
 cases t with
 |true=>obtain⟨kvs,q,rfl,rfl⟩:=h;exact(I.hok d _ q).2.elim
 |false=>
  obtain⟨kvs,q,rfl,rfl⟩:=h;obtain⟨F,g1,W,ys,C,o',es,ep,B,J,O,g7,u,g9⟩:=I.hok d _ q;rw[F]at B;cases B;have hl:es.size=BG:=by have:=u.length;rw[<-oM C]at this;simpa using this
  refine⟨F,J.1,J.2.1,W,es,ep,O,by simp[hl],λi hi=>?_⟩;have f:i<BG:=by simpa using hi
  obtain⟨⟨k,v⟩,e1,U,e3⟩:=JcP C (Zu f);have l:i<es.size:=by lia
  obtain⟨P,L⟩:=u.get? (e:=es[i]) (by simp[l]) e1;have rk:RelV (kV (kvs[i]).1) es[i].key:=by
   rw[U];rcases Jz P with⟨j,t,r,m⟩|⟨y,t,r,m⟩|⟨r,m⟩
   ·rw[r,m];exact HJ
   ·rw[r,m];exact HJ
   ·rw[r,m];rfl
  refine⟨es[i],keyV (kvs[i]).1,kV (kvs[i]).1,(kvs[i]).2,by simp[l],by simp[f],by simp[f],by rw[L];exact e3,rk,.inl ⟨_,rfl,rfl⟩⟩
def JlN:entryFor table "dict_itemiterator.__iter__"=So Builtin.«dict_keyiterator.__iter__»:=entryFor_alias (id':="dict_keyiterator.__iter__") (by kernel_rfl) (by first|rfl|decide+kernel) Ab (by kernel_rfl)
def JoF{P:Bk}{K:Ak}{J:CY}{k:Nat}{O:Pos}(t:Bool)(d it:Addr)(o:Obj)(es:M5)(ep:Nat)(j:o.data=.dict es ep):
  Turn P w K (.Tuple J k O) Qdm [it] it (λi h=>∃ok m,IsItemIter h it d i Yq ep ok m)where
 mem:=by simp
 obj:=λi h⟨ok,m,f⟩b r=>by
  have e:b=it:=by simpa using r
  subst e
  exact⟨_,f,λv z=>by cases z⟩
 keep:=λi h h'⟨ok,m,f⟩q=>⟨ok,m,q it Af _ f⟩
 item:=by
  rintro X hP hw hK hc i Y s Z H E I W⟨ok,m,f⟩⟨ks,xs,hq,hi⟩;subst hP hw hK;obtain⟨g0,_,_,_,es',ep',B,g2,g3⟩:=JfH I hq;rw[j]at B;cases B;obtain⟨e,k',kv,y,e1,e2,e3,e4,e5,e6⟩:=g3 i hi;refine JnD f g0 j e1 λh' he C hk=>⟨_,rfl,wpAny_letOwnedTupleGo_items he λh2 he2 l=>?_⟩;have L:it<Aa:=Zk f;have u:∀b o,b∉[it]->s.heap.get? b=So o->h2.get? b=So o:=λb o r q=>by have h1:b≠it:=λz=>r (by simp[z]);exact(l.2 b h1).trans (hk b o h1 q)
  have U:h2.get? Aa=So {cls:=.type "tuple",data:=.seq #[e.key,Y4]}:=(l.2 _ (sD L)).trans C;have hfr:H Aa=No:=I.hok.fresh (Zh _);have I2:L2.Inv X Y Z (upd H Aa (.tup [kv,y])) {s with heap:=h2,toks:=Yp}:=
   JdQ I W u (Zh _) ⟨⟨by rw[ZG];show 2<=_;decide,λo q=>by rw[U]at q;cases q;rfl⟩,[e.key,Y4],.cons e5 (.cons e4 .nil),_,U,rfl,_,rfl⟩
  refine⟨.ref Aa,_,I2,rfl,⟨Aa,kv,y,hfr,rfl,rfl,λks' xs' hq'=>?_⟩,⟨_,_,he2⟩,λb r=>?_⟩
  ·obtain⟨rfl,rfl⟩:=hq.inj hq';exact⟨e3,k',e2,e6⟩
  ·have e:b=it:=by simpa using r
   subst e;rw[Jc (Zt L)];exact(W b Af).1
 done:=by
  rintro X hP hw hK hc i Y s Z H E I W⟨ok,m,f⟩⟨ks,xs,hq,hi⟩;subst hP hw hK;obtain⟨g0,_,_,_,es',ep',B,g2,g3⟩:=JfH I hq;rw[j]at B;cases B;exact JsW HQ f g0 j (by simp[g2,hi]) λh' hx'=>⟨rfl,mW (tk:=Yp) I W λb o r q=>hx' b o (λz=>r (by simp[z])) q⟩
 self:=λA i s Q E⟨ok,m,f⟩h=>by
  have C:s.TypeIs Ce "dict_itemiterator":=II;refine sM C cV (ZH cV C JlN ?_ (F.args_dict_itemiterator_iter_1 _));show wpAny _ _ (ret Ce) _ _ s;exact Zb ⟨_,rfl,"dict_itemiterator",_,C,bI,h⟩
theorem Jpv{K:Ak}{vs:Aq}(h1:Il)(B:Reps K H vs xs):Walk K Qdm H '亾':=by
 intro W sm;have l:=B.length;have l2:=h1.len;have h:=h1.same sm;have m:=B.mono sm;have lz:∀(a b:Aq),bC=b.length->(zipD a b).length=b.length:=by
  intro a;induction a with
  |nil=>intro b e;cases b with
   |nil=>rfl
   |cons _ _=>simp at e
  |cons x a q=>intro b e;cases b with
   |nil=>simp at e
   |cons y b=>simp[zipD,q b (by simpa using e)]
 have P:∀(a b:Aq)(i:Nat)(x y:D),a[i]? =So x->b[i]? =So y->(zipD a b)[i]? =So (.tup [x,y]):=by
  intro a;induction a with
  |nil=>intro b i x y e;simp at e
  |cons z a q=>intro b i x y j f;cases b with
   |nil=>simp at f
   |cons u b=>cases i with
    |zero=>simp at j f;subst j f;rfl
    |succ i=>simp only[yJ]at j f;simp only[zipD,yJ];exact q b i x y j f
 have r:'亾'.length=Ah:=by rw[lz ks vs 'c'];lia
 refine⟨λi hi=>⟨ks,xs,h,by lia⟩,⟨ks,xs,h,r.symm⟩,λi x O hi⟨T,L,y,hT,j,f,I⟩=>?_⟩;subst j;subst f;obtain⟨F,k,U,g3⟩:=I ks xs h;obtain⟨C,hd,rd⟩:=m.get' F;obtain⟨s1,r1⟩:=zH (K:=K) (J:=[k,C]) (xs:=[L,y]) hT ⟨_,_,rfl,g3.rep,_,_,rfl,rd,rfl⟩;exact⟨s1,_,P ks vs i k C U hd,r1⟩
def dk{p:Prop}(h:'г' p Lb):p:=h
section
variable{U:Ae}
def aPar{j:Nat}{pb:Px}{r pt f:Pos}{kt m}(C:Al)(L:HX X nm)(h:Ei)(h':chkA N nm M j y=To)(J:(nm.lookup x==So .local&&nm.lookup y==So .local&&!usesP pb i&&decide (i≠j))=To)
  (ha:AJ) (hb:Br) (h1:'г' (sepP M pa=To) Ai) (h2:'г' (sepP M pb=To) Ai) (hw:'г' (swappedStores UT S0 Se=pure GW) Ai)
  (hs:'г' (swapsWithSole UT S0 Yy Se=pure Fo) Ai) (hs1:'г' (starEach [a,b] Se=DN::starEach [b] Se) Ai) (hs2:Hn):
  PS X (.Assign UT S0 pos) (tS X U M H0 Wb):=by
 obtain⟨W,g2,u⟩:=chkA.at h;obtain⟨f1,f2,P⟩:=chkA.at h';simp only[Zc,ZA,kB,Zs]at J;obtain⟨⟨⟨l1,l2⟩,I⟩,l4⟩:=J;refine PS.weak (JqP YO DJ (by rw[C.hN];exact W) (by rw[C.hN];exact f1) l4 (by rw[L.sc];exact l1) (by rw[L.sc];exact l2) (JE (oE ha) (JE (oE hb) rA hs2) hs1) hw hs) λD Z H B=>?_;obtain⟨O,e,h⟩:=B;simp only[exD,rC,Zo,ZN]at h;refine L4;rw[Jw U O h1];cases q:evD U pa O with
 |sk=>rw[q]at h;exact h.elim
 |ex c=>rw[q]at h;exact(show XW X H0 c from h).mono Z6
 |ok d1=>
  rw[q]at h;simp only[Rs.bo]at h;intro v H1 s1 k1 r1;have l:=e.grow s1;refine⟨Jv M 0 O,Ow M O Z,l.ows,l.readHid,?_⟩;rw[Jw U O h2];have hc:evD U pb Qai=evD U pb O:=JdV U pb _ _ λk hk=>Zv λz=>by subst z;rw[hk]at I;cases I
  rw[hc]at h;cases F:evD U pb O with
  |sk=>rw[F]at h;exact h.elim
  |ex c=>rw[F]at h;exact(show XW X H0 c from h).mono l.same0
  |ok d2=>rw[F]at h;simp only[Rs.bo]at h;intro w H2 s2 m r2;have e2:=l.grow s2;refine⟨v,w,rfl,?_⟩;have p1:=e2.put u (r1.mono (Fz.sm s2).hid);have p2:=p1.put P (d:=d2) (v:=w) (by rw[xB u];exact r2);refine h _ _ p2 ?_;rw[xB P,xB u];exact Chg.of Ds
end
section
variable{it:Addr}
def JoS{Q:Az}(j:(d==sysModules)=Fo)(ho:s.heap.get? d=So od)(m:od.cls=.type "dict")(f:Eg)
  (l:Q FF {s with heap:=s.heap.push {cls:=.type "dict_keyiterator",data:=.fields #[.ref d,.int 0 0,.int Yq 0,.int ep 0]}}):
  wpAny As A (pyIter D0) Q E s:=by have h:s.TypeIs D0 "dict":=⟨_,ho,m⟩;refine sM h QcE (ZH QcE h F.entry_dict_iter ?_ (F.args_dict_iter_1 _));unfold Builtin.«dict.__iter__»;refine Za ?_;unfold Builtin.Dict.dictSlotNone;refine Za (wpAny_notOrdered_dict h (show wpAny _ _ (pure (Value.ref d)) _ _ s from Zb ?_));show wpAny _ _ (Builtin.Dict.showsAll d>>=_) _ _ s;unfold Builtin.Dict.showsAll;rw[if_neg (by rw[j];exact ZE)];refine Za (Zb (Za (uJ ho f (Za (pJ ho f ?_)))));refine Za (ZF (Zb ⟨_,rfl,"dict_keyiterator",_,Gs,F.slot_dict_keyiterator_next.lookup,?_⟩));simpa[rawInt]using l
theorem Jpk{e:DictEntry}{Q:Em}(hit:VE)(h:s.heap.get? d=So od)(l:Eg)(B:es[i]? =So e)
  (u:∀r,r.IsKeyIter it d BQ Yq ep->Heap.SameBut it WL r->Q (So Z0) {s with heap:=r}):wpAny As A Dq Q E s:=by
 obtain⟨o,q,z,m⟩:=id hit;have j:Builtin.Dict_items.ownsTuple "dict_keyiterator"=Fo:=by decide
 unfold pyNext;refine Za (pC (ZM (name:=oS "__next__") YN sR (ZH sR YN cW ?_ V2)));refine Za (Zb (Za (Za ?_)));refine Za (tR YN (Zb (Za (sF q m ?_))));simp only[j,Zo,ZN];show wpAny _ _ (if Fp=To then _ else _) _ _ s;rw[if_neg (show¬(Fp=To)from ZE)];refine Za (Zb (Za (uJ h l ?_)));rw[if_neg 'k'];refine Za (Zb (Za (pJ h l ?_)));rw[if_neg 'k'];refine Zb ?_;simp only[show¬((i:Int)<0)from by lia,ZN,gF,B];refine Za (Za (tR YN (Zb (Za (wpAny_isOneOf_keyiter YN ?_)))));show wpAny _ _ (setField Ce 1 (rawInt ((i:Int)+1))>>=_) _ _ s;refine Za (qC q m Af ?_);have f:(s.heap.update it (Obj.mapFields (·.setIfInBounds 1 (rawInt ((i:Int)+1))))).IsKeyIter it d BQ Yq ep:=
  ⟨_,ZY _ q (mX (kJ m _)),(Obj.cls_mapFields ..).trans z,by rw[kJ m];simp[rawInt]⟩
 refine Za (jB (Za (wpAny_isOneOf_keyiter (s:={s with heap:=s.heap.update it (Obj.mapFields (·.setIfInBounds 1 (rawInt ((i:Int)+1))))}) f.typeIs ?_)));show wpAny _ _ (pure Z0) _ _ _;exact Zb (Zb ⟨_,rfl,Zb (u _ f (tE ..))⟩)
theorem Jsv{Q:Em}(z:BE)(hit:VE)(f:s.heap.get? d=So od)(j:Eg)(B:es[i]? =No)
  (u:∀r,Heap.ExtBut it WL r->Q No {s with heap:=r}):wpAny As A Dq Q E s:=by
 obtain⟨o,q,C,l⟩:=id hit;have h:Builtin.Dict_items.ownsTuple "dict_keyiterator"=Fo:=by decide
 unfold pyNext;refine Za (pC (ZM (name:=oS "__next__") YN sR (ZH sR YN cW ?_ V2)));refine Za (Zb (Za (Za ?_)));refine Za (tR YN (Zb (Za (sF q l ?_))));simp only[h,Zo,ZN];show wpAny _ _ (if Fp=To then _ else _) _ _ s;rw[if_neg (show¬(Fp=To)from ZE)];refine Za (Zb (Za (uJ f j ?_)));rw[if_neg 'k'];refine Za (Zb (Za (pJ f j ?_)));rw[if_neg 'k'];refine Zb ?_;simp only[show¬((i:Int)<0)from by lia,ZN,gF,B];refine Za (Za (tR YN (Zb ?_)));show wpAny _ _ (setField Ce 0 .none>>=_) _ _ s;refine Za (qC q l Af ?_);show wpAny _ _ (newExc NS []>>=_) _ _ _;refine Za ?_;simp only[newExc,newTuple];refine Za (ZF (Za (m:=firstArgMember _ _) (wpAny_of_eq (a:=Ys) (by first|rfl|(simp only[firstArgMember];rfl)) (ZF ?_ (by size_fits)))) (by size_fits));delta raiseNew;refine Za (wpAny_handled ?_);rw[show A.in1.handled=No from z];refine Za (Zb (wpAny_throw ?_));refine Za (kH (T:="StopIteration") (b:=To) Gs wL ?_);exact Zb (u _ (((tE ..).extBut.push _).push _))
def Jng(J:BE)(I d:Addr)(B:d≠I)(od:Obj)(es:M5)(ep:Nat)(r:Eg):
  Walks prog w A I [I,d] [I] Yq (λi v=>∃e,es[i]? =So e/\v=Z0) (λi h=>h.IsKeyIter I d i Yq ep/\h.get? d=So od)where
 sub:=λb j=>by simp at j;simp[j]
 frame:=λ_ _ _ f C=>⟨f.1.at λo e=>C I Af o e,C d Af _ f.2⟩
 item:=λi s Q E F f m=>Jpk f.1 f.2 r (e:=es[i]) (by simp[F]) λu l q=>m _ u Yp ⟨es[i],by simp[F],rfl⟩ ⟨l,q.extBut d od B f.2⟩ λb o j e=>q.extBut b o (λh=>j (by simp[h])) e
 done:=λs Q E f m=>Jsv J f.1 f.2 r Af λu z=>m u Yp λb o j e=>z b o (λh=>j (by simp[h])) e
 self:=λ_ _ _ _ f m=>wpAny_pyIter_keyiter f.1 m
end
section
variable{κ:Type}[DecidableEq κ]{kd:HeapKind prog w κ}{xs:List (κ×Addr×Value)}
def Jpq{Q:Bool->Shared->Prop}(j:s.TypeIs D0 "dict")(h:Q Fo s):wpAny As A (Builtin.List.listLengthHint D0) Q E s:=by unfold Builtin.List.listLengthHint;refine Za (wpAny_specialOf j F.slot_dict_len.lookup ?_);generalize hid:("dict.__len__":String)=id0;wp_delta;rw[show splitId id0=So ("dict","__len__")from by subst hid;decide+kernel];subst hid;refine Za (kH (T:="dict") (b:=To) j (by rw[kQ];kernel_rfl) ?_);refine qH P5 (λ_=>?_);refine qH (λ_=>?_) P4;exact Za (mH j (Zb h))
theorem JkC{R:N9}(hh:BE)(hd:(d==sysModules)=Fo)(ho:s.heap.get? d=So od)(hc:od.cls=.type "dict")(q:Eg)(hlen:es.size<=2^24)
  (S:Addr) (B:Am) (C:Nat) (hS:s.heap.get? S=So {cls:=.type "list",data:=.seq #[] C})
  (hR:∀h' tk m O,(∀b o,b≠S->s.heap.get? b=So o->h'.get? b=So o)->h'.get? S=So {cls:=.type "list",dict:=No,data:=.seq m O,slots:=#[]}->
   ItemsOf (λi v=>∃e,es[i]? =So e/\v=Z0) m es.size->R (.ok (.ret B)) {s with heap:=h',toks:=tk}):
  wpAny As YI (Builtin.List.listExtendWith (.ref S) D0 B)
   (λfin J=>match fin with|.done f=>R (.ok f) J|.again O=>O.quiet=To/\codeAny As A O R J) (λe J=>R (.error e) J) s:=by
 have F:S≠d:=λe=>by rw[e,ho]at hS;cases hS;cases q
 have L:S≠Aa:=Zt (Zk hS);have hdI:d≠Aa:=Zt (Zk ho);have hSf:S∉[Aa,d]:=λW=>by
  rcases Ze.mp W with e|e
  ·exact L e
  ·exact F (ZZ.mp e)
 have W9:=(Jng (prog:=prog) (w:=w) (A:=YI) hh Aa d hdI od es ep q).toS;have P:∀(h:Heap)(r tk:Nat),h.IsKeyIter Aa d 0 Yq ep->(∀b o,b≠S->s.heap.get? b=So o->h.get? b=So o)->
   h.get? S=So {cls:=.type "list",data:=.seq #[] r}->codeAny As A (.builtin "list.extend.loop" ⟨[.ref S,.ref Aa,B],[]⟩) R {s with heap:=h,toks:=tk}:=by
  intro h r tk hit hk j;refine codeAny_extend_loopS W9 (by rw[ZG];lia) S hSf B Yq 0 _ #[] r rfl (yC _) ⟨hit,hk d _ F.symm ho⟩ j (ItemsOf.nil _) λJ m O W hS' U=>?_;rw[Moved.eq_with W];refine hR J.heap J.toks m O (λb o hb e=>W.heap b o (λz=>?_) (hk b o hb e)) hS' U;rcases Ze.mp z with e'|z
  ·exact hb e'
  ·exact absurd (Zk e) (by rw[ZZ.mp z];exact jS _)
 unfold Builtin.List.listExtendWith;refine Za (mH (T:="dict") ⟨_,ho,hc⟩ ?_);have h1:Builtin.List.listSameRef (.ref S) D0=Fo:=by simp[Builtin.List.listSameRef,F]
 have h2:(Value.type "dict"==Value.type "list")=Fo:=by decide
 have h3:(Value.type "dict"==Value.type "tuple")=Fo:=by decide
 simp only[h1,h2,h3,jJ,Zo,ZN];refine Za (JoS hd ho hc q ?_);refine Za (jB (Jpq (d:=d) ⟨_,Zd _ ho,hc⟩ ?_));have l:(s.heap.push {cls:=.type "dict_keyiterator",data:=.fields #[.ref d,.int 0 0,.int Yq 0,.int ep 0]}).IsKeyIter Aa d 0 Yq ep:=El;have j:=Zd {cls:=.type "dict_keyiterator",data:=.fields #[.ref d,.int 0 0,.int Yq 0,.int ep 0]} hS;refine qH (λ_=>?_) (λ_=>Zb ⟨oH sQ _,P _ C _ l (λb o _ e=>Zd _ e) j⟩);refine Za (xC ?_);refine Za ?_;show wpAny _ _ (updateSeq S (·.push .none)>>=λ_=>updateSeq S (·.pop)) _ _ _;refine Za (qJ j rfl ?_);have u:=ZY (Obj.mapSeq (·.push Ys)) j rfl;refine qJ (hz:=by seq_fits) u rfl ?_;have I:=ZY (Obj.mapSeq (·.pop)) u rfl;refine Zb ⟨oH sQ _,P _ _ _ (l.at λo e=>?_) (λb o hb e=>?_) I⟩
 ·exact(ZS _ _ L).trans ((ZS _ _ L).trans e)
 ·exact(ZS _ _ Fg).trans ('ѷ'.trans D2)
end
def rk (ks:List eG) (k:A0):Nat:=(ks.filter λy=>lexI y k).length
open PySem.SeqAt (EqAt)
end Rd
namespace HT
open PySem PyProof.Rows
end HT
namespace Rd
open PySem PySem.Spec PyProof.Rows L2 Pu
variable{X:Cx}{a b:Expr}{pa pb:Px}{pos apos p2 px p1:Pos}{G:Gw}{N:Ag}{x y:Str}{nm:Bd}{w:Bc}{K:Ak}{s:Ao}{H:Hp}{c:Nat}{A:Bg}{prog:Bk}{cs:DP}{h:Heap}
section
variable{U:Ae}{c d:Expr}{pc pd:Px}
noncomputable def vI:Expr->Bool
 |.Starred _ _=>Fo
 |_=>To
def JmA{j pt o:Pos}{M k2:Nat}{O:PySem.Env}(E:O.scope.kind=.function)(C:O.scope.names.lookup x=So .local)(ly:O.scope.names.lookup y=So .local)(i:(x==y)=Fo)(m:(j.line==cE)=To)(F:vI a=To)(W:vI b=To)(B:[a,b].all SH=Fo)(J:[a,b].all SZ=Fo):
  swappedStores [.Tuple Pm M pt] (.Tuple [a,b] k2 o) O=pure GW:=by
 have L:O.blockKind=.function:=by unfold PySem.Env.blockKind;rw[E];rfl
 have u:(y==x)=Fo:=by rw[Zq]at i⊢;exactλz=>i z.symm
 have I:(O.kindOf x==So .local)=To:=by unfold PySem.Env.kindOf;rw[C];rfl
 have Z:(O.kindOf y==So .local)=To:=by unfold PySem.Env.kindOf;rw[ly];rfl
 have v:∀{a:Expr},vI a=To->(match a with|.Starred ..=>To|_=>Fo)=Fo:=fun{a}h=>by cases a<;>first|rfl|cases h
 have t:∀{p q:Bool},p=Fo->q=Fo->¬(p||(q||false))=To:=λl r=>by rw[l,r];decide
 have fm:∀f:Expr->Option Str,f FD=So x->f (.Name y j)=So y->List.filterMap f Pm=[x,y]:=λf l r=>by rw[List.filterMap_cons_some l,List.filterMap_cons_some r];rfl
 unfold swappedStores;dsimp only[List.length,List.head?,Option.map,Option.getD];generalize P:List.filterMap _ _=names;obtain rfl:names=[x,y]:=by rw[<-P];exact fm _ (by show(if(O.kindOf x==So .local&&px.line==cE)=To then So x else No)=So x;rw[I,BEq.rfl];rfl) (by show(if(O.kindOf y==So .local&&j.line==cE)=To then So y else No)=So y;rw[Z,m];rfl)
 have Y:[x,y].eraseDups=[x,y]:=by rw[List.eraseDups_cons,List.filter,u];rfl
 rw[if_neg (by rw[L];decide)];refine(if_neg (t (v F) (v W))).trans ?_;rw[if_neg (by rw[Y];exact ZE),if_neg (by rw[B];decide),if_neg (by rw[J];decide)]
def aPr{M:Aj}{J:Hp}{i j:Nat}{m pt f:Pos}{t k2:Nat}(C:Al)(o:HX X nm)(h:Ei)(h':chkA N nm M j y=To)(v:(nm.lookup x==So .local&&nm.lookup y==So .local&&!usesP pb i&&decide (i≠j)&&!(x==y))=To)
  (z:(m.line==cE&&vI a&&vI b&&!([a,b].all SH)&&!([a,b].all SZ))=To) (ha:AJ) (O:Br) (h1:sepP M pa=To) (h2:sepP M pb=To)
  (P:swapsWithSole VV Pb Yy Se=pure Fo) (q:starEach [a,b] Se=DN::starEach [b] Se) (l:GG):
  PS X (.Assign VV Pb pos) (tS X U M J Wb):=λY s Z H D I W=>by
 simp only[Zc,ZA,kB,Zs]at v z
 obtain⟨⟨⟨⟨r,u⟩,L⟩,E⟩,B⟩:=v
 obtain⟨⟨⟨⟨p1,p2⟩,p3⟩,F⟩,p5⟩:=z
 exact aPar C o h h' (by simp[r,u,L,E]) ha O h1 h2 (JmA YT (by rw[o.sc];exact r) (by rw[o.sc];exact u) B (by simp[p1]) p2 p3 F p5) P q l Y s Z H D I W
end
open PySem.SeqAt (EqAt)
def gV(s:Str):∀f:List Str,(Str.join s f).cps.toList=Jn YJ (f.map (·.cps.toList))
 |[]=>rfl
 |[x]=>rfl
 |x::y::r=>by
  have:=gV s (y::r)
  show((x++s++Str.join s (y::r)).cps).toList=_
  rw[Str.cps_append,Str.cps_append,rQ,rQ,this,List.append_assoc]
  rfl
def pK{l:Aj}(h:x.cps.toList=l):x=mkS l:=StrLaws.mk_of_toList h
def JdN:∀{l:Aj},c∉l->Jk c l=[l]
 |[],_=>rfl
 |x::l,h=>by
  have f:x≠c:=λe=>h (by simp[e])
  rw[Jk,if_neg f,JdN λz=>h (by simp[z])]
  rfl
def JeF(l:Aj):∀{a:Aj},c∉a->Jk c (a++c::l)=a::Jk c l
 |[],_=>by simp[Jk]
 |x::a,h=>by
  have f:x≠c:=λe=>h (by simp[e])
  rw[lC,Jk,if_neg f,JeF l λz=>h (by simp[z])]
  rfl
def sL:∀{ls:BR},ls≠[]->(∀l∈ls,c∉l)->Jk c (Jn [c] ls)=ls
 |[],h,_=>absurd rfl h
 |[x],_,h=>JdN (h x Af)
 |x::y::r,_,h=>by
  show Jk c (x++([c]++Jn [c] (y::r)))=_
  rw[List.singleton_append,JeF _ (h x Af),sL 'k' λl f=>h l (by simp[f])]
def JnP(x y:Str):Txt.split x y≠[]:=by
 unfold Txt.split;split
 ·simp
 ·split
  ·simp
  ·rw[StrLaws.partsBetween_eq];obtain⟨p,r,e⟩:=StrLaws.partsFrom_ne x Z5 0 (Builtin.Str.occurrences x y 0 Yo (Yo+1));rw[e];simp
def Jjw(x:Str)(c:Nat):(Txt.split x ⟨#[c]⟩).map (·.cps.toList)=Jk c Yw:=by
 have f:=iA (·.cps.toList) (StrLaws.join_split x ⟨#[c]⟩);simp only[gV]at f;rw[<-f,sL (by simp[JnP]) λl i=>by
  obtain⟨p,j,rfl⟩:=Zz.mp i;exact StrLaws.split_free x c p j]
theorem nW(c:Nat):∀l:List Nat,(Jk c l).length<=Yr+1
 |[]=>by simp[Jk]
 |x::l=>by
  have:=nW c l
  unfold Jk
  split
  ·simp;lia
  ·cases h:Jk c l with
   |nil=>simp[lN]
   |cons p r=>rw[h]at this;simp[lN]at this⊢;lia
def Jhj:∀f:List Str,Reps K H (f.map Y3) Ta
 |[]=>rfl
 |x::f=>⟨_,_,rfl,rfl,Jhj f⟩
def JjF:∀l:List (Str×Tok),Vals ((l.map (·.1)).map bK) (strValues l)
 |[]=>.nil
 |p::l=>.cons ⟨p.2,rfl⟩ (JjF l)
def Jeg:∀{xs:Ag}{vs:Aw}{us:AF},Reps K H (xs.map Y3) vs->Vals vs us->∃l:List (Str×Tok),us=strValues l/\l.map (·.1)=xs
 |[],vs,us,h,v=>by
  cases h
  have:=v.length
  rw[uX.mp this.symm]
  exact⟨[],rfl,rfl⟩
 |x::xs,vs,us,h,v=>by
  obtain⟨y,r,rfl,f,m⟩:=h
  cases f
  cases v with
  |cons i j=>
   obtain⟨t,rfl⟩:=i
   obtain⟨l,rfl,e⟩:=Jeg m j
   exact⟨(x,t)::l,rfl,by simp[e]⟩
theorem JgI(f:Aj):∀ls:List B3,(ls.map (·.length)).sum+Bo*f.length<=(Jn f ls).length+f.length
 |[]=>by simp[Jn]
 |[x]=>by simp[Jn]
 |x::y::r=>by
  have:=JgI f (y::r)
  simp only[Jn,Zg,nB,Zm,Zi,Nat.add_mul,Nat.one_mul]at this⊢
  lia
theorem JkD{s:Str}{xs:Ag}(h1:s.length<=1000)(f:(Jn YJ (xs.map (·.cps.toList))).length<=20000):Builtin.Str.tooLong (xs.toArray.foldl (·+·.length+s.length) 0)=Fo:=by rw[StrLaws.joinTotal];have:=JgI YJ (xs.map (·.cps.toList));rw[Zr,Zj]at this;have e:(xs.map (List.length∘λx:Str=>Yw))=xs.map (·.length):=vD λx _=>ZU;rw[e,show s.cps.toList.length=s.length from ZU]at this;unfold Builtin.Str.tooLong;rw[xJ,ZG];lia
def JsF:MtR X "str.join" (λx E H Q=>∃y,E=[y]/\rD2 X .joinS x y H Q):=by
 rintro Y s Z H x E v us Q I M rv⟨y,e,dx,dy,r1,L,h⟩;subst e;obtain⟨u,rfl,C⟩:=rB rv;cases dx with
 |str z=>
  have U:x=V.str z:=r1;subst U;obtain⟨t,rfl⟩:=M;cases dy with
  |lst J=>
   simp only[op2]at h;split at h
   ·rename_i W B;split at h
    ·rename_i j;obtain⟨a,ys,rfl,m,i⟩:=L;cases C;obtain⟨r,o,pl,_⟩:=I.list m;rw[jQ B]at i;obtain⟨l,rfl,q⟩:=Jeg i o;subst q;have f:=JkD j.1 j.2;refine xA bJ HK QcF QL (meets_str_join_list z t a l f) ⟨Y7,post_join l VP⟩;refine⟨.str (Txt.join z (l.map (·.1))),H,I.tok _,Au,?_⟩;rw[show Txt.join z (l.map (·.1))=mkS (Jn YU ((l.map (·.1)).map (·.cps.toList)))from pK (by rw[<-gV];exact iA (·.cps.toList) RH)];exact Out.now h rfl
    ·exact h.elim
   ·exact h.elim
  |tup J=>
   simp only[op2]at h;split at h
   ·rename_i W B;split at h
    ·rename_i j;obtain⟨a,ys,rfl,m,i⟩:=L;cases C;obtain⟨r,ob,O,o,P,o2,_,o3,_⟩:=I.tupleD m;rw[jQ B]at i;obtain⟨l,rfl,q⟩:=Jeg i o;subst q;have f:=JkD j.1 j.2;refine xA bJ HK QcF QL (meets_str_join_tuple z t a l f) ⟨⟨ob,O,P,o2,o3⟩,post_join l VP⟩;refine⟨.str (Txt.join z (l.map (·.1))),H,I.tok _,Au,?_⟩;rw[show Txt.join z (l.map (·.1))=mkS (Jn YU ((l.map (·.1)).map (·.cps.toList)))from pK (by rw[<-gV];exact iA (·.cps.toList) RH)];exact Out.now h rfl
    ·exact h.elim
   ·exact h.elim
  |_=>exact(show False from h).elim
 |_=>exact(show False from h).elim
def mtSS{id:A9}{o:O2}{k:Str->Str->Rs D}(ho:∀a b,op2 o a b=onSS a b k)
  (h:∀(Y:AU)(s:Ao)(Z:Cg)(H:Hp)(Q:VK)(z w:Str)(t t':Tok),L2.Inv X Y Z H s->(k z w).Good BH Bz->wpAny Av X.A (PySem.call Du [.str z t,.str w t']) BX X.xe s):MtR X id (λx f H Q=>∃y,f=[y]/\rD2 X o x y H Q):=by rintro Y s Z H x f v r Q I i l⟨y,e,B,C,m,q,g⟩;subst e;obtain⟨u,rfl,j⟩:=rB l;rw[ho]at g;obtain⟨z,w,rfl,rfl,g⟩:=Jgw g;cases m;cases q;obtain⟨t,rfl⟩:=i;obtain⟨t',rfl⟩:=j;exact h Y s Z H Q z w t t' I g
def Jkx{t u:Tok}{Q E:Az}(m:(Z5==0)=Fo)
  (j:∀l k,l.map (·.1)=Txt.split x y->Q FF {s with heap:=s.heap.push {cls:=.type "list",data:=.seq (strValues l).toArray},toks:=k})
  (hsz:x.length<=sizeLine) (hsz2:(Txt.split x y).length<=sizeLine):
  wpAny As A (PySem.call (.builtin "str.split") [.str x t,.str y u]) Q E s:=by
 cases f:(decide (Yo<Z5)||decide (Builtin.Str.strKind x<Builtin.Str.strKind y))
 ·cases i:(Builtin.Str.occurrences x y 0 Yo (Yo+1)).isEmpty
  ·have e:Txt.split x y=_:='ԍ'.trans QbG;rw[e]at hsz2;refine xA jR HK a9 'ʮ' (meets_str_split_sep x y t u f m i hsz hsz2) ?_;show wants Q E _ {s with toks:=_,heap:=s.heap.push {cls:=.type "list",data:=.seq (strsFrom Yp (Builtin.Str.partsBetween x (Builtin.Str.occurrences x y 0 Yo (Yo+1)) Z5)).toArray}};rw[strsFrom_eq];exact j (numbered Yp _) _ ((numbered_texts _ _).trans ('ԍ'.trans QbG).symm)
  ·exact xA jR HK a9 'ʮ' (meets_str_split_not_found x y t u f m i)
    (j [(x,t)] _ ('ԍ'.trans (if_pos i)).symm)
 ·exact xA jR HK a9 'ʮ' (meets_str_split_cannot_occur x y t u f)
   (j [(x,t)] _ (if_pos f).symm)
theorem Jpw:MtR X "str.split" (λx v H Q=>∃y,v=[y]/\rD2 X .splitS x y H Q):=mtSS Cz λY s Z H Q z w t t' I h=>by
 split at h
 ·rename_i f
  obtain⟨f,q⟩:=f
  generalize w.cps.getD 0 0=c at h q
  have m:w=⟨#[c]⟩:=Str.ext' q
  subst m
  have i:=nW c YU
  rw[show z.cps.toList.length=z.length from ZU,<-Jjw,Zj]at i
  refine Jkx rfl (λl k r=>?_) (Zy f (by rw[ZG];decide)) ?_
  ·have j:(Jk c YU).map OF=(l.map (·.1)).map Y3:=by
    rw[<-Jjw,r,Zr];exact vD λx _=>iA Y3 (pK rfl).symm
   rw[j]at h;obtain⟨B,C⟩:=iI (K:=X.K) QK (Jhj (l.map (·.1)));have u:l.length<=20001:=by
    have:=iA YS r;rw[Zj]at this;lia
   refine⟨.ref Aa,_,I.laid (t':=k) TH (Zh _) (show ObjOk Yu X.w _ _ _ (.lst ((l.map (·.1)).map bK))from⟨by rw[Zj,Zj,ZG];lia,strValues l,0,JjF l,Zf _ rfl⟩),rfl,h _ _ B C⟩
  ·rw[ZG];lia
 ·exact h.elim
def JiQ(b:Aj):∀{a:Aj},c∉a->cutL c (a++c::b)=(a,So b)
 |[],_=>by simp[cutL]
 |x::a,h=>by
  have f:x≠c:=λe=>h (by simp[e])
  rw[lC,cutL,if_neg f,JiQ b λz=>h (by simp[z])]
def JgE:∀{l:Aj},c∉l->cutL c l=(l,No)
 |[],_=>rfl
 |x::l,h=>by
  have f:x≠c:=λe=>h (by simp[e])
  rw[cutL,if_neg f,JgE λz=>h (by simp[z])]
theorem JrX:MtR X "str.partition" (λx xs H Q=>∃y,xs=[y]/\rD2 X .partS x y H Q):=mtSS Cz λY s Z H Q z w t t' I h=>by
 split at h
 ·rename_i P
  obtain⟨P,hw⟩:=P
  generalize w.cps.getD 0 0=c at h hw
  have M:w=⟨#[c]⟩:=Str.ext' hw
  subst M
  refine xA gD HK F.entry_str_partition (F.args_str_partition_2 _ _) (meets_str_partition z ⟨#[c]⟩ t t' rfl (Zy P (by rw[ZG];decide))) ?_
  have tup:∀(a b d:Str)(u m v k:Tok),uC YU c=.tup NK->wants BX X.xe (.ok (.ret FF)) {s with toks:=k,heap:=s.heap.push {cls:=.type "tuple",data:=.seq 'Ǩ'.toArray}}:=λa b d u m v k e=>by
   rw[e]at h
   obtain⟨s1,q1⟩:=zH (K:=X.K) QK (J:=NK) (xs:=NK) ⟨_,_,rfl,rfl,_,_,rfl,rfl,_,_,rfl,rfl,rfl⟩
   refine⟨.ref Aa,_,I.laid (t':=k) TH (Zh _) (show ObjOk Yu X.w _ _ _ (.tup NK)from ?_),rfl,h _ _ s1 q1⟩
   have W:(s.heap.push {cls:=.type "tuple",data:=.seq 'Ǩ'.toArray}).get? Aa=So {cls:=.type "tuple",data:=.seq 'Ǩ'.toArray}:=Zf _ rfl
   exact⟨⟨by rw[ZG];show 3<=_;decide,λo q=>by rw[W]at q;cases q;rfl⟩,'Ǩ',.cons Au LR,_,W,rfl,_,rfl⟩
  have j:∀i,StrLaws.At z ⟨#[c]⟩ dZ i↔z.cps.toList[i]? =So c:=λi=>by
   have e:Builtin.Str.subAt z ⟨#[c]⟩ i=To↔z.cps.toList[i]? =So c:=by
    rw[StrLaws.subAt_eq];exact StrLaws.take1_drop
   constructor
   ·exactλh=>e.mp h.2
   ·intro h
    have hl:=(ZB.mp h).1;exact⟨by show i+1<=z.cps.size;rw[<-ZU];lia,e.mpr h⟩
  rcases StrLaws.occ_head z ⟨#[c]⟩ 1 (Zh 1)with⟨U,f⟩|⟨i,r,U,l,f⟩
  ·rw[U]
   refine tup z YM YM t Yp Yp _ ?_;have L:c∉z.cps.toList:=λE=>by
    obtain⟨i,l⟩:=uQ E;exact f i ((j i).mpr l)
   rw[uC,JgE L];rw[<-pK (x:=z) rfl];rfl
  ·rw[U]
   refine tup _ _ _ _ _ _ _ ?_;have l:=(j i).mp l;have O:=(ZB.mp l).1;have B:z.cps.toList=z.cps.toList.take i++c::z.cps.toList.drop BQ:=by
    have e:=List.drop_eq_getElem_cons O;rw[(ZB.mp l).2]at e;rw[<-e,xR]
   have L:c∉z.cps.toList.take i:=λE=>by
    obtain⟨k,C⟩:=uQ E;rw[List.getElem?_take]at C;split at C
    ·exact f k ‹_› ((j k).mpr C)
    ·cases C
   have ha:mkS (z.cps.toList.take i)=Builtin.Str.strSub z 0 i:=(pK (by rw[StrLaws.strSub_toList];simp)).symm;have hb:mkS (z.cps.toList.drop BQ)=Builtin.Str.strSub z (i+(⟨#[c]⟩:Str).length) dZ:=(pK (by
    rw[StrLaws.strSub_toList];show _=_;rw[show i+(⟨#[c]⟩:Str).length=i+1 from rfl];exact List.take_of_length_le (by rw[tJ,show z.cps.toList.length=z.length from ZU];lia))).symm
   rw[<-ha,<-hb,uC,B,JiQ _ L];simp only[<-B];rfl
 ·exact h.elim
def Jtz:MtR X "str.endswith" (λx f H Q=>∃y,f=[y]/\rD2 X .ends x y H Q):=mtSS Cz λY s Z H Q z w t i I h=>
 xA QaI (pM _ _ _) F.entry_str_endswith (F.args_str_endswith_2 _ _) (gives_str_endswith z w t i).meets Vy
def Jsx:MtR X "str.startswith" (λx f H Q=>∃y,f=[y]/\rD2 X .strt x y H Q):=mtSS Cz λY s Z H Q z w t i I h=>
 xA gC (pM _ _ _) F.entry_str_startswith (F.args_str_startswith_2 _ _) (gives_str_startswith z w t i).meets Vy
section
variable{U:Ae}
def pT{a b:D}{k:Str->Str->Rs D}{P:D->Prop}{E:Dc}(h:(onSS a b k).Good P E):∃i,a=.str i:=let⟨i,_,e,_⟩:=Jgw h;⟨i,e⟩
def qN{id:A9}{name:Str}{o:O2}(j:Slot "str" name id)(m:S4)(ho:∀{u t:D}{P:D->Prop}{E:Dc},(op2 o u t).Good P E->∃z,u=.str z)
  (I:MtR X id (λx xs H Q=>∃y,xs=[y]/\rD2 X o x y H Q)) (ha:AJ) (M:Br) (W:∀O,(∃z,evD U pa O=.ok aV)\/noEx pb=To) (J:CF)
  (i:'г' (attributeBase a name Se CS=eval a Se) Ai) (hs:Hn):PE X Xa K4:=by
 refine PE.weak (nN F.plainAttrs_str j m I ha (JE M rA hs) i (by rw[hs];rfl) J hs rfl) λZ H Q h=>?_;obtain⟨O,r,h⟩:=h;simp only[evD]at h;refine Dp;cases l:evD U pa O with
 |sk=>rw[l]at h;exact h.elim
 |ex c=>rw[l]at h;exact h
 |ok u=>
  rw[l]at h;simp only[Rs.bo]at h;intro x H1 s1 v;have B:=r.mono s1;cases f:evD U pb O with
  |sk=>rw[f]at h;exact h.elim
  |ex c=>
   rw[f]at h;rcases W O with⟨z,C⟩|Y
   ·rw[l]at C;cases C;refine⟨by rw[show x=V.str z from v];rfl,O,B,?_⟩;rw[f];exact XW.mono s1 h
   ·exact absurd f (Jhu U pb O c Y)
  |ok t=>rw[f]at h;simp only[Rs.bo]at h;obtain⟨z,rfl⟩:=ho h;refine⟨by rw[show x=V.str z from v];rfl,O,B,?_⟩;rw[f];intro y H2 s2 L;exact⟨y,rfl,.str z,t,v.mono s2,L,h.mono (λ_ o=>o.mono Ds) λ_ q=>q.mono Ds⟩
def nS{z:Str}{j}(i:Br)(m:CF)(f:attributeBase NW "join" Se (eval NW Se)=eval NW Se)(o:GG):
  PE X (.Call (.Attribute NW "join" apos) [b] [] pos) (tI X U (.bi .joinS (.con aV) pb)):=qN bJ F.type_str_join (fun{l _ _ _}h=>by cases l<;>first|exact Au|exact(show False from h).elim) JsF Jo i (λ_=>.inl ⟨z,rfl⟩) m f o
def JpR(i:AJ)(j:Br)(l:noEx pb=To)(m:CF)(f:attributeBase a "split" Se CS=eval a Se)(o:GG):
  PE X (.Call (.Attribute a "split" apos) [b] [] pos) (tI X U (.bi .splitS pa pb)):=qN jR F.type_str_split pT Jpw i j Na m f o
def cPart(i:AJ)(j:Br)(l:noEx pb=To)(m:CF)(f:attributeBase a "partition" Se CS=eval a Se)(o:GG):
  PE X (.Call (.Attribute a "partition" apos) [b] [] pos) (tI X U (.bi .partS pa pb)):=qN gD F.type_str_partition pT JrX i j Na m f o
def cEnds(i:AJ)(j:Br)(l:noEx pb=To)(m:CF)(f:attributeBase a "endswith" Se CS=eval a Se)(o:GG):
  PE X (.Call (.Attribute a "endswith" apos) [b] [] pos) (tI X U (.bi .ends pa pb)):=qN QaI F.type_str_endswith pT Jtz i j Na m f o
def cStrt(i:AJ)(j:Br)(l:noEx pb=To)(m:CF)(f:attributeBase a "startswith" Se CS=eval a Se)(o:GG):
  PE X (.Call (.Attribute a "startswith" apos) [b] [] pos) (tI X U (.bi .strt pa pb)):=qN gC F.type_str_startswith pT Jsx i j Na m f o
end
def noCX{P:Bk}{e:Am}{f:Ao}(h:CXr P w [] H s Io e f):False:=by obtain⟨_,_,_,_,_,_,_,_,_,_,_,_,_,z⟩:=h;exact z
noncomputable def kI (N P:Ag) (f:AO):Bool:=(f.kind==.function)&&!f.isCoroutine&&!f.isGenerator&&decide N.Nodup&&(N.take P.length==P)&&P.all (λx=>f.names.lookup x==So .local||f.names.lookup x==So .cell)&&f.names.all λy=>!(y.2==.free)
def kF{P:Ag}{f:AO}(h:kI N P f=To):FnScope N P f:=by simp only[kI,Zc,ZA,kB,Zs,wA,kC,Zq]at h;obtain⟨⟨⟨⟨⟨⟨i,r⟩,l⟩,q⟩,m⟩,o⟩,j⟩:=h;exact⟨i,r,l,q,m,o,j⟩
structure DefIn(K:Ak)(n:Str)(s:Stmt)(f:Addr)(fd:A6):Prop where
 a:PySem.W.nsIn K mainGlobals n=So EZ
 F:Fun K n n s f fd
def def_mk{n:Str}{s:Stmt}{f:Addr}{r o:D6}{sl:Ff}{q kV m j i ct:Am}(a:PySem.W.nsIn K mainGlobals n=So EZ)(l:K.lookup f=So ⟨q,r,.func XD,sl⟩)(c:PySem.W.codeIn K i n=To)(k:PySem.W.keepIn K A5=To):DefIn K n s f XD:=⟨a,Jqc l c k⟩
structure Def1(K:Ak)(mg:Bf)(x:Str)(st:Stmt)(ps:Ag)(f:Addr)(fd:A6):Prop where
 F:Fun K x x st f fd
 b:Binds K fd ps []
 g:mg x=So A5
noncomputable def kitB (K:Ak) (f:Gy) (cs:DP):Bool:=f.all λt=>cs.all λc=>PySem.W.kitOne K (.ref c.2) t.2==So (t.1==oS "ValueError"||c.1==t.1)
noncomputable def exkB (K:Ak) (C:Addr):Bool:=PySem.W.findIn K AV "__getattribute__"==So (So MO)&&PySem.W.findIn K AV "__getattr__"==So No&&PySem.W.mroIn K C QM==So To&&PySem.W.hasDictIn K C&&PySem.W.findIn K AV "__class__"==So (So Fq)&&PySem.W.mroIn K C Qba==So To
def exB (K:Ak) (cs:DP):Bool:=PySem.W.specialIn K Fq "__get__"==So (So Ld)&&PySem.W.takesIn K Fq==So To&&cs.all λc=>exkB K c.2&&PySem.W.nsIn K mainGlobals c.1==So (So (.ref c.2))
noncomputable def takB (K:Ak) (CR:Addr) (cs:DP):Bool:=cs.all λc=>PySem.W.exmOne K (.ref c.2) (.ref CR)==So To
def JqB(h:exB K cs=To){c:Str×Addr}(m:c∈cs):ExKit K c.2/\PySem.W.nsIn K mainGlobals c.1=So (So (.ref c.2)):=by simp only[exB,Zc,ZA,wA,exkB]at h;obtain⟨⟨i,o⟩,l⟩:=h;obtain⟨⟨⟨⟨⟨⟨a,b⟩,j⟩,d⟩,e⟩,f⟩,g⟩:=l c m;exact⟨⟨a,b,j,d,e,i,o,f⟩,g⟩
def nE{t:Str}{u:Am}{v:V}{i:Gy}(o:kitB G.K i cs=To)(r:exB G.K cs=To)(z:EH)(q:G.mg t=So u\/(G.mg t=No/\bootBuiltins t=So u/\t≠"__name__"))(l:(t,u)∈i):IsaC G t (cs.map (·.1)):=by refine⟨⟨u,v,z,q,λc B=>?_⟩⟩;obtain⟨x,f,rfl⟩:=Zz.mp B;obtain⟨m,j⟩:=JqB r f;refine⟨x.2,j,m,?_⟩;have:=wA.mp (wA.mp o _ l) _ f;exact ZA.mp this
def Jpa{i:Str}{CR:Addr}(X:G.K.In h)(N:h.Ns mainGlobals G.mg)(l:exB G.K cs=To)(m:takB G.K CR cs=To)(o:G.mg i=So (.ref CR)):Takes G i (cs.map (·.1)):=by refine⟨⟨CR,o,λc q=>?_⟩⟩;obtain⟨x,f,rfl⟩:=Zz.mp q;obtain⟨r,j⟩:=JqB l f;exact⟨x.2,j,ZI X N j,ZA.mp (wA.mp m _ f)⟩
noncomputable abbrev DefE:=Str×Stmt×List Str
section
variable{P:Bk}{mg:Bf}{base:Heap}{defs:B4}
noncomputable def HasD (K:Ak) (mg:Bf):List DefE->Prop
 |[]=>True
 |e::T=>(∃f g,Def1 K mg e.1 e.2.1 e.2.2 f g)/\HasD K mg T
noncomputable def OkD (P:Bk) (w:Bc) (K:Ak) (mg:Bf) (base:Heap) (defs:B4) (k:Nat):Nat->List DefE->Prop
 |_,[]=>True
 |i,e::T=>(∀f g,Def1 K mg e.1 e.2.1 e.2.2 f g->FnOk P w K mg base Ci (3*k) f g e.2.2 QbH)/\OkD P w K mg base defs k BQ T
def JjA:∀(T:Hg)(i:Nat),OkD P w K mg base defs 0 i T
 |[],_=>trivial
 |e::T,i=>⟨λ_ _ _=>Jnq,JjA T BQ⟩
theorem JkY{k:Nat}:∀{T:Hg}{i j:Nat}{e:DefE},OkD P w K mg base defs k i T->T[j]? =So e->∀f g,Def1 K mg e.1 e.2.1 e.2.2 f g->FnOk P w K mg base Ci (3*k) f g e.2.2 (spI K mg B1 (i+j))
 |[],_,_,_,_,h=>by simp at h
 |d::T,i,0,e,ok,h=>by
  simp only[vE,ZR]at h
  subst h
  exact ok.1
 |d::T,i,j+1,e,ok,h=>by
  have:=JkY (j:=j) ok.2 DG
  rw[show i+1+j=i+(j+1) by lia]at this
  exact this
def JfC:∀{T:Hg}{j:Nat}{e:DefE},HasD K mg T->T[j]? =So e->∃f g,Def1 K mg e.1 e.2.1 e.2.2 f g
 |[],_,_,_,h=>by simp at h
 |d::T,0,e,ok,h=>by
  simp only[vE,ZR]at h
  subst h
  exact ok.1
 |d::T,j+1,e,ok,h=>JfC ok.2 DG
def Jmz{T:Hg}{k:Nat}(i:HasD K mg T)(ok:OkD P w K mg base defs k 0 T)(l:KZ)(j:Nat){e:DefE}(h:T[j]? =So e):Callee An B1 j e.1:=by obtain⟨f,g,D⟩:=JfC i h;have F:=JkY ok h f g D;rw[iJ]at F;exact⟨⟨3*k,f,g,_,F,l.in1.in1,D.g,D.F.kp,D.b⟩⟩
def fo{l:Gw->CallD->Prop}{ps:Ag}{M:Aj}{st:Stmt}{i k:Nat}{d:DefD}{b:Sx}(E:∀A,Room Dw A->l An B1)(q:∀{X:Cx}{G:Gw}{U:Ae}{m:Hp},l G U->Ctx X G N 'ū'.names->HX X 'ū'.names->PSs X Dh (tS X U M m b))
  (F:'г' (defs[i]? =So d) Ai) (hb:'г' (YF=b) Ai) (h:'г' ((kI N ps B9&&d.slots==Yv&&d.params==Ar&&M.all (λi=>decide (Ar<=i))&&decide (Ar<=Yv))=To) Lb):
  ∀f g,Def1 K mg x st ps f g->FnOk P w K mg base Ci (3*A1) f g ps SG:=λf g D=>by
 simp only[Zc,ZA,wA,Zs]at h
 obtain⟨⟨⟨⟨o,u⟩,v⟩,B⟩,z⟩:=h
 subst hb
 exact JuG (j:=3*k+2) D.F (kF o) F u v B z λX A m C t r=>q (E A t) C r
noncomputable def DsIn (K:Ak):List DefE->Prop
 |[]=>True
 |e::T=>(∃f g,DefIn K e.1 e.2.1 f g)/\DsIn K T
abbrev BsE(e:DefE):Prop:=∀(kV f l:Am)(m:D6)(j ct:Am)(i:AF),i.length=e.2.2.length->bindArgs (PySem.W.fnOf e.1 e.1 (nL e.2.1) (Jp e.2.1) (Ja e.2.1) .none kV f l m j ct) ⟨i,[]⟩=pure (e.2.2.zip i)
noncomputable def BsOk:List DefE->Prop
 |[]=>True
 |e::T=>BsE e/\BsOk T
def rO(X:K.In h)(G:SO):∀{T:Hg},DsIn K T->BsOk T->HasD K mg T
 |[],_,_=>trivial
 |e::T,d,b=>⟨let⟨f,g,D⟩:=d.1;⟨f,g,D.F,D.F.binds b.1,ZI X G D.a⟩,rO X G d.2 b.2⟩
noncomputable def BlIn (K:Ak):List Str->Prop
 |[]=>True
 |x::T=>PySem.W.nsIn K mainGlobals x=So No/\BlIn K T
noncomputable def BlN (mg:Bf):List Str->Prop
 |[]=>True
 |x::T=>mg x=No/\BlN mg T
def nY(X:K.In h)(G:SO):∀{T:Ag},BlIn K T->BlN mg T
 |[],_=>trivial
 |x::T,d=>⟨PySem.W.mg_none_of X G d.1,nY X G d.2⟩
def jZ:∀{T:Ag}(j:Nat){x:Str},BlN mg T->T[j]? =So x->mg x=No
 |[],_,_,_,h=>by simp at h
 |d::T,0,e,ok,h=>by
  simp only[vE,ZR]at h
  subst h
  exact ok.1
 |d::T,j+1,e,ok,h=>jZ j ok.2 DG
end
noncomputable abbrev NM:=List Str×List Nat
def DAll (X:Cx) (G:Gw) (U:Ae) (f:Hp):List DefE->List NM->List DefD->Prop
 |e::T,n::L,d::D=>(Ctx X G n.1 (Ja e.2.1).names->HX X (Ja e.2.1).names->PSs X (Jp e.2.1) (tS X U n.2 f YF))/\DAll X G U f T L D
 |[],_,_=>True
 |_,_,_=>False
def chkD:List DefE->List NM->List DefD->Bool
 |e::T,n::L,d::D=>(kI n.1 e.2.2 (Ja e.2.1)&&d.slots==n.1.length&&d.params==e.2.2.length&&n.2.all (λi=>decide (e.2.2.length<=i))&&decide (e.2.2.length<=n.1.length))&&chkD T L D
 |[],_,_=>To
 |_,_,_=>Fo
def foAll{P:Bk}{mg:Bf}{base:Heap}{defs:B4}{l:Gw->CallD->Prop}{k:Nat}(E:∀A,Room Dw A->l An B1)(T:Hg):∀(L:List NM)(i:Nat)(_:∀{X:Cx}{G:Gw}{U:Ae}{m:Hp},l G U->DAll X G U m T L Qdn)(_:chkD T L Qdn=To),OkD P w K mg base defs A1 i T:=by
 induction T with
 |nil=>exactλ_ _ _ _=>trivial
 |cons e T o=>
  intro L i f h;cases L with
  |nil=>cases h
  |cons n L=>
   cases q:defs.drop i with
   |nil=>rw[q]at h;cases h
   |cons d D=>
    have r:defs[i]? =So d:=by rw[<-Nat.add_zero i,<-List.getElem?_drop,q];rfl
    have j:defs.drop BQ=D:=by rw[<-List.drop_drop,q];rfl
    rw[q]at h;simp only[q]at f;simp only[chkD,Zc]at h;exact⟨fo E (λe=>(f e).1) r rfl (by simp only[Zc];exact h.1),o L BQ (λe=>by rw[j];exact(f e).2) (by rw[j];exact h.2)⟩
def Jgl{k:D}:∀{ks vs:Aq},oA k ks vs=No->Bh=AQ->(ks.any λd=>d.eqv k)=Fo
 |[],_,_,_=>rfl
 |a::ks,[],_,e=>by simp at e
 |a::ks,v::vs,h,e=>by
  simp only[oA]at h
  split at h
  ·cases h
  ·rename_i q
   simp only[uD,Jgl h (by simpa using e),jJ]
   simpa using q
def JtK{a:Addr}{t z:Bool}{ks:Aq}{xs:Aw}(h:R0):Bh=Ah:=by
 cases t
 ·obtain⟨f,_,rfl,rfl⟩:=dk_k h;simp
 ·obtain⟨f,_,rfl,rfl⟩:=dk_t h;simp
end Rd
namespace Rd
open PySem PySem.Spec PyProof.Rows L2 Pu PySem.SeqAt PySem.W
def look_mem{k d:D}:∀{ks vs:Aq},oA k ks vs=So d->d∈vs
 |[],vs,h=>by cases vs<;>cases h
 |a::ks,[],h=>by cases h
 |a::ks,v::vs,h=>by
  simp only[oA]at h
  split at h
  ·cases h;simp
  ·exact Zx _ (look_mem h)
end Rd
namespace Rd
open PySem PySem.Spec PyProof.Rows L2 Pu
end Rd
namespace Rd
open PySem PySem.Spec PyProof.Rows L2 Pu PySem.W
variable{x en qual rn pc:Str}{pos p1 p2:Pos}{f fc:Addr}{N cs ps:Ag}{i fi:Nat}{X:Cx}{H:Hp}{s:Ao}{A:Bg}{P:Bk}{w:Bc}{base:Heap}{p:Px}{st:Stmt}{params:Ex}{body:Expr}{scope:AO}{clos:DP}{nm:Bd}{d:DefD}{fd:A6}
structure LamB(mg:Bf)(base:Heap)(c P:Addr):Prop where
 code:CodeHd base c P
 bm:∃bm ob,mg "__builtins__"=So (.ref bm)/\bm≠builtinsNs/\base.get? bm=So ob/\ob.cls=.type "module"/\ob.dict=So builtinsNs/\ob.data=.plain
def xS(H:Hp)(f:Addr)(params:Ex)(body:Expr)(scope:AO)(q:Str)(clos:DP):Prop:=
 ∃(j:Am)(c:Addr)(a:Am)(b:Obj)(h:Cf)(t:Tok),H f=So (.frz (kla_obj "<lambda>" q params body scope clos j c a) Oc)/\H c=So (.frz b Oc)/\b.data=.fields h/\h[1]? =So GZ
def JjV{a b:Int}{c j:Am}(l:AF)(h:TriplesOk l)(e:codeAmong pos (l++[rawInt a,rawInt b,c])=So j):codeAmong pos l=So j\/j=c:=by
 fun_induction TriplesOk l with
 |case1=>
  simp only[yL,codeAmong,rawInt]at e;split at e
  ·cases e;exact .inr rfl
  ·cases e
 |case2 r t y u x rest o=>
  simp only[lC,codeAmong]at e⊢;split at e
  ·rename_i m;rw[if_pos m];exact .inl e
  ·rename_i m;rw[if_neg m];exact o h e
 |case3 l v q=>exact h.elim
section
variable{Y:AU}{Z:Cg}
def Inv.grow{j P:Addr}{ps L:Cf}{q:Str}{O t:Tok}{h':Heap}{tk:Nat}{a:Obj}{vs:Cf}(I:BM)(G:H P=So QaS)(hq:ps[0]? =So (.str q O))(ht:TriplesOk L.toList)
  (hc:∀pos F,codeAmong pos L.toList=So F->∃(c:Addr)(a:Obj)(vs:Cf)(t:Tok),F=.ref c/\H c=So (.frz a Oc)/\a.data=.fields vs/\vs[1]? =So GZ)
  (E:Heap.ExtBut P WL h') (m:Aa<=j) (y:h'.get? j=So a) (hd:a.data=.fields vs) (hv:vs[1]? =So GZ) (B:h'.get? P=So (tabObj (L++#[rawInt Yy,rawInt pos.col,.ref j]))):
  L2.Inv X Y Z (upd H j (.frz a Oc)) {s with heap:=h',toks:=tk}:=by
 have hn:H j=No:=I.hok.fresh m;have W:∀b,H b=No->b≠P:=λb e z=>by rw[z,G]at e;cases e
 have l:∀{b u},H b=So u->upd H j (.frz a Oc) b=So u:=λe=>by rw[Jc (Ji e hn)];exact e
 refine I.un ⟨λb o e n _ _=>E b o (W b n) e,λb o e n _ _=>⟨Qcr,E b o (W b n) e⟩,λb o e n _=>?_,λb o e _=>?_,λb xs e=>l e,λb o u e=>l e,λb ps' e=>⟨#[],by rw[l e];simp⟩⟩ λb u e=>?_
 ·rw[Jc (Zt (Zw (Zk e) m))];exact n
 ·by_cases z:b=P
  ·exact⟨_,z▸B⟩
  ·exact⟨o,E b o z e⟩
 ·by_cases z:b=j
  ·subst z;rw[Je]at e;cases e;exact⟨y,trivial,⟨a,y⟩,λ_ _ _ _=>trivial⟩
  ·rw[Jc z]at e;by_cases U:b=P
   ·subst U;rw[G]at e;cases e;refine⟨q,O,_,hq,B,?_,λC F w=>?_⟩
    ·rw[rQ];exact TriplesOk_snoc _ _ _ _ ht
    ·rw[rQ]at w;rcases JjV _ ht w with w|w
     ·obtain⟨c,J,M,t',e1,e2,e3⟩:=hc C F w;exact⟨c,J,M,t',e1,l e2,e3⟩
     ·exact⟨j,a,vs,t,w,Je,hd,hv⟩
   ·refine(I.hok b u e).stay (λc v h r=>E c v ?_ r) (λc r=>l r) (λc xs r=>l r) λc o' u' r=>l r;rcases h with rfl|h
    ·exact U
    ·intro z2;rw[z2,G]at h;cases h
def Jod{M:Model}{E:Az}{Q:Az}{c P:Addr}{ps:Cf}{q:Str}{qt:Tok}{fl:Nat}
  (I:BM) (B:LamB X.mg YD c P) (a:X.env.code=.ref c) (L:H P=So QaS) (hq:ps[0]? =So (.str q qt)) (r:closureFor scope Se=pure clos)
  (h:∀f s' W,L2.Inv X Y Z W s'->Same H W->xS W f params body scope q clos->Q A5 s'):
  wpAny M A (makeFunction "<lambda>" q params (.expr body) scope Se [] [] [] pos fl) Q E s:=by
 have hob:ObjOk Yu X.w H WL P QaS:=I.hok P _ L;obtain⟨q',qt',qs,e0,eP,tr,cs⟩:=hob;rw[hq]at e0;cases e0;have hg:=I.ok.mod.glob.keeps I.bk;have hgP:mainGlobals≠P:=λz=>by obtain⟨o,es,ep,e,_⟩:=I.ok.mod.glob;have:=(I.bs _ _ e).2;rw[z,L]at this;cases this
 obtain⟨bm,ob,b1,b2,G,b4,b5,b6⟩:=B.bm;have hbP:bm≠P:=λz=>by have:=(I.bs _ _ G).2;rw[z,L]at this;cases this
 have hbG:bm≠mainGlobals:=λz=>by obtain⟨o,es,ep,e,l,_⟩:=I.ok.mod.glob;rw[z,e]at G;cases G;rw[l]at b6;cases b6
 have hb:s.heap.BuiltinsAt X.mg P:=⟨bm,ob,b1,b2,hbG,hbP,I.bk _ _ G,b4,b5,b6⟩;have lay:∀{y:Hp}{s1:Ao}{o:Obj}{tk:Nat}{ho:o.isFreed=Fo},L2.Inv X Y Z y s1->L2.Inv X Y Z Qdo {s1 with heap:=s1.heap.push o,toks:=tk}/\Same y Qdo:=fun{y s1 o tk ho}J9=>
  ⟨J9.laid TJ (Zh _) ⟨Zf _ ho,trivial,⟨_,Zf _ ho⟩,λ_ _ _ _=>trivial⟩,λb u e=>by rw[Jc (Ji e (J9.hok.fresh (Zh _)))];exact e⟩
 cases O:codeAmong pos qs.toList with
 |none=>refine kla_makeFunction (mg:=X.mg) r b0 hg a Pa eP tr O hgP hb λF j h' tk hx m hlt C htb=>?_;obtain⟨c2,oc,U,t,e2,hoc,l,J⟩:=C;cases e2;have I1:=Inv.grow (tk:=tk) I L hq tr cs hx m hoc l J htb;have hn:H F=No:=I.hok.fresh m;obtain⟨I2,v⟩:=lay (o:=kla_obj "<lambda>" q params body scope clos ((X.mg "__name__").getD .none) F j) (tk:=tk) (ho:=rfl) I1;refine h _ _ _ I2 (Same.trans (λb u e=>by rw[Jc (Ji e hn)];exact e) v) ⟨_,_,_,oc,U,t,Je,v _ _ Je,l,J⟩
 |some cv=>obtain⟨F,oc,U,t,rfl,e2,l,J⟩:=cs pos cv O;refine kla_makeFunctionHit (mg:=X.mg) r b0 hg a Pa eP tr O hb λj h' tk hk hsz=>?_;have I1:L2.Inv X Y Z H {s with heap:=h',toks:=tk}:=I.kept hk;obtain⟨I2,v⟩:=lay (o:=kla_obj "<lambda>" q params body scope clos ((X.mg "__name__").getD .none) F j) (tk:=tk) (ho:=rfl) I1;refine h _ _ _ I2 v ⟨_,_,_,oc,U,t,Je,v _ _ e2,l,J⟩
end
structure CtxN(X:Cx)(G:Gw)(N:Ag)(nm:Bd):Prop where
 g:gwOf X=G
 hN:X.N=N
 nd:N.Nodup
 vis:∀x,visB nm x=To->Vis Cy x
 glo:∀x,gloB nm x=To->Gl X x
 sto:∀x,locB nm x=To->Loc Cy x/\(X.fn x=To\/X.env.scope.names.lookup x=So .local)
 un:X.A.units+64<cLine
section
variable{U:Ae}{G:Gw}{e a b:Expr}{pa pb:Px}{px apos:Pos}{t:Str}{M:Aj}{H0:Hp}
def CtxN.K(C:E4):X.K=G.K:=by rw[<-C.g];rfl
def CtxN.mg(C:E4):X.mg=G.mg:=by rw[<-C.g];rfl
def Ctx.n(C:Al):CtxN X G N nm:=⟨C.g,C.hN,C.nd,C.vis,C.glo,C.sto,C.un⟩
def vVN(C:E4)(h:Ho):PE X B7 Kj:=by simp only[chkV,Zc,ZA]at h;obtain⟨l,j⟩:=plainN.d h.2;exact JpP (by rw[C.hN];exact h.1.1) (C.vis x h.1.2) l j
def tNeN(C:E4)(j:AJ)(h:Br):PT X UI (tT X U R5):=oK eQ j h ED
def Jse(C:E4)(m:AJ)(l:Br)(o:noEx pb=To)(r:CF)(j:'г' (attributeBase a "count" Se CS=eval a Se) Ai)(hs:Hn):
  PE X (.Call (.Attribute a "count" apos) [b] [] pos) (tI X U (.bi .count pa pb)):=JjP Qb2 F.type_list_count (λq u h=>by cases q<;>first|rfl|exact absurd rfl (h _)) (Jpp C.un) m l o r j hs
def Jrr(C:E4)(m:AJ)(l:Br)(o:noEx pb=To)(r:CF)(j:'г' (attributeBase a "index" Se CS=eval a Se) Ai)(hs:Hn):
  PE X (.Call (.Attribute a "index" apos) [b] [] pos) (tI X U (.bi .index pa pb)):=JjP Qb3 F.type_list_index (λq u h=>by cases q<;>first|rfl|exact absurd rfl (h _)) (JnO C.un) m l o r j hs
def sS(C:E4)(h:Ei)(r:B6)(j:'г' BW Ai)(hs:MQ):PS X Gu UB:=by obtain⟨l,u,o⟩:=chkA.at h;obtain⟨m,q⟩:=C.sto x u;exact PS.weak (qG DJ (by rw[C.hN];exact l) m (oE r) hs q) λD Z H h=>Jij o j h
def kE(C:E4)(E:G.mg "isinstance"=No)(hi:IsaC G t cs)(J:AJ)(L:gloB nm "isinstance"=To)(j:chkG nm t=To)
  (y:'г' (starEach [a,.Name t p2] Se=DN::starEach [.Name t p2] Se) Ai):PE X (.Call QN [a,.Name t p2] [] pos) (tI X U (.un (.isC cs t) pa)):=by
 obtain⟨u,v,l,hl,I⟩:=hi.ex;simp only[chkG,Zc]at j;have B:PE X (.Name t p2) (tC v):=by
  rcases hl with z|⟨z1,z2,F⟩
  ·exact Jma (C.glo t j.1) (by rw[C.mg];exact z) l (plainN.d j.2).1
  ·exact JlS (C.glo t j.1) (by rw[C.mg];exact z1) z2 l F (plainN.d j.2).1
 refine PE.weak (yO (Jvx (cs:=cs) (t:=t) l (by rw[C.K];exact I)) (C.glo _ L) (by rw[C.mg];exact E) cX (JE J (JE B rA rfl) y) Ab Ab y rfl) λZ H Q m=>?_;obtain⟨O,r,h⟩:=m;refine⟨O,r,'Ĥ'.imp λd Y v W s l=>?_⟩;exact⟨v,d,rfl,l,Y.mono TC λ_ q=>q.mono s⟩
end
structure FnN(P:Bk)(w:Bc)(K:Ak)(mg:Bf)(base:Heap)(f:Addr)(fd:A6)(ps:Ag)(sp:Sp):Prop where
 len:∀vs H Q E,sp vs H Q E->AQ=Ar
 run:∀(A:Bg)(outer:Bb)(s:Ao)(H:Hp)(args:Args)(us:AF)(vs:Aw)(Q:VK)(E:XK),A.depth+5<recursionLimit->A.units+100<cLine->Env0 P w K mg base A outer s H->BindsTo s fd args (ps.zip us)->Vals vs us->sp vs H Q E->
  codeAny Cm A Qbz Uq s
section
variable{K:Ak}{mg:Bf}{defs:B4}{k:Nat}{outer:Bb}{s1:Ao}{E:XK}
def Jkj{cd:Am}{us:AF}{vs:Aw}(S:Sv)(a:Gx)(h:AQ=Ar)(r:GK)
  (x:InCallC s Aa (bindL 'հ'.kindOf HM λ_=>No) 'Ύ' (bindC 'հ'.kindOf HM λ_=>No) s1):
  L2.Inv (cxE Ci P w K mg base N MM 'ɶ' Fo A outer s H E) [] XT H s1:=by have b:Env0 P w K mg base {A with handled:=No} outer s H:=⟨a.frames,a.mod,a.bs,a.bsz,a.funs,a.frf,a.hok,a.bare⟩;have I:=Jed (CX:=CXr P w) (E:=E) S rfl b h r x;exact⟨⟨bA,YT,b0,I.ok.blt,bH,I.ok.inj,I.ok.has,I.ok.cab,(λz=>by cases z),lX a.frames,I.ok.stk,I.ok.exf,I.ok.bs,dX,I.ok.noex,I.ok.exfs,bZ,I.ok.frf⟩,I.os,YB,Z8,YH,Z3,YE,YX,I.pin,YC,aF⟩
theorem JvN(F:Ef)(S:LL)(hd:defs[fi]? =So d)(t:d.slots=Yv)(hp:d.params=Ar)(hpN:Ar<=Yv)
  (G:∀(X:Cx)(A:Bg)(H0:Hp),CtxN X An N 'ū'.names->PSs X Dh (tS X B1 [] H0 YF)):FnN P w K mg base f fd ps OH:=by
 have M:∀J,runD defs A1 fi J=if Ac=aK then Jd (exD B1 YF DV)else .sk:=λJ=>by
  simp only[runD,hd]
 obtain⟨oc,od,kV,doc,pm,an,cdv,ct,osl,rfl,lk,hcd⟩:=F.ex
 have len:∀vs H Q E,spI K mg U0 fi vs H Q E->AQ=Ar:=λvs H Q E h=>by
  obtain⟨J,r,g⟩:=h
  rw[M]at g
  split at g
  ·rename_i q
   rw[r.length,q,hp]
  ·exact g.elim
 refine⟨len,λA outer s H args us vs Q E h1 h2 Y hb r Z=>?_⟩
 have hl:=len _ _ _ _ Z
 have KX:K.In WL:=Y.mod.kin.keeps λb o e=>(Y.bs b o e).1
 have lim:s.heap.NoLimit:=Y.mod.nolimit.keeps λb o e=>(Y.bs b o e).1
 have B:∀y∈ps.zip us,'ū'.names.lookup y.1=So .local\/('ū'.names.lookup y.1=So .cell/\((cellsFrom Es 'ū'.names []).lookup y.1).isSome=To):=λ⟨n,v⟩j=>by
  rcases S.par n (gM j).1 with q|q
  ·exact .inl q
  ·exact .inr Up
 refine oX Ad cZ rfl S.co S.gen rfl UC (hb _ _ _ _ ?_)
 refine jX S.kind B λO he s1 x=>?_
 subst he
 refine UZ
 have I:L2.Inv U6 [] XT H s1:=Jkj S Y hl r x
 obtain⟨J,rs,g⟩:=Z
 rw[M]at g
 split at g
 ·rename_i q
  have C:CtxN U6 ⟨P,w,K,mg,base,A.deeper IC⟩ N 'ū'.names:={
   g:=rfl
   hN:=rfl
   nd:=S.nd
   vis:=λy j=>by
    show Vis B9 y
    unfold visB at j
    split at j
    ·rename_i z;exact .inl z
    ·rename_i z;exact .inr FQ
    ·rename_i z;exact .inr G8
    ·cases j
   glo:=λy j=>by
    show(Ja st).names.lookup y=So .globalImplicit
    unfold gloB at j
    split at j
    ·rename_i z;exact z
    ·cases j
   sto:=λy j=>by
    show Loc B9 y/\(To=To\/_)
    unfold locB at j
    split at j
    ·rename_i z;exact TU
    ·rename_i z;exact TQ
    ·cases j
   un:=by show A.units+3+64<_;lia}
  refine ZT (G _ _ H C [] s1 XT H {nx:=λ_ W=>Q .non W,rt:=Q} I ⟨JG Y6 J,oP t Ad Af rs,?_⟩) (λfl L t=>?_) λe L t=>t
  ·cases q2:exD B1 YF DV with
   |ok r2=>
    rw[q2]at g
    obtain⟨fl,env2⟩:=r2
    cases fl with
    |nx=>exactλl W e' _=>g .non W e'.same rfl
    |rt dd=>exactλv W L r'=>g v W L r'
    |bk=>exact g.elim
    |ct=>exact g.elim
   |ex c=>
    rw[q2]at g
    exactλC2 H2 hm s2 a L F=>JdL rfl F QbD
   |sk=>rw[q2]at g;exact g.elim
  ·have U:∀{l:Cg}{W:Hp}{v:V}{u:Am},L2.Inv U6 [] l W L->RelV v u->Q v W->CE outer P w H s Q u L:=
    fun{l W v u}m rv q=>⟨v,W,m.os,m.bare,m.base,m.hok,rv,q⟩
   cases fl with
   |ret u=>
    obtain⟨v,l,W,m,rv,q⟩:=t
    exact U m rv q
   |next=>
    obtain⟨l,W,m,q⟩:=t
    exact U (v:=V.non) (u:=Ys) m rfl q
   |brk=>
    obtain⟨_,_,_,q⟩:=t
    exact False.elim q
   |cont=>
    obtain⟨_,_,_,q⟩:=t
    exact False.elim q
 ·exact g.elim
def JpG:FnN P w K mg base f fd ps RJ:=
 ⟨λb H Q E⟨_,_,h⟩=>bU,λA outer s H a j b Q E _ _ _ _ _⟨_,_,h⟩=>bU⟩
end
section
variable{Y:AU}{E:Az}{C CRa a:Addr}{np hp:Pos}{je:Nat}{D:Ends}{ex:Expr}{te:TE}
def JlH(ok:X.Ok)(l:X.stack=Se::X.outer)(r:X.env.frame=So AB)(t:X.ex=[])(F:FlyIn Fj C a H s)(hgr:Gl X rn)(hmr:X.mg rn=So KO)(hdb:(rn==Ye)=Fo)
  (hexm:PySem.W.exmOne X.K AV KO=So To) (hN:EV) (hje:X.N[je]? =So en) (J:X.env.scope.names.lookup en=So .local)
  (st:∀E',PE (Cx.mk2 X O9 E' Y) ex te)
  (k:∀o,o.cls=.ref C->H a=No->te ('Ǎ'.set je (So AE)) (upd H a HW) D.rt):
  wpAny Av X.A (noteFrame AE Se) (λ_ s2=>wpAny Av X.A OE (λ_ s3=>
   wpAny Av X.A WC GX X.xe s3) X.xe s2) X.xe s:=by
 obtain⟨ps,σ',I,hxx⟩:=F.inv;have hfr:X.A.frames=So FS:=by rw[<-l];exact ok.frames
 have rest:∀(B:Heap)(W:Am)(h1 h4:Heap),Landed Fj H B h1->B.StaysIn h1->L2.Inv Fj ps σ' H {s with heap:=h1}->Heap.HeldW B FS a AV W AB h4->h1.UpToSlots h4->
   wpAny Av X.A OE (λ_ s3=>wpAny Av X.A WC GX X.xe s3) X.xe {s with heap:=h4}:=by
  intro B W h1 h4 LD k1 I1 j Z;refine wpAny_landsW j λh5 L up5=>?_;have I5:L2.Inv Fj [] 'Ǎ' H {s with heap:=h5,toks:=Yp}:=Inv.land (X:=Cx.mk1 X E Y) l r t I1 LD k1 L.1 (Z.trans up5) Yp;obtain⟨ob,hob,hobc⟩:=L.there;refine wpAny_handleBy_cons (codeAny_handlers_test ?_) (by intro q;cases q);refine uI (X:=Cx.mk2 X O9 (λ_ _=>True) Y) (Inv.to2 I5 rfl) hgr hmr ?_ hdb;have LT:PySem.W.Looks Av h5 (typeOf AE) AV:=hobc▸(PySem.W.Looks.ld hob).andThen .now;refine PySem.W.Looks.here (PySem.W.exm_one I5.kIn LT hexm) ?_;rw[if_pos rfl];refine codeAny_handlers_suite_as ?_;refine lands_againW L λh6 y up6=>?_;have I6:L2.Inv Fj [] 'Ǎ' H {s with heap:=h6,toks:=Yp}:=Inv.land (X:=Cx.mk1 X E Y) l r t I1 LD k1 y.1 ((Z.trans up5).trans up6) Yp;obtain⟨oe,ws,hoe,hoec,hoed,_⟩:=y.first;have h0:H a=No:=by
   cases q:H a with
   |none=>rfl
   |some u=>obtain⟨o,e⟩:=LD.tr a u q;rw[y.2.1]at e;cases e
  have LD6:Landed Fj H B h6:=⟨LD.tr,LD.kp,LD.pn⟩;have I7:=Inv.know (X:=Cx.mk1 X E Y) I6 h0 hoe y.2.1 LD6 l r t rfl hoed;refine wO (X:=Cx.mk1 X E Y) (i:=je) (v:=.ref a) I7 hN hje (.inl J) rfl (λs7 I8=>?_) (.inr J);refine ZT (lL (nI (pos:=p2) (st _)) [] s7 _ _ ⟨λ_ _=>False,D.rt,λ_ _=>False,λ_ _=>False⟩ (Inv.to2 I8 rfl) (k oe hoec h0)) (λf s9 q=>?_) λ_ _ z=>z;cases f with
  |brk=>obtain⟨_,_,_,q⟩:=q;exact q.elim
  |cont=>obtain⟨_,_,_,q⟩:=q;exact q.elim
  |next=>obtain⟨_,_,_,q⟩:=q;exact q.elim
  |ret u=>
   obtain⟨v,σ9,H9,I10,rv,q⟩:=q;have I11:=Inv.of2 I10 ok;obtain⟨m,G,hm⟩:=I11.loc;refine wpAny_nameGoes_keeps J G (by rw[ok.kind];rfl) λh' v' hn' hs=>?_;refine⟨v,List.replicate Qbl No,H9,Inv.locals I11 hs hn' Af (λi x w e1 e2 e3=>?_),rv,q⟩;rw[qM]at e2;split at e2<;>cases e2
 rcases hxx with⟨h,vs,hm,U⟩|⟨B,W,flv,fl,tr,kp,pn⟩
 ·have hin:∀O∈(Se::X.outer),∀b,O.frame=So b->b∈frs FS:=λO he b hb=>ZX.mpr ⟨O,he,hb⟩;have hk:(PySem.W.hideAll h (frs FS)).StaysIn h:=λb o q=>qQ _ q;have hstk:h.FunFrames YD FS:=by rw[<-l];exact U.stack
  refine Jel hfr r hk (PySem.W.funFrames_hide hstk hin) hm λh' W j Z=>?_;have M:frs 'ֆ'.stack=frs FS:=by rw[<-l]
  refine rest _ W h h' ⟨λb u e=>?_,λb o hb G=>SN,λp hp=>?_⟩ hk U j ((yW hm.keeps).trans Z)
  ·obtain⟨o,ho⟩:=HOk.has U.hok e;exact⟨o,uE _ ho λz=>by rw[U.stkFree b (by rw[M];exact z)]at e;cases e⟩
  ·rw[M]at G;refine uE _ (U.base.keep b o hb h0 (λz=>G ?_) (by show b∉X.ex;rw[t];simp)) G;exact ZX.mpr (by obtain⟨e,he,hf⟩:=ZX.mp z;exact⟨e,.tail _ he,hf⟩)
  ·rw[M]at G;obtain⟨o',e⟩:=U.base.there b o hb (by show b∉X.ex;rw[t];simp);exact⟨o',uE _ e G⟩
  ·obtain⟨q1,q2,q3,q4,_⟩:=U.pin p eL;refine uE _ q1 λz=>?_;unfold frs at z;rw[wD,r]at z;rcases Ze.mp z with e|z
   ·exact q3 e
   ·exact q4 z
 ·have fl':qZ B FS a AV W flv WL:=by rw[<-l];exact fl
  exact Jev hfr r fl' λh' j Z=>rest B W WL h' ⟨tr,λb o hb G=>kp b o hb G (by show b∉X.ex;rw[t];simp),pn⟩ fl.1 I j Z
def tDeed(X:Cx)(i:Nat):TE:=λZ H Q=>∃b,Z[i]? =So (So Hi)/\∀Y s,L2.Inv X Y Z H s->FnAt b WL/\codeAny Av X.A (.call Hi F9) (CR Ik Yt Yu X.w H s Q (λh _ j=>∀C,h=.ref C->XE X C j)) s
def JsC(hN:X.N[i]? =So x)(G:Vis Cy x)(M:FE)(m:Fd):PE X (.Call GI [] [] pos) (tDeed X i):=by
 rintro Y s Z H Q I⟨j,h0,h⟩;refine lH (thn (iC hN G M m Y s Z H (λv t=>v=.ref j/\t=H) I ⟨_,h0,rfl,rfl⟩) λu B q=>?_);obtain⟨w,t,l,y,L,O⟩:=q;subst L O;obtain rfl:u=Value.ref j:=y;obtain⟨J,hc⟩:=h Y B l;refine callWith_F0 J (jH (zC hc λr z b=>?_));cases r with
 |error e=>obtain⟨a,C,W,rfl,F,hE⟩:=pL l (show CXr Yu X.w Yt t B (λo _ U=>∀C,o=.ref C->XE X C U) e z from b);exact hE C rfl a z F
 |ok j=>
  cases j with
  |ret u=>exact l.after b
  |next=>exact False.elim b
  |brk=>exact False.elim b
  |cont=>exact False.elim b
end
section
variable{fdc:A6}{cn:Str}{U:Ae}{je:Nat}
def Jpz(FN:FnN Yu X.w X.K X.mg YD fc fdc [pc] O8)(h1:X.A.depth+5<recursionLimit)(h2:X.A.units+100<cLine)(hg:Gl X cn)(E:X.mg cn=So Kx)(J:PySem.W.keepIn X.K Kx=To)(M:Binds X.K fdc [pc] [])
  (t:(cn==Ye)=Fo) (hN:X.N[je]? =So en) (B:Vis Cy en) (hd:(en==Ye)=Fo) (q:(en==Ym)=Fo):
  PE X (.Call (.Name cn p1) [.Name en p2] [] pos) (λZ H Q=>∃v,Z[je]? =So Bi/\spI X.K X.mg U fi [v] H Q λ_ _ _=>False):=by
 rintro Y s Z H Q I⟨v,h0,h⟩;refine lH (uI I hg E ?_ t);refine PySem.W.callWith_K (h₀:=YD) aS J (thn ((JE (iC hN B hd q) rA rfl) pos Y s Z H (λz o=>z=[v]/\o=H) I ⟨v,h0,rfl,rfl⟩) λm y⟨z,o,b,r,e1,O⟩=>⟨b.kIn,?_⟩) rfl rfl;subst e1 O;have hl:(m++[]).length=[pc].length:=by have:=Yx;simpa using this.symm
 have l:=M y m b.kIn hl;rw[zD]at l;refine jH (zC (FN.run X.A Yt y o ⟨m,[]⟩ m [v] Q Io h1 h2 b.env0 l r h) λr L j=>?_);cases r with
 |error e=>obtain⟨a,C,W,rfl,F,hE⟩:=pL b (show CXr Yu X.w Yt o y Io e L from j);exact hE.elim
 |ok G=>
  cases G with
  |ret u=>exact b.after j
  |next=>exact False.elim j
  |brk=>exact False.elim j
  |cont=>exact False.elim j
end
structure ToldS(st:Stmt)(dn en rn cn:Str):Prop where
 body:∃p1 p2 p3 np p4 p5 p6 p7 hp pos,Jp st=[.Try Xf XZ [] [] pos]
 sc:FnScope Qcp [dn] B9
 ld:'ū'.names.lookup dn=So .local
 le:'ū'.names.lookup en=So .local
 lr:'ū'.names.lookup rn=So .globalImplicit
 lc:'ū'.names.lookup cn=So .globalImplicit
 pl:(plainN dn&&plainN en&&plainN rn&&plainN cn)=To
inductive LamXe(X:Cx):Prop where
 |mk (c P:Addr) (ps:Array Value) (qt:Tok) (h:X.env.code=.ref c/\LamB X.mg X.base c P/\X.H₀ P=So (.tbl ps)/\ps[0]? =So (.str (X.env.qual++"<lambda>") qt)):LamXe X
structure LamX(X:Cx):Prop where
 ex:LamXe X
inductive Tolde(G:Gw)(call:Ae)(x:Str)(fi:Nat)(cs:Ag):Prop where
 |mk (f:Addr) (fd:FuncData) (qual:Str) (st:Stmt) (dn en rn cn:Str) (CRa fc:Addr) (fdc:FuncData) (pc:Str) (h:Fun G.K x qual st f fd/\ToldS st dn en rn cn/\Binds G.K fd [dn] []/\G.mg x=So (.ref f)/\G.mg rn=So (.ref CRa)/\
  (∀c∈cs,∃C,PySem.W.nsIn G.K mainGlobals c=So Bv/\G.mg c=So AV/\PySem.W.exmOne G.K AV KO=So To)/\FnN G.prog G.w G.K G.mg G.base fc fdc [pc] (spI G.K G.mg call fi)/\G.mg cn=So (.ref fc)/\PySem.W.keepIn G.K Kx=To/\Binds G.K fdc [pc] []):Tolde G call x fi cs
structure Told(G:Gw)(U:Ae)(x:Str)(fi:Nat)(cs:Ag):Prop where
 ex:Tolde G U x fi cs
def lamB (N:Ag) (nm:Bd) (M:Aj) (a:AO):Bool:=
 (a.kind==.function)&&!a.isCoroutine&&!a.isGenerator&&a.names.all (λy=>!(y.2==.cell)&&(!(y.2==.free)||celB nm y.1))&&
  (List.range Yv).all λi=>M.contains i||(match N[i]? with|some x=>a.names.lookup x==So .free|none=>To)
noncomputable def zO (M:Aj) (Z:Cg):L2.St:=Z.mapIdx λi o=>if i∈M then No else o
def JjY{M:Aj}{Z:Cg}{v:V}(h:(zO M Z)[i]? =So Bi):i∉M/\Z[i]? =So Bi:=by
 unfold zO at h;rw[List.getElem?_mapIdx]at h;cases q:Z[i]? with
 |none=>rw[q]at h;cases h
 |some o=>
  rw[q]at h;simp only[rJ,ZR]at h;split at h
  ·cases h
  ·rename_i a;subst h;exact⟨a,rfl⟩
def Jkm(h:celB nm x=To):visB nm x=To:=by
 unfold celB at h;unfold visB;split at h
 ·rename_i z;rw[z]
 ·rename_i z;rw[z]
 ·cases h
section
variable{U:Ae}{G:Gw}{sc:AO}{lp:Pos}{M:Aj}{j:Nat}
def Jwl(L:a7)(l:closureFor sc Se=pure clos)(a:Tg):
  PE X (.Lambda params body sc lp) (λZ H Q=>∀f W,Same H W->xS W f params body sc MU clos->Q A5 W):=by
 intro Y s Z H Q I h;obtain⟨c,P,ps,r,o,v,y,m⟩:=L.ex;obtain⟨b,z⟩:=I.base.tbls P ps y;have t:0<ps.size:=(zJ.mp m).1;have u:(ps++b)[0]? =So (.str MU r):=by rw[iX t];exact m
 exact kla_eval a (Jod I v o z u l λf C W B sm q=>⟨.ref f,W,B,rfl,h f W sm q⟩)
end
def TbH(H:Hp)(b:Addr)(q:Str):Prop:=∃(ps:Cf)(a:Tok),H b=So (.tbl ps)/\ps[0]? =So (.str q a)
section
variable{K:Ak}{mg:Bf}{defs:B4}{k j:Nat}{c Pt:Addr}
def foN{k:Nat}{b:Sx}{g:A6}(D:OS)
  (q:∀{X:Cx}{A:Bg}{a:Hp},CtxN X An N 'ū'.names->PSs X Dh (tS X B1 [] a b))
  (r:'г' (defs[i]? =So d) Ai) (hb:'г' (YF=b) Ai) (h:W3):
  FnN P w K mg base f g ps SG:=by simp only[Zc,ZA,Zs]at h;obtain⟨⟨⟨l,t⟩,m⟩,o⟩:=h;subst hb;exact JvN D.F (kF l) r t m o λX A a C=>q C
def Jrt{U:Ae}{b:Stmt}{dn cn:Str}{g a:A6}(D:Def1 K mg x st [dn] f g)(T:Oj)(o:Takes An rn cs)(h:Def1 K mg cn b [pc] fc a)(m:FnN P w K mg base fc a [pc] (spI K mg U i)):
  Told An U x i cs:=by obtain⟨CR,l,q⟩:=o.ex;exact⟨f,g,x,st,dn,en,rn,cn,CR,fc,a,pc,D.F,T,D.b,D.g,l,q,m,h.g,h.F.kp,h.b⟩
end
end Rd
namespace Rd
open PySem PySem.Spec PyProof.Rows L2 Pu
variable{X:Cx}{N ns ps:Ag}{pos px apos p1 cpos py np:Pos}{H0 H W H1:Hp}{G:Gw}{nm:Bd}{x f m y qual:Str}{bc:AG}{K:Ak}{i fi k j nt:Nat}{e ek b c:Expr}{M ts:Aj}{w:Bool}{a C:Addr}{O:Fm}{Z:Cg}{v:V}{d:D}{P:Bk}{mg:Bf}{base:Heap}{α:Type}{pb:Bx}{es:CY}{pk:Px}{st:Stmt}{fd:A6}{xs:Aw}
noncomputable def plK:HO->Bool
 |.lst _=>To
 |.tup _=>To
 |.frz _ _=>To
 |_=>Fo
def SameP(H W:Hp):Prop:=∀a o,H a=So o->plK o=To->W a=So o
def PlO(H:Hp):Prop:=∀a o,H a=So o->plK o=To
def pl (H:Hp):Hp:=λa=>match H a with
 |some o=>if plK o then So o else No
 |none=>No
section
variable{K:Ak}{H W H1 H2 H0:Hp}{L:A7}
def SameP.of(s:Ct):SameP H W:=λa o h _=>s a o h
def SameP.refl:SameP H H:=λ_ _ h _=>h
def SameP.trans(a:Qbk)(b:SameP H1 H2):SameP H H2:=λx o h p=>b x o (a x o h p) p
def SameP.hid(s:Dj):SameP Ba Kz:=λa o h p=>by
 obtain⟨n,e⟩:=nV h
 rw[JF n];exact s a o e p
def PlO.same(p:A8)(s:Same H0 H)(t:Dj):Same H0 W:=λa o h=>t a o (s a o h) (p a o h)
def JkR{o:HO}(h:pl H a=So o):H a=So o/\plK o=To:=by
 unfold pl at h;split at h
 ·rename_i u e;split at h
  ·rename_i q;cases h;exact⟨e,q⟩
  ·cases h
 ·cases h
def Jnh:Same (pl H) H:=λa o h=>(JkR h).1
def JpZ:PlO (pl H):=λa o h=>(JkR h).2
def Jrc(t:Same (pl H) W):SameP H W:=λa o h p=>t a o (by unfold pl;rw[h];simp[p])
def SameP.sqL(s:Dj)(h:dG):SqL K W a xs:=by
 rcases h with(h|⟨o,h⟩)|h
 ·exact .inl (.inl Qdp)
 ·exact .inl (.inr ⟨o,s _ _ h rfl⟩)
 ·exact .inr h
def SameP.sqT(s:Dj)(h:dH):SqT K W a xs:=by
 rcases h with h|h
 ·exact .inl Qdp
 ·exact .inr h
mutual
def Rep.plain(e:Dj):∀(d:D){v:V},Jl d=To->Rep K H d v->Rep K W d v
 |.non,_,_,h=>h
 |.bl _,_,_,h=>h
 |.int _,_,_,h=>h
 |.str _,_,_,h=>h
 |.tup J,_,p,⟨a,xs,e1,h1,h2⟩=>⟨a,xs,e1,e.sqT h1,Reps.plain e J (by simpa[Jl]using p) h2⟩
 |.lst J,_,p,⟨a,xs,e1,h1,h2⟩=>⟨a,xs,e1,e.sqL h1,Reps.plain e J (by simpa[Jl]using p) h2⟩
 |.dct t z ks vs,_,p,⟨a,xs,e1,h1,h2⟩=>by
  simp only[Jl,Zc]at p
  obtain⟨rfl,p⟩:=p
  refine⟨a,xs,e1,?_,Reps.plain e vs p h2⟩
  cases t<;>obtain⟨l,⟨o,q⟩,r⟩:=h1
  ·exact RB
  ·exact RB
 |.obj _ _ _,_,p,_=>by simp[Jl]at p
 |.mls _ _,_,p,_=>by simp[Jl]at p
 |.adr _,_,_,h=>h
 |.exc c,_,_,⟨a,o,C,e1,h1,h2⟩=>⟨a,o,C,e1,e _ _ h1 rfl,h2⟩
 |.fn x _,_,_,h=>h
def Reps.plain(e:Dj):∀(J:Aq){xs:Aw},Jg J=To->Reps K H J xs->Reps K W J xs
 |[],_,_,h=>h
 |d::J,_,p,⟨x,r,e1,h1,h2⟩=>by
  simp only[Jg,Zc]at p
  exact⟨x,r,e1,Rep.plain e d p.1 h1,Reps.plain e J p.2 h2⟩
end
end
def JvS{s:AY}(h:i∉M):Ow M Mj Z=Ow M O Z:=JfJ λj l=>by
 unfold owA
 rw[Zv (λz:i=j=>h (z▸l))]
def EnvOk.objN(e:CW){B:D}(hi:i∉M)(I:plE C5=To)(s:Dj)(s0:Same H0 W)(L:Rep K eO B v):EnvOk K M H0 W Yl (O.set i (So B))where
 same:=s0
 len:=by rw[xE,xE];exact e.len
 read:=λj d r h=>by
  rw[xB hi]
  rcases wC h with⟨rfl,hd,hl⟩|⟨q,h⟩
  ·cases hd;exact⟨v,kD (by rw[e.len];exact hl),L⟩
  ·obtain⟨u,A,o⟩:=e.read j d r h
   rw[Zv 'Ǒ']
   exact⟨u,A,Rep.plain s.hid d (Jmj I h q) o⟩
 own:=λj d r h=>by
  rw[xB hi]
  rcases wC h with⟨rfl,_,_⟩|⟨q,h⟩
  ·exact absurd r hi
  ·obtain⟨l,A,h0,o⟩:=e.own j d r h
   have p:=Jmj I h q
   rw[Zv 'Ǒ']
   refine⟨l,A,h0,?_⟩
   cases d with
   |lst J=>obtain⟨xs,Y,q2⟩:=o;exact⟨xs,s _ _ Y rfl,Reps.plain s.hid J (by simpa[Jl]using p) q2⟩
   |dct t z ks vs=>
    cases z with
    |true=>first|exact o.elim|(obtain⟨E,_⟩:=o;cases E)
    |false=>simp[Jl]at p
   |_=>exact o.elim
 apart:=λj k l d1 U r F q A o E=>by
  have n1:j≠i:=λz=>hi (z▸r)
  have n2:k≠i:=λz=>hi (z▸F)
  rw[Zv '亹']at A E
  rw[Zv 'Ӛ']at o⊢
  exact e.apart j k l d1 U r F q A o E
def Jqg:∀{l:AD}{i:Nat}{a:α},l[i]? =So a->l.set i a=l
 |[],_,_,h=>by simp at h
 |b::l,0,a,h=>by simp at h;simp[h]
 |b::l,i+1,a,h=>by simp only[List.set_cons_succ];rw[Jqg 'è']
def EnvOk.obj(e:CW){h:D}(hi:i∉M)(q:plE C5=To)(s:Dj)(s0:Same H0 W)(o:Z[i]? =So Bi)(l:Rep K eO h v):EnvOk K M H0 W Z (O.set i (So h)):=by have:=e.objN hi q s s0 l;rw[Jqg o]at this;exact this
def OutX(X:Cx)(M:Aj)(H0:Hp)(Z:Cg)(L:A7)(H:Hp)(Q:VK)(d:D)(O:Fm):Prop:=∀v W,EnvOk X.K M H0 W Z O->Ow M O Z=L->SameP H W->Rep X.K W d v->Q v W
def EX(X:Cx)(M:Aj)(H0:Hp)(Z:Cg)(c:Str)(O:Fm):Prop:=∀C W,X.mg c=So AV->EnvOk X.K M H0 W Z O->XE X C W
def tB(X:Cx)(U:Ae)(bc:AG)(M:Aj)(H0:Hp)(p:Bx):TE:=λZ H Q=>∃O,EnvOk X.K M H0 H Z O/\(evB U bc p O).Good (OutX X M H0 Z BF H Q) Kf
def tTB(X:Cx)(U:Ae)(bc:AG)(M:Aj)(H0:Hp)(p:Bx):TT:=λZ H Q=>∃O,EnvOk X.K M H0 H Z O/\(evB U bc p O).Good (λd h=>∃b,d=.bl b/\∀W,EnvOk X.K M H0 W Z h->Ow M h Z=Ow M O Z->SameP H W->Q b W) Kf
def Jle(e:EnvOk X.K M H0 H Z O){r:Rs D}{P:D->Fm->Prop}{l:D->Prop}(h:(Rx.of O r).Good P Kf)(q:∀d,P d O->l d):r.Good l Bz:=by
 cases r with
 |ok d=>exact q d h
 |ex c=>exactλC W o s=>h C W o NV
 |sk=>exact h
section
variable{U:Ae}{a:Expr}{p:Px}{pa:Bx}
def Jvm(o:B6):PE X e (tB X U bc M H0 aW):=
 PE.weak o λZ H Q⟨O,e,h⟩=>⟨O,Y1,Jle e h λd l v W s r=>l v W NV rfl 'Ɏ' r⟩
def nU{p:Px}(l:PT X a eI):PT X a (tTB X U bc M H0 aW):=
 PT.weak l λZ H Q⟨O,e,h⟩=>⟨O,Y1,Jle e h λd⟨b,o,q⟩=>⟨b,o,λW s=>q W NV rfl 'Ɏ'⟩⟩
end
def spB(K:Ak)(mg:Bf)(bc:AG)(fi:Nat):Sp:=λo H Q E=>∃a l st J,o=.ref a::l/\Rep K H st AE/\Reps K H J l/\Jg J=To/\
 (bc fi st J).Good (λd h=>∀v W,SameP H W->Rep K W h AE->Rep K W d v->Q v W) (λc h=>∀C W,mg c=So AV->SameP H W->Rep K W h AE->E AV No W)
inductive CalleeBe(G:Gw)(bc:AG)(fi:Nat)(c m:Str):Prop where
 |mk (C:Addr) (kk:Nat) (f:Addr) (fd:FuncData) (ps:List Str) (h:PySem.W.nsIn G.K mainGlobals c=So (So (.ref C))/\Cls G.K C/\Meth G.K C m f/\FnOk G.prog G.w G.K G.mg G.base (CXr G.prog G.w) kk f fd ps (spB G.K G.mg bc fi)/\Room kk G.A.in1.in1/\Binds G.K fd ps []):CalleeBe G bc fi c m
structure CalleeB(G:Gw)(bc:AG)(fi:Nat)(c m:Str):Prop where
 ex:CalleeBe G bc fi c m
def tC(X:Cx)(U:Ae)(bc:AG)(f i:Nat)(cn m:Str)(p:Px):TE:=λZ H Q=>∃O a ns fs,ReadOk X.K H Z O/\O[i]? =So (So B2)/\clsN ns=cn/\ns.contains m=Fo/\
 'Ơ'.Good (λd=>∃J,d=.lst J/\Jg J=To/\(bc f B2 J).Good (λd h=>∀v W,SameP H W->Rep X.K W h AE->Rep X.K W d v->Q v W) (λc h=>∀C W,X.mg c=So AV->SameP H W->Rep X.K W h AE->XE X C W)) Bz
def Jfp:∀{ns:Ag}{xs:AD},ns.contains m=Fo->'ȷ'.lookup m=No
 |[],_,_=>by simp
 |n::ns,[],_=>by simp
 |n::ns,x::xs,h=>by
  simp only[pQ,nC]at h
  simp only[iG,Zl,h.1]
  exact Jfp h.2
section
variable{U:Ae}{p:Px}{cn:Str}
def Jsi{C f:Addr}{kk:Nat}{fd:A6}{ps:Ag}{t:TA}(Cc:Al)(hC:PySem.W.nsIn G.K mainGlobals cn=So Bv){Z:Cg}{H:Hp}{Q:VK}(h:tC X U bc fi i cn m p Z H Q)
  (ht:∀O Q',ReadOk X.K H Z O->'Ơ'.Good (λd=>∃J,d=.lst J/\∀o W,Same H W->Reps X.K W J o->Q' o W) Bz->t Z H Q'):
  vS C m (spB X.K X.mg bc fi) [] (λB _ W=>∀C,B=.ref C->XE X C W) (λZ H Q=>∃v,Z[i]? =So Bi/\Q v H) t Z H Q:=by
 obtain⟨O,a,ns,fs,r,he,z,hm,h⟩:=h;obtain⟨v,hv,Y⟩:=r i _ he;obtain⟨e1,C',dx,xs,h1,h2,h3,h4⟩:=id Y;subst e1;rw[z,Cc.K,hC]at h2;cases h2;refine⟨_,hv,a,dx,_,rfl,h1,Jfp hm,ht O _ r (h.imp λd⟨J,ed,L,l⟩=>⟨J,ed,λo W s rs=>?_⟩)⟩;refine⟨a,o++[],_,J,rfl,Y.mono s,by rw[zD];exact rs,L,?_⟩;cases q:bc fi B2 J with
 |ok d E=>rw[q]at l;exactλv A u F rd=>l v A ('Ɏ'.trans u) F rd
 |ex c E=>rw[q]at l;exactλC2 A I u F C3 e3=>by cases e3;exact l C2 A I ('Ɏ'.trans u) F
 |sk=>rw[q]at l;exact l
def nK:zV Ik X (λh _ W=>∀C,h=.ref C->XE X C W):=λY Z H s e l I o=>by
 obtain⟨a,C,W,rfl,F,hE⟩:=pL I o
 exact hE C rfl a l F
def JmJ{pl:C1}(l:Al)(A:Oi)(u:visB nm x=To)(hi:N[i]? =So x)(s:FE)(q:Fd)(E:Dy)
  (o:Cj) (hpl:Dg)
  (ht:'г' (eval Fn Se=(do
   let ov<-eval GI Se
   standAt YR
   let(f,first)<-holding [ov] Ec
   callWith pos f first 'μ' Eb)) Ai):PE X Fn Uh:=by obtain⟨C,kk,f,fd,ps,t,B,J,F,z,I⟩:=A.ex;have L:=l.g;subst L;exact PE.weak (Jmn (iC (by rw[l.hN];exact hi) (l.vis x u) s q) B J F (Room.out z) I .nil nK E o hpl ht) λZ H Q h=>Jsi (f:=f) (kk:=kk) (fd:=fd) (ps:=ps) l t h λO Y r g=>⟨O,r,g⟩
end
section
variable{U:Ae}{p:Px}
def Jtk(he:Vr)(h0:A8)(I:CV):PE X e Wn:=by
 refine PE.weak he λZ H Q B=>?_;obtain⟨O,e,h⟩:=B;simp only[evB]at h;split at h
 ·rename_i a u fs q;split at h
  ·rename_i E;subst E;refine⟨O,a,u,fs,Y1,q,rfl,I,?_⟩;obtain⟨v,F,L⟩:=e.read i _ Af q;obtain rfl:v=.ref a:=L.1;have t:∀{l:D}{W:Hp},plE C5=To->SameP H W->Rep X.K W l AE->EnvOk X.K [] H0 W Z Qbc:=λY s r=>e.obj Af Y s OD F (by show Rep X.K GU _ _;rw[vB];exact r);cases z:evD U p O with
   |sk=>rw[z]at h;exact h.elim
   |ex c=>rw[z]at h;simp only[if_true]at h;exactλC W o s=>h C W o NV
   |ok d=>
    rw[z]at h;cases d with
    |lst J=>
     simp only at h;split at h
     ·rename_i A;simp only[Zc]at A;refine⟨J,rfl,A.2,?_⟩;cases y:bc fi (.obj a u fs) J with
      |sk=>rw[y]at h;exact h.elim
      |ok d l=>rw[y]at h;exactλv W s r rd=>h v W (t A.1 s r) rfl s rd
      |ex c l=>rw[y]at h;exactλC W o s r=>h C W o (t A.1 s r)
     ·exact h.elim
    |_=>exact h.elim
  ·exact h.elim
 ·exact h.elim
def JuO{L:A7}(l:∀a∈L,H1 a=No):Same H1 E2:=λb o h=>by
 have:b∉L:=λq=>by rw[l b q]at h;cases h
 rw[JY this];exact h
def JnM(he:Vr)(h0:A8)(hm:CV)(hi:i∉M)(B:BW):PE X e Wh:=by
 rintro Y s Z H Q I⟨O,e,h⟩;simp only[evB]at h;split at h
 ·rename_i a t fs q;split at h
  ·rename_i F;subst F;obtain⟨v0,hv,hr⟩:=e.read i _ hi q;obtain rfl:v0=.ref a:=hr.1;obtain⟨ps,e1,e2,I'⟩:=Inv.hide I e.ows.c;cases z:evD U p O with
   |sk=>rw[z]at h;exact h.elim
   |ex c=>rw[z]at h;exact h.elim
   |ok d=>
    rw[z]at h;cases d with
    |lst J=>
     simp only at h;split at h
     ·rename_i E;simp only[Zc]at E;cases y:bc fi Qdq J with
      |sk=>rw[y]at h;exact h.elim
      |ex c l=>rw[y]at h;exact h.elim
      |ok d l=>
       rw[y]at h;refine ZT (he (ps++Y) s Z CN (λv H1=>SameP CN H1/\Rep X.K H1 l AE/\Rep X.K H1 d v) I' ⟨Jv M 0 O,a,t,fs,b7,by rw[zI,q];simp[hi],rfl,hm,?_⟩) (λu s1⟨v,H1,I1,rv,sm,r1,r2⟩=>?_) λ_ _ z=>z
       ·rw[Jw U O B,z];refine⟨J,rfl,E.2,?_⟩;rw[y];exactλv W s r rd=>⟨s,r,rd⟩
       ·obtain⟨L,I2⟩:=Inv.unhide I e.ows.c e1 e2 (λb xs w=>sm b _ w rfl) I1;have sp:SameP H (uni BF H H1):=λb o w pk=>by
         by_cases A:b∈Ow M O Z
         ·rw[lP A];exact w
         ·rw[JY A];exact sm b o (by rw[JF A];exact w) pk
        exact⟨v,_,I2,rv,h v _ (e.obj hi E.1 sp (h0.same aD sp) hv (by rw[pO L];exact r1)) (JvS hi) sp (r2.mono (JuO L))⟩
     ·exact h.elim
    |_=>exact h.elim
  ·exact h.elim
 ·exact h.elim
end
structure FzB(L:A7)(H:Hp)(L':A7)(W:Hp):Prop where
 keep:∀a o,H a=So o->plK o=To->a∉L->W a=So o
 own:∀l∈L',l∈L\/∀o,H l=So o->plK o=Fo
def ChB(m:Bool)(L:A7)(H:Hp)(h:A7)(W:Hp):Prop:=FzB L H h W/\(m=Fo->SameP H W)
section
variable{m n:Bool}{L L1 L2:A7}{H2:Hp}
def ChB.of(h:M7):ChB m L H L1 H1:=⟨⟨λa o e _ q=>h.1.keep a o e q,λl r=>(h.1.own l r).imp id λz o w=>by rw[z]at w;cases w⟩,λz=>SameP.of (h.2 z)⟩
def ChB.sp(h:Qbk):ChB m L H L H1:=⟨⟨λa o e p _=>h a o e p,λl q=>.inl q⟩,λ_=>h⟩
def ChB.trans(a:QdG)(b:ChB n L1 H1 L2 H2):ChB (m||n) L H L2 H2:=by
 refine⟨⟨λc o e p r=>b.1.keep c o (a.1.keep c o e p r) p λq=>?_,λl s=>?_⟩,λh=>?_⟩
 ·rcases a.1.own c q with h|h
  ·exact r h
  ·rw[h o e]at p;cases p
 ·rcases b.1.own l s with h|h
  ·exact a.1.own l h
  ·by_cases q:l∈L
   ·exact .inl q
   ·refine .inr λo e=>?_;cases p:plK o with
    |false=>rfl
    |true=>rw[<-h o (a.1.keep l o e p q),p]
 ·simp only[nC]at h;exact(a.2 h.1).trans (b.2 h.2)
def ChB.weak(a:QdG)(h:n=Fo->m=Fo):ChB n L H L1 H1:=⟨a.1,λq=>a.2 (h q)⟩
end
def OutQ(X:Cx)(w:Bool)(M:Aj)(H0:Hp)(L:A7)(H:Hp)(m:Bool)(D:Ends)(f:Fw)(O:Fm):Prop:=match f with
 |.nx=>∀h W,EnvOk X.K M H0 W h O->ChB m L H eS W->D.nx h W
 |.rt d=>∀v W,Same H0 W->Rep X.K W d v->(w=To->∃h,EnvOk X.K M H0 W h O)->D.rt v W
 |.bk=>∀h W,EnvOk X.K M H0 W h O->ChB m L H eS W->D.bk h W
 |.ct=>∀h W,EnvOk X.K M H0 W h O->ChB m L H eS W->D.ct h W
def EQ(X:Cx)(M:Aj)(H0:Hp)(c:Str)(O:Fm):Prop:=∀C W h,X.mg c=So AV->EnvOk X.K M H0 W h O->XE X C W
def tSB(X:Cx)(w:Bool)(U:Ae)(bc:AG)(M:Aj)(H0:Hp)(p:Bs):L2.TS:=λD Z H=>∃O,EnvOk X.K M H0 H Z O/\(exO w U bc p O).Good (OutQ X w M H0 BF H (mutB p) D) Mg
def OutQ.after{L t:A7}{m n k:Bool}{D:Ends}{f:Fw}(h:OutQ X w M H0 L H k D f O)(c:ChB m L H t H1)(A:k=Fo->m=Fo/\n=Fo):OutQ X w M H0 t H1 n D f O:=by
 have s:∀{u:A7}{W:Hp},ChB n t H1 u W->ChB k L H u W:=λz=>(c.trans z).weak λq=>by obtain⟨a,b⟩:=A q;rw[a,b];rfl
 cases f with
 |nx=>exactλl W o r=>h l W o (s r)
 |rt d=>exact h
 |bk=>exactλl W o r=>h l W o (s r)
 |ct=>exactλl W o r=>h l W o (s r)
section
variable{U:Ae}{p:Px}{a b:Bs}{q:Sx}{rest sa sb:BI}
def xU(h:PSs X rest (tS X U M H0 q)):PSs X rest (tSB X w U bc M H0 (.lift q)):=by
 refine PSs.weak h λD Z H⟨O,e,h⟩=>D7;simp only[exO]at h;cases z:exD U q O with
 |sk=>rw[z]at h;exact h.elim
 |ex c=>rw[z]at h;exact h.elim
 |ok r=>
  rw[z]at h;obtain⟨f,u⟩:=r;cases f with
  |nx=>exactλl W o t=>h l W o eT
  |bk=>exactλl W o t=>h l W o eT
  |ct=>exactλl W o t=>h l W o eT
  |rt d=>
   cases w with
   |true=>exact h.elim
   |false=>exactλv W s r=>h v W s r λz=>by cases z
def pG(h:PS X st NI):PSs X [st] NI:=lL h
def wU(h1:PS X st NI)(u:PSs X rest P0):PSs X (st::rest) (tSB X w U bc M H0 KP):=by
 refine PSs.weak (gH h1 u) λD Z H⟨O,e,h⟩=>D7;refine(Rq.gB.mp h).imp (λf r t=>?_) λ_ _ z=>z;have B:mutB KP=Fo->mutB a=Fo:=λq=>(nC.mp q).1;cases f with
 |nx=>intro l W o s;refine⟨r,o,t.imp (λE A u=>u.after s λq=>nC.mp q) λ_ _ z=>z⟩
 |rt d=>exact t
 |bk=>exactλl W o s=>t l W o (s.weak B)
 |ct=>exactλl W o s=>t l W o (s.weak B)
def pS(E:PT X c (tTB X U bc M H0 pb))(I:PSs X sa NI)(J:PSs X sb P0):PS X Qaf (tSB X w U bc M H0 Ke):=by
 refine PS.weak (JtV E I J) λD Z H⟨O,e,h⟩=>D7;refine(Rx.good_next.mp h).imp (λd l u=>?_) λc l z C W t F=>z C W Z t F;cases d with
 |bl k=>
  refine⟨k,rfl,λW Y A s=>?_⟩;have o:∀{q:Bs},(mutB Ke=Fo->mutB q=Fo)->(exO w U bc q l).Good (OutQ X w M H0 BF H (mutB Ke) D) (EQ X M H0)->tSB X w U bc M H0 q D Z W:=λt L=>
   ⟨l,Y,L.imp (λf r B=>by rw[A];exact B.after (m:=Fo) (ChB.sp s) λz=>⟨rfl,t z⟩) λ_ _ z=>z⟩
  cases k with
  |true=>exact iteT (o (λz=>(nC.mp z).1) u)
  |false=>exact iteF (o (λz=>(nC.mp z).2) u)
 |_=>exact u.elim
def vY(B:PE X e (tB X U bc M H0 pb))(F:swapsWith e No Yy Se=pure Fo):PS X Qdc (tSB X w U bc M H0 (.eff pb)):=by refine PS.weak (oO B F) λD Z H⟨O,e,h⟩=>D7;exact(Rx.good_next.mp h).imp (λd l A v W E t s r=>A Z W E (by rw[t];exact ChB.sp s)) λc l z C W o u=>z C W Z o u
def JqO(o:B6):PS X LS (tSB X w U bc M H0 (.ret p)):=by
 refine PS.weak (nI o) λD Z H⟨O,e,h⟩=>Gk;simp only[exO]at h;cases z:evD U p O with
 |sk=>rw[z]at h;exact h.elim
 |ex c=>rw[z]at h;exactλC W l s=>h C W Z l NV
 |ok d=>rw[z]at h;exactλv W s r=>h v W Qa7 r λ_=>⟨Z,e.grow s⟩
def Jwx(C:Al)(hi:N[i]? =So x)(A:locB nm x=To)(F:Uu)(J:MQ):
  PS X Gu VN:=by
 obtain⟨t,B⟩:=C.sto x A;refine PS.weak (qG DJ (by rw[C.hN];exact hi) t F J B) λD Z H⟨O,e,h⟩=>D7;refine(Rx.good_next.mp h).imp (λd l o v W I L s r=>?_) λc l z C W u E=>z C W Z u E;split at o
 ·exact o _ W (I.put Af (by show Rep X.K GT d v;rw[vB];exact r)) (ChB.sp s)
 ·exact o.elim
def Jpf{cx:Str}{ma:Expr}{l:Px}(u:∀H,PS X Td (tS X U [] H Qdr)):PS X Td (tSB X w U bc [] H0 Qdr):=by
 rintro Y s Z H D I⟨O,e,h⟩;refine u H Y s Z H D I ⟨O,⟨Same.refl H,e.len,e.read,λj d o=>by simp at o,λj _ _ _ _ o=>by simp at o⟩,?_⟩;simp only[exO]at h;simp only[exD];cases z:evD U l O with
 |sk=>rw[z]at h;exact h.elim
 |ex c=>rw[z]at h;exact h.elim
 |ok d=>
  rw[z]at h;simp only[Rs.bo];simp only at h;split at h
  ·rename_i t;rw[if_pos t];exactλC W r s=>h C W Z r NV
  ·exact h.elim
end
section
variable{X:Cx}{w:Bool}{U:Ae}{bc:AG}{M:Aj}{H0:Hp}{G:Gw}{N:Ag}{nm:Bd}{pos:Pos}
theorem Jli{body:Bs}{D:Ends}{J:FX}{F:It}(e:OU)(s1:Qbk)
  (wk:∀s W,ChB C8 BF H1 s W->(∀i,i<Ac->F.go i W)/\F.stop Ac W/\∀i x L,i<Ac->F.yld i W x L->L=W/\∃d,J[i]? =So d/\Rep X.K (hid s W) d x)
  (h:(forB ts nt FV J O).Good UF Mg):
  ∃W9:Nat->Nat->L2.St->Hp->Prop,(∃m,W9 0 m Z H1)/\∀i m Z H,W9 i m Z H->(F.stop i H/\D.nx Z H)\/(F.go i H/\∃Nn:L2.St->Hp->Prop,(∀o W,Nn o W->∃m',m'<m/\W9 BQ m' o W)/\
   ∀x W,F.yld i H x W->gS X M H0 ts nt x Z W λr t=>tSB X w U bc M H0 body {D with nx:=Nn,ct:=Nn,bk:=D.nx} r t):=by
 refine⟨λi m o W=>∃l,EnvOk X.K M H0 W o l/\ChB C8 BF H1 (Ow M l o) W/\i<=Ac/\m=Ac-i/\(forB ts nt FV eN l).Good UF Mg,
  ⟨Ac,O,e,ChB.sp SameP.refl,yC _,rfl,by simpa using h⟩,?_⟩
 rintro i m o W⟨l,e',c',hi,rfl,A⟩;obtain⟨w1,w2,w3⟩:=wk _ W c';have cH:∀{s:A7}{Hz:Hp},ChB C8 BF H1 s Hz->ChB C8 BF H s Hz:=λz=>((ChB.sp (m:=Fo) s1).trans z).weak λq=>by rw[q];rfl
 by_cases hlt:i<Ac
 ·refine .inr ⟨w1 i hlt,λr t=>∃m',m'<Ac-i/\∃l,EnvOk X.K M H0 t r l/\ChB C8 BF H1 (Ow M l r) t/\i+1<=Ac/\m'=Ac- BQ/\(forB ts nt FV Ib l).Good UF Mg,λr t q=>q,λx t hy=>?_⟩;obtain⟨rfl,d,hd,rd⟩:=w3 i x t hlt hy;rw[xV hd]at A;simp only[forB]at A;cases hb:kA nt d with
  |sk=>rw[hb]at A;exact A.elim
  |ex c=>exact(mV hb).elim
  |ok E=>
   rw[hb]at A;refine⟨l,d,E,e',rd,hb,λσ3 e3 ow3=>⟨yB ts E l,e3,(Rq.gB.mp A).imp (λf u hr=>?_) λ_ _ z=>z⟩⟩;have cc:∀{s:A7}{Hz:Hp},ChB C8 (Ow M (yB ts E l) σ3) t s Hz->ChB C8 BF H1 s Hz:=λz=>by rw[ow3]at z;exact(c'.trans z).weak λq=>by rw[q];rfl
   cases f with
   |nx=>exactλB H4 Y I=>⟨_,by lia,u,Y,cc I,by lia,rfl,hr⟩
   |ct=>exactλB H4 Y I=>⟨_,by lia,u,Y,cc I,by lia,rfl,hr⟩
   |bk=>exactλB H4 Y I=>hr B H4 Y (cH (cc I))
   |rt d=>exact hr
 ·have he:i=Ac:=by lia
  subst he;rw[mR]at A;exact .inl ⟨w2,A o W e' (cH c')⟩
variable{tg iter:Expr}{body:BI}{p:Px}{sb:Bs}{ts:Aj}{nt:Nat}
def Jts{a:Expr}{p1:Pos}(C:Al)(hp:K7)(ha:PE X a FA)(t:gloB nm "range"=To)(q:G.mg "range"=No)(L:Uk)(Y:PSs X body (tSB X w U bc M H0 sb))
  {A:Pos} (o:starEach [a] Se=[DN]) (hs:∀x,foldedSetIterable PZ Se x=pure x):PS X (.For tg PZ body [] pos) (tSB X w U bc M H0 (.loop ts nt RU sb)):=by
 refine PS.weak (lT hp YO (Jgp (C.glo _ t) (by rw[C.mg];exact q) (Jb (U:=U) ha Jt (by exact o)) o) L Y hs) λD Z H⟨O,e,h⟩=>Gk;simp only[exO,evD]at h;simp only[evD];cases z:evD U p O with
 |sk=>rw[z]at h;exact h.elim
 |ex c=>rw[z]at h;exactλC W q s=>h C W Z q NV
 |ok d=>
  rw[z]at h;cases d with
  |int j=>
   simp only[Rs.bo,op1]at h;cases l:midI j with
   |false=>rw[l]at h;exact h.elim
   |true=>
    rw[l]at h;simp only[if_true]at h;refine⟨[.int j],rfl,λvs H1 B r=>?_⟩;obtain⟨v,r',rfl,rv,rfl⟩:=r;cases rv;simp only[midI,Zc,Zs]at l;refine⟨j,rfl,l.1,l.2,?_⟩;split at h
    ·have I:(Pu.upTo 0 j.toNat).length=j.toNat:=by simp[Pu.upTo]
     refine Jli (w:=w) (U:=U) (bc:=bc) (J:=Pu.upTo 0 j.toNat) (e.grow B) (SameP.of B) (λL' W c=>?_) h;rw[I];refine⟨λi u=>u,Zh _,λi x E u⟨F,hx⟩=>⟨F,.int (0+(i:Int)),by simp[Pu.upTo,u],hx⟩⟩
    ·exact h.elim
  |_=>exact h.elim
end
def FldC(G:Gw)(f:Str):Prop:=∀ns C,PySem.W.nsIn G.K mainGlobals CO=So Bv->Cls G.K C/\NoAttr G.K C f
def Jid{o:Type}(P:α->o->Prop):∀{ns:Ag}{fs:AD}{xs:List o}{d:α},'Ϫ'.lookup f=So d->Qc7=Ah->(∀(i:Nat)(d:α),fs[i]? =So d->∃x,xs[i]? =So x/\P d x)->∃x,'ȷ'.lookup f=So x/\P d x
 |[],_,_,_,h,_,_=>by simp at h
 |n::ns,[],_,_,h,_,_=>by simp at h
 |n::ns,a::fs,[],_,_,hl,_=>by simp at hl
 |n::ns,a::fs,x::xs,d,h,hl,hr=>by
  simp only[iG,Zl]at h⊢
  cases q:f==n with
  |true=>
   rw[q]at h
   cases h
   obtain⟨y,l,s⟩:=hr 0 _ rfl
   simp at l;subst l
   exact⟨_,rfl,s⟩
  |false=>
   rw[q]at h
   exact Jid P h (by simpa using hl) λi d r=>by simpa using hr BQ d (by simpa using r)
section
variable{U:Ae}{p:Px}
def JvU(C:Al)(A:DW)(J:B6)(F:attributeBase e f Se M3=eval e Se):PE X TY (tI X U (.un (.fld f) p)):=by
 refine PE.weak (Jjv J F) λZ H Q h=>h.un1 λd v W s L l=>?_;cases d with
 |obj a ns fs=>
  simp only[op1]at l;obtain⟨rfl,o,B,xs,u,r,h3,t⟩:=L;cases q:'Ϫ'.lookup f with
  |none=>rw[q]at l;exact l.elim
  |some d=>rw[q]at l;obtain⟨x,z,I⟩:=Jid (λd x=>Rep X.K W d x) q t.length.symm λi d l=>t.get l;rw[C.K]at r;obtain⟨Y,E⟩:=A ns o r;exact⟨a,o,B,_,x,rfl,u,by rw[C.K];exact Y,by rw[C.K];exact E,z,Out.now l I⟩
 |_=>exact(show False from l).elim
end
noncomputable def Jqm:HO->Prop
 |.ins _ _ _=>False
 |_=>True
def SameN(H W:Hp):Prop:=∀a o,H a=So o->Jqm o->W a=So o
def SameN.p(s:Qc3):SameP H W:=λa o h p=>s a o h (by cases o<;>first|trivial|cases p)
def DK.no{t z:Bool}{ks:Aq}(h:R0):∃o,H a=So o/\Jqm o:=by
 cases t<;>cases z<;>obtain⟨q,l,r⟩:=h
 ·exact Np
 ·obtain⟨o,l⟩:=l;exact Np
 ·exact Np
 ·obtain⟨o,l⟩:=l;exact Np
def Rep.fld(s:Qc3)(u:jI d=To)(h:D5):Rep K W d v:=by
 cases d with
 |dct t z ks E=>obtain⟨a,xs,A,l,r⟩:=h;obtain⟨o,B,F⟩:=l.no;exact⟨a,xs,A,l.mono λI q=>by rw[B]at q;cases q;exact s a _ B F,Reps.plain s.p E u r⟩
 |mls t J=>obtain⟨a,xs,A,l,r⟩:=h;exact⟨a,xs,A,s a _ l trivial,Reps.plain s.p J u r⟩
 |_=>exact Rep.plain s.p _ u h
def Reps.fld(s:Qc3):∀{J:Aq}{xs:Aw},J.all jI=To->Reps K H J xs->Reps K W J xs
 |[],_,_,h=>h
 |d::J,_,p,⟨x,r,e1,h1,h2⟩=>by
  simp only[nH,Zc]at p
  exact⟨x,r,e1,Rep.fld s p.1 h1,Reps.fld s p.2 h2⟩
def JlR:∀{ns:Ag}{xs:Aw},ns.contains f=To->AX=Ah->putF f v 'ȷ'=ns.zip (putN f v ns xs)
 |[],_,h,_=>by simp at h
 |n::ns,[],_,hl=>by simp at hl
 |n::ns,x::xs,h,hl=>by
  simp only[iG,putF,putN]
  by_cases q:n=f
  ·rw[if_pos q,if_pos q];rfl
  ·rw[if_neg q,if_neg q]
   simp only[pQ,kC,ZA]at h
   rw[JlR (h.resolve_left λz=>q z.symm) (by simpa using hl)]
   rfl
def put_len{v:α}:∀(ns:Ag)(xs:AD),(putN f v ns xs).length=Ah
 |[],xs=>by cases xs<;>rfl
 |n::ns,[]=>rfl
 |n::ns,x::xs=>by simp only[putN];split<;>simp[put_len ns xs]
def Reps.putN(l:D5):∀{ns:Ag}{J:Aq}{xs:Aw},Reps K H J xs->Reps K H (Pu.putN f d ns J) (Pu.putN f v ns xs)
 |[],J,xs,h=>by cases J<;>cases xs<;>exact h
 |n::ns,[],xs,h=>by cases h;exact rfl
 |n::ns,d'::J,_,⟨x,r,e1,h1,h2⟩=>by
  subst e1
  simp only[Pu.putN]
  by_cases q:n=f
  ·rw[if_pos q,if_pos q];exact⟨_,_,rfl,l,h2⟩
  ·rw[if_neg q,if_neg q];exact⟨_,_,rfl,h1,Reps.putN l h2⟩
section
variable{fs:Aq}
def JoU(U:A8)(e:EnvOk K [] H0 H Z (So B2::O))(hp:plE O=To)(J:fs.all jI=To)(F:ns.contains f=To)(L:jI d=To)(I:D5):
  Z[0]? =So (So AE)/\∃C dx xs,H a=So (.ins C dx 'ȷ')/\PySem.W.nsIn K mainGlobals CO=So Bv/\(ns.zip xs).length<=AX/\SameP H S3/\EnvOk K [] H0 S3 Z (So Qcd::O):=by
 obtain⟨u,B,r⟩:=e.read 0 _ Af rfl;replace r:Rep K H B2 u:=by have z:Rep K eV B2 u:=r;rw[vB]at z;exact z
 obtain⟨rfl,C,dx,xs,s,t,A,E⟩:=r;have h:SameN H S3:=λb o q l=>by rw[Jc (λz=>by subst z;rw[s]at q;cases q;exact l)];exact q
 refine⟨B,C,dx,xs,s,t,by rw[List.length_zip];exact Nat.min_le_left _ _,h.p,?_⟩;refine e.obj (i:=0) Af hp h.p (U.same aD h.p) B ?_;show Rep K GU _ _;rw[vB];have Y:AX=Ah:=A.trans E.length.symm;refine⟨rfl,C,dx,putN f v ns xs,by rw[Je,JlR F Y],t,by rw[put_len];exact A,?_⟩;exact Reps.putN (Rep.fld h L I) (Reps.fld h J E)
end
section
variable{U:Ae}{p:Px}{ipos:Pos}
structure Slf(N:Ag)(nm:Bd)(x:Str):Prop where
 at_:N[0]? =So x
 vis:visB nm x=To
 d1:(x==Ye)=Fo
 d2:(x==Ym)=Fo
def Slf.pe(S:KL)(C:Al):PE X FD (λZ H Q=>∃v,Z[0]? =So Bi/\Q v H):=iC (by rw[C.hN];exact S.at_) (C.vis x S.vis) S.d1 S.d2
def Jth{P:Fw->Fm->Prop}{E:EK}(h:(chgF f d O).Good P E):∃a ns fs l,O=So B2::l/\ns.contains f=To/\fs.all jI=To/\plE l=To/\ns.length<1000/\P .nx (So Qcd::l):=by
 unfold chgF at h;split at h
 ·rename_i a ns fs l;split at h
  ·rename_i o;simp only[Zc]at o;exact⟨a,ns,fs,l,rfl,o.1.1.1,o.1.1.2,o.1.2,by simpa using o.2,h⟩
  ·exact h.elim
 ·exact h.elim
def JqF{d:α}:∀{ns:Ag}{fs:AD},'Ϫ'.lookup f=So d->ns.contains f=To
 |[],_,h=>by simp at h
 |n::ns,[],h=>by simp at h
 |n::ns,y::fs,h=>by
  simp only[iG,Zl]at h
  simp only[pQ,kC]
  cases q:f==n with
  |true=>exact .inl rfl
  |false=>rw[q]at h;exact .inr (JqF h)
def JjX{k:D}(r:Jl d=To)(ks vs:Aq)(h:Jg vs=To):Jg (putD k d ks vs).2=To:=by
 have o:∀(ks vs:Aq),Jg vs=To->Jg (setD k d ks vs)=To:=λks=>by
  induction ks with
  |nil=>intro vs h;cases vs<;>exact h
  |cons a ks q=>
   intro vs h;cases vs with
   |nil=>rfl
   |cons u vs=>
    simp only[Jg,Zc]at h;simp only[setD,Jg,Zc];refine⟨?_,q vs h.2⟩;split
    ·exact r
    ·exact h.1
 have l:∀vs:List D,Jg vs=To->Jg (vs++[d])=To:=λvs=>by
  induction vs with
  |nil=>intro _;simp[Jg,r]
  |cons u vs q=>intro h;simp only[Jg,Zc]at h;simp only[lC,Jg,Zc];exact⟨h.1,q h.2⟩
 unfold putD;split
 ·exact o _ _ h
 ·exact l _ h
end
section
variable{w:Bc}{sc:AO}{f:Addr}{cd:Am}{A:Bg}{outer:Bb}{s:Ao}{E:XK}
def zS(S:FnScope N ps sc)(l:Room k (A.deeper Rp)):Ctx (cxOf Ci P w K mg base N qual sc f cd A outer s H E) ⟨P,w,K,mg,base,A.deeper Rp⟩ N Yz where
 g:=rfl
 hN:=rfl
 nd:=S.nd
 vis:=λy h=>by
  show Vis sc y
  unfold visB at h
  split at h
  ·rename_i z;exact .inl z
  ·rename_i z;exact .inr FQ
  ·rename_i z;exact .inr G8
  ·cases h
 cel:=λy h=>by
  show sc.names.lookup y=So .cell\/sc.names.lookup y=So .free
  unfold celB at h
  split at h
  ·rename_i z;exact .inl z
  ·rename_i z;exact .inr z
  ·cases h
 glo:=λy h=>by
  show sc.names.lookup y=So .globalImplicit
  unfold gloB at h
  split at h
  ·rename_i z;exact z
  ·cases h
 sto:=λy h=>by
  show Loc sc y/\(To=To\/_)
  unfold locB at h
  split at h
  ·rename_i z;exact TU
  ·rename_i z;exact TQ
  ·cases h
 calm:=rfl
 un:=l.units
 fr:=T7
end
def JsG{r:Fm}{o l:D}(e:EnvOk K [] H0 W Z (So l::r))(s:jE o l=To)(h:Rep K H o AE):Rep K W l AE:=by
 obtain⟨v,_,q⟩:=e.read 0 _ Af rfl;replace q:Rep K W l v:=by have z:Rep K GT l v:=q;rw[vB]at z;exact z
 cases l with
 |obj b ns fs=>
  cases o with
  |obj c u t=>
   have B:a=c:=by injection h.1
   have A:c=b:=by simpa[jE]using s
   subst B;subst A;have E:=q.1;subst E;exact q
  |_=>simp[jE]at s
 |_=>cases o<;>simp[jE]at s
section
variable{w:Bc}{defs:B4}{bdefs:FY}{d:DefB}
theorem Jlv{Tb:Hp->Prop}{f:Addr}(F:Ef)(S:LL)(hd:bdefs[fi]? =So d)(hs:d.slots=Yv)(hp:d.params=Ar)(hpN:Ar<=Yv)
  (B:∀(X:Cx)(A:Bg)(H0:Hp),Ctx X An N 'ū'.names->Room j A->HX X 'ū'.names->Tb X.H₀->X.env.code=fd.code->Qbp=qual++".<locals>."->PlO H0->PSs X Dh VM):
  FnOk P w K mg base Ci (j+1) f fd ps (λvs H Q E=>Tb H/\spB K mg NQ fi vs H Q E):=by
 have U:∀st J,runB defs bdefs A1 fi st J=if Ac+1=aK then ansB st (exO To B1 BY YF (JG Y6 (st::J)))else .sk:=λst J=>by simp only[runB,hd]
 obtain⟨oc,od,kV,doc,pm,an,cdv,ct,osl,rfl,lk,hcd⟩:=F.ex;refine sN lk hcd S (λvs H Q E h=>?_) (λA outer s H vs Q E hr h=>?_)
 ·obtain⟨_,a,ws,l,J,rfl,L,r2,hpl,g⟩:=h;rw[U]at g;split at g
  ·rename_i q;rw[Zm,r2.length,q,hp]
  ·exact g.elim
 ·obtain⟨tb,a,ws,l,J,rfl,L,r2,hpl,g⟩:=h;rw[U]at g;split at g
  ·rename_i q;have e0:EnvOk K [] H H (L2.jC N (.ref a::ws)) (JG Y6 (l::J)):=by have:=oP (d:=⟨Y6,aK,.skip⟩) (M:=[]) hs (J:=l::J) (by simp only[Zm];lia) (λi Y=>by simp at Y) (show Reps K H (l::J) (.ref a::ws)from⟨_,_,rfl,L,r2⟩);exact this
   refine⟨_,B _ _ (pl H) (zS S hr) hr NT tb rfl rfl JpZ,JG Y6 (l::J),⟨Jnh,e0.len,e0.read,λ_ _ Y=>by simp at Y,λ_ _ _ _ _ Y=>by simp at Y⟩,?_⟩;cases q2:exO To B1 BY YF (JG Y6 (l::J))with
   |sk=>rw[q2]at g;exact g.elim
   |ok fl u=>
    rw[q2]at g;cases u with
    |nil=>cases fl<;>exact g.elim
    |cons o r=>
     cases o with
     |none=>cases fl<;>exact g.elim
     |some st'=>
      cases fl with
      |bk=>exact g.elim
      |ct=>exact g.elim
      |nx=>
       simp only[ansB]at g;split at g
       ·rename_i t;exactλI W z _=>g .non W IS c8 rfl
       ·exact g.elim
      |rt dd=>
       simp only[ansB]at g;split at g
       ·rename_i t;exactλv W s' r' hw=>let⟨I,z⟩:=hw rfl;g v W IS c8 r'
       ·exact g.elim
   |ex c u=>
    rw[q2]at g;cases u with
    |nil=>exact g.elim
    |cons o r=>
     cases o with
     |none=>exact g.elim
     |some st'=>
      simp only[ansB]at g;split at g
      ·rename_i t;exactλC2 H2 I hm z a' s' F'=>yU F' (g C2 H2 hm IS c8)
      ·exact g.elim
  ·exact g.elim
def Jvd{f:Addr}(F:Ef)(S:LL)(r:bdefs[fi]? =So d)(t:d.slots=Yv)(u:d.params=Ar)(l:Ar<=Yv)
  (h:∀(X:Cx)(A:Bg)(H0:Hp),Ctx X An N 'ū'.names->Room j A->HX X 'ū'.names->PlO H0->PSs X Dh VM):
  FnOk P w K mg base Ci (j+1) f fd ps (spB K mg NQ fi):=(Jlv (Tb:=λ_=>True) F S r t u l λX A H0 C q o _ _ _ s=>h X A H0 C q o s).imp λB H Q E z=>⟨trivial,z⟩
def Jpm{f:Addr}:FnOk P w K mg base Ci 0 f fd ps (spB K mg (runB defs bdefs 0) fi):=
 ⟨λq H Q E⟨_,_,_,_,_,_,_,_,h⟩=>bU,λA l s H o r q Q E _ _ _ _⟨_,_,_,_,_,_,_,_,h⟩=>bU⟩
end
def spLaw(K:Ak):Sp:=λh H Q _=>∃(a:Addr)(ns:A0),h=Cv/\SqL K H a (ns.map V.int)/\ns.length<=63/\∀W,Q B0 W
section
variable{w:Bc}{U:Ae}
def Jge:∀ns:List Int,Reps K H DT RY
 |[]=>rfl
 |n::ns=>⟨.int n,ns.map V.int,rfl,rfl,Jge ns⟩
end
noncomputable abbrev MethE:=Str×Str×Stmt×List Str
structure Met1(K:Ak)(C:Addr)(e:MethE)(f:Addr)(fd:A6):Prop where
 F:Fun K e.1 e.2.1 e.2.2.1 f fd
 m:Meth K C e.1 f
 b:Binds K fd e.2.2.2 []
section
variable{w:Bc}{defs:B4}{bdefs:FY}
noncomputable def HasM (K:Ak) (C:Addr):List MethE->Prop
 |[]=>True
 |e::T=>(∃f g,Met1 K C e f g)/\HasM K C T
noncomputable def OkM (P:Bk) (w:Bc) (K:Ak) (mg:Bf) (base:Heap) (defs:B4) (bdefs:FY) (C:Addr) (k:Nat):Nat->List MethE->Prop
 |_,[]=>True
 |i,e::T=>(∀f g,Met1 K C e f g->FnOk P w K mg base Ci (3*k) f g e.2.2.2 (spB K mg BY i))/\OkM P w K mg base defs bdefs C k BQ T
def Jiu:∀(T:KJ)(i:Nat),OkM P w K mg base defs bdefs C 0 i T
 |[],_=>trivial
 |e::T,i=>⟨λ_ _ _=>Jpm,Jiu T BQ⟩
def foB{l:Gw->CallD->CallB->Prop}{e:MethE}{d:DefB}{b:Bs}(E:∀A,Room Dw A->l An B1 BY)(q:∀{X:Cx}{G:Gw}{U:Ae}{bc:AG}{H0:Hp},l G U bc->Ctx X G N (Ja e.2.2.1).names->HX X (Ja e.2.2.1).names->PlO H0->PSs X (Jp e.2.2.1) (tSB X To U bc [] H0 b))
  (B:'г' (bdefs[i]? =So d) Ai) (hb:'г' (YF=b) Ai) (h:'г' ((kI N e.2.2.2 (Ja e.2.2.1)&&d.slots==Yv&&d.params==e.2.2.2.length&&decide (e.2.2.2.length<=Yv))=To) Lb):
  ∀f g,Met1 K C e f g->FnOk P w K mg base Ci (3*A1) f g e.2.2.2 (spB K mg NQ i):=λf g D=>by
 simp only[Zc,ZA,Zs]at h
 obtain⟨⟨⟨o,t⟩,u⟩,z⟩:=h
 subst hb
 exact Jvd (j:=3*k+2) D.F (kF o) B t u z λX A H0 C s r F=>q (E A s) C r F
noncomputable def MsIn (K:Ak) (C:Addr):List MethE->Prop
 |[]=>True
 |e::T=>(∃f g,Fun K e.1 e.2.1 e.2.2.1 f g/\Meth K C e.1 f)/\MsIn K C T
def meth_mk{n h:Str}{s:Stmt}{f:Addr}{z u:D6}{sl:Ff}{q kV t r o ct:Am}(a:PySem.W.findIn K AV n=So EZ)(i:PySem.W.isFn K A5=To)(l:K.lookup f=So ⟨q,z,.func (PySem.W.fnOf n h (nL s) (Jp s) (Ja s) .none kV t r u o ct),sl⟩)(c:PySem.W.codeIn K o h=To)(k:PySem.W.keepIn K A5=To):
  ∃f g,Fun K n h s f g/\Meth K C n f:=⟨f,_,Jqc l c k,a,i,k⟩
abbrev BsM(e:MethE):Prop:=∀(kV h q:Am)(r:D6)(o ct:Am)(l:AF),Yr=e.2.2.2.length->bindArgs (PySem.W.fnOf e.1 e.2.1 (nL e.2.2.1) (Jp e.2.2.1) (Ja e.2.2.1) .none kV h q r o ct) ⟨l,[]⟩=pure (e.2.2.2.zip l)
noncomputable def BmOk:List MethE->Prop
 |[]=>True
 |e::T=>BsM e/\BmOk T
def Jie:∀{T:KJ},MsIn K C T->BmOk T->HasM K C T
 |[],_,_=>trivial
 |e::T,d,b=>⟨let⟨f,g,F,m⟩:=d.1;⟨f,g,F,m,F.binds b.1⟩,Jie d.2 b.2⟩
end
section
variable{U:Ae}{a ev:Expr}{p:Px}{pa:Bx}{spos dpos:Pos}
def cM{pl:C1}(C:Al)(z:A8)(A:CalleeB G bc fi CO m)(h:Ho)(t:CV)(q:Dy)
  (l:Yd) (o:Yn)
  (s:eval Fn Se=(do
   let ov<-eval GI Se
   standAt YR
   let(f,first)<-holding [ov] Ec
   callWith pos f first 'μ' Eb)):PE X Fn Wn:=by simp only[chkV,Zc,ZA]at h;obtain⟨u,r⟩:=plainN.d h.2;exact Jtk (JmJ C A h.1.2 h.1.1 u r q l o s) z t
def lI(h:chkV N nm 0 x=To):Slf N nm x:=by simp only[chkV,Zc,ZA]at h;obtain⟨o,l⟩:=plainN.d h.2;exact⟨h.1.1,h.1.2,o,l⟩
def bSet(C:Al)(h:chkA N nm [] i x=To)(l:Uu)(q:Oa):PS X Gu VN:=by obtain⟨o,r,s⟩:=chkA.at h;exact Jwx C o r l q
def yY{cx:Str}{ma:Expr}(C:Al)(q:ExcC G cx)(o:chkG nm cx=To)(h:PE X ma (tM X U p))(l:starEach [ma] Se=(Fo,eval ma Se)::starEach [] Se):
  PS X Td (tSB X w U bc [] H0 (.raise cx p)):=Jpf λH=>Jjs C q o h l
end
def upd_upd{o u:HO}:upd (upd H a u) a o=upd H a o:=funext λb=>by
 by_cases q:b=a
 ·subst q;rw[Je,Je]
 ·rw[Jc q,Jc q,Jc q]
def JjT:MtM X "list.append" (λx h H Q=>∃l t xs y,x=.ref l/\h=[y]/\H l=So (.lsm t xs)/\xs.length<sizeLine/\Q .non (upd H l (.lsm t (xs++[y])))):=by rintro Y s Z H x h v L Q I F U⟨l,t,xs,y,z,r,E,hz,q⟩;refine thn (Jgg Y s Z _ x h v L (λv W=>v=.non/\W=upd H l (.lst (xs++[y]))) (Inv.asL I E) F U ⟨l,xs,y,z,r,Je,hz,rfl,upd_upd⟩) λu s1 A=>?_;obtain⟨v,H1,J,o,z,r⟩:=A;subst z r;have B:=Inv.asM J t Je;rw[upd_upd]at B;exact⟨_,_,B,o,q⟩
def Jhq(t:Str):PE X (.List [] pos) (λZ H Q=>∀l,H l=No->Q BK PY):=by intro Y s Z H Q I h;refine thn (JqV rA Y s Z H (λv W=>∃l,v=.ref l/\H l=No/\W=upd H l Hl) I ⟨by decide,λl F=>⟨l,rfl,F,rfl⟩⟩) λu J q=>?_;obtain⟨v,H1,z,o,l,B,E,A⟩:=q;subst B A;have r:=Inv.asM z t Je;rw[upd_upd]at r;exact⟨_,_,r,o,h l E⟩
section
variable{T:Addr}{o o':HO}{m:Bool}
noncomputable def ofM (m:Bool) (f:Str):HO->Prop
 |.lsm t _=>m=To/\t=f
 |.dK _=>m=Fo
 |.dT _=>m=Fo
 |_=>False
def ofM.sp(h:H T=So o)(ho:Qc4):SameP H HP:=λb u e p=>by
 rw[Jc λz=>by subst z;rw[h]at e;cases e;cases o<;>first|(cases p;done)|exact(show False from ho)];exact e
def Rep.oth(h:H T=So o)(ho:Qc4)(u:othD m f d=To)(r:D5):Rep K HP d v:=by
 have sp:SameP H HP:=ofM.sp h ho;cases d with
 |mls t J=>
  obtain⟨a,xs,B,s,A⟩:=r;simp only[othD,Zc,kC,kB,Zq]at u;refine⟨a,xs,B,?_,Reps.plain sp J u.2 A⟩;rw[Jc λz=>by
   subst z;rw[h]at s;cases s;obtain⟨U,L⟩:=ho;rcases u.1 with z|z
   ·rw[U]at z;cases z
   ·exact z L]
  exact s
 |dct t z ks I=>
  obtain⟨a,xs,B,s,A⟩:=r;simp only[othD,Zc]at u;obtain⟨F,E⟩:=u;subst F;refine⟨a,xs,B,s.mono λo1 q=>?_,Reps.plain sp I E A⟩;rw[Jc λw=>by
   subst w;rw[h]at q;cases q;cases t<;>cases z<;>obtain⟨Y,l,_⟩:=s
   ·rw[h]at l;cases l;cases ho
   ·obtain⟨_,l⟩:=l;rw[h]at l;cases l;exact ho
   ·rw[h]at l;cases l;cases ho
   ·obtain⟨_,l⟩:=l;rw[h]at l;cases l;exact ho]
  exact q
 |_=>exact Rep.plain sp _ u r
def JiP(h:H T=So o)(ho:Qc4){g:Str}{d':D}:∀{ns:Ag}{fs:Aq}{xs:Aw},(∀x,'ȷ'.lookup g=So x->Rep K HP d' x)->ns.contains g=To->(putN g .non ns fs).all GS=To->Reps K H fs xs->Reps K HP (putN g d' ns fs) xs
 |[],fs,xs,_,hc,_,_=>by simp at hc
 |n::ns,[],xs,_,_,_,h=>by cases h;exact rfl
 |n::ns,d::fs,_,hx,hc,l,⟨x,r,A,u,t⟩=>by
  subst A
  have all:∀{fs:Aq}{r:Aw},fs.all GS=To->Reps K H fs r->Reps K HP fs r:=fun{fs}=>by
   induction fs with
   |nil=>intro r _ z;exact z
   |cons d fs B=>
    rintro _ l⟨x,r,A,u,t⟩
    simp only[nH,Zc]at l
    exact⟨x,r,A,Rep.oth h ho l.1 u,B l.2 t⟩
  simp only[putN]at l⊢
  by_cases q:n=g
  ·subst q
   rw[if_pos rfl]at l⊢
   simp only[nH,Zc]at l
   exact⟨x,r,rfl,hx x (by simp[Zl]),all l.2 t⟩
  ·rw[if_neg q]at l⊢
   simp only[nH,Zc]at l
   have s:(g==n)=Fo:=by simpa using λz=>q z.symm
   simp only[pQ,s,nM]at hc
   exact⟨x,r,rfl,Rep.oth h ho l.1 u,JiP h ho (λy E=>hx y (by simp only[iG,Zl,s];exact E)) hc l.2 t⟩
end
section
variable{U:Ae}{p:Px}{mpos spos:Pos}
def JsM(C:Al)(h0:A8)(S:KL)(L:DW){r:Pos}(hs:'г' (swapsWith (.List [] r) (So CG) Yy Se=pure Fo) Ai):
  PS X (.Assign PL (.List [] r) pos) Vv:=by
 refine PS.weak (iT (S.pe C) (Jhq f) hs) λD Z H A l hl=>?_;obtain⟨O,e,h⟩:=A;obtain⟨a,ns,fs,E,rfl,hn,u,t,z,hD⟩:=Jth h;have I:Same H (upd H l (.lsm f [])):=λb o q=>by rw[Jc (Ji q hl)];exact q
 obtain⟨B,F,dx,xs,h1,J,s,sp,Y⟩:=JoU (f:=f) (d:=.mls f []) (v:=.ref l) h0 (e.grow I) t u hn rfl ⟨l,[],rfl,Je,rfl⟩;rw[C.K]at J;obtain⟨k1,k2⟩:=L ns F J;exact⟨_,B,a,F,dx,_,rfl,h1,by rw[C.K];exact k1,by rw[C.K];exact k2,iF s z,hD Z _ Y (ChB.sp ((SameP.of I).trans sp))⟩
def JhZ{m:Bool}{g:D->Option D}{P:Fw->Fm->Prop}{E:EK}(h:(chgM m f g O).Good P E):∃a ns fs env' d d',O=So B2::env'/\(ns.zip fs).lookup f=So d/\g d=So d'/\plE env'=To/\(putN f .non ns fs).all GS=To/\P .nx MP:=by
 unfold chgM at h;split at h
 ·rename_i a ns fs env';split at h
  ·rename_i d q;split at h
   ·rename_i d' o;split at h
    ·rename_i l;simp only[Zc]at l;exact⟨a,ns,fs,env',d,d',rfl,q,o,l.1,l.2,h⟩
    ·exact h.elim
   ·exact h.elim
  ·exact h.elim
 ·exact h.elim
def JfE{m:Bool}{fs:Aq}{env':Fm}(e:EnvOk K [] H0 H Z (So B2::env'))(q:'Ϫ'.lookup f=So d):
  Z[0]? =So (So AE)/\∃C A xs v,H a=So (.ins C A 'ȷ')/\PySem.W.nsIn K mainGlobals CO=So Bv/\(ns.zip xs).lookup f=So v/\Rep K H d v/\
   ∀(H1:Hp)(T:Addr)(o l:HO)(d':D),PlO H0->Same H H1->plE env'=To->(putN f .non ns fs).all GS=To->v=.ref T->H1 T=So o->ofM m f o->Rep K IR d' v->SameP H (upd H1 T l)/\EnvOk K [] H0 IR Z MP:=by
 obtain⟨u,s,F⟩:=e.read 0 _ Af rfl;replace F:Rep K H B2 u:=by have z:Rep K eV B2 u:=F;rw[vB]at z;exact z
 obtain⟨rfl,L,A,xs,B,J,g3,I⟩:=F;obtain⟨v,Y,gv⟩:=Jid (λd x=>Rep K H d x) q I.length.symm λi d hd=>I.get hd;refine⟨s,L,A,xs,v,B,J,Y,gv,λH1 T o l d' h0 h hp ho ev t E r=>?_⟩;have sp:SameP H1 IR:=ofM.sp t E;refine⟨(SameP.of h).trans sp,(e.grow h).obj (i:=0) Af hp sp (h0.same (e.grow h).same sp) s ?_⟩;show Rep K GU _ _;rw[vB];refine⟨rfl,L,A,xs,by rw[Jc (λz=>by subst z;rw[h _ _ B]at t;cases t;exact E)];exact h _ _ B,J,by rw[put_len];exact g3,?_⟩;exact JiP t E (λy hy=>by rw[Y]at hy;cases hy;exact r) (JqF q) ho (I.mono h)
theorem Jtw(C:Al)(h0:A8)(S:KL)(hf:DW)(he:B6)(hl:(mpos.endLine==aU)=To)
  (hb:Th) (hb2:'г' (attributeBase CG "append" Se (eval CG Se)=eval CG Se) Ai)
  (hs:K5):
  PS X XM VL:=by
 refine PS.weak (oO (nN xW fH fJ JjT SF (JE he rA hs) hb2 (by rw[hs];rfl) hl hs rfl) rfl) λD Z H F=>?_;obtain⟨O,e,h⟩:=F;simp only[exO]at h;cases z:evD U p O with
 |sk=>rw[z]at h;exact h.elim
 |ex c=>rw[z]at h;exact h.elim
 |ok y=>
  rw[z]at h;simp only at h;split at h
  ·rename_i hy;obtain⟨a,ns,fs,Y,d,d',rfl,q,s,hp,ho,hD⟩:=JhZ h;obtain⟨L,C',dx,xs,v,g1,g2,g3,gv,A⟩:=JfE (m:=To) e q;cases d with
   |mls t J=>
    simp only[appG]at s;split at s
    ·rename_i hc;cases s;simp only[Zc,ZA,Zs]at hc;obtain⟨⟨rfl,B⟩,l⟩:=hc;obtain⟨T,ys,rfl,hT,r⟩:=gv;rw[C.K]at g2;obtain⟨k1,k2⟩:=hf ns C' g2;refine⟨_,L,a,C',dx,_,.ref T,rfl,g1,by rw[C.K];exact k1,by rw[C.K];exact k2,g3,.inr (.inr (.inr (.inr ⟨rfl,_,ys,hT⟩))),_,Y1,?_⟩;rw[z];intro u H1 E r1;have o:=E _ _ hT;have hz:BU<1000:=by rw[<-r.length]at l;exact l
     refine⟨T,_,ys,u,rfl,rfl,o,by show _<16777216;lia,?_⟩;have sp:SameP H1 (upd H1 T (.lsm t (ys++[u]))):=ofM.sp (m:=To) (f:=t) o CU;obtain⟨I,e2⟩:=A H1 T _ (.lsm t (ys++[u])) (.mls t (J++[y])) h0 E hp ho rfl o CU ⟨T,_,rfl,Je,(Reps.plain sp J B (r.mono E)).append (Reps.one (Rep.plain sp y hy r1))⟩;exact hD Z _ e2 (ChB.sp I)
    ·cases s
   |_=>cases s
  ·exact h.elim
theorem JrS{ev:Expr}(C:Al)(h0:A8)(S:KL)(hf:DW)(hk:Ny)(hv:PE X ev FA)
  (hb:Th) (hs:'г' (swapsWith ev Vu Yy Se=pure Fo) Ai):
  PS X WZ V8:=by
 have hu:=C.un;refine PS.weak (JlU Ad SF hk hv hs) λD Z H⟨O,e,h⟩=>Gk;simp only[exO]at h;cases z:evD U p O with
 |sk=>rw[z]at h;exact h.elim
 |ex c=>rw[z]at h;exact h.elim
 |ok y=>
  rw[z]at h;simp only at h;cases u:evD U pk O with
  |sk=>rw[u]at h;exact h.elim
  |ex c=>rw[u]at h;exact h.elim
  |ok k0=>
   rw[u]at h;simp only at h;split at h
   ·rename_i F;simp only[Zc]at F;obtain⟨a,ns,fs,Y,d,d',rfl,q,o,hp,ho,hD⟩:=JhZ h;intro v H1 s1 r1;have e1:=e.grow s1;obtain⟨L,C',dx,xs,vT,g1,g2,g3,gv,B⟩:=JfE (m:=Fo) e1 q;cases d with
    |dct t zz ks A=>
     cases t<;>cases zz<;>first|(cases o;done)|skip
     simp only[putG]at o;split at o
     ·rename_i I;cases o;simp only[Zc,Zs]at I;obtain⟨T,xsT,rfl,⟨kvs,gk,rfl,rfl⟩,E⟩:=gv;rw[C.K]at g2;obtain⟨k1,k2⟩:=hf ns C' g2;refine⟨_,L,a,C',dx,_,.ref T,rfl,g1,by rw[C.K];exact k1,by rw[C.K];exact k2,g3,_,e1.readOk,?_⟩;rw[u];intro y' r s r2;obtain⟨k,rfl⟩:=uO F.2;have hy:=lO r2;subst hy;have l:r T=So A3:=s _ _ gk;have hlen:BG<1000:=by simpa using I.2
      refine⟨T,_,rfl,DPut.k (k:=k) l (by show _<16777216;lia),?_⟩;obtain⟨p1,p2⟩:=wY zG (k:=k) (r1.mono s) (E.mono s);have sp:SameP r (upd r T Ug):=ofM.sp (m:=Fo) (f:=f) l rfl;have r3:Rep X.K (upd r T Ug) (.dct Fo Fo (putD ET y (kvs.map λp=>keyV p.1) A).1 (putD ET y (kvs.map λp=>keyV p.1) A).2) (.ref T):=⟨T,_,rfl,Nq,Reps.plain sp _ (JjX F.1 _ A I.1) p2⟩;obtain⟨J,e2⟩:=B r T _ Ug _ h0 s hp ho rfl l rfl r3;exact hD Z _ e2 (ChB.sp ('乕'.trans J))
     ·cases o
    |_=>cases o
   ·exact h.elim
end
section
variable{κ:Type}[DecidableEq κ]{g:κ->D}
def JpX(t:∀a b,(g a).eqv (g b)=decide (a=b)){k:κ}:∀{l:BD}{vs:Aq},Reps K H vs (l.map (·.2))->
  (delD (g k) (l.map λp=>g p.1) vs).1=(pI l k).map (λp=>g p.1)/\Reps K H (delD (g k) (l.map λp=>g p.1) vs).2 ((pI l k).map (·.2))/\(Jg vs=To->Jg (delD (g k) (l.map λp=>g p.1) vs).2=To)
 |[],[],_=>⟨rfl,rfl,id⟩
 |[],d::vs,⟨x,r,e,_⟩=>by cases e
 |p::l,[],h=>by cases h
 |p::l,d::vs,⟨x,r,e,h1,h2⟩=>by
  simp only[Zg,nQ]at e
  obtain⟨rfl,rfl⟩:=e
  obtain⟨o,s,u⟩:=JpX t (k:=k) h2
  unfold pI at o s⊢
  simp only[Zg,delD,t]
  by_cases q:p.1=k
  ·rw[if_pos (ZD q),iD,if_neg (by simp[q])]
   exact⟨o,s,λz=>u (by simp only[Jg,Zc]at z;exact z.2)⟩
  ·rw[if_neg (by simp[q]),iD,if_pos (by simp[q])]
   refine⟨by rw[Zg,o],⟨_,_,rfl,h1,s⟩,λz=>?_⟩
   simp only[Jg,Zc]at z⊢
   exact⟨z.1,u z.2⟩
end
section
variable{U:Ae}{a:Expr}{p pa pb:Px}{mpos:Pos}
def Jsr(C:Al)(h0:A8)(S:KL)(hf:DW)(hk:Ny)(m:Rj)
  (hb:Th):
  PS X XF VT:=by
 refine PS.weak (oO (Jok SF hk m) rfl) λD Z H B=>?_;obtain⟨O,e,h⟩:=B;simp only[exO]at h;cases z:evD U pk O with
 |sk=>rw[z]at h;exact h.elim
 |ex c=>rw[z]at h;exact h.elim
 |ok k0=>
  rw[z]at h;simp only at h;split at h
  ·rename_i hc;obtain⟨a,ns,fs,Y,d,d',rfl,q,o,hp,ho,hD⟩:=JhZ h;obtain⟨I,C',dx,xs,vT,g1,g2,g3,gv,s⟩:=JfE (m:=Fo) e q;cases d with
   |dct t zz ks L=>
    cases t<;>cases zz<;>first|(cases o;done)|skip
    simp only[popG]at o;split at o
    ·rename_i E;cases o;simp only[Zc]at E;obtain⟨T,xsT,rfl,⟨kvs,gk,rfl,rfl⟩,u⟩:=gv;rw[C.K]at g2;obtain⟨k1,k2⟩:=hf ns C' g2;refine⟨_,I,a,C',dx,_,.ref T,rfl,g1,by rw[C.K];exact k1,by rw[C.K];exact k2,g3,T,rfl,.inl ⟨kvs,.inl gk⟩,_,Y1,?_⟩;rw[z];intro y' r A r2;obtain⟨k,rfl⟩:=uO hc;have hy:=lO r2;subst hy;have l:r T=So A3:=A _ _ gk;have J:=E.2;rw[hZ zG]at J;obtain⟨v,ev⟩:=Option.isSome_iff_exists.mp J;refine⟨kvs,k,v,l,rfl,ev,?_⟩;obtain⟨p1,p2,p3⟩:=JpX zG (k:=k) (u.mono A);have sp:SameP r (upd r T LN):=ofM.sp (m:=Fo) (f:=f) l rfl;have r3:Rep X.K (upd r T LN) (.dct Fo Fo (delD ET (kvs.map λp=>keyV p.1) L).1 (delD ET (kvs.map λp=>keyV p.1) L).2) (.ref T):=⟨T,_,rfl,Nq,Reps.plain sp _ (p3 E.1) p2⟩;obtain⟨F,e2⟩:=s r T _ LN _ h0 A hp ho rfl l rfl r3;exact hD Z _ e2 (ChB.sp F)
    ·cases o
   |_=>cases o
  ·exact h.elim
theorem eGetN(C:Al)(ha:AJ)(hb:Br)(hx:noEx pb=To)(m:M1 X a "get" apos b cpos):PE X (.Call (.Attribute a "get" apos) [b] [] cpos) (tI X U (.ite (.bi QaT pb pa) (.bi Vc pa pb) CH)):=by
 have hu:=C.un;refine PE.weak (Jpn Ad ha hb m) λZ H Q I=>?_;obtain⟨O,r,h⟩:=I;simp only[evD]at h;have F:∀c,evD U pb O≠.ex c:=λc z=>Jhu U pb O c hx z;cases B:evD U pb O with
 |ex c=>exact absurd B (F c)
 |sk=>rw[B]at h;exact h.elim
 |ok Y=>
  rw[B]at h;simp only[Rs.bo]at h;cases A:evD U pa O with
  |ex c=>rw[A]at h;exact⟨O,r,by rw[A];exact h⟩
  |sk=>rw[A]at h;exact h.elim
  |ok dx=>
   rw[A]at h;simp only[Rs.bo]at h;refine Dp;rw[A];intro x H1 s1 r1;cases dx with
   |dct t z ks vs=>
    obtain⟨l,xs,rfl,J,g2⟩:=id r1;simp only[op2,onD]at h;by_cases u:t=Fo/\keyD t Y=To
    ·rw[if_pos u]at h;obtain⟨rfl,u⟩:=u;simp only[Rs.bo]at h;refine⟨l,rfl,?_,O,r.mono s1,?_⟩
     ·obtain⟨E,g,_⟩:=dk_k J;exact .inl ⟨E,g⟩
     ·rw[B];intro y L s2 r2;obtain⟨l',o,e1,g,s,hl⟩:=JhY (t:=Fo) (λz=>by cases z) Lw r2 u;cases e1;refine⟨o,g,?_⟩;cases q:oA Y ks vs with
      |some d=>obtain⟨v,e2,rv⟩:=hl d q;subst e2;rw[s]at h;simp only[kG,Rs.ofOpt,q,u,and_self,if_true]at h;exact h v L Ds rv
      |none=>
       have hn:=Jgl q (by have:=g2.length;have:=JtK J;lia);rw[hn]at s h;have:o=No:=by
        cases o with
        |none=>rfl
        |some _=>cases s
       subst this;exact h _ L Ds rfl
    ·rw[if_neg u]at h;exact h.elim
   |_=>exact h.elim
end
section
variable{prog:Bk}{w:Bc}{A:Bg}{E:Az}{s:Ao}{d:Addr}{od:Obj}{es:M5}{ep:Nat}
def Jhi{Q:List Value->Shared->Prop}(hh:BE)(hd:(d==sysModules)=Fo)(ho:s.heap.get? d=So od)(hc:od.cls=.type "dict")(t:Eg)(u:es.size<=2^24)
  (Y:∀I U q,(∀b o,s.heap.get? b=So o->I.get? b=So o)->ItemsOf (λi v=>∃e,es[i]? =So e/\v=Z0) q es.size->Q q.toList {s with heap:=I,toks:=U}):
  wpAny As A (collect D0) Q E s:=by
 unfold collect;refine Za (wpAny_runValue (vF gA ?_));rw[rH F.plain_proto_collect _];show wpAny _ YI (newList []>>=λl=>again (.builtin "list.__iadd__" ⟨[l,.ref d],[]⟩)) _ _ s;refine Za (ZF ?_);refine Zb Wj;rw[rH tX _];show wpAny _ YI (Builtin.List.listExtendWith FF D0 FF) _ _ _;have hS:(s.heap.push {cls:=.type "list",data:=.seq ([]:List Value).toArray}).get? Aa=So {cls:=.type "list",data:=.seq #[] 0}:=Zf _ rfl;refine ZT (JkC (A:=A) (R:=λr B=>r=.ok (.ret FF)/\wpAny As A (load Aa>>=λo=>match o.data with
   |Data.seq xs _=>pure xs.toList
   |_=>unsupported "internal:collect") Q E B) (s:={s with heap:=s.heap.push {cls:=.type "list",data:=.seq ([]:List Value).toArray}}) hh hd (Zd _ ho) hc t u Aa FF 0 hS λI U q c' hk J z=>⟨rfl,Za (wpAny_load J (Zb (Y I U q (λb o e=>hk b o Ml D2) z)))⟩) (λL B h=>?_) λe B h=>?_
 ·cases L with
  |done f=>obtain⟨e,h⟩:=h;cases e;exact h
  |again c=>exact⟨h.1,zC h.2 λr B h=>by obtain⟨e,h⟩:=h;subst e;exact h⟩
 ·cases h.1
end
section
theorem JpC(E:CQ):pA X Nz (λxs H Q=>∃l kvs ws,xs=Qc5/\L2.Rd H l A3/\(kvs.map λp=>kV p.1)=ws.map bK/\ws.Nodup/\ws.length<60/\Out X H Q (.lst ('Ӂ'.map .str))):=by
 rintro Y s Z H xs us Q I rv⟨l,kvs,ws,e,hr,hk,hn,hz,h⟩;subst e;obtain⟨u,rfl,rx⟩:=rB rv;cases rx;obtain⟨z,hd,ys,g3,o,es,ep,ho,hc,J,g7,g8,g9⟩:=nG YC hr;have hl:es.size=BG:=by have:=g8.length;rw[<-oM g3]at this;simpa using this
 have hlw:BG=Cw:=by have:=iA YS hk;simpa using this
 refine Calls.call_function_entry kind_sorted plain_sorted entry_sorted Qa8 ?_;unfold Builtin.«sorted»;refine Za (m:=checkCount "sorted" 1 1 _) (Zb (Za (Jhi (I.ok.hd E) hd ho hc.1 J Ad λF tk r kp A=>?_)));have hv:Vals RV r.toList:=by
  rw[<-hk];refine JfZ (by have e1:=A.1;have e2:r.toList.length=r.size:=ZU;rw[Zj];lia) λj x v hx hv=>?_;obtain⟨e,he,rfl⟩:=A.2 j v (by simpa using hv);rw[jD]at hx;cases q:kvs[j]? with
  |none=>rw[q]at hx;cases hx
  |some y=>
   rw[q]at hx;cases hx;obtain⟨⟨k,v⟩,e1,e2,e3⟩:=JcP g3 q;obtain⟨hk',hv'⟩:=g8.get? (e:=e) (by simpa using he) e1;show RelV (kV y.1) Z0;rw[e2];rcases Jz hk' with⟨j,t,z1,L⟩|⟨y,t,z1,L⟩|⟨z1,L⟩
   ·rw[z1,L];exact HJ
   ·rw[z1,L];exact HJ
   ·rw[z1,L];rfl
 generalize r.toList=its at hv;have q1:StrsAre its ws:=JdF hv;have l4:Cw=its.length:=by simpa using hv.length
 refine Za (wpAny_newList ?_ (by rw[ZG];lia));have B:(F.push Ub).get? fT=So Ub:=Zf _ rfl;refine Za (jB (ZH slot_list_sort ⟨_,B,rfl⟩ entry_list_sort (list_sort_treeK strKind_oneLt (s:={s with heap:=F.push Ub,toks:=tk}) B q1.keysOf (λv₁ v₂ rest e=>keyKind_strs (by rw[<-e];exact q1)) Ad λU a1 a2=>J4) OG));obtain⟨ss,b1,b2,b3⟩:=sorted_out_str q1 a1 a2;obtain⟨e,he⟩:=sortedHeap_at (out:=(arrOf U).map (·.2)) B;have I1:L2.Inv X Y Z H {s with heap:=F,toks:=tk}:=I.kept (t':=tk) kp;have hd:=JgQ b2 b3 hn (λk=>Iff.rfl);subst hd;have hlen:=b2.length_eq;obtain⟨s1,w1⟩:=iI (K:=X.K) Fh (JfN 'Ӂ');refine Zb ⟨_,rfl,.ref fT,_,I1.laid (a:=fT) (t':=tk) (λb o q'=>?_) (Zh _) (show ObjOk Yu X.w _ _ _ (.lst ('Ӂ'.map bK))from⟨by rw[Zj,ZG];lia,((arrOf U).map (·.2)).toList,e,Jew b1,by rw[Array.toArray_toList];exact he⟩),rfl,h _ _ s1 w1⟩;have hlt:=Zk q';rw[sortedHeap_old (Zt hlt) (by rw[ZP];exact oB hlt)];exact Zd _ q'
def JgP:∀{l:List (L2.Key×V)}{ws:Ag},JQ (l.map λp=>keyV p.1)=So ws->(l.map λp=>kV p.1)=ws.map bK
 |[],ws,h=>by cases h;rfl
 |p::l,ws,h=>by
  obtain⟨k,v⟩:=p
  cases k with
  |inr x=>
   replace h:(JQ (l.map λp=>keyV p.1)).map (x::·)=So ws:=h
   cases q:JQ (l.map λp=>keyV p.1)with
   |none=>rw[q]at h;cases h
   |some o=>
    rw[q]at h
    cases h
    simp only[Zg,JgP q]
    rfl
  |inl n=>cases(show No=So ws from h)
  |non=>cases(show No=So ws from h)
def JrN(o:CQ):pA X Nz (rC1 X .sortD):=by
 rintro Y s Z H xs E Q I F⟨x,d,e,r,h⟩;subst e;cases d with
 |dct t z ks L=>
  cases t with
  |true=>exact(show False from h).elim
  |false=>
   obtain⟨l,xs,rfl,A,U⟩:=r;obtain⟨q,g,rfl,rfl⟩:=dk_k A;simp only[op1]at h;split at h
   ·rename_i J B;split at h
    ·rename_i u;exact JpC o Y s Z H _ E Q I F ⟨l,q,J,rfl,g,JgP B,u.1,u.2,h⟩
    ·exact h.elim
   ·exact h.elim
 |_=>exact(show False from h).elim
variable{U:Ae}{a:Expr}{pa:Px}
def cSrtD(C:Al)(q:G.mg "sorted"=No)(h:AJ)(l:gloB nm "sorted"=To)(o:Fy):PE X (.Call Pd [a] [] pos) (tI X U (.un .sortD pa)):=yT C (JrN YO) h l q PyProof.Rows.boot_sorted Ab Ab o
end
inductive CalleePe(G:Gw)(call:Ae)(fi:Nat)(c m:Str):Prop where
 |mk (C:Addr) (kk:Nat) (f:Addr) (fd:FuncData) (ps:List Str) (h:PySem.W.nsIn G.K mainGlobals c=So (So (.ref C))/\Cls G.K C/\Meth G.K C m f/\FnOk G.prog G.w G.K G.mg G.base (CXr G.prog G.w) kk f fd ps (spI G.K G.mg call fi)/\Room kk G.A.in1.in1/\Binds G.K fd ps []):CalleePe G call fi c m
structure CalleeP(G:Gw)(U:Ae)(fi:Nat)(c m:Str):Prop where
 ex:CalleePe G U fi c m
section
variable{U:Ae}{p:Px}
def Jlm{C f:Addr}{kk:Nat}{fd:A6}{ps:Ag}{t:TA}(Cc:Al)(hC:PySem.W.nsIn G.K mainGlobals CO=So Bv)(hm:CV){Z:Cg}{H:Hp}{Q:VK}(h:tI X U Ur Z H Q)
  (ht:∀O L,ReadOk X.K H Z O->'Ơ'.Good (λd=>∃J,d=.lst J/\∀u W,Same H W->Reps X.K W J u->L u W) Bz->t Z H L):
  vS C m O8 [] (λB _ W=>∀C,B=.ref C->XE X C W) (λZ H Q=>∃v,Z[i]? =So Bi/\Q v H) t Z H Q:=by
 obtain⟨O,r,h⟩:=h;simp only[evD]at h;cases z:O[i]? with
 |none=>rw[z]at h;exact h.elim
 |some o=>
  rw[z]at h;cases o with
  |none=>exact h.elim
  |some d=>
   cases d with
   |obj a l fs=>
    simp only[Rs.bo,op1]at h;split at h
    ·rename_i hn;subst hn;obtain⟨v,hv,I⟩:=r i _ z;obtain⟨e1,C',dx,xs,h1,Y,h3,h4⟩:=id I;subst e1;rw[Cc.K,hC]at Y;cases Y;simp only[Rs.bo]at h;refine⟨_,hv,a,dx,_,rfl,h1,Jfp hm,ht O _ r ?_⟩;cases q:evD U p O with
     |sk=>rw[q]at h;exact h.elim
     |ex c=>rw[q]at h;exact h
     |ok dd=>
      rw[q]at h;cases dd with
      |lst J=>
       simp only[Rs.bo,D.asL]at h;refine⟨J,rfl,λu W s rs=>?_⟩;refine⟨.obj a l fs::J,?_,?_⟩
       ·rw[zD];exact⟨_,_,rfl,I.mono s,rs⟩
       ·cases F:U fi (.obj a l fs::J)with
        |ok d=>rw[F]at h;exactλv A s2 rd=>h v A Dt rd
        |ex c=>rw[F]at h;exactλC2 A E s2 C3 e3=>by cases e3;exact h C2 A E Dt
        |sk=>rw[F]at h;exact h
      |_=>exact(show False from h).elim
    ·exact h.elim
   |_=>exact(show False from h).elim
def JrY{pl:C1}(l:Al)(B:NF)(z:CV)(u:visB nm x=To)(hi:N[i]? =So x)(s:FE)(q:Fd)(I:Dy)
  (o:Cj) (hpl:Dg)
  (ht:'г' (eval Fn Se=(do
   let ov<-eval GI Se
   standAt YR
   let(f,first)<-holding [ov] Ec
   callWith pos f first 'μ' Eb)) Ai):PE X Fn (tI X U Ur):=by obtain⟨C,kk,f,fd,ps,t,E,L,F,A,J⟩:=B.ex;have Y:=l.g;subst Y;exact PE.weak (Jmn (iC (by rw[l.hN];exact hi) (l.vis x u) s q) E L F (Room.out A) J .nil nK I o hpl ht) λZ H Q h=>Jlm (f:=f) (kk:=kk) (fd:=fd) (ps:=ps) l t z h λO Q' r g=>⟨O,r,g⟩
def JnG {pl:C1} (l:Al) (B:NF) (z:CV) (t:J5) (hi:N[i]? = So x) (q:FE) (o:Fd)
  (Y:'г' (eval NO Se = (do
   let ov <- eval GI Se
   standAt YR
   let (f,first) <- holding [ov] Ec
   callWith pos f first 'Ɇ' Eb)) Ai):PE X NO Wg:=by obtain ⟨C,kk,f,fd,ps,s,E,L,F,A,I⟩:=B.ex;have hG:=l.g;subst hG;exact PE.weak (JoW (iC (by rw [l.hN]; exact hi) (l.vis x t) q o) E L F (Room.out A) I .nil nK Y) λZ H Q h=>Jlm (f:=f) (kk:=kk) (fd:=fd) (ps:=ps) l s z h λO Q' r g=>by obtain ⟨J,u,hd⟩:=g;cases u;exact hd [] H E6 rfl
end
def plains_app:∀{J es:Aq},Jg (J++es)=(Jg J&&Jg es)
 |[],es=>by simp[Jg]
 |d::J,es=>by simp only[lC,Jg,plains_app,Bool.and_assoc]
def look_put{g:Str}{d:α}(h:(g==f)=Fo):∀{ns:Ag}{fs:AD},(ns.zip Sm).lookup g='Ϫ'.lookup g
 |[],_=>rfl
 |n::ns,[]=>by simp[putN]
 |n::ns,x::fs=>by
  simp only[putN]
  split
  ·rename_i z
   subst z
   simp only[iG,Zl,h]
  ·simp only[iG,Zl,look_put h]
section
variable{U:Ae}{p:Px}
def cP{pl:C1}(C:Al)(z:NF)(h:Ho)(t:CV)(q:Dy)
  (l:Yd) (o:Yn)
  (s:eval Fn Se=(do
   let ov<-eval GI Se
   standAt YR
   let(f,first)<-holding [ov] Ec
   callWith pos f first 'μ' Eb)):PE X Fn (tI X U Ur):=by simp only[chkV,Zc,ZA]at h;obtain⟨u,r⟩:=plainN.d h.2;exact JrY C z t h.1.2 h.1.1 u r q l o s
def cP0 {pl:C1} (C:Al) (q:NF) (h:Ho) (s:CV)
  (r:eval NO Se = (do
   let ov <- eval GI Se
   standAt YR
   let (f,first) <- holding [ov] Ec
   callWith pos f first 'Ɇ' Eb)):PE X NO Wg:=by simp only [chkV,Zc,ZA] at h;obtain ⟨l,o⟩:=plainN.d h.2;exact JnG C q s h.1.2 h.1.1 l o r
end
def SmB(x:Addr)(H W:Hp):Prop:=∀b o,H b=So o->b≠x->W b=So o
def SmB.sp{x dx:Addr}{fs:List (Str×V)}(s:SmB x H W)(h:H x=So DU):SameP H W:=λb o e p=>s b o e λz=>by subst z;rw[h]at e;cases e;cases p
def spNS(K:Ak):Sp:=λl H Q _=>∃x h C,l=[.ref x]/\H x=So (.ins C h [])/\PySem.W.nsIn K mainGlobals L3=So Bv/\∀W xs,SmB x H W->W x=So (.ins C h (nsS.zip xs))->Rep K W (Jlq x) (.ref x)->Q .non W
def Jwp(t:Str):TE:=λZ H Q=>∀l,H l=No->Q BK PY
def JpQ(K:Ak):L2.TS:=tSeq (sFld K QcO tDNewK Kd) (tSeq (sFld K QcO (Jwp E1) E1) (sFld K QcO (Jwp E8) E8))
section
variable{w:Bc}
def clS:clsN nsS=oS "Site":=by decide+kernel
def Jpc{f:Addr}(F:Ef)(S:FnScope ps ps B9)(hps:Ar=1)(hf:∀A,∀g∈nsS,FldC An g)
  (B:∀(X:Cx)(A:Bg),Ctx X An ps 'ū'.names->PSs X Dh (JpQ K)):FnOk P w K mg base Ci 1 f fd ps (spNS K):=by
 obtain⟨oc,od,kV,doc,pm,an,cdv,ct,osl,rfl,lk,hcd⟩:=F.ex;refine sN lk hcd S (λvs H Q E h=>?_) (λA outer s H vs Q E hr h=>?_)
 ·obtain⟨y,J,C,rfl,_⟩:=h;exact hps.symm
 ·obtain⟨y,J,C,rfl,hy,hC,k⟩:=h;refine⟨_,B _ _ (zS S hr),?_⟩;have U:∀g∈nsS,Cls K C/\NoAttr K C g:=λg hg=>hf A g hg nsS C (by rw[clS];exact hC);have s0:(L2.jC ps [V.ref y])[0]? =So Qdt:=rfl;intro T hT;have t:T≠y:=(Ji hy hT).symm;refine⟨_,s0,y,C,J,[],rfl,by rw[Jc (Ne.symm t)];exact hy,(U Kd (by simp[nsS])).1,(U Kd (by simp[nsS])).2,by decide,?_⟩;intro p L;have r:p≠y:=λz=>by subst z;rw[Je]at L;cases L
  have hpT:p≠T:=λz=>by subst z;rw[Jc r,Je]at L;cases L
  refine⟨_,s0,y,C,J,_,rfl,by rw[Jc (Ne.symm r),Je],(U E1 (by simp[nsS])).1,(U E1 (by simp[nsS])).2,by show 1<1000;decide,?_⟩;intro q u;have l:q≠y:=λz=>by subst z;rw[Je]at u;cases u
  have I:q≠p:=λz=>by subst z;rw[Jc l,Je]at u;cases u
  have Y:q≠T:=λz=>by subst z;rw[Jc l,Jc I,Jc l,Je]at u;cases u
  refine⟨_,s0,y,C,J,_,rfl,by rw[Jc (Ne.symm l),Je],(U E8 (by simp[nsS])).1,(U E8 (by simp[nsS])).2,iF (JbP _ _ _) (by show 2<1000;decide),?_⟩;rw[Jc r,Jc hpT]at L;rw[Jc l,Jc I,Jc l,Jc Y]at u;have ih:∀h:Hp,upd h y Q9 y=So Q9:=λh=>Je;refine k _ UP (λb o e nb=>?_) (ih _) ⟨rfl,C,J,UP,ih _,by rw[clS];exact hC,rfl,?_⟩
  ·rw[Jc nb,Jc (Ji e u),Jc nb,Jc (Ji e L),Jc nb,Jc (Ji e hT)];exact e
  ·refine⟨_,_,rfl,⟨T,[],rfl,⟨[],?_,rfl,rfl⟩,rfl⟩,_,_,rfl,⟨p,[],rfl,?_,rfl⟩,_,_,rfl,⟨q,[],rfl,?_,rfl⟩,rfl⟩
   ·rw[Jc t,Jc (Ne.symm Y),Jc t,Jc (Ne.symm hpT),Jc t,Je]
   ·rw[Jc r,Jc (Ne.symm I),Jc r,Je]
   ·rw[Jc l,Je]
end
inductive MakeSe(G:Gw):Prop where
 |mk (C f:Addr) (fd:FuncData) (ps:List Str) (h:Mk G.K C f/\FnOk G.prog G.w G.K G.mg G.base (CXr G.prog G.w) 1 f fd ps (spNS G.K)/\Room 2 G.A/\G.mg (oS "Site")=So (.ref C)/\PySem.W.nsIn G.K mainGlobals (oS "Site")=So (So (.ref C))/\Binds G.K fd ps []):MakeSe G
structure MakeS(G:Gw):Prop where
 ex:MakeSe G
section
variable{U:Ae}{b:Bs}{q:Px}{rest:BI}{pt pt2 p pos':Pos}{kt k2:Nat}
def EnvOk.sp(e:CW)(l:∀k∈M,∀d,O[k]? ≠So BB)(u:plE O=To)(t:A8)(s:Dj):EnvOk K M H0 W Z O:=
 ⟨t.same aD s,e.len,λk d o h=>let⟨v,r,z⟩:=e.read k d o h;⟨v,r,Rep.plain s.hid d (kU u h) z⟩,λk d o h=>absurd h (l k o d),λk _ _ d _ o _ _ h=>absurd h (l k o d)⟩
end
end Rd
namespace Rd
open PySem PySem.Spec PyProof.Rows L2 Pu PySem.W
variable{x y dn qual:Str}{H H0:Hp}{K:Ak}{N:Ag}{X:Cx}{P:Bk}{w:Bc}{mg:Bf}{G:Gw}{nm:Bd}{base:Heap}{i k j fi:Nat}{pos p1 px py apos:Pos}{M:Aj}{bc:AG}{Z:Cg}{s:Ao}{st:Stmt}{f c Pt a:Addr}{p:Px}{A:Bg}{fd:A6}{b:Bs}{e body:Expr}{params:Ex}{O:Fm}{tq:Addr->Option Str}
section
variable{defs:B4}{bdefs:FY}{C:Addr}
noncomputable def OkP (P:Bk) (w:Bc) (K:Ak) (mg:Bf) (base:Heap) (defs:B4) (C:Addr) (k:Nat):Nat->List MethE->Prop
 |_,[]=>True
 |i,e::T=>(∀f g,Met1 K C e f g->FnOk P w K mg base Ci (3*k) f g e.2.2.2 QbH)/\OkP P w K mg base defs C k BQ T
def JiS:∀(T:KJ)(i:Nat),OkP P w K mg base defs C 0 i T
 |[],_=>trivial
 |e::T,i=>⟨λ_ _ _=>Jnq,JiS T BQ⟩
theorem Jfc{k:Nat}{A:Bg}{cn:Str}(cl:b9)(l:PySem.W.nsIn K mainGlobals cn=So Bv)(m:KZ):∀{T:KJ}{i j:Nat}{e:MethE},HasM K C T->OkP P w K mg base defs C k i T->T[j]? =So e->CalleeP An B1 (i+j) cn e.1
 |[],_,_,_,_,_,h=>by simp at h
 |d::T,i,0,e,hm,ok,h=>by
  simp only[vE,ZR]at h
  subst h
  obtain⟨⟨f,g,D⟩,_⟩:=hm
  exact⟨⟨C,3*k,f,g,_,l,cl,D.m,ok.1 f g D,m.in1.in1,D.b⟩⟩
 |d::T,i,j+1,e,hm,ok,h=>by
  have:=Jfc (cn:=cn) cl l m (j:=j) hm.2 ok.2 DG
  rw[show i+1+j=i+(j+1) by lia]at this
  exact this
theorem JeK{k:Nat}{A:Bg}{cn:Str}(cl:b9)(l:PySem.W.nsIn K mainGlobals cn=So Bv)(m:KZ):∀{T:KJ}{i j:Nat}{e:MethE},HasM K C T->OkM P w K mg base defs bdefs C k i T->T[j]? =So e->CalleeB An BY (i+j) cn e.1
 |[],_,_,_,_,_,h=>by simp at h
 |d::T,i,0,e,hm,ok,h=>by
  simp only[vE,ZR]at h
  subst h
  obtain⟨⟨f,g,D⟩,_⟩:=hm
  exact⟨⟨C,3*k,f,g,_,l,cl,D.m,ok.1 f g D,m.in1.in1,D.b⟩⟩
 |d::T,i,j+1,e,hm,ok,h=>by
  have:=JeK (cn:=cn) cl l m (j:=j) hm.2 ok.2 DG
  rw[show i+1+j=i+(j+1) by lia]at this
  exact this
def foP{l:Gw->CallD->Prop}{e:MethE}{d:DefD}{b:Sx}(E:∀A,Room Dw A->l An B1)(o:∀{X:Cx}{G:Gw}{U:Ae}{H0:Hp},l G U->Ctx X G N (Ja e.2.2.1).names->HX X (Ja e.2.2.1).names->PSs X (Jp e.2.2.1) R6)
  (B:'г' (defs[i]? =So d) Ai) (hb:'г' (YF=b) Ai) (h:'г' ((kI N e.2.2.2 (Ja e.2.2.1)&&d.slots==Yv&&d.params==e.2.2.2.length&&M.all (λi=>decide (e.2.2.2.length<=i))&&decide (e.2.2.2.length<=Yv))=To) Lb):
  ∀f g,Met1 K C e f g->FnOk P w K mg base Ci (3*A1) f g e.2.2.2 SG:=λf g D=>by
 simp only[Zc,ZA,wA,Zs]at h
 obtain⟨⟨⟨⟨m,t⟩,u⟩,z⟩,v⟩:=h
 subst hb
 exact JuG (j:=3*k+2) D.F (kF m) B t u z v λX A H0 C r q=>o (E A r) C q
def Jfw{f:Str}(hB:PySem.W.nsIn K mainGlobals (oS "Board")=So No)(m:PySem.W.nsIn K mainGlobals L3=So Bv)(cl:b9)(l:NoAttr K C f)(A:Bg):FldC An f:=λq o h=>by
 unfold clsN at h
 split at h
 ·rw[hB]at h;cases h
 ·rw[m]at h;cases h;exact⟨cl,l⟩
end
section
variable{w:Bool}{U:Ae}{ek ev:Expr}{pk:Px}{f z:Str}{pz mpos cpos spos dpos:Pos}
def bNewL(C:Al)(l:A8)(h:chkV N nm 0 x=To)(o:DW)(m:swapsWith QbI (So CG) Yy Se=pure Fo):
  PS X (.Assign PL QbI pos) Vv:=JsM C l (lI h) o m
def bAppF(C:Al)(r:A8)(q:chkV N nm 0 x=To)(m:DW)(o:B6)(t:(mpos.endLine==aU)=To)
  (l:N8) (h:attributeBase CG "append" Se (eval CG Se)=eval CG Se)
  (u:Ob):
  PS X XM VL:=Jtw C r (lI q) m o t l h u
def bPutK(C:Al)(o:A8)(m:chkV N nm 0 x=To)(t:DW)(h:Ny)(q:PE X ev FA)
  (l:N8) (r:swapsWith ev Vu Yy Se=pure Fo):
  PS X WZ V8:=JrS C o (lI m) t h q l r
def bPopK(C:Al)(q:A8)(l:chkV N nm 0 x=To)(r:DW)(h:Ny)(m:Rj)
  (o:N8):
  PS X XF VT:=Jsr C q (lI l) r h m o
end
section
variable{outer:Bb}{Q:VK}{E:XK}{U:Ae}{en rn cn pc:Str}{fl fc CRa:Addr}{fdc:A6}{W9:VK->XK->Prop}
theorem Jmh(F:Ef)(T:Oj)(hbt:Binds K fd [dn] [])(e0:Gx)(hr:Room 3 A)(hmr:mg rn=So KO)
  (FN:FnN P w K mg base fc fdc [pc] (spI K mg U fi)) (hmc:mg cn=So Kx) (hkc:PySem.W.keepIn K Kx=To) (hbc:Binds K fdc [pc] [])
  (Wm:∀Q' B E'',(∀m o H2,B m o H2->E'' m o H2)->W9 Q' B->W9 Q' E'')
  (deed:∀(A':Bg)(h:Bb)(l:Ao)(Q':VK)(B:XK),Room 2 A'->Env0 P w K mg base A' h l H->(∃env',A'=A.deeper env')->(∀b o,s.heap.get? b=So o->H b=No->∃sl,l.heap.get? b=So {o with slots:=sl})->
   W9 Q' B->FnAt fl aA/\codeAny Cm A' (.call (.ref fl) F9) (CR Ci h P w H l Q' B) l)
  (g:W9 Q λm _ H2=>∃(c:Str)(C:Addr)(d:D),m=.ref C/\PySem.W.nsIn K mainGlobals c=So Bv/\PySem.W.exmOne K AV KO=So To/\U fi CZ=.ok d/\∀v W,Same H2 W->Rep K W d v->Q v W):
  codeAny Cm A (.call A5 ⟨bX,[]⟩) Uq s:=by
 obtain⟨oc,od,kV,doc,pm,an,cdv,ct,osl,rfl,lk,hcd⟩:=F.ex;obtain⟨p1,p2,p3,np,p4,p5,p6,p7,hp,pos,t⟩:=T.body;have S:=T.sc;have pl:=T.pl;simp only[Zc]at pl;obtain⟨⟨⟨pl1,pl2⟩,pl3⟩,pl4⟩:=pl;have KX:K.In WL:=e0.mod.kin.keeps λb o e=>(e0.bs b o e).1;have lim:s.heap.NoLimit:=e0.mod.nolimit.keeps λb o e=>(e0.bs b o e).1;have L:∀y∈[dn].zip [Value.ref fl],'ū'.names.lookup y.1=So .local\/('ū'.names.lookup y.1=So .cell/\((cellsFrom Es 'ū'.names []).lookup y.1).isSome=To):=λ⟨n,v⟩hy=>by
  rcases S.par n (gM hy).1 with q|q
  ·exact .inl q
  ·exact .inr Up
 have hb:=hbt s bX KX rfl;refine oX hr.depth cZ rfl S.co S.gen rfl UC (hb _ _ _ _ ?_);refine jX S.kind L λenv1 he s1 x=>?_;subst he;refine UZ;have I:L2.Inv XA [] (jC Qcp bX) H s1:=Jed S hr.hd e0 rfl Nm x;have nd:(Qcp:List Str).Nodup:=S.nd;have J:Room 2 (A.deeper IC):=hr.deeper _;have main:PS XA (.Try Xf XZ [] [] pos)
   (λD Z H1=>Z=jC Qcp bX/\H1=H/\D.rt=Q):=by
  rintro Y s2 Z H1 D I2⟨e1,e2,e3⟩;subst e1 e2;refine wpAny_Try_except ?_;refine ZT (lL (nI (X:=Cx.mk1 XC _ Y) (pos:=p3) (JsC (i:=0) (p1:=p1) (pos:=p2) (x:=dn) rfl (.inl T.ld) (plainN.d pl1).1 (plainN.d pl1).2)) [] s2 _ H1 ⟨λ_ _=>False,Q,λ_ _=>False,λ_ _=>False⟩ (Inv.to1 I2) ?_) (λf s3 q=>?_) (λ_ _ z=>z)
  ·refine⟨fl,rfl,λpins' l I'=>deed _ _ l _ _ J I'.env0 Au (λb o e n=>I'.base.any e n (by show b∉([]:List Addr);simp)) (Wm _ _ _ ?_ g)⟩
   rintro m o H2⟨c,CC,d,rfl,g1,g3,hd,hg⟩C3 eC a l F;cases eC;refine JlH (je:=1) (te:=λZ H Q=>∃v,Z[1]? =So Bi/\spI K mg U fi [v] H Q λ_ _ _=>False) I2.ok rfl rfl rfl F T.lr hmr (plainN.d pl3).1 g3 nd rfl T.le (λB=>Jpz (X:=Cx.mk2 XC _ B Y) FN ?_ ?_ T.lc hmc hkc hbc (plainN.d pl4).1 rfl (.inl T.le) (plainN.d pl2).1 (plainN.d pl2).2) λo ho hn=>?_
   ·have:=J.dp;show(A.deeper IC).depth+5<_;lia
   ·have:=J.un;show(A.deeper IC).units+100<_;lia
   ·have up:Same H2 (upd H2 a HW):=λb u e=>by rw[Jc (Ji e hn)];exact e
    refine⟨.ref a,rfl,CZ,Reps.one ⟨a,o,_,rfl,Je,ho,g1⟩,?_⟩;rw[hd,e3];exactλv W l r=>hg v W (up.trans l) r
  ·cases f with
   |brk=>obtain⟨_,_,_,q⟩:=q;exact q.elim
   |cont=>obtain⟨_,_,_,q⟩:=q;exact q.elim
   |next=>obtain⟨_,_,_,q⟩:=q;exact q.elim
   |ret u=>obtain⟨v,σ',W,I',rv,q⟩:=q;exact⟨v,σ',W,Inv.of1 I',rv,by rw[e3];exact q⟩
 rw[t];refine ZT (lL main [] s1 _ H {nx:=λ_ _=>False,rt:=Q} I QbY) (λfl l hs=>?_) λe l hs=>hs;cases fl with
 |ret u=>obtain⟨v,σ',W,J9,rv,q⟩:=hs;exact WV
 |next=>obtain⟨_,_,_,q⟩:=hs;exact False.elim q
 |brk=>obtain⟨_,_,_,q⟩:=hs;exact False.elim q
 |cont=>obtain⟨_,_,_,q⟩:=hs;exact False.elim q
end
section
variable{outer:Bb}{Q:VK}{E:XK}{scope:AO}{q:Str}{clos:DP}{σ2:Cg}{te:Addr->TE}
def Jog(l:Gx)(hr:Room 1 A)(hl:xS H f params body scope q clos)(hσ:σ2.length=Yv)(hk:scope.kind=.function)(hco:scope.isCoroutine=Fo)(hgen:scope.isGenerator=Fo)
  (U:∀pm c Y,bindArgs (kla_fn "<lambda>" q params body scope clos pm cK Y) F9=pure []) (m:∀y∈D9,y.2≠.cell)
  (inj:∀x y c,clos.lookup x=So c->clos.lookup y=So c->x=y) (has:∀x,scope.names.lookup x=So .free->∃c,clos.lookup x=So c) (cel:∀x c,clos.lookup x=So c->(∃v,s.heap.IsCell c v)/\H c=No)
  (loc:∀(i:Nat)(x:Str)(v:V),N[i]? =So x->σ2[i]? =So Bi->∃u c,RelV v u/\scope.names.lookup x=So .free/\clos.lookup x=So c/\s.heap.IsCell c (So u))
  (B:∀c':Addr,PE U5 body (te c'))
  (g:∀c',(∀C W,E AV No W->XE U5 C W)->te c' σ2 H Q):
  codeAny Cm A (.call A5 F9) Uq s:=by
 obtain⟨pm,c',Y,oc,vs,t,ho,hc,hd,hv⟩:=hl;obtain⟨hoc,_⟩:=l.hok c' _ hc;obtain⟨ho,_⟩:=l.hok f _ ho;have lim:s.heap.NoLimit:=l.mod.nolimit.keeps λb o e=>(l.bs b o e).1;refine kla_callFunE hr.depth ho rfl hco hgen rfl ⟨c',oc,vs,t,rfl,hoc,hd,hv⟩ ?_;rw[U];refine Zb (wpAny_newFunctionEnv m (by intro x hx;simp at hx) (λh1 hns hsb=>⟨lim.fresh _ hsb,?_⟩) hk);show codeAny _ _ (.expr body Tx) _ _;refine kla_codeExpr ?_;have k1:∀b o,s.heap.get? b=So o->h1.get? b=So o:=λb o e=>hsb.extBut b o Ml D2;have kc:∀c v,s.heap.IsCell c v->h1.IsCell c v:=λc v⟨o,e,d⟩=>⟨o,k1 _ _ e,d⟩;have I:L2.Inv U5 [] σ2 H {s with heap:=h1,toks:=Yp+([]:List (Str×Value)).length}:=by
  have J:∀b:Addr,b∉(cxE Ci P w K mg base N Tx (λ_=>Fo) To A outer s H E).ex:=λb z=>absurd (show b∈([]:List Addr)from z) Af;refine⟨⟨l.mod,hk,rfl,rfl,Zh _,inj,λy L=>?_,λy c z=>(by cases z),λ_=>hr.hd,lX l.frames,.inr CU,λb z=>absurd z (J b),l.bs,l.bsz,λb _ _=>J b,λb z=>absurd z (J b),l.funs,l.frf⟩,
   rfl,l.bare,Un.kept k1,⟨_,hns,λi y v h1 h2 h3=>?_⟩,λy c h=>?_,l.hok.fresh (Zh _),λy c h=>(cel y c h).2,λp hp=>absurd (show p∈([]:List (Addr×Obj))from hp) Af,l.hok.kept k1,hσ⟩
  ·have L:scope.names.lookup y=So .cell\/scope.names.lookup y=So .free:=L;rcases L with L|L
   ·exact absurd rfl (m _ (xD L))
   ·exact has y L
  ·obtain⟨u,c,r,g1,g2,g3⟩:=loc i y v h1 h2;exact⟨u,r,.inr ⟨.inr g1,c,g2,kc _ _ g3⟩⟩
  ·obtain⟨⟨v,z⟩,_⟩:=cel y c h;exact⟨v,kc _ _ z⟩
 refine ZT (B c' [] _ σ2 H Q I (g c' λC W z a s' F=>JdL rfl F z)) (λu s'⟨v,W,J9,rv,q⟩=>?_) λe s' z=>z;exact WV
end
def tCT(X:Cx)(U:Ae)(bc:AG)(fi:Nat)(cs:Ag)(f i:Nat)(cn m:Str)(p:Px):TE:=λZ H Q=>∃O a ns fs J,ReadOk X.K H Z O/\O[i]? =So (So B2)/\clsN ns=cn/\ns.contains m=Fo/\evD U p O=.ok BL/\Jg J=To/\
 (bc f B2 J).Good (λd h=>∀v W,SameP H W->Rep X.K W h AE->Rep X.K W d v->Q v W) (λc h=>c∈cs/\∃d,U fi CZ=.ok d/\∀v W,SameP H W->Rep X.K W h AE->Rep X.K W d v->Q v W)
def oG(X:Cx)(te:Cx->TE)(M:Aj)(U:Ae)(fi:Nat)(cs:Ag):TE:=λZ H Q=>∃u:Hp->VK->XK->Prop,
 (∀l m r q,(∀h o t,r h o t->q h o t)->u l m r->u l m q)/\
 (∀z l m r,z.K=X.K->z.mg=X.mg->Same H l->u l m r->(∀C W,r AV No W->XE z C W)->te z bR l m)/\
 ∀l,Same H l->u l Q λh _ t=>∃(c:Str)(C:Addr)(d:D),h=.ref C/\c∈cs/\X.mg c=So AV/\U fi CZ=.ok d/\∀v W,Same t W->Rep X.K W d v->Q v W
section
variable{U:Ae}{sc:AO}{lp:Pos}{cn m:Str}{cs:Ag}{f:Nat}
theorem JhW{te:Cx->TE}(C:Al)(L:a7)(T:Nf)(hr:Room (j+3) G.A)(hg:chkG nm x=To)(hl:lamB N nm M sc=To)
  (hE:∀(X':Cx)(A':Bg),Ctx X' UN N sc.names->Room j A'->PE X' body (te X'))
  (hbind:∀q clos pm c ctv,bindArgs (kla_fn "<lambda>" q params body sc clos pm cK ctv) F9=pure []:=by intros;rfl) (hdef:W6)
  (hs:W5):
  PE X S5 (oG X te M U fi cs):=by
 obtain⟨ft,fd,qual,st,dn,en,rn,cnn,CRa,fc,fdc,pc,F,T',hbt,hm,hmr,hcs,FN,hmc,hkc,hbc⟩:=T.ex
 have hG:=C.g
 subst hG
 simp only[lamB,Zc,ZA,kB,wA]at hl
 obtain⟨⟨⟨⟨l1,l2⟩,l3⟩,l4⟩,l5⟩:=hl
 have J:∀y∈sc.names,y.2≠.cell:=λy h=>by
  have:=(l4 y h).1
  simpa using this
 have l:∀y∈sc.names,y.2=.free->celB nm y.1=To:=λy h e=>by
  have:=(l4 y h).2
  simpa[e]using this
 have hslot:∀i y,N[i]? =So y->i∉M->sc.names.lookup y=So .free:=λi y e hm=>by
  have hi:i<N.length:=(ZB.mp e).1
  have:=l5 i (List.mem_range.mpr hi)
  rw[e]at this
  simpa[hm]using this
 simp only[chkG,Zc]at hg
 rintro Y s Z H Q I⟨W9,hWm,hWt,hWg⟩
 have hcl:closureFor sc Se=pure Gz:=JcL λy h e=>I.ok.has y.1 (C.cel y.1 (l y h e))
 refine lH (uI I (C.glo x hg.1) hm ?_ (plainN.d hg.2).1)
 refine callWith_K (h₀:=YD) aS F.kp (thn ((JE (Jwl (lp:=lp) L hcl hdef) rA hs) pos Y s Z H (λvs H1=>∃f',vs=[.ref f']/\Same H H1/\xS H1 f' params body sc MU Gz) I λf' W sm la=>⟨f',rfl,sm,la⟩) λus s1⟨vs,H1,I1,rv,f',e1,sm,la⟩=>⟨I1.kIn,?_⟩) hs rfl
 subst e1
 obtain⟨u,rfl,ru⟩:=rv.one
 obtain rfl:u=Value.ref f':=ru
 have sub:∀y c,'ǖ'.lookup y=So c->X.env.cells.lookup y=So c:=pP Yz [] λy c e=>by cases e
 refine jH (zC (Jmh (Q:=Q) (E:=λ_ _ _=>False) (fl:=f') (W9:=W9 H1) F T' hbt I1.env0 LC hmr FN hmc hkc hbc (hWm H1) (λA' outer' s' Q' E' hr' e0' hA kp gd=>?_) (hWm H1 _ _ _ ?_ (hWg H1 sm))) λr s' hq=>?_)
 ·obtain⟨B,rfl⟩:=hA
  have kc:∀y c,X.env.cells.lookup y=So c->∀v,s1.heap.IsCell c v->s'.heap.IsCell c v:=λy c hc v⟨o,ho,hd⟩=>by
   obtain⟨sl,e⟩:=kp c o ho (I1.freeC y c hc)
   exact⟨_,e,hd⟩
  refine⟨?_,Jog (N:=N) (σ2:=zO M Z) (te:=λc'=>te (cxE Ik Yu X.w X.K X.mg YD N Xq (λ_=>Fo) To (X.A.deeper B) outer' s' H1 E')) e0' (hr'.mono Ad) la ?_ l1 l2 l3 (hbind _ _) J (λy z c e1 e2=>I1.ok.inj y z c (sub _ _ e1) (sub _ _ e2)) (λy e=>?_) (λy c e=>?_) (λi y v e1 e2=>?_) (λc'=>?_) (λc' hx=>?_)⟩
  ·obtain⟨pm,c',ctv,oc,vs,t,hf,_⟩:=la
   obtain⟨ho,_⟩:=e0'.hok f' _ hf
   exact⟨_,_,_,_,ho⟩
  ·unfold zO
   rw[List.length_mapIdx,I.len,C.hN]
  ·exact uL Yz [] y (xD e) (I1.ok.has y (C.cel y (l _ (xD e) rfl)))
  ·have hc:=sub _ _ e
   obtain⟨v,z⟩:=I1.cell y c hc
   exact⟨⟨v,kc y c hc v z⟩,I1.freeC y c hc⟩
  ·obtain⟨hm',e3⟩:=JjY e2
   have hfr:=hslot i y e1 hm'
   have hce:=l _ (xD hfr) rfl
   obtain⟨m,_,hloc⟩:=I1.loc
   obtain⟨u,ru,lk⟩:=hloc i y v (by rw[C.hN];exact e1) e3 (C.vis y (Jkm hce))
   rcases lk with⟨q1,_⟩|⟨_,c,q2,q3⟩
   ·have:=C.cel y hce
    rw[q1]at this
    rcases this with z|z<;>cases z
   ·obtain⟨c2,e4⟩:=uL Yz [] y (xD hfr) ⟨c,q2⟩
    have e5:=sub _ _ e4
    rw[q2]at e5;cases e5
    exact⟨u,c,ru,hfr,e4,kc y c q2 _ q3⟩
  ·have hj:Room j ((X.A.deeper B).deeper Xq):=((hr.mono (show j+2<=j+3 by lia)).deeper B).deeper _
   refine hE _ _ ?_ hj
   exact{
    g:=rfl
    hN:=rfl
    nd:=C.nd
    vis:=λy h=>by
     show Vis sc y
     unfold visB at h
     split at h
     ·rename_i z;exact .inl z
     ·rename_i z;exact .inr FQ
     ·rename_i z;exact .inr G8
     ·cases h
    cel:=λy h=>by
     show sc.names.lookup y=So .cell\/sc.names.lookup y=So .free
     unfold celB at h
     split at h
     ·rename_i z;exact .inl z
     ·rename_i z;exact .inr z
     ·cases h
    glo:=λy h=>by
     show sc.names.lookup y=So .globalImplicit
     unfold gloB at h
     split at h
     ·rename_i z;exact z
     ·cases h
    sto:=λy h=>by
     show Loc sc y/\(Fo=To\/sc.names.lookup y=So .local)
     unfold locB at h
     split at h
     ·rename_i z;exact QaG
     ·rename_i z;exact absurd rfl (J _ (xD z))
     ·cases h
    calm:=rfl
    un:=hj.units
    fr:=T7}
  ·exact hWt _ H1 Q' E' rfl rfl sm gd hx
 ·rintro cls o H2⟨c,CC,d,rfl,hc,hmc2,hd,hg2⟩
  obtain⟨C2,g1,g2,g3⟩:=hcs c hc
  rw[show X.mg c=So (.ref C2)from g2]at hmc2
  cases hmc2
  exact⟨c,_,d,rfl,g1,g3,hd,hg2⟩
 ·cases r with
  |error e=>
   have hq':CXr Yu X.w Yt H1 s1 Io e s':=hq
   obtain⟨_,_,_,_,_,_,_,_,_,_,_,_,_,hf⟩:=hq'
   exact hf.elim
  |ok fl=>
   cases fl with
   |ret u=>exact I1.after hq
   |next=>exact False.elim hq
   |brk=>exact False.elim hq
   |cont=>exact False.elim hq
def kW{l:Hp}(r:LJ)(sm:Same H l):ReadOk X.K l bR eH:=λk d e=>by
 rw[zI]at e
 simp only[iJ]at e
 cases q:O[k]? with
 |none=>rw[q]at e;cases e
 |some o=>
  rw[q]at e
  simp only[rJ,ZR]at e
  split at e
  ·cases e
  ·rename_i h
   subst e
   obtain⟨v,t,u⟩:=r k d q
   refine⟨v,?_,Rep.mono sm d u⟩
   unfold zO
   rw[List.getElem?_mapIdx,t]
   simp[h]
def tCT.gen(hsp:BW)(hi:(!M.contains i)=To){Q:VK}(h:tCT X U bc fi cs f i cn m p Z H Q):oG X (λX'=>tC X' U bc f i cn m p) M U fi cs Z H Q:=by
 obtain⟨O,a,ns,fs,J,r,ho,F,I,E,hpl,h⟩:=h;have Y:i∉M:=by simpa using hi
 refine⟨λt Q' u=>(∀c l,bc f B2 J=.ex c l->c∈cs)/\(bc f B2 J).Good (λd l=>∀v W,SameP t W->Rep X.K W l AE->Rep X.K W d v->Q' v W) (λc l=>∀C W,X.mg c=So AV->SameP t W->Rep X.K W l AE->u AV No W),λt Q' u E'' hE' z=>⟨z.1,?_⟩,λX' t Q' u eK eM sm o hx=>?_,λt sm=>HH⟩
 ·have z:=z.2;cases q:bc f B2 J with
  |ok d l=>rw[q]at z;exact z
  |ex c l=>rw[q]at z;exactλC W L h2 h3=>hE' _ _ _ (z C W L h2 h3)
  |sk=>rw[q]at z;exact z
 ·refine⟨Jv M 0 O,a,ns,fs,by rw[eK];exact kW r sm,?_,F,I,?_⟩
  ·rw[zI,ho];simp[Y]
  ·rw[Jw U O hsp,E];refine⟨J,rfl,hpl,?_⟩;have o:=o.2;rw[eK,eM];cases q:bc f B2 J with
   |ok d l=>rw[q]at o;exact o
   |ex c l=>rw[q]at o;exactλC W L h2 h3=>hx C W (o C W L h2 h3)
   |sk=>rw[q]at o;exact o
 ·intro c l q;rw[q]at h;exact h.1
 ·cases q:bc f B2 J with
  |ok d l=>rw[q]at h;exactλv W B r1 r2=>h v W ((SameP.of sm).trans B) r1 r2
  |ex c l=>rw[q]at h;obtain⟨hc,d,hd,hg⟩:=h;intro C2 H2 hm2 B r2;exact⟨c,C2,d,rfl,hc,hm2,hd,λv W s3 r3=>hg v W ((((SameP.of sm).trans B)).trans (SameP.of s3)) (Rep.mono s3 _ r2) r3⟩
  |sk=>rw[q]at h;exact h
def tCT.ite{pc:Px}{u t:Cx->TE}{b:Bool}(E:sepP M pc=To){Q:VK}(r:LJ)(W:evD U pc O=.ok Bt)(h:if b then oG X u M U fi cs Z H Q else oG X t M U fi cs Z H Q):
  oG X VJ M U fi cs Z H Q:=by
 have B:∀I:Cx->TE,(∀X' q o,X'.K=X.K->Same H q->(∀l,Same q l->I X' bR l o)->tIf Dv (u X') (t X') bR q o)->oG X I M U fi cs Z H Q->oG X VJ M U fi cs Z H Q:=λI ht⟨W9,w1,Y,w3⟩=>
  ⟨λq o F=>∀l,Same q l->W9 l o F,λq o F J L z l v=>w1 l o F J L (z l v),λX' q o F C eM sm gd hx=>ht X' q o C sm λl v=>Y X' l o F C eM (sm.trans v) (gd l v) hx,λq sm l v=>w3 l (sm.trans v)⟩
 cases b with
 |true=>refine B u (λX' q o C sm z=>⟨Jv M 0 O,by rw[C];exact kW r sm,?_⟩) h;rw[Jw U O E,W];exact⟨To,rfl,λl v=>iteT (z l v)⟩
 |false=>refine B t (λX' q o C sm z=>⟨Jv M 0 O,by rw[C];exact kW r sm,?_⟩) h;rw[Jw U O E,W];exact⟨Fo,rfl,λl v=>iteF (z l v)⟩
def Jtm(C:Al)(L:a7)(T:Nf)(z:Room (j+3) G.A)(B:chkG nm x=To)(E:lamB N nm M sc=To)(r:BW)(hi:(!M.contains i)=To)
  (hE:∀(u:Cx)(A':Bg),Ctx u UN N sc.names->Room j A'->PE u body (tC u U bc f i cn m p))
  (l:∀q o v c t,bindArgs (kla_fn "<lambda>" q params body sc o v cK t) F9=pure []:=by intros;rfl) (hdef:W6)
  (hs:W5):
  PE X S5 (tCT X U bc fi cs f i cn m p):=PE.weak (JhW C L T z B E hE l hdef hs) λZ H Q h=>h.gen r hi
end
section
variable{X:Cx}{U:Ae}{G:Gw}{N:Ag}{nm:Bd}{body:Expr}{params:Ex}{sc:AO}{p:Px}{pos p1 lp:Pos}{x:Str}{cs:Ag}{M:Aj}{fi j:Nat}
def Jvc(C:Al)(L:a7)(T:Nf)(hr:Room (j+3) G.A)(hg:chkG nm x=To)(hl:lamB N nm M sc=To)(hsp:BW)
  (hE:∀(l:Cx)(A':Bg),Ctx l UN N sc.names->Room j A'->PE l body (tI l U p))
  (t:∀q u pm c ctv,bindArgs (kla_fn "<lambda>" q params body sc u pm cK ctv) F9=pure []) (B:Tg)
  (hs:W2):
  PE X S5 (tI X U (.told fi cs p)):=by
 refine PE.weak (JhW (te:=λl=>tI l U p) C L T hr hg hl hE t B hs) λZ H Q zz=>?_;obtain⟨O,r,h⟩:=zz;refine⟨λo E Y=>'Ơ'.Good (λd=>∀v W,Same o W->Rep X.K W d v->E v W) λc=>∀C W,X.mg c=So AV->Same o W->Y AV No W,λo E Y E'' hm g=>g.mono J2 λc z C W m s=>hm _ _ _ (z C W m s),λl o E Y hK J sm g hx=>⟨Jv M 0 O,by rw[hK];exact kW r sm,?_⟩,λo sm=>?_⟩
 ·rw[Jw U O hsp];change(evD U p O).Good (λd=>∀v W,Same o W->Rep l.K W d v->E v W) (XW l o);rw[hK];exact g.mono J2 λc z F H2 m s=>hx F H2 (z F H2 (by rw[<-J];exact m) s)
 ·change(match evD U p O with
   |.ok d=>.ok d
   |.ex c=>if cs.contains c then(match U fi CZ with|.ok d=>.ok d|_=>.sk)else .sk
   |.sk=>.sk:Rs Pu.D).Good _ _ at h
  cases q:evD U p O with
  |sk=>rw[q]at h;exact h.elim
  |ok d=>rw[q]at h;exactλv W s k=>h v W (sm.trans s) k
  |ex c=>
   rw[q]at h;dsimp only at h;by_cases hc:cs.contains c=To
   ·rw[if_pos hc]at h;cases I:U fi CZ with
    |ok d=>rw[I]at h;exactλF H2 m s=>⟨c,F,d,rfl,by simpa using hc,m,I,λv W s2 k=>h v W ((sm.trans s).trans s2) k⟩
    |ex _=>rw[I]at h;exact h.elim
    |sk=>rw[I]at h;exact h.elim
   ·rw[if_neg hc]at h;exact h.elim
end
section
variable{w:Bool}{U:Ae}{pb:Bx}{m:Str}{cs:Ag}{f:Nat}{ns:Ag}
def tB.tct(h0:A8)(Y:CV){Q:VK}(C:tB X U bc [] H0 Tr Z H Q):tCT X U bc fi cs f i CO m p Z H Q:=by
 obtain⟨O,e,h⟩:=C;simp only[evB]at h;split at h
 ·rename_i a t fs q;split at h
  ·rename_i F;subst F;cases z:evD U p O with
   |sk=>rw[z]at h;exact h.elim
   |ex c=>rw[z]at h;exact h.elim
   |ok d=>
    rw[z]at h;cases d with
    |lst J=>
     simp only at h;split at h
     ·rename_i B;simp only[Zc]at B;obtain⟨v,L,hr⟩:=e.read i _ Af q;obtain rfl:v=.ref a:=hr.1;have o:∀{l:D}{W:Hp},SameP H W->Rep X.K W l AE->EnvOk X.K [] H0 W Z Qbc:=λs r=>e.obj Af B.1 s OD L (by show Rep X.K GU _ _;rw[vB];exact r);refine⟨O,a,t,fs,J,Y1,q,rfl,Y,z,B.2,?_⟩;cases y:bc f Qdq J with
      |ok d l=>rw[y]at h;simp only[pN,List.set_set]at h;exactλE W s I u=>h E W (o s I) rfl s u
      |ex c l=>
       rw[y]at h;simp only[pN,List.set_set]at h;split at h
       ·rename_i hc;split at h
        ·rename_i d hd;exact⟨by simpa using hc,d,hd,λE W s I u=>h E W (o s I) rfl s u⟩
        ·exact h.elim
       ·exact h.elim
      |sk=>rw[y]at h;exact h.elim
     ·exact h.elim
    |_=>exact(show False from h).elim
  ·exact h.elim
 ·exact h.elim
def JsP(l:PE X e (tCT X U bc fi cs f i CO m p))(o:A8)(q:CV):PE X e (tB X U bc [] H0 Tr):=PE.weak l λZ H Q h=>h.tct o q
def tSB.retB{D:Ends}(o:tSB X w U bc [] H0 (.retB pb) D Z H):tB X U bc [] H0 pb Z H D.rt:=by obtain⟨O,e,h⟩:=o;refine D7;refine(Rx.good_next.mp h).imp (λd l B v W q E s r=>?_) λc l z C W t u=>z C W Z t u;exact B v W q.same r λ_=>⟨Z,q⟩
def Jtb(l:Uu):PS X LS (tSB X w U bc [] H0 (.retB pb)):=PS.weak (nI l) λD Z H h=>h.retB
variable{f2:Nat}{m2:Str}{p2 pc:Px}
def JoL(F:PE X e (oG X (λX'=>tIf Dv (tC X' U bc f i CO m p) (tC X' U bc f2 i CO m2 p2)) M U fi cs))(B:A8)(E:CV)(t:ns.contains m2=Fo)(C:sepP M pc=To)(v:BW)(r:sepP M p2=To)(hi:(!M.contains i)=To)(q:∀O c,evD U pc O≠.ex c):
  PS X LS (tSB X w U bc [] H0 (.ite (.pur pc) Mt VI)):=by
 refine PS.weak (nI F) λD Z H u=>?_;obtain⟨O,e,h⟩:=u;cases z:evD U pc O with
 |sk=>exact(show False by have o:('亃'.next _).Good _ _:=h;rw[z]at o;exact o).elim
 |ex c=>exact absurd z (q O c)
 |ok d=>
  have o:('亃'.next λx l=>match x with
   |.bl To=>exO w U bc Mt l
   |.bl Fo=>exO w U bc VI l
   |_=>.sk).Good (OutQ X w [] H0 (Ow [] O Z) H Fo D) HN:=h
  rw[z]at o;cases d with
  |bl b=>
   cases b with
   |true=>exact tCT.ite C Y1 z ((tSB.retB (w:=w) (D:=D) ⟨O,e,o⟩).tct B E|>.gen v hi)
   |false=>exact tCT.ite C Y1 z ((tSB.retB (w:=w) (D:=D) ⟨O,e,o⟩).tct B t|>.gen r hi)
  |_=>exact(show False from o).elim
end
def spBL(K:Ak)(mg:Bf)(Pt:Addr)(q:Str)(bc:AG)(fi:Nat):Sp:=λh H Q E=>TbH H Pt q/\spB K mg bc fi h H Q E
inductive CalleeOLe(G:Gw)(bc:AG)(fi:Nat)(x:Str)(Pt:Addr)(q:Str):Prop where
 |mk (kk:Nat) (f:Addr) (fd:FuncData) (ps:List Str) (h:FnOk G.prog G.w G.K G.mg G.base (CXr G.prog G.w) kk f fd ps (spBL G.K G.mg Pt q bc fi)/\Room kk G.A.in1.in1/\G.mg x=So (.ref f)/\PySem.W.keepIn G.K (.ref f)=To/\Binds G.K fd ps []):CalleeOLe G bc fi x Pt q
structure CalleeOL(G:Gw)(bc:AG)(fi:Nat)(x:Str)(Pt:Addr)(q:Str):Prop where
 ex:CalleeOLe G bc fi x Pt q
section
variable{X:Cx}{w:Bool}{U:Ae}{bc:AG}{M:Aj}{H0:Hp}{G:Gw}{N:Ag}{nm:Bd}{e a:Expr}{es:CY}{p:Px}{x y m cn q0:Str}{fi i:Nat}{ns:Ag}{pos p1 py px:Pos}{Pt:Addr}
def JuJ(Cc:Al)(hc:Qj)(tb:Qcx)(hg:gloB nm x=To)(B:FE)(ha:PA X (.Name y py::es) QJ)(he:'г' Wt Ai)
  (hpl:Dg):PE X (.Call GI (.Name y py::es) [] pos) Uh:=by
 obtain⟨kk,f,fd,ps,F,hr,hm,hk,hb⟩:=hc.ex;have hG:=Cc.g;subst hG;rintro Y s Z H Q I⟨O,a,ns,fs,r,hE,_,_,h⟩;refine qU F (Room.out hr) (Cc.glo x hg) hm hk hb .nil nK ha B he hpl Y s Z H Q I Dp;simp only[evD,hE,Rs.bo];refine Rs.gB.mpr (h.imp λd zz0=>?_);obtain⟨J,ed,t,l⟩:=zz0;subst ed;simp only[D.asL,Rs.bo];refine⟨_,rfl,λvs W s rs=>?_⟩;obtain⟨v0,ws,rfl,r0,r1⟩:=rs;obtain rfl:v0=.ref a:=r0.1;obtain⟨o,u,t1,t2⟩:=tb;obtain⟨more,t3⟩:=I.base.tbls Pt o t1;have hz:0<o.size:=(zJ.mp t2).1;refine⟨⟨_,u,s _ _ t3,by rw[iX hz];exact t2⟩,a,ws++[],_,J,rfl,r0,by rw[zD];exact r1,t,?_⟩;cases q:bc fi B2 J with
 |ok d E=>rw[q]at l;exactλv C z L rd=>l v C ('Ɏ'.trans z) L rd
 |ex c E=>rw[q]at l;exactλC2 C hm2 z L C3 e3=>by cases e3;exact l C2 C hm2 ('Ɏ'.trans z) L
 |sk=>rw[q]at l;exact l
def cOHL(t:Al)(z:A8)(B:Qj)(q:Qcx)(h:chkG nm x=To)(hi:(!M.contains i)=To)(u:CV)(r:PA X (.Name y py::es) QJ)(l:BW)(v:Wt)
  (o:Yn):PE X (.Call GI (.Name y py::es) [] pos) Wh:=by simp only[chkG,Zc]at h;exact JnM (m:=m) (JuJ t B q h.1 (plainN.d h.2).1 r v o) z u (by simpa using hi) l
def cMt{pl:C1}(C:Al)(t:Oi)(h:Ho)(o:Dy)
  (l:Cj) (hpl:Dg)
  (ht:'г' (eval WM Se=(do
   let ov<-eval GI Se
   standAt py.atName
   let(f,first)<-holding [ov] Ec
   callWith pos f first 'μ' Eb)) Ai):PE X WM Uh:=by simp only[chkV,Zc,ZA]at h;obtain⟨q,r⟩:=plainN.d h.2;exact JmJ C t h.1.2 h.1.1 q r o l hpl ht
def Joa{k:Int}{s:Str}(O:Fm)(c:Str):evD U (.bi .eq (.bi .idx CD (.con DZ)) (.con (.str s))) O≠.ex c:=by
 have l:∀d c,op2 .idx d (.int k)≠.ex c:=λd c=>by cases d<;>simp only[op2]<;>first|exact Rs.ofOpt_ex|(intro z;cases z;done)|(split<;>first|exact Rs.ofOpt_ex|(intro z;cases z;done))
 have t:∀a b c,op2 .eq a b≠.ex c:=λa b c=>by simp only[op2];split<;>(intro z;cases z)
 intro h;simp only[evD]at h;cases q:O[i]? with
 |none=>rw[q]at h;cases h
 |some o=>
  rw[q]at h;cases o with
  |none=>cases h
  |some d=>
   simp only[Rs.bo]at h;cases z:op2 .idx d (.int k)with
   |sk=>rw[z]at h;cases h
   |ex r=>exact l d r z
   |ok y=>rw[z]at h;exact t _ _ _ h
variable{b:Bs}{q:Px}{rest:BI}{pt pt2 pos':Pos}{kt k2 j:Nat}
end
section
variable{defs:B4}{bdefs:FY}
def foBL{Ev:Gw->CallD->CallB->Prop}{ps:Ag}{d:DefB}{g:A6}(E:∀A,Room Dw A->Ev An B1 BY)(D:OS)(l:g.code=.ref c)(B:QbU)
  (t:∀{X:Cx}{A:Bg}{H0:Hp},Room (3*k+5) A->Ctx X An N 'ū'.names->HX X 'ū'.names->LamX X->PlO H0->PSs X Dh (tSB X To B1 BY [] H0 b))
  (hd:'г' (bdefs[i]? =So d) Ai) (hb:'г' (YF=b) Ai) (h:W3):
  FnOk P w K mg base Ci (3*(k+2)) f g ps (spBL K mg Pt (x++".<locals>."++"<lambda>") NQ i):=by
 simp only[Zc,ZA,Zs]at h;obtain⟨⟨⟨r,F⟩,U⟩,W⟩:=h;subst hb;refine Jlv (Tb:=λH=>TbH H Pt (x++".<locals>."++"<lambda>")) (j:=3*k+5) D.F (kF r) hd F U W λX A H0 C v u q z L h0=>t v C u ?_ h0;obtain⟨o,m,J,Y⟩:=q;have I:=C.g;refine⟨c,Pt,o,m,z.trans l,?_,J,by rw[L];exact Y⟩;have e1:X.mg=mg:=C.mg;have e2:X.base=base:=by have:=iA Gw.base I;exact this
 rw[e1,e2];exact B
def Jwv (X:Cx) (G:Gw) (U:Ae) (bc:AG) (H0:Hp):List MethE->List (List Str)->List DefB->Prop
 |e::T,n::L,d::D=>(Ctx X G n (Ja e.2.2.1).names->HX X (Ja e.2.2.1).names->PSs X (Jp e.2.2.1) (tSB X To U bc [] H0 YF))/\Jwv X G U bc H0 T L D
 |[],_,_=>True
 |_,_,_=>False
def Juk (X:Cx) (G:Gw) (U:Ae) (H0:Hp):List MethE->List (List Str)->List DefD->Prop
 |e::T,n::L,d::D=>(Ctx X G n (Ja e.2.2.1).names->HX X (Ja e.2.2.1).names->PSs X (Jp e.2.2.1) (tS X U [] H0 YF))/\Juk X G U H0 T L D
 |[],_,_=>True
 |_,_,_=>False
end
def JlE{mb:Bf}{CX:CXT}{fa:Addr}{sp:Sp}{l:Ao}{vs:AF}{ns:A0}{cs:List (Addr×Addr)}
  (KX:K.In aA) (hns:l.heap.Ns mainGlobals mg) (t:l.heap.Ns builtinsNs mb) (hbb:∀x:Str,x≠"__name__"->mb x=bootBuiltins x) (hlim:l.heap.NoLimit) (hg:l.gens=#[])
  (ha:l.heap.get? a=So {cls:=.type "list",data:=.seq CP}) (hi:IntsAre vs ns) (hl:AX<=sizeLine) (hr:Room k callerA)
  (hPK:∀p q,tq p=So q->K.lookup p=No) (hC:∀c∈cs,CodeHd aA c.1 c.2) (hP:∀p q,tq p=So q->l.heap.get? p=So (tabObj #[])) (hT:∀p q,tq p=So q->∃c,CodeHd aA c p)
  (hbm:∃bm ob,mg "__builtins__"=So (.ref bm)/\bm≠builtinsNs/\l.heap.get? bm=So ob/\ob.cls=.type "module"/\ob.dict=So builtinsNs/\ob.data=.plain)
  (F:∀base:Heap,K.In base->base.Ns mainGlobals mg->(∀c∈cs,LamB mg base c.1 c.2)->FnOk P w K mg base CX k fa fd [x] sp) (hbind:∀(s:Ao)(u:Am),BindsTo s fd ⟨[u],[]⟩ [(x,u)])
  (hsp:∀H:Hp,(∀p q,tq p=So q->TbH H p q)->SqL K H a (ns.map V.int)->sp Cv H (λv _=>v=.bl To) λ_ _ _=>False)
  (hCX:∀H e C,CX [] H l Io e C->False):
  codeAny Cm callerA Qs (λr C=>r=.ok (.ret F8)/\OldK aA C.heap/\C.os=l.os/\AllBare C.gens) l:=by
 have rv:=Jgf hi;have lenV:=hi.length;have aP:tq a=No:=by
  cases z:tq a with
  |none=>rfl
  |some q=>have:=hP a q z;rw[this]at ha;cases ha
 have core:∀H:Hp,(∀b,tq b=No->H b=No\/∃o xs,H b=So (.frz o AH))->(∀p q,tq p=So q->H p=So (.tbl #[.str q 0]))->SqL K H a (ns.map V.int)->HOk P w H l.heap->(∀b,H b≠No->b=a\/∃q,tq b=So q)->(H a≠No->K.lookup a=No)->
   codeAny Cm callerA Qs (λr C=>r=.ok (.ret F8)/\OldK aA C.heap/\C.os=l.os/\AllBare C.gens) l:=by
  intro H hO hPt hS hok hA hK;have B:∀{b:Addr}{o:Obj},l.heap.get? b=So o->H b=No->'ǳ'.get? b=So o:=λe n=>Joe e n;have noA:∀{b:Addr}{o:Obj},l.heap.get? b=So o->(∀z n,o.data≠.seq z n)->o≠tabObj #[]->H b=No:=fun{b o}e d1 d2=>by
   cases q:H b with
   |none=>rfl
   |some u=>
    rcases hA b (by rw[q];simp)with e'|⟨n,e'⟩
    ·subst e';rw[ha]at e;cases e;exact absurd rfl (d1 _ _)
    ·rw[hP b n e']at e;cases e;exact absurd rfl d2
  have I:∀{b:Addr}{m:Bf},l.heap.Ns b m->'ǳ'.Ns b m:=fun{b m}⟨o,es,ep,e,d,r⟩=>⟨o,es,ep,B e (noA e (λz n h=>by rw[d]at h;cases h) λh=>by rw[h]at d;cases d),d,r⟩;have hKb:K.In 'ǳ':=λb o e=>B (KX b o e) (by
   cases q:H b with
   |none=>rfl
   |some u=>
    rcases hA b (by rw[q];simp)with e'|⟨n,e'⟩
    ·subst e';rw[hK (by rw[q];simp)]at e;cases e
    ·rw[hPK b n e']at e;cases e)
  have hM:Mod K mg 'ǳ':=⟨hKb,I hns,⟨mb,I t,hbb⟩,let⟨mc,h1,h2⟩:=hlim;⟨mc,I h1,h2⟩⟩;have LB:∀c∈cs,LamB mg 'ǳ' c.1 c.2:=λc hc=>by
   refine HH
   ·obtain⟨o,ws,file,tf,flags,tg,inF,text,tt,U,J,e3,r⟩:=hC c hc;refine⟨o,ws,file,tf,flags,tg,inF,text,tt,B U ?_,J,e3,r⟩;cases q:H c.1 with
    |none=>rfl
    |some u=>
     rcases hA c.1 (by rw[q];simp)with e'|⟨n,e'⟩
     ·rw[e',ha]at U;cases U;injection J with J;exact absurd J Ax
     ·rw[hP _ n e']at U;cases U;cases J
   ·obtain⟨bm,ob,b1,b2,b3,b4,b5,b6⟩:=hbm;exact⟨bm,ob,b1,b2,B b3 (noA b3 (λz n h=>by rw[b6]at h;cases h) λh=>by rw[h]at b6;cases b6),b4,b5,b6⟩
  have e0:Env0 P w K mg 'ǳ' callerA [] l H:=⟨rfl,hM,λb o e=>JrV e,Nat.le_of_eq (Jnd _ _),trivial,λb t=>absurd (show b∈([]:List Addr)from t) Af,hok,.of_eq hg⟩;refine zC ((F _ hKb (I hns) LB).run callerA [] l H SL Cv Cv _ _ hr e0 (hbind l AE) Nm (hsp H (λp q z=>⟨_,0,hPt p q z,rfl⟩) hS)) λr C h=>?_;cases r with
  |error e=>exact(hCX H e C h).elim
  |ok fl=>
   cases fl with
   |next=>exact False.elim h
   |brk=>exact False.elim h
   |cont=>exact False.elim h
   |ret u=>
    obtain⟨v,W,os,bare,un,Y,r',q'⟩:=h;have q':v=.bl To:=q';subst q';obtain rfl:u=Value.bool To:=r';have tab:∀p q,tq p=So q->∃qs,C.heap.get? p=So (tabObj qs):=λp q z=>by obtain⟨more,e⟩:=un.tbls p _ (hPt p q z);obtain⟨_,_,qs,_,J,_⟩:=Y p _ e;exact⟨qs,J⟩
    have keep:∀b o,tq b=No->l.heap.get? b=So o->C.heap.get? b=So o:=λb o t e=>by
     cases q:H b with
     |none=>exact un.keep b o e q (by intro z;exact absurd (show b∈([]:List Addr)from z) Af) Af
     |some u=>
      rcases hO b t with z|⟨ob,xs,z⟩
      ·rw[q]at z;cases z
      ·have z2:=un.frzs b ob _ z;obtain⟨U,_⟩:=hok b _ z;obtain⟨J,_⟩:=Y b _ z2;rw[e]at U;cases U;exact J
    refine⟨rfl,⟨λb o e=>?_,λb o e=>?_⟩,os,bare⟩
    ·cases t:tq b with
     |none=>exact .inl (keep b o t e)
     |some q=>obtain⟨qs,hqs⟩:=tab b q t;obtain⟨c,hc⟩:=hT b q t;have E:=hP b q t;rw[E]at e;cases e;exact .inr (.inl ⟨(hc.tab E).isCodeTable,rfl,#[],qs,rfl,by rw[Array.empty_append];exact hqs⟩)
    ·cases t:tq b with
     |none=>exact⟨o,keep b o t e⟩
     |some q=>obtain⟨qs,hqs⟩:=tab b q t;exact⟨_,hqs⟩
 have tok:∀(H:Hp)p q,tq p=So q->ObjOk P w H aA p (.tbl #[.str q 0]):=λH p q z=>⟨q,0,#[],rfl,hP p q z,trivial,λpos cv z=>by cases z⟩;have ft:∀{α:Type}{x y:α}{b:Addr}{q:Str},tq b=So q->(match tq b with|some q=>x|none=>y)=x:=λz=>by rw[z]
 have fn:∀{b:Addr}(G:Str->Option HO)(y:Option HO),tq b=No->(match tq b with|some q=>G q|none=>y)=y:=λG y z=>by rw[z]
 have fs:∀{b:Addr}{q:Str}(G:Str->Option HO)(y:Option HO),tq b=So q->(match tq b with|some q=>G q|none=>y)=G q:=λG y z=>by rw[z]
 cases hk:K.lookup a with
 |some o=>
  have e:=KX a o hk;rw[ha]at e;cases e;refine core (λb=>match tq b with|some q=>So (.tbl #[.str q 0])|none=>No) (λb t=>.inl (fn _ _ t)) PX (.inr ⟨_,CP,_,hk,rfl,rfl,rfl,by rw[Zn,lenV];exact hl,by simpa using rv⟩) (λb u z=>?_) (λb z=>?_) λz=>absurd (fn _ _ aP) z
  ·cases t:tq b with
   |some q=>have L:=(fs _ _ t).symm.trans z;cases L;exact tok _ b q t
   |none=>have L:=(fn _ _ t).symm.trans z;cases L
  ·cases t:tq b with
   |some q=>exact .inr ⟨q,rfl⟩
   |none=>exact absurd (fn _ _ t) z
 |none=>
  refine core (λb=>match tq b with|some q=>So (.tbl #[.str q 0])|none=>if b=a then So (.frz {cls:=.type "list",data:=.seq CP} (.lst RY))else No) (λb E=>?_) PX (.inl (.inr ⟨{cls:=.type "list",data:=.seq CP},(fn _ _ aP).trans (if_pos rfl)⟩)) (λb u z=>?_) (λb z=>?_) λ_=>hk
  ·by_cases t:b=a
   ·exact .inr ⟨_,_,'Ӄ'.trans (if_pos t)⟩
   ·exact .inl ('Ӄ'.trans eW)
  ·cases E:tq b with
   |some q=>have L:=(fs _ _ E).symm.trans z;cases L;exact tok _ b q E
   |none=>
    by_cases t:b=a
    ·have L:=('Ӄ'.trans (if_pos t)).symm.trans z;cases L;subst t;exact⟨ha,by rw[Zj];exact hl,vs,_,rv,ha⟩
    ·have L:=('Ӄ'.trans eW).symm.trans z;cases L
  ·cases E:tq b with
   |some q=>exact .inr ⟨q,rfl⟩
   |none=>
    by_cases t:b=a
    ·exact .inl t
    ·exact absurd ('Ӄ'.trans eW) z
def Joj{l:QdH}{n:Nat}{q:Bk}{loose:Ag}{XP:(Str->Option Value)->Heap->Prop}{YP:World->Heap->Prop}{d:DefRec}{K:Params->PySem.W.Frag}{CX:World->CXT}{sp:World->Sp}{cs:List (Addr×Addr)}
  (hn:l.most=So n) (hn2:n<=sizeLine) (hdf:d.params.defaults=[]) (hr:Room k callerA) (W:∀p q,tq p=So q->∃c,(c,p)∈cs)
  (hY:∀(w:Bc)(h:Heap),YP w h->'ͽ'.In h/\∀c∈cs,h.get? c.2=So (tabObj #[])) (hC:∀p,∀c∈cs,codeHdIn (K p) c.1 c.2=To) (J:∀p,∀c∈cs,(K p).lookup c.2=No)
  (F:∀(w:Bc)(mg:Bf)(E:Addr)(h:Heap),'ͽ'.In h->h.Ns mainGlobals mg->mg d.name=So (.ref E)->
   ∃fd:FuncData,(∀(s:Ao)(u:Am),BindsTo s fd ⟨[u],[]⟩ [(x,u)])/\
    ∀base:Heap,'ͽ'.In base->base.Ns mainGlobals mg->(∀c∈cs,LamB mg base c.1 c.2)->FnOk bT w 'ͽ' mg base (CX w) k E fd [x] (sp w))
  (Y:∀(w:Bc)(H:Hp)(a:Addr)(ns:A0),AX<=n->(∀p q,tq p=So q->TbH H p q)->SqL 'ͽ' H a (ns.map V.int)->sp w Cv H (λv _=>v=.bl To) λ_ _ _=>False)
  (hCX:∀(w:Bc)(H:Hp)(s:Ao)(e:Am)(U:Ao),CX w [] H s Io e U->False):
  PySem.W.WalkO q loose XP YP dN d [] RM:=by refine Att.Jhy hn hdf λw s₀ B mg mb E o pm cd doc a vs ns G Y9 ho hd hcd L C r m hg=>?_;obtain⟨I,hP⟩:=hY w _ Y9;obtain⟨fd,hb,hF⟩:=F w mg E _ I G.T.g L;exact JlE (tq:=tq) (cs:=cs) I G.T.g G.T.b G.T.builtins G.T.nolimit hg C r (Zy m hn2) hr (λp q z=>let⟨c,t⟩:=W p q z;J _ _ t) (λc t=>codeHd_of_K I (hC _ c t)) (λp q z=>let⟨c,t⟩:=W p q z;hP _ t) (λp q z=>let⟨c,t⟩:=W p q z;⟨c,codeHd_of_K I (hC _ _ t)⟩) G.T.bmain hF hb (λH hO hS=>Y w H a ns m hO hS) λH e U=>hCX w H B e U
def pZ(K:Ak)(tq:Addr->Option Str):Sp:=λh H Q E=>(∀p q,tq p=So q->TbH H p q)/\spLaw K h H Q E
section
variable{P2:Addr}{q2:Str}
def JsA{SP:Str}{t:Cx->Hp->L2.TS}(F:Ef)(o:fd.code=.ref c)(B:QbU)(h1:tq Pt=So (qual++".<locals>."++"<lambda>"))(h2:tq P2=So q2)(S:FnScope N [SP] B9)(hM:∀i∈M,1<=i)(hN:1<=Yv)
  (m:∀(X:Cx)(A:Bg)(H0:Hp),Ctx X An N 'ū'.names->Room j A->HX X 'ū'.names->LamX X->TbH X.H₀ P2 q2->PlO H0->PSs X Dh (t X H0))
  (ht:∀(X:Cx)(H0 H:Hp)(Z:Cg)(D:Ends)(ns:A0),X.K=K->AX<=63->EnvOk K M H0 H Z (JG Yv Qc6)->(∀W,D.rt B0 W)->t X H0 D Z H):
  FnOk P w K mg base Ci (j+1) f fd [SP] (pZ K tq):=by
 obtain⟨oc,od,kV,doc,pm,an,v,ct,Y,rfl,lk,C⟩:=F.ex;obtain rfl:v=.ref c:=o;refine sN lk C S (λvs H Q E h=>?_) (λA I s H vs Q E U h=>?_)
 ·obtain⟨_,a,ns,rfl,_⟩:=h;rfl
 ·obtain⟨L,a,ns,rfl,hs,hl,k⟩:=h;obtain⟨z,u,t1,t2⟩:=L _ _ h1;refine⟨_,m _ _ (pl H) (zS S U) U NT ⟨c,Pt,z,u,rfl,B,t1,t2⟩ (L _ _ h2) JpZ,ht _ (pl H) H _ _ ns rfl hl ?_ k⟩;have r:=oP (K:=K) (d:=Pl) (M:=M) (H:=H) rfl (J:=Qc6) (vs:=Cv) hN hM ⟨_,_,rfl,⟨a,_,rfl,hs,Jge ns⟩,rfl⟩;exact⟨Jnh,r.len,r.read,λq d hq hd=>by
   obtain⟨l,g1,g0,g2⟩:=r.own q d hq hd;refine⟨l,g1,?_,g2⟩;unfold pl;rw[g0],r.apart⟩
end
structure Prt(K:Ak)(H:Hp)(a:Addr)(d:D)(L:A7):Prop where
 mem:a∈L
 owc:OwC L H
 npl:∀l∈L,∀o,H l=So o->plK o=Fo
 rep:∀W,(∀l∈L,W l=H l)->SameP H W->Rep K W d AE
def tLaw(X:Cx)(H0:Hp)(R:Fm->Prop):L2.TS:=λD Z H=>∃O,EnvOk X.K [] H0 H Z O/\R O/\∀W,D.rt B0 W
section
variable{U:Ae}{rest body:BI}{a:Bs}
def Jro{R:Fm->Prop}(h1:PS X st (tSB X Fo U bc [] H0 a))(t:Qi):PSs X (st::rest) (tLaw X H0 λO=>∃h,exO Fo U bc a O=.ok .nx h/\R h):=by refine PSs.weak (gH h1 t) λD Z H l=>?_;obtain⟨O,e,⟨h,r,o⟩,m⟩:=l;refine D7;rw[r];exactλq W u _=>⟨h,u,o,m⟩
def env0(s:Same H0 H)(l:Z.length=O.length)(r:ReadOk K H Z O):EnvOk K [] H0 H Z O:=
 ⟨s,l,λj d _ h=>by show∃v,_/\Rep K eV d v;rw[vB];exact r j d h,λj d m=>by simp at m,λj _ _ _ _ m=>by simp at m⟩
variable{is io ip ij ia:Nat}{pt pp pi:Px}{xo:Str}{pf pr pc:Pos}{e6 tg iter:Expr}{s7 s8:Stmt}{kc:Nat}
end
end Rd
namespace Pu
open PySem
variable{α:Type}{e a src c as:Px}{J:Aq}{p:Bool}{r:Rs D}
section
variable(i j:Int)(x y:Str)(xs ys:Aq)(a b:D)(p q:Bool)
@[simp]def o_neg:op1 .neg AZ=.ok (.int (-i)):=rfl
@[simp]def o_not:op1 .not Cq=.ok (.bl !p):=rfl
@[simp]def JwS:op1 .truth Cq=.ok Cq:=rfl
@[simp]def o_lenT:op1 .len Bm=.ok (.int Ah):=rfl
@[simp]def o_lenL:op1 .len AH=.ok (.int Ah):=rfl
@[simp]def o_tupL:op1 .tuple AH=.ok Bm:=rfl
@[simp]def o_tupT:op1 .tuple Bm=.ok Bm:=rfl
@[simp]def o_listL:op1 .list AH=.ok AH:=rfl
@[simp]def o_listT:op1 .list Bm=.ok AH:=rfl
@[simp]def o_enumT:op1 .enum Bm=.ok Qbd:=rfl
@[simp]def o_enumL:op1 .enum AH=.ok Qbd:=rfl
@[simp]def o_rowsL:op1 .rows AH=.ok AH:=rfl
@[simp]def o_rowsT:op1 .rows Bm=.ok Bm:=rfl
@[simp]def Jws:D.walk AH=.ok xs:=rfl
@[simp]def JvY:D.walk Bm=.ok xs:=rfl
@[simp]def JvT:op1 .asI AZ=.ok AZ:=rfl
@[simp]def o_isNn:op1 .isN .non=.ok B0:=rfl
@[simp]def o_isNl:op1 .isN AH=.ok Bq:=rfl
@[simp]def o_notNn:op1 .notN .non=.ok Bq:=rfl
@[simp]def o_notNl:op1 .notN AH=.ok B0:=rfl
theorem Jmg(n:Nat)(h:n<=1000):op1 .range cL=.ok (.lst (upTo 0 n)):=by
 have:midI n=To:=by simp only[midI,Zc,Zs];lia
 show(if midI n=To then Rs.ok (D.lst (upTo 0 (n:Int).toNat))else .sk)=_;rw[if_pos this,gF]
@[simp]def mO:op2 .add AZ BS=.ok (.int (i+j)):=rfl
@[simp]def JwT{i j:Int}{k:Int->Int->Rs D}:onII AZ BS k=k i j:=rfl
@[simp]def o_sub:op2 .sub AZ BS=.ok (.int (i-j)):=rfl
@[simp]def o_mul(h:smallI i||smallI j):op2 .mul AZ BS=.ok (.int (i*j)):=if_pos h
def JuY(h:Ah+BU<=lineD):op2 .add Bm QaU=.ok (.tup (xs++ys)):=if_pos h
@[simp]def o_lt:op2 .lt AZ BS=.ok (.bl (decide (i<j))):=rfl
@[simp]def o_le:op2 .le AZ BS=.ok (.bl (decide (i<=j))):=rfl
@[simp]def o_gt:op2 .gt AZ BS=.ok (.bl (decide (j<i))):=rfl
@[simp]def o_ge:op2 .ge AZ BS=.ok (.bl (decide (j<=i))):=rfl
def o_eq(h:a.dep<=20)(h':b.dep<=20):op2 .eq a b=.ok (.bl (a.eqv b)):=if_pos (by simp[JZ,h,h'])
def o_ne(h:a.dep<=20)(h':b.dep<=20):op2 .ne a b=.ok (.bl (!a.eqv b)):=if_pos (by simp[JZ,h,h'])
@[simp]def o_eqS:op2 .eq Cu Hc=.ok (.bl (x==y)):=rfl
@[simp]def o_neS:op2 .ne Cu Hc=.ok (.bl (!(x==y))):=rfl
@[simp]def iN:op2 .eq AZ BS=.ok (.bl (i==j)):=rfl
@[simp]def o_neI:op2 .ne AZ BS=.ok (.bl (!(i==j))):=rfl
@[simp]def o_eqB:op2 .eq Cq Qay=.ok (.bl (p==q)):=rfl
@[simp]def o_neB:op2 .ne Cq Qay=.ok (.bl (!(p==q))):=rfl
@[simp]def o_idxT:op2 .idx Bm AZ=Rs.ofOpt (atD xs i):=rfl
@[simp]def JvK:op2 .idx AH AZ=Rs.ofOpt (atD xs i):=rfl
@[simp]def Jms:op2 .zip Bm QaU=.ok Pf:=rfl
theorem atN(n:Nat)(h:n<Ah):atD xs (n:Int)=So xs[n]:=by
 have f:(n:Int)<Ah:=by lia
 have l:(0:Int)<=n:=by lia
 simp[atD,ixn,f,l,h]
@[simp]def at0:atD (a::xs) 0=So a:=by have:=atN (a::xs) 0 Af;simpa using this
@[simp]def at1:atD (a::b::xs) 1=So b:=by have:=atN (a::b::xs) 1 Af;simpa using this
@[simp]def at2(c:D):atD (a::b::c::xs) 2=So c:=by have:=atN (a::b::c::xs) 2 Af;simpa using this
@[simp]def ofSome(a:α):Rs.ofOpt (So a)=.ok a:=rfl
end
section
variable(U:Ae)(O:Fm)
@[simp]def uH(i:Nat):evD U CD O=match O[i]? with
  |some (So d)=>.ok d
  |_=>.sk:=rfl
@[simp]def qS(d:D):evD U (.con d) O=.ok d:=rfl
@[simp]def e_un(o:O1)(a:Px):evD U (.un o a) O='ű'.bind (op1 o):=rfl
@[simp]def e_bi(o:O2)(a b:Px):evD U (.bi o a b) O='ű'.bind λx=>(evD U b O).bind λy=>op2 o x y:=rfl
@[simp]def yX(a b:Px):evD U (.and a b) O='ű'.bind λx=>match x with
  |.bl To=>evD U b O
  |.bl Fo=>.ok Bq
  |_=>.sk:=rfl
@[simp]def e_or(a b:Px):evD U (.or a b) O='ű'.bind λx=>match x with
  |.bl To=>.ok B0
  |.bl Fo=>evD U b O
  |_=>.sk:=rfl
@[simp]def e_ite(c a b:Px):evD U (.ite c a b) O='Ժ'.bind λx=>match x with
  |.bl To=>evD U a O
  |.bl Fo=>evD U b O
  |_=>.sk:=rfl
@[simp]def e_nil:evD U .nil O=.ok Hl:=rfl
@[simp]def rD(a as:Px):evD U (.cons a as) O='ű'.bind λx=>'Ǚ'.bind λy=>y.asL.bind λJ=>.ok (.lst (x::J)):=rfl
@[simp]def pY(as:Px):evD U (.tup as) O='Ǚ'.bind λy=>y.asL.bind λJ=>if Ac<=lineD then .ok (.tup J)else .sk:=rfl
@[simp]def e_dis(as:Px):evD U (.dis as) O='Ǚ'.bind λy=>y.asL.bind λJ=>if Ac<=lineD then .ok BL else .sk:=rfl
@[simp]def mT(f:Nat)(as:Px):evD U (.call f as) O='Ǚ'.bind λy=>y.asL.bind λJ=>U f J:=rfl
@[simp]def e_sl(a lo hi:Px):evD U (.sl a lo hi) O='ű'.bind λx=>(evD U lo O).bind λl=>l.bound.bind λl=>(evD U hi O).bind λh=>h.bound.bind λh=>match x with
  |.tup J=>.ok (.tup Mu)
  |.lst J=>.ok (.lst Mu)
  |.str x=>if x.length<=20000 then .ok (.str Vo)else .sk
  |_=>.sk:=rfl
@[simp]def lF(a:Px):evD U (.walk a) O='ű'.bind λx=>x.walk.bind λJ=>.ok BL:=rfl
def rG(b:Nat)(src c e:Px):evD U (.comp b src c e) O='ѳ'.bind λs=>s.asL.bind λJ=>if Ac<=lineD then(JX b Yj 'Ո' O J).bind λf=>.ok (.lst f)else .sk:=rfl
end
@[simp]def nF(J:Aq):D.asL BL=.ok J:=rfl
@[simp]def JgA:D.bound .non=.ok No:=rfl
@[simp]def Jgq(i:Int):D.bound AZ=.ok (So i):=rfl
section
variable(U:Ae)(O:Fm)
@[simp]def ans_nx:Jd (.ok aG)=.ok .non:=rfl
@[simp]def Jwr(d:D):Jd (.ok EA)=.ok d:=rfl
@[simp]def JvO:Jd .sk=.sk:=rfl
@[simp]def ans_ex(c:Str):Jd (.ex c)=.ex c:=rfl
@[simp]def x_skip:exD U .skip O=.ok aG:=rfl
@[simp]def JU(a b:Sx):exD U KP O=(exD U a O).bind λr=>match r with
  |(.nx,env2)=>exD U b env2
  |r=>.ok r:=rfl
@[simp]def yH(m:Bool)(i:Nat)(e:Px):exD U (.set m i e) O='Ɵ'.bind λd=>if m&&!d.imm then .sk else .ok Qcw:=rfl
@[simp]def x_own(i:Nat)(e:Px):exD U (.own i e) O='Ɵ'.bind λd=>match d with
  |.lst J=>if !imms J then .sk else .ok fZ
  |_=>.sk:=rfl
@[simp]def x_app(m:Bool)(i:Nat)(e:Px):exD U (.app m i e) O=match O[i]? with
  |some (So (.lst J))=>'Ɵ'.bind λd=>if(m&&!d.imm)||!decide (Ac<lineD)then .sk else .ok (.nx,O.set i (So (.lst (J++[d]))))
  |_=>.sk:=rfl
@[simp]def x_ext(m:Bool)(i:Nat)(e:Px):exD U (.ext m i e) O=match O[i]? with
  |some (So (.lst J))=>'Ɵ'.bind λy=>y.asL.bind λb=>if(m&&!imms b)||!decide (Ac+b.length<=lineD)then .sk else .ok (.nx,O.set i (So (.lst (J++b))))
  |_=>.sk:=rfl
@[simp]def Jqr(t:Bool)(i:Nat):exD U (.ownD t i) O=.ok VY:=rfl
@[simp]def x_retF(i:Nat):exD U (.retF i) O=match O[i]? with
  |some (So (.dct t Fo ks vs))=>.ok (.rt SK,O)
  |_=>.sk:=rfl
@[simp]def x_put(m t':Bool)(i:Nat)(k v:Px):exD U (.put m t' i k v) O=match O[i]? with
  |some (So (.dct t Fo ks vs))=>(evD U v O).bind λy=>(evD U k O).bind λx=>if(m&&!y.imm)||!(t==t')||!keyD t x||!decide (Bh<1000)then .sk else .ok (.nx,O.set i (So (.dct t Fo (putD x y ks vs).1 (putD x y ks vs).2)))
  |_=>.sk:=rfl
@[simp]def x_raise(c:Str)(p:Px):exD U (.raise c p) O='Ơ'.bind λd=>if lK d then .ex c else .sk:=rfl
def x_whl(n:Nat)(c:Px)(b:Sx):exD U (.whl n c b) O=whlL Yj (exD U b) n O:=rfl
@[simp]def x_eff(e:Px):exD U (.eff e) O='Ɵ'.bind λ_=>.ok aG:=rfl
@[simp]def rN(e:Px):exD U FO O='Ɵ'.bind λd=>.ok EA:=rfl
@[simp]def vH(c:Px)(a b:Sx):exD U (.ite c a b) O='Ժ'.bind λx=>match x with
  |.bl To=>exD U a O
  |.bl Fo=>exD U b O
  |_=>.sk:=rfl
@[simp]def yK(m:Bool)(h:Aj)(f:Nat)(src:Px)(b:Sx):exD U (.loop m h f src b) O='ѳ'.bind λs=>s.asL.bind λJ=>if m&&(mutS b||!imms J)then .sk else forL h f (exD U b) J O:=rfl
@[simp]def x_brk:exD U .brk O=.ok (.bk,O):=rfl
end
def Jpo(ns:A0):deps DT=0:=by
 induction ns with
 |nil=>rfl
 |cons a t b=>simp[deps,D.dep,b]
def JoV(ns:A0):imms DT=To:=by
 induction ns with
 |nil=>rfl
 |cons a t b=>simp[imms,D.imm,b]
def JoJ(ns:Ag):imms (ns.map Y3)=To:=by
 induction ns with
 |nil=>rfl
 |cons a t b=>simp[imms,D.imm,b]
def Jwg(b:Nat)(c e:Fm->Rs D)(O:Fm):JX b c e O []=.ok []:=rfl
def Jcy(b:Nat)(c e:Fm->Rs D)(O:Fm)(d:D)(J:Aq){new:Fm}(f:kA b d=.ok new)(j:c (new++O)=.ok Cq){y:D}(h:p=To->e (new++O)=.ok y)
  {ys:Aq} (i:JX b c e O J=.ok ys):JX b c e O (d::J)=.ok (if p then y::ys else ys):=by cases p<;>simp[JX,f,j,i,h]
def Jep(c e:Fm->Rs D)(O:Fm)(f:Nat->D):∀(n lo:Nat),(∀k,lo<=k->k<lo+n->c (So DZ::O)=.ok B0/\e (So DZ::O)=.ok (f k))->
  JX 0 c e O ('伌'.map λk:Nat=>D.int k)=.ok ('伌'.map f)
 |0,lo,h=>rfl
 |n+1,lo,h=>by
  obtain⟨l,j⟩:=h lo (Zh _) Ad
  have i:=Jep c e O f n (lo+1) λk m o=>h k Ad Ad
  have b:kA 0 (D.int lo)=.ok [So (.int lo)]:=rfl
  have:=Jcy 0 c e O (.int lo) _ b (p:=To) l (λ_=>j) i
  simpa[List.range'_succ]using this
def JmD(n:Nat):upTo 0 n='ɼ'.map λk:Nat=>D.int k:=by simp[upTo,List.range_eq_range']
def JoO(n:Nat)(b:n<=1000):(upTo 0 n).length<=lineD:=by
 have h:(upTo 0 n).length=n:=by simp[upTo]
 rw[h];exact Zy b Ax
def Jil(U:Ae)(O:Fm)(ne e:Px)(n:Nat)(i:evD U ne O=.ok cL)(b:n<=1000)(f:Nat->D)(h:∀k,k<n->evD U e (So DZ::O)=.ok (f k)):
  evD U (.comp 0 (.un .range ne) Cb e) O=.ok (.lst ('ր'.map f)):=by have:=Jep (evD U Cb) 'Ո' O f n 0 λk j l=>⟨rfl,h k Ad⟩;rw[List.range_eq_range',rG,e_un,i,Rs.bo,Jmg n b,Rs.bo];show(if(upTo 0 n).length<=lineD then _ else _)=_;rw[if_pos (JoO n b),JmD,this];rfl
section
variable(U:Ae)(O:Fm)
def JB(e:Px):Jd (exD U FO O)=evD U e O:=by rw[rN];cases evD U e O<;>rfl
def Jm(e:Px)(rest:Sx)(b:evD U c O=.ok Cq):Jd (exD U (.seq (.ite c FO .skip) rest) O)=if p then evD U e O else Jd Kw:=by
 rw[JU,vH,b];cases p with
 |true=>simp only[Rs.bo,rN,if_true];cases evD U e O<;>rfl
 |false=>simp
def nA{i:Nat}{d:D}(rest:Sx)(b:evD U e O=.ok d):Jd (exD U Q8 O)=Jd (exD U rest Gq):=by rw[JU,yH,b];rfl
def uG{a:Sx}{env2:Fm}(rest:Sx)(h:exD U a O=.ok HD):Jd (exD U (.seq a rest) O)=Jd (exD U rest env2):=by rw[JU,h];rfl
def zA{b:Px}{q:Bool}(f:evD U a O=.ok Cq)(h:p=To->evD U b O=.ok Qay):evD U (.and a b) O=.ok (.bl (p&&q)):=by
 rw[yX,f];cases p with
 |true=>simpa using h rfl
 |false=>rfl
def lE{b:Px}{q:Bool}(f:evD U a O=.ok Cq)(h:p=Fo->evD U b O=.ok Qay):evD U (.or a b) O=.ok (.bl (p||q)):=by
 rw[e_or,f];cases p with
 |false=>simpa using h rfl
 |true=>rfl
def Jq(b:evD U a O=.ok Cq):evD U (.un .not a) O=.ok (.bl (!p)):=by rw[e_un,b];rfl
def JD(b:evD U a O=.ok Cq):evD U (.un .truth a) O=.ok Cq:=by rw[e_un,b];rfl
def Jh{o:O2}{b:Px}{x y z:D}(f:evD U a O=.ok x)(h:evD U b O=.ok y)(ho:op2 o x y=.ok z):evD U (.bi o a b) O=.ok z:=by rw[e_bi,f,Rs.bo,h,Rs.bo,ho]
def JC{o:O1}{x z:D}(b:evD U a O=.ok x)(ho:op1 o x=.ok z):evD U (.un o a) O=.ok z:=by rw[e_un,b,Rs.bo,ho]
def Jf{f:Nat}{x:D}(h:evD U a O=.ok x)(b:U f [x]=r):evD U (.call f (.cons a .nil)) O=r:=by rw[mT,rD,h];exact b
end
def JK(f:α->Bool):∀J:List α,sC (J.map λd=>.bl (f d))=So (J.map f)
 |[]=>rfl
 |d::J=>by simp[sC,JK f J]
mutual
def D.small:D->Bool
 |.str x=>decide (Yo<=1000)
 |.tup J=>decide (Ac<=1000)&&tY J
 |.lst J=>decide (Ac<=1000)&&tY J
 |_=>To
def tY:List D->Bool
 |[]=>To
 |d::J=>D.small d&&tY J
end
structure Nice(n:Nat)(d:D):Prop where
 s:d.small=To
 p:d.dep<=n
def zK{n:Nat}(h:n<=1000):n<=lineD:=Zy h Ax
def mE(U:Ae)(O:Fm)(h:evD U as O=.ok BL)(b:Ac<=1000):evD U (.tup as) O=.ok G9:=by rw[pY,h,Rs.bo,nF,Rs.bo,if_pos (zK b)]
def Jwh(U:Ae)(O:Fm)(h:evD U as O=.ok BL)(b:Ac<=1000):evD U (.dis as) O=.ok BL:=by rw[e_dis,h,Rs.bo,nF,Rs.bo,if_pos (zK b)]
def Jj(U:Ae)(O:Fm){d:D}(h1:evD U a O=.ok d)(b:evD U as O=.ok BL):evD U (.cons a as) O=.ok (.lst (d::J)):=by rw[rD,h1,Rs.bo,b];rfl
def Jr(U:Ae)(O:Fm){f:Nat}(h:evD U as O=.ok BL)(b:U f J=r):evD U (.call f as) O=r:=by rw[mT,h];exact b
def JlP{xs ys:Aq}(h:Ah+BU<=1000):op2 .add Bm QaU=.ok (.tup (xs++ys)):=JuY _ _ (zK h)
def Jmm(U:Ae)(O:Fm){i:Nat}{d:D}(hi:O[i]? =So (So BL))(b:evD U e O=.ok d)(f:Ac<=1000):
  exD U (.app Fo i e) O=.ok (.nx,O.set i (So (.lst (J++[d])))):=by have:Ac<lineD:=iF f Ax;rw[x_app,hi];simp only[b,Rs.bo,rC,nM,ZD this,kM,Zo,ZN]
def JjK(x:Str):∀l:List Str,x∉l->(insS x l).length=Yr+1
 |[],_=>rfl
 |y::ys,h=>by
  simp only[Ze,not_or]at h
  unfold insS
  split
  ·next e=>exact absurd (by simpa using e) h.1
  ·split
   ·rfl
   ·simp[JjK x ys h.2]
def qB (l:Ag):Bool:=decide ((Jx l).length<Yr)
def JfA:∀l:List Str,l.Nodup->(Jx l).length=Yr
 |[],_=>rfl
 |x::xs,h=>by
  obtain⟨b,f⟩:=vA.mp h
  unfold Jx
  rw[JjK x _ (λz=>b ((JO xs x).mp z)),JfA xs f]
  rfl
def Jih{l:Ag}(h:l.Nodup):qB l=Fo:=by simp[qB,JfA l h]
def Jbs(c e:Fm->Rs D)(O:Fm)(f:α->D)(p:α->Bool)(g:α->D):∀b:List α,(∀r∈b,c Fe=.ok (.bl (p r))/\(p r=To->e Fe=.ok (g r)))->JX 0 c e O QaV=.ok ((b.filter p).map g)
 |[],_=>rfl
 |r::b,h=>by
  have l:=Jbs c e O f p g b λx j=>h x (by simp[j])
  have i:=h r Af
  have:=Jcy 0 c e O (f r) QaV (new:=[So (f r)]) rfl i.1 i.2 l
  rw[Zg,this]
  cases m:p r<;>simp[iD,m]
def Jbd(c e:Fm->Rs D)(O:Fm)(f1 f2:α->D)(p:α->Bool)(g:α->D):∀rs:List α,(∀r∈rs,c Ft=.ok (.bl (p r))/\(p r=To->e Ft=.ok (g r)))->JX 2 c e O 'χ'=.ok ('ʃ'.map g)
 |[],_=>rfl
 |r::rs,h=>by
  have i:=Jbd c e O f1 f2 p g rs λx f=>h x (by simp[f])
  have b:=h r Af
  have:=Jcy 2 c e O (.tup [f1 r,f2 r]) 'χ' (new:=[So (f1 r),So (f2 r)]) rfl b.1 b.2 i
  rw[Zg,this]
  cases j:p r<;>simp[iD,j]
def JmN(U:Ae)(O:Fm){rs:AD}(f:α->D)(p:α->Bool)(g:α->D)(i:ML)(b:rs.length<=1000)
  (h:∀r∈rs,evD U c Fe=.ok (.bl (p r))/\(p r=To->evD U e Fe=.ok (g r))):evD U Qaj O=.ok (.lst ('ʃ'.map g)):=by rw[rG,i,Rs.bo,nF,Rs.bo,if_pos (by rw[Zj];exact zK b),Jbs _ _ O f p g rs h];rfl
def Jpj(U:Ae)(O:Fm){rs:AD}(f1 f2:α->D)(p:α->Bool)(g:α->D)(f:ME)(b:rs.length<=1000)
  (h:∀r∈rs,evD U c Ft=.ok (.bl (p r))/\(p r=To->evD U e Ft=.ok (g r))):evD U Qak O=.ok (.lst ('ʃ'.map g)):=by rw[rG,f,Rs.bo,nF,Rs.bo,if_pos (by rw[Zj];exact zK b),Jbd _ _ O f1 f2 p g rs h];rfl
def yV(rs:AD):rs.filter 'ɶ'=rs:=by simp
def oF(U:Ae)(O:Fm){rs:AD}(f:α->D)(g:α->D)(i:ML)(b:rs.length<=1000)
  (h:∀r∈rs,evD U e Fe=.ok (g r)):evD U O7 O=.ok Nw:=by rw[JmN U O f 'ɶ' g i b λr j=>'仙',yV]
def JpB(U:Ae)(O:Fm){rs:AD}(f1 f2:α->D)(g:α->D)(f:ME)(b:rs.length<=1000)
  (h:∀r∈rs,evD U e Ft=.ok (g r)):evD U O6 O=.ok Nw:=by rw[Jpj U O f1 f2 'ɶ' g f b λr i=>'仚',yV]
def Jsu(d:D)(h:d.dep<=20):op2 .ne d d=.ok Bq:=by rw[o_ne _ _ h h,vZ d 'c'];rfl
section
variable(U:Ae)(O:Fm)
def nD{i:Nat}{d:D}(rest:Sx)(b:evD U e O=.ok d):exD U Q8 O=exD U rest Gq:=by rw[JU,yH,b];rfl
def n_if{b:Bool}(A B:Sx)(f:evD U c O=.ok Bt):exD U (.ite c A B) O=if b then exD U A O else exD U B O:=by rw[vH,f];cases b<;>rfl
def e_if{x y:Px}{b:Bool}(f:evD U c O=.ok Bt):evD U (.ite c x y) O=if b then evD U x O else evD U y O:=by rw[e_ite,f];cases b<;>rfl
end
def JhO(x y:Str):op2 .eq Cu Hc=.ok (.bl (x==y)):=by rw[o_eq _ _ (by simp[D.dep]) (by simp[D.dep])];rfl
def Jjc(n:Nat)(h:n<=1000):op1 .range (.int (n:Int))=.ok (.lst ('ɼ'.map λk:Nat=>D.int k)):=by rw[Jmg n h,JmD]
def runR (U:Ae) (bc:AG) (sl i:Nat) (b1 b2:Bs) (J:Aq) (a:Nat):Rs D:=
 match exO Fo U bc b1 (JG sl J)with
 |.ok .nx O=>if plE O then(match exO Fo U bc b2 (O.set i Ms)with
  |.ok (.rt d) _=>.ok d
  |.ex c _=>.ex c
  |_=>.sk)else .sk
 |.ex c _=>.ex c
 |_=>.sk
noncomputable def datD:D->Bool
 |.non=>To
 |.bl _=>To
 |.int _=>To
 |.str _=>To
 |.tup J=>dats J
 |_=>Fo
where dats:List D->Bool
 |[]=>To
 |d::J=>datD d&&dats J
open Classical in
noncomputable def pB (R:List D->Nat->Rs D) (f:D->Rs D) (J:Aq):Rs D:=
 if h:datD.dats J=To/\∃r,∀a,'ճ'.bind f=r then h.2.choose else .sk
def JfI{R:List D->Nat->Rs D}{f:D->Rs D}(i:datD.dats J=To)(h:∀a,'ճ'.bind f=r):pB R f J=r:=by have b:datD.dats J=To/\∃r,∀a,'ճ'.bind f=r:=⟨i,r,h⟩;unfold pB;rw[dif_pos b,<-b.2.choose_spec 0,h 0]
def JeJ{R:List D->Nat->Rs D}{f:D->Rs D}{P:D->Prop}{E:Dc}(h:(pB R f J).Good P E):datD.dats J=To/\∀a,('ճ'.bind f).Good P E:=by
 unfold pB at h;split at h
 ·rename_i z;refine⟨z.1,λa=>?_⟩;rw[z.2.choose_spec a];exact h
 ·exact h.elim
def RunO(i:Nat)(R:Fm->Prop)(O:Fm):Prop:=plE O=To/\∀a,R (O.set i Ms)
def hJ{n:Nat}(h:n<=20000):n<=lineD:=Zy h Ax
def Jpg(U:Ae)(O:Fm){rs:AD}(f:α->D)(p:α->Bool)(g:α->D)(i:ML)(b:rs.length<=20000)
  (h:∀r∈rs,evD U c Fe=.ok (.bl (p r))/\(p r=To->evD U e Fe=.ok (g r))):evD U Qaj O=.ok (.lst ('ʃ'.map g)):=by rw[rG,i,Rs.bo,nF,Rs.bo,if_pos (by rw[Zj];exact hJ b),Jbs _ _ O f p g rs h];rfl
def JkP(U:Ae)(O:Fm){rs:AD}(f1 f2:α->D)(p:α->Bool)(g:α->D)(f:ME)(b:rs.length<=20000)
  (h:∀r∈rs,evD U c Ft=.ok (.bl (p r))/\(p r=To->evD U e Ft=.ok (g r))):evD U Qak O=.ok (.lst ('ʃ'.map g)):=by rw[rG,f,Rs.bo,nF,Rs.bo,if_pos (by rw[Zj];exact hJ b),Jbd _ _ O f1 f2 p g rs h];rfl
def JS(U:Ae)(O:Fm){rs:AD}(f:α->D)(g:α->D)(i:ML)(b:rs.length<=20000)
  (h:∀r∈rs,evD U e Fe=.ok (g r)):evD U O7 O=.ok Nw:=by rw[Jpg U O f 'ɶ' g i b λr j=>'仙',yV]
def Jlz(U:Ae)(O:Fm){rs:AD}(f1 f2:α->D)(g:α->D)(f:ME)(b:rs.length<=20000)
  (h:∀r∈rs,evD U e Ft=.ok (g r)):evD U O6 O=.ok Nw:=by rw[JkP U O f1 f2 'ɶ' g f b λr i=>'仚',yV]
end Pu
namespace Rd
open PySem PySem.Spec PyProof.Rows L2 Pu
section
variable{X:Cx}{U:Ae}{p:Px}{pos:Pos}
theorem Jst{z:Str}{k:Nat}{vs:CY}(h:PJV X U vs p):PJV X U (.Constant aV k pos::vs) (.cons (.con aV) p):=by
 intro Y s Z H O m Q J y I r f u B A;simp only[evD,Rs.bo]at f;cases i:evD U p O with
 |ex c=>rw[i]at f;cases f
 |sk=>rw[i]at f;cases f
 |ok q=>
  rw[i]at f;cases q with
  |lst t=>
   simp only[Pu.D.asL,Rs.bo]at f;cases f;obtain⟨a,b,j,v,rfl⟩:=JeV u;simp only[sG]at j;split at j
   ·cases j;rw[JL]at B;refine Calls.Constant_str ⟨z,_,rfl,?_,?_⟩
    ·rw[JL];show _<=16777216;lia
    ·exact h Y _ Z H O (m++z) Q t b Hm r i v (by rw[JL];lia) λw o x l=>by rw[JgF];exact A w o x l
   ·cases j
  |_=>cases f
end
section
variable{X:Cx}{G:Gw}{N:Ag}{nm:Bd}{M:Aj}{H0:Hp}{U:Ae}{i j:Nat}{x y:Str}{px py pos:Pos}
def addE{h:Type}{a:Str}{f:Pu.D->Rs h}:(op2 .add Nj (.str a)).bind f=if a.length<=lineD then f (.str a)else .sk:=by
 show(if 0+a.length<=lineD then Rs.ok (D.str (YM++a))else .sk).bind f=_;rw[iJ];have b:Str.empty++a=a:=by cases a with|mk c=>show Str.mk (#[]++c)=_;simp
 rw[b];split<;>rfl
theorem aAugK{v:Expr}{W:Px}{ps:Pos}(C:Al)(h:Eh)(r:(chkV N nm j y&&!M.contains j)=To)(hv:PE X v (tI X U W))(h2:sepP M W=To)
  (ha:∀B E m,augStore (.Name y py) B E m=(do holding [m,B,E] (setItem B E m);release [m,B,E] [];pure .next)):
  PS X (.AugAssign (.Subscript FD (.Name y py) ps) .Add v pos) (tS X U M H0 (.put Fo Fo i (.var j) (.bi .add (.bi .add (.con Nj) (.bi Vc CD (.var j))) W))):=by
 obtain⟨g1,g2,g3,g4,g5⟩:=chkO.at h;obtain⟨d1,d2⟩:=plainN.d g3;simp only[chkV,Zc,ZA,kB,vQ,xJ]at r;obtain⟨⟨⟨k1,k2⟩,k3⟩,k4⟩:=r;obtain⟨d3,d4⟩:=plainN.d k3;have hu:=C.un;refine PS.weak (JtD Ad (iC (by rw[C.hN];exact g1) IU d1 d2) (iC (by rw[C.hN];exact k1) (C.vis y k2) d3 d4) (oE hv) Jhm ha) λD Z H P=>?_;obtain⟨O,e,h⟩:=P;simp only[exD]at h;cases q:O[i]? with
 |none=>rw[q]at h;exact h.elim
 |some o=>
  rw[q]at h;cases o with
  |none=>exact h.elim
  |some d=>
   cases d with
   |dct t z ks u=>
    cases z with
    |true=>exact h.elim
    |false=>
     simp only[evD,q]at h;obtain⟨l,A,h0,hz,xs,hl,Y⟩:=e.own i _ g4 q;cases L:O[j]? with
     |none=>rw[L]at h;exact h.elim
     |some oj=>
      rw[L]at h;cases oj with
      |none=>exact h.elim
      |some dk=>
       simp only[Rs.bo,Rs.bind_assoc]at h;rw[show op2 'ſ' (.dct t Fo ks u) dk=if t=Fo/\keyD t dk=To then Rs.ofOpt (oA dk ks u)else .sk from rfl]at h;split at h
       ·rename_i r;obtain⟨rfl,r⟩:=r;obtain⟨k,rfl⟩:=uO r;obtain⟨vj,w,rj⟩:=e.read j _ k4 L;have hy:=lO rj;subst hy;obtain⟨kvs,w1,rfl,rfl⟩:=hl;have lk:=look_of zG (k:=k) Y;cases ql:oA ET (kvs.map λp=>keyV p.1) u with
        |none=>rw[ql]at h;exact h.elim
        |some d=>
         rw[ql]at h lk;obtain⟨v,ev,rv⟩:=lk;simp only[Rs.ofOpt,Rs.bo]at h;cases d with
         |str a=>
          rw[addE]at h;split at h;rotate_left
          ·exact h.elim
          refine⟨.ref l,A,_,w,l,v,rfl,.inl ⟨kvs,k,.inl w1,rfl,ev.symm⟩,Jv M 0 O,Ow M O Z,e.ows,b7,?_⟩;rw[Jw U O h2];refine(Rs.gB.mp h).mono (λdv f v2 s F kk1 r1=>?_) λc z=>z.mono Z6;cases dv with
          |str b=>
           obtain rfl:v=.str a:=rv;obtain rfl:v2=.str b:=r1;rw[show op2 .add (.str a) (.str b)=if a.length+b.length<=lineD then .ok (.str (a++b))else .sk from rfl]at f;split at f
           ·rename_i I;simp only[Rs.bo]at f;split at f
            ·exact f.elim
            ·rename_i hc;have hc:BG<1000:=by simpa[r]using hc
             have w2:s l=So A3:=F _ _ w1;refine⟨a,b,rfl,rfl,xI I,_,DPut.k (k:=k) w2 (by show _<16777216;lia),?_⟩;have e1:=e.grow F;have f2:Same CN (hid BF s):=(Fz.sm F).hid;obtain⟨p1,p2⟩:=wY (K:=X.K) (H:=hid BF s) zG (k:=k) (v:=V.str (a++b)) (d:=.str (a++b)) rfl (Y.mono f2);have J:∀ob,OwnIs X.K (hid BF s) (upd s l ob) l (.dct Fo Fo (putD ET (.str (a++b)) (kvs.map λp=>keyV p.1) u).1 (putD ET (.str (a++b)) (kvs.map λp=>keyV p.1) u).2)->D.nx Z (upd s l ob):=λob nw=>by obtain⟨e3,f4⟩:=e1.change (o:=ob) g4 q A nw;exact f _ _ e3 ⟨(Fz.sm F).trans f4,λz=>by cases z⟩
             refine J _ ?_;exact QbZ
           ·exact f.elim
          |_=>exact f.elim
         |_=>exact h.elim
       ·exact h.elim
   |_=>exact h.elim
end
end Rd
namespace Rd
open PySem PySem.Spec PyProof.Rows L2 Pu PySem.W
variable{X:Cx}{N:Ag}{G:Gw}{nm:Bd}{pos px:Pos}{H H0:Hp}{x:Str}{i:Nat}{P:Bk}{w:Bc}{a:Expr}{bc:AG}{mg:Bf}{base:Heap}
def tIt (X:Cx) (U:Ae) (p:Px):TI:=λZ H R=>∃O,ReadOk X.K H Z O/\(evD U p O).Good (λh=>∃t ks f,h=.dct t To ks f/\∀d o b W,Same H W->DKo W d t o ks b->Reps X.K W f b->R QbJ W) Bz
section
variable{U:Ae}{pa:Px}{ap tp:Pos}{elts:CY}{kk:Nat}
def Jnz(ha:AJ)(A:'г' (attributeBase a "items" Se CS=eval a Se) Ai)(hl:'г' ((ap.endLine==Yy)=To) Ai):
  PI X Tv (.Call XJ [] [] pos) (tIt X U pa):=by
 rintro Y s Z H R I⟨O,r,h⟩;refine wpAny_Call_method A rfl hl zW PySem.F.slot_dict_items PySem.F.type_dict_items (thn (ha Y s Z H (λv W=>∃(t:Bool)(ks:FX)(d:Addr)(o:Obj)(f:Aw),v=.ref d/\DKo W d t o ks f/\R QbJ W) I Dp) λu s1 J=>?_)
 ·refine h.imp λdd hd v W s1 rv=>?_;obtain⟨t,ks,vs,rfl,z⟩:=hd;obtain⟨d,f,rfl,M,q2⟩:=rv;obtain⟨o,l⟩:=DKo.of M;exact⟨t,ks,d,o,f,rfl,l,z d o f W s1 l q2⟩
 obtain⟨v,H1,m,ru,t,ks,d,o,f,e1,l,z⟩:=J;subst e1;cases(show u=Value.ref d from ru);obtain⟨y,E,gd,gm,C,F,B,g2,g3⟩:=JfH m l;refine⟨⟨o,y,E⟩,λb e=>by cases e;exact⟨o,y,gd⟩,?_⟩;refine zR rfl (PySem.evalArgs_none ?_);refine JoK y E gm ?_;refine Joo El (Zd _ y) B ?_;have L:∀b ob,s1.heap.get? b=So ob->((s1.heap.push {cls:=.type "dict_items",data:=.fields #[.ref d]}).push {cls:=.type "dict_itemiterator",data:=.fields #[.none,.bool Fo,.ref d,.int 0 0,.int C.size 0,.int F 0,.none,.none]}).get? b=So ob:=λb ob q=>Zd _ (Zd _ q);refine⟨_,[_],_,_,H1,rfl,m.kept (t':=YY) L,JoF t d _ o C F B,⟨.none,.none,Zf _ rfl⟩,λb A=>?_,z⟩;have j:AC<=b:=by
  have e:b=(s1.heap.push {cls:=.type "dict_items",data:=.fields #[.ref d]}).objs.size:=by simpa using A
  rw[e,ZP];exact jF _
 exact m.fpOk j (m.hok.fresh j)
end
section
variable{w:Bool}{U:Ae}
def JlQ{body:Bs}{M:Aj}{B:Nat}{D:Ends}{Z:Cg}{A:Hp}{O:Fm}{J:FX}{y:It}(e:EnvOk X.K [] H0 A Z O)(s1:SameP H A)(hmu:mutB body=Fo)
  (wk:∀W,SameP A W->(∀i,i<Ac->y.go i W)/\y.stop Ac W/\∀i x u,i<Ac->y.yld i W x u->Same W u/\∃d,J[i]? =So d/\Rep X.K u d x)
  (h:(forB M B FV J O).Good UE HN):
  ∃W9:Nat->Nat->L2.St->Hp->Prop,(∃m,W9 0 m Z A)/\∀i m Z H,W9 i m Z H->(y.stop i H/\D.nx Z H)\/(y.go i H/\∃Nn:L2.St->Hp->Prop,(∀l W,Nn l W->∃I,I<m/\W9 BQ I l W)/\
   ∀x W,y.yld i H x W->gS X [] H0 M B x Z W λo r=>tSB X w U bc [] H0 body {D with nx:=Nn,ct:=Nn,bk:=D.nx} o r):=by
 have ch:∀{W:Hp},SameP H W->ChB C8 [] H [] W:=ChB.sp;have un:∀{L L':A7}{Ha Hb:Hp},ChB C8 L Ha L' Hb->SameP Ha Hb:=λz=>z.2 hmu;refine⟨λi m l W=>∃b,EnvOk X.K [] H0 W l b/\SameP A W/\i<=Ac/\m=Ac-i/\(forB M B FV eN b).Good UE HN,
  ⟨Ac,O,e,SameP.refl,yC _,rfl,by simpa using h⟩,?_⟩
 intro i m l W zz;obtain⟨b,e',c',hi,rfl,t⟩:=zz;obtain⟨w1,w2,w3⟩:=wk _ c';by_cases j:i<Ac
 ·refine .inr ⟨w1 i j,λo r=>∃I,I<Ac-i/\∃b,EnvOk X.K [] H0 r o b/\SameP A r/\i+1<=Ac/\I=Ac- BQ/\(forB M B FV Ib b).Good UE HN,λo r q=>q,λx r hy=>?_⟩;obtain⟨s2,d,hd,rd⟩:=w3 i x r j hy;rw[xV hd]at t;simp only[forB]at t;cases hb:kA B d with
  |sk=>rw[hb]at t;exact t.elim
  |ex c=>exact(mV hb).elim
  |ok F=>
   rw[hb]at t;have c2:=c'.trans (SameP.of s2);refine⟨b,d,F,e'.grow s2,by show Rep X.K (hid [] r) _ _;rw[vB];exact rd,hb,λσ3 e3 ow3=>⟨yB M F b,e3,(Rq.gB.mp t).imp (λf s Y=>?_) λ_ _ z=>z⟩⟩;cases f with
   |nx=>exactλv H4 E C=>XG
   |ct=>exactλv H4 E C=>XG
   |bk=>exactλv H4 E C=>Y v H4 E (ch (s1.trans (c2.trans (un C))))
   |rt d=>exact Y
 ·obtain rfl:i=Ac:=Nat.le_antisymm hi (Nat.le_of_not_lt j);rw[mR]at t;exact .inl ⟨w2,t l W e' (ch (s1.trans c'))⟩
def JeX:∀{ks vs:FX},Bh=AQ->Jg '亾'=To->Jg vs=To
 |[],[],_,_=>rfl
 |k::ks,v::vs,hl,h=>by
  simp only[zipD,Jg,Jl,Zc]at h⊢
  exact⟨h.1.2.1,JeX (Nat.succ.inj hl) h.2⟩
def DKo.sp{W:Hp}{d:Addr}{t:Bool}{o:Obj}{ks:FX}{xs:Aw}(s:Dj)(h:Il):DKo W d t o ks xs:=by cases t<;>obtain⟨b,q,j,f⟩:=h<;>exact⟨b,s _ _ q rfl,j,f⟩
variable{tg:Expr}{body:BI}{p:Px}{sb:Bs}{ts:Aj}{nt kk:Nat}{ap tp cp:Pos}{elts:CY}
def Jsw(C:Al)(A:K7)(B:PE X a FA)(I:PG X Tv (gS X [] H0 ts nt))(E:PSs X body (tSB X w U bc [] H0 sb))(f:mutB sb=Fo)
  (j:'г' (attributeBase a "items" Se CS=eval a Se) Ai) (hl:'г' ((ap.endLine==cp.line)=To) Ai)
  (hs:∀x,foldedSetIterable PV Se x=pure x:=by intro _;rfl):PS X (.For Tv PV body [] pos) (tSB X w U bc [] H0 (.loop ts nt (.un .items p) sb)):=by
 refine PS.weak (lT A YO (Jnz B j hl) I E hs) λD Z H u=>?_;obtain⟨O,e,h⟩:=u;refine Gk;simp only[exO,evD]at h;cases z:evD U p O with
 |sk=>rw[z]at h;exact h.elim
 |ex c=>rw[z]at h;exactλC W v s=>h C W Z v NV
 |ok d=>
  rw[z]at h;cases d with
  |dct t y ks b=>
   cases y with
   |false=>exact h.elim
   |true=>
    simp only[Rs.bo,op1]at h;split at h
    ·rename_i q;simp only[Zc]at q;refine⟨t,ks,b,rfl,λd o M Y l r m=>?_⟩;refine JlQ (e.grow l) (SameP.of l) f (λW sp=>?_) h;have F:=r.len;have L:=eA;have J:Jg b=To:=JeX (ks:=ks) (by rw[F,L]) q.1;exact Jpv (r.sp sp) (Reps.plain sp b J m) W (Same.refl W)
    ·exact h.elim
  |_=>exact h.elim
end
def tRd(X:Cx)(U:Ae)(bc:AG)(H0:Hp)(i:Nat)(b1 b2:Bs):L2.TS:=λD Z H=>∃O,EnvOk X.K [] H0 H Z O/\(exO Fo U bc b1 O).Good (λf b=>f=.nx/\plE b=To/\
 ∀a,(exO Fo U bc b2 (b.set i Ms)).Good (λf _=>∃d,f=.rt d/\∀v W,Same H0 W->Rep X.K W d v->D.rt v W) HN) HN
section
variable{U:Ae}{p pos':Pos}{s1:Stmt}{rest:BI}{b1 b2:Bs}
def Jvn(C:Al)(h0:A8)(hM:MakeS G)(hc:chkA N nm [] i x=To)(hg:gloB nm L3=To)(h1:PS X s1 (tSB X Fo U bc [] H0 b1))(l:PSs X rest (tSB X Fo U bc [] H0 b2))
  (hs:'г' (swapsWith MD Qax pos'.line Se=pure Fo) Ai):
  PSs X (s1::.Assign dJ MD pos'::rest) (tRd X U bc H0 i b1 b2):=by
 obtain⟨u,f,fd,ps,mk,F,J,B,I,L⟩:=hM.ex;have hG:=C.g;subst hG;obtain⟨A,g2,g3⟩:=chkA.at hc;obtain⟨M,l2⟩:=C.sto x g2;refine PSs.weak (gH h1 (gH (qG DJ (by rw[C.hN];exact A) M (JjO mk F J Gg B L .nil (nK (X:=X)) Ab) hs l2) l)) λD Z H y=>?_;obtain⟨O,e,h⟩:=y;refine⟨O,e,h.imp (λf m q=>?_) λ_ _ z=>z⟩;obtain⟨rfl,hp,l⟩:=q;intro E t e1 _ z j hz b hne;refine⟨z,j,u,rfl,Je,I,λW _ sp _ r=>dI⟩;have s1:Same t (upd (upd t j (.own z)) z (.ins u j [])):=λc o q=>by rw[Jc (Ji q hz),Jc (Ji q b)];exact q
 have Y:=e1.sp Af hp h0 ('乕'.trans (sp.sp Je));refine⟨_,Y.put Af (by show Rep X.K GT _ _;rw[vB];exact r),(l z).imp (λf s q=>?_) λ_ _ z=>z⟩;obtain⟨d,rfl,hd⟩:=q;exactλv H2 s2 r2 _=>hd v H2 s2 r2
end
def spR(K:Ak)(mg:Bf)(R:De):Sp:=λb H Q E=>PlO H/\∃J,Reps K H J b/\∀a,'ճ'.Good (λd=>∀v W,Same H W->Rep K W d v->Q v W) (λc=>∀C W,mg c=So AV->Same H W->E AV No W)
section
variable{K:Ak}{defs:B4}{bdefs:FY}{k:Nat}
def fn_rd{j:Nat}{qual:Str}{st:Stmt}{f:Addr}{fd:A6}{ps:Ag}{b1 b2:Bs}(F:Ef)(S:LL)(hp:Ar=1)(hpN:Ar<=Yv)
  (l:∀(X:Cx)(A:Bg)(H0:Hp),Ctx X An N 'ū'.names->Room j A->HX X 'ū'.names->PlO H0->PSs X Dh (tRd X B1 BY H0 i b1 b2)):
  FnOk P w K mg base Ci (j+1) f fd ps (λvs H Q E=>AQ=1/\spR K mg (runR B1 BY Yv i b1 b2) vs H Q E):=by
 obtain⟨oc,od,kV,doc,pm,an,Z,ct,W,rfl,lk,y⟩:=F.ex;refine sN lk y S (λvs H Q E h=>by rw[h.1,hp]) (λA M s H vs Q E O h=>?_);obtain⟨hl,h0,J,r,g⟩:=h;have ld:=Yx;refine⟨_,l _ _ H (zS S O) O NT h0,JG Yv J,oP (d:=Pl) rfl Ad (λi hi=>by simp at hi) r,?_⟩;unfold runR at g;cases q:exO Fo B1 BY b1 (JG Yv J)with
 |sk=>rw[q]at g;exact(g 0).elim
 |ex c o=>rw[q]at g;exactλB z C t v a' Y I=>yU I (g 0 B z t v.same)
 |ok u b=>
  rw[q]at g;cases u with
  |nx=>
   by_cases m:plE b=To
   ·simp only[m,if_true]at g;refine⟨rfl,m,λa=>?_⟩;have g:=g a;cases L:exO Fo B1 BY b2 (b.set i Ms)with
    |sk=>rw[L]at g;exact g.elim
    |ex c o=>rw[L]at g;exactλB z C t v a' Y I=>yU I (g B z t v.same)
    |ok u U=>
     rw[L]at g;cases u with
     |rt d=>exact⟨d,rfl,g⟩
     |_=>exact g.elim
   ·simp only[m]at g;exact(g 0).elim
  |_=>exact(g 0).elim
end
noncomputable def tpO (H:Hp):Hp:=λa=>match H a with
 |some (.tup xs)=>So Bm
 |_=>No
noncomputable def bigT (H H1:Hp):Hp:=λa=>match H a with
 |some (.tup _)=>H1 a
 |some o=>So o
 |none=>H1 a
section
variable{H1 W:Hp}{a:Addr}{o:HO}
def JlW(h:tpO H a=So o):∃xs,o=.tup xs/\H a=So Bm:=by
 unfold tpO at h;split at h
 ·rename_i xs e;cases h;exact⟨xs,rfl,e⟩
 ·cases h
def JwJ{xs:Aw}(h:H a=So Bm):tpO H a=So Bm:=by unfold tpO;rw[h]
def qO(h:∀xs,H a≠So Bm):tpO H a=No:=by
 unfold tpO;split
 ·rename_i xs e;exact absurd e (h xs)
 ·rfl
def JvC:PlO FJ:=λa o h=>by obtain⟨b,rfl,_⟩:=JlW h;rfl
def uN(H H1:Hp)(a:Addr):(bigT H H1 a=H1 a/\(H a=No\/∃xs,H a=So Bm))\/∃o,H a=So o/\bigT H H1 a=So o/\∀xs,o≠.tup xs:=by
 cases q:H a with
 |none=>exact .inl ⟨by unfold bigT;rw[q],.inl rfl⟩
 |some o=>
  cases o with
  |tup xs=>exact .inl ⟨by unfold bigT;rw[q],.inr ⟨xs,rfl⟩⟩
  |_=>exact .inr ⟨_,rfl,by unfold bigT;rw[q],λ_ z=>by cases z⟩
end
def Jww{h:Heap}{a:Addr}{o:HO}(x:Nu):∃ob,h.get? a=So ob:=by
 cases o with
 |lst j=>obtain⟨_,_,_,_,e⟩:=x;exact⟨_,e⟩
 |lsm _ j=>obtain⟨_,_,_,_,e⟩:=x;exact⟨_,e⟩
 |tup j=>obtain⟨_,_,_,ob,e,_⟩:=x;exact⟨_,e⟩
 |dK b=>obtain⟨_,_,_,_,o,_,_,e,_⟩:=x;exact⟨_,e⟩
 |dT b=>exact x.elim
 |set S n=>obtain⟨o,_,_,_,e,_⟩:=x;exact⟨_,e⟩
 |ins C l fs=>obtain⟨_,_,_,e,_⟩:=x;exact⟨_,e⟩
 |own y=>exact x
 |xd fs=>obtain⟨_,⟨_,_,_,e,_⟩,_⟩:=x;exact⟨_,e⟩
 |rng s r=>obtain⟨_,_,_,e⟩:=x;exact⟨_,e⟩
 |frz ob u=>obtain⟨e,_⟩:=x;exact⟨_,e⟩
 |tbl m=>obtain⟨_,_,_,_,e,_⟩:=x;exact⟨_,e⟩
 |met f y=>exact⟨_,x⟩
 |ext q=>obtain⟨_,e,_⟩:=x;exact e
section
variable{K:Ak}{A:Bg}{outer:Bb}{s s':Ao}{H1:Hp}
def Jtv(e:Gx):Env0 P w K mg base A outer s FJ:=
 ⟨e.frames,e.mod,λb o q=>⟨(e.bs b o q).1,qO λf z=>(by rw[(e.bs b o q).2]at z;cases z)⟩,e.bsz,e.funs,λb h=>qO λf z=>(by rw[e.frf b h]at z;cases z),λa o q=>by
  obtain⟨f,rfl,j⟩:=JlW q
  exact e.hok a _ j,e.bare⟩
def JqE(e:Gx)(un:Un (frs outer) [] FJ H1 WL YG)(y:HOk P w H1 YG):Un (frs outer) [] H Ll WL YG/\HOk P w Ll YG/\Same H1 (bigT H H1)/\Same H Ll:=by
 have j:∀b u,H b=So u->(∀f,u≠.tup f)->∃ob,s.heap.get? b=So ob/\s'.heap.get? b=So ob/\H1 b=No/\bigT H H1 b=So u:=λb u z n=>by
  obtain⟨ob,g⟩:=Jww (e.hok b u z);have F:b∉frs outer:=λJ=>by rw[e.frf b J]at z;cases z
  have E:tpO H b=No:=qO λf w=>by rw[z]at w;cases w;exact n f rfl
  refine⟨ob,g,un.keep b ob g E F Af,un.free b ob g E Af,?_⟩;rcases uN H H1 b with⟨_,q|⟨f,q⟩⟩|⟨o,q,h,_⟩
  ·rw[z]at q;cases q
  ·rw[z]at q;cases q;exact absurd rfl (n f)
  ·rw[z]at q;cases q;exact h
 have l:Same H1 Ll:=λb u z=>by
  rcases uN H H1 b with⟨q,_⟩|⟨o,q,_,n⟩
  ·rw[q];exact z
  ·obtain⟨_,_,_,h,_⟩:=j b o q n;rw[z]at h;cases h
 have sm:Same H Ll:=λb u z=>by
  rcases uN H H1 b with⟨q,c|⟨f,c⟩⟩|⟨o,q,h,n⟩
  ·rw[z]at c;cases c
  ·rw[z]at c;cases c;rw[q];exact un.tups b f (JwJ z)
  ·rw[z]at q;cases q;exact h
 have m:∀b,H b=No->tpO H b=No/\bigT H H1 b=H1 b:=λb z=>⟨qO λf w=>(by rw[z]at w;cases w),by unfold bigT;rw[z]⟩;refine⟨⟨λb o z n=>un.keep b o z (m b n).1,λb o z n=>un.slot b o z (m b n).1,λb o z n x=>by rw[(m b n).2];exact un.free b o z (m b n).1 x,un.there,λb f z=>sm _ _ z,λb o u z=>sm _ _ z,λb M z=>⟨#[],by rw[sm _ _ z];simp⟩⟩,λb u z=>?_,l,sm⟩;rcases uN H H1 b with⟨q,_⟩|⟨o,q,h,n⟩
 ·rw[q]at z;exact(y b u z).stay (λ_ _ _ t=>t) (λc t=>l _ _ t) (λc f t=>l _ _ t) λc I L t=>l _ _ t
 ·rw[h]at z;obtain rfl:o=u:=zE z;refine(e.hok b o q).stay (λc v C t=>?_) (λc t=>sm _ _ t) (λc f t=>sm _ _ t) λc I L t=>sm _ _ t;rcases C with rfl|C
  ·obtain⟨ob,r,B,_⟩:=j c o q n;rw[r]at t;cases t;exact B
  ·obtain⟨ob,r,B,_⟩:=j c _ C (λ_ z=>by cases z);rw[r]at t;cases t;exact B
end
mutual
def Rep.tp{K:Ak}{H:Hp}:∀(d:Pu.D){v:V},datD d=To->Rep K H d v->Rep K FJ d v
 |.non,_,_,h=>h
 |.bl _,_,_,h=>h
 |.int _,_,_,h=>h
 |.str _,_,_,h=>h
 |.tup J,_,n,⟨a,xs,e1,h1,h2⟩=>⟨a,xs,e1,h1.imp (λz=>JwJ z) id,Reps.tp J (by simpa[datD]using n) h2⟩
 |.lst J,_,n,_=>by cases n
 |.dct t z ks vs,_,n,_=>by cases n
 |.exc c,_,n,_=>by cases n
 |.fn x _,_,n,_=>by cases n
 |.obj a ns fs,_,n,_=>by cases n
 |.mls t J,_,n,_=>by cases n
 |.adr b,_,n,_=>by cases n
def Reps.tp{K:Ak}{H:Hp}:∀(J:FX){xs:Aw},datD.dats J=To->Reps K H J xs->Reps K FJ J xs
 |[],_,_,h=>h
 |d::J,_,n,⟨x,r,e1,h1,h2⟩=>by
  simp only[datD.dats,Zc]at n
  exact⟨x,r,e1,Rep.tp d n.1 h1,Reps.tp J n.2 h2⟩
end
def spQ(K:Ak)(mg:Bf)(R:De):Sp:=λb H Q E=>∃J,datD.dats J=To/\Reps K H J b/\∀a,'ճ'.Good (λd=>∀v W,Same H W->Rep K W d v->Q v W) (λc=>∀C W,mg c=So AV->Same H W->E AV No W)
def fn_tp{K:Ak}{j:Nat}{f:Addr}{fd:A6}{ps:Ag}{R:De}(h1:∀J a,Ac≠1->R J a=.sk)(F:FnOk P w K mg base Ci j f fd ps (λvs H Q E=>AQ=1/\spR K mg R vs H Q E)):FnOk P w K mg base Ci j f fd ps (spQ K mg R):=by
 have len:∀{vs:Aw}{H:Hp}{Q:VK}{E:XK},spQ K mg R vs H Q E->AQ=1:=fun{vs H Q E}h=>by
  obtain⟨J,_,r,g⟩:=h;have g:=g 0;have:=Yx;by_cases q:Ac=1
  ·rw[this,q]
  ·rw[h1 J 0 q]at g;exact g.elim
 have sub:∀{vs:Aw}{H:Hp}{Q:VK}{E:XK},spQ K mg R vs H Q E->(AQ=1/\spR K mg R vs FJ (λv W=>Same W (bigT H W)->Same H (bigT H W)->Q v (bigT H W)) (λC a W=>Same W (bigT H W)->Same H (bigT H W)->E C a (bigT H W))):=fun{vs H Q E}h=>by refine⟨len h,JvC,?_⟩;obtain⟨J,hd,r,g⟩:=h;refine⟨J,Reps.tp J hd r,λa=>(g a).mono (λd hd v W _ rv L sm=>hd v _ sm (rv.mono L)) λc hc C W hm _ L sm=>hc C _ hm sm⟩
 refine⟨λvs H Q E h=>F.len vs _ _ _ (sub h),λA I s H O us vs Q E hr M Y hv hs=>zC (F.run A I s FJ O us vs _ _ hr (Jtv M) Y hv (sub hs)) λr s' z=>?_⟩;cases r with
 |error x=>
  obtain⟨a,C,W,B,a0,e1,os,l,un,t,Z,t1,t2,q⟩:=z;obtain⟨y,m,L,sm⟩:=JqE M un t;refine⟨a,C,bigT H W,B,a0,e1,os,l,y,m,Z,λb u Y=>?_,λb o ho U=>⟨λhn=>(t2 b o ho U).1 (qO λxs w=>(by rw[hn]at w;cases w)),(t2 b o ho U).2⟩,q L sm⟩;rcases uN H W b with⟨q,_⟩|⟨o,q,h,n⟩
  ·rw[q]at Y;exact t1 b u Y
  ·obtain⟨ob,g⟩:=Jww (M.hok b o q);exact(t2 b ob g λU=>by rw[M.frf b U]at q;cases q).2
 |ok Z=>
  cases Z with
  |ret u=>obtain⟨v,W,os,l,un,t,rv,q⟩:=z;obtain⟨y,m,L,sm⟩:=JqE M un t;exact⟨v,bigT H W,os,l,y,m,rv,q L sm⟩
  |_=>exact z.elim
inductive CalleeQe(G:Gw)(R:De)(x:Str):Prop where
 |mk (kk:Nat) (f:Addr) (fd:FuncData) (ps:List Str) (h:FnOk G.prog G.w G.K G.mg G.base (CXr G.prog G.w) kk f fd ps (spQ G.K G.mg R)/\Room kk G.A.in1.in1/\G.mg x=So (.ref f)/\PySem.W.keepIn G.K (.ref f)=To/\Binds G.K fd ps []):CalleeQe G R x
structure CalleeQ(G:Gw)(R:De)(x:Str):Prop where
 ex:CalleeQe G R x
def tQ(X:Cx)(U:Ae)(R:De)(p:Px):TE:=λZ H Q=>∃O,ReadOk X.K H Z O/\(evD U p O).Good (λb=>∃J,b=.lst J/\datD.dats J=To/\∀a,'ճ'.Good (λd=>∀v W,Same H W->Rep X.K W d v->Q v W) Bz) Bz
section
variable{U:Ae}{e:Expr}{es:CY}{p:Px}{p1 p2 p3:Pos}{y:Str}{fi vi:Nat}{R:De}
def Jwf(C:Al)(q:CalleeQ G R x)(hg:gloB nm x=To)(j:FE)(ha:Dy)(he:Cj)
  (hpl:Dg):PE X Ud (tQ X U R p):=by
 obtain⟨kk,f,fd,ps,F,b,E,L,hb⟩:=q.ex;have b:=Room.out b;have hG:=C.g;subst hG;have hp:zV Ik X (λm _ W=>∀C,m=.ref C->XE X C W):=λY Z H s e M I q=>by obtain⟨a,C,W,rfl,F,hE⟩:=pL I q;exact hE C rfl a M F
 refine PE.weak (qU F b IV E L hb .nil hp ha j he hpl) λZ H Q A=>?_;obtain⟨O,r,h⟩:=A;refine⟨O,r,h.imp λd hd=>?_⟩;obtain⟨J,rfl,u,B⟩:=hd;refine RC;show spQ X.K X.mg R (vs++[]) W Q _;rw[zD];exact⟨J,u,rs,λa=>(B a).mono (λd o v l s2 rv=>o v l Dt rv) λc z C l t s2 C' e=>by cases e;exact z C l t Dt⟩
def cRs(C:Al)(hq:CalleeQ G R y)(j:gloB nm y=To)(u:(y==Ye)=Fo)(B:M6)(hV:∀J,U vi J=pB R (λd=>U fi [d]) J)(hg:gloB nm x=To)(q:FE)(ha:Dy)
  (he:Cj) (hpl:'г' ((backTo p2 '~').any (·.1)=Fo) Ai)
  (he2:'г' (starEach Pk Se=(Fo,eval Qr Se)::starEach [] Se) Ai):PE X (.Call (.Name x p3) Pk [] pos) PU:=by
 have hi:=Jwf (R:=R) (p1:=p1) C hq j u ha he hpl;obtain⟨kk,f,fd,ps,F,l,hm,hk,hb⟩:=B.ex;have l:=Room.out l;have hG:=C.g;subst hG;have hp:zV Ik X (λA _ W=>∀C,A=.ref C->XE X C W):=λY Z H s e s' I B=>by obtain⟨a,C,W,rfl,F,hE⟩:=pL I B;exact hE C rfl a s' F
 refine PE.weak (qU F l IV hm hk hb .nil hp (JE hi rA he2) q he2 rfl) λZ H Q M=>?_;obtain⟨O,r,h⟩:=M;refine⟨O,r,'Ĥ'.imp λd b=>?_⟩;cases d with
 |lst J=>simp only[D.asL,Rs.bo]at b;rw[hV]at b;obtain⟨L,b⟩:=JeJ b;refine⟨J,rfl,L,λa=>(Rs.gB.mp (b a)).imp λd1 h1 v H1 s1 m=>?_⟩;refine⟨[d1],⟨v,[],rfl,m,rfl⟩,h1.mono (λd o v t s2 m=>o v t Ds m) λc z C t E s2 C' e=>by cases e;exact z C t E Ds⟩
 |_=>exact b.elim
def cRb(C:Al)(s:CalleeQ G R y)(t:∀J,U vi J=pB R Lv J)(f:gloB nm y=To)(j:(y==Ye)=Fo)(q:Dy)
  (u:Cj) (hpl:'г' ((backTo p2 '~').any (·.1)=Fo) Ai):PE X Qr PU:=by
 refine PE.weak (Jwf (R:=R) C s f j q u hpl) λZ H Q m=>?_;obtain⟨O,r,h⟩:=m;refine⟨O,r,'Ĥ'.imp λd b=>?_⟩;cases d with
 |lst J=>simp only[D.asL,Rs.bo]at b;rw[t]at b;obtain⟨l,b⟩:=JeJ b;exact⟨J,rfl,l,λa=>(Rs.gB.mp (b a)).imp λv o=>o.elim⟩
 |_=>exact b.elim
def Callee.to{call':Ae}(h:M6)(e:call' fi=U fi):Callee G call' fi x:=by obtain⟨l,f,j,b,F,z⟩:=h.ex;exact⟨l,f,j,b,F.imp λm H Q E⟨J,r,g⟩=>⟨J,r,by rw[<-e];exact g⟩,z⟩
end
def LamX.sib{h:Cx}(L:a7)(S:Sib X h):LamX h:=by obtain⟨c,P,f,m,l,s,o,j⟩:=L.ex;obtain⟨b,q⟩:=S.tb P f o;have r:0<f.size:=(zJ.mp j).1;exact⟨c,P,f++b,m,S.code.trans l,by rw[S.mg,S.base];exact s,q,by rw[iX r,S.qual];exact j⟩
section
variable{U:Ae}{p pos':Pos}{rest:BI}{sx:Sx}
def JrK{R:Fm->Prop}(C:Al)(h0:A8)(hc:chkA N nm [] i x=To)(I:MakeS G)(hg:gloB nm L3=To)(b:Qi)
  (M:'г' (swapsWith MD Qax pos'.line Se=pure Fo) Ai):
  PSs X (.Assign dJ MD pos'::rest) (tLaw X H0 (RunO i R)):=by
 obtain⟨l,f,fd,ps,mk,F,y,u,v,A⟩:=I.ex;have hG:=C.g;subst hG;obtain⟨s,J,g3⟩:=chkA.at hc;obtain⟨B,L⟩:=C.sto x J;refine PSs.weak (gH (qG DJ (by rw[C.hN];exact s) B (JjO mk F y Gg u A .nil (nK (X:=X)) Ab) M L) b) λD Z H m=>?_;obtain⟨O,e,⟨Y,t⟩,hD⟩:=m;intro z j hz h hne;refine⟨z,j,l,rfl,Je,v,λW _ sp _ r=>dI⟩;have s1:Same H (upd (upd H j (.own z)) z (.ins l j [])):=λc o q=>by rw[Jc (Ji q hz),Jc (Ji q h)];exact q
 have E:=e.sp Af Y h0 ('乕'.trans (sp.sp Je));exact⟨_,E.put Af (by show Rep X.K GT _ _;rw[vB];exact r),t z,hD⟩
def JtJ(h:PSs X rest (tS X U [] H0 sx)):PSs X rest (tLaw X H0 λO=>∃b,exD U sx O=.ok (.rt B0,b)):=by refine PSs.weak h λD Z H f=>?_;obtain⟨O,e,⟨b,l⟩,j⟩:=f;refine D7;rw[l];exactλv W _ r=>by cases r;exact j W
end
section
variable{U:Ae}{M:Aj}{y:Str}{j:Nat}{b:Expr}{pa pb:Px}{py pt pt2:Pos}{kt k2:Nat}
def aParL(C:Al)(o:HX X nm)(h:Ei)(h':chkO N nm M j y=To)(hl:(nm.lookup x==So .local&&nm.lookup y==So .local&&decide (i≠j)&&!(x==y)&&(py.line==cE)&&vI a&&vI b&&!([a,b].all SH)&&!([a,b].all SZ))=To)
  (ha:AJ) (hb:PE X b (tF X U pb)) (h1:'г' (sepP M pa=To) Ai) (h2:'г' (sepP M pb=To) Ai) (h3:'г' (usesP pb i=Fo) Ai)
  (hs:'г' (swapsWithSole UV Ir Yy Se=pure Fo) Ai) (hs1:'г' (starEach [a,b] Se=DN::starEach [b] Se) Ai) (hs2:Hn):
  PS X (.Assign UV Ir pos) (tS X U M H0 (.seq (.set Fo i pa) (.own j pb))):=by
 obtain⟨g1,g2,g3⟩:=chkA.at h;obtain⟨f1,f2,f3,f4,f5⟩:=chkO.at h';simp only[Zc,ZA,kB,Zs]at hl;obtain⟨⟨⟨⟨⟨⟨⟨⟨W,l2⟩,l3⟩,l4⟩,u⟩,p2⟩,p3⟩,p4⟩,p5⟩:=hl;rintro Y s Z H D I zz;have hw:swappedStores UV Ir Se=pure GW:=JmA YT (by rw[o.sc];exact W) (by rw[o.sc];exact l2) l4 (by simp[u]) p2 p3 p4 p5;refine JqP YO DJ (by rw[C.hN];exact g1) (by rw[C.hN];exact f1) l3 (by rw[o.sc];exact W) (by rw[o.sc];exact l2) (JE (oE ha) (JE (JtY hb) rA hs2) hs1) hw hs Y s Z H D I ?_;obtain⟨O,e,h⟩:=zz;simp only[exD,rC,Zo,ZN]at h;refine L4;rw[Jw U O h1];cases A:evD U pa O with
 |sk=>rw[A]at h;exact h.elim
 |ex c=>rw[A]at h;exact(show XW X H0 c from h).mono Z6
 |ok d1=>
  rw[A]at h;simp only[Rs.bo]at h;intro v H1 m k1 r1;have B:=e.grow m;refine⟨Jv M 0 O,Ow M O Z,B.ows,B.readHid,?_⟩;rw[Jw U O h2];have hc:evD U pb Qai=evD U pb O:=JdV U pb _ _ λk hk=>Zv λz=>by subst z;rw[hk]at h3;cases h3
  rw[hc]at h;cases L:evD U pb O with
  |sk=>rw[L]at h;exact h.elim
  |ex c=>rw[L]at h;exact(show XW X H0 c from h).mono B.same0
  |ok d2=>
   rw[L]at h;cases d2 with
   |lst J=>
    simp only[Rs.bo]at h;split at h
    ·exact h.elim
    ·rename_i q;have E:imms J=To:=by simpa using q
     refine⟨J,rfl,λl xs H2 s2 k2 h0 t hr=>?_⟩;have u:=(e.grow m).put g3 r1;have F:Reps X.K H2 J xs:=hr.mono hid_same;obtain⟨r,f⟩:=u.putOwn s2 (i:=j) (d:=.lst J) h0 λHh tp=>⟨xs,t,Reps.tups tp J E F⟩;refine⟨v,.ref l,rfl,h _ _ r ⟨?_,λ_=>m.trans s2⟩⟩;rw[xB g3]at f;exact(Fz.sm m).trans f
   |_=>exact h.elim
end
end Rd
namespace K73
open PySem Pu
variable{a i:Nat}{dn un fs':Aq}{α β:Type}{e O:Fm}{l:Aj}{ls:BR}{v:Str}{ns':Ag}
noncomputable abbrev cl9:List Str:=[DF,DA,Dz,Cp,DD,G5,DC,Co,DB]
noncomputable def rW:Sx:=(.seq (.ite WI Ea .skip)
  (.ret (.and (.and (.bi .le Et Ee) OC) (.un .all (.comp 0 Ek Cb (.bi .isin Ap BN))))))
noncomputable def Jer:Sx:=(.ret (.call 0 (.cons Ap (.cons (.con QaW) Ux))))
noncomputable def tV:Sx:=(.ret (.call 0 (.cons Ap (.cons (.con QaX) Iz))))
noncomputable def Jba:Sx:=(.ret (.and (.un .isTup Ap) (.and (.bi .le AW Ee) OC)))
noncomputable def qW:Sx:=(.ret (.un .all (.comp 0 Ek Cb (.call 1 Df))))
noncomputable def JbT:Sx:=(.ret (.bi .lt (.un .lset Ap) Ee))
noncomputable def JN:Sx:=(.seq (.ite WJ Ea .skip)
  (.ret XI))
noncomputable def JJ:Sx:=(.seq (.ite (.un .not (.un .truth (.call 3 (.cons Ap (.cons FG (.cons Ep .nil)))))) Ea .skip)
  (.seq (.ite SY (.ret (.and (.bi .eq Ee Ep) (.and (.call 2 Gv) (.call 6 (.cons SX .nil))))) .skip)
  (.seq (.ite (.bi .ne Ee FG) Ea .skip)
  (.seq (.ite (.bi .eq IG NU) (.ret (.call 1 Gv)) .skip)
  (.ret (.and (.bi .isin IG (.con Iu)) (.call 2 Gv)))))))
noncomputable def JdM:Sx:=(.ret (.bi .ne IG NU))
noncomputable def Jbz:Sx:=(.ret (.comp 0 Ek (.un .truth (.call 8 Df)) GH))
noncomputable def uP:Sx:=(.seq (.ite (.or (.un .not XU) (.un .not (.un .truth W8))) Ea .skip)
  (.seq (.ite (.un .truth S8) Ea .skip)
  (.ret (.un .not (.call 5 (.cons (.call 9 Df) .nil))))))
noncomputable def iV:Sx:=(.ret (.and (.call 3 (.cons Ap (.cons FG (.cons FG .nil)))) (.and (.call 2 (.cons IG .nil)) (.call 10 Gv))))
noncomputable def yP:Sx:=(.seq (.ite (.or (.un .not Xs) (.un .not (.un .truth Xd))) Ea .skip)
  (.ret (.un .not (.call 5 (.cons Ua .nil)))))
noncomputable def Jeq:Sx:=(.seq (.set Fo 2 (.un .tuple (.comp 0 (.walk AW) Cb (.tup Xc))))
  (.seq (.ite (.un .not (.un .truth Xt)) SW .skip)
  QaY))
noncomputable def Jfm:Sx:=(.seq (.set Fo 2 (.bi .add Ap AW))
  (.seq (.ite Vn SW .skip)
  (.seq (.ite (.un .truth (.call 5 (.cons Vm .nil))) SW .skip)
  QaY)))
noncomputable def JaJ:Sx:=(.seq (.loop Fo [1,2] 2 Wl Xx)
  (.seq (.ite SY (.ret (.bi .add Py (.bi .joinS (.con (.str (oS "|"))) SX))) .skip)
  (.ret GH)))
noncomputable def JaM:Sx:=(.ret (.bi .add K9 (.bi .joinS K9 Ap)))
noncomputable def JdD:Sx:=(.ret (.call 16 (.cons (.comp 0 Ek Cb (.call 15 Df)) .nil)))
noncomputable def Jad:Sx:=(.seq (.ite (.un .not (.un .truth (.bi .strt Ap K9))) Fi .skip)
  (.ret (.ite (.bi .eq Ap K9) c9 (.bi .splitS MY K9))))
noncomputable def JbW:Sx:=(.seq (.loop Fo [1,2] 2 Wl Ww)
  (.seq (.ite Pw (.seq VS
  (.ret (.tup (.cons N3 (.cons OB (.cons (.un .tuple (.bi .splitS OA (.con (.str (oS "|"))))) .nil)))))) .skip)
  Vt))
noncomputable def tK:Sx:=(.seq (.set Fo 1 XO)
  (.seq (.ite (.un .not (.un .truth (.call 10 Fx))) Fi .skip)
  KN))
noncomputable def Jbi:Sx:=(.ret (.bi .add (.bi .add (.bi .add IG MX) (.call 17 Gv)) L8))
noncomputable def Jax:Sx:=(.ret (.bi .joinS Iy (.comp 0 Ek Cb (.call 21 Df))))
noncomputable def JcM:Sx:=(.seq (.ite (.bi .eq Ap Iy) (.ret c9) .skip)
  (.seq (.ite (.un .not (.un .truth (.bi .ends Ap L8))) Fi .skip)
  (.ret (.bi .splitS (.sl Ap CH Vd) L8))))
noncomputable def qL:Sx:=(.seq (.set Fo 1 (.bi .partS Ap MX))
  (.ret (.tup (.cons SV (.cons (.call 20 VB) .nil)))))
noncomputable def JP:Sx:=(.seq (.set Fo 1 QbK)
  (.seq (.ite (.un .not (.un .truth (.call 12 Fx))) Fi .skip)
  KN))
def JbV:Sx:=(.ret (.bi .joinS Iy (.comp 0 (.walk (.call 38 (.cons N1 .nil))) Cb (.bi .add (.un .join (.cons Xu (.cons Ap (.cons (.con (.str (oS "]\n"))) .nil)))) (.call 22 (.cons (.call 37 (.cons (.un eX AW) Df)) .nil))))))
noncomputable def Jaf:Sx:=(.seq (.ownD Fo 1)
  (.seq Qce
  (.seq (.loop Fo [3] 0 Lp (.ite VR (.seq Qcf
  QI) WR))
  (.retF 1))))
noncomputable def JdY:Sx:=(.seq (.set Fo 1 (.sl Ap Qdu Vd))
  (.seq (.ite UW Fi .skip)
  KN))
noncomputable def iQ:Sx:=(.seq (.ite (.bi .lt AW Ee) (.ret (.bi .idx Ap AW)) .skip)
  (.seq (.ite (.bi .eq Ap c9) (.ret RS) .skip)
  (.ret (.bi .add (.bi .mul (.bi .idx Ap (.bi .mod AW Ee)) (.con QaZ)) AW))))
noncomputable def JcJ:Sx:=(.seq (.set Fo 3 (.bi .mod (.bi .mul (.bi .add (.call 29 (.cons Ap Fx)) (.bi .mul (.con (.int 6151)) UG)) (.con (.int 40692))) (.con Qal)))
  (.ret (.bi .mod (.bi .mod (.bi .add (.bi .mul DQ DQ) (.bi .fdiv DQ (.con QaZ))) (.con Qam)) BN)))
noncomputable def gJ:Sx:=(.seq (.set Fo 3 (.dis (.cons Qq (.cons Qp (.cons (.con (.str (oS "7"))) (.cons (.con (.str (oS "0"))) .nil))))))
  (.seq (.set Fo 4 (.call 30 (.cons Ap (.cons AW Ux))))
  (.seq (.ite (.bi .lt Bw GE) (.ret (.tup (.cons NU (.cons (.bi .idx DQ WG) .nil)))) .skip)
  (.seq (.ite (.bi .eq Bw GE) (.seq (.set Fo 5 WX)
  (.ret (.tup (.cons N3 (.cons BN (.cons (.un .tuple (.un .sset FM)) .nil)))))) .skip)
  (.ret (.tup (.cons (.bi .idx (.dis (.cons (.con ID) (.cons (.con L6) (.cons (.con ID) .nil)))) (.bi .sub Bw GA)) Sl)))))))
noncomputable def pW:Sx:=(.seq (.set Fo 3 (.dis (.cons (.con (.str (oS "y"))) (.cons (.con (.str (oS "id"))) (.cons (.con (.str (oS "z"))) V7)))))
  (.seq (.own 4 WY)
  (.seq (.ite (.bi .eq WG RS) (.app Fo 4 (.tup (.cons (.con GD) (.cons (.con (.str (oS "r"))) .nil)))) .skip)
  (.ret (.un .tuple Bw)))))
noncomputable def Jca:Sx:=(.seq (.set Fo 4 (.dis (.cons (.con (.str (oS "t"))) (.cons (.con (.str (oS "p"))) (.cons (.con (.str (oS "v"))) (.cons (.con (.str (oS "q"))) (.cons (.con (.str (oS "u"))) (.cons (.con (.str (oS "s"))) .nil))))))))
  (.seq (.set Fo 5 (.call 30 (.cons Ap (.cons AW (.cons MW .nil)))))
  (.ret (.un .tuple (.comp 0 (.un .range FM) Cb 'Ҝ')))))
noncomputable def oW:Sx:=(.seq (.set Fo 1 (.dis (.cons (.un (.isC cl9 DD) Ap) (.cons (.un (.isC cl9 DF) Ap) (.cons (.un (.isC cl9 DB) Ap) .nil)))))
  (.seq (.set Fo 1 (.bi .add AW (.dis (.cons (.un (.isC cl9 DC) Ap) (.cons (.un (.isC cl9 DA) Ap) (.cons (.un (.isC cl9 Co) Ap) .nil))))))
  (.seq (.set Fo 1 (.bi .add AW (.dis (.cons (.un (.isC cl9 G5) Ap) (.cons (.un (.isC cl9 Dz) Ap) (.cons (.un (.isC cl9 Cp) Ap) .nil))))))
  (.seq (.ite (.or (.bi .ne (.bi .count AW Cb) Et) (.un .not (.un .truth (.un (.isC cl9 Fl) Ap)))) (.ret (.con (.str (oS "wrong")))) .skip)
  (.seq (.set Fo 2 (.dis (.cons (.con (.str (oS "bad lead"))) (.cons (.con (.str (oS "bad values"))) (.cons (.con (.str (oS "no back"))) (.cons (.con (.str (oS "no hole"))) (.cons (.con (.str (oS "no row"))) (.cons (.con (.str (oS "no site"))) (.cons UD (.cons (.con (.str (oS "taken"))) (.cons (.con (.str (oS "too many"))) .nil)))))))))))
  (.ret (.bi .idx BN (.bi .index AW Cb))))))))
noncomputable def JcS:Sx:=(.seq (.set Fo 2 (.dis (.cons Qq (.cons Qp (.cons (.con (.str (oS "home"))) V7)))))
  (.seq (.seq (.set Fo 3 (.bi .idx BN (.call 30 (.cons Ap (.cons AW Iz))))) (.set Fo 4 (.call 30 (.cons Ap (.cons UG (.cons (.con QcP) .nil))))))
  (.seq (.ite O5 (.seq WK
  (.seq WQ
  WU)) .skip)
  (.seq Wy
  (.seq WD
  WT)))))
noncomputable def Jbu:Sx:=(.seq Xg
  (.seq Wx
  (.seq Wv
  (.seq XN
  (.seq WB
  (.seq Wu
  (.seq WH
  (.seq WA
  (.seq WO
  WW)))))))))
noncomputable def xP:Sx:=(.seq (.ite (.or UW (.bi (.dNi Fo) AW DE)) Oz .skip)
  (.ret (.bi Vc DE AW)))
noncomputable def lV:Sx:=(.ret (.un .sortD DE))
def defs:List DefD:=[⟨3,3,rW⟩,⟨1,1,Jer⟩,⟨1,1,tV⟩,⟨3,3,Jba⟩,⟨1,1,qW⟩,⟨1,1,JbT⟩,⟨1,1,JN⟩,⟨1,1,JJ⟩,⟨1,1,JdM⟩,⟨1,1,Jbz⟩,⟨1,1,uP⟩,⟨1,1,iV⟩,⟨1,1,yP⟩,⟨3,2,Jeq⟩,⟨3,2,Jfm⟩,⟨3,1,JaJ⟩,⟨1,1,JaM⟩,⟨1,1,JdD⟩,⟨1,1,Jad⟩,⟨4,1,JbW⟩,⟨2,1,tK⟩,⟨1,1,Jbi⟩,⟨1,1,Jax⟩,⟨1,1,JcM⟩,⟨2,1,qL⟩,⟨2,1,JP⟩,⟨1,1,JbV⟩,⟨4,1,Jaf⟩,⟨2,1,JdY⟩,⟨2,2,iQ⟩,⟨4,3,JcJ⟩,⟨6,3,gJ⟩,⟨5,3,pW⟩,⟨6,4,Jca⟩,⟨3,1,oW⟩,⟨8,2,JcS⟩,⟨7,3,Jbu⟩,⟨2,2,xP⟩,⟨1,1,lV⟩]
def Jdd(U:Nat)(b f x2:D):runD defs Bl 0 G6=Jd (exD Bj rW Qb0):=rfl
def JkJ(U:Nat)(b:D):runD defs Bl 1 [b]=Jd (exD Bj Jer [So b]):=rfl
def JgJ(U:Nat)(b:D):runD defs Bl 2 [b]=Jd (exD Bj tV [So b]):=rfl
def JfQ(U:Nat)(b f x2:D):runD defs Bl 3 G6=Jd (exD Bj Jba Qb0):=rfl
def Jee(U:Nat)(b:D):runD defs Bl 4 [b]=Jd (exD Bj qW [So b]):=rfl
def Jio(U:Nat)(b:D):runD defs Bl 5 [b]=Jd (exD Bj JbT [So b]):=rfl
def JaF(U:Nat)(b:D):runD defs Bl 6 [b]=Jd (exD Bj JN [So b]):=rfl
def JV(U:Nat)(b:D):runD defs Bl 7 [b]=Jd (exD Bj JJ [So b]):=rfl
def JmU(U:Nat)(b:D):runD defs Bl 8 [b]=Jd (exD Bj JdM [So b]):=rfl
def JgU(U:Nat)(b:D):runD defs Bl 9 [b]=Jd (exD Bj Jbz [So b]):=rfl
def Jbp(U:Nat)(b:D):runD defs Bl 10 [b]=Jd (exD Bj uP [So b]):=rfl
def Jis(U:Nat)(b:D):runD defs Bl 11 [b]=Jd (exD Bj iV [So b]):=rfl
def JcE(U:Nat)(b:D):runD defs Bl 12 [b]=Jd (exD Bj yP [So b]):=rfl
def Jlj(U:Nat)(f b:D):runD defs Bl 13 [f,b]=Jd (exD Bj Jeq [So f,So b,No]):=rfl
def Jos(U:Nat)(f b:D):runD defs Bl 14 [f,b]=Jd (exD Bj Jfm [So f,So b,No]):=rfl
def JeD(U:Nat)(b:D):runD defs Bl 15 [b]=Jd (exD Bj JaJ [So b,No,No]):=rfl
def JeE(U:Nat)(b:D):runD defs Bl 16 [b]=Jd (exD Bj JaM [So b]):=rfl
def Jnm(U:Nat)(b:D):runD defs Bl 17 [b]=Jd (exD Bj JdD [So b]):=rfl
def JcC(U:Nat)(b:D):runD defs Bl 18 [b]=Jd (exD Bj Jad [So b]):=rfl
def JhA(U:Nat)(b:D):runD defs Bl 19 [b]=Jd (exD Bj JbW QdL):=rfl
def jT(U:Nat)(b:D):runD defs Bl 20 [b]=Jd (exD Bj tK bY):=rfl
def Jfj(U:Nat)(b:D):runD defs Bl 21 [b]=Jd (exD Bj Jbi [So b]):=rfl
def JdI(U:Nat)(b:D):runD defs Bl 22 [b]=Jd (exD Bj Jax [So b]):=rfl
def Jkp(U:Nat)(b:D):runD defs Bl 23 [b]=Jd (exD Bj JcM [So b]):=rfl
def jW(U:Nat)(b:D):runD defs Bl 24 [b]=Jd (exD Bj qL bY):=rfl
def vP(U:Nat)(b:D):runD defs Bl 25 [b]=Jd (exD Bj JP bY):=rfl
def Jhv(U:Nat)(b:D):runD defs Bl 26 [b]=Jd (exD Bj JbV [So b]):=rfl
def JcR(U:Nat)(b:D):runD defs Bl 27 [b]=Jd (exD Bj Jaf QdL):=rfl
def JlO(U:Nat)(b:D):runD defs Bl 28 [b]=Jd (exD Bj JdY bY):=rfl
def JcQ(U:Nat)(f b:D):runD defs Bl 29 [f,b]=Jd (exD Bj iQ [So f,So b]):=rfl
def Jke(U:Nat)(b f x2:D):runD defs Bl 30 G6=Jd (exD Bj JcJ [So b,So f,So x2,No]):=rfl
def zP(U:Nat)(b f x2:D):runD defs Bl 31 G6=Jd (exD Bj gJ [So b,So f,So x2,No,No,No]):=rfl
def Jcd(U:Nat)(b f x2:D):runD defs Bl 32 G6=Jd (exD Bj pW [So b,So f,So x2,No,No]):=rfl
def Jii(U:Nat)(h f x2 b:D):runD defs Bl 33 [h,f,x2,b]=Jd (exD Bj Jca [So h,So f,So x2,So b,No,No]):=rfl
def JsI(U:Nat)(b:D):runD defs Bl 34 [b]=Jd (exD Bj oW [So b,No,No]):=rfl
def Jky(U:Nat)(f b:D):runD defs Bl 35 [f,b]=Jd (exD Bj JcS [So f,So b,No,No,No,No,No,No]):=rfl
def JgD(U:Nat)(b f x2:D):runD defs Bl 36 G6=Jd (exD Bj Jbu [So b,So f,So x2,No,No,No,No]):=rfl
noncomputable def sP:Bs:=(.ite (.pur Kv) (.popK L9 AW) (.putK L9 AW BN))
def gW:Bs:=(.seq (.appF E1 WE)
  (.seq (.newL E8)
  (.eff (.call To 0 0 nsS (.cons BN En)))))
def uT:Bs:=(.seq (.ite (.pur UW) Oz LA)
  (.seq (.set 3 (.pur (.bi QaT AW DE)))
  (.seq (.eff (.call To 1 0 nsS (.cons Oy (.cons AW Sl))))
  (.ret DQ))))
def jU:Bs:=(.seq (.set 2 V6)
  (.seq (.eff (.call To 1 0 nsS (.cons (.con (.str Lk)) (.cons AW (.cons CH .nil)))))
  QaY))
def pV:Bs:=(.seq (.set 4 V6)
  (.seq (.set 5 (.pur (.call 14 (.cons Bw (.cons (.call 13 (.cons BN (.cons (.call 37 (.cons N1 En)) .nil))) .nil)))))
  (.seq (.eff (.call To 1 0 nsS (.cons Ox (.cons AW (.cons FM .nil)))))
  (.ret FM))))
def JR:Bs:=(.seq (.ite (.pur (.bi .eq SV Ox)) (.retB (.tolB 34 cl9 4 0 nsS W4)) LA)
  (.ite (.pur (.bi .eq SV Oy)) (.retB (.tolB 34 cl9 2 0 nsS (.cons MV VB))) (.retB (.tolB 34 cl9 3 0 nsS QbL))))
def bdefs:List DefB:=[⟨3,3,sP⟩,⟨4,4,gW⟩,⟨4,3,uT⟩,⟨3,2,jU⟩,⟨6,4,pV⟩,⟨2,2,JR⟩]
def JcW(U:Nat)(st:D)(b x2:D):runB defs bdefs Bl 0 st [b,x2]=ansB st (exO To Bj Hu sP [So st,So b,So x2]):=rfl
def Jkl(U:Nat)(st:D)(f x2 b:D):runB defs bdefs Bl 1 st [f,x2,b]=ansB st (exO To Bj Hu gW [So st,So f,So x2,So b]):=rfl
def JuW(U:Nat)(st:D)(b x2:D):runB defs bdefs Bl 2 st [b,x2]=ansB st (exO To Bj Hu uT [So st,So b,So x2,No]):=rfl
def JrH(U:Nat)(st:D)(b:D):runB defs bdefs Bl 3 st [b]=ansB st (exO To Bj Hu jU [So st,So b,No]):=rfl
def JnB(U:Nat)(st:D)(f x2 b:D):runB defs bdefs Bl 4 st [f,x2,b]=ansB st (exO To Bj Hu pV [So st,So f,So x2,So b,No,No]):=rfl
def iW(U:Nat)(st:D)(b:D):runB defs bdefs Bl 5 st [b]=ansB st (exO To Bj Hu JR [So st,So b]):=rfl
def JqK:Bs:=(.loop [2] 0 (.un .range (.con (.int 7))) Vs)
noncomputable def lp6:Px:=(.bi .add (.bi .mul (.call 29 (.cons Ap (.cons (.bi .add (.con (.int 1700)) BN) .nil))) (.con (.int 7919))) (.call 30 (.cons Ap (.cons (.bi .add (.con (.int 1720)) BN) (.cons (.con (.int 999983)) .nil)))))
noncomputable def la1:Px:=(.call 36 (.cons DQ (.cons cO (.cons (.con (.str (oS "/[]ab7 :*=|\n"))) .nil))))
noncomputable def lp7:Px:=(.call 30 (.cons Ap (.cons (.bi .add (.con (.int 1740)) BN) (.cons (.un .len Bw) .nil))))
noncomputable def lp8:Px:=(.sl Bw NY V1)
noncomputable def la2:Px:=(.bi .joinS L8 (.bi .add O4 (.sl Bw V0 CH)))
noncomputable def la3:Px:=(.bi .joinS L8 (.bi .add (.sl Bw CH V0) (.sl Bw NY CH)))
noncomputable def la4:Px:=(.bi .joinS L8 (.bi .add (.bi .add O4 (.un .rev (.var 8))) (.sl Bw V1 CH)))
def lB1:Sx:=.seq (.set Fo 6 lp6) (.seq (.app Fo 5 la1) (.seq (.set Fo 7 lp7) (.seq (.set Fo 8 lp8) (.seq (.app Fo 5 la2) (.seq (.app Fo 5 la3) (.app Fo 5 la4))))))
noncomputable def lB2:Sx:=(.seq (.set Fo 10 (.told 34 cl9 VQ)) (.ite (.and (.bi .ne Qa0 (.var 9)) (.or (.bi .ne Qa0 UD) Qo)) Ea .skip))
noncomputable def lz0:Sx:=(.set Fo 11 (.dis (.cons Iy (.cons (.con (.str (oS "[a]\n"))) (.cons (.con (.str (oS "[a]\nx /\ny /a/:b\n[b]\n"))) (.cons (.con (.str (oS "[home]\nq /k=a|b/*r\n"))) .nil))))))
noncomputable def lz1:Sx:=(.ite (.bi .ne Xk (.var 11)) Ea .skip)
noncomputable def lz2:Sx:=(.own 12 (.dis (.cons L8 (.cons (.con (.str (oS "[a]"))) (.cons (.con (.str (oS "x /\n"))) (.cons (.con (.str (oS "x /\n[a]\n"))) (.cons (.con (.str (oS "[b]\n[a]\n"))) (.cons (.con (.str (oS "[a]\n[a]\n"))) (.cons (.con (.str (oS "[A]\n"))) (.cons (.con (.str (oS "[abcde]\n"))) (.cons (.con (.str (oS "[]\n"))) .nil)))))))))))
noncomputable def lz3:Sx:=(.ext Fo 12 (.walk (.un .rows (.dis (.cons (.con (.str (oS "[a\n"))) (.cons (.con (.str (oS "a]\n"))) (.cons (.con (.str (oS "[a] \n"))) .nil)))))))
noncomputable def lz4:Sx:=(.ext Fo 12 (.walk (.un .rows (.dis (.cons (.con (.str (oS "[a]\n\n"))) (.cons (.con (.str (oS "[a]\nx\n"))) (.cons (.con (.str (oS "[a]\nx /\nx /a\n"))) (.cons (.con (.str (oS "[a]\nx /:b/:b\n"))) (.cons (.con (.str (oS "[a]\nx  /\n"))) (.cons (.con (.str (oS "[a]\nx /"))) .nil))))))))))
noncomputable def lz5:Sx:=(.ext Fo 12 (.walk (.un .rows (.dis (.cons CH (.cons GA (.cons (.tup (.cons (.con (.str (oS "[a]\n"))) .nil)) .nil)))))))
noncomputable def lz6:Sx:=(.ext Fo 12 (.walk (.un .rows (.dis (.cons (.con (.str (oS "[a]x /\n"))) (.cons (.con (.str (oS " [a]\n"))) (.cons (.con (.str (oS "[a]\nx /*r/a\n"))) (.cons (.con (.str (oS "[a]\nX /\n"))) .nil))))))))
noncomputable def lz7:Sx:=(.ret (.bi .eq XH (.bi .rep (.dis (.cons UD .nil)) (.con (.int 25)))))
def lB3:Sx:=(.seq lz0 (.seq lz1 (.seq lz2 (.seq lz3 (.seq lz4 (.seq lz5 (.seq lz6 lz7)))))))
noncomputable def wX:Sx:=(.sw [5,12] WS)
noncomputable def sO:Bs:=(.ite (.pur WI) Fi LA)
noncomputable def iL:Bs:=(.seq (.loop [2,3] 2 Tn (.eff Ws))
  (.seq (.ite (.pur UH) Fi LA)
  KN))
noncomputable abbrev nR:Nat:=4
noncomputable abbrev iR:Nat:=1
noncomputable abbrev vST:Nat:=26
noncomputable abbrev vRS:Nat:=900
noncomputable abbrev vRB:Nat:=901
def RL(U:Ae)(bc:AG)(O:Fm):Prop:=RunO 1 (λO=>∃b,exO Fo U bc JqK O=.ok .nx b/\∃f,exD U wX b=.ok (.rt B0,f)) O
noncomputable abbrev S (x:A9):Str:=oS x
noncomputable abbrev ofN (ns:A0):D:=.lst HY
theorem cell(ns:A0)(k:Int)(s:0<=k):∃v:Int,∀c,runD defs AS 29 Km=.ok (.int v):=by
 obtain⟨k,rfl⟩:=Int.eq_ofNat_of_zero_le s;by_cases h:k<AX
 ·refine⟨ns[k],λc=>?_⟩;have f:atD DT k=So (.int ns[k]):=by have:=atN DT k DG;rw[this];simp
  simp[JcQ,iQ,h,f]
 ·have o:¬((k:Int)<(AX:Int)):=by lia
  by_cases m:ns=[]
  ·subst m;have o:¬((k:Int)<0):=by lia
   have e:op2 .eq (ofN []) Hl=.ok B0:=rfl;refine⟨0,λc=>?_⟩;simp[JcQ,iQ,o,e,lineD]
  ·have q:0<AX:=by
    cases ns with
    |nil=>exact absurd rfl m
    |cons a t=>simp
   have r:k % AX<AX:=Nat.mod_lt _ q;refine⟨ns[k % AX]*31+k,λc=>?_⟩;have u:((k:Int) % (AX:Int))=((k % AX:Nat):Int):=by lia
   have f:atD DT ((k:Int) % (AX:Int))=So (.int ns[k % AX]):=by
    rw[u];have:=atN DT (k % AX) (by simpa using r);rw[this];simp
   have w:D.eqv (.lst DT) Hl=Fo:=by
    cases ns with
    |nil=>exact absurd rfl m
    |cons a t=>rfl
   have j:op2 .eq (.lst DT) Hl=.ok Bq:=by
    rw[o_eq _ _ (by simp[D.dep,Jpo]) (by simp[D.dep,deps]),w]
   have b:op2 .mod DZ (.int AX)=.ok (.int ((k:Int) % (AX:Int))):=by
    have:0<(AX:Int):=by lia
    simp[op2,q]
   simp[JcQ,iQ,j,lineD,o,f,b,smallI]
theorem pick(ns:A0)(k m:Int)(o:0<=k)(h:0<m):∃r:Nat,(r:Int)<m/\∀c,runD defs AR 30 [ofN ns,.int k,.int m]=.ok Di:=by
 obtain⟨v,f⟩:=cell ns k o;let d:Int:=(v+6151*A1)*40692 % 2147483399;have z:0<=d:=mQ _ Ax;have A:d<2147483399:=Int.emod_lt_of_pos _ Ax;have s:0<=(d*d+d / 31) % 2147483629 % m:=mQ _ Ad;have B:(d*d+d / 31) % 2147483629 % m<m:=Int.emod_lt_of_pos _ Ad;refine⟨((d*d+d / 31) % 2147483629 % m).toNat,by lia,λc=>?_⟩;have t:smallI d=To:=by simp only[smallI,Zc,Zs];lia
 rw[Int.toNat_of_nonneg s];have w:(v+6151*A1)*40692 % 2147483399=d:=rfl;have j:smallI 6151=To:=by decide
 have y:smallI 40692=To:=by decide
 have q:∀i:Int,op2 .mod AZ Qal=.ok (.int (i % 2147483399)):=λi=>by simp[op2]
 have x:∀i:Int,op2 .mod AZ Qam=.ok (.int (i % 2147483629)):=λi=>by simp[op2]
 have b:∀i:Int,op2 .mod AZ (.int m)=.ok (.int (i % m)):=λi=>by simp[op2,h]
 have u:∀i:Int,op2 .fdiv AZ QaZ=.ok (.int (i / 31)):=λi=>by simp[op2]
 simp[Jke,JcJ,f,j,y,w,t,q,x,b,u]
def tP(a b:A9):oS a=oS b↔a=b:=by
 constructor
 ·intro h;rw[Str.ofString_eq_toList,Str.ofString_eq_toList]at h;have m:=iA (λs:Str=>YJ) h;simp only[List.toList_toArray]at m;have o:a.toList=b.toList:=by refine List.map_inj_right (f:=Char.toNat) ?_|>.mp m;intro x y j;exact Char.ext (UInt32.toNat_inj.mp j)
  exact String.toList_inj.mp o
 ·rintro rfl;rfl
@[simp]def sb(a b:A9):(oS a==oS b)=decide (a=b):=by
 by_cases h:a=b
 ·subst h;simp
 ·have:oS a≠oS b:=λe=>h ((tP a b).mp e);simp[h,this]
noncomputable def ws9:List Str:=[S "a",S "b",S "7",S "0",S "new",S "zz",S "55",S "01",S "-"]
noncomputable def pool:List Str:=[S "a",S "b",S "7",S "0"]
def JlM:∀w∈pool,w∈ws9:=by decide+kernel
inductive Part where
 |word (x:Str)|one (n:Str) (ws:List Str)|any (n:Str)|number (n:Str)|rest (n:Str)
noncomputable def Part.d:Part->D
 |.word x=>.tup Qg
 |.one n ws=>.tup Vx
 |.any n=>.tup PK
 |.number n=>.tup QV
 |.rest n=>.tup Qcy
def Part.ok:Part->Prop
 |.word x=>x∈ws9
 |.one _ b=>(∀w∈b,w∈ws9)/\b≠[]
 |_=>True
def Part.srt:Part->Prop
 |.word x=>x∈pool
 |.one _ b=>(b.Pairwise LtS/\∀w∈b,w∈pool)/\b.length<=3
 |_=>True
noncomputable def Part.name:Part->Str
 |.word x=>x
 |.one n _=>n
 |.any n=>n
 |.number n=>n
 |.rest n=>n
noncomputable def Part.isWord:Part->Bool
 |.word _=>To
 |_=>Fo
noncomputable def Part.hole (p:Part):List Str:=if p.isWord then[]else[p.name]
def qA (ps:Bp):List Str:=ps.flatMap Part.hole
noncomputable def Part.isRest:Part->Bool
 |.rest _=>To
 |_=>Fo
def JT:∀ws:List Str,JQ DH=So ws
 |[]=>rfl
 |w::ws=>by simp[JQ,JT ws]
def Jvv(ws:Ag)(h:Cw<60):op1 .sset (.lst DH)=.ok (.lst ((Jx ws).map .str)):=by simp[op1,JT,h]
theorem JkH(r:Nat)(h:(r:Int)<4):∃w∈pool,atD U3 (r:Int)=So (.str w):=by
 match r,h with
 |0,_=>exact⟨S "a",by decide+kernel,rfl⟩
 |1,_=>exact⟨S "b",by decide+kernel,rfl⟩
 |2,_=>exact⟨S "7",by decide+kernel,rfl⟩
 |3,_=>exact⟨S "0",by decide+kernel,rfl⟩
 |n+4,h=>lia
theorem part(ns:A0)(at_:Int)(I:0<=at_)(name:Str):∃p:Part,p.ok/\p.isRest=Fo/\p.srt/\p.hole.Sublist [name]/\∀c,runD defs A4 31 [ofN ns,.int at_,.str name]=.ok p.d:=by
 obtain⟨r,L,j⟩:=pick ns at_ 8 I Ax;by_cases G:(r:Int)<4
 ·obtain⟨q,y,eq⟩:=pick ns (at_+1) 4 Ad Ax;obtain⟨w,b,u⟩:=JkH q y;refine⟨.word w,JlM w b,rfl,b,by simp[Part.hole,Part.isWord],λc=>?_⟩;simp[zP,gJ,j,G,eq,u,lineD,Part.d]
 ·by_cases F:r=4
  ·subst F;obtain⟨m,J,C⟩:=pick ns (at_+1) 3 Ad Ax;have A:∀k:Nat,∃w,w∈pool/\∃q:Nat,(∀c,runD defs AR 30 [ofN ns,.int (at_+2+k),.int 4]=.ok FL)/\atD U3 (q:Int)=So (.str w):=by intro k;obtain⟨q,y,eq⟩:=pick ns (at_+2+k) 4 Ad Ax;obtain⟨w,b,u⟩:=JkH q y;exact⟨w,b,q,eq,u⟩
   obtain⟨f,t⟩:=gR.mp A;have s:∀c x,evD Iq WX
     [So ES,So BC,So (.str name),So (.lst U3),x,No]=.ok (.lst (((List.range (1+m)).map f).map .str)):=by
    intro c x;rw[Zr];refine Jil _ _ _ _ (1+m) ?_ Ad (λk=>.str (f k)) ?_
    ·simp[C,Int.natCast_add]
    ·intro k A
     obtain⟨_,q,H,E⟩:=t k;simp[H,E]
   have h:((List.range (1+m)).map f).length<60:=by simp;lia
   have z:=Jvv _ h;refine⟨.one name (Jx ((List.range (1+m)).map f)),HH,rfl,⟨⟨JH _,λw b=>by
    rw[JO,Zz]at b;obtain⟨k,_,rfl⟩:=b;exact(t k).1⟩,Zy (JmL _) DL⟩,by simp[Part.hole,Part.isWord,Part.name],λc=>?_⟩
   ·intro w b;rw[JO,Zz]at b;obtain⟨k,_,rfl⟩:=b;exact JlM _ (t k).1
   ·intro B;have:f 0∈Jx ((List.range (1+m)).map f):=by rw[JO,Zz];exact⟨0,by rw[List.mem_range];lia,rfl⟩
    rw[B]at this;simp at this
   ·have s:=s c;generalize (List.range (1+m)).map f=ws at z s⊢;simp[zP,gJ,j,s,z,lineD,Part.d]
  ·have o:r=5\/r=6\/r=7:=by lia
   rcases o with rfl|rfl|rfl
   ·exact⟨.any name,trivial,rfl,trivial,by simp[Part.hole,Part.isWord,Part.name],λc=>by simp[zP,gJ,j,lineD,Part.d]⟩
   ·exact⟨.number name,trivial,rfl,trivial,by simp[Part.hole,Part.isWord,Part.name],λc=>by simp[zP,gJ,j,lineD,Part.d]⟩
   ·exact⟨.any name,trivial,rfl,trivial,by simp[Part.hole,Part.isWord,Part.name],λc=>by simp[zP,gJ,j,lineD,Part.d]⟩
noncomputable def rF:List Part->Prop
 |[]=>True
 |p::ps=>(aM=To->ps=[])/\rF ps
def JnC(p:Part):p.d.imm=To:=by cases p<;>simp[Part.d,D.imm,imms,JoJ]
def Jnk(ps:Bp):imms Of=To:=by
 induction ps with
 |nil=>rfl
 |cons p ps b=>simp[imms,JnC,b]
def Jhk(l:Bp)(h:∀p∈l,aM=Fo)(n:Str):rF (l++[.rest n]):=by
 induction l with
 |nil=>simp[rF]
 |cons p l f=>refine⟨λb=>?_,f λp b=>h p (by simp[b])⟩;rw[h p 'k']at b;cases b
def Jig(l:Bp)(h:∀p∈l,aM=Fo):rF l:=by
 induction l with
 |nil=>trivial
 |cons p l f=>refine⟨λb=>?_,f λp b=>h p (by simp[b])⟩;rw[h p 'k']at b;cases b
noncomputable def names4:List Str:=[S "y",S "id",S "z",S "x"]
noncomputable def nm4 (k:Nat):Str:=names4.getD k (S "")
theorem JpD(k:Nat)(h:k<4):atD Xw (k:Int)=So (.str (nm4 k)):=by
 match k,h with
 |0,_=>rfl
 |1,_=>rfl
 |2,_=>rfl
 |3,_=>rfl
 |n+4,h=>lia
theorem Jha(f:Nat->Part)(b:∀k,(f k).hole.Sublist [nm4 k]):∀m,m<=4->(qA ('ǎ'.map f)).Sublist (names4.take m)
 |0,_=>by simp[qA]
 |m+1,h=>by
  have e:names4.take (m+1)=names4.take m++[nm4 m]:=by
   match m,h with
   |0,_=>rfl
   |1,_=>rfl
   |2,_=>rfl
   |3,_=>rfl
   |n+4,h=>lia
  rw[e,List.range_succ,uA];simp only[qA,List.flatMap_append,Zg,sE,zF,List.flatMap_nil,zD];exact(Jha f b m Ad).append (b m)
noncomputable def names5:List Str:=[S "y",S "id",S "z",S "x",S "r"]
theorem patQ(ns:A0)(at_:Int)(P:0<=at_)(M:Nat)(W:M<=4):∃(h:Bp)(b:Bool),(∀p∈h,p.ok/\p.isRest=Fo/\p.srt)/\(qA h).Sublist names4/\h.length<=M/\∀c,runD defs (c+4) 32 [ofN ns,.int at_,.int M]=.ok (.tup ((h++if b then[Part.rest (S "r")]else[]).map Y5)):=by
 obtain⟨m,A,z⟩:=pick ns at_ ((M:Int)+1) P Ad;have A:m<=M:=by lia
 have t:∀k:Nat,∃p:Part,p.ok/\p.isRest=Fo/\p.srt/\p.hole.Sublist [nm4 k]/\(k<4->∀c,runD defs A4 31 [ofN ns,.int (at_+2+5*k),.str (nm4 k)]=.ok p.d):=by intro k;obtain⟨p,G,B,I,E,N⟩:=part ns (at_+2+5*k) Ad (nm4 k);exact⟨p,G,B,I,E,λ_=>N⟩
 obtain⟨f,j⟩:=gR.mp t;have L:smallI 5=To:=by decide
 have r:∀c,evD LK WY
   [So ES,So BC,So (.int M),So (.lst Xw),No]=.ok (.lst (('ǎ'.map f).map Y5)):=by
  intro c;rw[Zr];refine Jil _ _ _ _ m ?_ Ad (λk=>(f k).d) ?_
  ·simp[z]
  ·intro k t
   obtain⟨_,_,_,_,J⟩:=j k;have H:=J Ad c;simp[JpD k 'c',H,L]
 have hO:∀p∈(List.range m).map f,p.ok/\p.isRest=Fo/\p.srt:=by intro p x;rw[Zz]at x;obtain⟨k,_,rfl⟩:=x;exact⟨(j k).1,(j k).2.1,(j k).2.2.1⟩
 have s:(qA ('ǎ'.map f)).Sublist names4:=(Jha f (λk=>(j k).2.2.2.1) m Ad).trans QQ;have u:('ǎ'.map f).length<=M:=by simp;lia
 generalize 'ǎ'.map f=h at r hO u s;have o:h.length<16777216:=by lia
 have w:=Jnk h;have C:=JoV ns;obtain⟨q,U,eq⟩:=pick ns (at_+1) 4 Ad Ax;refine⟨h,decide (q=0),hO,s,u,λc=>?_⟩;by_cases y:q=0
 ·subst y;simp[Jcd,pW,r,eq,w,C,lineD,o,D.imm,imms,Part.d]
 ·have F:((q:Int)==0)=Fo:=by
   rw[Zq];lia
  simp[Jcd,pW,r,eq,w,F,y,lineD]
theorem patS(ns:A0)(h:Int)(s:0<=h)(M:Nat)(q:M<=4):∃ps:List Part,(∀p∈ps,p.ok)/\rF ps/\ps.length<=M+1/\(∀p∈ps,p.srt)/\(qA ps).Sublist names5/\((∀p∈ps,aM=Fo)->Ar<=M)/\∀c,runD defs (c+4) 32 [ofN ns,.int h,.int M]=.ok Ip:=by
 obtain⟨u,b,j,m,r,t⟩:=patQ ns h s M q;refine⟨_,?_,?_,?_,?_,?_,?_,t⟩<;>cases b
 ·simpa using λp f=>(j p f).1
 ·simp only[if_true];intro p f;rcases ZC.mp f with f|f
  ·exact(j p f).1
  ·rw[ZZ.mp f];trivial
 ·simpa using Jig _ λp f=>(j p f).2.1
 ·exact Jhk _ (λp f=>(j p f).2.1) _
 ·simp;lia
 ·simp;lia
 ·simpa using λp f=>(j p f).2.2
 ·simp only[if_true];intro p f;rcases ZC.mp f with f|f
  ·exact(j p f).2.2
  ·rw[ZZ.mp f];trivial
 ·simp only[Zo,ZN,zD];exact m.trans (List.sublist_append_left names4 [S "r"])
 ·simp only[if_true,qA,List.flatMap_append];exact m.append (List.Sublist.refl [S "r"])
 ·simpa using λ_=>r
 ·exactλo=>absurd (o (.rest (S "r")) Af) (by simp[Part.isRest])
def pat(ns:A0)(b:Int)(r:0<=b)(M:Nat)(m:M<=4):∃ps:List Part,(∀p∈ps,p.ok)/\rF ps/\ps.length<=M+1/\(∀p∈ps,p.srt)/\(qA ps).Sublist names5/\∀c,runD defs (c+4) 32 [ofN ns,.int b,.int M]=.ok Ip:=
 let⟨ps,f,j,o,s,q,_,h⟩:=patS ns b r M m
 ⟨ps,f,j,o,s,q,h⟩
noncomputable def Part.kind:Part->Str
 |.word _=>S "word"
 |.one _ _=>S "one"
 |.any _=>S "any"
 |.number _=>S "number"
 |.rest _=>S "rest"
noncomputable def numW (w:Str):Bool:=w==S "7"||w==S "0"||w==S "55"||w==S "1"
def num (w:Str):Int:=digs w.cps.toList
def Part.fits (p:Part) (w:Str):Bool:=match p with
 |.word x=>w==x
 |.one _ b=>b.any (λv=>v==w)
 |.number _=>numW w
 |_=>To
def Part.valD (p:Part) (w:Str):D:=match p with
 |.number _=>.int (num w)
 |_=>.str w
noncomputable def Part.val (p:Part) (w:Str):List D:=if p.isWord then[]else[.tup [.str Qb4,p.valD w]]
noncomputable def lawM:List Part->List Str->Option cI
 |[],a=>if a.isEmpty then So []else No
 |p::ps,a=>if p.isRest then So [.tup [.str Qb4,.tup (a.map .str)]]else match a with
  |[]=>No
  |w::a=>if p.fits w then(lawM ps a).map (p.val w++·)else No
def cut1(x:α)(xs:AD):cutD (x::xs) (So 1) No=xs:=by simp[cutD,six]
def hole(p:Part)(c:Nat):runD defs AS 8 [p.d]=.ok (.bl (!p.isWord)):=by cases p<;>simp[JmU,JdM,Part.d,Part.isWord]
structure Row where
 l:Str
 ps:List Part
variable{t:AL}{r:Row}
def Row.pd (r:Row):D:=.tup Nv
noncomputable def Row.d (r:Row):D:=.tup Kl
structure Row.Ok(M:Nat)(r:Row):Prop where
 ok:∀p∈r.ps,p.ok
 rl:rF r.ps
 len:r.ps.length<=M+1
 srt:∀p∈r.ps,p.srt
 hol:(qA r.ps).Sublist names5
 fix:(∀p∈r.ps,aM=Fo)->aZ<=M
noncomputable def labs:List Str:=[S "t",S "p",S "v",S "q",S "u",S "s"]
noncomputable def lab (k:Nat):Str:=labs.getD k (S "")
theorem JvW(k:Nat)(h:k<6):atD Vb (k:Int)=So (.str (lab k)):=by
 match k,h with
 |0,_=>rfl
 |1,_=>rfl
 |2,_=>rfl
 |3,_=>rfl
 |4,_=>rfl
 |5,_=>rfl
 |n+6,h=>lia
theorem JkL(m:Nat)(h:m<=6):'ǎ'.map lab=labs.take m:=by
 match m,h with
 |0,_=>rfl
 |1,_=>rfl
 |2,_=>rfl
 |3,_=>rfl
 |4,_=>rfl
 |5,_=>rfl
 |6,_=>rfl
 |n+7,h=>lia
theorem table(ns:A0)(at_:Int)(L:0<=at_)(M:Nat)(G:M<=4)(R:Nat)(N:R<=6):∃rows:List Row,(∀r∈rows,r.Ok M)/\rows.map bL=labs.take Bu/\rows.length<=R/\∀c,runD defs (c+5) 33 [ofN ns,.int at_,.int M,.int R]=.ok Do:=by
 obtain⟨m,j,u⟩:=pick ns at_ ((R:Int)+1) L Ad;have j:m<=R:=by lia
 have o:∀k:Nat,∃r:Row,r.Ok M/\r.l=lab k/\∀c,runD defs (c+4) 32 [ofN ns,.int (at_+1+30*k),.int M]=.ok r.pd:=by intro k;obtain⟨B,F,x,E,w,H,y,C⟩:=patS ns (at_+1+30*k) Ad M G;exact⟨⟨lab k,B⟩,⟨F,x,E,w,H,y⟩,rfl,C⟩
 obtain⟨f,b⟩:=gR.mp o;have h:smallI 30=To:=by decide
 refine⟨'ǎ'.map f,?_,?_,?_,λc=>?_⟩
 ·intro r q;rw[Zz]at q;obtain⟨k,_,rfl⟩:=q;exact(b k).1
 ·rw[Zr,Zj,pR,<-JkL m 'c'];exact vD λk _=>(b k).2.1
 ·simpa using j
 ·have z:=Jil (runD defs (c+4)) [So ES,So BC,So (.int M),So (.int R),So (.lst Vb),So (.int m)] FM
   'Ҝ' m Af Ad (λk=>(f k).d) (by
    intro k o;have I:=(b k).2.2 c;have A:=JvW k Ad;refine mE _ _ (J:=[.str (f k).l,(f k).pd]) ?_ Af;rw[(b k).2.1];simp[A,I,h])
  have s:=u AR;rw[Jii,Jca];rw[nA _ _ (d:=.lst Vb) _ rfl,nA _ _ (d:=.int m) _ (by simp[s]),JB];rw[Zr];exact JC _ _ z rfl
def hit (a:Ag) (r:Row):Bool:=(lawM r.ps a).isSome
def row0(r:Row)(O:Fm)(U:Ae)(i:Nat)(h:O[i]? =So (So r.d)):evD U Tt O=.ok (.str r.l):=by simp[h,Row.d]
def row1(r:Row)(O:Fm)(U:Ae)(i:Nat)(h:O[i]? =So (So r.d)):evD U O3 O=.ok r.pd:=by simp[h,Row.d]
def qI(x y:Str):op2 .eq Cu Hc=.ok (.bl (x==y)):=by rw[o_eq _ _ (by simp[D.dep]) (by simp[D.dep])];rfl
noncomputable def nm9:List Str:=[S "a",S "b",S "home",S "x"]
noncomputable def lb9:List Str:=[S "at",S "ap",S "av",S "bt",S "bp",S "bv",S "ct",S "cp",S "cv"]
def names9:List Str:=names5++nm9++lb9
def words9:List Str:=ws9++names5
def is_word(w:Str)(h:w∈words9)(c:Nat):runD defs AR 1 [.str w]=.ok B0:=by simp only[words9,ws9,names5,lC,yL,Ze,ZK,lA]at h;rcases h with rfl|rfl|rfl|rfl|rfl|rfl|rfl|rfl|rfl|rfl|rfl|rfl|rfl|rfl<;>rfl
def is_name(w:Str)(h:w∈names9)(c:Nat):runD defs AR 2 [.str w]=.ok B0:=by simp only[names9,nm9,lb9,names5,lC,yL,Ze,ZK,lA]at h;rcases h with rfl|rfl|rfl|rfl|rfl|rfl|rfl|rfl|rfl|rfl|rfl|rfl|rfl|rfl|rfl|rfl|rfl|rfl<;>rfl
def Part.vp:Part->Prop
 |.word x=>x∈words9
 |.one n b=>n∈names9/\(∀w∈b,w∈words9)/\b≠[]/\b.length<=4/\b.Pairwise LtS
 |.any n=>n∈names9
 |.number n=>n∈names9
 |.rest n=>n∈names9
def JA(J:Aq)(lo hi:Int)(c:Nat):runD defs AS 3 [.tup J,.int lo,.int hi]=.ok (.bl (decide (lo<=(Ac:Int))&&decide ((Ac:Int)<=hi))):=by rw[JfQ,Jba,JB];exact zA _ _ (p:=To) rfl λ_=>zA _ _ Pv λ_=>Jh _ _ rfl rfl rfl
def are_words(ws:Ag)(h:∀w∈ws,w∈words9)(f:Cw<=1000)(c:Nat):runD defs A4 4 KY=.ok B0:=by rw[Jee,qW,JB];have:=oF Iq LI (src:=.walk Ap) (e:=.call 1 Df) Y3 (λ_=>D.bl To) rfl f λw b=>Jf _ _ rfl (is_word w (h w b) c);refine JC _ _ this ?_;have:=JK (λ_:Str=>To) ws;simp[op1,this]
def Jic:∀a b:List Str,zipD (a.map .str) (b.map .str)=(a.zip b).map λp=>.tup [.str p.1,.str p.2]
 |[],b=>by simp[zipD]
 |x::a,[]=>by simp[zipD]
 |x::a,y::b=>by simp[zipD,Jic a b]
def JjI:∀f:List Str,f.Pairwise LtS->∀p∈f.zip (f.drop 1),LtS p.1 p.2
 |[],_,p,b=>by simp at b
 |[x],_,p,b=>by simp at b
 |x::y::f,h,p,b=>by
  simp only[List.drop_succ_cons,List.drop_zero,iG,Ze]at b
  rw[jG]at h
  rcases b with rfl|b
  ·exact h.1 y Af
  ·exact JjI (y::f) h.2 p (by simpa using b)
theorem JuH(ws:Ag)(h:∀w∈ws,w∈words9)(f:ws≠[])(B:Cw<=4)(A:ws.Pairwise LtS)(c:Nat):runD defs (c+4) 6 KY=.ok B0:=by
 have b:=JA DH 1 4 AR;have o:=are_words ws h Ad c;have j:1<=Cw:=by
  cases ws with
  |nil=>exact absurd rfl f
  |cons a t=>simp
 have z:(decide ((1:Int)<=('Ʋ'.length:Int))&&decide (('Ʋ'.length:Int)<=4))=To:=by rw[Zj,Zc,Zs,Zs];lia
 rw[z]at b;have u:evD LK WJ LI=.ok Bq:=
  lE _ _ (p:=Fo) (q:=Fo) VH λ_=>Jq _ _ (JD _ _ (Jf _ _ rfl o))
 rw[JaF,JN,Jm _ _ _ _ u,if_neg 'p',JB];have m:evD LK (.bi .zip Ap MY) LI=.ok (.lst ('ʅ'.map λp=>.tup [.str p.1,.str p.2])):=by
  refine Jh _ _ (x:=.tup DH) (y:=.tup ('ǒ'.map .str)) rfl ?_ (by rw[Jms,Jic]);cases ws with
  |nil=>exact absurd rfl f
  |cons w t=>simp[cut1,op1]
 have:=JpB LK LI (e:=.bi .lt Ap AW) (λp:Str×Str=>.str p.1) (λp=>.str p.2) (λp=>.bl (ltS p.1 p.2)) m DL λp _=>rfl;refine JC _ _ this ?_;rw[show(λp:Str×Str=>D.bl (ltS p.1 p.2))=λp=>D.bl ((λp:Str×Str=>ltS p.1 p.2) p)from rfl];have s:=JK (λp:Str×Str=>ltS p.1 p.2) 'ʅ';simp only[op1,s];congr 2;rw[rE,wA];intro p j;have:=JjI ws A p j;simp only[ZL,id,ltS,Zs];exact this
def is_part(p:Part)(h:p.vp)(c:Nat):runD defs (c+5) 7 [p.d]=.ok B0:=by
 cases p with
 |word x=>have b:=is_word x h AR;have f:=JA Qg 2 3 A4;simp[JV,JJ,Part.d,b,f,op1,qI,D.truth]
 |one n ws=>have b:=is_name n h.1 AR;have f:=JA Vx 2 3 A4;have j:=JuH ws h.2.1 h.2.2.1 h.2.2.2.1 h.2.2.2.2 c;simp[JV,JJ,Part.d,b,f,j,op1,qI,D.truth]
 |any n=>have b:=is_name n h AR;have f:=JA PK 2 3 A4;have j:op2 .isin (.str (S "any")) Iu=.ok B0:=rfl;simp[JV,JJ,Part.d,b,f,j,op1,qI,D.truth]
 |number n=>have b:=is_name n h AR;have f:=JA QV 2 3 A4;have j:op2 .isin (.str (S "number")) Iu=.ok B0:=rfl;simp[JV,JJ,Part.d,b,f,j,op1,qI,D.truth]
 |rest n=>have b:=is_name n h AR;have f:=JA Qcy 2 3 A4;have j:op2 .isin (.str GR) Iu=.ok B0:=rfl;simp[JV,JJ,Part.d,b,f,j,op1,qI,D.truth]
def has_twice(xs:Ag)(h:Ah<60)(c:Nat):runD defs AS 5 [.lst (xs.map .str)]=.ok (.bl (qB xs)):=by rw[Jio,JbT,JB];refine Jh _ _ (x:=.int (Jx xs).length) (y:=.int Ah) (JC _ _ rfl (by simp[op1,JT,h])) (JC _ _ rfl (by simp[op1])) ?_;simp[op2,qB]
def JiJ:∀b:List Part,(b.filter λp=>!p.isWord).map (λp=>D.str Qb4)=(qA b).map .str
 |[]=>rfl
 |p::b=>by
  have f:=JiJ b
  unfold qA at f⊢
  rw[zF,uA,<-f]
  unfold Part.hole
  cases h:p.isWord<;>simp[iD,h]
def JuM(p:Part)(O:Fm)(U:Ae)(i:Nat)(h:O[i]? =So (So p.d)):evD U O3 O=.ok (.str Qb4):=by cases p<;>simp[h,Part.d,Part.name]
def hole_names(ps:Bp)(b:Ar<=1000)(c:Nat):runD defs AR 9 F7=.ok (.lst ('Ԭ'.map .str)):=by rw[JgU,Jbz,JB,<-JiJ];exact JmN _ _ Y5 (λp=>!p.isWord) (λp=>.str Qb4) rfl b λp f=>⟨JD _ _ (Jf _ _ rfl (hole p c)),λ_=>JuM p _ _ 0 rfl⟩
def patB (ps:Bp):Bool:=decide (Ar<=6)&&!(ps.dropLast.any YZ)&&!(qB 'Ԭ')
def Jga(p:Part)(O:Fm)(U:Ae)(i:Nat)(h:O[i]? =So (So p.d)):evD U (.bi .eq Tt (.con (.str GR))) O=.ok (.bl aM):=by cases p<;>simp[h,Part.d,Part.isRest,qI]
theorem Jfx(xs:AD):cutD xs No (So (-1))=xs.dropLast:=by
 have b:(-1+(Ah:Int)).toNat=Ah-1:=by lia
 simp[cutD,six,b,List.dropLast_eq_take]
theorem JdT:∀ps:List Part,'Ԭ'.length<=Ar
 |[]=>by simp[qA]
 |p::ps=>by
  have:=JdT ps
  have b:p.hole.length<=1:=by
   unfold Part.hole;split<;>simp
  have e:qA (p::ps)=p.hole++qA ps:=by simp[qA]
  rw[e,Zi,Zm];lia
theorem is_pattern(ps:Bp)(h:∀p∈ps,p.vp)(w:Ar<60)(c:Nat):runD defs (c+6) 10 F7=.ok (.bl (patB ps)):=by
 have b:=JA Of 0 6 (c+4);rw[show(decide ((0:Int)<=('ƪ'.length:Int))&&decide (('ƪ'.length:Int)<=6))=decide (Ar<=6)from by
  rw[Zj,ZD 'c',lM];exact decide_eq_decide.mpr Ad]at b
 have u:evD FT W8 He=.ok B0:=by refine JC _ _ (oF _ _ Y5 (λ_=>D.bl To) rfl Ad λp f=>Jf _ _ rfl (is_part p (h p f) c)) ?_;have:=JK (λ_:Part=>To) ps;simp[op1,this]
 have j:evD FT S8 He=.ok V5:=by
  have o:evD FT Tj He=.ok VA:=by have:=Jfx Of;simp[op1,this,D.walk,List.map_dropLast]
  refine JC _ _ (oF _ _ Y5 Qn o DL λp f=>Jga p _ _ 0 rfl) ?_;have:=JK YZ ps.dropLast;simp only[op1,this,vL,ZL];rfl
 have s:=hole_names ps Ad A4;have m:=has_twice 'Ԭ' (by have:=JdT ps;lia) (c+4);rw[Jbp,uP];rw[Jm _ _ _ _ (lE _ _ (p:=!decide (Ar<=6)) (q:=Fo) VH λ_=>Jq _ _ (JD _ _ u))];rw[Jm _ _ _ _ (JD _ _ j),JB,Jq _ _ (Jf _ _ (Jf _ _ rfl s) m)];unfold patB;cases decide (Ar<=6)<;>cases ps.dropLast.any YZ<;>simp
def is_row(r:Row)(o:r.l∈names9)(h:∀p∈r.ps,p.vp)(f:r.ps.length<60)(c:Nat):runD defs (c+7) 11 [r.d]=.ok (.bl (patB r.ps)):=by have b:=JA Kl 2 2 (c+5);have j:=is_name r.l o (c+4);have m:=is_pattern r.ps h f c;rw[Jis,iV,JB];show _=Rs.ok (D.bl (To&&(To&&patB r.ps)));exact zA _ _ (Jr _ _ rfl b) λ_=>zA _ _ (Jf _ _ LP j) λ_=>Jf _ _ LO m
def tabB (rows:AL):Bool:=decide (Bu<=8)&&rows.all (λr=>patB r.ps)&&!qB 'ƶ'
def is_table(rows:AL)(j:∀r∈rows,r.l∈names9)(h:∀r∈rows,∀p∈r.ps,p.vp)(s:∀r∈rows,aZ<60)(u:Bu<60)(c:Nat):runD defs B8 12 KS=.ok (.bl (tabB rows)):=by
 have f:=JA IE 0 8 (c+6);rw[show(decide ((0:Int)<=('ƥ'.length:Int))&&decide (('ƥ'.length:Int)<=8))=decide (Bu<=8)from by
  rw[Zj,ZD 'c',lM];exact decide_eq_decide.mpr Ad]at f
 have w:evD Da Xd Qcq=.ok (.bl (rows.all λr=>patB r.ps)):=by refine JC _ _ (oF _ _ YL (λr=>D.bl (patB r.ps)) rfl Ad λr b=>Jf _ _ rfl (is_row r (j r b) (h r b) (s r b) c)) ?_;have:=JK (λr:Row=>patB r.ps) rows;simp[op1,this,rE,ZL]
 have m:evD Da Ua Qcq=.ok (.lst ('ƶ'.map .str)):=by rw[Zr];exact oF _ _ YL SU rfl Ad λr _=>row0 r _ _ 0 rfl
 have o:=has_twice 'ƶ' (by simpa using u) (c+6);rw[JcE,yP];rw[Jm _ _ _ _ (lE _ _ (p:=!decide (Bu<=8)) (q:=!(rows.all λr=>patB r.ps)) (Jq _ _ (JD _ _ (Jr _ _ rfl f))) λ_=>Jq _ _ (JD _ _ w))];rw[JB,Jq _ _ (Jf _ _ m o)];unfold tabB;cases decide (Bu<=8)<;>cases rows.all (λr=>patB r.ps)<;>simp
def JwQ(p:Part)(h1:p.ok)(h:p.srt)(f:p.isWord=Fo->p.name∈names5):p.vp:=by
 have b:∀n∈names5,n∈names9:=by decide+kernel
 have j:∀n∈ws9,n∈words9:=by decide+kernel
 cases p with
 |word x=>exact j x h1
 |one n o=>exact⟨b n Qaz,λw m=>j w (h1.1 w m),h1.2,Zy h.2 Ax,h.1.1⟩
 |any n=>exact b n Qaz
 |number n=>exact b n Qaz
 |rest n=>exact b n Qaz
def JgB(ps:Bp)(p:Part)(b:p∈ps)(f:p.isWord=Fo):p.name∈qA ps:=by unfold qA;rw[List.mem_flatMap];exact⟨p,b,by simp[Part.hole,f]⟩
def Row.Ok.vp{M:Nat}(h:r.Ok M):∀p∈r.ps,p.vp:=λp b=>JwQ p (h.ok p b) (h.srt p b) λf=>h.hol.subset (JgB r.ps p b f)
def Jcs:∀b:List Part,rF b->b.dropLast.any YZ=Fo
 |[],_=>rfl
 |[p],_=>rfl
 |p::q::b,h=>by
  rw[List.dropLast_cons₂,uD]
  have f:rF (q::b)/\p.isRest=Fo:=by
   refine⟨h.2,?_⟩;cases j:p.isRest with
   |false=>rfl
   |true=>exact absurd (h.1 j) Af
  rw[f.2,Jcs (q::b) f.1];rfl
def names5_nodup:names5.Nodup:=by decide+kernel
def Row.Ok.pat{M:Nat}(h:r.Ok M)(m:M<=5):patB r.ps=To:=by have j:=h.len;have f:=Jcs r.ps h.rl;have b:=Jih (names5_nodup.sublist h.hol);unfold patB;rw[f,b,ZD 'c'];rfl
def xO(U:Ae)(O:Fm){c:Px}{p:Bool}(x:Str)(rest:Sx)(b:evD U c O=.ok Cq):Jd (exD U (.seq (.ite c (.raise x .nil) .skip) rest) O)=if p then .ex x else Jd Kw:=by
 rw[JU,vH,b];cases p with
 |true=>simp[lK]
 |false=>simp
noncomputable def mntR (hs:Bp) (r:Row):Row:=⟨r.l,hs++r.ps⟩
def mounted(hs:Bp)(q:∀p∈hs,p.vp)(u:hs.length<=20)(rows:AL)(h:∀r∈rows,∀p∈r.ps,p.vp)(f:∀r∈rows,aZ<=20)(j:Bu<=1000)(c:Nat):
  runD defs (c+7) 13 [.tup RQ,.tup IE]=if rows.all (λr=>patB (hs++r.ps))then .ok (.tup ('Ϲ'.map YL))else .ex HV:=by
 have o:=oF (runD defs (c+6)) [So D4,So Do,No] (src:=.walk AW) (e:=.tup Xc) YL (λr=>'Կ'.d) rfl j λr b=>by have:=f r b;refine mE _ _ (J:=[.str r.l,'Կ'.pd]) (Jj _ _ LP (Jj _ _ (Jh _ _ (x:=.tup RQ) rfl LO ?_) rfl)) Af;unfold Row.pd mntR;rw[JlP 'Ï',uA]
 rw[Jlj,Jeq,nA _ _ (d:=.tup ('Ϲ'.map YL)) _ (JC _ _ o (by rw[Zr];rfl))];simp only[List.set];have s:evD (runD defs (c+6)) Xt [So D4,So Do,So (.tup ('Ϲ'.map YL))]=.ok (.bl (rows.all λr=>patB (hs++r.ps))):=by
  refine JC _ _ (oF _ _ (rs:=rows) (λr=>'Կ'.d) (λr=>D.bl (patB (hs++r.ps))) (by simp[D.walk,Zr,ZL]) j λr b=>?_) ?_
  ·have:=f r b;refine Jf _ _ (row1 'Կ' _ _ 0 rfl) (is_pattern (hs++r.ps) ?_ DL c);intro p m;rw[ZC]at m;exact m.elim (q p) (h r b p)
  ·have:=JK (λr:Row=>patB (hs++r.ps)) rows;simp only[op1,this,rE,ZL];rfl
 rw[xO _ _ _ _ (Jq _ _ (JD _ _ s)),JB];cases rows.all λr=>patB (hs++r.ps)<;>rfl
def joined(f b:AL)(h:f.length+b.length<60)(c:Nat):runD defs AR 14 [.tup (f.map YL),.tup (b.map YL)]=if decide ((f++b).length<=8)&&!qB ((f++b).map bL)then .ok (.tup ((f++b).map YL))else .ex HV:=by
 have m:op2 .add (.tup (f.map YL)) (.tup (b.map YL))=.ok (.tup ((f++b).map YL)):=by rw[JlP 'Ï',uA]
 rw[Jos,Jfm,nA _ _ (d:=.tup ((f++b).map YL)) _ 'ɣ'];simp only[List.set];have j:(f++b).length<60:=by simpa using h
 generalize f++b=rs at j;have o:evD EI Vn XR=.ok (.bl (!decide (Qda<=8))):=by
  refine Jh _ _ (x:=.int Qda) (y:=.int 8) (JC _ _ rfl (by simp[op1])) rfl ?_;simp only[op2,onII];congr 2;by_cases q:rs.length<=8
  ·rw[ZD q,Zp 'c'];rfl
  ·rw[Zp q,ZD 'c'];rfl
 have s:evD EI Vm XR=.ok (.lst ((rs.map bL).map .str)):=by rw[Zr];exact oF _ _ YL SU rfl Ad λr _=>row0 r _ _ 0 rfl
 have u:=has_twice (rs.map bL) (by simpa using j) c;rw[xO _ _ _ _ o,xO _ _ _ _ (JD _ _ (Jf _ _ s u)),JB];cases decide (Qda<=8)<;>cases qB (rs.map bL)<;>rfl
noncomputable abbrev Kn:=List (Str×List Row)
variable{A:Kn}
noncomputable def tD (rows:AL):D:=.tup IE
noncomputable def ksD (A:Kn):List D:=A.map λp=>.str p.1
def vsD (A:Kn):List D:=A.map λp=>tD p.2
noncomputable def look (n:Str):Kn->Option eY
 |[]=>No
 |p::A=>if p.1==n then So p.2 else look n A
def Jqe(n:Str):∀A:Kn,oA By TK FH='Ŕ'.map tD
 |[]=>rfl
 |p::A=>by
  have b:=Jqe n A
  unfold ksD vsD at b⊢
  simp only[Zg,oA,wH,look,b]
  split<;>rfl
def gN(n:Str):∀A:Kn,'Ј'.any Ov='Ŕ'.isSome
 |[]=>rfl
 |p::A=>by
  have b:=gN n A
  unfold ksD at b⊢
  simp only[Zg,uD,wH,look,b]
  cases p.1==n<;>rfl
def put (n:Str) (t:AL) (A:Kn):Kn:=if(look n A).isSome then A.map (λp=>(p.1,if p.1==n then t else p.2))else A++[(n,t)]
def JwL(n:Str)(t:AL):∀A:Kn,setD By (tD t) TK FH=A.map λp=>tD (if p.1==n then t else p.2)
 |[]=>rfl
 |p::A=>by
  have b:=JwL n t A
  unfold ksD vsD at b⊢
  simp only[Zg,setD,wH,b]
  by_cases q:(p.1==n)=To<;>simp[q]
def put_D(n:Str)(t:AL)(A:Kn):putD By (tD t) TK FH=(ksD Gm,vsD Gm):=by
 unfold putD put;rw[gN];cases look n A with
 |none=>simp[ksD,vsD]
 |some x=>simp only[kG,if_true,JwL];simp[ksD,vsD,Zr,ZL]
noncomputable def del (n:Str) (A:Kn):Kn:=A.filter λp=>!(p.1==n)
def Jvy(n:Str):∀A:Kn,delD By TK FH=(ksD Dk,vsD Dk)
 |[]=>rfl
 |p::A=>by
  have b:=Jvy n A
  unfold ksD vsD del at b⊢
  simp only[Zg,delD,wH,b,iD]
  cases p.1==n<;>simp
def look_put(n m:Str)(t:AL):∀A:Kn,look m Gm=if n==m then So t else look m A:=by
 have o:∀A:Kn,look m (A++[(n,t)])=match look m A with|some x=>So x|none=>if n==m then So t else No:=λA=>by
  induction A with
  |nil=>simp[look]
  |cons p A b=>simp only[lC,look,b];split<;>rfl
 have u:∀A:Kn,'Ŕ'.isSome=To->look m (A.map λp=>(p.1,if p.1==n then t else p.2))=if n==m then So t else look m A:=λA=>by
  induction A with
  |nil=>intro h;cases h
  |cons p A b=>
   intro h;simp only[Zg,look]at h⊢;by_cases q:p.1=n
   ·subst q;have e:(p.1==p.1)=To:=by simp
    simp only[e,if_true];cases z:p.1==m with
    |true=>rfl
    |false=>
     simp only[Zo,ZN];cases y:(look p.1 A).isSome with
     |true=>rw[b y,z];rfl
     |false=>
      have:∀B:Kn,(look p.1 B).isSome=Fo->look m (B.map λr=>(r.1,if r.1==p.1 then t else r.2))=look m B:=λB=>by
       induction B with
       |nil=>intro _;rfl
       |cons r B f=>
        intro hB;simp only[Zg,look]at hB⊢;cases w:r.1==p.1 with
        |true=>rw[w]at hB;cases hB
        |false=>rw[w]at hB;simp only[Zo,ZN]at hB⊢;rw[f hB]
      exact this A y
   ·have e:(p.1==n)=Fo:=by rw[Zq];exact q
    simp only[e,Zo,ZN]at h⊢;rw[b h];cases z:p.1==m with
    |true=>have:n≠m:=λs=>q (by rw[s];exact eq_of_beq z);simp[this]
    |false=>simp
 intro A;unfold put;split
 ·exact u A (by assumption)
 ·rename_i j;rw[o];by_cases q:n=m
  ·subst q;cases z:look n A with
   |none=>rfl
   |some x=>rw[z]at j;exact absurd rfl j
  ·have e:(n==m)=Fo:=by rw[Zq];exact q
   rw[e];cases look m A<;>rfl
def JfB(n m:Str):∀A:Kn,look m Dk=if n==m then No else look m A
 |[]=>by simp[del,look]
 |p::A=>by
  have b:=JfB n m A
  unfold del at b⊢
  simp only[iD]
  by_cases q:p.1=n
  ·subst q
   simp only[ZJ,kM,Zo,ZN,b,look]
   cases z:p.1==m<;>simp
  ·have e:(p.1==n)=Fo:=by rw[Zq];exact q
   simp only[e,Bool.not_false,if_true,look,b]
   cases z:p.1==m with
   |true=>
    have:n≠m:=λf=>q (by rw[f];exact eq_of_beq z)
    simp[this]
   |false=>simp
noncomputable def kys (A:Kn):List Str:=A.map (·.1)
def look_mem(n:Str):∀A:Kn,'Ŕ'.isSome=To↔n∈kys A
 |[]=>by simp[look,kys]
 |p::A=>by
  have b:=look_mem n A
  unfold kys at b⊢
  simp only[look,Zg,Ze]
  by_cases q:p.1=n
  ·simp[q]
  ·have e:(p.1==n)=Fo:=by rw[Zq];exact q
   rw[e]
   simp only[Zo,ZN,b]
   constructor
   ·exact .inr
   ·rintro(z|z)
    ·exact absurd z.symm q
    ·exact z
structure TabOk(t:AL):Prop where
 lb:∀r∈t,r.l∈names9
 vp:∀r∈t,∀p∈r.ps,p.vp
 pt:∀r∈t,patB r.ps=To
 ln:t.length<=8
 nt:qB (t.map bL)=Fo
structure KOk(A:Kn):Prop where
 nd:'ĵ'.Nodup
 nm:∀n∈kys A,n∈nm9
 tb:∀n t,look n A=So t->TabOk t
def zZ(n:Str)(t:AL)(A:Kn)(h:'ĵ'.Nodup):(kys Gm).Nodup:=by
 unfold put;split
 ·simpa[kys,Zr,ZL]using h
 ·rename_i q;have j:n∉kys A:=λz=>q ('丂'.mpr z);unfold kys at h j⊢;rw[uA,oR];refine⟨h,by simp,λa m b f=>?_⟩;simp only[Zg,sE,ZZ]at f;subst f;exactλz=>j (z▸m)
def Jwt(n:Str)(A:Kn)(h:'ĵ'.Nodup):(kys Dk).Nodup:=h.sublist (List.filter_sublist.map _)
def JqD{B:Kn}{n:Str}(f:Y0)(j:n∈nm9)(o:EC)(h:∀m,look m B=if n==m then So t else look m A)(w:(kys B).Nodup):KOk B:=by
 refine⟨w,λm s=>?_,λm u b=>?_⟩
 ·have:=(look_mem m B).mpr s;rw[h]at this;by_cases q:n=m
  ·exact q▸j
  ·rw[show(n==m)=Fo from by rw[Zq];exact q]at this;exact f.nm m ('七'.mp (by simpa using this))
 ·rw[h]at b;split at b
  ·cases b;exact o
  ·exact f.tb m u b
def Jrz(n:Str)(f:Y0):KOk Dk:=by
 refine⟨Jwt n A f.nd,λm h=>?_,λm u b=>?_⟩
 ·have:=(look_mem m _).mpr h;rw[JfB]at this;split at this
  ·cases this
  ·exact f.nm m ('七'.mp this)
 ·rw[JfB]at b;split at b
  ·cases b
  ·exact f.tb m u b
def JrF(p:Part):Jl p.d=To:=by
 have:∀b:List Str,Jg (b.map Y3)=To:=λb=>by
  induction b with
  |nil=>rfl
  |cons w b f=>simpa[Jg,Jl]using f
 cases p<;>simp[Part.d,Jl,Jg,this]
def gP:∀ps:List Part,Jg Of=To
 |[]=>rfl
 |p::ps=>by simp[Jg,JrF p,gP ps]
def Jni:∀t:List Row,Jg Mx=To
 |[]=>rfl
 |r::t=>by simp[Jg,Row.d,Row.pd,Jl,gP r.ps,Jni t]
def iB(t:AL):Jl (tD t)=To:=by simp[tD,Jl,Jni]
def gK:∀A:Kn,Jg FH=To
 |[]=>rfl
 |p::A=>by
  have b:=gK A
  unfold vsD at b⊢
  simp[Jg,iB,b]
def Jtn(A:Kn):JQ TK=So Fs:=by have:=JT Fs;simpa[kys,ksD,Zr,ZL]using this
theorem Jwy(z:Bool)(A:Kn)(h:'ĵ'.Nodup)(b:A.length<60):op1 .sortD NZ=.ok (.lst ('ǹ'.map .str)):=by
 have e:'ĵ'.length=A.length:=by simp[kys]
 simp only[op1,Jtn];rw[if_pos ⟨h,by lia⟩]
def in_D(z:Bool)(n:Str)(A:Kn):op2 QaT By NZ=.ok (.bl 'Ŕ'.isSome):=by rw[<-gN];show(if Fo=Fo/\keyD Fo By=To then Rs.ok (D.bl _)else Rs.sk)=_;exact if_pos CU
def ni_D(z:Bool)(n:Str)(A:Kn):op2 (.dNi Fo) By NZ=.ok (.bl (!(look n A).isSome)):=by rw[<-gN];show(if Fo=Fo/\keyD Fo By=To then Rs.ok (D.bl _)else Rs.sk)=_;exact if_pos CU
def JrE(z:Bool){n:Str}(h:look n A=So t):op2 Vc NZ By=.ok (tD t):=by show(if Fo=Fo/\keyD Fo By=To then Rs.ofOpt _ else Rs.sk)=_;rw[if_pos 'ħ',Jqe,h];rfl
section
variable{w:Bool}{U:Ae}{bc:AG}{s:Bs}{env1:Fm}{r:Bool}{f:Nat}{ns:Ag}{p:Px}{fs:Aq}{J:Aq}{d st:D}{c:Str}
def lB{b:Bs}(h:exO w U bc s O=.ok .nx env1):exO w U bc (.seq s b) O=exO w U bc b env1:=by simp only[exO,h,Rq.bind]
def oI{b:Bs}(h:exO w U bc s O=.ex c env1):exO w U bc (.seq s b) O=.ex c env1:=by simp only[exO,h,Rq.bind]
def rS(h:evD U p O=.ok d)(b:Jl d=To):exO w U bc (.set i aW) O=.ok .nx Gq:=by simp only[exO,evB,h,Rx.of,Rx.next,b,if_true]
def xT(h:evD U p O=.ex c):exO w U bc (.set i aW) O=.ex c O:=by simp only[exO,evB,h,Rx.of,Rx.next]
def iE{x y:Bs}{b:Bool}(h:evD U p O=.ok Bt):exO w U bc (.ite aW x y) O=if b then exO w U bc x O else exO w U bc y O:=by simp only[exO,evB,h,Rx.of,Rx.next];cases b<;>rfl
def JtW(h1:O[i]? =So QaA)(h:evD U p O=.ok BL)(j:(plE C5&&Jg J)=To)(b:bc f B2 J=.ok d st):evB U bc Ou O=.ok d Hr:=by simp only[evB,h1,h,j,if_true,b,Rx.lay]
def jK(h1:O[i]? =So QaA)(h:evD U p O=.ok BL)(j:(plE C5&&Jg J)=To)(b:bc f B2 J=.ok d st):exO w U bc (.eff Ou) O=.ok .nx Hr:=by simp only[exO,JtW h1 h j b,Rx.next]
def a_nx{q:Rq}(h:q=.ok .nx (So Ij::e)):ansB B2 q=.ok .non Ij:=by simp[h,ansB,jE]
def a_rt{q:Rq}(h:q=.ok CJ (So Ij::e)):ansB B2 q=.ok d Ij:=by simp[h,ansB,jE]
def a_ex{q:Rq}(h:q=.ex c (So Ij::e)):ansB B2 q=.ex c Ij:=by simp[h,ansB,jE]
end
def ob (a:Nat) (A:Kn) (dn un:Aq):D:=.obj a nsS [.dct Fo Fo TK FH,.mls eZ dn,.mls IQ un]
structure Dn(dn un:Aq):Prop where
 pl:Jg dn=To
 ln:dn.length<1000
 pu:Jg un=To
def plains_app:∀f b:List D,Jg (f++b)=(Jg f&&Jg b)
 |[],b=>rfl
 |x::f,b=>by simp[Jg,plains_app f b,Bool.and_assoc]
section
variable{n:Str}{d:D}
def Jsj(h:Cs)(b:plE O=To):chgM To eZ (appG eZ d) (So AM::O)=.ok .nx (So (ob a A (dn++[d]) un)::O):=by simp[chgM,ob,nsS,S,List.lookup,appG,h.pl,h.pu,h.ln,putN,othD,b,gK,Jg,Jl,tP]
def JsS(h:Cs)(b:plE O=To):chgF IQ (.mls IQ []) (So AM::O)=.ok .nx (So Qcg::O):=by simp[chgF,ob,nsS,S,putN,jI,h.pl,h.pu,b,gK,Jg,Jl,tP]
def Jsc(h:Cs)(f:A.length<1000)(b:plE O=To):chgM Fo (S "tables") (putG By (tD t)) (So AM::O)=.ok .nx (So QbM::O):=by
 have j:'Ј'.length<1000:=by simpa[ksD]using f
 simp[chgM,ob,nsS,S,List.lookup,putG,h.pl,h.pu,j,putN,othD,b,gK,Jg,Jl,put_D,tP]
def JsH(h:Cs)(j:'Ŕ'.isSome=To)(m:plE O=To):chgM Fo (S "tables") (popG By) (So AM::O)=.ok .nx (So QbN::O):=by
 have b:=gN n A;rw[j]at b;have f:popG By Lc=So (.dct Fo Fo (ksD Dk) (vsD Dk)):=by simp only[popG,gK,b,Bool.and_self,if_true,Jvy]
 simp[chgM,ob,nsS,S,List.lookup,f,h.pl,h.pu,putN,othD,m,gK,Jg,Jl,tP]
def Jfi(h:Cs)(f:A.length<1000)(c:Nat):runB defs bdefs AS 0 AM IH=.ok .non QbM:=by rw[JcW];refine a_nx (e:=Su) ?_;rw[sP,iE (b:=Fo) rfl,if_neg ZE];have:=Jsc (a:=a) (n:=n) (t:=t) h f (O:=Su) (by simp[plE,Jl,iB]);simp only[exO,evD,yJ,vE];rw[show(Jl (tD t)&&keyD Fo By)=To by rw[iB];rfl,if_pos rfl];exact this
def JnI(h:Cs)(f:'Ŕ'.isSome=To)(c:Nat):runB defs bdefs AS 0 AM [.str n,.non]=.ok .non QbN:=by rw[JcW];refine a_nx (e:=[So By,So .non]) ?_;rw[sP,iE (b:=To) rfl,if_pos rfl];exact JsH h f rfl
def optT:Option (List Row)->D
 |none=>.non
 |some t=>tD t
def uZ(o:Nr):Jl QcQ=To:=by
 cases o
 ·rfl
 ·exact iB _
def stp (w:Str) (n:Str) (o:Nr) (x:D):D:=.tup [.str w,.str n,optT o,x]
theorem do_step{A':Kn}{x:D}{w:Str}(h:Cs)(y:FU)(b:Jl x=To)(c:Nat)(u:∀dn,Dn dn []->runB defs bdefs AS 0 Qcg [.str n,x]=.ok .non (ob a A' dn [])):
  runB defs bdefs AR 1 AM [.str w,.str n,x]=.ok .non (ob a A' K2 []):=by
 rw[Jkl];have m:plE LY=To:=by simp[plE,Jl,b]
 have j:∀un,Jg un=To->Dn K2 un:=λun s=>⟨by simp[plains_app,h.pl,Jg,stp,Jl,uZ,b],by simp;lia,s⟩;refine a_nx (e:=LY) ?_;rw[gW,lB (env1:=So (ob a A K2 un)::LY),lB (env1:=So Qci::LY)]
 ·exact jK (O:=So Qci::LY) (i:=0) (J:=[.str n,x]) rfl rfl (by simp[plE,Jg,Jl,b]) (u _ (j [] rfl))
 ·exact JsS (j un h.pu) m
 ·have o:evD EI WE Vp=.ok (stp w n CT x):=by
   have f:evD EI DE Vp=.ok Lc:=rfl;refine mE _ _ (J:=[.str w,.str n,optT CT,x]) (Jj _ _ rfl (Jj _ _ rfl (Jj _ _ ?_ rfl))) Af;rw[e_if _ _ (Jh _ _ rfl f Qdv)];cases q:look n A with
   |none=>rfl
   |some t=>exact Jh _ _ f rfl e9
  simp only[exO,o];rw[show Jl (stp w n CT x)=To by simp[stp,Jl,Jg,uZ,b],if_pos rfl];exact Jsj h m
end
section
variable{n:Str}
def kZ:op1 eX AM=.ok AM:=by simp[op1,ob]
def Jix{n:Str}(h:n∈nm9):n∈names9:=by unfold names9;simp[h]
def table_of(f:n∈nm9)(c:Nat):runD defs A4 37 LU=match look n A with
  |some t=>.ok (tD t)
  |none=>.ex Gf:=by
 have h:runD defs A4 37 LU=Jd O0:=rfl;have b:evD Iq DE T4=.ok Lc:=rfl;rw[h,xP,xO _ _ _ _ (lE _ _ (p:=Fo) 'ή' λ_=>Jh _ _ rfl b Qdw),JB];cases q:look n A with
 |none=>rfl
 |some t=>exact Jh _ _ b rfl e9
def m_put(h:Cs)(o:FU)(j:A.length<1000)(f:n∈nm9)(c:Nat):runB defs bdefs A4 2 AM IH=.ok (.bl 'Ŕ'.isSome) (ob a Gm (dn++[stp Mb n CT (tD t)]) []):=by
 rw[JuW];have m:evD Iq DE Rh=.ok Lc:=rfl;refine a_rt (e:=[So By,So (tD t),So (.bl 'Ŕ'.isSome)]) ?_;rw[uT,lB (env1:=Rh)]
 ·rw[lB (rS (Jh _ _ rfl m Qdv) rfl)];simp only[List.set];rw[lB (jK (O:=[So AM,So By,So (tD t),So (.bl 'Ŕ'.isSome)]) (i:=0) (J:=PJ) rfl rfl (by simp[plE,Jg,Jl,iB]) (do_step h o (iB t) c λdn h=>Jfi h j c))];rfl
 ·rw[iE (b:=Fo) 'ή',if_neg ZE];rfl
def yZ(f:e[0]? =So (So AM))(hi:e[i]? =So (So By))(b:n∈nm9)(c:Nat):evD LK (.call 37 (.cons N1 (.cons CD .nil))) e=match look n A with
  |some t=>.ok (tD t)
  |none=>.ex Gf:=
 Jr _ _ (J:=LU) (Jj _ _ (JC _ _ (by rw[uH,f]) kZ) (Jj _ _ (by rw[uH,hi]) rfl)) (table_of b c)
def m_take(h:Cs)(m:FU)(j:n∈nm9)(c:Nat):runB defs bdefs (c+4) 3 AM dW=match look n A with
  |some t=>.ok (tD t) (ob a Dk (dn++[stp GQ n CT .non]) [])
  |none=>.ex Gf AM:=by
 rw[JrH,jU];have b:=yZ (a:=a) (A:=A) (dn:=dn) (un:=un) (e:=[So AM,So By,No]) (i:=1) rfl rfl j c;cases q:look n A with
 |none=>rw[q]at b;exact a_ex (e:=[So By,No]) (oI (xT b))
 |some t=>rw[q]at b;refine a_rt (e:=Su) ?_;rw[lB (rS b (iB t))];simp only[List.set];have f:=do_step (a:=a) (A:=A) (dn:=dn) (un:=un) (A':=del n A) (n:=n) (w:=S "take") (x:=.non) h m rfl AS λdn h=>JnI h (by rw[q];rfl) AS;rw[q]at f;rw[lB (jK (O:=[So AM,So By,So (tD t)]) (i:=0) (J:=[.str GQ,.str n,.non]) rfl rfl (by simp[plE,Jg,Jl,iB]) f)];rfl
variable{o:Str}{hs:Bp}
def mkT (hs:Bp) (u:AL):List Row:=u.map (mntR hs)
def okM (hs:Bp) (t u:AL):Bool:=u.all (λr=>patB (hs++r.ps))&&(decide ((t++mkT hs u).length<=8)&&!qB ((t++mkT hs u).map bL))
def Jmi{ps:Bp}(h:patB ps=To):Ar<=6:=by unfold patB at h;simp only[Zc,Zs]at h;exact h.1.1
theorem jm(h:∀p∈hs,p.vp)(E:hs.length<=6){u:AL}(C:EC)(f:TabOk u)(c:Nat){x y z:Px}(h1:evD Da x e=.ok (tD t))(s:evD Da y e=.ok D4)(B:evD Da z e=.ok (tD u)):
  evD Da (.call 14 (.cons x (.cons V4 .nil))) e=if okM hs t u then .ok (tD CA)else .ex HV:=by
 have j:=mounted hs h Ad u f.vp (λr m=>Zy (Jmi (f.pt r m)) Ax) (Zy f.ln Ax) c;have b:evD Da V4 e=if u.all (λr=>patB (hs++r.ps))then .ok (tD fA)else .ex HV:=Jr _ _ (J:=[.tup RQ,tD u]) (Jj _ _ s (Jj _ _ B rfl)) j;unfold okM;cases q:u.all λr=>patB (hs++r.ps)with
 |false=>rw[q]at b;simp only[Zo,ZN]at b;rw[mT,rD,h1,Rs.bo,rD,b];rfl
 |true=>rw[q]at b;have w:=joined t fA (by have:=C.ln;have:=f.ln;simp only[mkT,Zj];lia) (c+5);simp only[lM];exact Jr _ _ (J:=[tD t,tD fA]) (Jj _ _ h1 (Jj _ _ b rfl)) w
def m_mount(h:Cs)(H:FU)(E:A.length<1000)(s:Y0)(G:n∈nm9)(ho:o∈nm9)(C:∀p∈hs,p.vp)(F:hs.length<=6)(c:Nat):runB defs bdefs B8 4 AM LX=match look n A with
  |some t=>match look o A with
   |some u=>if okM hs t u then .ok QaC (ob a (put n CA A) (dn++[stp Mf n CT QaC]) [])else .ex HV AM
   |none=>.ex Gf AM
  |none=>.ex Gf AM:=by
 rw[JnB,pV];have f:=yZ (a:=a) (A:=A) (dn:=dn) (un:=un) (e:=[So AM,So By,So D4,So cQ,No,No]) (i:=1) rfl rfl G (c+4);cases q:look n A with
 |none=>rw[q]at f;exact a_ex (e:=[So By,So D4,So cQ,No,No]) (oI (xT f))
 |some t=>
  rw[q]at f;rw[lB (rS f (iB t))];simp only[List.set];have j:=yZ (a:=a) (A:=A) (dn:=dn) (un:=un) (e:=N4) (i:=3) rfl rfl ho (c+4);cases m:look o A with
  |none=>rw[m]at j;refine a_ex (e:=Wp) (oI (xT ?_));have b:evD Da Bw N4=.ok (tD t):=rfl;have I:evD Da BN N4=.ok D4:=rfl;simp only[mT,rD,j,b,I,Rs.bo,Rs.bind_ex]
  |some u=>
   rw[m]at j;have b:=jm C F (s.tb n t q) (s.tb o u m) c (e:=N4) (x:=.var 4) (y:=.var 2) rfl rfl j;cases z:okM hs t u with
   |false=>simp only[z,Zo,ZN]at b⊢;exact a_ex (e:=Wp) (oI (xT b))
   |true=>simp only[z,if_true]at b⊢;refine a_rt (e:=[So By,So D4,So cQ,So (tD t),So QaC]) ?_;rw[lB (rS b (iB _))];simp only[List.set];have B:=do_step (a:=a) (A:=A) (dn:=dn) (un:=un) (A':=put n CA A) (n:=n) (w:=S "mount") (x:=tD CA) h H (iB _) (c+5) λdn h=>Jfi h E (c+5);rw[q]at B;rw[lB (jK (O:=[So AM,So By,So D4,So cQ,So (tD t),So QaC]) (i:=0) (J:=[.str Mf,.str n,tD CA]) rfl rfl (by simp[plE,Jg,Jl,iB,gP]) B)];rfl
end
section
variable(U:Ae)(O:Fm)
def JqR{c:Px}{A B rest:Sx}{d:D}(f:evD U c O=.ok B0)(b:exD U A O=.ok (.rt d,e)):Jd (exD U (.seq (.ite c A B) rest) O)=.ok d:=by rw[JU,vH,f];simp[b]
def uY{c:Px}{A rest:Sx}(b:evD U c O=.ok Bq):Jd (exD U (.seq (.ite c A .skip) rest) O)=Jd Kw:=by rw[JU,vH,b];simp
def gZ{e:Px}{d:D}(h:evD U e O=.ok d):exD U FO O=.ok EA:=by simp[h]
end
inductive Deed where
 |put (n:Str) (t:List Row)|take (n:Str)|mount (n:Str) (hs:List Part) (o:Str)
def Deed.d:Deed->D
 |.put n t=>.tup PJ
 |.take n=>.tup [.str GQ,.str n]
 |.mount n hs o=>.tup [.str Mf,.str n,.tup RQ,.str o]
def Deed.Ok:Deed->Prop
 |.put n t=>n∈nm9/\TabOk t
 |.take n=>n∈nm9
 |.mount n b o=>n∈nm9/\o∈nm9/\(∀p∈b,p.vp)/\b.length<=6
def Deed.pl(b:Deed):Jl b.d=To:=by cases b<;>simp[Deed.d,Jl,Jg,iB,gP]
noncomputable def nmA (r:Nat):Str:=nm9.getD r (S "a")
theorem Jvz(r:Nat)(h:r<4):atD N6 (r:Int)=So (.str (nmA r)):=by
 match r,h with
 |0,_=>rfl
 |1,_=>rfl
 |2,_=>rfl
 |3,_=>rfl
 |n+4,h=>lia
theorem kS(r:Nat)(h:r<4):nmA r∈nm9:=by
 match r,h with
 |0,_=>decide+kernel
 |1,_=>decide+kernel
 |2,_=>decide+kernel
 |3,_=>decide+kernel
 |n+4,h=>lia
noncomputable def tns:List Str:=[S "a",S "b",S "c"]
theorem tn_at(r:Nat)(h:r<3):∃x∈tns,op2 .idx (.str (S "abcdefgh")) Di=.ok Cu:=by
 match r,h with
 |0,_=>exact⟨S "a",by decide+kernel,rfl⟩
 |1,_=>exact⟨S "b",by decide+kernel,rfl⟩
 |2,_=>exact⟨S "c",by decide+kernel,rfl⟩
 |n+3,h=>lia
def JpV:∀x∈tns,∀l∈labs.take 3,x++l∈lb9/\x.length+l.length<=1000:=by decide+kernel
def tn_tw:∀x∈tns,∀m∈[0,1,2,3],qB ((labs.take m).map (x++·))=Fo:=by decide+kernel
noncomputable def tnR (x:Str) (r:Row):Row:=⟨x++r.l,r.ps⟩
theorem JuP{rows:AL}{x:Str}(m:x∈tns)(h1:∀r∈rows,r.Ok 2)(o:rows.map bL=labs.take Bu)(j:Bu<=3):TabOk SS:=by
 have s:∀r∈rows,r.l∈labs.take 3:=λr b=>by have:r.l∈labs.take Bu:=o▸lG b;exact(List.take_subset_take_left labs j) this
 refine⟨λr b=>?_,λr b=>?_,λr b=>?_,by simpa using Zy j Ax,?_⟩
 ·rw[Zz]at b;obtain⟨q,f,rfl⟩:=b;have:=(JpV x m q.l (s q f)).1;unfold names9;simp[tnR,this]
 ·rw[Zz]at b;obtain⟨q,f,rfl⟩:=b;exact(h1 q f).vp
 ·rw[Zz]at b;obtain⟨q,f,rfl⟩:=b;exact(h1 q f).pat Ax
 ·rw[Zr,show(Row.l∘tnR x)=(λr:Row=>x++r.l)from rfl];rw[show rows.map (λr:Row=>x++r.l)='ƶ'.map (x++·) by rw[Zr];rfl,o];exact tn_tw x m Bu (by rcases(by lia:Bu=0\/rows.length=1\/rows.length=2\/rows.length=3)with h|h|h|h<;>rw[h]<;>decide)
theorem deed(ns:A0)(k:Int)(h0:0<=k):∃z:Deed,z.Ok/\∀c,runD defs (c+6) 35 Km=.ok z.d:=by
 obtain⟨f,l0,M⟩:=pick ns k 4 h0 Ad;obtain⟨h,l1,Z⟩:=pick ns A1 6 Ad Ad;obtain⟨rows,H,u,y,L⟩:=table ns (k+10) Ad 2 Ad 3 Ad;obtain⟨r3,l3,p3⟩:=pick ns (k+3) 3 Ad Ad;obtain⟨x,B,ex⟩:=tn_at r3 Ad;obtain⟨hs,Y,q2,q3,q4,P,q6⟩:=pat ns (k+200) Ad 2 Ad;obtain⟨m,l4,W⟩:=pick ns (k+4) 4 Ad Ad;have C:=Jvz f Ad;have E:=Jvz m Ad;have b:∀c,runD defs (c+6) 35 Km=Jd (exD FT (.seq (.ite O5 (.seq WK
  (.seq WQ
  WU)) .skip)
  (.seq Wy
  (.seq WD
  WT)))
   [So ES,So DZ,So (.lst N6),So (.str aR),So cR,No,No,No]):=λc=>by
  rw[Jky,JcS,nA _ _ (d:=.lst N6) _ rfl];refine uG _ _ _ ?_;have U:=M A4;have e1:=Z A4;simp[U,e1,C]
 by_cases w:h<3
 ·refine⟨.put aR SS,⟨kS f Ad,JuP B H u y⟩,λc=>?_⟩;rw[b];refine JqR _ _ (e:=[So ES,So DZ,So (.lst N6),So (.str aR),So cR,So (tD rows),So Cu,No]) (Jh _ _ rfl rfl (by simp[op2,onII];lia)) ?_;have N:=p3 A4;have o:=L c;rw[nD _ _ _ (d:=tD rows) (Jr _ _ (J:=[ofN ns,.int (k+10),.int 2,.int 3]) Af o)];rw[nD _ _ _ (d:=.str x) (Jh _ _ rfl (Jr _ _ (J:=[ofN ns,.int (k+3),.int 3]) Af N) ex)];simp only[List.set];refine gZ _ _ (mE _ _ (J:=[.str Mb,.str aR,tD SS]) (Jj _ _ rfl (Jj _ _ rfl (Jj _ _ ?_ rfl))) Af);refine JC _ _ (oF _ _ YL (λr=>(tnR x r).d) (rs:=rows) rfl Ad λr F=>?_) (by simp[op1,tD,Zr,ZL]);have I:r.l∈labs.take 3:=by have:r.l∈labs.take Bu:=u▸lG F;exact(List.take_subset_take_left labs y) this
  have X:=(JpV x B r.l I).2;refine mE _ _ (J:=[.str (x++r.l),r.pd]) (Jj _ _ (Jh _ _ (x:=.str x) rfl LP ?_) (Jj _ _ LO rfl)) Af;simp only[op2];rw[if_pos (zK X)]
 ·have j:op2 .lt cR (.int 3)=.ok Bq:=by simp[op2,onII];lia
  by_cases w3:h=3
  ·refine⟨.take aR,kS f Ad,λc=>?_⟩;rw[b,uY _ _ '伕'];subst w3;exact JqR _ _ Pv (gZ _ _ rfl)
  ·refine⟨.mount aR hs (nmA m),⟨kS f Ad,kS m Ad,λp s=>JwQ p (Y p s) (q4 p s) λj=>P.subset (JgB hs p s j),by lia⟩,λc=>?_⟩;have q:op2 .eq cR (.int 3)=.ok Bq:=by rw[iN];simp;lia
   have o:=W A4;have G:=q6 AS;rw[b,uY _ _ '伕',uY _ _ (Jh _ _ rfl rfl q)];rw[nA _ _ (d:=.tup RQ) _ (Jr _ _ (J:=[ofN ns,.int (k+200),.int 2]) Af G),JB];simp only[List.set];exact mE _ _ (Jj _ _ rfl (Jj _ _ rfl (Jj _ _ rfl (Jj _ _ (Jh _ _ rfl (Jr _ _ (J:=[ofN ns,.int (k+4),.int 4]) Af o) (by simp[op2,E,Rs.ofOpt])) rfl)))) Af
noncomputable def noS:D:=.str (S "no site")
noncomputable def tooM:D:=.str (S "too many")
def Jso{hs:Bp}{u:AL}(s:∀p∈hs,p.vp)(m:EC)(o:TabOk u)(h:okM hs t u=To):TabOk CA:=by
 unfold okM at h;simp only[Zc,Zs,wA,kB]at h;refine⟨λr b=>?_,λr b p f=>?_,λr b=>?_,h.2.1,h.2.2⟩
 ·rcases ZC.mp b with b|b
  ·exact m.lb r b
  ·unfold mkT at b;rw[Zz]at b;obtain⟨q,j,rfl⟩:=b;exact o.lb q j
 ·rcases ZC.mp b with b|b
  ·exact m.vp r b p f
  ·unfold mkT at b;rw[Zz]at b;obtain⟨q,j,rfl⟩:=b;rcases ZC.mp f with f|f
   ·exact s p f
   ·exact o.vp q j p f
 ·rcases ZC.mp b with b|b
  ·exact m.pt r b
  ·unfold mkT at b;rw[Zz]at b;obtain⟨q,j,rfl⟩:=b;exact h.1 q j
def nO(b:Deed)(w:A9)(U:Ae)(O:Fm)(i:Nat)(h:O[i]? =So (So b.d)):evD U (.bi .eq Tt (.con (.str (S w)))) O=.ok (.bl (match b with|.put _ _=>decide ("put"=w)|.take _=>decide ("take"=w)|.mount _ _ _=>decide ("mount"=w))):=by cases b<;>simp[h,Deed.d,qI]
section
variable{w:Bool}{U:Ae}{bc:AG}{fi f:Nat}{cs ns:Ag}{p:Px}{fs:Aq}{J:Aq}{d st:D}{c:Str}
def o_told(h1:O[i]? =So QaA)(h:evD U p O=.ok BL)(j:(plE C5&&Jg J)=To)(b:bc f B2 J=.ok d st):exO w U bc Mt O=.ok CJ ((O.set i No).set i (So st)):=by simp only[exO,evB,h1,h,j,if_true,b,pN,Rx.next]
def Jlu(h1:O[i]? =So QaA)(o:evD U p O=.ok BL)(m:(plE C5&&Jg J)=To)(b:bc f B2 J=.ex c st)(j:cs.contains c=To)(h:U fi CZ=.ok d):exO w U bc Mt O=.ok CJ ((O.set i No).set i (So st)):=by simp only[exO,evB,h1,o,m,if_true,b,pN,j,h,Rx.next]
end
def JhB(c:Nat):runD defs AS 34 [.exc Gf]=.ok noS:=rfl
def Jnx(c:Nat):runD defs AS 34 [.exc HV]=.ok tooM:=rfl
def put_len(n:Str)(t:AL)(A:Kn):'Ƣ'.length<=A.length+1:=by unfold put;split<;>simp
noncomputable abbrev clT:List Str:=cl9
def xZ(h:Cs)(b:FU)(w n:Str)(A:Kn)(o:Nr):Dn (dn++[stp w n CT QcQ]) []:=
 ⟨by rw[plains_app,h.pl];simp[stp,Jl,Jg,uZ],by rw[Zi];exact b,rfl⟩
def did(h:Cs)(G:FU)(hA:A.length<900)(C:Y0){I:Deed}(f:I.Ok)(c:Nat):
  ∃d H s B,runB defs bdefs (c+9) 5 AM [I.d]=.ok d (ob a H s B)/\KOk H/\Dn s B/\s.length<=b8+1:=by
 have pe:(plE [No,So I.d])=To:=by simp[plE,I.pl]
 have P:∀{w n:Str}{o:Nr},(dn++[stp w n CT QcQ]).length<=b8+1:=by intros;simp
 cases I with
 |put n t=>refine⟨.bl 'Ŕ'.isSome,put n t A,dn++[stp Mb n CT (optT (So t))],[],?_,JqD C f.1 f.2 (λm=>look_put n m t A) (zZ n t A C.nd),xZ h G _ _ _ _,P⟩;rw[iW,JR];refine a_rt (e:=[So 'Ϣ'.d]) ?_;rw[lB (env1:=[So AM,So 'Ϣ'.d]) ((iE (b:=Fo) (nO (.put n t) "mount" _ _ 1 rfl)).trans rfl),iE (b:=To) (nO (.put n t) "put" _ _ 1 rfl),if_pos rfl];exact o_told (O:=[So AM,So 'Ϣ'.d]) (i:=0) (J:=IH) rfl rfl (by rw[show plE (List.set [So AM,So 'Ϣ'.d] 0 No)=To from pe];simp[Jg,Jl,iB]) (m_put h G Ad f.1 (c+5))
 |take n=>
  have j:=m_take (a:=a) (A:=A) h G (show n∈nm9 from f) (c+4);have Y:exO To C4 LV JR [So AM,So 'Ʈ'.d]=exO To C4 LV (.retB (.tolB 34 clT 3 0 nsS QbL)) [So AM,So 'Ʈ'.d]:=by rw[JR,lB (env1:=[So AM,So 'Ʈ'.d]) ((iE (b:=Fo) (nO (.take n) "mount" _ _ 1 rfl)).trans rfl),iE (b:=Fo) (nO (.take n) "put" _ _ 1 rfl),if_neg ZE]
  have M:(plE (List.set [So AM,So 'Ʈ'.d] 0 No)&&Jg dW)=To:=by rw[show plE (List.set [So AM,So 'Ʈ'.d] 0 No)=To from pe];rfl
  cases q:look n A with
  |none=>rw[q]at j;refine⟨noS,A,dn,un,?_,C,h,jF _⟩;rw[iW,Y];exact a_rt (e:=[So 'Ʈ'.d]) (Jlu (O:=[So AM,So 'Ʈ'.d]) (i:=0) (J:=dW) rfl rfl M j Ab (JhB _))
  |some t=>rw[q]at j;refine⟨tD t,del n A,dn++[stp GQ n CT (optT No)],[],?_,Jrz n C,xZ h G _ _ _ _,P⟩;rw[iW,Y,q];exact a_rt (e:=[So 'Ʈ'.d]) (o_told (O:=[So AM,So 'Ʈ'.d]) (i:=0) (J:=dW) rfl rfl M j)
 |mount n hs o=>
  have j:=m_mount (a:=a) (A:=A) h G Ad C f.1 f.2.1 f.2.2.1 f.2.2.2 c;have M:(plE (List.set [So AM,So 'ĭ'.d] 0 No)&&Jg LX)=To:=by rw[show plE (List.set [So AM,So 'ĭ'.d] 0 No)=To from pe];simp[Jg,Jl,gP]
  have L:∀{X:Fm}{d:D},exO To C4 LV (.retB UA) [So AM,So 'ĭ'.d]=.ok CJ X->
    exO To C4 LV JR [So AM,So 'ĭ'.d]=.ok CJ X:=fun{X d}U=>by
   rw[JR];simp only[exO];have:=iE (w:=To) (bc:=runB defs bdefs B8) (x:=.retB UA) (y:=.lift .skip) (b:=To) (nO (.mount n hs o) "mount" C4 [So AM,So 'ĭ'.d] 1 rfl);rw[if_pos rfl,U]at this;simp only[exO,clT]at this;rw[this];rfl
  have F:∀{H:Kn}{s B:Aq}{d:D},exO To C4 LV (.retB UA) [So AM,So 'ĭ'.d]=.ok CJ [So (ob a H s B),So 'ĭ'.d]->runB defs bdefs (c+9) 5 AM ['ĭ'.d]=.ok d (ob a H s B):=fun{H s B d}U=>by rw[iW];exact a_rt (e:=[So 'ĭ'.d]) (L U)
  have E:∀{N:Str}{d:D},runB defs bdefs B8 4 AM LX=.ex N AM->clT.contains N=To->runD defs B8 34 [.exc N]=.ok d->runB defs bdefs (c+9) 5 AM ['ĭ'.d]=.ok d AM:=λZ G h3=>
   F (Jlu (O:=[So AM,So 'ĭ'.d]) (i:=0) (J:=LX) rfl rfl M Z G h3)
  cases q:look n A with
  |none=>rw[q]at j;exact WN
  |some t=>
   rw[q]at j;cases W:look o A with
   |none=>rw[W]at j;exact WN
   |some u=>
    rw[W]at j;cases z:okM hs t u with
    |false=>simp only[z,Zo,ZN]at j;exact⟨tooM,A,dn,un,E j Ab (Jnx _),C,h,jF _⟩
    |true=>simp only[z,if_true]at j;refine⟨tD CA,put n CA A,dn++[stp Mf n CT (optT (So CA))],[],?_,JqD C f.1 (Jso f.2.2.1 (C.tb n t q) (C.tb o u W) z) (λm=>look_put n m _ A) (zZ _ _ A C.nd),xZ h G _ _ _ _,P⟩;rw[q];exact F (o_told (O:=[So AM,So 'ĭ'.d]) (i:=0) (J:=LX) rfl rfl M j)
def srt (A:Kn):Kn:='ǹ'.map λn=>(n,'Ŕ'.getD [])
def Jvf(h:'ĵ'.Nodup)(f:A.length<60)(c:Nat):runD defs AS 38 J3=.ok (.lst ('ǹ'.map .str)):=by have b:runD defs AS 38 J3=Jd (exD DI lV [So AM]):=rfl;rw[b,lV,JB];exact JC _ _ (x:=.dct Fo Fo TK FH) rfl (Jwy Fo A h f)
def nmsAt(h:'ĵ'.Nodup)(b:A.length<60)(c:Nat)(hi:e[i]? =So (So AM)):evD EI (.call 38 (.cons (.un eX CD) .nil)) e=.ok (.lst ('ǹ'.map .str)):=
 Jf _ _ (JC _ _ (by rw[uH,hi]) kZ) (Jvf h b c)
def JmX(A:Kn):kys bP=Jx Fs:=by simp[kys,srt,Zr,ZL]
def Jto(A:Kn)(h:'ĵ'.Nodup):'ǹ'.length=A.length:=by rw[JfA _ h];simp[kys]
def look_get{n:Str}(h:n∈Jx Fs):look n A=So ('Ŕ'.getD []):=by
 rw[JO,<-look_mem]at h;cases q:look n A with
 |none=>rw[q]at h;cases h
 |some t=>rfl
def kP(c:Nat)(l:Aj):Jk c l≠[]:=by
 cases l with
 |nil=>simp[Jk]
 |cons x l=>
  unfold Jk;split
  ·simp
  ·cases Jk c l<;>simp[lN]
def qP(c:Nat):∀l:List Nat,Jn [c] QcK=l
 |[]=>rfl
 |x::l=>by
  have b:=qP c l
  have f:=kP c l
  unfold Jk
  cases h:Jk c l with
  |nil=>exact absurd h f
  |cons p r=>
   rw[h]at b
   split
   ·rename_i e
    subst e
    show[]++([x]++Jn [x] (p::r))=x::l
    rw[b];rfl
   ·cases r with
    |nil=>
     have:p=l:=b
     subst this
     rfl
    |cons q r=>
     show(x::p)++([c]++Jn [c] (q::r))=x::l
     rw[<-b];rfl
theorem JkA(c:Nat)(l:Aj):∀p∈Jk c l,p.length<=l.length:=by
 induction l with
 |nil=>intro p b;simp[Jk]at b;simp[b]
 |cons x l f=>
  intro p b;unfold Jk at b;split at b
  ·rcases Ze.mp b with rfl|b
   ·simp
   ·have:=f p b;simp;lia
  ·cases h:Jk c l with
   |nil=>exact absurd h (kP c l)
   |cons q r=>
    rw[h]at b f;rcases Ze.mp b with rfl|b
    ·have:=f q Af;simp;lia
    ·have:=f p (by simp[b]);simp;lia
def jO{c:Nat}:∀{l:Aj},c∈l->∃a b,cutL c l=(a,So b)/\l=a++c::b
 |[],h=>by cases h
 |x::l,h=>by
  unfold cutL
  by_cases e:x=c
  ·rw[if_pos e];exact⟨[],l,rfl,by simp[e]⟩
  ·rw[if_neg e]
   obtain⟨a,b,f,j⟩:=jO (l:=l) (by simpa[Ne.symm e]using h)
   exact⟨x::a,b,by rw[f],by rw[j];rfl⟩
def pF(x:Str):mkS Yw=x:=rfl
def mU(l:Aj):(mkS l).cps.toList=l:=rfl
def Js(x:Str):x.cps.toList.length=x.length:=ZU
def xK(l:Aj):(mkS l).length=l.length:=rfl
def rdP (l:Aj):Part:=match l with
 |58::r=>.any (mkS r)
 |35::r=>.number (mkS r)
 |42::r=>.rest (mkS r)
 |l=>if 61∈l then .one (mkS (cutL 61 l).1) ((Jk 124 ((cutL 61 l).2.getD [])).map mkS)else .word RT
def txP:Part->List Nat
 |.word x=>Yw
 |.one n b=>YV++(61::Jn [124] (b.map (·.cps.toList)))
 |.any n=>58::n.cps.toList
 |.number n=>35::n.cps.toList
 |.rest n=>42::n.cps.toList
def jP(l:Aj)(h1:l.head? ≠So 58)(b:l.head? ≠So 35)(f:l.head? ≠So 42):rdP l=if 61∈l then .one (mkS (cutL 61 l).1) ((Jk 124 ((cutL 61 l).2.getD [])).map mkS)else .word RT:=by
 unfold rdP;split
 ·simp at h1
 ·simp at b
 ·simp at f
 ·rfl
def gU(ls:BR):'Ǜ'.map (·.cps.toList)=ls:=by rw[Zr];exact(vD λl _=>rfl).trans Qbe
def tx_rd(l:Aj):txP (rdP l)=l:=by
 by_cases f:l.head? =So 58
 ·cases l with
  |nil=>cases f
  |cons x r=>cases f;rfl
 by_cases j:l.head? =So 35
 ·cases l with
  |nil=>cases j
  |cons x r=>cases j;rfl
 by_cases m:l.head? =So 42
 ·cases l with
  |nil=>cases m
  |cons x r=>cases m;rfl
 rw[jP l f j m];by_cases h:61∈l
 ·rw[if_pos h];obtain⟨a,b,q,o⟩:=jO h;rw[q];simp only[txP,zQ,gU,qP,mU];exact o.symm
 ·rw[if_neg h];rfl
structure Part.fine(p:Part):Prop where
 n:p.name.length<=20000
 w:∀m ws,p=.one m ws->Cw<=20000/\∀v∈ws,v.length<=20000
theorem Jty(l:Aj)(h:C6):(rdP l).fine:=by
 by_cases j:l.head? =So 58
 ·cases l with
  |nil=>cases j
  |cons x r=>cases j;exact⟨by show r.length<=20000;simp at h;lia,λm f e=>by cases e⟩
 by_cases o:l.head? =So 35
 ·cases l with
  |nil=>cases o
  |cons x r=>cases o;exact⟨by show r.length<=20000;simp at h;lia,λm f e=>by cases e⟩
 by_cases q:l.head? =So 42
 ·cases l with
  |nil=>cases q
  |cons x r=>cases q;exact⟨by show r.length<=20000;simp at h;lia,λm f e=>by cases e⟩
 rw[jP l j o q];by_cases s:61∈l
 ·rw[if_pos s];obtain⟨a,b,y,w⟩:=jO s;rw[y];have z:=iA YS w;rw[Zi,Zm]at z;refine⟨by show a.length<=20000;lia,λm f e=>?_⟩;cases e;have C:=Rd.nW 124 b;refine⟨by rw[Zj];show(Jk 124 b).length<=_;lia,λv u=>?_⟩;obtain⟨p,B,rfl⟩:=Zz.mp u;have:=JkA 124 b p B;show p.length<=20000;lia
 ·rw[if_neg s];exact⟨by show l.length<=20000;lia,λm f e=>by cases e⟩
def pU(x:Str)(b:x.length<=20000):op1 .len Cu=.ok (.int Yo):=if_pos (hJ b)
def JqC(x f:Str)(m:Int)(h:x.length<=20000):∃b,∀c,runD defs AS 0 [.str x,.str f,.int m]=.ok Bt:=by
 refine⟨(decide (1<=(Yo:Int))&&decide ((Yo:Int)<=m))&&(x.cps.toList.all λa=>qE f a),λc=>?_⟩;rw[Jdd,rW];rw[Jm _ _ (p:=Fo) _ _ rfl,if_neg 'p',JB];refine zA _ _ (p:=decide (1<=(Yo:Int))&&decide ((Yo:Int)<=m)) (q:=x.cps.toList.all λa=>qE f a) (zA _ _ (Jh _ _ rfl Qm GP) λ_=>Jh _ _ Qm rfl GP) λ_=>?_;refine JC _ _ (JS _ _ (λa:Nat=>D.str ⟨#[a]⟩) (λa=>.bl (qE f a)) (rs:=Yw) ?_ (by rw[Js];exact h) λa _=>?_) ?_
 ·rfl
 ·refine Jh _ _ rfl rfl ?_;exact if_pos rfl
 ·have:=JK (λa=>qE f a) Yw;simp only[op1,this,rE,ZL];rfl
def JqS(x:Str)(f:x.length<=20000):∃b,∀c,runD defs AR 1 [.str x]=.ok Bt:=by obtain⟨b,h⟩:=JqC x (S "abcdefghijklmnopqrstuvwxyz0123456789-") 8 f;exact⟨b,λc=>by rw[JkJ,Jer,JB];exact Jr _ _ rfl (h c)⟩
def iO(x:Str)(f:x.length<=20000):∃b,∀c,runD defs AR 2 [.str x]=.ok Bt:=by obtain⟨b,h⟩:=JqC x VG 4 f;exact⟨b,λc=>by rw[JgJ,tV,JB];exact Jr _ _ rfl (h c)⟩
def rY(f:α->D)(i n:Nat)(xs:AD)(h:∀x∈xs,∃b,∀c,runD defs (c+n) i [f x]=.ok Bt)(q:Ah<=20000):∃b,∀c O(src:Px),evD (runD defs (c+n)) src O=.ok (.lst '乯')->evD (runD defs (c+n)) (.un .all (.comp 0 src Cb (.call i Df))) O=.ok Bt:=by
 have m:∀x:α,∃b:Bool,x∈xs->∀c,runD defs (c+n) i [f x]=.ok Bt:=λx=>by
  by_cases j:x∈xs
  ·obtain⟨b,o⟩:=h x j;exact⟨b,λ_=>o⟩
  ·exact⟨Fo,λz=>absurd z j⟩
 obtain⟨g,u⟩:=gR.mp m;refine⟨xs.all g,λc O src s=>?_⟩;refine JC _ _ (JS _ _ f (λx=>.bl (g x)) (rs:=xs) s q λx j=>Jf _ _ rfl (u x j c)) ?_;have:=JK g xs;simp only[op1,this,rE,ZL];rfl
def Jti(ws:Ag)(h:∀w∈ws,w.length<=20000)(m:Cw<=20000):∃b,∀c,runD defs A4 4 KY=.ok Bt:=by obtain⟨b,f⟩:=rY Y3 1 2 ws (λw j=>JqS w (h w j)) m;exact⟨b,λc=>by rw[Jee,qW,JB];exact f c _ _ rfl⟩
def JoG(ws:Ag)(h:∀w∈ws,w.length<=20000)(o:Cw<=20000):∃b,∀c,runD defs (c+4) 6 KY=.ok Bt:=by
 obtain⟨b,j⟩:=Jti ws h o;have m:∀c,evD DI XI LI=.ok (.bl ('ʅ'.all λp=>ltS p.1 p.2)):=λc=>by
  refine JC _ _ (Jlz _ _ (λp:Str×Str=>D.str p.1) (λp=>D.str p.2) (λp=>.bl (ltS p.1 p.2)) (rs:=ws.zip 'ǒ') ?_ DL λp _=>rfl) ?_
  ·have s:cutD 'Ʋ' (So 1) No='ǒ'.map Y3:=by
    cases ws with
    |nil=>rfl
    |cons w ws=>rw[Zg,cut1];rfl
   refine Jh _ _ rfl (y:=.tup ('ǒ'.map .str)) ?_ (by rw[Jms,Jic]);simp only[e_sl,uH,vE,Rs.bo,e_un,qS,JvT,Jgq,JgA,s]
  ·have:=JK (λp:Str×Str=>ltS p.1 p.2) 'ʅ';simp only[op1,this,rE,ZL];rfl
 have f:∀c,runD defs (c+4) 6 KY=if(!(decide ((1:Int)<=('Ʋ'.length:Int))&&decide (('Ʋ'.length:Int)<=4))||!b)then .ok Bq else .ok (.bl ('ʅ'.all λp=>ltS p.1 p.2)):=λc=>by rw[JaF,JN,Jm _ _ _ _ (lE _ _ (q:=!b) (Jq _ _ (JD _ _ (Jr _ _ rfl (JA DH 1 4 AR)))) λ_=>Jq _ _ (JD _ _ (Jf _ _ rfl (j c)))),JB,m];rfl
 by_cases q:(!(decide ((1:Int)<=('Ʋ'.length:Int))&&decide (('Ʋ'.length:Int)<=4))||!b)=To
 ·exact⟨Fo,λc=>by rw[f,if_pos q]⟩
 ·exact⟨_,λc=>by rw[f,if_neg q]⟩
def JvP(p:Part)(h:p.fine):∃b,∀c,runD defs (c+5) 7 [p.d]=.ok Bt:=by
 cases p with
 |word x=>
  obtain⟨b,f⟩:=JqS x h.n;exact⟨b,λc=>by
   rw[JV,JJ,Jm _ _ (p:=Fo) _ _ (Jq _ _ (p:=To) L0),if_neg 'p'];rw[Jm _ _ (p:=Fo) _ _ rfl,if_neg 'p',Jm _ _ (p:=Fo) _ _ rfl,if_neg 'p',Jm _ _ (p:=To) _ _ rfl,if_pos rfl];exact Jf _ _ rfl (f AR)⟩
 |one n m=>
  obtain⟨b,f⟩:=iO n h.n;obtain⟨o,q⟩:=h.w n m rfl;obtain⟨s,j⟩:=JoG m q o;exact⟨_,λc=>by
   rw[JV,JJ,Jm _ _ (p:=Fo) _ _ (Jq _ _ (p:=To) L0),if_neg 'p'];rw[Jm _ _ (p:=To) _ _ rfl,if_pos rfl];exact zA _ _ (p:=To) rfl λ_=>zA _ _ (Jf _ _ rfl (f AR)) λ_=>Jf _ _ rfl (j c)⟩
 |any n=>
  obtain⟨b,f⟩:=iO n h.n;exact⟨_,λc=>by
   rw[JV,JJ,Jm _ _ (p:=Fo) _ _ (Jq _ _ (p:=To) L0),if_neg 'p'];rw[Jm _ _ (p:=Fo) _ _ rfl,if_neg 'p',Jm _ _ (p:=Fo) _ _ rfl,if_neg 'p',Jm _ _ (p:=Fo) _ _ rfl,if_neg 'p',JB];exact zA _ _ (p:=To) rfl λ_=>Jf _ _ rfl (f AR)⟩
 |number n=>
  obtain⟨b,f⟩:=iO n h.n;exact⟨_,λc=>by
   rw[JV,JJ,Jm _ _ (p:=Fo) _ _ (Jq _ _ (p:=To) L0),if_neg 'p'];rw[Jm _ _ (p:=Fo) _ _ rfl,if_neg 'p',Jm _ _ (p:=Fo) _ _ rfl,if_neg 'p',Jm _ _ (p:=Fo) _ _ rfl,if_neg 'p',JB];exact zA _ _ (p:=To) rfl λ_=>Jf _ _ rfl (f AR)⟩
 |rest n=>
  obtain⟨b,f⟩:=iO n h.n;exact⟨_,λc=>by
   rw[JV,JJ,Jm _ _ (p:=Fo) _ _ (Jq _ _ (p:=To) L0),if_neg 'p'];rw[Jm _ _ (p:=Fo) _ _ rfl,if_neg 'p',Jm _ _ (p:=Fo) _ _ rfl,if_neg 'p',Jm _ _ (p:=Fo) _ _ rfl,if_neg 'p',JB];exact zA _ _ (p:=To) rfl λ_=>Jf _ _ rfl (f AR)⟩
theorem JmM(ps:Bp)(h:∀p∈ps,p.fine)(s:Ar<=20000):∃b,∀c,runD defs (c+6) 10 F7=.ok Bt:=by
 obtain⟨b,j⟩:=rY Y5 7 5 ps (λp m=>JvP p (h p m)) s;have h1:=λc=>JA Of 0 6 (c+4);have x:∀c,evD FT S8 He=.ok V5:=λc=>by
  have u:evD FT Tj He=.ok VA:=by have:=Jfx Of;simp[op1,this,D.walk,List.map_dropLast]
  refine JC _ _ (JS _ _ Y5 Qn u DL λp m=>Jga p _ _ 0 rfl) ?_;have:=JK YZ ps.dropLast;simp only[op1,this,vL,ZL];rfl
 by_cases B:Ar<=6
 ·have z:=λc=>hole_names ps Ad A4;have y:=λc=>has_twice 'Ԭ' (by have:=JdT ps;lia) (c+4);have f:∀c,runD defs (c+6) 10 F7=if(!(decide ((0:Int)<=('ƪ'.length:Int))&&decide (('ƪ'.length:Int)<=6))||!b)then .ok Bq else if ps.dropLast.any YZ then .ok Bq else .ok (.bl (!qB 'Ԭ')):=λc=>by rw[Jbp,uP];rw[Jm _ _ _ _ (lE _ _ (q:=!b) MJ λ_=>Jq _ _ Ql)];rw[Jm _ _ _ _ (JD _ _ (x c)),JB,Jq _ _ (Jf _ _ (Jf _ _ rfl (z c)) (y c))];rfl
  by_cases q:(!(decide ((0:Int)<=('ƪ'.length:Int))&&decide (('ƪ'.length:Int)<=6))||!b)=To
  ·exact⟨Fo,λc=>by rw[f,if_pos q]⟩
  ·by_cases o:ps.dropLast.any YZ=To
   ·exact⟨Fo,λc=>by rw[f,if_neg q,if_pos o]⟩
   ·exact⟨_,λc=>by rw[f,if_neg q,if_neg o]⟩
 ·refine⟨Fo,λc=>?_⟩;have w:(!(decide ((0:Int)<=('ƪ'.length:Int))&&decide (('ƪ'.length:Int)<=6)))=To:=by rw[Zj,Zp (p:=(Ar:Int)<=6) 'c',oJ];rfl
  rw[Jbp,uP,Jm _ _ (p:=To) _ _ (by
   have:=lE FT He (q:=!b) (a:=.un .not XU) MJ λ_=>Jq _ _ Q7;rw[w,Bool.true_or]at this;exact this),if_pos rfl]
  rfl
def s58:oS ":"=mkS [58]:=by decide+kernel
def s35:oS "#"=mkS [35]:=by decide+kernel
def s42:oS "*"=mkS [42]:=by decide+kernel
def s61:oS "="=mkS [61]:=by decide+kernel
def s124:oS "|"=mkS [124]:=by decide+kernel
def s47:oS "/"=mkS [47]:=by decide+kernel
def vN(a b:Aj):mkS a++mkS b=mkS (a++b):=Str.ext' (by rw[Str.cps_append];simp[mkS])
def vC(a b:Aj)(h:a.length+b.length<=40000):op2 .add (.str bO) M0=.ok (.str (mkS (a++b))):=by rw[<-vN];exact if_pos (show a.length+b.length<=lineD from Zy h Ax)
def JkN(s:Nat)(ls:BR)(h:'ɷ'.length<=20000):op2 .joinS Fv Qa1=.ok Qan:=by
 have e:JQ GC=So X7:=by have:=JT X7;rwa[Zr]at this
 simp only[op2,e,gU];exact if_pos ⟨by show 1<=1000;decide,h⟩
def Jrl(s:Nat)(ls:BR)(h:'ɷ'.length<=20000):op2 .joinS Fv (.tup GC)=.ok Qan:=by
 have e:JQ GC=So X7:=by have:=JT X7;rwa[Zr]at this
 simp only[op2,e,gU];exact if_pos ⟨by show 1<=1000;decide,h⟩
def rV(l:Aj)(s:Nat)(h:EJ):op2 .splitS BO Fv=.ok (.lst ((Jk s l).map λp=>.str (mkS p))):=if_pos ⟨h,rfl⟩
def rT(l:Aj)(s:Nat):op2 .strt BO Fv=.ok (.bl (decide (l.head? =So s))):=by
 show Rs.ok (D.bl (decide (0+1<=Yr)&&(l.toArray.extract 0 (0+1)==#[s])))=_;cases l with
 |nil=>rfl
 |cons x l=>
  have e:((x::l).toArray.extract 0 (0+1))=#[x]:=by simp
  rw[e];by_cases h:x=s<;>simp[h]
def Jve(l:Aj)(s:Nat):op2 .isin Fv BO=.ok (.bl (decide (s∈l))):=if_pos rfl
def Jlo(U:Ae)(O:Fm)(i:Nat)(l:Aj)(h:O[i]? =So D1)(b:EJ):evD U (.sl CD Qdu CH) O=.ok (.str Ii):=by
 have f:cutD l (So 1) No=l.drop 1:=by
  cases l with
  |nil=>rfl
  |cons x l=>rw[cut1];rfl
 simp only[e_sl,uH,h,Rs.bo,e_un,qS,JvT,Jgq,JgA,mU,f];exact if_pos b
def sgB:Sx:=Ww
def sgD:List D:=L7
def JhR(U:Ae)(l:Aj)(f:EJ)(k:D)(s:Nat)(b:AY):exD U sgB T6=if l.head? =So s then .ok (.rt (.tup [k,.str Ii]),T6)else .ok (.nx,T6):=by
 rw[sgB,vH,JD _ _ (Jh _ _ rfl rfl (rT l s))];by_cases h:l.head? =So s
 ·rw[if_pos h,ZD h];show exD U (.ret _) _=_;rw[rN,mE _ _ (J:=[k,.str Ii]) (Jj _ _ rfl (Jj _ _ (Jlo U _ 0 l rfl f) rfl)) 'k'];rfl
 ·rw[if_neg h,Zp h];rfl
def JrM(U:Ae)(l:Aj)(q:EJ):∃o j,forL [1,2] 2 Me sgD R9=.ok (if l.head? =So 58 then(.rt (Part.any Ii).d,M4)else if l.head? =So 35 then(.rt (Part.number Ii).d,M4)else if l.head? =So 42 then(.rt (Part.rest Ii).d,M4)else(.nx,M4)):=by
 have f:∀(k s:D)(J:Aq)(u w:AY),forL [1,2] 2 Me (.tup [k,s]::J) [So BO,u,w,No]=(exD U sgB [So BO,So k,So s,No]).bind λr=>match r with
  |(.nx,env2)=>forL [1,2] 2 Me J env2
  |(.ct,env2)=>forL [1,2] 2 Me J env2
  |(.bk,env2)=>.ok HD
  |(.rt d,env2)=>.ok Lr:=λk s J u w=>rfl
 unfold sgD;rw[s58,s35,s42,f,JhR U l q];by_cases b:l.head? =So 58
 ·exact⟨_,_,by rw[if_pos b,if_pos b];rfl⟩
 rw[if_neg b];simp only[Rs.bo];rw[f,JhR U l q];by_cases h:l.head? =So 35
 ·exact⟨_,_,by rw[if_pos h,if_neg b,if_pos h];rfl⟩
 rw[if_neg h];simp only[Rs.bo];rw[f,JhR U l q];by_cases m:l.head? =So 42
 ·exact⟨_,_,by rw[if_pos m,if_neg b,if_neg h,if_pos m];rfl⟩
 rw[if_neg m];exact⟨_,_,by rw[if_neg b,if_neg h,if_neg m];rfl⟩
noncomputable def rdT:Sx:=(.seq (.ite Pw (.seq VS
  (.ret (.tup (.cons N3 (.cons OB (.cons (.un .tuple (.bi .splitS OA (.con (.str (oS "|"))))) .nil)))))) .skip)
  Vt)
def Jrn:JbW=.seq (.loop Fo [1,2] 2 We sgB) rdT:=rfl
theorem Jrx(U:Ae)(l:Aj)(w:C6)(m x2:AY)(h1:l.head? ≠So 58)(s:l.head? ≠So 35)(q:l.head? ≠So 42):Jd (exD U rdT [So BO,m,x2,No])=.ok (rdP l).d:=by
 rw[jP l h1 s q,rdT,s61,s124];by_cases h:61∈l
 ·rw[if_pos h];obtain⟨a,b,j,o⟩:=jO h;have f:=iA YS o;rw[Zi,Zm]at f;have u:op2 .partS BO (.str fB)=.ok (.tup [.str bO,.str fB,.str Qav]):=by have:op2 .partS BO (.str fB)=.ok (uC l 61):=if_pos ⟨show l.length<=20000 by lia,rfl⟩;rw[this,uC,j]
  rw[JU,n_if _ _ (b:=To) _ _ (by rw[Jh _ _ rfl rfl (Jve l 61),ZD h]),if_pos rfl,nD _ _ _ (Jh _ _ rfl rfl u)];simp only[List.set];rw[rN,mE _ _ (J:=[.str (S "one"),.str bO,.tup ((Jk 124 b).map λp=>.str (mkS p))]) (Jj _ _ rfl (Jj _ _ rfl (Jj _ _ (JC _ _ (Jh _ _ rfl rfl (rV b 124 Ad)) rfl) rfl))) 'k'];rw[j];simp only[Rs.bo,Jwr,Part.d,zQ,Zr];rfl
 ·rw[if_neg h,JU,n_if _ _ (b:=Fo) _ _ (by rw[Jh _ _ rfl rfl (Jve l 61),Zp h]),if_neg 'p'];rfl
def read_part(l:Aj)(m:C6)(c:Nat):runD defs AS 19 BA=.ok (rdP l).d:=by
 obtain⟨j,o,e⟩:=JrM DI l Ad;rw[JhA,Jrn,JU,yK];show Jd (((forL [1,2] 2 (exD DI sgB) sgD R9)).bind _)=_;rw[e];by_cases b:l.head? =So 58
 ·rw[if_pos b];cases l with
  |nil=>cases b
  |cons x r=>cases b;rfl
 rw[if_neg b];by_cases f:l.head? =So 35
 ·rw[if_pos f];cases l with
  |nil=>cases f
  |cons x r=>cases f;rfl
 rw[if_neg f];by_cases h:l.head? =So 42
 ·rw[if_pos h];cases l with
  |nil=>cases h
  |cons x r=>cases h;rfl
 rw[if_neg h];exact Jrx DI l m j o b f h
theorem qV(s:Aj):∀(ls:BR)(l:Aj),l∈ls->Yr<=(Jn s ls).length
 |[],l,h=>by cases h
 |[x],l,h=>by rw[ZZ.mp h];exact Zh _
 |x::y::r,l,h=>by
  rcases Ze.mp h with rfl|h
  ·simp[Jn]
  ·have:=qV s (y::r) l h
   simp only[Jn,Zi];lia
noncomputable def wrB:Sx:=Xx
noncomputable def wrT:Sx:=(.seq (.ite SY (.ret (.bi .add Py (.bi .joinS (.con (.str (oS "|"))) SX))) .skip)
  (.ret GH))
def wr_eq:JaJ=.seq (.loop Fo [1,2] 2 We wrB) wrT:=rfl
theorem xG(U:Ae)(p:Part)(f:p.name.length<=20000)(k:Str)(s:Nat):exD U wrB N0=if p.kind==k then .ok (.rt (.str (mkS (s::p.name.cps.toList))),N0)else .ok (.nx,N0):=by
 have b:evD U (.bi .eq IG AW) N0=.ok (.bl (p.kind==k)):=by refine Jh _ _ (x:=.str p.kind) ?_ rfl (JhO _ _);cases p<;>rfl
 rw[wrB,vH,b];cases p.kind==k with
 |true=>show exD U (.ret _) _=_;rw[if_pos rfl,rN,Jh _ _ (x:=.str (mkS [s])) (y:=.str (mkS p.name.cps.toList)) rfl (JuM p _ _ 0 rfl) (vC [s] _ (by rw[Js];simp;lia))];rfl
 |false=>rfl
theorem written_part(p:Part)(h:'ն'.length<=20000)(c:Nat):runD defs AS 15 [p.d]=.ok (.str (mkS Yf)):=by
 have b:p.name.length<=20000:=by cases p<;>simp only[txP,Part.name,Zm,Zi,Js]at h⊢<;>lia
 have f:∀(k s:D)(J:Aq)(j o:AY),forL [1,2] 2 MZ (.tup [k,s]::J) [So p.d,j,o]=(exD DI wrB [So p.d,So k,So s]).bind λr=>match r with
  |(.nx,env2)=>forL [1,2] 2 MZ J env2
  |(.ct,env2)=>forL [1,2] 2 MZ J env2
  |(.bk,env2)=>.ok HD
  |(.rt d,env2)=>.ok Lr:=λk s J j o=>rfl
 rw[JeD,wr_eq,JU,yK];show Jd ((forL [1,2] 2 MZ sgD [So p.d,No,No]).bind _)=_;unfold sgD;rw[s58,s35,s42,f,xG _ p b];cases p with
 |any n=>rfl
 |number n=>rw[if_neg (by simp[Part.kind])];simp only[Rs.bo];rw[f,xG _ _ b];rfl
 |rest n=>rw[if_neg (by simp[Part.kind])];simp only[Rs.bo];rw[f,xG _ _ b,if_neg (by simp[Part.kind])];simp only[Rs.bo];rw[f,xG _ _ b];rfl
 |word n=>rw[if_neg (by simp[Part.kind])];simp only[Rs.bo];rw[f,xG _ _ b,if_neg (by simp[Part.kind])];simp only[Rs.bo];rw[f,xG _ _ b,if_neg (by simp[Part.kind])];rfl
 |one n ws=>rw[if_neg (by simp[Part.kind])];simp only[Rs.bo];rw[f,xG _ _ b,if_neg (by simp[Part.kind])];simp only[Rs.bo];rw[f,xG _ _ b,if_neg (by simp[Part.kind])];show Jd (exD DI wrT [So (Part.one n ws).d,So GD,So (.str (mkS [42]))])=_;rw[wrT,Jm _ _ (p:=To) _ _ rfl,if_pos rfl,s61,s124];simp only[txP,Zi,Zm,Js]at h;have m:=Jrl 124 (ws.map (·.cps.toList)) Ad;rw[Zr]at m;refine Jh _ _ (Jh _ _ (x:=.str (mkS YV)) rfl rfl (vC _ _ (by rw[Js];simp;lia))) (Jh _ _ rfl (y:=.tup DH) rfl m) ?_;rw[vC _ _ (by rw[Zi,Js];simp;lia)];simp[txP]
def Joy(ls:BR)(h:(Jn [47] ls).length<=20000)(c:Nat):runD defs AS 16 [.lst GC]=.ok (.str (mkS (47::Jn [47] ls))):=by rw[JeE,JaM,JB,s47];exact Jh _ _ rfl (Jh _ _ rfl rfl (JkN 47 ls h)) (vC [47] _ DL)
def txt (ps:Bp):List Nat:=47::Jn [47] 'Ά'
theorem written(ps:Bp)(b:Ar<=20000)(h:'ґ'.length<=20000)(c:Nat):runD defs AR 17 F7=.ok QbO:=by
 have h:(Jn [47] 'Ά').length<=20000:=by simp only[txt,Zm]at h;lia
 rw[Jnm,JdD,JB];have:=Joy 'Ά' h c;rw[Zr]at this;refine Jf _ _ (JS _ _ Y5 QZ (rs:=ps) rfl b λp f=>Jf _ _ rfl (written_part p (Zy (qV _ _ _ (lG f)) h) c)) this
def btw (l:Aj):Option (List B3):=if l.head? =So 47 then So (if l=[47]then[]else Jk 47 (l.drop 1))else No
def JiE(h:btw l=So ls):47::Jn [47] ls=l:=by
 unfold btw at h;split at h
 ·rename_i b;cases l with
  |nil=>cases b
  |cons x r=>
   cases b;cases h;split
   ·rename_i e;cases e;rfl
   ·show 47::Jn [47] (Jk 47 r)=_;rw[qP]
 ·cases h
theorem Jlw(h:btw l=So ls):Bo<=Yr/\∀p∈ls,p.length<=l.length:=by
 have j:=JiE h;refine⟨?_,λp f=>?_⟩
 ·unfold btw at h;split at h
  ·cases h;split
   ·simp
   ·have:=Rd.nW 47 (l.drop 1);rename_i b _;cases l with
    |nil=>cases b
    |cons x r=>simpa using this
  ·cases h
 ·have:=qV [47] ls p f;rw[<-j,Zm];lia
theorem Jmt(l:Aj)(j:EJ)(c:Nat):runD defs AS 18 BA=match btw l with
  |some ls=>.ok Qa2
  |none=>.ex BP:=by
 rw[JcC,Jad,s47];unfold btw;by_cases h:l.head? =So 47
 ·rw[if_pos h,uG _ _ _ (env2:=[So BO]) (by
   rw[n_if _ _ (b:=Fo) _ _ (Jq _ _ (p:=To) (JD _ _ (by rw[Jh _ _ rfl rfl (rT l 47),ZD h])))];rfl),JB]
  have f:op2 .eq BO (.str (mkS [47]))=.ok (.bl (decide (l=[47]))):=by
   rw[JhO];congr 2;by_cases e:l=[47]
   ·simp[e]
   ·rw[Zp e,Zq];exactλz=>e (by have:=iA (·.cps.toList) z;exact this)
  rw[e_if _ _ (Jh _ _ rfl rfl f)];by_cases e:l=[47]
  ·simp[e]
  ·rw[Zp e,if_neg 'p',if_neg e]
   exact Jh _ _ (Jlo _ _ 0 l rfl j) rfl (rV _ 47 (by rw[tJ];lia))
 ·rw[if_neg h,JU,n_if _ _ (b:=To) _ _ (Jq _ _ (p:=Fo) (JD _ _ (by rw[Jh _ _ rfl rfl (rT l 47),Zp h])))];rfl
theorem Jju(l:Aj)(u:C6):(∀c,runD defs (c+7) 20 BA=.ex BP)\/∃ps:List Part,btw l=So (ps.map txP)/\ps.length<=20000/\txt ps=l/\(∀c,runD defs (c+6) 10 F7=.ok B0)/\∀c,runD defs (c+7) 20 BA=.ok Ip:=by
 have j:=λc=>Jmt l Ad c;cases e:btw l with
 |none=>left;intro c;have:=j (c+5);rw[e]at this;rw[jT,tK,JU,yH,e_un,rG,lF,Jf _ _ rfl this];rfl
 |some ls=>
  obtain⟨s,m⟩:=Jlw e;have h:∀c O,evD (runD defs (c+6)) XO (So BO::O)=.ok (.tup ('Ӣ'.map Y5)):=λc O=>by have:=j (c+5);rw[e]at this;refine JC _ _ (JS _ _ PR (λp=>(rdP p).d) (rs:=ls) (by rw[lF,Jf _ _ rfl this];rfl) Ad λp hp=>Jf _ _ rfl (read_part p (by have:=m p hp;lia) (c+5))) ?_;rw[Zr];rfl
  obtain⟨b,hp⟩:=JmM 'Ӣ' (λp hp=>by
   obtain⟨q,o,rfl⟩:=Zz.mp hp;exact Jty q (by have:=m q o;lia)) (by rw[Zj];lia)
  have f:'Ӣ'.map txP=ls:=by rw[Zr];exact(vD λp _=>tx_rd p).trans Qbe
  cases b with
  |true=>
   right;refine⟨ls.map rdP,by rw[f],by rw[Zj];lia,by rw[txt,f,JiE e],hp,λc=>?_⟩;rw[jT,tK,nA _ _ _ (h c _)];simp only[List.set];rw[uG _ _ _ (env2:=[So BO,So (.tup ('Ӣ'.map Y5))]) (by
    rw[n_if _ _ (b:=Fo) _ _ (Jq _ _ (p:=To) K8)];rfl),JB]
   rfl
  |false=>left;intro c;rw[jT,tK,nA _ _ _ (h c _)];simp only[List.set];rw[JU,n_if _ _ (b:=To) _ _ (Jq _ _ (p:=Fo) K8)];rfl
theorem Jnb(ps:Bp)(hp:∀c,runD defs (c+6) 10 F7=.ok B0)(f:btw Yh=So 'Ά')(m:∀p∈ps,rdP Yf=p)(q:'ґ'.length<=19000)(c:Nat):runD defs (c+7) 20 [.str (mkS Yh)]=.ok Ip:=by
 have h:=Jmt Yh Ad (c+5);rw[f]at h;obtain⟨j,o⟩:=Jlw f;rw[Zj]at j;rw[jT,tK,nA _ _ (d:=.tup Of) _ (by
  refine JC _ _ (JS _ _ QZ Y5 (rs:=ps) (by rw[lF,Jf _ _ rfl h];show Rs.ok (D.lst ('Ά'.map _))=_;rw[Zr];rfl) Ad λp hp=>?_) rfl;have:=read_part Yf (by have:=o _ (lG hp);lia) (c+5);rw[m p hp]at this;exact Jf _ _ rfl this)]
 simp only[List.set];rw[uG _ _ _ (env2:=[So QbO,So Ip]) (by
  rw[n_if _ _ (b:=Fo) _ _ (Jq _ _ (p:=To) K8)];rfl),JB]
 rfl
def Jow(ls:BR)(f:∀l∈ls,l≠[])(h:∀l∈ls,47∉l):btw (47::Jn [47] ls)=So ls:=by
 unfold btw;rw[if_pos (show(47::Jn [47] ls).head? =So 47 from rfl)];congr 1;cases ls with
 |nil=>rfl
 |cons l ls=>
  have b:Jn [47] (l::ls)≠[]:=λz=>by have:=qV [47] (l::ls) l Af;rw[z]at this;exact f l Af (uX.mp (Nat.le_zero.mp this))
  rw[if_neg (by simpa using b)];exact Rd.sL Af h
theorem Jfo{n:Nat}(s:Nat):∀ls:List B3,(∀l∈ls,Yr<=n)->'ɷ'.length<=Bo*(n+1)
 |[],_=>by simp[Jn]
 |[x],h=>by have:=h x Af;simp only[Jn,ZQ];lia
 |x::y::r,h=>by
  have j:=Jfo s (y::r) λl b=>h l KG
  have f:=h x Af
  have e:(x::y::r).length*(n+1)=(y::r).length*(n+1)+(n+1):=Nat.succ_mul _ _
  rw[e]
  simp only[Jn,Zi,ZQ]
  lia
def nP{s x:Nat}:∀{ls:BR},x∈Jn [s] ls->x=s\/∃l∈ls,x∈l
 |[],h=>by cases h
 |[y],h=>.inr ⟨y,by simp,h⟩
 |y::z::r,h=>by
  simp only[Jn,ZC,ZZ]at h
  rcases h with h|h|h
  ·exact .inr ⟨y,by simp,h⟩
  ·exact .inl h
  ·rcases nP h with h|⟨l,b,f⟩
   ·exact .inl h
   ·exact .inr ⟨l,Zx _ b,f⟩
def JhE{c:Nat}(b:Aj):∀{a:Aj},c∉a->cutL c (a++c::b)=(a,So b)
 |[],_=>by simp[cutL]
 |x::a,h=>by
  have f:x≠c:=λe=>h (by simp[e])
  have j:=JhE (c:=c) b (a:=a) λz=>h (Zx _ z)
  rw[lC,cutL,if_neg f,j]
def s0:oS ""=mkS []:=by decide+kernel
theorem JqQ(l:AD)(lo hi:A2):(cutD l lo hi).length<=l.length:=by unfold cutD;rw[jM,tJ];lia
def zT(U:Ae)(O:Fm){lo hi:Px}{a b:D}{m o:A2}(h:O[i]? =So D1)(u:EJ)(q:evD U lo O=.ok a)(j:a.bound=.ok m)(s:evD U hi O=.ok b)(f:b.bound=.ok o):evD U Qcj O=.ok (.str (mkS (cutD l m o))):=by simp only[e_sl,uH,h,Rs.bo,q,j,s,f,mU];exact if_pos u
def JuE(b:Aj)(n:Nat)(h:n<aL)(f:b.length<=20000):op2 .idx M0 cL=.ok (.str (mkS [b[n]])):=by
 have e:atD b (n:Int)=So b[n]:=by unfold atD ixn;rw[if_pos 'c',if_pos 'c'];simp[h]
 show(if _ then _ else _)=_;rw[if_pos (show(mkS b).length<=lineD from hJ f),mU,e];rfl
noncomputable def spT:Sx:=(.seq WB
  (.seq Wu
  (.seq WH
  (.seq WA
  (.seq WO
  WW)))))
def Jvi:Jbu=(.seq Xg
  (.seq Wx
  (.seq Wv
  (.seq XN
  spT)))):=rfl
def s32:oS " "=mkS [32]:=by decide+kernel
theorem JhM(r:Int)(k:Nat)(b:Int)(h:b=k)(f:0<k)(h1:k<1073741824):op2 .fdiv Di (.int b)=.ok (.int (r / b)):=by subst h;show(if _ then _ else _)=_;rw[if_pos ⟨by lia,by lia⟩]
noncomputable def rm (r:Int) (k:Nat):Nat:=(r % (k:Int)).toNat
theorem JuX(r:Int){k:Nat}(h:0<k):rm r k<k:=by have b:=mQ r (show(k:Int)≠0 by lia);have f:=Int.emod_lt_of_pos r (show(0:Int)<k by lia);unfold rm;lia
theorem xN(r:Int)(k:Nat)(b:Int)(h:b=k)(j:0<k):op2 .mod Di (.int b)=.ok (.int (rm r k:Int)):=by subst h;show(if _ then _ else _)=_;rw[if_pos 'c'];have f:=mQ r (show(k:Int)≠0 by lia);unfold rm;rw[Int.toNat_of_nonneg f]
structure Mz(m:List Nat->Nat):Prop where
 add:∀a b,m (a++b)=m a+m b
 one:∀x,m [x]<=1
def Mz.nil{m:List Nat->Nat}(z:Mz m):m []=0:=by have:=z.add [] [];simp at this;exact this
theorem Mz.cut{m:List Nat->Nat}(z:Mz m)(l:Aj)(lo hi:A2):m (cutD l lo hi)<=m l:=by unfold cutD;generalize six Yr 0 lo=j;generalize six Yr Yr hi-j=k;have b:=z.add (l.take j) (l.drop j);have f:=z.add ((l.drop j).take k) ((l.drop j).drop k);rw[xR]at b f;lia
def JuL:Mz YS:=⟨λ_ _=>Zi,λ_=>Zh 1⟩
theorem JtL(x:Nat):Mz (List.count x):=⟨λ_ _=>List.count_append,λy=>by rw[List.count_singleton];split<;>lia⟩
theorem JuR(l:Aj)(hl:l.length<=9000)(r:Int)(f:Aj)(h0:f≠[])(hs:f.length<=100):∃w:List Nat,(∀m,Mz m->m w<=2*m l+1)/\∀c,runD defs AS 36 RO=.ok Qck:=by
 have G:0<f.length:=List.length_pos_iff.mpr h0;obtain⟨at_,hat⟩:∃at_:Nat,at_=rm r (Yr+1):=Au;obtain⟨o,I⟩:∃o:Nat,o=rm (r / 1000) YW:=Au;have H:o<f.length:=I▸JuX _ G;obtain⟨q,P⟩:∃q:Nat,q=at_+1+rm (r / 7) 9:=Au;obtain⟨j,C⟩:∃j:Nat,j=rm (r / 100000) 8:=Au;have e1:∀c,runD defs AS 36 RO=Jd (exD DI spT [So BO,So Di,So Ia,So BC,So (.str (mkS [f[o]])),So FL,So BS]):=λc=>by
  rw[JgD,Jvi];rw[nA _ _ (d:=.int at_) _ (Jh _ _ rfl (Jh _ _ (JC _ _ rfl (pU RT (show l.length<=20000 by lia))) rfl QcR) (by rw[hat];exact xN r (Yr+1) _ rfl Ad))];simp only[List.set];rw[nA _ _ (d:=.str (mkS [f[o]])) _ (Jh _ _ rfl (Jh _ _ (Jh _ _ rfl rfl (JhM r 1000 1000 rfl Ax Ax)) (JC _ _ rfl (pU (mkS f) (show f.length<=20000 by lia))) (z:=.int o) (by rw[I];exact xN _ YW _ rfl G)) (JuE f o H Ad))];simp only[List.set];rw[nA _ _ (d:=.int q) _ (Jh _ _ Gp (Jh _ _ (Jh _ _ rfl rfl (JhM r 7 7 rfl Ax Ax)) rfl (xN _ 9 9 rfl Ax)) (by
   rw[mO,P];simp))]
  simp only[List.set];rw[nA _ _ (d:=.int j) _ (Jh _ _ (Jh _ _ rfl rfl (JhM r 100000 100000 rfl Ax Ax)) rfl (by rw[C];exact xN _ 8 8 rfl Ax))];rfl
 have W:∃w:List Nat,(∀m,Mz m->m w<=2*m l+1)/\∀c,Jd (exD DI spT [So BO,So Di,So Ia,So BC,So (.str (mkS [f[o]])),So FL,So BS])=.ok Qck:=by
  have hc1:=JqQ l;have u:∀(U:Ae)(a b:Int)(E:Fm)(hE:E=[So BO,So Di,So Ia,So BC,So (.str (mkS [f[o]])),So FL,So BS])(p:Px),evD U p E=.ok (.int a)->evD U (.sl Ap CH J0) E=.ok (.str (mkS (cutD l No (So a))))/\evD U (.sl Ap J0 CH) E=.ok (.str (mkS (cutD l (So a) No))):=λU a b E hE p G=>by subst hE;exact⟨zT _ _ rfl Ad rfl rfl Qcl rfl,zT _ _ rfl Ad Qcl rfl rfl rfl⟩
  have a3:∀a b s:List Nat,bC<=l.length->aL<=l.length->s.length<=1->op2 .add (.str (mkS (a++s))) M0=.ok (.str (mkS (a++s++b))):=λa b s L N h3=>vC _ _ (by rw[Zi];lia);have a2:∀a b:List Nat,bC<=l.length->aL<=Yr+1->op2 .add (.str bO) M0=.ok (.str (mkS (a++b))):=λa b L N=>vC _ _ Ad;by_cases w1:j<2
  ·refine⟨cutD l No (So at_)++[f[o]]++cutD l EO No,λm z=>by have:=z.cut l No Cn;have:=z.cut l Cn No;have:=z.one f[o];simp only[z.add];lia,λc=>?_⟩;rw[spT,Jm _ _ (p:=To) _ _ (Jh _ _ rfl rfl ('Ӆ'.trans (by rw[ZD 'c']))),if_pos rfl];exact Jh _ _ (Jh _ _ (u _ at_ 0 _ rfl _ rfl).1 rfl (a2 _ [f[o]] Hj Af)) (u _ at_ 0 _ rfl _ rfl).2 (a3 _ _ [f[o]] Hj Hj Af)
  by_cases B:j=2
  ·refine⟨cutD l No (So at_)++cutD l (So ((at_:Int)+1)) No,λm z=>by have:=z.cut l No Cn;have:=z.cut l (So ((at_:Int)+1)) No;have:=z.one f[o];simp only[z.add];lia,λc=>?_⟩;rw[spT,Jm _ _ (p:=Fo) _ _ (Jh _ _ rfl rfl ('Ӆ'.trans (by rw[Zp 'c']))),if_neg 'p'];rw[Jm _ _ (p:=To) _ _ (Jh _ _ rfl rfl ((iN _ _).trans (by subst B;rfl))),if_pos rfl];exact Jh _ _ (u _ at_ 0 _ rfl _ rfl).1 (u _ ((at_:Int)+1) 0 _ rfl _ Gp).2 MF
  have M:∀c(rest:Sx)(e:Px)E,E=[So BO,So Di,So Ia,So BC,So (.str (mkS [f[o]])),So FL,So BS]->Jd (exD DI (.seq (.ite (.bi .lt cO FG) FO .skip) rest) E)=Jd SD:=λc rest e E hE=>by subst hE;rw[Jm _ _ (p:=Fo) _ _ (Jh _ _ rfl rfl ('Ӆ'.trans (by rw[Zp 'c']))),if_neg 'p']
  have x:∀c(k:Nat)(Y:Int)(F:Y=k)(rest:Sx)(e:Px)E,E=[So BO,So Di,So Ia,So BC,So (.str (mkS [f[o]])),So FL,So BS]->j≠k->Jd (exD DI (.seq (.ite (.bi .eq cO (.con (.int Y))) FO .skip) rest) E)=Jd SD:=λc k Y F rest e E hE hk=>by subst hE F;rw[Jm _ _ (p:=Fo) _ _ (Jh _ _ rfl rfl ((iN _ _).trans (by rw[Zq.mpr 'c']))),if_neg 'p']
  by_cases w3:j<5
  ·refine⟨cutD l No (So at_)++[f[o]]++cutD l (So ((at_:Int)+1)) No,λm z=>by have:=z.cut l No Cn;have:=z.cut l (So ((at_:Int)+1)) No;have:=z.one f[o];simp only[z.add];lia,λc=>?_⟩;rw[spT,M c _ _ _ rfl,x c 2 2 rfl _ _ _ rfl B,Jm _ _ (p:=To) _ _ (Jh _ _ rfl rfl ('Ӆ'.trans (by rw[ZD 'c']))),if_pos rfl];exact Jh _ _ (Jh _ _ (u _ at_ 0 _ rfl _ rfl).1 rfl (a2 _ [f[o]] Hj Af)) (u _ ((at_:Int)+1) 0 _ rfl _ Gp).2 (a3 _ _ [f[o]] Hj Hj Af)
  have Z:∀c(rest:Sx)(e:Px)E,E=[So BO,So Di,So Ia,So BC,So (.str (mkS [f[o]])),So FL,So BS]->Jd (exD DI (.seq (.ite (.bi .lt cO GA) FO .skip) rest) E)=Jd SD:=λc rest e E hE=>by subst hE;rw[Jm _ _ (p:=Fo) _ _ (Jh _ _ rfl rfl ('Ӆ'.trans (by rw[Zp 'c']))),if_neg 'p']
  by_cases X:j=5
  ·refine⟨cutD l No (So at_)++cutD l (So q) No,λm z=>by have:=z.cut l No Cn;have:=z.cut l (So (q:Int)) No;have:=z.one f[o];simp only[z.add];lia,λc=>?_⟩;rw[spT,M c _ _ _ rfl,x c 2 2 rfl _ _ _ rfl B,Z c _ _ _ rfl,Jm _ _ (p:=To) _ _ (Jh _ _ rfl rfl ((iN _ _).trans (by subst X;rfl))),if_pos rfl];exact Jh _ _ (u _ at_ 0 _ rfl _ rfl).1 (u _ q 0 _ rfl _ rfl).2 MF
  by_cases w5:j=6
  ·refine⟨cutD l No (So q)++cutD l EO No,λm z=>by have:=z.cut l No (So (q:Int));have:=z.cut l Cn No;have:=z.one f[o];simp only[z.add];lia,λc=>?_⟩;rw[spT,M c _ _ _ rfl,x c 2 2 rfl _ _ _ rfl B,Z c _ _ _ rfl,x c 5 5 rfl _ _ _ rfl X,Jm _ _ (p:=To) _ _ (Jh _ _ rfl rfl ((iN _ _).trans (by subst w5;rfl))),if_pos rfl];exact Jh _ _ (u _ q 0 _ rfl _ rfl).1 (u _ at_ 0 _ rfl _ rfl).2 MF
  have h5:rm r 5<5:=JuX _ Ax;have hg:∀w:List Nat,[l++[32],32::l,cutD l EO No++cutD l No EO,[],l++l][rm r 5]? =So w->∀m,Mz m->m w<=2*m l+1:=λw h m z=>by have L:=z.cut l No Cn;have N:=z.cut l Cn No;have h3:=z.one 32;have h4:=z.nil;have h6:m (32::l)=m [32]+m l:=z.add [32] l;have:=mJ h;simp only[Ze,ZK,lA]at this;rcases this with rfl|rfl|rfl|rfl|rfl<;>first|(simp only[z.add];lia)|lia
  refine⟨[l++[32],32::l,cutD l EO No++cutD l No EO,[],l++l][rm r 5],hg _ (Zu (by simpa using h5)),λc=>?_⟩;rw[spT,M c _ _ _ rfl,x c 2 2 rfl _ _ _ rfl B,Z c _ _ _ rfl,x c 5 5 rfl _ _ _ rfl X,x c 6 6 rfl _ _ _ rfl w5,JB,s32,s0];refine Jh _ _ (Jwh _ _ (J:=[l++[32],32::l,cutD l EO No++cutD l No EO,[],l++l].map λl=>.str RT) (Jj _ _ (Jh _ _ rfl rfl (a2 l [32] (Zh _) Af)) (Jj _ _ (Jh _ _ rfl rfl (vC [32] l DL)) (Jj _ _ (Jh _ _ (u _ at_ 0 _ rfl _ rfl).2 (u _ at_ 0 _ rfl _ rfl).1 MF) (Jj _ _ rfl (Jj _ _ (Jh _ _ rfl rfl (a2 l l (Zh _) bM)) rfl))))) Af) (Jh _ _ (y:=.int 5) (z:=.int (rm r 5:Nat)) rfl rfl (xN r 5 5 rfl Ax)) ?_;rw[JvK,atN _ _ (by rw[Zj];exact h5),List.getElem_map];rfl
 obtain⟨w,L,N⟩:=W;exact⟨w,L,λc=>by rw[e1,N]⟩
def s10:oS "\n"=mkS [10]:=by decide+kernel
def Jje(C:Nat->CallD)(O:Fm)(e:Px)(x:Str)(f:α->D)(g:β->D)(h:β->α)(P:β->Prop):∀ls:List α,(∀l∈ls,(∀c,evD (C c) e (So (f l)::O)=.ex x)\/∃y,l=h y/\P y/\∀c,evD (C c) e (So (f l)::O)=.ok (g y))->
  (∀c,JX 0 M9 Mw O fC=.ex x)\/∃b:List β,ls=b.map h/\(∀y∈b,P y)/\∀c,JX 0 M9 Mw O fC=.ok (b.map g)
 |[],_=>.inr ⟨[],rfl,by simp,λc=>rfl⟩
 |l::ls,hl=>by
  have s:∀c,JX 0 M9 Mw O ((l::ls).map f)=(evD (C c) e (So (f l)::O)).bind λy=>(JX 0 M9 Mw O fC).bind λb=>.ok (y::b):=λc=>rfl
  rcases hl l Af with j|⟨y,F,B,j⟩
  ·left;intro c;rw[s,j];rfl
  ·rcases Jje C O e x f g h P ls (λw m=>hl w (Zx _ m))with q|⟨b,E,u,q⟩
   ·left;intro c;rw[s,j,Rs.bo,q];rfl
   ·refine .inr ⟨y::b,by rw[Zg,<-F,<-E],?_,λc=>by rw[s,j,Rs.bo,q];rfl⟩
    intro z o
    rcases Ze.mp o with rfl|o
    ·exact B
    ·exact u z o
def Jjx{c:Nat}:∀{l:Aj},c∉l->cutL c l=(l,No)
 |[],_=>rfl
 |x::l,h=>by
  have b:x≠c:=λe=>h (by simp[e])
  have f:=Jjx (c:=c) (l:=l) λz=>h (Zx _ z)
  rw[cutL,if_neg b,f]
def JM (r:Row):List Nat:=r.l.cps.toList++32::txt r.ps
structure RowP(r:Row):Prop where
 l:r.l.length<=19000
 n:r.ps.length<=20000
 t:(txt r.ps).length<=19000
 p:∀c,runD defs (c+6) 10 [.tup Nv]=.ok B0
theorem JsE(l:Aj)(E:C6):(∀c,runD defs B8 24 BA=.ex BP)\/∃r:Row,l=JM r/\RowP r/\∀c,runD defs B8 24 BA=.ok r.d:=by
 by_cases h:32∈l
 ·obtain⟨a,b,B,s⟩:=jO h;have j:=iA YS s;rw[Zi,Zm]at j;have m:op2 .partS BO Lj=.ok (.tup US):=by have:op2 .partS BO Lj=.ok (uC l 32):=if_pos ⟨show l.length<=20000 by lia,rfl⟩;rw[this,uC,B]
  rcases Jju b Ad with f|⟨q,_,u,o,z,C⟩
  ·left;intro c;rw[jW,qL,s32,nA _ _ _ 'ɣ',JB];simp only[List.set];rw[pY,rD,Jh _ _ (x:=.tup US) (y:=.int 0) rfl rfl rfl,Rs.bo,rD,Jf _ _ (x:=.str Qav) rfl (f c)];rfl
  ·refine .inr ⟨⟨mkS a,q⟩,by rw[JM,o];exact s,⟨show a.length<=19000 by lia,u,by rw[o];lia,z⟩,λc=>?_⟩;rw[jW,qL,s32,nA _ _ _ 'ɣ',JB];simp only[List.set];exact mE _ _ (Jj _ _ (Jh _ _ (x:=.tup US) (y:=.int 0) rfl rfl rfl) (Jj _ _ (Jf _ _ (x:=.str Qav) rfl (C c)) rfl)) Af
 ·left;intro c;have m:op2 .partS BO (.str (mkS [32]))=.ok (.tup RN):=by have:op2 .partS BO Lj=.ok (uC l 32):=if_pos ⟨show l.length<=20000 by lia,rfl⟩;rw[this,uC,Jjx h]
  have f:runD defs (c+7) 20 [.str Gj]=.ex BP:=by
   rcases Jju [] Af with f|⟨q,w,_⟩
   ·exact f c
   ·cases w
  rw[jW,qL,s32,nA _ _ _ 'ɣ',JB];simp only[List.set];rw[pY,rD,Jh _ _ (x:=.tup RN) (y:=.int 0) rfl rfl rfl,Rs.bo,rD,Jf _ _ (x:=.str Gj) rfl f];rfl
def Jqf(l:Aj)(s:Nat):op2 .ends BO Fv=.ok (.bl (decide (l.getLast? =So s))):=by
 show Rs.ok (D.bl (decide (0+1<=Yr)&&(l.toArray.extract (l.length-1) (l.length-1+1)==#[s])))=_;rcases List.eq_nil_or_concat l with rfl|⟨b,x,rfl⟩
 ·rfl
 ·rw[List.concat_eq_append];have e:((b++[x]).toArray.extract ((b++[x]).length-1) ((b++[x]).length-1+1))=#[x]:=by simp
  rw[e];by_cases h:x=s<;>simp[h]
def lnO (l:Aj):Option (List B3):=if l=[]then So []else if l.getLast? =So 10 then So (Jk 10 l.dropLast)else No
def JwM(x y:Aj):op2 .eq (.str (mkS x)) (.str (mkS y))=.ok (.bl (decide (x=y))):=by
 rw[JhO];congr 2;by_cases e:x=y
 ·simp[e]
 ·rw[Zp e,Zq];exactλz=>e (by have:=iA (·.cps.toList) z;exact this)
theorem lines_of(l:Aj)(j:EJ)(c:Nat):runD defs AS 23 BA=match lnO l with
  |some ls=>.ok Qa2
  |none=>.ex BP:=by
 rw[Jkp,JcM,s10,s0,Jm _ _ _ _ (Jh _ _ rfl rfl (JwM l []))];unfold lnO;by_cases f:l=[]
 ·rw[if_pos f,ZD f,if_pos rfl];rfl
 ·rw[if_neg f,Zp f,if_neg 'p'];by_cases h:l.getLast? =So 10
  ·rw[if_pos h,uG _ _ _ (env2:=[So BO]) (by
    rw[n_if _ _ (b:=Fo) _ _ (Jq _ _ (p:=To) (JD _ _ (by rw[Jh _ _ rfl rfl (Jqf l 10),ZD h])))];rfl),JB]
   exact Jh _ _ (by
    rw[zT 'Þ' [So BO] (i:=0) (l:=l) rfl j rfl rfl (JC _ _ Sk rfl) rfl];show Rs.ok (D.str (mkS (cutD l No (So (-1)))))=_;rw[Jfx]) rfl (rV _ 10 (by rw[List.length_dropLast];lia))
  ·rw[if_neg h,JU,n_if _ _ (b:=To) _ _ (Jq _ _ (p:=Fo) (JD _ _ (by rw[Jh _ _ rfl rfl (Jqf l 10),Zp h])))];rfl
def uV(s:Nat):∀ls:List B3,ls≠[]->Jn [s] ls++[s]=ls.flatMap (·++[s])
 |[],h=>absurd rfl h
 |[x],_=>by simp[Jn]
 |x::y::r,_=>by
  have b:=uV s (y::r) Af
  rw[zF,<-b]
  simp[Jn]
def JiV(h:lnO l=So ls):l=ls.flatMap (·++[10]):=by
 unfold lnO at h;split at h
 ·rename_i e;cases h;exact e
 ·split at h
  ·rename_i j b;cases h;rw[<-uV 10 _ (kP 10 _),qP];rcases List.eq_nil_or_concat l with rfl|⟨f,x,rfl⟩
   ·cases b
   ·rw[List.concat_eq_append]at b⊢;rw[List.getLast?_concat]at b;cases b;rw[sW]
  ·cases h
theorem Jjg:∀x∈ls,Yo+1<=(ls.flatMap (·++[10])).length:=by
 induction ls with
 |nil=>intro x h;cases h
 |cons y r b=>
  intro x h;rw[zF,Zi,Zi,ZQ];rcases Ze.mp h with rfl|h
  ·lia
  ·have:=b x h;lia
theorem JnZ(ls:BR):Bo<=(ls.flatMap (·++[10])).length:=by
 induction ls with
 |nil=>simp
 |cons y r b=>rw[zF,Zi,Zi,ZQ,Zm];lia
def tabT (rows:AL):List Nat:=(rows.map JM).flatMap (·++[10])
theorem row_b(r:Row)(h:RowP r):∃b,∀c,runD defs (c+7) 11 [r.d]=.ok Bt:=by obtain⟨b,f⟩:=iO r.l (by have:=h.l;lia);refine⟨To&&(b&&To),λc=>?_⟩;have j:=JA Kl 2 2 (c+5);rw[Jis,iV,JB];exact zA _ _ (Jr _ _ rfl j) λ_=>zA _ _ (Jf _ _ LP (f (c+4))) λ_=>Jf _ _ LO (h.p c)
theorem Jrd(rows:AL)(h:∀r∈rows,RowP r)(u:Bu<=20000):∃b,∀c,runD defs B8 12 KS=.ok Bt:=by
 obtain⟨b,j⟩:=rY YL 11 7 rows (λr w=>row_b r (h r w)) u;have h1:=λc=>JA IE 0 8 (c+6);by_cases x:Bu<=8
 ·have o:∀c,evD Da Ua Qcq=.ok (.lst ('ƶ'.map .str)):=λc=>by
   rw[Zr];exact JS _ _ YL SU rfl Ad λr _=>row0 r _ _ 0 rfl
  have s:=λc=>has_twice 'ƶ' (by rw[Zj];lia) (c+6);have f:∀c,runD defs B8 12 KS=if(!(decide ((0:Int)<=('ƥ'.length:Int))&&decide (('ƥ'.length:Int)<=8))||!b)then .ok Bq else .ok (.bl (!qB 'ƶ')):=λc=>by
   rw[JcE,yP];rw[Jm _ _ _ _ (lE _ _ (q:=!b) MJ λ_=>Jq _ _ Ql)];rw[JB,Jq _ _ (Jf _ _ (o c) (s c))];rfl
  by_cases q:(!(decide ((0:Int)<=('ƥ'.length:Int))&&decide (('ƥ'.length:Int)<=8))||!b)=To
  ·exact⟨Fo,λc=>by rw[f,if_pos q]⟩
  ·exact⟨_,λc=>by rw[f,if_neg q]⟩
 ·refine⟨Fo,λc=>?_⟩;have m:(!(decide ((0:Int)<=('ƥ'.length:Int))&&decide (('ƥ'.length:Int)<=8)))=To:=by rw[Zj,Zp (p:=(Bu:Int)<=8) 'c',oJ];rfl
  rw[JcE,yP,Jm _ _ (p:=To) _ _ (by
   have:=lE Da Qcq (q:=!b) (a:=.un .not Xs) MJ λ_=>Jq _ _ Q7;rw[m,Bool.true_or]at this;exact this),if_pos rfl]
  rfl
theorem Jss(l:Aj)(E:C6):(∀c,runD defs (c+9) 25 BA=.ex BP)\/∃rows:List Row,tabT rows=l/\rows.length<=20000/\(∀r∈rows,RowP r)/\(∀c,runD defs B8 12 KS=.ok B0)/\∀c,runD defs (c+9) 25 BA=.ok Do:=by
 have w:=λc=>lines_of l Ad c;cases e:lnO l with
 |none=>left;intro c;have:=w (c+7);rw[e]at this;rw[vP,JP,JU,yH,e_un,rG,lF,Jf _ _ rfl this];rfl
 |some ls=>
  have f:=JiV e;have x:Bo<=19000:=by have:=JnZ ls;rw[<-f]at this;lia
  have C:∀c,evD C4 Lp KQ=.ok Qa2:=λc=>by have:=w (c+7);rw[e]at this;rw[lF,Jf _ _ rfl this];rfl
  have j:∀c,evD C4 UM KQ=(JX 0 (evD C4 Cb) (evD C4 Qdx) KQ N2).bind λz=>.ok (.lst z):=λc=>by rw[rG,C];exact if_pos (by rw[Zj];exact hJ Ad)
  rcases Jje (λc=>runD defs B8) KQ Qdx BP PR YL JM RowP ls (λp hp=>by
   have s:=Jjg p hp;rw[<-f]at s;rcases JsE p Ad with h|⟨r,m,o,q⟩
   ·exact .inl λc=>Jf _ _ rfl (h c)
   ·exact .inr ⟨r,m,o,λc=>Jf _ _ rfl (q c)⟩)with h|⟨rows,m,o,q⟩
  ·left;intro c;rw[vP,JP,JU,yH,e_un,j,h c];rfl
  ·have y:Bu<=19000:=by rw[m,Zj]at x;exact x
   obtain⟨b,hp⟩:=Jrd rows o Ad;have B:tabT rows=l:=by rw[tabT,<-m,<-f]
   have u:∀c,evD C4 QbK KQ=.ok Do:=λc=>by rw[e_un,j,q c];rfl
   cases b with
   |true=>
    right;refine⟨rows,B,by lia,o,hp,λc=>?_⟩;rw[vP,JP,nA _ _ _ (u c)];simp only[List.set];rw[uG _ _ _ (env2:=[So BO,So Do]) (by
     rw[n_if _ _ (b:=Fo) _ _ (Jq _ _ (p:=To) K8)];rfl),JB]
    rfl
   |false=>left;intro c;rw[vP,JP,nA _ _ _ (u c)];simp only[List.set];rw[JU,n_if _ _ (b:=To) _ _ (Jq _ _ (p:=Fo) K8)];rfl
def Jeo:∀ls:List B3,Jn [] ls=ls.flatten
 |[]=>rfl
 |[x]=>by simp[Jn]
 |x::y::r=>by
  have b:=Jeo (y::r)
  show x++([]++Jn [] (y::r))=_
  rw[b];simp
theorem written_row(r:Row)(b:r.ps.length<=20000)(h:(JM r).length<=19999)(c:Nat):runD defs A4 21 [r.d]=.ok (.str (mkS (JM r++[10]))):=by simp only[JM,Zi,Zm,Js]at h;have f:=written r.ps b Ad c;rw[Jfj,Jbi,JB,s32,s10,Jh _ _ (Jh _ _ (Jh _ _ (x:=.str Xi) LP rfl (vC _ _ (by rw[Js];simp;lia))) (Jf _ _ LO f) (vC _ _ (by simp only[Zi,ZQ,Js];lia))) rfl (vC _ _ (by simp only[Zi,ZQ,Js];lia))];simp[JM]
theorem written_table(rows:AL)(o:Bu<=20000)(f:∀r∈rows,aZ<=20000)(h:'Ϯ'.length<=19999)(c:Nat):runD defs (c+4) 22 KS=.ok Qao:=by
 have j:op2 .joinS (.str Gj) (.lst (rows.map λr=>.str (mkS (JM r++[10]))))=.ok Qao:=by
  have e:JQ (rows.map λr=>.str (mkS (JM r++[10])))=So (rows.map λr=>mkS (JM r++[10])):=by have:=JT (rows.map λr=>mkS (JM r++[10]));rwa[Zr]at this
  have m:Jn 'ƿ'.cps.toList ((rows.map λr=>mkS (JM r++[10])).map (·.cps.toList))=tabT rows:=by show Jn [] _=_;rw[Jeo,Zr,tabT,List.flatMap_def,Zr];rfl
  simp only[op2,e,m];exact if_pos ⟨by show 0<=1000;decide,by lia⟩
 rw[JdI,Jax,JB,s0];exact Jh _ _ rfl (JS _ _ YL (λr=>.str (mkS (JM r++[10]))) (rs:=rows) rfl o λr b=>Jf _ _ rfl (written_row r (f r b) (by
  have:=Jjg (ls:=rows.map JM) (JM r) (lG b);unfold tabT at h;lia) c)) j
noncomputable def sm (ls:BR):Nat:=(ls.map λl=>Yr+1).sum
def iU(a b:BR):sm (a++b)=sm a+sm b:=by simp[sm]
theorem JhH(s:Nat):∀ls:List B3,'ɷ'.length<=sm ls
 |[]=>by simp[Jn]
 |[x]=>by simp[Jn,sm]
 |x::y::r=>by
  have b:=JhH s (y::r)
  have e:sm (x::y::r)=Yo+1+sm (y::r):=by simp[sm]
  rw[e]
  simp only[Jn,Zi,ZQ]
  lia
def mL(x:Aj)(r:BR):sm (x::r)=Yo+1+sm r:=by simp[sm]
theorem JiC(c:Nat):∀l:List Nat,sm QcK=Yr+1
 |[]=>rfl
 |x::l=>by
  have b:=JiC c l
  have f:=kP c l
  unfold Jk
  split
  ·rw[mL,b];simp;lia
  ·cases h:Jk c l with
   |nil=>exact absurd h f
   |cons p r=>
    rw[h]at b
    rw[lN,mL]
    rw[mL]at b
    simp only[Zm]
    lia
def Jrw(n d p:Nat):six n d (So (p:Int))=min p n:=by show(if(p:Int)<0 then((p:Int)+(n:Int)).toNat else min (p:Int).toNat n)=_;rw[if_neg 'c'];rfl
theorem Jqv:∀ls:List B3,Bo<=sm ls
 |[]=>by simp
 |x::r=>by have:=Jqv r;rw[mL,Zm];lia
theorem Jvh(xs:BR)(lo hi:A2):sm (cutD xs lo hi)<=sm xs:=by unfold cutD;generalize six Ah 0 lo=a;generalize six Ah Ah hi-a=b;have h:=iA sm OZ;have f:=iA sm (xR a xs);rw[iU]at h f;lia
noncomputable def txV (w:Str):Bool:=decide (w.cps.toList.head? ≠So 58/\w.cps.toList.head? ≠So 35/\w.cps.toList.head? ≠So 42/\61∉w.cps.toList/\47∉w.cps.toList/\124∉w.cps.toList/\w.cps.toList≠[]/\w.cps.toList.length<=4/\10∉w.cps.toList)
def w_tx:∀w∈words9,txV w=To:=by decide+kernel
def n_tx:∀w∈names9,txV w=To:=by decide+kernel
def l_tx:∀w∈names9,32∉w.cps.toList/\w.cps.toList.head? ≠So 91:=by decide+kernel
def rd_vp(p:Part)(h:p.vp):rdP Yf=p:=by
 cases p with
 |word x=>obtain⟨o,m,b,f,_⟩:=ZW (w_tx x h);rw[txP,jP _ o m b,if_neg f,pF]
 |one n q=>
  obtain⟨B,s,y,G,_⟩:=h;obtain⟨o,m,b,f,E,F,u,_⟩:=ZW (n_tx n B);have j:(txP (.one n q)).head? =n.cps.toList.head?:=by
   show(YV++_).head? =_;cases e:n.cps.toList with
   |nil=>exact absurd e u
   |cons x r=>rfl
  rw[jP _ (by rw[j];exact o) (by rw[j];exact m) (by rw[j];exact b),if_pos (by simp[txP]),txP,JhE _ f];simp only[zQ];rw[Rd.sL (by simpa using y) (λl C=>by
   obtain⟨w,z,rfl⟩:=Zz.mp C;exact(ZW (w_tx w (s w z))).2.2.2.2.2.1),pF,Zr]
  congr 1;exact(vD λw _=>rfl).trans (List.map_id q)
 |any n=>rfl
 |number n=>rfl
 |rest n=>rfl
theorem vU(p:Part)(h:p.vp):txP p≠[]/\47∉txP p/\(txP p).length<=28/\10∉txP p:=by
 have one:∀(x:Nat)(n:Str),n∈names9->x≠47->x≠10->(x::n.cps.toList)≠[]/\47∉(x::n.cps.toList)/\(x::n.cps.toList).length<=28/\10∉(x::n.cps.toList):=λx n H J I=>by
  obtain⟨E,C,q,u,b,B,j,F,f⟩:=ZW (n_tx n H);refine⟨by simp,?_,by simp only[Zm];lia,?_⟩
  ·simp only[Ze,not_or];exact⟨Ne.symm J,b⟩
  ·simp only[Ze,not_or];exact⟨Ne.symm I,f⟩
 cases p with
 |word x=>obtain⟨E,C,q,u,b,B,j,F,f⟩:=ZW (w_tx x h);exact⟨j,b,by show x.cps.toList.length<=28;lia,f⟩
 |one n G=>
  obtain⟨L,s,M,N,_⟩:=h;obtain⟨E,C,q,u,b,B,j,F,f⟩:=ZW (n_tx n L);have no:∀x,x=47\/x=10->x∉Jn [124] (G.map (·.cps.toList)):=λx y z=>by
   rcases nP z with z|⟨l,o,z⟩
   ·rcases y with rfl|rfl<;>exact absurd z (by decide)
   ·obtain⟨w,m,rfl⟩:=Zz.mp o;have:=ZW Qbf;rcases y with rfl|rfl
    ·exact this.2.2.2.2.1 z
    ·exact this.2.2.2.2.2.2.2.2 z
  refine⟨by simp[txP],?_,?_,?_⟩
  ·simp only[txP,ZC,Ze,not_or];exact⟨b,by decide,no _ BJ⟩
  ·have:=Jfo (n:=4) 124 (G.map (·.cps.toList)) λl o=>by
    obtain⟨w,m,rfl⟩:=Zz.mp o;exact(ZW Qbf).2.2.2.2.2.2.2.1
   rw[Zj]at this;simp only[txP,Zi,Zm];lia
  ·simp only[txP,ZC,Ze,not_or];exact⟨f,by decide,no _ (.inr rfl)⟩
 |any n=>exact one 58 n h Ax Ax
 |number n=>exact one 35 n h Ax Ax
 |rest n=>exact one 42 n h Ax Ax
structure RowG(r:Row):Prop where
 l:r.l∈names9
 vp:∀p∈r.ps,p.vp
 pt:patB r.ps=To
def RowG.n(h:aO):r.ps.length<=6:=Jmi h.pt
theorem RowG.tlen(h:aO):(txt r.ps).length<=175:=by
 have:=Jfo (n:=28) 47 (r.ps.map txP) λl b=>by obtain⟨p,f,rfl⟩:=Zz.mp b;exact(vU p fD).2.2.1
 have:=h.n;rw[Zj]at*;simp only[txt,Zm];lia
theorem RowG.len(h:aO):(JM r).length<=180:=by have:=h.tlen;have:=(ZW Ku).2.2.2.2.2.2.2.1;simp only[JM,Zi,Zm];lia
def RowG.t10(h:aO):10∉txt r.ps:=λz=>by
 rcases Ze.mp z with z|z
 ·revert z;decide
 ·rcases nP z with z|⟨l,b,z⟩
  ·revert z;decide
  ·obtain⟨p,f,rfl⟩:=Zz.mp b
   exact(vU p fD).2.2.2 z
def RowG.no10(h:aO):10∉JM r:=λz=>by
 rcases ZC.mp z with z|z
 ·exact(ZW Ku).2.2.2.2.2.2.2.2 z
 ·rcases Ze.mp z with z|z
  ·revert z;decide
  ·exact h.t10 z
def RowG.no91(h:aO):(JM r).head? ≠So 91:=by
 have b:=(l_tx r.l h.l).2;have f:=(ZW Ku).2.2.2.2.2.2.1;unfold JM;cases e:r.l.cps.toList with
 |nil=>exact absurd e f
 |cons x j=>rw[e]at b;exact b
theorem RowG.read(h:aO)(c:Nat):runD defs B8 24 [.str Mr]=.ok r.d:=by
 have f:=h.len;have b:op2 .partS (.str Mr) Lj=.ok (.tup Vj):=by have:op2 .partS (.str Mr) Lj=.ok (uC (JM r) 32):=if_pos ⟨show(JM r).length<=20000 by lia,rfl⟩;rw[this,uC,JM,JhE _ (l_tx r.l h.l).1]
 have j:runD defs (c+7) 20 [.str Uo]=.ok (.tup Nv):=Jnb r.ps (λc=>by rw[is_pattern r.ps h.vp (by have:=h.n;lia),h.pt]) (Jow _ (λl f=>by
  obtain⟨p,b,rfl⟩:=Zz.mp f;exact(vU p fE).1) λl f=>by
  obtain⟨p,b,rfl⟩:=Zz.mp f;exact(vU p fE).2.1) (λp b=>rd_vp p fE) (by have:=h.tlen;lia) c
 rw[jW,qL,s32,nA _ _ _ (Jh _ _ rfl rfl b),JB];simp only[List.set];exact mE _ _ (Jj _ _ (Jh _ _ (x:=.tup Vj) (y:=.int 0) rfl rfl rfl) (Jj _ _ (Jf _ _ (x:=.str Uo) rfl j) rfl)) Af
theorem Jmq:∀{rows:AL},(∀r∈rows,RowG r)->'Ϯ'.length<=181*Bu
 |[],_=>by simp[tabT]
 |r::rows,h=>by
  have f:=Jmq (rows:=rows) λq b=>h q KG
  have:=(h r Af).len
  simp only[tabT,Zg,zF,Zi,Zm,yE]at f⊢
  lia
def JoT{rows:AL}(h:∀r∈rows,RowG r):lnO 'Ϯ'=So (rows.map JM):=by
 unfold lnO;cases rows with
 |nil=>rfl
 |cons r f=>
  have e:=uV 10 ((r::f).map JM) Af;have b:tabT (r::f)≠[]:=by unfold tabT;rw[<-e];simp
  rw[if_neg b];unfold tabT;rw[<-e,if_pos 'k',sW,Rd.sL 'k' λl m=>by
   obtain⟨q,j,rfl⟩:=Zz.mp m;exact(h q j).no10]
def TabOk.row(h:EC):∀r∈t,RowG r:=λr b=>⟨h.lb r b,h.vp r b,h.pt r b⟩
theorem TabOk.len(h:EC):'Ҕ'.length<=1448:=by have:=Jmq h.row;have:=h.ln;lia
theorem read_table(h:EC)(c:Nat):runD defs (c+9) 25 [.str fF]=.ok (tD t):=by
 have j:=lines_of 'Ҕ' (by have:=h.len;lia) (c+7);rw[JoT h.row]at j;have o:=h.ln;have m:∀c,runD defs B8 12 [.tup Mx]=.ok B0:=λc=>by
  rw[is_table t h.lb h.vp (λr f=>by have:=(h.row r f).n;lia) 'c'];have:tabB t=To:=by unfold tabB;rw[h.nt,ZD h.ln,wA.mpr λr f=>h.pt r f];rfl
  rw[this]
 rw[vP,JP,nA _ _ (d:=.tup Mx) _ (by
  refine JC _ _ (JS _ _ (λr=>.str Mr) YL (rs:=t) (by rw[lF,Jf _ _ rfl j];show Rs.ok (D.lst ((t.map JM).map _))=_;rw[Zr];rfl) Ad λr f=>Jf _ _ rfl ((h.row r f).read c)) rfl)]
 simp only[List.set];rw[uG _ _ _ (env2:=[So (.str fF),So (.tup Mx)]) (by
  rw[n_if _ _ (b:=Fo) _ _ (Jq _ _ (p:=To) (JD _ _ (Jf _ _ rfl (m c))))];rfl),JB]
 rfl
noncomputable abbrev SE:=List (Str×Str)
variable{x:FW}
noncomputable def skD (E:SE):List D:=E.map λp=>.str p.1
noncomputable def svD (E:SE):List D:=E.map λp=>.str p.2
noncomputable def sget (n:Str):SE->Option Str
 |[]=>No
 |p::E=>if p.1==n then So p.2 else sget n E
def JqA(n:Str):∀E:SE,oA By 'շ' (svD E)='买'.map .str
 |[]=>rfl
 |p::E=>by
  have b:=JqA n E
  unfold skD svD at b⊢
  simp only[Zg,oA,wH,sget,b]
  split<;>rfl
def Jqz(n:Str):∀E:SE,'շ'.any Ov='买'.isSome
 |[]=>rfl
 |p::E=>by
  have b:=Jqz n E
  unfold skD at b⊢
  simp only[Zg,uD,wH,sget,b]
  cases p.1==n<;>rfl
def sput (n t:Str) (E:SE):SE:=if(sget n E).isSome then E.map (λp=>(p.1,if p.1==n then t else p.2))else E++[(n,t)]
def JpW(n t:Str):∀E:SE,setD By (.str t) 'շ' (svD E)=E.map λp=>.str (if p.1==n then t else p.2)
 |[]=>rfl
 |p::E=>by
  have b:=JpW n t E
  unfold skD svD at b⊢
  simp only[Zg,setD,wH,b]
  by_cases q:(p.1==n)=To<;>simp[q]
def Jwu(n t:Str)(E:SE):putD By (.str t) 'շ' (svD E)=(skD Mq,svD Mq):=by
 unfold putD sput;rw[Jqz];cases sget n E with
 |none=>simp[skD,svD]
 |some x=>simp only[kG,if_true,JpW];simp[skD,svD,Zr,ZL]
def Jjq(n:Str)(t:Str)(E:SE):(sget n Mq).isSome=To:=by
 have h:∀E:SE,'买'.isSome=E.any (λp=>p.1==n):=λE=>by
  induction E with
  |nil=>rfl
  |cons p E b=>simp only[sget,uD];cases p.1==n<;>simp[b]
 rw[h];unfold sput;split
 ·rename_i q;rw[h]at q;simpa[vL,ZL]using q
 ·simp
def qD (x:FW) (ln:Aj):Option (SE×Option Str):=
 if ln.head? =So 91 then So (sput EN Gj x.1,So EN)else match x.2 with
  |none=>No
  |some h=>match sget h x.1 with
   |some v=>So (sput h (v++mkS (ln++[10])) x.1,So h)
   |none=>No
def uB:List (List Nat)->SE×Option Str->Option (SE×Option Str)
 |[],x=>So x
 |l::ls,x=>(qD x l).bind (uB ls)
def gE (l:Aj):Option SE:=(lnO l).bind λls=>(uB ls ([],No)).map (·.1)
noncomputable def wgt (E:SE):Nat:=(E.map λp=>p.1.length+1+p.2.length).sum
noncomputable def kyE (E:SE):List Str:=E.map (·.1)
def Jfk(n:Str):∀E:SE,'买'.isSome=To↔n∈kyE E
 |[]=>by simp[sget,kyE]
 |p::E=>by
  have b:=Jfk n E
  unfold kyE at b⊢
  simp only[sget,Zg,Ze]
  by_cases q:p.1=n
  ·simp[q]
  ·rw[show(p.1==n)=Fo from by rw[Zq];exact q]
   simp only[Zo,ZN,b]
   exact⟨.inr,λz=>z.resolve_left 'Ǒ'⟩
def Jll(n t:Str)(E:SE)(h:(kyE E).Nodup):(kyE Mq).Nodup:=by
 unfold sput;split
 ·simpa[kyE,Zr,ZL]using h
 ·rename_i q;have j:n∉kyE E:=λz=>q ((Jfk n E).mpr z);unfold kyE at h j⊢;rw[uA,oR];refine⟨h,by simp,λa m b f=>?_⟩;simp only[Zg,sE,ZZ]at f;subst f;exactλz=>j (z▸m)
def tZ(n t:Str):∀E:SE,n∉kyE E->E.map (λp=>(p.1,if p.1==n then t else p.2))=E
 |[],_=>rfl
 |p::E,h=>by
  unfold kyE at h
  simp only[Zg,Ze,not_or]at h
  rw[Zg,tZ n t E h.2,show(p.1==n)=Fo from by rw[Zq];exact Ne.symm h.1]
  rfl
theorem JhD(n t:Str):∀E:SE,(kyE E).Nodup->sget n E=So v->wgt (E.map λp=>(p.1,if p.1==n then t else p.2))+v.length=wgt E+t.length
 |[],_,h=>by cases h
 |p::E,nd,h=>by
  unfold kyE at nd
  rw[Zg,vA]at nd
  by_cases q:p.1=n
  ·subst q
   simp only[sget,BEq.rfl,if_true,ZR]at h
   subst h
   rw[Zg,tZ _ t E nd.1]
   simp only[wgt,Zg,nB,BEq.rfl,if_true]
   lia
  ·have b:(p.1==n)=Fo:=by rw[Zq];exact q
   simp only[sget,b,Zo,ZN]at h
   have f:=JhD n t E nd.2 h
   simp only[wgt,Zg,nB,b,Zo,ZN]at f⊢
   lia
theorem Jly:∀{E:SE}{n v:Str},sget n E=So v->v.length<=wgt E
 |[],_,_,h=>by cases h
 |p::E,n,v,h=>by
  simp only[sget]at h
  simp only[wgt,Zg,nB]
  split at h
  ·cases h;lia
  ·have:=Jly h;simp only[wgt]at this;lia
structure HI(x:FW)(w c:Nat):Prop where
 nd:(kyE x.1).Nodup
 hd:∀h,x.2=So h->(sget h x.1).isSome=To
 wg:wgt x.1<=w
 ln:x.1.length<=c
noncomputable def nh (ls:BR):Nat:=(ls.filter λl=>decide (l.head? =So 91)).length
theorem HI.step{z:FW}{w c:Nat}{ln:Aj}(h:HI x w c)(e:qD x ln=So z):HI z (w+ln.length+1) (c+nh [ln]):=by
 unfold qD at e;split at e
 ·rename_i q;cases e;have o:nh [ln]=1:=by simp[nh,q]
  refine⟨Jll _ _ _ h.nd,λm e=>by cases e;exact Jjq _ _ _,?_,?_⟩
  ·have j:=h.wg;show wgt (sput EN Gj x.1)<=_;cases b:sget EN x.1 with
   |none=>unfold sput;rw[b];simp only[Option.isSome_none,Zo,ZN,wgt,uA,List.sum_append,Zg,sE,nB,List.sum_nil,xK,yE]at j⊢;lia
   |some v=>have:=JhD EN Gj x.1 h.nd b;unfold sput;rw[b];simp only[kG,if_true];rw[xK]at this;simp only[yE]at this;lia
  ·have:=h.ln;show(sput _ _ x.1).length<=_;unfold sput;split
   ·rw[Zj];lia
   ·rw[Zi,ZQ];lia
 ·split at e
  ·cases e
  ·rename_i m s;split at e
   ·rename_i v f;cases e;refine⟨Jll _ _ _ h.nd,λu e=>by cases e;exact Jjq _ _ _,?_,?_⟩
    ·have j:=h.wg;have:=JhD m (v++mkS (ln++[10])) x.1 h.nd f;show wgt (sput _ _ x.1)<=_;unfold sput;rw[f];simp only[kG,if_true];rw[Rd.JL,xK,Zi,ZQ]at this;lia
    ·have:=h.ln;show(sput _ _ x.1).length<=_;unfold sput;rw[f];simp only[kG,if_true,Zj];lia
   ·cases e
theorem Jhs(l:Aj)(ls:BR):nh (l::ls)=nh [l]+nh ls:=by simp only[nh,iD,List.filter_nil];split<;>simp<;>lia
def HI.fold:∀{ls:BR}{x z:FW}{w c:Nat},HI x w c->uB ls x=So z->HI z (w+sm ls) (c+nh ls)
 |[],x,z,w,c,h,e=>by cases e;simpa[sm,nh]using h
 |l::ls,x,z,w,c,h,e=>by
  simp only[uB]at e
  cases q:qD x l with
  |none=>rw[q]at e;cases e
  |some y=>
   rw[q]at e
   have:=HI.fold (h.step q) e
   rw[mL,Jhs]
   rwa[Nat.add_assoc,Nat.add_assoc,<-Nat.add_assoc l.length,Nat.add_assoc c]at this
noncomputable def hO:Option Str->D
 |none=>.non
 |some h=>.str h
noncomputable def hB:Sx:=(.ite VR (.seq Qcf
  QI) WR)
def Jpu:Jaf=(.seq (.ownD Fo 1) (.seq Qce (.seq (.loop Fo [3] 0 Lp hB) (.retF 1)))):=rfl
def s91:oS "["=mkS [91]:=by decide+kernel
def hE (T:D) (x:FW) (y:AY):Fm:=[So T,So (.dct Fo Fo (skD x.1) (svD x.1)),So (hO x.2),y]
def Jwb(E:SE):'շ'.length=E.length:=by simp[skD]
def Jwm{U:Ae}{T:D}{y:AY}{h:Str}{b:Px}(m:x.2=So h)(j:evD U b 'ӆ'=.ok G7)(o:x.1.length<1000):exD U (.put Fo Fo 1 BN b) 'ӆ'=.ok (.nx,hE T (sput h v x.1,x.2) y):=by
 have f:(hE T x y)[1]? =So (So (.dct Fo Fo (skD x.1) (svD x.1))):=rfl;rw[x_put,f];dsimp only;rw[j,Rs.bo,show evD U 'V' 'ӆ'=.ok (.str h)from by show Rs.ok (hO x.2)=_;rw[m];rfl,Rs.bo];have:(Fo&&!(D.str v).imm||!(Fo==Fo)||!keyD Fo (D.str h)||!decide ((skD x.1).length<1000))=Fo:=by rw[Jwb,ZD o];rfl
 rw[this,Jwu];rfl
theorem Jsy(U:Ae)(T:D){ln:Aj}{w c:Nat}(h:HI x w c)(B:c<1000)(J:w<=20000)(I:ln.length<=20000):
  exD U hB Lz=match qD x ln with
   |some z=>.ok (.nx,hE T z T5)
   |none=>.ex BP:=by
 have y:=h.ln;have s:evD U DQ Lz=.ok (.str EN):=rfl;rw[hB,n_if _ _ _ _ (JD _ _ (by rw[s91];exact Jh _ _ s rfl (rT ln 91)))];unfold qD;by_cases q:ln.head? =So 91
 ·rw[if_pos q,ZD q,if_pos rfl,nD _ _ _ s];show exD U _ (hE T (x.1,So EN) T5)=_;rw[Jwm (x:=(x.1,So EN)) rfl rfl (iF y B),s0]
 ·rw[if_neg q,Zp q,if_neg 'p'];cases f:x.2 with
  |none=>rw[n_if _ _ (b:=To) _ _ (show evD U Kv Lz=.ok B0 from by show op1 .isN (hO x.2)=_;rw[f];rfl)];rfl
  |some j=>
   rw[n_if _ _ (b:=Fo) _ _ (show evD U Kv Lz=.ok Bq from by show op1 .isN (hO x.2)=_;rw[f];rfl),if_neg 'p'];have u:=h.hd j f;cases m:sget j x.1 with
   |none=>rw[m]at u;cases u
   |some v=>
    dsimp only;have H:=Jly m;have F:=h.wg;have g:op2 Vc (.dct Fo Fo (skD x.1) (svD x.1)) cS=.ok G7:=by show(if Fo=Fo/\keyD Fo cS=To then Rs.ofOpt (oA cS (skD x.1) (svD x.1))else .sk)=_;rw[if_pos 'ħ',JqA,m];rfl
    have o:evD U BN Lz=.ok cS:=by show Rs.ok (hO x.2)=_;rw[f];rfl
    have C:op2 .add Nj G7=.ok G7:=by
     have E:Str.empty++v=v:=by cases v with|mk c=>show Str.mk (#[]++c)=_;simp
     have:op2 .add Nj G7=.ok (.str (YM++v)):=if_pos (hJ (show 0+v.length<=20000 by lia));rw[this,E]
    have G:op2 .add G7 (.str (mkS (ln++[10])))=.ok (.str (v++mkS (ln++[10]))):=if_pos (Zy (show v.length+(mkS (ln++[10])).length<=40001 by rw[xK,Zi,ZQ];lia) Ax);rw[Jwm f (Jh _ _ (Jh _ _ rfl (Jh _ _ rfl o g) C) (Jh _ _ s (by rw[s10];rfl) (vC ln [10] DL)) G) (iF y B),f];simp only[m]
def JlI(U:Ae)(T:D):∀(ls:BR){x:FW}{w c:Nat}(y:AY),HI x w c->c+nh ls<1000->w+sm ls<=20000->∃f,forL [3] 0 GO GC 'ӆ'=match uB ls x with
   |some z=>.ok (.nx,hE T z f)
   |none=>.ex BP
 |[],x,w,c,y,h,hc,hw=>⟨y,rfl⟩
 |l::ls,x,w,c,y,h,hc,hw=>by
  rw[Jhs]at hc
  rw[mL]at hw
  have b:=Jsy U T (ln:=l) h Ad Ad Ad
  have e:forL [3] 0 GO ((l::ls).map λl=>.str RT) 'ӆ'=(exD U hB (hE T x D1)).bind λr=>match r with
    |(.nx,env2)=>forL [3] 0 GO GC env2
    |(.ct,env2)=>forL [3] 0 GO GC env2
    |(.bk,env2)=>.ok HD
    |(.rt d,env2)=>.ok Lr:=rfl
  rw[e,b]
  simp only[uB]
  cases q:qD x l with
  |none=>exact⟨No,rfl⟩
  |some z=>exact JlI U T ls D1 (h.step q) Ad Ad
theorem JpT(h:lnO l=So ls):sm ls=Yr/\nh ls<=l.count 91:=by
 have e:=JiV h;constructor
 ·rw[e];unfold sm;rw[List.length_flatMap];simp
 ·rw[e,List.count_flatMap];clear e h;induction ls with
  |nil=>simp[nh]
  |cons x ls b=>
   rw[Jhs,Zg,nB];have:nh [x]<=(x++[10]).count 91:=by
    unfold nh;simp only[iD,List.filter_nil];split
    ·rename_i q;have q:=ZW q;cases x with
     |nil=>cases q
     |cons a r=>cases q;simp
    ·simp
   simp only[Function.comp_apply]at*;lia
def hi0:HI ([],No) 0 0:=⟨by simp[kyE],λh e=>(by cases e),by simp[wgt],by simp⟩
theorem JiM{E:SE}(h:gE l=So E):(kyE E).Nodup/\wgt E<=Yr/\E.length<=l.count 91:=by
 unfold gE at h;cases e:lnO l with
 |none=>rw[e]at h;cases h
 |some ls=>rw[e]at h;simp only[uF,qX]at h;obtain⟨z,b,rfl⟩:=h;obtain⟨f,j⟩:=JpT e;have:=hi0.fold b;exact⟨this.nd,by have:=this.wg;lia,by have:=this.ln;lia⟩
def tbh(l:Aj)(j:EJ)(o:l.count 91<1000)(c:Nat):runD defs AR 27 BA=match gE l with
  |some E=>.ok Q6
  |none=>.ex BP:=by
 have f:=lines_of l j c;rw[JcR,Jpu];unfold gE;cases e:lnO l with
 |none=>rw[e]at f;have:evD EI (.call 23 Df) 'Ȋ'=.ex BP:=Jf _ _ rfl f;simp only[JU,Jqr,List.set,Rs.bo,yH,qS,rC,Zo,ZN,yK,lF,this];rfl
 |some ls=>
  rw[e]at f;obtain⟨m,q⟩:=JpT e;have h:evD EI Lp 'Ȋ'=.ok Qa1:=by rw[lF,Jf _ _ rfl f];rfl
  obtain⟨s,b⟩:=JlI EI BO ls No hi0 Ad Ad;rw[show hE 'F' ([],No) No='Ȋ' from rfl]at b;simp only[JU,Jqr,List.set,Rs.bo,yH,qS,rC,Zo,ZN,yK,h,nF,b,uF];cases uB ls ([],No)with
  |none=>rfl
  |some z=>rfl
def Jun(x b:Str)(m:Int)(f:x.length<=20000)(c:Nat):runD defs AS 0 [.str x,.str b,.int m]=.ok (.bl ((decide (1<=(Yo:Int))&&decide ((Yo:Int)<=m))&&(x.cps.toList.all λa=>qE b a))):=by
 rw[Jdd,rW];rw[Jm _ _ (p:=Fo) _ _ rfl,if_neg 'p',JB];refine zA _ _ (p:=decide (1<=(Yo:Int))&&decide ((Yo:Int)<=m)) (q:=x.cps.toList.all λa=>qE b a) (zA _ _ (Jh _ _ rfl Qk GP) λ_=>Jh _ _ Qk rfl GP) λ_=>?_;refine JC _ _ (JS _ _ (λa:Nat=>D.str ⟨#[a]⟩) (λa=>.bl (qE b a)) (rs:=Yw) ?_ (by rw[Js];exact f) λa _=>?_) ?_
 ·rfl
 ·refine Jh _ _ rfl rfl ?_;exact if_pos rfl
 ·have:=JK (λa=>qE b a) Yw;simp only[op1,this,rE,ZL];rfl
def nmB (x:Str):Bool:=(decide (1<=(Yo:Int))&&decide ((Yo:Int)<=4))&&(x.cps.toList.all λa=>qE VG a)
def Jqi(x:Str)(b:x.length<=20000)(c:Nat):runD defs AR 2 [.str x]=.ok (.bl (nmB x)):=by rw[JgJ,tV,JB];exact Jr _ _ rfl (Jun x _ 4 b c)
theorem tU{x:Str}(h:nmB x=To):1<=Yo/\x.length<=4:=by simp only[nmB,Zc,Zs]at h;lia
def nmI (k:Str):Str:=mkS (cutD k.cps.toList (So 1) (So (-1)))
def nmO (k:Str):Option Str:=if nmB (nmI k)then So (nmI k)else No
def name_in(k:Str)(h:k.length<=20000)(c:Nat):runD defs A4 28 [.str k]=match nmO k with
  |some n=>.ok By
  |none=>.ex BP:=by
 have j:(cutD k.cps.toList (So 1) (So (-1))).length<=20000:=Zy (JqQ _ _ _) (by rw[Js];exact h);have f:=Jqi (nmI k) (by unfold nmI;rw[xK];exact j) c;rw[JlO,JdY,nA _ _ (d:=.str (nmI k)) _ (zT (l:=k.cps.toList) _ _ rfl (by rw[Js];exact h) Sk rfl (JC _ _ Sk rfl) rfl)];simp only[List.set];unfold nmO;cases q:nmB (nmI k)with
 |true=>
  rw[q]at f;rw[uG _ _ _ (env2:=[So (.str k),So (.str (nmI k))]) (by
   rw[n_if _ _ (b:=Fo) _ _ (Jq _ _ (p:=To) QH)];rfl),JB]
  rfl
 |false=>rw[q]at f;rw[JU,n_if _ _ (b:=To) _ _ (Jq _ _ (p:=Fo) QH)];rfl
def sZ:D->Option Part
 |.tup [.str k,.str n]=>if k==S "word" then So (.word n)else if k==S "any" then So (.any n)else if k==S "number" then So (.number n)else if k==S "rest" then So (.rest n)else No
 |.tup [.str _,.str n,.tup ws]=>(JQ ws).map (.one n)
 |_=>No
noncomputable def allO  (f:α->Option β):List α->Option (List β)
 |[]=>So []
 |x::xs=>match f x,allO f xs with
  |some y,So ys=>So (y::ys)
  |_,_=>No
def Jfq{f:α->Option β}{g:β->α}(h:∀y,f (g y)=So y):∀b:List β,allO f (b.map g)=So b
 |[]=>rfl
 |y::b=>by rw[Zg,allO,h,Jfq h b]
def JnQ(p:Part):sZ p.d=So p:=by
 cases p with
 |one n ws=>show(JQ DH).map (Part.one n)=_;rw[JT];rfl
 |_=>rfl
def JuC:D->Option Row
 |.tup [.str l,.tup ps]=>(allO sZ ps).map (Row.mk l)
 |_=>No
def JsV(r:Row):JuC r.d=So r:=by show(allO sZ Nv).map (Row.mk r.l)=_;rw[Jfq JnQ];rfl
def Juz:D->Option eY
 |.tup b=>allO JuC b
 |_=>No
def JmF(t:AL):Juz (tD t)=So t:=Jfq JsV t
def tbO (v:Str):Option eY:=match runD defs 9 25 [.str v]with
 |.ok d=>Juz d
 |_=>No
def Jmv(v:Str)(b:v.length<=19000):(tbO v=No/\∀c,runD defs (c+9) 25 [.str v]=.ex BP)\/∃t,tbO v=So t/\tabT t=v.cps.toList/\t.length<=20000/\(∀r∈t,RowP r)/\∀c,runD defs (c+9) 25 [.str v]=.ok (tD t):=by
 have e:=pF v;rcases Jss v.cps.toList (by rw[Js];exact b)with h|⟨t,h1,h2,h3,_,h5⟩
 ·left;rw[e]at h;refine⟨?_,h⟩;unfold tbO;rw[h 0]
 ·right;rw[e]at h5;refine⟨t,?_,h1,h2,h3,h5⟩;unfold tbO;rw[h5 0];exact JmF t
def JwR(h:EC):tbO fF=So t:=by unfold tbO;rw[read_table h 0];exact JmF t
def pD:SE->Kn->Option Kn
 |[],A=>So A
 |p::E,A=>match nmO p.1,tbO p.2 with
  |some n,So t=>pD E Gm
  |_,_=>No
noncomputable def rdB:Bs:=.eff Ws
def dn0:Dn [] []:=⟨rfl,by simp,rfl⟩
def JrP(c c2 a:Nat)(T:D)(w:Jl T=To)(p:Str×Str)(s:p.1.length<=20000)(q:p.2.length<=19000)(A:Kn)(u:A.length<1000):
  exO Fo IB Ve rdB [So T,So Ed,So (.str p.1),So (.str p.2)]=match nmO p.1,tbO p.2 with
   |some n,So t=>.ok .nx [So T,So (ob a Gm [] []),So (.str p.1),So (.str p.2)]
   |_,_=>.ex BP [So T,So Ed,So (.str p.1),So (.str p.2)]:=by
 have o:=name_in p.1 s (c+6);have b:evD IB (.call 28 Sl) [So T,So Ed,So (.str p.1),So (.str p.2)]=match nmO p.1 with
  |some n=>.ok By
  |none=>.ex BP:=Jf _ _ rfl o
 cases m:nmO p.1 with
 |none=>rw[m]at b;simp only[ob]at b;simp only[rdB,exO,evB,yJ,vE,ob,rD,b,Rs.bind_ex,if_true];rfl
 |some n=>
  rw[m]at b;rcases Jmv p.2 q with⟨j,h⟩|⟨t,j,_,_,_,h⟩
  ·have f:evD IB Qdy [So T,So Ed,So (.str p.1),So (.str p.2)]=.ex BP:=Jf _ _ rfl (h c);rw[j];simp only[ob]at b f;simp only[rdB,exO,evB,yJ,vE,ob,rD,b,f,Rs.bo,Rs.bind_ex,if_true];rfl
  ·have f:evD IB Qdy [So T,So Ed,So (.str p.1),So (.str p.2)]=.ok (tD t):=Jf _ _ rfl (h c);rw[j];exact jK (a:=a) (ns:=nsS) rfl (Jj _ _ b (Jj _ _ f rfl)) (by simp[plE,Jl,Jg,w,iB]) (Jfi dn0 u c2)
theorem JkG(c c2 a:Nat)(T:D)(u:Jl T=To):∀(E:SE)(A:Kn)(x2 j:AY),(∀p∈E,p.1.length<=20000/\p.2.length<=19000)->A.length+E.length<1000->plE [x2,j]=To->
  (∃m o s,pD E A=So m/\plE [o,s]=To/\forB [2,3] 2 K3 Fk SM=.ok .nx [So T,So (ob a m [] []),o,s])\/
  (pD E A=No/\∃e,forB [2,3] 2 K3 Fk SM=.ex BP e)
 |[],A,x2,j,_,_,w=>.inl ⟨A,x2,j,rfl,w,rfl⟩
 |p::E,A,x2,j,h,hl,_=>by
  obtain⟨z,y⟩:=h p Af
  have C:=JrP c c2 a T u p z y A (by simp at hl;lia)
  have e:forB [2,3] 2 K3 (zipD (skD (p::E)) (svD (p::E))) SM=(exO Fo IB Ve rdB [So T,So Ed,So (.str p.1),So (.str p.2)]).bind λf b=>match f with
   |.nx=>forB [2,3] 2 K3 Fk b
   |.ct=>forB [2,3] 2 K3 Fk b
   |.bk=>.ok .nx b
   |.rt d=>.ok CJ b:=rfl
  rw[e,C]
  simp only[pD]
  cases G:nmO p.1 with
  |none=>exact .inr QdM
  |some n=>
   cases F:tbO p.2 with
   |none=>exact .inr QdM
   |some t=>
    have w:=put_len n t A
    rcases JkG c c2 a T u E Gm (So (.str p.1)) (So (.str p.2)) (λq B=>h q (Zx _ B)) (by simp at hl;lia) rfl with⟨m,o,s,h1,h2,h3⟩|⟨h1,e2,h2⟩
    ·exact .inl ⟨m,o,s,h1,h2,h3⟩
    ·exact .inr ⟨h1,e2,h2⟩
structure GOk(A:Kn):Prop where
 nd:'ĵ'.Nodup
 nm:∀n∈kys A,nmB n=To
 tb:∀n t,look n A=So t->t.length<=20000/\∀r∈t,RowP r
 ln:A.length<60
def stL (A:Kn) (n:Str):List Nat:=91::(YV++[93,10])++tabT ('Ŕ'.getD [])
def stx (A:Kn):List Nat:=('ǹ'.map (stL A)).flatten
def Jrj(ls:BR)(h:ls.flatten.length<=20000):op2 .joinS (.str Gj) Qa1=.ok (.str (mkS ls.flatten)):=by
 have e:JQ GC=So X7:=by have:=JT X7;rwa[Zr]at this
 have b:Jn 'ƿ'.cps.toList ('Ǜ'.map (·.cps.toList))=ls.flatten:=by show Jn [] _=_;rw[gU,Jeo]
 simp only[op2,e,b];exact if_pos ⟨by show 0<=1000;decide,h⟩
def s93:oS "]\n"=mkS cA:=by decide+kernel
theorem Jud(n:Str)(h:n.length<=4):op1 .join (.lst [.str (oS "["),.str n,.str (oS "]\n")])=.ok (.str (mkS (91::(YV++[93,10])))):=by
 have e:yA VD=So (mkS [91]++(n++(mkS cA++Str.empty))):=by
  have m:yA []=So YM:=rfl;have b:yA [.str S7]=So (mkS cA++Str.empty):=rfl;have j:yA [.str n,.str S7]=So (n++(mkS cA++Str.empty)):=by rw[yA,b];simp only[sG];rw[if_pos 'c'];exact if_pos (by show n.length+2<=2000;lia)
  rw[yA,j];simp only[sG];rw[if_pos 'p'];exact if_pos (by rw[Rd.JL];show 1+(n.length+2)<=2000;lia)
 rw[s91,s93];show(match yA VD with|some y=>Rs.ok (D.str y)|none=>.sk)=_;rw[e];have f:mkS [91]++(n++(mkS cA++Str.empty))=mkS (91::(YV++[93,10])):=by
  conv=>lhs;rw[<-pF n,show Str.empty=mkS []from rfl,vN,vN,vN]
  rfl
 rw[f]
theorem Jnl{n:Str}(b:nmB n=To)(c:Nat):runD defs A4 37 LU=match look n A with
  |some t=>.ok (tD t)
  |none=>.ex Gf:=by
 have j:runD defs A4 37 LU=Jd O0:=rfl;have f:evD Iq DE T4=.ok Lc:=rfl;have h:=Jqi n (by have:=tU b;lia) c;rw[b]at h;rw[j,xP,xO _ _ _ _ (lE _ _ (p:=Fo) (Jq _ _ (JD _ _ (Jf _ _ rfl h))) λ_=>Jh _ _ rfl f Qdw),JB];cases q:look n A with
 |none=>rfl
 |some t=>exact Jh _ _ f rfl e9
def JnT{x:Aj}(h:x∈ls):x.length<=ls.flatten.length:=(List.sublist_flatten_of_mem h).length_le
theorem site_text(h:GOk A)(q:'Ȩ'.length<=19999)(c:Nat):runD defs (c+6) 26 J3=.ok SC:=by
 have s:=Jrj ('ǹ'.map (stL A)) (by unfold stx at q;lia);rw[Zr]at s;have E:=Jto A h.nd;rw[Jhv,JbV,JB,s0];refine Jh _ _ rfl (JS _ _ Y3 (λn=>.str (mkS 'ѡ')) (rs:=Jx Fs) ?_ (by have:=h.ln;lia) λn m=>?_) s
 ·rw[lF,nmsAt h.nd h.ln (c+4) rfl];rfl
 ·have f:=look_get m;have j:n∈kys A:='丂'.mp (by rw[f];rfl);have b:=h.nm n j;obtain⟨u,B⟩:=h.tb n _ f;have y:'ѡ'.length<=19999:=Zy (JnT (lG m)) q;have z:(tabT ('Ŕ'.getD [])).length<=19999:=by simp only[stL,Zi]at y;lia
  have w:=written_table ('Ŕ'.getD []) u (λr C=>(B r C).n) z AS;have o:=Jnl (a:=a) (A:=A) (dn:=dn) (un:=un) b AR;rw[f]at o;refine Jh _ _ (JC _ _ (Jj _ _ rfl (Jj _ _ rfl Qbg)) (Jud n (tU b).2)) (Jf _ _ (Jr _ _ (Jj _ _ (JC _ _ (x:=ob a A dn un) rfl kZ) (Jj _ _ (d:=.str n) (J:=[]) rfl rfl)) o) w) (vC _ _ ?_);have:=(tU b).2;simp only[Zm,Zi,yE,Js];lia
def look_of{B:Kn}(h:(kys B).Nodup):∀p∈B,look p.1 B=So p.2:=by
 induction B with
 |nil=>intro p b;cases b
 |cons q B f=>
  intro p b;unfold kys at h f;rw[Zg,vA]at h;simp only[look];rcases Ze.mp b with rfl|b
  ·simp
  ·have:q.1≠p.1:=λz=>h.1 (z▸lG b);rw[show(q.1==p.1)=Fo from by rw[Zq];exact this];exact f h.2 p b
def wK (A:Kn):Nat:=(A.map λp=>p.1.length+3+(tabT p.2).length).sum
def Jwn(n:Str)(t:AL):∀A:Kn,n∉kys A->A.map (λp=>(p.1,if p.1==n then t else p.2))=A
 |[],_=>rfl
 |p::A,h=>by
  unfold kys at h
  simp only[Zg,Ze,not_or]at h
  rw[Zg,Jwn n t A h.2,show(p.1==n)=Fo from by rw[Zq];exact Ne.symm h.1]
  rfl
theorem Jqk(n:Str)(t:AL):∀A:Kn,'ĵ'.Nodup->wK (A.map λp=>(p.1,if p.1==n then t else p.2))<=wK A+(tabT t).length
 |[],_=>by simp[wK]
 |p::A,nd=>by
  unfold kys at nd
  rw[Zg,vA]at nd
  by_cases q:p.1=n
  ·subst q
   rw[Zg,Jwn _ t A nd.1]
   simp only[wK,Zg,nB,BEq.rfl,if_true]
   lia
  ·have b:(p.1==n)=Fo:=by rw[Zq];exact q
   have f:=Jqk n t A nd.2
   simp only[wK,Zg,nB,b,Zo,ZN]at f⊢
   lia
theorem JvX(n:Str)(t:AL)(A:Kn)(b:'ĵ'.Nodup):wK (put n t A)<=wK A+(n.length+3+(tabT t).length):=by
 unfold put;split
 ·have:=Jqk n t A b;lia
 ·simp only[wK,uA,List.sum_append,Zg,sE,nB,List.sum_nil];lia
theorem Jem{f:Str->Nat}:∀{xs ys:Ag},xs.Nodup->(∀x∈xs,x∈ys)->'乯'.sum<=(ys.map f).sum
 |[],_,_,_=>by simp
 |x::xs,ys,nd,h=>by
  rw[vA]at nd
  obtain⟨s,t,rfl⟩:=List.append_of_mem (h x Af)
  have:=Jem (f:=f) (xs:=xs) (ys:=s++t) nd.2 λy j=>by
   have b:=h y (by simp[j])
   simp only[ZC,Ze]at b⊢
   rcases b with b|rfl|b
   ·exact .inl b
   ·exact absurd j nd.1
   ·exact .inr b
  simp only[uA,List.sum_append,Zg,nB]at this⊢
  lia
def Jrp(b:'ĵ'.Nodup):'Ȩ'.length<=wK A:=by
 have f:'Ȩ'.length=('ǹ'.map λn=>'ѡ'.length).sum:=by unfold stx;rw[List.length_flatten,Zr];rfl
 have m:('ĵ'.map λn=>'ѡ'.length).sum=wK A:=by unfold wK kys;rw[Zr];congr 1;refine vD λp j=>?_;show(stL A p.1).length=_;rw[stL,look_of b p j];simp only[zQ,Zm,Zi,yE,Js]
 rw[f,<-m];exact Jem 'ϥ' λx h=>(JO _ x).mp h
structure RI(A:Kn)(w c:Nat):Prop where
 nd:'ĵ'.Nodup
 nm:∀n∈kys A,nmB n=To
 tb:∀n t,look n A=So t->t.length<=20000/\∀r∈t,RowP r
 wg:wK A<=w
 ln:A.length<=c
theorem Jre{k n:Str}(h:nmO k=So n):nmB n=To/\n.length+2<=k.length:=by
 unfold nmO at h;split at h
 ·rename_i q;cases h;refine⟨q,?_⟩;have b:=(tU q).1;unfold nmI at b⊢;rw[xK]at b⊢;unfold cutD at b⊢;rw[jM,tJ,Js]at b⊢;have j:six bD 0 (So 1)=min 1 bD:=Jrw bD 0 1;have f:six bD bD (So (-1))=k.length-1:=by unfold six;simp;lia
  rw[j,f]at b⊢;lia
 ·cases h
theorem RI.fold:∀{E:SE}{A A':Kn}{w c:Nat},RI A w c->(∀p∈E,p.2.length<=19000)->pD E A=So A'->RI A' (w+wgt E) (c+E.length)
 |[],A,A',w,c,h,_,e=>by cases e;simpa[wgt]using h
 |p::E,A,A',w,c,h,hv,e=>by
  simp only[pD]at e
  cases f:nmO p.1 with
  |none=>rw[f]at e;cases e
  |some n=>
   cases j:tbO p.2 with
   |none=>rw[f,j]at e;cases e
   |some t=>
    rw[f,j]at e
    obtain⟨C,I⟩:=Jre f
    rcases Jmv p.2 (hv p Af)with⟨z,_⟩|⟨J,z,s,y,B,_⟩
    ·rw[j]at z;cases z
    ·rw[j]at z;cases z
     have L:=JvX n t A h.nd
     have H:'Ҕ'.length=p.2.length:=by rw[s,Js]
     have G:RI Gm (w+(p.1.length+1+p.2.length)) AS:=by
      refine⟨zZ n t A h.nd,λm o=>?_,λm u b=>?_,by have:=h.wg;lia,by have:=put_len n t A;have:=h.ln;lia⟩
      ·have:=(look_mem m _).mpr o;rw[look_put]at this;by_cases q:n=m
       ·exact q▸C
       ·rw[show(n==m)=Fo from by rw[Zq];exact q]at this;exact h.nm m ('七'.mp (by simpa using this))
      ·rw[look_put]at b;split at b
       ·cases b;exact⟨y,B⟩
       ·exact h.tb m u b
     have:=RI.fold G (λq F=>hv q (Zx _ F)) e;simp only[wgt,Zg,nB,Zm]at this⊢;rw[show w+(p.1.length+1+p.2.length+(E.map λp=>p.1.length+1+p.2.length).sum)=w+(p.1.length+1+p.2.length)+(E.map λp=>p.1.length+1+p.2.length).sum by lia,show c+(E.length+1)=c+1+E.length by lia];exact this
def sem (l:Aj):Option Kn:=(gE l).bind λE=>pD E []
theorem Jib:∀{E:SE}{p:Str×Str},p∈E->p.1.length+p.2.length<=wgt E
 |q::E,p,h=>by
  simp only[wgt,Zg,nB]
  rcases Ze.mp h with rfl|h
  ·lia
  ·have:=Jib h;simp only[wgt]at this;lia
def ri0:RI [] 0 0:=⟨by simp[kys],by simp[kys],λn t e=>(by cases e),by simp[wK],by simp⟩
theorem JpJ(q:C6)(j:l.count 91<50)(h:sem l=So A):GOk A/\(stx A).length<=19000:=by
 unfold sem at h;cases e:gE l with
 |none=>rw[e]at h;cases h
 |some E=>rw[e]at h;obtain⟨f,m,o⟩:=JiM e;have r:=ri0.fold (E:=E) (λp b=>by have:=Jib b;lia) h;exact⟨⟨r.nd,r.nm,r.tb,by have:=r.ln;lia⟩,Zy (Jrp r.nd) (by have:=r.wg;lia)⟩
noncomputable abbrev R1:CallD:=runD defs 11
noncomputable abbrev Q1:CallB:=runB defs bdefs 11
def Rr (J:Aq) (a:Nat):Rs D:=if Ac=1 then runR R1 Q1 nR iR sO iL J a else .sk
def ne_S(x y:Str):op2 .ne Cu Hc=.ok (.bl (!(x==y))):=rfl
def JpK:∀E:SE,Jg Fk=To/\imms Fk=To
 |[]=>CU
 |p::E=>by
  obtain⟨b,f⟩:=JpK E
  simp only[skD,svD]at b f
  simp only[skD,svD,Zg,zipD,Jg,Jl,imms,D.imm,b,f]
  exact CU
def Jum{x y:Aj}:(mkS x==mkS y)=decide (x=y):=by
 by_cases e:x=y
 ·simp[e]
 ·rw[Zp e,Zq];exactλz=>e (by have:=iA (·.cps.toList) z;exact this)
noncomputable def rdE (l:Aj) (a:Nat) (A:Kn) (x y:AY):Fm:=[So BO,So Ed,x,y]
def r2_eq:iL=.seq Ul (.seq (.ite (.pur UH) (.raise BP .nil) LA) KN):=rfl
theorem JtZ(l:Aj)(z:C6)(C:l.count 91<50)(a:Nat):Rr BA a=match sem l with
  |some A=>if stx A=l then .ok Ed else .ex BP
  |none=>.ex BP:=by
 have F:exO Fo R1 Q1 sO (JG nR BA)=.ok .nx R9:=rfl;have s:Rr BA a=match exO Fo R1 Q1 iL F2 with
   |.ok (.rt d) _=>.ok d
   |.ex c _=>.ex c
   |_=>.sk:=by
  unfold Rr;rw[if_pos (show[D.str RT].length=1 from rfl)];unfold runR;rw[F];rfl
 have G:=tbh l Ad Ad 9;have b:evD R1 (.call 27 Df) F2=match gE l with
   |some E=>.ok Q6
   |none=>.ex BP:=Jf _ _ rfl G
 rw[s,r2_eq];unfold sem;cases h:gE l with
 |none=>
  rw[h]at b;have:exO Fo R1 Q1 Ul F2=.ex BP F2:=by simp only[exO,e_un,b,Rs.bind_ex]
  rw[oI this];rfl
 |some E=>
  rw[h]at b;obtain⟨L,M,I⟩:=JiM h;have f:=JpK E;have m:exO Fo R1 Q1 Ul F2=forB [2,3] 2 (exO Fo R1 Q1 rdB) Fk F2:=by
   have u:evD R1 Tn F2=.ok (.lst Fk):=by rw[e_un,b];rfl
   simp only[exO,u];rw[f.1,f.2];rfl
  rcases JkG 2 10 a BO rfl E [] No No (λp f=>by have:=Jib f;lia) DL rfl with⟨A,y2,y3,q1,q2,q3⟩|⟨q1,e,q3⟩
  ·have B:sem l=So A:=by unfold sem;rw[h];exact q1
   obtain⟨o,J⟩:=JpJ z C B;have H:=site_text (a:=a) (dn:=[]) (un:=[]) o Ad 5;have j:evD R1 UH (rdE l a A y2 y3)=.ok (.bl (!decide (stx A=l))):=by rw[Jh _ _ (Jf _ _ (x:=ob a A [] []) rfl H) rfl '乲',Jum]
   rw[lB (m.trans q3)];rw[uF,q1];dsimp only;by_cases q:stx A=l
   ·rw[if_pos q];rw[ZD q]at j;rw[lB (env1:=rdE l a A y2 y3) (by
     have:=iE (w:=Fo) (bc:=Q1) (x:=.raise BP .nil) (y:=.lift .skip) j;exact this.trans rfl)]
    rfl
   ·rw[if_neg q];rw[Zp q]at j;rw[oI (env1:=rdE l a A y2 y3) (c:=S "NoText") (by
     have:=iE (w:=Fo) (bc:=Q1) (x:=.raise BP .nil) (y:=.lift .skip) j;exact this.trans rfl)]
  ·rw[oI (m.trans q3),uF,q1]
def Rl:CallD:=λn J=>if n=900 then pB Rr Vh J else if n=901 then pB Rr Lv J else runD defs 12 n J
def Rl_eq(l:Aj)(f:C6)(b:l.count 91<50):Rl 900 BA=match sem l with
  |some A=>if stx A=l then .ok BO else .ex BP
  |none=>.ex BP:=by
 show pB Rr Vh BA=_;refine JfI rfl λa=>?_;rw[JtZ l f b a];cases h:sem l with
 |none=>rfl
 |some A=>
  dsimp only;by_cases q:stx A=l
  ·rw[if_pos q,if_pos q];obtain⟨j,m⟩:=JpJ f b h;rw[Rs.bo,site_text j 'c' 6,q]
  ·rw[if_neg q,if_neg q];rfl
def semB (l:Aj):Bool:=match sem l with
 |some A=>decide (stx A=l)
 |none=>Fo
def Rl_B(l:Aj)(b:C6)(f:l.count 91<50):Rl 900 BA=if semB l then .ok BO else .ex BP:=by
 rw[Rl_eq l b f];unfold semB;cases sem l with
 |none=>rfl
 |some A=>
  dsimp only;by_cases q:stx A=l
  ·simp[q]
  ·simp[q]
def Rb_B(l:Aj)(b:C6)(j:l.count 91<50)(h:semB l=Fo):Rl 901 BA=.ex BP:=by
 show pB Rr Lv BA=_;refine JfI rfl λa=>?_;rw[JtZ l b j a];unfold semB at h;cases f:sem l with
 |none=>rfl
 |some A=>rw[f]at h;dsimp only;rw[if_neg (of_decide_eq_false h)];rfl
def Rb_N(d:D)(b:datD.dats [d]=To)(h:∀a,Rr [d] a=.ex BP):Rl 901 [d]=.ex BP:=by show pB Rr Lv [d]=_;exact JfI b λa=>by rw[h a];rfl
def w_91:∀w∈words9,91∉w.cps.toList:=by decide+kernel
def n_91:∀w∈names9,91∉w.cps.toList:=by decide+kernel
def vp_91(p:Part)(h:p.vp):91∉txP p:=by
 cases p with
 |word x=>exact w_91 x h
 |one n o=>
  obtain⟨j,b,_⟩:=h;simp only[txP,ZC,Ze,not_or];refine⟨n_91 n j,by decide,λz=>?_⟩;rcases nP z with z|⟨l,m,z⟩
  ·revert z;decide
  ·obtain⟨w,f,rfl⟩:=Zz.mp m;exact w_91 w (b w f) z
 |any n=>simp only[txP,Ze,not_or];exact⟨by decide,n_91 n h⟩
 |number n=>simp only[txP,Ze,not_or];exact⟨by decide,n_91 n h⟩
 |rest n=>simp only[txP,Ze,not_or];exact⟨by decide,n_91 n h⟩
def JvM(h:aO):91∉JM r:=λz=>by
 rcases ZC.mp z with z|z
 ·exact n_91 r.l h.l z
 ·rcases Ze.mp z with z|z
  ·revert z;decide
  ·rcases Ze.mp z with z|z
   ·revert z;decide
   ·rcases nP z with z|⟨l,b,z⟩
    ·revert z;decide
    ·obtain⟨p,f,rfl⟩:=Zz.mp b
     exact vp_91 p fD z
def JtS(h:EC):'Ҕ'.count 91=0:=by
 rw[List.count_eq_zero];intro z;obtain⟨l,b,z⟩:=List.mem_flatMap.mp z;obtain⟨r,f,rfl⟩:=Zz.mp b;rcases ZC.mp z with z|z
 ·exact JvM (h.row r f) z
 ·revert z;decide
def tbl (A:Kn) (n:Str):List Row:='Ŕ'.getD []
def tN(h:Y0){n:Str}(b:n∈Jx Fs):TabOk 'Ѣ':=h.tb n _ (look_get b)
noncomputable def hdL (n:Str):List Nat:=91::(YV++[93])
def lns (A:Kn):List B3:='ǹ'.flatMap λn=>hdL n::'Ѣ'.map JM
def nm_9(h:Y0){n:Str}(b:n∈Jx Fs):n∈nm9:=h.nm n ((JO _ n).mp b)
def jN:∀n∈nm9,nmB n=To/\10∉n.cps.toList/\91∉n.cps.toList/\n.length<=4/\nmO GN=So n:=by decide+kernel
def JtH(h:Y0):∀l∈lns A,10∉l:=λl b=>by
 obtain⟨n,f,b⟩:=List.mem_flatMap.mp b
 rcases Ze.mp b with rfl|b
 ·have:=(jN n (nm_9 h f)).2.1
  simp only[hdL,Ze,ZC,not_or]
  exact⟨by decide,this,by decide,by simp⟩
 ·obtain⟨r,j,rfl⟩:=Zz.mp b
  exact((tN h f).row r j).no10
def Jsm(A:Kn):stx A=(lns A).flatMap (·++[10]):=by unfold stx lns;rw[List.flatMap_assoc,<-List.flatMap_def];congr 1;funext n;rw[zF];show stL A n=_;rw[stL,hdL,tabT];simp[tbl]
def JnS:∀ls:List B3,(∀l∈ls,10∉l)->lnO (ls.flatMap (·++[10]))=So ls
 |[],_=>rfl
 |r::rs,h=>by
  have e:=uV 10 (r::rs) Af
  have b:(r::rs).flatMap (·++[10])≠[]:=by rw[<-e];simp
  unfold lnO
  rw[if_neg b,<-e,if_pos 'k',sW,Rd.sL 'k' h]
def JnV{n:Str}:∀{E:SE},n∉kyE E->sget n (E++[(n,v)])=So v/\∀w,sput n w (E++[(n,v)])=E++[(n,w)]:=fun{E}h=>by
 have b:sget n (E++[(n,v)])=So v:=by
  induction E with
  |nil=>simp[sget]
  |cons p E f=>unfold kyE at h f;simp only[Zg,Ze,not_or]at h;rw[lC,sget,show(p.1==n)=Fo from by rw[Zq];exact Ne.symm h.1];exact f h.2
 refine⟨b,λw=>?_⟩;unfold sput;rw[b,uA,tZ n w E h];simp
def Jhe(f:Str):∀(rows:AL){E:SE}(b:Aj),f∉kyE E->(∀r∈rows,RowG r)->∀rest,uB (rows.map JM++rest) (E++[(f,mkS b)],So f)=uB rest (E++[(f,mkS (b++tabT rows))],So f)
 |[],E,b,_,_,rest=>by simp[tabT]
 |r::rows,E,b,hn,h,rest=>by
  obtain⟨j,o⟩:=JnV (v:=mkS b) hn
  have s:qD (E++[(f,mkS b)],So f) (JM r)=So (E++[(f,mkS (b++(JM r++[10])))],So f):=by
   unfold qD;rw[if_neg (h r Af).no91];simp only[j,o,vN]
  rw[Zg,lC,uB,s,uF,Jhe f rows _ hn (λq m=>h q (Zx _ m))];simp[tabT]
def Jpx{n:Str}{E:SE}(h:n∉kyE E):sput n v E=E++[(n,v)]:=by unfold sput;rw[if_neg λz=>h ((Jfk n E).mp z)]
def JvQ{n m:Str}(h:mkS Lh=mkS (hdL m)):n=m:=by have:=iA (·.cps.toList) h;have e:hdL n=hdL m:=this;simp only[hdL,nQ,true_and]at e;have:=List.append_cancel_right e;rw[<-pF n,this,pF]
def blk (A:Kn) (n:Str):Str×Str:=QY
def Jhc(o:Y0):∀(ns:Ag)(E:SE)(h:Option Str),ns.Nodup->(∀n∈ns,n∈Jx Fs)->(∀n∈ns,mkS (hdL n)∉kyE E)->∃f,uB (ns.flatMap λn=>hdL n::'Ѣ'.map JM) (E,h)=So (E++ns.map QaD,f)
 |[],E,h,_,_,_=>⟨h,by simp[uB]⟩
 |n::ns,E,h,nd,hs,hn=>by
  rw[vA]at nd
  have j:=hn n Af
  have q:qD (E,h) Lh=So (E++[(mkS Lh,mkS [])],So GN):=by
   unfold qD;rw[if_pos (by rfl)];simp only[Jpx j]
  rw[zF,lC,uB,q,uF,Jhe _ _ [] j (tN o (hs n Af)).row];obtain⟨f,e⟩:=Jhc o ns (E++[blk A n]) (So GN) nd.2 '仌' λm b z=>by
   unfold kyE at z;rw[uA,ZC]at z;rcases z with z|z
   ·exact hn m KG z
   ·simp only[Zg,sE,ZZ,blk]at z;exact nd.1 (JvQ z▸b)
  refine⟨f,?_⟩;rw[yL];rw[show(E++[QY])=E++[blk A n]from rfl,e];simp
def Jml(b:Y0):gE XY=So ('ǹ'.map QaD):=by unfold gE;rw[Jsm,JnS _ (JtH b),uF];obtain⟨f,e⟩:=Jhc b 'ǹ' [] No 'ϥ' (λ_ h=>h) (λ_ _=>by simp[kyE]);unfold lns;rw[e];rfl
def JrQ{n:Str}(h:n∉kys A):put n t A=A++[(n,t)]:=by unfold put;rw[if_neg λz=>h ('丂'.mp z)]
def JeN(f:Y0):∀(ns:Ag)(B:Kn),ns.Nodup->(∀n∈ns,n∈Jx Fs)->(∀n∈ns,n∉kys B)->pD (ns.map QaD) B=So (B++ns.map λn=>(n,tbl A n))
 |[],B,_,_,_=>by simp[pD]
 |n::ns,B,nd,hs,hn=>by
  rw[vA]at nd
  have h:=hs n Af
  rw[Zg,pD]
  show(match nmO GN,tbO (mkS (tabT 'Ѣ'))with|some n,So t=>pD (ns.map QaD) (put n t B)|_,_=>No)=_
  rw[(jN n (nm_9 f h)).2.2.2.2,JwR (tN f h)]
  dsimp only
  rw[JrQ (hn n Af),JeN f ns _ nd.2 '仌' λm b z=>by
   unfold kys at z
   rw[uA,ZC]at z
   rcases z with z|z
   ·exact hn m KG z
   ·simp only[Zg,sE,ZZ]at z
    exact nd.1 (z▸b)]
  simp
def JtE(b:Y0):sem XY=So bP:=by unfold sem;rw[Jml b,uF,JeN b _ [] 'ϥ' (λ_ h=>h) (λ_ _=>by simp[kys])];rfl
def JqZ(A:Kn):stx bP=stx A:=by
 unfold stx;have e:Jx (kys bP)=Jx Fs:=JdS _ _ (JH _) (JH _) λk=>by rw[JO,JmX]
 rw[e];congr 1;refine vD λn b=>?_;unfold stL;congr 2;have f:(kys bP).Nodup:=by rw[JmX];exact Jas _ (JH _)
 have:=look_of f (n,'Ŕ'.getD []) (Zz.mpr ⟨n,b,rfl⟩);rw[this];rfl
def Jvj(b:Y0):semB XY=To:=by unfold semB;rw[JtE b];simp[JqZ]
theorem KOk.g(h:Y0)(j:A.length<60):GOk A where
 nd:=h.nd
 nm:=λn f=>(jN n (h.nm n f)).1
 tb:=λn t e=>by
  have b:=h.tb n t e
  refine⟨by have:=b.ln;lia,λr m=>?_⟩
  have g:=b.row r m
  have o:=(ZW (n_tx r.l g.l)).2.2.2.2.2.2.2.1
  exact⟨by rw[<-Js];lia,by have:=g.n;lia,by have:=g.tlen;lia,λc=>by rw[is_pattern r.ps g.vp (by have:=g.n;lia),g.pt]⟩
 ln:=j
theorem JqU{f:Str->Nat}{b:Nat}:∀{xs:Ag},(∀x∈xs,f x<=b)->'乯'.sum<=(xs.map λ_=>b).sum
 |[],_=>by simp
 |x::xs,h=>by
  have:=JqU (xs:=xs) λy j=>h y (Zx _ j)
  have:=h x Af
  simp only[Zg,nB]at*
  lia
theorem JvR(m:Y0):'Ȩ'.length<=5840/\(stx A).count 91<=4:=by
 have o:∀(f:Str->Nat)(b:Nat),(∀n∈Jx Fs,f n<=b)->('ǹ'.map f).sum<=4*b:=λf b h=>by refine Zy (JqU h) (Zy (Jem (ys:=nm9) 'ϥ' λn j=>nm_9 m j) ?_);show b+(b+(b+(b+0)))<=_;lia
 constructor
 ·have s:'Ȩ'.length=('ǹ'.map λn=>'ѡ'.length).sum:=by
   unfold stx;rw[List.length_flatten,Zr];rfl
  rw[s];refine Zy (o _ 1460 λn j=>?_) Ax;have q:=(tN m j).len;have u:=(jN n (nm_9 m j)).2.2.2.1;unfold tbl at q;simp only[stL,Zm,Zi,yE,Js];lia
 ·have s:'Ȩ'.count 91=('ǹ'.map λn=>'ѡ'.count 91).sum:=by
   unfold stx;rw[List.count_flatten,Zr];rfl
  rw[s];refine o _ 1 λn j=>?_;have q:=JtS (tN m j);have u:=List.count_eq_zero.mpr (jN n (nm_9 m j)).2.2.1;unfold tbl at q;simp[stL,q,u]
end K73
namespace Pu
open PySem
section
variable{α:Type}(g:α->D)
noncomputable def ksOf (dd:List (α×Int)):List D:=dd.map λp=>g p.1
noncomputable def vsOf (dd:List (α×Int)):List D:=dd.map λp=>.int p.2
noncomputable def getN (k:α):List (α×Int)->Int
 |[]=>0
 |(a,n)::r=>if(g a).eqv (g k)then n else getN k r
variable{g}
def look_get(k:α):∀b:List (α×Int),(oA (g k) (ksOf g b) (vsOf b)).getD (.int 0)=.int (getN g k b)
 |[]=>rfl
 |(a,n)::r=>by
  have f:=look_get k r
  simp only[ksOf,vsOf,Zg,oA,getN]at f⊢
  split
  ·rfl
  ·exact f
end
noncomputable def ev (ws:Ag):Nat->List GV
 |0=>[[]]
 |n+1=>(ev ws n).flatMap λa=>ws.map λw=>a++[w]
def Jiz{α:Type}(U:Ae)(j:Sx)(s:Aj)(q:Nat)(f:α->D)(xs:AD)(F:List α->Fm->Prop)
  (h:∀i x b O,xs=i++x::b->F i O->∃l,kA q (f x)=.ok l/\∃a,exD U j (yB s l O)=.ok (.nx,a)/\F (i++[x]) a) (O:Fm) (A:F [] O):∃a,forL s q (exD U j) '乯' O=.ok (.nx,a)/\F xs a:=by
 have B:∀(b i:AD)(O:Fm),xs=i++b->F i O->∃a,forL s q (exD U j) QaV O=.ok (.nx,a)/\F xs a:=λb=>by
  induction b with
  |nil=>intro i O e r;rw[zD]at e;subst e;exact⟨O,rfl,r⟩
  |cons x b v=>intro i O e r;obtain⟨l,t,m,u,w⟩:=h i x b O e r;obtain⟨o,z,y⟩:=v (i++[x]) m (by simp[e]) w;exact⟨o,by simp only[Zg,forL,t,Rs.bo,u,z],y⟩
 exact B xs [] O rfl A
end Pu
namespace K73
open PySem Pu
variable{a b ls som:BR}{p:Px}{ns:A0}{x2 x6 x7 x8:AY}{O:Fm}
def JuU:wX=.sw [5,12] WS:=rfl
def Tq(l:Aj):Prop:=Yr<=19000/\l.count 91<50
noncomputable def lD (ls:BR):List D:=ls.map λl=>.str RT
noncomputable def cn (ls:BR):Nat:=(ls.map (List.count 91)).sum
def qT(a b:BR):cn (a++b)=cn a+cn b:=by simp[cn]
def Jht:∀ls:List B3,'Έ'.count 91=cn ls
 |[]=>rfl
 |[x]=>by simp[Jn,cn]
 |x::y::r=>by
  have h:=Jht (y::r)
  have f:cn (x::y::r)=x.count 91+cn (y::r):=by simp[cn]
  simp only[Jn,List.count_append]
  rw[h,f]
  simp
def Jpl(l:Aj):cn (Jk 10 l)=l.count 91:=by rw[<-Jht,qP]
theorem Jvs(xs:BR)(lo hi:A2):cn (cutD xs lo hi)<=cn xs:=by unfold cutD;generalize six Ah 0 lo=a;generalize six Ah Ah hi-a=b;have h:=iA cn OZ;have f:=iA cn (xR a xs);rw[qT]at h f;lia
def JtP(xs:BR):cn Y2=cn xs:=by simp[cn,List.sum_reverse]
def Jur(xs:BR):sm Y2=sm xs:=by simp[sm,List.sum_reverse]
def Jwo(xs:BR)(lo hi:A2):cutD (lD xs) lo hi=lD (cutD xs lo hi):=by unfold cutD lD;rw[Zj,List.map_take,List.map_drop]
def kO(U:Ae)(O:Fm){i:Nat}{lo hi:Px}{a b:D}{l m:A2}(h:O[i]? =So (So Kt))(o:evD U lo O=.ok a)(j:a.bound=.ok l)(q:evD U hi O=.ok b)(f:b.bound=.ok m):evD U Qcj O=.ok (.lst (lD (cutD ls l m))):=by simp only[e_sl,uH,h,Rs.bo,o,j,q,f,Jwo]
def Jmo(a b:BR)(h:a.length+b.length<=20000):op2 .add Kc Kb=.ok (.lst (lD (a++b))):=by have:op2 .add Kc Kb=.ok (.lst (lD a++lD b)):=if_pos (by simp only[lD,Zj];exact hJ h);rw[this];simp[lD]
def o_jn(ls:BR)(h:sm ls<=20000):op2 .joinS (.str (S "\n")) Kt=.ok (.str (mkS 'Έ')):=by have:=JkN 10 ls (Zy (JhH 10 ls) h);rw[show S "\n"=mkS [10]from s10];exact this
def tq_jn(h1:sm ls<=19000)(f:cn ls<50):Tq 'Έ':=⟨Zy (JhH 10 ls) h1,by rw[Jht];exact f⟩
def Rw(ls:BR):Prop:=sm ls<=5841/\cn ls<=4/\ls.length<=5841
def le2{a b n m k:Nat}(h1:a<=n)(f:b<=m)(h:n+m<=k):a+b<=k:=Zy (Nat.add_le_add h1 f) h
def add2(f:Rw a)(h:Rw b):op2 .add Kc Kb=.ok (.lst (lD (a++b))):=Jmo _ _ (le2 f.2.2 h.2.2 Ax)
def jn_(h1:sm ls<=19000)(f:cn ls<=49):op2 .joinS (.str (S "\n")) Kt=.ok (.str (mkS 'Έ'))/\Tq 'Έ':=⟨o_jn _ (Zy h1 Ax),tq_jn h1 (Nat.lt_succ_of_le f)⟩
def jn2(f:Rw a)(h:Rw b):op2 .joinS (.str (S "\n")) (.lst (lD (a++b)))=.ok (.str (mkS (Jn [10] (a++b))))/\Tq (Jn [10] (a++b)):=
 jn_ (by rw[iU];exact le2 f.1 h.1 Ax) (by rw[qT];exact le2 f.2.1 h.2.1 Ax)
def jn3{c:BR}(f:Rw a)(i:Rw b)(h:Rw c):op2 .joinS (.str (S "\n")) (.lst (lD (a++b++c)))=.ok (.str (mkS (Jn [10] (a++b++c))))/\Tq (Jn [10] (a++b++c)):=
 jn_ (by rw[iU,iU];exact le2 (le2 f.1 i.1 (Zh _)) h.1 Ax) (by rw[qT,qT];exact le2 (le2 f.2.1 i.2.1 (Zh _)) h.2.1 Ax)
def add3{c:BR}(f:Rw a)(i:Rw b)(h:Rw c):op2 .add (.lst (lD (a++b))) (.lst (lD c))=.ok (.lst (lD (a++b++c))):=Jmo _ _ (by rw[Zi];exact le2 (le2 f.2.2 i.2.2 (Zh _)) h.2.2 Ax)
def Rw.rev(h:Rw a):Rw a.reverse:=⟨by rw[Jur];exact h.1,by rw[JtP];exact h.2.1,by rw[List.length_reverse];exact h.2.2⟩
theorem Rw.cut{T:Aj}(o:T.length<=5840)(j:T.count 91<=4)(lo hi:A2):Rw QbP:=by
 have q:=JiC 10 T;have h:=Jpl T;have i:=Jvh Be lo hi;have l:=Jvs Be lo hi;have m:=Jqv QbP;have f:sm (cutD Be lo hi)<=5841:=by lia
 exact⟨f,by lia,by lia⟩
def mK(n:Nat)(h:n<900)(J:Aq):Rl n J=runD defs 12 n J:=by unfold Rl;rw[if_neg 'c',if_neg 'c']
section
variable{st:D}{T:Aj}{x9 x10 x11 x12:AY}
def E7 (ns:A0) (st:D) (T:Aj) (x2:AY) (som:BR) (x6 x7 x8 x9 x10 x11 x12:AY):Fm:=[So ES,So st,x2,So (.str (mkS T)),So Qcm,So (.lst (lD som)),x6,x7,x8,x9,x10,x11,x12]
theorem jY{U:Ae}{l:Aj}(rest:Sx)(h:evD U p X9=.ok BO)(f:som.length<=900):exD U (.seq (.app Fo 5 p) rest) X9=exD U rest (E7 ns st T x2 (som++[l]) x6 x7 x8 x9 x10 x11 x12):=by
 rw[JU,Jmm _ _ (i:=5) (J:=lD som) rfl h (by simp[lD];lia),Rs.bo];show exD U rest _=_;have:lD som++[.str RT]=lD (som++[l]):=by simp[lD]
 rw[this];rfl
theorem Jon(hT:T.length<=5840)(hc:T.count 91<=4)(k:Nat)(som:BR)(y:som.length<=800)(h:∀l∈som,Tq l)(x6 x7 x8:AY):∃f E y7 y8,(∀l∈f,Tq l)/\f.length=som.length+4/\exD Rl lB1 S2=.ok (.nx,E7 ns st T G3 f E y7 y8 x9 x10 x11 x12):=by
 obtain⟨v,Z⟩:=cell ns (1700+(k:Int)) Ad;obtain⟨r,_,hr⟩:=pick ns (1720+(k:Int)) 999983 Ad Ax;have hne:0<(Jk 10 T).length:=List.length_pos_iff.mpr (kP 10 T);obtain⟨at_,X,M⟩:=pick ns (1740+(k:Int)) ((Jk 10 T).length:Int) Ad Ad;obtain⟨j,U,W⟩:=JuR T Ad Lo (S "/[]ab7 :*=|\n").cps.toList Ab Ab;rw[pF]at W;have cl:∀(O:Fm)(n:Nat)(p:Px)(J:Aq)(d:D),n<900->evD Rl p O=.ok BL->runD defs 12 n J=.ok d->evD Rl (.call n p) O=.ok d:=λO n p J d hn h1 h2=>Jr _ _ h1 (by rw[mK n hn];exact h2);have e6:evD Rl lp6 S2=.ok (.int Lo):=by refine Jh _ _ (Jh _ _ (cl _ 29 _ [ofN ns,.int (1700+k)] _ Ax (Jj _ _ rfl (Jj _ _ Gp rfl)) (Z 11)) rfl (z:=.int (v*7919)) ?_) (cl _ 30 _ [ofN ns,.int (1720+k),.int 999983] _ Ax (Jj _ _ rfl (Jj _ _ Gp Qbg)) (hr 10)) QcR;show(if smallI v||smallI 7919 then _ else _)=_;rw[show smallI 7919=To from by decide+kernel,Bool.or_true,if_pos rfl]
 have e1:∀E,evD Rl la1 (E7 ns st T G3 som 'Ȥ' x7 E x9 x10 x11 x12)=.ok (.str (mkS j)):=λE=>cl _ 36 _ [.str (mkS T),.int Lo,.str (S "/[]ab7 :*=|\n")] _ Ax rfl (W 11);have q1:Tq j:=⟨by have:=U _ JuL;lia,by have:=U _ (JtL 91);lia⟩;have e7:∀som x6 x7 x8,evD Rl lp7 S2=.ok BC:=λsom x6 x7 x8=>
  cl _ 30 _ [ofN ns,.int (1740+k),.int (Jk 10 T).length] _ Ax (Jj _ _ rfl (Jj _ _ Gp (Jj _ _ (JC _ _ (x:=.lst (lD Be)) rfl (by
   have:op1 .len Qcm=.ok (.int (lD Be).length):=rfl;rw[this];simp[lD])) rfl))) (M 10)
 obtain⟨two,w⟩:∃two,two=cutD Be Cn (So ((at_:Int)+2)):=Au;have v7:∀som x6 x8,evD Rl (.var 7) MT=.ok BC:=λ_ _ _=>rfl;have F:∀som x6 x8(z:Int),evD Rl (.un .asI (.bi .add (.var 7) (.con (.int z)))) MT=.ok (.int (at_+z)):=λ_ _ _ z=>JC _ _ Gp rfl;have m:∀som x6 x8,evD Rl NY MT=.ok BC:=λ_ _ _=>JC _ _ rfl rfl;have e8:∀som x6 x8,evD Rl lp8 MT=.ok M8:=λsom x6 x8=>by rw[w];exact kO _ _ rfl (m _ _ _) rfl (F _ _ _ 2) rfl
 have rows:=Rw.cut hT hc;have s:=rows No Cn;have I:=rows (So ((at_:Int)+1)) No;have L:=rows No (So ((at_:Int)+1));have H:=rows Cn No;have G:=rows (So ((at_:Int)+2)) No;have u:=rows Cn (So ((at_:Int)+2));rw[<-w]at u;have N:∀som x6,evD Rl la2 Tf=.ok (.str (mkS (Jn [10] (cutD Be No Cn++cutD Be (So ((at_:Int)+1)) No)))):=λsom x6=>by exact Jh _ _ rfl (Jh _ _ V3 (kO _ _ rfl (F _ _ _ 1) rfl rfl rfl) (add2 s I)) (jn2 s I).1
 have P:∀som x6,evD Rl la3 Tf=.ok (.str (mkS (Jn [10] (cutD Be No (So ((at_:Int)+1))++cutD Be Cn No)))):=λsom x6=>by exact Jh _ _ rfl (Jh _ _ (kO _ _ rfl rfl rfl (F _ _ _ 1) rfl) (kO _ _ rfl (m _ _ _) rfl rfl rfl) (add2 L H)) (jn2 L H).1
 have Y:∀som x6,evD Rl la4 Tf=.ok (.str (mkS (Jn [10] (cutD Be No Cn++two.reverse++cutD Be (So ((at_:Int)+2)) No)))):=λsom x6=>by refine Jh _ _ rfl (Jh _ _ (Jh _ _ V3 (JC _ _ (x:=.lst (lD two)) rfl (z:=.lst (lD two.reverse)) ?_) (add2 s u.rev)) (kO _ _ rfl (F _ _ _ 2) rfl rfl rfl) (add3 s u.rev G)) (jn3 s u.rev G).1;show Rs.ok (D.lst (lD two).reverse)=_;simp[lD]
 obtain⟨q,B⟩:∃q,q=Jn [10] (cutD Be No Cn++cutD Be (So ((at_:Int)+1)) No):=Au;obtain⟨o,C⟩:∃o,o=Jn [10] (cutD Be No (So ((at_:Int)+1))++cutD Be Cn No):=Au;obtain⟨t,A⟩:∃t,t=Jn [10] (cutD Be No Cn++two.reverse++cutD Be (So ((at_:Int)+2)) No):=Au;have q2:Tq q:=by rw[B];exact(jn2 s I).2
 have q3:Tq o:=by rw[C];exact(jn2 L H).2
 have q4:Tq t:=by rw[A];exact(jn3 s u.rev G).2
 rw[<-B]at N;rw[<-C]at P;rw[<-A]at Y;refine⟨som++[j]++[q]++[o]++[t],So (.int Lo),So BC,So M8,λl y=>?_,by simp,?_⟩
 ·simp only[ZC,ZZ]at y;rcases y with(((y|rfl)|rfl)|rfl)|rfl
  ·exact h l y
  ·exact q1
  ·exact q2
  ·exact q3
  ·exact q4
 ·rw[lB1,nD _ _ _ e6];show exD Rl _ (E7 ns st T G3 som 'Ȥ' x7 x8 x9 x10 x11 x12)=_;rw[jY _ (e1 x8) 'c',nD _ _ _ (e7 _ _ _ _)];show exD Rl _ (E7 ns st T G3 (som++[j]) 'Ȥ' (So BC) x8 x9 x10 x11 x12)=_;rw[nD _ _ _ (e8 _ _ _)];show exD Rl _ (E7 ns st T G3 (som++[j]) 'Ȥ' (So BC) (So M8) x9 x10 x11 x12)=_;rw[jY _ (N _ _) 'Ï',jY _ (P _ _) 'Ï'];rw[Jmm Rl (E7 ns st T G3 (som++[j]++[q]++[o]) 'Ȥ' (So BC) (So M8) x9 x10 x11 x12) (i:=5) (J:=lD (som++[j]++[q]++[o])) rfl (Y _ _) (by simp[lD];lia)];have:lD (som++[j]++[q]++[o])++[.str (mkS t)]=lD (som++[j]++[q]++[o]++[t]):=by simp[lD]
  rw[this];rfl
end
def JrI(c:Nat):runD defs AS 34 [.exc BP]=.ok Li:=rfl
def JwH{v:Nat}{d:D}(h:evD Rl LF O=.ok d):evD Rl OY O=.ok d:=by
 show(match evD Rl LF O with
  |.ok d=>.ok d
  |.ex c=>if cl9.contains c then(match Rl 34 CZ with|.ok d=>.ok d|_=>.sk)else .sk
  |.sk=>.sk:Rs D)=_
 rw[h]
def Jqn{v:Nat}(h:evD Rl LF O=.ex BP):evD Rl OY O=.ok Li:=by
 show(match evD Rl LF O with
  |.ok d=>.ok d
  |.ex c=>if cl9.contains c then(match Rl 34 CZ with|.ok d=>.ok d|_=>.sk)else .sk
  |.sk=>.sk:Rs D)=_
 rw[h];dsimp only;rw[if_pos 'b',mK 34 'p',JrI 11]
section
variable{st:D}{T:Aj}{x11 x12:AY}
def Jou(o:semB T=To)(l:Aj)(h:Tq l)(f:AY):∃j,exD Rl lB2 W7=.ok (.nx,E7 ns st T x2 som x6 x7 x8 D1 j x11 x12):=by
 have i:evD Rl VQ W7=if semB l then .ok BO else .ex BP:=Jf _ _ (x:=.str RT) rfl (Rl_B l h.1 h.2);cases q:semB l with
 |true=>
  rw[q,if_pos rfl]at i;refine⟨So BO,?_⟩;rw[lB2,nD _ _ _ (JwH i)];show exD Rl _ (E7 ns st T x2 som x6 x7 x8 D1 D1 x11 x12)=_;rw[n_if _ _ (b:=Fo) _ _ (by
   rw[yX,Jh _ _ rfl rfl '乲',BEq.rfl];rfl)]
  rfl
 |false=>
  rw[q,if_neg 'p']at i;refine⟨So Li,?_⟩;rw[lB2,nD _ _ _ (Jqn i)];show exD Rl _ (E7 ns st T x2 som x6 x7 x8 D1 (So Li) x11 x12)=_;have m:l≠T:=λz=>by rw[z,o]at q;cases q
  rw[n_if _ _ (b:=Fo) _ _ (by
   rw[yX,Jh _ _ rfl rfl '乲'];cases S "no text"==mkS l
   ·simp only[Bool.not_false,Rs.bo];show(evD Rl (.or (.bi .ne Qa0 (.con Li)) Qo) _)=_;rw[e_or,Jh _ _ rfl rfl '乲',BEq.rfl];simp only[kM,Rs.bo];rw[Jh _ _ rfl rfl (JwM l T),Zp m]
   ·rfl)]
  rfl
def Jug:∀ls:List B3,imms (lD ls)=To
 |[]=>rfl
 |l::ls=>by
  have:=Jug ls
  simp only[lD]at this
  simp only[lD,Zg,imms,D.imm,this];rfl
def JoN(u:semB T=To)(h:∀l∈som,Tq l)(x9 x10:AY):∃i f,exD Rl (.loop To [9] 0 (.walk FM) lB2) X9=.ok (.nx,E7 ns st T x2 som x6 x7 x8 i f x11 x12):=by
 obtain⟨j,q,i,f,t⟩:=Jiz Rl lB2 [9] 0 OF som (λ_ O=>∃i f,O=E7 ns st T x2 som x6 x7 x8 i f x11 x12) (λv l m O e s=>by
  obtain⟨i,f,rfl⟩:=s;obtain⟨o,r⟩:=Jou (ns:=ns) (st:=st) (x2:=x2) (x6:=x6) (x7:=x7) (x8:=x8) (x11:=x11) (x12:=x12) (som:=som) u l (h l (by rw[e];simp)) f;exact⟨[So BO],rfl,_,r,_,_,rfl⟩) X9 ⟨_,_,rfl⟩
 subst t;refine⟨i,f,?_⟩;rw[yK,show evD Rl (.walk FM) 'ŏ'=.ok (.lst (lD som))from rfl,Rs.bo,nF,Rs.bo,Jug,if_neg 'p'];exact q
theorem JoX(F:T.length<=5840)(A:T.count 91<=4)(C:Tq T)(x2 x6 x7 x8 x9 x10:AY):∃o f i j h,(∀l∈f,Tq l)/\exD Rl (.loop Fo [2] 0 (.un .range GE) lB1) 'Ǵ'=.ok (.nx,E7 ns st T o f i j h x9 x10 x11 x12):=by
 obtain⟨s,q,o,f,i,j,h,r,_,E⟩:=Jiz Rl lB1 [2] 0 (λk:Nat=>D.int k) (List.range' 0 4) (λm O=>∃o f i j h,(∀l∈f,Tq l)/\f.length=1+4*m.length/\O=E7 ns st T o f i j h x9 x10 x11 x12) (λm k u O e x=>by
  obtain⟨o,som,i,j,h,q,r,rfl⟩:=x;have t:m.length<=4:=by have:=iA YS e;simp at this;lia
  obtain⟨f,z,y,v,w,G,B⟩:=Jon (ns:=ns) (st:=st) (x9:=x9) (x10:=x10) (x11:=x11) (x12:=x12) F A k som Ad q i j h;exact⟨[So DZ],rfl,_,B,So DZ,f,z,y,v,w,by rw[Zi,ZQ];lia,rfl⟩) 'Ǵ' ⟨_,_,_,_,_,λl t=>by rw[ZZ.mp t];exact C,rfl,rfl⟩
 subst E;refine⟨o,f,i,j,h,r,?_⟩;rw[yK,show evD Rl (.un .range GE) 'Ǵ'=.ok (.lst ((List.range' 0 4).map λk:Nat=>D.int k))from Jjc 4 'p',Rs.bo,nF,Rs.bo,rC,if_neg 'p'];exact q
end
noncomputable def goodS:List Str:=[S "",S "[a]\n",S "[a]\nx /\ny /a/:b\n[b]\n",S "[home]\nq /k=a|b/*r\n"]
noncomputable def badS1:List Str:=[S "\n",S "[a]",S "x /\n",S "x /\n[a]\n",S "[b]\n[a]\n",S "[a]\n[a]\n",S "[A]\n",S "[abcde]\n",S "[]\n",S "[a\n",S "a]\n",S "[a] \n",S "[a]\n\n",S "[a]\nx\n",S "[a]\nx /\nx /a\n",S "[a]\nx /:b/:b\n",S "[a]\nx  /\n",S "[a]\nx /"]
noncomputable def badS2:List Str:=[S "[a]x /\n",S " [a]\n",S "[a]\nx /*r/a\n",S "[a]\nX /\n"]
noncomputable def badD:List D:=badS1.map .str++[.non,.int 5,.tup [.str (S "[a]\n")]]++badS2.map .str
def Jsk:∀g∈goodS,semB aT=To/\g.length<=19000/\g.cps.toList.count 91<50:=by decide+kernel
def Jvp:∀g∈badS1++badS2,semB aT=Fo/\g.length<=19000/\g.cps.toList.count 91<50:=by decide+kernel
def JrU{g:Str}(h:g∈goodS):Rl 900 [.str g]=.ok (.str g):=by obtain⟨f,i,j⟩:=Jsk g h;have:=Rl_B aT (by rw[Js];exact i) j;rwa[pF,f,if_pos rfl]at this
def Jlk{g:Str}(h:g∈badS1++badS2):Rl 901 [.str g]=.ex BP:=by obtain⟨f,i,j⟩:=Jvp g h;have:=Rb_B aT (by rw[Js];exact i) j f;rwa[pF]at this
def JuS{d:D}(h:d∈badD):Rl 901 [d]=.ex BP:=by
 unfold badD at h;simp only[ZC,Zz,Ze,ZK,lA]at h;rcases h with(⟨g,f,rfl⟩|rfl|rfl|rfl)|⟨g,f,rfl⟩
 ·exact Jlk (yM _ f)
 ·exact Rb_N _ rfl λa=>rfl
 ·exact Rb_N _ rfl λa=>rfl
 ·exact Rb_N _ rfl λa=>rfl
 ·exact Jlk (ZO _ f)
def k0:KOk []:=⟨by simp[kys],by simp[kys],λn t h=>by cases h⟩
theorem Jiv{α:Type}[DecidableEq α]:∀{xs ys:AD},xs.Nodup->(∀x∈xs,x∈ys)->Ah<=BU
 |[],_,_,_=>yC _
 |x::xs,ys,h,hs=>by
  have i:=hs x Af
  obtain⟨j,m⟩:=vA.mp h
  have l:=Jiv (ys:=ys.erase x) m λy f=>(List.mem_erase_of_ne (λe:y=x=>j (e▸f))).mpr (hs y (Zx _ f))
  rw[List.length_erase_of_mem i]at l
  have o:=List.length_pos_of_mem i
  simp only[Zm]
  lia
def KOk.len{A:Kn}(h:Y0):A.length<=4:=by have:=Jiv h.nd h.nm;simpa[kys,nm9]using this
def plN:∀ns:List Int,Jg HY=To
 |[]=>rfl
 |n::ns=>by simp only[Zg,Jg,plN ns,Jl,Bool.and_self]
noncomputable abbrev Q:CallB:=runB defs bdefs 12
noncomputable def E0 (ns:A0) (st:D) (x2:AY):Fm:=[So ES,So st,x2,No,No,No,No,No,No,No,No,No,No]
def bd0:Bs:=Vs
theorem step0(ns:A0){a:Nat}{A:Kn}{dn un:Aq}(k:Nat)(s:Y0)(h:Cs)(B:FU):∃o j l,exO Fo Rl Q bd0 'ՙ'=.ok .nx (E0 ns (ob a o j l) G3)/\KOk o/\Dn j l/\j.length<=b8+1:=by
 obtain⟨m,q,x⟩:=deed ns (1000+300*(k:Int)) Ad;have y:evD Rl W1 'ՙ'=.ok (.lst [m.d]):=
  Jj _ _ (Jr _ _ (J:=[ofN ns,.int (1000+300*k)]) (Jj _ _ rfl (Jj _ _ (Jh _ _ rfl (Jh _ _ rfl rfl (o_mul _ _ (by rw[show smallI 300=To by decide+kernel];rfl))) QcR) rfl)) (by rw[mK 35 'p'];exact x 6)) rfl
 have t:Jl ES=To:=plN ns;have u:(plE ('ՙ'.set 1 No)&&Jg [m.d])=To:=by show((Jl (ofN ns)&&_)&&(Jl m.d&&_))=To;rw[t,m.pl];rfl
 obtain⟨d,o,j,l,v,z⟩:=did (a:=a) h B (by have:=s.len;lia) s q 3;exact⟨o,j,l,jK (w:=Fo) (U:=Rl) (bc:=Q) (r:=Fo) (f:=5) (i:=1) (O:=E0 ns AM G3) rfl y u v,z⟩
def JtO(ns:A0)(a:Nat):∀(ks:Aj){A:Kn}{dn un:Aq}(x2:AY),KOk A->Dn dn un->b8+Bh<900->∃o f i m,forB [2] 0 (exO Fo Rl Q bd0) (ks.map λk:Nat=>D.int k) Qdz=.ok .nx (E0 ns (ob a o f i) m)/\KOk o
 |[],A,dn,un,x2,hK,_,_=>⟨A,dn,un,x2,rfl,hK⟩
 |k::ks,A,dn,un,x2,hK,h,hl=>by
  rw[Zm]at hl
  obtain⟨z,t,un1,q,u,v,y⟩:=step0 ns (a:=a) k hK h Ad
  obtain⟨s,j,l,m,r,w⟩:=JtO ns a ks G3 u v Ad
  refine⟨s,j,l,m,?_,w⟩
  have x:yB [2] [So (D.int k)] Qdz=E0 ns AM G3:=rfl
  simp only[Zg,forB,kA,if_true,x,q,Rq.bind]
  exact r
def Juv{U:Ae}{bc:AG}{b:Bs}{env2:Fm}{n:Nat}(m:evD U p O=.ok cL)(i:n<=1000)(h:forB [2] 0 (exO Fo U bc b) ('ɼ'.map λk:Nat=>D.int k) O=.ok .nx env2):exO Fo U bc (.loop [2] 0 RU b) O=.ok .nx env2:=by
 have l:evD U RU O=.ok (.lst ('ɼ'.map λk:Nat=>D.int k)):=JC _ _ m (Jjc n i);have j:∀ks:List Nat,(Jg (ks.map λk:Nat=>D.int k)&&imms (ks.map λk:Nat=>D.int k))=To:=λks=>by
  induction ks with
  |nil=>rfl
  |cons k ks f=>simp only[Zc]at f⊢;exact⟨by simp[Jg,Jl,f.1],by simp[imms,D.imm,f.2]⟩
 simp only[exO,l];rw[j,if_pos rfl];exact h
section
variable{st:D}{T:Aj}{x9 x10:AY}
def Juq(x11 x12:AY):∃t,exD Rl lB3 X9=.ok (.rt B0,t):=by
 have l:exD Rl lz0 X9=.ok Xe:=rfl;have o:exD Rl lz1 UY=.ok Xe:=by
  have f:evD Rl Xk UY=.ok (.lst (goodS.map .str)):=
   JS _ _ Y3 Y3 (rs:=goodS) rfl Ax λr h=>Jf _ _ rfl (JrU h)
  rw[lz1,n_if _ _ (b:=Fo) _ _ (Jh _ _ f rfl (Jsu _ Ab))];rfl
 have u:exD Rl lz2 UY=.ok (.nx,E7 ns st T x2 som x6 x7 x8 x9 x10 G4 Q5):=rfl;have s:exD Rl lz3 (E7 ns st T x2 som x6 x7 x8 x9 x10 G4 Q5)=.ok (.nx,E7 ns st T x2 som x6 x7 x8 x9 x10 G4 Ro):=rfl;have m:exD Rl lz4 (E7 ns st T x2 som x6 x7 x8 x9 x10 G4 Ro)=.ok (.nx,E7 ns st T x2 som x6 x7 x8 x9 x10 G4 Rn):=rfl;have j:exD Rl lz5 (E7 ns st T x2 som x6 x7 x8 x9 x10 G4 Rn)=.ok (.nx,E7 ns st T x2 som x6 x7 x8 x9 x10 G4 Rm):=rfl;have i:exD Rl lz6 (E7 ns st T x2 som x6 x7 x8 x9 x10 G4 Rm)=.ok (.nx,E7 ns st T x2 som x6 x7 x8 x9 x10 G4 NN):=rfl;have q:exD Rl lz7 Xb=.ok (.rt B0,E7 ns st T x2 som x6 x7 x8 x9 x10 G4 NN):=by
  have f:evD Rl XH Xb=.ok (.lst RG):=
   JS _ _ (λd:D=>d) (λ_=>.str U4) (rs:=badD) (by rw[List.map_id'];rfl) Ax λr h=>Jqn (Jf _ _ rfl (JuS h))
  refine gZ Rl _ (Jh _ _ f (y:=.lst RG) rfl rfl)
 refine⟨E7 ns st T x2 som x6 x7 x8 x9 x10 G4 NN,?_⟩;rw[lB3,JU,l,Rs.bo];show exD Rl (.seq lz1 _) _=_;rw[JU,o,Rs.bo];show exD Rl (.seq lz2 _) _=_;rw[JU,u,Rs.bo];show exD Rl (.seq lz3 _) _=_;rw[JU,s,Rs.bo];show exD Rl (.seq lz4 _) _=_;rw[JU,m,Rs.bo];show exD Rl (.seq lz5 _) _=_;rw[JU,j,Rs.bo];show exD Rl (.seq lz6 _) _=_;rw[JU,i,Rs.bo];exact q
end
theorem JnX(ns:A0)(C:AX<=63):RL Rl Q (JG 13 Qc6):=by
 refine⟨?_,λa=>?_⟩
 ·show(Jg (ns.map .int)&&To)=To;rw[plN];rfl
 obtain⟨A,dn,un,f,r,h⟩:=JtO ns a (List.range' 0 7) (A:=[]) (dn:=[]) (un:=[]) No k0 ⟨rfl,by decide,rfl⟩ Ax;refine⟨_,Juv (O:=E0 ns (ob a [] [] []) No) (n:=7) rfl Ax r,?_⟩;obtain⟨y,t⟩:=JvR h;have w:evD Rl (.call 26 Fx) '乙'=.ok SC:=Jf _ _ rfl (by rw[mK 26 'p'];exact site_text (h.g (by have:=h.len;lia)) Ad 6);obtain⟨o,som,m,l,j,s,x⟩:=JoX (ns:=ns) (st:=ob a A dn un) (x11:=No) (x12:=No) y t ⟨by lia,by lia⟩ f No No No No No;obtain⟨B,i,u⟩:=JoN (ns:=ns) (st:=ob a A dn un) (x2:=o) (x6:=m) (x7:=l) (x8:=j) (x11:=No) (x12:=No) (Jvj h) s No No;obtain⟨v,z⟩:=Juq (ns:=ns) (st:=ob a A dn un) (T:=stx A) (x2:=o) (x6:=m) (x7:=l) (x8:=j) (x9:=B) (x10:=i) (som:=som) No No;refine⟨v,?_⟩;rw[JuU];show kK (exD Rl _ '乙')=_;have q:exD Rl W0 ('乙'.set 3 (So SC))=.ok (.nx,E7 ns AM XY f [stx A] No No No No No No No):=by rw[nD _ _ _ (Jh _ _ rfl rfl (by rw[s10];exact rV XY 10 Ad))];rfl
 rw[nD _ _ _ w,JU,q,Rs.bo];show kK PQ=_;rw[JU,x,Rs.bo];show kK PQ=_;rw[JU,u,Rs.bo];show kK (exD Rl lB3 _)=_;rw[z];rfl
end K73
namespace K73
open PySem PySem.Spec PyProof.Rows L2 Pu Rd
variable{G:Gw}{mg:Bf}{w:Bc}{K:Ak}{k:Nat}{call2:Ae}{bc:AG}{base:Heap}
noncomputable abbrev row:Program:=PySem.Challenge.pw_routeboard_k73_whole_site_texts_spoilt
noncomputable def stAt (i:Nat):Stmt:=row.main.body.getD i P9
noncomputable abbrev rP:Stmt:=stAt 72
noncomputable abbrev JdR:List Str:=Wo
noncomputable abbrev JcY:Stmt:=wG EW 1
noncomputable abbrev Jfd:Stmt:=wG EW 2
noncomputable abbrev JqW:Stmt:=wG EW 3
noncomputable abbrev Jnf:Stmt:=wG EW 5
noncomputable abbrev JiG:Stmt:=wG EW 6
noncomputable abbrev Jhx:Stmt:=wG EW 4
noncomputable abbrev Jpt:Stmt:=wG EW 8
noncomputable abbrev lW:Stmt:=stAt 76
noncomputable abbrev JeQ:List Str:=[Sj,NH]
noncomputable abbrev Jhr:Stmt:=wG EW 0
noncomputable abbrev uS:Stmt:=stAt 79
noncomputable abbrev JvI:List Str:=[BZ,Sj,Ly,Si,Sh,Um,T3,Dx,(oS "_law_two"),(oS "_law_one"),(oS "_law_told_here"),(oS "_law_good"),(oS "_law_bad")]
noncomputable abbrev JeT:Stmt:=stAt 73
noncomputable abbrev T:List DefE:=[((oS "is_text_of"),stAt 22,Qf),
 ((oS "is_word"),stAt 23,[DM]),
 ((oS "is_name"),stAt 24,[DM]),
 ((oS "is_tuple_of"),stAt 25,Qe),
 ((oS "are_words"),stAt 26,[QdA]),
 ((oS "has_twice"),stAt 27,[Mp]),
 ((oS "are_rising_words"),stAt 28,[DM]),
 ((oS "is_part"),stAt 29,[DM]),
 ((oS "is_hole"),stAt 30,[Md]),
 ((oS "hole_names"),stAt 31,[LG]),
 ((oS "is_pattern"),stAt 32,[DM]),
 ((oS "is_row"),stAt 33,[DM]),
 ((oS "is_table"),stAt 34,[DM]),
 ((oS "mounted"),stAt 45,[Nh,Eo]),
 ((oS "joined"),stAt 46,[N7,Ng]),
 ((oS "written_part"),stAt 49,[Md]),
 ((oS "with_slashes"),stAt 50,[(oS "texts")]),
 ((oS "written"),stAt 51,[LG]),
 ((oS "between_slashes"),stAt 52,[Ca]),
 ((oS "read_part"),stAt 53,[Ca]),
 ((oS "read"),stAt 54,[Ca]),
 ((oS "written_row"),stAt 55,[(oS "row")]),
 ((oS "written_table"),stAt 56,[Eo]),
 ((oS "lines_of"),stAt 57,[Ca]),
 ((oS "read_row"),stAt 58,[dA]),
 ((oS "read_table"),stAt 59,[Ca]),
 ((oS "site_text"),stAt 62,[dC]),
 ((oS "tables_by_heads"),stAt 63,[Ca]),
 ((oS "name_in"),stAt 64,[Mc]),
 ((oS "_law_cell"),stAt 67,[BZ,Ly]),
 ((oS "_law_pick"),stAt 68,[BZ,Ly,Sg]),
 ((oS "_law_part"),stAt 69,[BZ,Dx,Sf]),
 ((oS "_law_pattern"),stAt 70,[BZ,Dx,Ni]),
 ((oS "_law_table"),stAt 71,[BZ,Dx,Ni,Sh]),
 (Qap,stAt 72,[(oS "_law_kept")]),
 ((oS "_law_deed"),stAt 74,[BZ,Dx]),
 ((oS "_law_spoilt"),stAt 78,[Si,T3,Qaq])]
noncomputable abbrev B_:List Str:=[Fl,(oS "all"),IF,Qar,(oS "len"),(oS "range"),(oS "set"),(oS "sorted"),(oS "str"),(oS "tuple"),(oS "zip")]
structure Env(G:Gw)(U:Ae):Prop where
 f:∀i{n},T[i]?.map (·.1)=So n->Callee G U i n
 b:BlN G.mg B_
 c_LETTERS:mD G Ks QaX
 c_MOST_CHOICES:mD G Ts cT
 c_MOST_LETTERS:mD G Tp cT
 c_MOST_PARTS:mD G SA QcP
 c_MOST_ROWS:mD G Sd cU
 c_MOST_SIGNS:mD G Sy cU
 c_NAME_ONLY_HOLES:mD G T9 Iu
 c_SIGNS:mD G IP (.tup L7)
 c_WORD_SIGNS:mD G Sw QaW
 x_NoSite:ExcC G Co
 x_NoText:ExcC G G5
 x_TooMany:ExcC G Cp
 t_RouteError:Takes G LM cl9
 i_BadLead:IsaC G DD cl9
 i_BadValues:IsaC G DF cl9
 i_NoBack:IsaC G DB cl9
 i_NoHole:IsaC G DC cl9
 i_NoRow:IsaC G DA cl9
 i_NoSite:IsaC G Co cl9
 i_NoText:IsaC G G5 cl9
 i_Taken:IsaC G Dz cl9
 i_TooMany:IsaC G Cp cl9
 i_ValueError:IsaC G Fl cl9
 F_done:FldC G E1
 F_tables:FldC G L9
 F_undone:FldC G E8
 p_table_of:CalleeP G U 37 Dm QbQ
 p_names:CalleeP G U 38 Dm Mp
 o_told:Told G U Sb 34 cl9
def blm{x:Str}:∀{T:Ag},BlN mg T->x∈T->mg x=No
 |_::_,b,.head _=>b.1
 |_::_,b,.tail _ h=>blm b.2 h
noncomputable abbrev NL:List NM:=[(Qf,[]),
 Gb,
 Gb,
 (Qe,[]),
 ([QdA],[]),
 ([Mp],[]),
 Gb,
 Gb,
 ([Md],[]),
 ([LG],[]),
 Gb,
 Gb,
 Gb,
 ([Nh,Eo,dE],[]),
 ([N7,Ng,dE],[]),
 ([Md,(oS "kind"),(oS "sign")],[]),
 ([(oS "texts")],[]),
 ([LG],[]),
 ([Ca],[]),
 ([Ca,(oS "kind"),(oS "sign"),QdB],[]),
 ([Ca,LG],[]),
 ([(oS "row")],[]),
 ([Eo],[]),
 ([Ca],[]),
 ([dA,QdB],[]),
 ([Ca,Eo],[]),
 ([dC],[]),
 ([Ca,(oS "found"),Mc,dA],[1]),
 ([Mc,GF],[]),
 ([BZ,Ly],[]),
 ([BZ,Ly,Sg,(oS "_law_drawn")],[]),
 ([BZ,Dx,Sf,(oS "_law_pool"),R4,Um],[]),
 ([BZ,Dx,Ni,Qas,(oS "_law_made")],[4]),
 ([BZ,Dx,Ni,Sh,(oS "_law_labels"),Sg],[]),
 (Wo,[]),
 ([BZ,Dx,Qas,Sf,R4,(oS "_law_table_here"),(oS "_law_turn"),(oS "_law_ahead")],[]),
 ([Si,T3,Qaq,Dx,(oS "_law_sign"),(oS "_law_on"),R4],[])]
structure EnvN(G:Gw):Prop where
 b_isinstance:G.mg Qar=No
 i_BadLead:IsaC G DD cl9
 i_BadValues:IsaC G DF cl9
 i_NoBack:IsaC G DB cl9
 i_NoHole:IsaC G DC cl9
 i_NoRow:IsaC G DA cl9
 i_NoSite:IsaC G Co cl9
 i_NoText:IsaC G G5 cl9
 i_Taken:IsaC G Dz cl9
 i_TooMany:IsaC G Cp cl9
 i_ValueError:IsaC G Fl cl9
structure EnvB(G:Gw)(U:Ae)(bc:AG):Prop extends Env G U where
 m_set_table:CalleeB G bc 0 Dm Sa
 m_do_step:CalleeB G bc 1 Dm Kr
 m_put:CalleeB G bc 2 Dm HE
 m_take:CalleeB G bc 3 Dm Lk
 m_mount:CalleeB G bc 4 Dm HF
structure EnvR(G:Gw)(U:Ae)(bc:AG)(R:De):Prop extends EnvB G U bc where
 q_rs:CalleeQ G R Qbh
 V_rs:∀J,U vRS J=pB R (λd=>U vST [d]) J
 V_rb:∀J,U vRB J=pB R Lv J
def EnvR.e{U:Ae}{R:De}(E:EnvR G U bc R):Env G U:=E.toEnvB.toEnv
structure EnvL(G:Gw)(U:Ae)(bc:AG)(R:De)(Pt:Addr)(q0:Str):Prop extends EnvR G U bc R where
 mkS:MakeS G
 o_law_did:CalleeOL G bc 5 QbR Pt q0
noncomputable abbrev TM5:List MethE:=[(Sa,PP,JcY,Ig),(Kr,OX,Jfd,TN),(HE,QbS,JqW,Ig),(Lk,Qbi,Jnf,G0),(HF,Qat,JiG,OQ)]
noncomputable abbrev TM:List MethE:=[(Sa,PP,JcY,Ig),(Kr,OX,Jfd,TN),(HE,QbS,JqW,Ig),(Lk,Qbi,Jnf,G0),(HF,Qat,JiG,OQ)]
noncomputable abbrev TP:List MethE:=[(QbQ,(oS "Site.table_of"),Jhx,G0),(Mp,(oS "Site.names"),Jpt,[Er])]
noncomputable abbrev NM_:List GV:=[Ig,TN,[Er,GF,Eo,(oS "had_one")],Ig,[Er,GF,Nh,Ng,N7,Eo]]
noncomputable abbrev NP:List GV:=[G0,[Er]]
section
variable{X:Cx}{U:Ae}{H0:Hp}
def Jdg(E:EnvN G)(C:CtxN X G JdR (Ja rP).names):PSs X (Jp rP) Ot:=by refine@Jy _ _ _ _ _ _ _ _ ?_ ?_;refine sS C Ab ?_;refine@JW _ _ _ _ ?_ rfl;refine@wB _ _ _ _ _ ?_;refine@Jb _ _ _ _ _ _ ?_ ?_ rfl;refine kE C YA E.i_BadLead ?_ Ab Ab;exact vVN C Ab;refine@Jb _ _ _ _ _ _ ?_ ?_ rfl;refine kE C YA E.i_BadValues ?_ Ab Ab;exact vVN C Ab;refine@Jb _ _ _ _ _ _ ?_ Jt rfl;refine kE C YA E.i_NoBack ?_ Ab Ab;exact vVN C Ab;refine@Jy _ _ _ _ _ _ _ _ ?_ ?_;refine sS C Ab ?_;refine@eAdd _ _ _ _ _ _ _ ?_ ?_;exact vVN C Ab;refine@JW _ _ _ _ ?_ rfl;refine@wB _ _ _ _ _ ?_;refine@Jb _ _ _ _ _ _ ?_ ?_ rfl;refine kE C YA E.i_NoHole ?_ Ab Ab;exact vVN C Ab;refine@Jb _ _ _ _ _ _ ?_ ?_ rfl;refine kE C YA E.i_NoRow ?_ Ab Ab;exact vVN C Ab;refine@Jb _ _ _ _ _ _ ?_ Jt rfl;refine kE C YA E.i_NoSite ?_ Ab Ab;exact vVN C Ab;refine@Jy _ _ _ _ _ _ _ _ ?_ ?_;refine sS C Ab ?_;refine@eAdd _ _ _ _ _ _ _ ?_ ?_;exact vVN C Ab;refine@JW _ _ _ _ ?_ rfl;refine@wB _ _ _ _ _ ?_;refine@Jb _ _ _ _ _ _ ?_ ?_ rfl;refine kE C YA E.i_NoText ?_ Ab Ab;exact vVN C Ab;refine@Jb _ _ _ _ _ _ ?_ ?_ rfl;refine kE C YA E.i_Taken ?_ Ab Ab;exact vVN C Ab;refine@Jb _ _ _ _ _ _ ?_ Jt rfl;refine kE C YA E.i_TooMany ?_ Ab Ab;exact vVN C Ab;refine@Jy _ _ _ _ _ _ _ _ ?_ ?_;refine@mS _ _ _ _ _ _ _ _ _ _ _ ?_ ?_ sI;refine@PW.pt _ _ _ ?_;refine@mY _ _ _ _ _ _ _ _ ?_ ?_;refine tNeN C ?_ JI;refine Jse C ?_ zM rfl rfl;exact vVN C Ab;refine@sT _ _ _ _ _ _ ?_;refine@wZ _ _ _ _ _ ?_;refine@nZ _ _ _ _ ?_ Ge;refine kE C YA E.i_ValueError ?_ Ab Ab;exact vVN C Ab;exact@tG _ _ _ _ _ _ (@rK _ _ _ _ _ _ _ Jo);refine@Jy _ _ _ _ _ _ _ _ ?_ ?_;refine sS C Ab ?_;refine@JW _ _ _ _ ?_ rfl;refine@wB _ _ _ _ _ ?_;refine@Jb _ _ _ _ _ _ Jo ?_ rfl;refine@Jb _ _ _ _ _ _ Jo ?_ rfl;refine@Jb _ _ _ _ _ _ Jo ?_ rfl;refine@Jb _ _ _ _ _ _ Jo ?_ rfl;refine@Jb _ _ _ _ _ _ Jo ?_ rfl;refine@Jb _ _ _ _ _ _ Jo ?_ rfl;refine@Jb _ _ _ _ _ _ Jo ?_ rfl;exact@Jb _ _ _ _ _ _ Jo (@Jb _ _ _ _ _ _ Jo Jt rfl) rfl;refine@tG _ _ _ _ _ _ ?_;refine@rK _ _ _ _ _ _ _ ?_;refine@eIx _ _ _ _ _ _ _ ?_ ?_ Cz;exact vVN C Ab;refine Jrr C ?_ zM rfl rfl;exact vVN C Ab
def JhX(E:Env G U)(C:Ctx X G JdR (Ja rP).names)(a:HX X (Ja rP).names):PSs X (Jp rP) Ot:=Jdg ⟨HU,E.i_BadLead,E.i_BadValues,E.i_NoBack,E.i_NoHole,E.i_NoRow,E.i_NoSite,E.i_NoText,E.i_Taken,E.i_TooMany,E.i_ValueError⟩ C.n
end
def dAll{X:Cx}{U:Ae}{a:Hp}:(∀E:Env G U,DAll X G U a T NL defs/\Juk X G U a TP NP (defs.drop 37))/\∀{bc:AG}(E:fM)(f:PlO a),Jwv X G U bc a TM5 NM_ bdefs:=by
 refine⟨λE=>HH,λE f=>?_⟩;all_goals repeat' (refine mB (λC b=>?_) ?_)
 rotate_left 34;exact JhX E C b;all_goals try exact jA
 all_goals conv=>(arg 2;whnf)
 all_goals first|conv=>(arg 3;arg 7;whnf)|conv=>(arg 3;arg 5;whnf)
 repeat' (first
  |with_reducible assumption
  |((with_reducible show _=_);first|exact(by decide+kernel)|exact rfl|exact blm E.b (by decide+kernel))
  |((with_reducible show PE _ _ _);with_reducible (first|refine@vV _ _ _ _ _ _ _ C _ ?_|refine@JI _ _ _ _ _|refine@Jo _ _ _ _ _|refine@cF _ _ _ _ _ _ _ _ _ _ _ C _ ?_ ?_ ?_ ?_ ?_|refine@eAdd _ _ _ _ _ _ _ ?_ ?_|refine@eIx _ _ _ _ _ _ _ ?_ ?_ ?_|refine@iH _ _ _ _ ?_ _ _ _ _ _ ?_ ?_ ?_|refine@Jub _ _ _ _ _ _ _ _ _ _ _ _ _ _ _ C ?_ ?_ ?_ ?_ ?_ ?_|refine@Jqw _ _ _ _ _ _ ?_|refine@wB _ _ _ _ _ ?_|refine@vG _ _ _ _ _ _ _ C _ ?_ ?_|refine@lY _ _ _ _ _|refine@cLen _ _ _ _ _ _ _ _ _ C ?_ ?_ ?_ ?_|refine@zM _ _ _ _ _|refine@eMod _ _ _ _ _ _ _ ?_ ?_|refine@Jwa _ _ _ _ _ _ _ _ _ C ?_ ?_ ?_ ?_|refine@JvG _ _ _ _ _ _ _ _ ?_ ?_|refine@eMul _ _ _ _ _ _ _ ?_ ?_|refine@cAll _ _ _ _ _ _ _ _ _ C ?_ ?_ ?_ ?_|refine@JvU _ _ _ _ _ _ _ _ _ C ?_ ?_ ?_|refine@JwI _ _ _ _ _ _ ?_|refine@eDiv _ _ _ _ _ _ _ ?_ ?_|refine@Jvm _ _ _ _ _ _ _ ?_|refine@cM _ _ _ _ _ _ _ _ _ _ _ _ _ _ _ _ _ _ ?_ C ?_ ?_ ?_ ?_ ?_ ?_ ?_ ?_|refine@nS _ _ _ _ _ _ _ _ _ ?_ ?_ ?_ ?_|refine@cP _ _ _ _ _ _ _ _ _ _ _ _ _ _ _ _ ?_ C ?_ ?_ ?_ ?_ ?_ ?_ ?_|refine@JpR _ _ _ _ _ _ _ _ ?_ ?_ ?_ ?_ ?_ ?_|refine@cStrt _ _ _ _ _ _ _ _ ?_ ?_ ?_ ?_ ?_ ?_|refine@JqT _ _ _ _ _ ?_|refine@Jqp _ _ _ _|refine@cPart _ _ _ _ _ _ _ _ ?_ ?_ ?_ ?_ ?_ ?_|refine@cIsi _ _ _ _ _ _ _ _ _ _ _ _ _ JkI C ?_ ?_ PyProof.Rows.boot_str ?_ ?_ ?_ ?_ ?_ ?_|refine@cIsi _ _ _ _ _ _ _ _ _ _ _ _ _ JsN C ?_ ?_ PyProof.Rows.boot_tuple ?_ ?_ ?_ ?_ ?_ ?_|refine@eEq _ _ _ _ _ _ _ _ _ _ C ?_ ?_|refine@eIn _ _ _ _ _ _ _ _ _ _ C ?_ ?_ ?_|refine@eLt _ _ _ _ _ _ _ ?_ ?_|refine@JoB _ _ _ _ _ _ _ _ _ _ _ _ _ ?_ ?_ ?_ ?_ ?_ ?_|refine@JvH _ _ _ _ _ ?_|refine@eSub _ _ _ _ _ _ _ ?_ ?_|refine@cEnds _ _ _ _ _ _ _ _ ?_ ?_ ?_ ?_ ?_ ?_|refine@cAny _ _ _ _ _ _ _ _ _ C ?_ ?_ ?_ ?_|refine@eNe _ _ _ _ _ _ _ _ _ _ C ?_ ?_|refine@pI_if _ _ _ _ _ _ _ _ _ ?_ ?_ ?_|refine@Jsg _ _ _ _ _ _ _ _ _ _ _ C ?_ ?_ ?_ ?_ ?_ ?_|refine@JsB _ _ _ _ _ _ _ _ _ _ _ C ?_ ?_ ?_ ?_ ?_ ?_|refine@eDGet _ _ _ _ _ _ _ _ _ _ C _ ?_ ?_ ?_ ?_|refine@eDIn _ _ _ _ _ _ _ _ _ _ C _ ?_ ?_ ?_ ?_|refine@eFst _ _ _ _ _ _ _ ?_ ?_|refine@cP0 _ _ _ _ _ _ _ _ _ _ _ _ _ ?_ C ?_ ?_ ?_ ?_|refine@cSrtD _ _ _ _ _ _ _ _ _ C ?_ ?_ ?_ ?_|refine@eGetN _ _ _ _ _ _ _ _ _ _ _ C ?_ ?_ ?_ ?_|refine@JW _ _ _ _ ?_ ?_))
  |((with_reducible show PA _ _ _);with_reducible (first|refine@Jb _ _ _ _ _ _ ?_ ?_ ?_|refine@Jt _ _))
  |((with_reducible show PSs _ _ _);with_reducible (first|refine@tG _ _ _ _ _ _ ?_|refine@Jy _ _ _ _ _ _ _ _ ?_ ?_|refine@sI _ _ _ _|refine@wU _ _ _ _ _ _ _ _ _ _ ?_ ?_|refine@pG _ _ _ _ _ _ _ _ ?_|refine@xU _ _ _ _ _ _ _ _ ?_))
  |((with_reducible show PS _ _ _);with_reducible (first|refine@rK _ _ _ _ _ _ _ ?_|refine@mS _ _ _ _ _ _ _ _ _ _ _ ?_ ?_ ?_|refine@aSetC _ _ _ _ _ _ _ _ _ _ _ _ _ _ _ _ _ _ _ _ _ C ?_ ?_ ?_ ?_ ?_ ?_ ?_ ?_|refine@aSet _ _ _ _ _ _ _ _ _ _ _ _ _ C ?_ ?_ ?_ ?_|refine@Jjs _ _ _ _ _ _ _ _ _ _ _ _ _ C ?_ ?_ ?_ ?_|refine@bSet _ _ _ _ _ _ _ _ _ _ _ _ _ _ C ?_ ?_ ?_|refine@vY _ _ _ _ _ _ _ _ _ ?_ ?_|refine@JqO _ _ _ _ _ _ _ _ _ ?_|refine@JpL _ _ _ _ _ _ _ _ _ _ _ _ _ _ _ C ?_ ?_ ?_ ?_ ?_ ?_|refine@pS _ _ _ _ _ _ _ _ _ _ _ _ _ ?_ ?_ ?_|refine@yY _ _ _ _ _ _ _ _ _ _ _ _ _ _ C ?_ ?_ ?_ ?_|refine@aPr _ _ _ _ _ _ _ _ _ _ _ _ _ _ _ _ _ _ _ _ _ _ C b ?_ ?_ ?_ ?_ ?_ ?_ ?_ ?_ ?_ ?_ ?_|refine@aApp _ _ _ _ _ _ _ _ _ _ _ _ _ _ _ C ?_ ?_ ?_ ?_ ?_|refine@aOwnC _ _ _ _ _ _ _ _ _ _ _ _ _ _ _ _ _ _ _ _ _ C ?_ ?_ ?_ ?_ ?_ ?_ ?_|refine@aPut _ _ _ _ _ _ _ _ _ _ _ _ _ _ _ _ C _ ?_ ?_ ?_ ?_ ?_ ?_ ?_|refine@Jvw _ _ _ _ _ _ _ _ _ _ _ _ C ?_ ?_|refine@aRetF _ _ _ _ _ _ _ _ _ _ _ C ?_|refine@bAppF _ _ _ _ _ _ _ _ _ _ _ _ _ _ _ _ _ C ?_ ?_ ?_ ?_ ?_ ?_ ?_ ?_|refine@bNewL _ _ _ _ _ _ _ _ _ _ _ _ _ _ C ?_ ?_ ?_ ?_|refine@bPutK _ _ _ _ _ _ _ _ _ _ _ _ _ _ _ _ _ _ C ?_ ?_ ?_ ?_ ?_ ?_ ?_|refine@bPopK _ _ _ _ _ _ _ _ _ _ _ _ _ _ _ _ _ C ?_ ?_ ?_ ?_ ?_ ?_|refine@aAugK _ _ _ _ _ _ _ _ _ _ _ _ _ _ _ _ _ C ?_ ?_ ?_ ?_ ?_))
  |((with_reducible show PT _ _ _);with_reducible (first|refine@wZ _ _ _ _ _ ?_|refine@tEq _ _ _ _ _ _ _ _ _ _ C ?_ ?_|refine@tLt _ _ _ _ _ _ _ ?_ ?_|refine@nU _ _ _ _ _ _ _ ?_|refine@JwA _ _ _ _ _ _ _ ?_|refine@tGt _ _ _ _ _ _ _ ?_ ?_|refine@tIn _ _ _ _ _ _ _ _ _ _ C ?_ ?_ ?_|refine@tNe _ _ _ _ _ _ _ _ _ _ C ?_ ?_|refine@tDNi _ _ _ _ _ _ _ _ _ _ C _ ?_ ?_ ?_ ?_|refine@nZ _ _ _ _ ?_ ?_|refine@PW.pt _ _ _ ?_))
  |((with_reducible show PI _ _ _ _);with_reducible (first|refine@kT _ _ _ _ _ _ ?_|refine@JfX _ _ _ _ _ _ _ _ _ _ C ?_ ?_ ?_ ?_|refine@Jrh _ _ _ _ _ _ _ ?_|refine@Jwe _ _ _ _ _ _ _ _ _ _ _ _ _ _ C ?_ ?_ ?_ ?_ ?_ ?_))
  |((with_reducible show PW _ _ _);with_reducible (first|refine@sT _ _ _ _ _ _ ?_|refine@mY _ _ _ _ _ _ _ _ ?_ ?_))
  |((with_reducible show True);exact jA)
  |((with_reducible show _=To->NoKT _);(intro z;cases z))
  |((with_reducible show CalleeP _ _ _ _ _);first|exact E.p_table_of|exact E.p_names)
  |((with_reducible show FldC _ _);first|exact E.F_done|exact E.F_tables|exact E.F_undone)
  |((with_reducible show CalleeB _ _ _ _ _);first|exact E.m_set_table|exact E.m_do_step|exact E.m_put|exact E.m_take|exact E.m_mount)
  |((with_reducible show CalleeOL _ _ _ _ _ _);exact E.o_law_did)
  |((with_reducible show M1 _ _ _ _ _ _);exact⟨rfl,rfl,rfl,rfl⟩)
  |((with_reducible show ExcC _ _);first|exact E.x_NoSite|exact E.x_NoText|exact E.x_TooMany)
  |((with_reducible show Takes _ _ _);first|exact E.t_RouteError)
  |((with_reducible show IsaC _ _ _);first|exact E.i_BadLead|exact E.i_BadValues|exact E.i_NoBack|exact E.i_NoHole|exact E.i_NoRow|exact E.i_NoSite|exact E.i_NoText|exact E.i_Taken|exact E.i_TooMany|exact E.i_ValueError)
  |with_reducible intro _ C
  |((with_reducible intro _);exact rfl)
  |((with_reducible show _≠_);exact(by decide+kernel))
  |((with_reducible show _<=_);exact(by decide+kernel))
  |((with_reducible show sU _);intro _ _;exact rfl)
  |((with_reducible show NoSl _);intro _ _;exact rfl)
  |((with_reducible show M2 _ _ _ _ _ _ _);exact⟨rfl,rfl,rfl,rfl⟩)
  |((with_reducible show OpR _ _ _);first|exact Jvo|exact mZ|exact JwO|exact Jqx)
  |((with_reducible show Callee _ _ _ _);exact E.f _ rfl)
  |((with_reducible show mD _ _ _);first|exact E.c_LETTERS|exact E.c_MOST_CHOICES|exact E.c_MOST_LETTERS|exact E.c_MOST_PARTS|exact E.c_MOST_ROWS|exact E.c_MOST_SIGNS|exact E.c_NAME_ONLY_HOLES|exact E.c_SIGNS|exact E.c_WORD_SIGNS)
  |((with_reducible show TgOk _ _ _ _);first|exact gOne C (by decide+kernel)|exact gTwo C (by decide+kernel) (by decide+kernel))
  |((with_reducible show PG _ _ _);first|exact lOne C (by decide+kernel)|exact lTwo C (by decide+kernel) (by decide+kernel)|exact lThree C (by decide+kernel) (by decide+kernel) (by decide+kernel))
  |with_reducible exact b.pass|with_reducible (first|refine@yI _ _|refine@qF _ _ _ _ ?_|refine@JhL _ _|refine@Jrs _ _ _ _ ?_|refine@Jsf _ _|refine@Job _ _ _ _ _ _ _ ?_ ?_ ?_|refine@Jst _ _ _ _ _ _ _ ?_))
section
variable{X:Cx}{U:Ae}{H0:Hp}
def Jkn{P:Bk}{A:Bg}(f:∀A,Room Dw A->EnvB An U bc)(h:Room (3*k+5) A)(C:Ctx X An JeQ (Ja lW).names)(j:HX X (Ja lW).names)(L:a7)(i:A8):PSs X (Jp lW) (tSB X To U bc [] H0 JR):=by have E:=f A (h.mono Ad);refine@wU _ _ _ _ _ _ _ _ _ _ ?_ ?_;refine@pS _ _ _ _ _ _ _ _ _ _ _ _ _ ?_ ?_ (@xU _ _ _ _ _ _ _ _ sI);refine@nU _ _ _ _ _ _ _ ?_;refine@tEq _ _ _ _ _ _ _ _ _ _ C ?_ Jo;refine@eIx _ _ _ _ _ _ _ ?_ JI Cz;exact vV C Ab;refine@pG _ _ _ _ _ _ _ _ ?_;refine Jtb ?_;refine JsP (m:=HF) ?_ i Ab;refine Jtm (M:=[]) C L bE h Ab Ab Ab Ab ?_ NB rfl rfl;intro _ _ a b;refine cMt a ?_ Ab ?_;exact EnvB.m_mount Qau;refine@Jb _ _ _ _ _ _ ?_ ?_ rfl;refine@eIx _ _ _ _ _ _ _ ?_ JI Cz;exact vV a Ab;refine@Jb _ _ _ _ _ _ ?_ ?_ rfl;refine@eIx _ _ _ _ _ _ _ ?_ JI Cz;exact vV a Ab;refine@Jb _ _ _ _ _ _ ?_ Jt rfl;refine@eIx _ _ _ _ _ _ _ ?_ JI Cz;exact vV a Ab;refine@pG _ _ _ _ _ _ _ _ ?_;refine JoL (m:=HE) (m2:=Lk) (M:=[]) ?_ i Ab Ab Ab Ab Ab Ab Joa;refine JhW C L bE h Ab Ab ?_ NB rfl rfl;intro _ _ a b;refine JiZ ?_ ?_ ?_;refine@tEq _ _ _ _ _ _ _ _ _ _ a ?_ Jo;refine@eIx _ _ _ _ _ _ _ ?_ JI Cz;exact vV a Ab;refine cMt a ?_ Ab ?_;exact EnvB.m_put Qau;refine@Jb _ _ _ _ _ _ ?_ ?_ rfl;refine@eIx _ _ _ _ _ _ _ ?_ JI Cz;exact vV a Ab;refine@Jb _ _ _ _ _ _ ?_ Jt rfl;refine@eIx _ _ _ _ _ _ _ ?_ JI Cz;exact vV a Ab;refine cMt a ?_ Ab ?_;exact EnvB.m_take Qau;refine@Jb _ _ _ _ _ _ ?_ Jt rfl;refine@eIx _ _ _ _ _ _ _ ?_ JI Cz;exact vV a Ab
noncomputable abbrev jV:Stmt:=stAt 65
noncomputable abbrev JjN:List Str:=[Ca,dC,Mc,dE]
def JnW(E:fM)(f:MakeS G)(C:Ctx X G JjN (Ja jV).names)(b:HX X (Ja jV).names)(a:A8):PSs X (Jp jV) (tRd X U bc H0 iR sO iL):=by refine Jvn C a f Ab Ab ?_ ?_;refine@pS _ _ _ _ _ _ _ _ _ _ _ _ _ ?_ ?_ (@xU _ _ _ _ _ _ _ _ sI);refine@nU _ _ _ _ _ _ _ ?_;refine@wZ _ _ _ _ _ ?_;refine@nZ _ _ _ _ ?_ Ge;refine@cIsi _ _ _ _ _ _ _ _ _ _ _ _ _ JkI C HU HU PyProof.Rows.boot_str ?_ Ab Ab Ab Ab rfl;exact vV C Ab;refine@pG _ _ _ _ _ _ _ _ ?_;exact@yY _ _ _ _ _ _ _ _ _ _ _ _ _ _ C E.x_NoText Ab (@lY _ _ _ _ _) rfl;refine@wU _ _ _ _ _ _ _ _ _ _ ?_ ?_;refine Jsw C b.pass ?_ ?_ ?_ rfl;refine@cF _ _ _ _ _ _ _ _ _ _ _ C _ (E.f 27 rfl) Ab ?_ rfl rfl;refine@Jb _ _ _ _ _ _ ?_ Jt rfl;exact vV C Ab;exact@lTwo _ _ _ _ _ _ _ _ _ _ _ _ _ _ C Ab Ab;refine@pG _ _ _ _ _ _ _ _ ?_;refine@vY _ _ _ _ _ _ _ _ _ ?_ rfl;refine@cM _ _ _ _ _ _ _ _ _ _ _ _ _ _ _ _ _ _ _ C a E.m_set_table Ab Ab ?_ rfl rfl rfl;refine@Jb _ _ _ _ _ _ ?_ ?_ rfl;refine@cF _ _ _ _ _ _ _ _ _ _ _ C _ (E.f 28 rfl) Ab ?_ rfl rfl;refine@Jb _ _ _ _ _ _ ?_ Jt rfl;exact vV C Ab;refine@Jb _ _ _ _ _ _ ?_ Jt rfl;refine@cF _ _ _ _ _ _ _ _ _ _ _ C _ (E.f 25 rfl) Ab ?_ rfl rfl;refine@Jb _ _ _ _ _ _ ?_ Jt rfl;exact vV C Ab;refine@wU _ _ _ _ _ _ _ _ _ _ ?_ ?_;refine@pS _ _ _ _ _ _ _ _ _ _ _ _ _ ?_ ?_ (@xU _ _ _ _ _ _ _ _ sI);refine@nU _ _ _ _ _ _ _ ?_;refine@tNe _ _ _ _ _ _ _ _ _ _ C ?_ ?_;refine@cF _ _ _ _ _ _ _ _ _ _ _ C _ IM Ab ?_ rfl rfl;refine@Jb _ _ _ _ _ _ ?_ Jt rfl;exact vV C Ab;exact vV C Ab;refine@pG _ _ _ _ _ _ _ _ ?_;exact@yY _ _ _ _ _ _ _ _ _ _ _ _ _ _ C E.x_NoText Ab (@lY _ _ _ _ _) rfl;refine@pG _ _ _ _ _ _ _ _ ?_;refine@JqO _ _ _ _ _ _ _ _ _ ?_;exact vV C Ab
def d_law{P:Bk}{A:Bg}{m:Addr}{l:Str}{R:De}(h:∀A,Room Dw A->EnvR An U bc R)(o:Room (3*k+5) A)(E:EnvL An U bc R m l)(C:Ctx X An JvI (Ja uS).names)(j:HX X (Ja uS).names)(L:a7)(r:TbH X.H₀ m l)(q:A8):PSs X (Jp uS) (tLaw X H0 (RL U bc)):=by refine JrK C q Ab E.mkS Ab ?_;refine Jro (a:=JqK) ?_ ?_;refine@Jts _ _ _ _ _ _ _ _ _ _ _ _ _ _ _ _ _ _ C j.pass JI Ab HU ?_ ?_ _ rfl Ge;exact@lOne _ _ _ _ _ _ _ _ _ C Ab;refine@pG _ _ _ _ _ _ _ _ ?_;refine@vY _ _ _ _ _ _ _ _ _ ?_ rfl;refine@cOHL _ _ _ _ _ _ _ _ _ _ _ _ (oS "add") _ _ _ _ _ _ _ _ C q E.o_law_did r Ab Ab Ab ?_ rfl rfl rfl;refine@Jb _ _ _ _ _ _ ?_ ?_ rfl;exact vV C Ab;refine@Jb _ _ _ _ _ _ ?_ Jt rfl;refine@cF _ _ _ _ _ _ _ _ _ _ _ C _ (E.f 35 rfl) Ab ?_ rfl rfl;refine@Jb _ _ _ _ _ _ ?_ ?_ rfl;exact vV C Ab;refine@Jb _ _ _ _ _ _ ?_ Jt rfl;refine@eAdd _ _ _ _ _ _ _ JI ?_;refine@eMul _ _ _ _ _ _ _ JI ?_;exact vV C Ab;refine JtJ (sx:=wX) ?_;refine@sS_sw _ _ _ [5,12] _ _ _ _ Ab ?_;refine@Jy _ _ _ _ _ _ _ _ ?_ ?_;refine@aSet _ _ _ _ _ _ _ _ _ _ _ _ _ C Ab ?_ rfl rfl;refine@cF _ _ _ _ _ _ _ _ _ _ _ C _ IM Ab ?_ rfl rfl;refine@Jb _ _ _ _ _ _ ?_ Jt rfl;exact vV C Ab;refine@Jy _ _ _ _ _ _ _ _ ?_ ?_;refine aParL C j Ab Ab Ab ?_ ?_;refine@JpR _ _ _ _ _ _ _ _ ?_ Jo rfl rfl rfl rfl;exact vV C Ab;refine@wB _ _ _ _ _ ?_;refine@Jb _ _ _ _ _ _ ?_ Jt rfl;exact vV C Ab;refine@Jy _ _ _ _ _ _ _ _ ?_ ?_;refine@JpL _ _ _ _ _ _ _ _ _ _ _ _ _ _ _ C j.pass ?_ ?_ ?_ rfl Ge;exact@JfX _ _ _ _ _ _ _ _ _ _ C JI Ab HU rfl;exact@lOne _ _ _ _ _ _ _ _ _ C Ab;refine@Jy _ _ _ _ _ _ _ _ ?_ ?_;refine@aSet _ _ _ _ _ _ _ _ _ _ _ _ _ C Ab ?_ rfl rfl;refine@eAdd _ _ _ _ _ _ _ ?_ ?_;refine@eMul _ _ _ _ _ _ _ ?_ JI;refine@cF _ _ _ _ _ _ _ _ _ _ _ C _ (E.f 29 rfl) Ab ?_ rfl rfl;refine@Jb _ _ _ _ _ _ ?_ ?_ rfl;exact vV C Ab;refine@Jb _ _ _ _ _ _ ?_ Jt rfl;refine@eAdd _ _ _ _ _ _ _ JI ?_;exact vV C Ab;refine@cF _ _ _ _ _ _ _ _ _ _ _ C _ (E.f 30 rfl) Ab ?_ rfl rfl;refine@Jb _ _ _ _ _ _ ?_ ?_ rfl;exact vV C Ab;refine@Jb _ _ _ _ _ _ ?_ (@Jb _ _ _ _ _ _ JI Jt rfl) rfl;refine@eAdd _ _ _ _ _ _ _ JI ?_;exact vV C Ab;refine@Jy _ _ _ _ _ _ _ _ ?_ ?_;refine@aApp _ _ _ _ _ _ _ _ _ _ _ _ _ _ _ C Ab ?_ rfl rfl rfl;refine@cF _ _ _ _ _ _ _ _ _ _ _ C _ (E.f 36 rfl) Ab ?_ rfl rfl;refine@Jb _ _ _ _ _ _ ?_ ?_ rfl;exact vV C Ab;refine@Jb _ _ _ _ _ _ ?_ (@Jb _ _ _ _ _ _ Jo Jt rfl) rfl;exact vV C Ab;refine@Jy _ _ _ _ _ _ _ _ ?_ ?_;refine@aSet _ _ _ _ _ _ _ _ _ _ _ _ _ C Ab ?_ rfl rfl;refine@cF _ _ _ _ _ _ _ _ _ _ _ C _ (E.f 30 rfl) Ab ?_ rfl rfl;refine@Jb _ _ _ _ _ _ ?_ ?_ rfl;exact vV C Ab;refine@Jb _ _ _ _ _ _ ?_ ?_ rfl;refine@eAdd _ _ _ _ _ _ _ JI ?_;exact vV C Ab;refine@Jb _ _ _ _ _ _ ?_ Jt rfl;refine@cLen _ _ _ _ _ _ _ _ _ C HU ?_ Ab rfl;exact vV C Ab;refine@Jy _ _ _ _ _ _ _ _ ?_ ?_;refine@aSet _ _ _ _ _ _ _ _ _ _ _ _ _ C Ab ?_ rfl rfl;refine@iH _ _ _ _ _ _ _ _ _ _ ?_ ?_ ?_;exact vV C Ab;refine@qF _ _ _ _ ?_;exact vV C Ab;refine@qF _ _ _ _ ?_;refine@eAdd _ _ _ _ _ _ _ ?_ JI;exact vV C Ab;refine@Jy _ _ _ _ _ _ _ _ ?_ ?_;refine@aApp _ _ _ _ _ _ _ _ _ _ _ _ _ _ _ C Ab ?_ rfl rfl rfl;refine@nS _ _ _ _ _ _ _ _ _ ?_ rfl rfl rfl;refine@eAdd _ _ _ _ _ _ _ ?_ ?_;refine@iH _ _ _ _ _ _ _ _ _ _ ?_ yI ?_;exact vV C Ab;refine@qF _ _ _ _ ?_;exact vV C Ab;refine@iH _ _ _ _ _ _ _ _ _ _ ?_ ?_ yI;exact vV C Ab;refine@qF _ _ _ _ ?_;refine@eAdd _ _ _ _ _ _ _ ?_ JI;exact vV C Ab;refine@Jy _ _ _ _ _ _ _ _ ?_ ?_;refine@aApp _ _ _ _ _ _ _ _ _ _ _ _ _ _ _ C Ab ?_ rfl rfl rfl;refine@nS _ _ _ _ _ _ _ _ _ ?_ rfl rfl rfl;refine@eAdd _ _ _ _ _ _ _ ?_ ?_;refine@iH _ _ _ _ _ _ _ _ _ _ ?_ yI ?_;exact vV C Ab;refine@qF _ _ _ _ ?_;refine@eAdd _ _ _ _ _ _ _ ?_ JI;exact vV C Ab;refine@iH _ _ _ _ _ _ _ _ _ _ ?_ ?_ yI;exact vV C Ab;refine@qF _ _ _ _ ?_;exact vV C Ab;refine@tG _ _ _ _ _ _ ?_;refine@aApp _ _ _ _ _ _ _ _ _ _ _ _ _ _ _ C Ab ?_ rfl rfl rfl;refine@nS _ _ _ _ _ _ _ _ _ ?_ rfl rfl rfl;refine@eAdd _ _ _ _ _ _ _ ?_ ?_;refine@eAdd _ _ _ _ _ _ _ ?_ ?_;refine@iH _ _ _ _ _ _ _ _ _ _ ?_ yI ?_;exact vV C Ab;refine@qF _ _ _ _ ?_;exact vV C Ab;refine@eRev _ _ _ _ _ _ _ _ ?_ (@JqT _ _ _ _ _ JI) Ge;exact vV C Ab;refine@iH _ _ _ _ _ _ _ _ _ _ ?_ ?_ yI;exact vV C Ab;refine@qF _ _ _ _ ?_;refine@eAdd _ _ _ _ _ _ _ ?_ JI;exact vV C Ab;refine@Jy _ _ _ _ _ _ _ _ ?_ ?_;refine@Jrq _ _ _ _ _ _ _ _ _ _ _ _ _ _ _ C j.pass ?_ ?_ ?_ Ge;refine@kT _ _ _ _ _ _ ?_;exact vV C Ab;exact@lOne _ _ _ _ _ _ _ _ _ C Ab;refine@Jy _ _ _ _ _ _ _ _ ?_ ?_;refine@aSet _ _ _ _ _ _ _ _ _ _ _ _ _ C Ab ?_ rfl rfl;refine@Jvc _ _ _ _ _ _ _ _ _ _ _ _ _ _ [0,1,2,3,4,5,6,7,8,10,11,12] _ _ C L bE o Ab Ab Ab ?_ NB rfl rfl;intro _ _ i f;refine cRs (R:=R) (fi:=vST) i ?_ Ab Ab ?_ ?_ Ab Ab ?_;exact EnvR.q_rs bQ;exact Env.f (EnvR.e bQ) 26 rfl;exact EnvR.V_rs bQ;refine@Jb _ _ _ _ _ _ ?_ Jt rfl;exact vV i Ab;refine@tG _ _ _ _ _ _ ?_;refine@mS _ _ _ _ _ _ _ _ _ _ _ ?_ ?_ sI;refine@PW.pt _ _ _ ?_;refine@Jvg _ _ _ _ _ _ _ _ ?_ ?_;refine@tNe _ _ _ _ _ _ _ _ _ _ C ?_ ?_;exact vV C Ab;exact vV C Ab;refine@sT _ _ _ _ _ _ ?_;refine@PW.pt _ _ _ ?_;refine@mY _ _ _ _ _ _ _ _ ?_ ?_;refine@tNe _ _ _ _ _ _ _ _ _ _ C ?_ Jo;exact vV C Ab;refine@sT _ _ _ _ _ _ ?_;refine@tEq _ _ _ _ _ _ _ _ _ _ C ?_ ?_;exact vV C Ab;exact vV C Ab;exact@tG _ _ _ _ _ _ (@rK _ _ _ _ _ _ _ zM);refine@Jy _ _ _ _ _ _ _ _ ?_ ?_;refine@aSet _ _ _ _ _ _ _ _ _ _ _ _ _ C Ab ?_ rfl rfl;refine@JW _ _ _ _ ?_ rfl;refine@wB _ _ _ _ _ ?_;refine@Jb _ _ _ _ _ _ Jo ?_ rfl;refine@Jb _ _ _ _ _ _ Jo ?_ rfl;exact@Jb _ _ _ _ _ _ Jo (@Jb _ _ _ _ _ _ Jo Jt rfl) rfl;refine@Jy _ _ _ _ _ _ _ _ ?_ ?_;refine@mS _ _ _ _ _ _ _ _ _ _ _ ?_ ?_ sI;refine@tNe _ _ _ _ _ _ _ _ _ _ C ?_ ?_;refine@JW _ _ _ _ ?_ rfl;refine@Jub _ _ _ _ _ _ _ _ _ _ _ _ _ _ _ C Ab ?_ ?_ (λ_ b=>JhL) ?_ Ge;refine@kT _ _ _ _ _ _ ?_;exact vV C Ab;exact(λ_ b=>gOne b Ab);intro _ b;refine cRs (R:=R) (fi:=vST) b E.q_rs Ab Ab IM E.V_rs Ab Ab ?_;refine@Jb _ _ _ _ _ _ ?_ Jt rfl;exact vV b Ab;exact vV C Ab;exact@tG _ _ _ _ _ _ (@rK _ _ _ _ _ _ _ zM);refine@Jy _ _ _ _ _ _ _ _ ?_ ?_;refine@aOwn _ _ _ _ _ _ _ _ _ _ _ _ _ C Ab ?_ rfl;refine@wB _ _ _ _ _ ?_;refine@Jb _ _ _ _ _ _ Jo ?_ rfl;refine@Jb _ _ _ _ _ _ Jo ?_ rfl;refine@Jb _ _ _ _ _ _ Jo ?_ rfl;refine@Jb _ _ _ _ _ _ Jo ?_ rfl;refine@Jb _ _ _ _ _ _ Jo ?_ rfl;refine@Jb _ _ _ _ _ _ Jo ?_ rfl;refine@Jb _ _ _ _ _ _ Jo ?_ rfl;exact@Jb _ _ _ _ _ _ Jo (@Jb _ _ _ _ _ _ Jo Jt rfl) rfl;refine@Jy _ _ _ _ _ _ _ _ ?_ ?_;refine@aExt _ _ _ _ _ _ _ _ _ _ _ _ _ _ _ C Ab ?_ rfl rfl rfl;refine@JW _ _ _ _ ?_ rfl;refine@wB _ _ _ _ _ ?_;refine@Jb _ _ _ _ _ _ Jo ?_ rfl;exact@Jb _ _ _ _ _ _ Jo (@Jb _ _ _ _ _ _ Jo Jt rfl) rfl;refine@Jy _ _ _ _ _ _ _ _ ?_ ?_;refine@aExt _ _ _ _ _ _ _ _ _ _ _ _ _ _ _ C Ab ?_ rfl rfl rfl;refine@JW _ _ _ _ ?_ rfl;refine@wB _ _ _ _ _ ?_;refine@Jb _ _ _ _ _ _ Jo ?_ rfl;refine@Jb _ _ _ _ _ _ Jo ?_ rfl;refine@Jb _ _ _ _ _ _ Jo ?_ rfl;refine@Jb _ _ _ _ _ _ Jo ?_ rfl;exact@Jb _ _ _ _ _ _ Jo (@Jb _ _ _ _ _ _ Jo Jt rfl) rfl;refine@Jy _ _ _ _ _ _ _ _ ?_ ?_;refine@aExt _ _ _ _ _ _ _ _ _ _ _ _ _ _ _ C Ab ?_ rfl rfl rfl;refine@JW _ _ _ _ ?_ rfl;refine@wB _ _ _ _ _ ?_;refine@Jb _ _ _ _ _ _ Jqp ?_ rfl;refine@Jb _ _ _ _ _ _ JI ?_ rfl;refine@Jb _ _ _ _ _ _ ?_ Jt rfl;exact@Jqw _ _ _ _ _ _ (@Jb _ _ _ _ _ _ Jo Jt rfl);refine@Jy _ _ _ _ _ _ _ _ ?_ ?_;refine@aExt _ _ _ _ _ _ _ _ _ _ _ _ _ _ _ C Ab ?_ rfl rfl rfl;refine@JW _ _ _ _ ?_ rfl;refine@wB _ _ _ _ _ ?_;refine@Jb _ _ _ _ _ _ Jo ?_ rfl;refine@Jb _ _ _ _ _ _ Jo ?_ rfl;exact@Jb _ _ _ _ _ _ Jo (@Jb _ _ _ _ _ _ Jo Jt rfl) rfl;refine@tG _ _ _ _ _ _ ?_;refine@rK _ _ _ _ _ _ _ ?_;refine@eEq _ _ _ _ _ _ _ _ _ _ C ?_ ?_;refine@JW _ _ _ _ ?_ rfl;refine Jwi C Ab ?_ ?_ (λ_ b=>JhL) ?_;refine@kT _ _ _ _ _ _ ?_;exact vV C Ab;exact(λ_ b=>gOne b Ab);intro _ b S;refine@Jvc _ _ _ _ _ _ _ _ _ _ _ _ _ _ [1,2,3,4,5,6,7,8,9,10,11,12,13] _ _ b (L.sib S) bE o Ab Ab Ab ?_ NB rfl rfl;intro _ _ i f;refine cRb (R:=R) i ?_ ?_ Ab Ab ?_;exact EnvR.q_rs bQ;exact EnvR.V_rb bQ;refine@Jb _ _ _ _ _ _ ?_ Jt rfl;exact vV i Ab;refine@eRep _ _ _ _ _ _ _ rfl ?_ JI;exact@wB _ _ _ _ _ (@Jb _ _ _ _ _ _ Jo Jt rfl)
def Jvu(C:Ctx X G [Er] (Ja Jhr).names):PSs X (Jp Jhr) (JpQ X.K):=gH (iT ((lI Ab).pe C) Jjj rfl) (gH (iT ((lI Ab).pe C) (Jhq _) rfl) (lL (iT ((lI Ab).pe C) (Jhq _) rfl)))
end
noncomputable abbrev TT:List DefE:=[(Sb,JeT,[NH])]
noncomputable abbrev TL:List DefE:=[((oS "law"),uS,[BZ])]
noncomputable abbrev TO:List DefE:=[(QbR,lW,[Sj,NH])]
noncomputable abbrev TR_:List DefE:=[(Qbh,jV,[Ca])]
def lu1{α}{u:List α}(h:u.length=1):∃a,u=[a]:=match u,h with|[a],_=>⟨a,rfl⟩
def lu2{α}{u:List α}(h:u.length=2):∃a b,u=[a,b]:=match u,h with|[a,b],_=>⟨a,b,rfl⟩
def lu3{α}{u:List α}(h:u.length=3):∃a b c,u=[a,b,c]:=match u,h with|[a,b,c],_=>⟨a,b,c,rfl⟩
def lu4{α}{u:List α}(h:u.length=4):∃a b c d,u=[a,b,c,d]:=match u,h with|[a,b,c,d],_=>⟨a,b,c,d,rfl⟩
def bndR:BsOk TR_:=⟨λ_ _ _ _ _ _ b a=>match b,a with|[_],_=>rfl,trivial⟩
def bndO:BsOk TO:=⟨λ_ _ _ _ _ _ b a=>match b,a with|[_,_],_=>rfl,trivial⟩
def tolS:ToldS JeT NH (oS "e") LM Qap:=⟨⟨_,_,_,_,_,_,_,_,_,_,rfl⟩,kF Ab,by decide+kernel,by decide+kernel,by decide+kernel,by decide+kernel,by decide+kernel⟩
def bndT:BsOk TT:=⟨λ_ _ _ _ _ _ b a=>match b,a with|[_],_=>rfl,trivial⟩
def bnd:BsOk T:=by
 repeat' apply mB
 all_goals first|exact jA|(intro _ _ _ _ _ _ b a;obtain⟨_,rfl⟩:=lu1 a;rfl)|(intro _ _ _ _ _ _ b a;obtain⟨_,_,rfl⟩:=lu2 a;rfl)|(intro _ _ _ _ _ _ b a;obtain⟨_,_,_,rfl⟩:=lu3 a;rfl)|(intro _ _ _ _ _ _ b a;obtain⟨_,_,_,_,rfl⟩:=lu4 a;rfl)
def JeY{U:Ae}{fi:Nat}{c m:Str}(h:CalleeP G U fi c m)(e:call2 fi=U fi):CalleeP G call2 fi c m:=⟨by obtain⟨f,a,i,b,j,z⟩:=h.ex;rw[show spI G.K G.mg U fi=spI G.K G.mg call2 fi by unfold spI;rw[e]]at z;exact⟨f,a,i,b,j,z⟩⟩
def Jsz{U:Ae}{fi:Nat}{x:Str}{cs:Ag}(h:Nf)(e:call2 fi=U fi):Told G call2 x fi cs:=⟨by obtain⟨s,f,t,r,o,m,j,i,l,q,a,b,z⟩:=h.ex;rw[show spI G.K G.mg U fi=spI G.K G.mg call2 fi by unfold spI;rw[e]]at z;exact⟨s,f,t,r,o,m,j,i,l,q,a,b,z⟩⟩
def Jwj{U:Ae}(E:Env G U)(h:∀n,n<900->call2 n=U n):Env G call2:={E with
 f:=λi a=>λz=>(E.f i z).to (h i (by cases q:T[i]? with|none=>(rw[q]at z;cases z)|some e=>exact Zw (ZB.mp q).1 Ax))
 p_table_of:=JeY E.p_table_of (h _ Ax)
 p_names:=JeY E.p_names (h _ Ax)
 o_told:=Jsz bE (h _ Ax)}
def Jsp{U:Ae}(E:fM)(h:∀n,n<900->call2 n=U n):EnvB G call2 bc:=⟨Jwj E.toEnv h,E.m_set_table,E.m_do_step,E.m_put,E.m_take,E.m_mount⟩
section
variable{P:Bk}
noncomputable abbrev cl:List Str:=cl9
def bndM:BmOk TM:=by
 repeat' apply mB
 all_goals first|exact jA|(intro _ _ _ _ _ _ b a;obtain⟨_,rfl⟩:=lu1 a;rfl)|(intro _ _ _ _ _ _ b a;obtain⟨_,_,rfl⟩:=lu2 a;rfl)|(intro _ _ _ _ _ _ b a;obtain⟨_,_,_,rfl⟩:=lu3 a;rfl)|(intro _ _ _ _ _ _ b a;obtain⟨_,_,_,_,rfl⟩:=lu4 a;rfl)
def bndP:BmOk TP:=by
 repeat' apply mB
 all_goals first|exact jA|(intro _ _ _ _ _ _ b a;obtain⟨_,rfl⟩:=lu1 a;rfl)|(intro _ _ _ _ _ _ b a;obtain⟨_,_,rfl⟩:=lu2 a;rfl)|(intro _ _ _ _ _ _ b a;obtain⟨_,_,_,rfl⟩:=lu3 a;rfl)|(intro _ _ _ _ _ _ b a;obtain⟨_,_,_,_,rfl⟩:=lu4 a;rfl)
variable(hT:HasD K mg T)(hB:BlN mg B_)
 (y0:∃u,mg Ks=So u/\∃v,RelV v u/\∀H,Rep K H QaX v)
 (y1:∃u,mg Ts=So u/\∃v,RelV v u/\∀H,Rep K H cT v)
 (y2:∃u,mg Tp=So u/\∃v,RelV v u/\∀H,Rep K H cT v)
 (y3:∃u,mg SA=So u/\∃v,RelV v u/\∀H,Rep K H QcP v)
 (y4:∃u,mg Sd=So u/\∃v,RelV v u/\∀H,Rep K H cU v)
 (y5:∃u,mg Sy=So u/\∃v,RelV v u/\∀H,Rep K H cU v)
 (y6:∃u,mg T9=So u/\∃v,RelV v u/\∀H,Rep K H Iu v)
 (y7:∃u,mg IP=So u/\∃v,RelV v u/\∀H,Rep K H (.tup L7) v)
 (y8:∃u,mg Sw=So u/\∃v,RelV v u/\∀H,Rep K H QaW v)
 (xx0:∀A,ExcC An Co)
 (xx1:∀A,ExcC An G5)
 (xx2:∀A,ExcC An Cp)
 (xt0:∀A,Takes An LM cl)
 (xi0:∀A,IsaC An DD cl)
 (xi1:∀A,IsaC An DF cl)
 (xi2:∀A,IsaC An DB cl)
 (xi3:∀A,IsaC An DC cl)
 (xi4:∀A,IsaC An DA cl)
 (xi5:∀A,IsaC An Co cl)
 (xi6:∀A,IsaC An G5 cl)
 (xi7:∀A,IsaC An Dz cl)
 (xi8:∀A,IsaC An Cp cl)
 (xi9:∀A,IsaC An Fl cl)
 (hD:HasD K mg TT)
 {C:Addr} (cl_:b9) (hC:PySem.W.nsIn K mainGlobals (oS "Site")=So Bv) (hM:HasM K C TM) (hP:HasM K C TP) (hF:∀A,∀f∈nsS,FldC An f)
include hT hB y0 y1 y2 y3 y4 y5 y6 y7 y8 xx0 xx1 xx2 xt0 xi0 xi1 xi2 xi3 xi4 xi5 xi6 xi7 xi8 xi9 hD cl_ hC hM hP hF
theorem Jsh:∀k A,Told An B1 Sb 34 cl:=by
 intro k A;obtain⟨f,g,D⟩:=hD.1;obtain⟨i,h,a⟩:=JfC hT (j:=34) rfl;refine Jrt D tolS (xt0 A) a ?_;cases k with
 |zero=>exact JpG
 |succ k=>exact foN (b:=oW) a λC=>Jdg ⟨jZ 3 hB rfl,xi0 _,xi1 _,xi2 _,xi3 _,xi4 _,xi5 _,xi6 _,xi7 _,xi8 _,xi9 _⟩ C
structure AllOk(P:Bk)(w:Bc)(K:Ak)(mg:Bf)(base:Heap)(C:Addr)(k:Nat):Prop where
 d:OkD P w K mg base defs k 0 T
 p:OkP P w K mg base defs C k 37 TP
 m:OkM P w K mg base defs bdefs C k 0 TM
theorem Jvk(o:PM)(A:Bg)(a:KZ):Env An B1:=by have p:∀j e,TP[j]? =So e->CalleeP An B1 (37+j) Dm e.1:=λj e h=>Jfc cl_ (by rw[clS];exact hC) a hP o.p h;exact⟨λi _ h=>(by obtain⟨e,b,rfl⟩:=qX.mp h;exact Jmz hT o.d a i b),hB,(by obtain⟨u,e,v,r,g⟩:=y0;exact D8),(by obtain⟨u,e,v,r,g⟩:=y1;exact D8),(by obtain⟨u,e,v,r,g⟩:=y2;exact D8),(by obtain⟨u,e,v,r,g⟩:=y3;exact D8),(by obtain⟨u,e,v,r,g⟩:=y4;exact D8),(by obtain⟨u,e,v,r,g⟩:=y5;exact D8),(by obtain⟨u,e,v,r,g⟩:=y6;exact D8),(by obtain⟨u,e,v,r,g⟩:=y7;exact D8),(by obtain⟨u,e,v,r,g⟩:=y8;exact D8),xx0 A,xx1 A,xx2 A,xt0 A,xi0 A,xi1 A,xi2 A,xi3 A,xi4 A,xi5 A,xi6 A,xi7 A,xi8 A,xi9 A,hF A _ (by simp[nsS]),hF A _ (by simp[nsS]),hF A _ (by simp[nsS]),p 0 _ rfl,p 1 _ rfl,Jsh (base:=base) hT hB y0 y1 y2 y3 y4 y5 y6 y7 y8 xx0 xx1 xx2 xt0 xi0 xi1 xi2 xi3 xi4 xi5 xi6 xi7 xi8 xi9 hD cl_ hC hM hP hF k A⟩
theorem Jqq(o:PM)(A:Bg)(a:KZ):EnvB An B1 BY:=by
 have b:PySem.W.nsIn K mainGlobals Dm=So Bv:=by rw[clS];exact hC
 have m:∀j e,TM[j]? =So e->CalleeB An BY (0+j) Dm e.1:=λj e h=>JeK cl_ b a hM o.m h;exact⟨Jvk hT hB y0 y1 y2 y3 y4 y5 y6 y7 y8 xx0 xx1 xx2 xt0 xi0 xi1 xi2 xi3 xi4 xi5 xi6 xi7 xi8 xi9 hD cl_ hC hM hP hF o A a,m 0 _ rfl,m 1 _ rfl,m 2 _ rfl,m 3 _ rfl,m 4 _ rfl⟩
theorem JwK:∀k,AllOk P w K mg base C k:=by
 intro k;induction k with
 |zero=>exact⟨JjA _ _,JiS _ _,Jiu _ _⟩
 |succ k j=>have h:=Jqq hT hB y0 y1 y2 y3 y4 y5 y6 y7 y8 xx0 xx1 xx2 xt0 xi0 xi1 xi2 xi3 xi4 xi5 xi6 xi7 xi8 xi9 hD cl_ hC hM hP hF j;have E:∀A,Room Dw A->Env An B1:=λA i=>(h A i).toEnv;exact⟨foAll E T NL 0 (λe=>(dAll.1 e).1) Ab,⟨foP (N:=NP.getD 0 []) (M:=[]) (b:=xP) E λe=>(dAll.1 e).2.1,foP (N:=NP.getD 1 []) (M:=[]) (b:=lV) E λe=>(dAll.1 e).2.2.1,trivial⟩,⟨foB (N:=NM_.getD 0 []) (b:=sP) h λe C f a=>(dAll.2 e a).1 C f,foB (N:=NM_.getD 1 []) (b:=gW) h λe C f a=>(dAll.2 e a).2.1 C f,foB (N:=NM_.getD 2 []) (b:=uT) h λe C f a=>(dAll.2 e a).2.2.1 C f,foB (N:=NM_.getD 3 []) (b:=jU) h λe C f a=>(dAll.2 e a).2.2.2.1 C f,foB (N:=NM_.getD 4 []) (b:=pV) h λe C f a=>(dAll.2 e a).2.2.2.2.1 C f,trivial⟩⟩
theorem all2(k:Nat):∀A,Room Dw A->EnvB An B1 BY:=Jqq hT hB y0 y1 y2 y3 y4 y5 y6 y7 y8 xx0 xx1 xx2 xt0 xi0 xi1 xi2 xi3 xi4 xi5 xi6 xi7 xi8 xi9 hD cl_ hC hM hP hF (JwK hT hB y0 y1 y2 y3 y4 y5 y6 y7 y8 xx0 xx1 xx2 xt0 xi0 xi1 xi2 xi3 xi4 xi5 xi6 xi7 xi8 xi9 hD cl_ hC hM hP hF k)
end
noncomputable abbrev csP:List (Addr×Addr):=[QcW,QcX]
noncomputable def tqs:Addr->Option Str:=λp=>if p=558 then So ((oS "law")++".<locals>."++"<lambda>")else if p=539 then So ((oS "_law_did")++".<locals>."++"<lambda>")else No
theorem JwD:∀p q,tqs p=So q->∃c,(c,p)∈csP:=λp q z=>by
 unfold tqs at z
 split at z
 ·rename_i e;subst e;exact⟨560,by simp⟩
 ·split at z
  ·rename_i e;subst e;exact⟨543,by simp⟩
  ·cases z
theorem Jue{l:QdH}{h:Heap}{fa:Addr}(X:K.In h)(G:SO)(hfa:mg "law"=So (.ref fa))(dT:DsIn K T)(dL:DsIn K TL)(dD:DsIn K TT)(dO:DsIn K TO)(dR:DsIn K TR_)(ht:PySem.W.tabIn K "_law_did"=So QcW)(ht2:PySem.W.tabIn K "law"=So QcX)(dB:BlIn K B_)
  {t0:Tok} (y0:PySem.W.nsIn K mainGlobals Ks=So (So (.str Le t0)))
  {t1:Tok} (y1:PySem.W.nsIn K mainGlobals Ts=So (So (.int 4 t1)))
  {t2:Tok} (y2:PySem.W.nsIn K mainGlobals Tp=So (So (.int 4 t2)))
  {t3:Tok} (y3:PySem.W.nsIn K mainGlobals SA=So (So (.int 6 t3)))
  {t4:Tok} (y4:PySem.W.nsIn K mainGlobals Sd=So (So (.int 8 t4)))
  {t5:Tok} (y5:PySem.W.nsIn K mainGlobals Sy=So (So (.int 8 t5)))
  {ya6:Addr} {yn6:Nat} {ys6:Ff} {t6_0 t6_1 t6_2:Tok} (y6:PySem.W.nsIn K mainGlobals T9=So (So (.ref ya6))) (v6:K.lookup ya6=So ⟨.type "tuple",No,.seq #[.str IF t6_0,.str Ma t6_1,.str Yb t6_2] yn6,ys6⟩)
  {ya7 ya7_0 ya7_1 ya7_2:Addr} {yn7 yn7_0 yn7_1 yn7_2:Nat} {ys7 ys7_0 ys7_1 ys7_2:Ff} {t7_0_0 t7_0_1 t7_1_0 t7_1_1 t7_2_0 t7_2_1:Tok} (y7:PySem.W.nsIn K mainGlobals IP=So (So (.ref ya7))) (v7:K.lookup ya7=So ⟨.type "tuple",No,.seq #[.ref ya7_0,.ref ya7_1,.ref ya7_2] yn7,ys7⟩) (v7_0:K.lookup ya7_0=So ⟨.type "tuple",No,.seq #[.str IF t7_0_0,.str QcS t7_0_1] yn7_0,ys7_0⟩) (v7_1:K.lookup ya7_1=So ⟨.type "tuple",No,.seq #[.str Ma t7_1_0,.str QcT t7_1_1] yn7_1,ys7_1⟩) (v7_2:K.lookup ya7_2=So ⟨.type "tuple",No,.seq #[.str Yb t7_2_0,.str QcU t7_2_1] yn7_2,ys7_2⟩)
  {t8:Tok} (y8:PySem.W.nsIn K mainGlobals Sw=So (So (.str Lf t8)))
  {x o y B I u q U F m:Addr}
  (ec_BadLead:PySem.W.nsIn K mainGlobals DD=So (So Ck))
  (ec_BadValues:PySem.W.nsIn K mainGlobals DF=So (So (.ref o)))
  (ec_NoBack:PySem.W.nsIn K mainGlobals DB=So Qdt)
  (ec_NoHole:PySem.W.nsIn K mainGlobals DC=So (So (.ref B)))
  (ec_NoRow:PySem.W.nsIn K mainGlobals DA=So (So QcN))
  (Y:PySem.W.nsIn K mainGlobals Co=So (So (.ref u)))
  (W:PySem.W.nsIn K mainGlobals G5=So (So (.ref q)))
  (ec_RouteError:PySem.W.nsIn K mainGlobals LM=So (So (.ref U)))
  (ec_Taken:PySem.W.nsIn K mainGlobals Dz=So (So (.ref F)))
  (O:PySem.W.nsIn K mainGlobals Cp=So (So (.ref m)))
  (xc_NoSite:PySem.W.excIn K u U7 "ValueError.__new__"=To)
  (xc_NoText:PySem.W.excIn K q U7 "ValueError.__new__"=To)
  (xc_TooMany:PySem.W.excIn K m U7 "ValueError.__new__"=To)
  (gX:exB K Va=To)
  (gR_RouteError:takB K U Va=To)
  (gI:kitB K [(DD,.ref x),(DF,.ref o),(DB,.ref y),(DC,.ref B),(DA,.ref I),(Co,.ref u),(G5,.ref q),(Dz,.ref F),(Cp,.ref m),(Fl,.type "ValueError")] Va=To)
  {C:Addr} (aC:PySem.W.nsIn K mainGlobals (oS "Site")=So Bv) (pg:PySem.W.plainGet K C YM=To) (hd:PySem.W.hasDictIn K C=To) (po:PySem.W.plainOver K C=To) (sa:PySem.W.findIn K AV "__setattr__"=So UU) (mk:PySem.W.makesIn K C=To) (kc:PySem.W.keepIn K AV=To)
  (n1:PySem.W.findIn K AV L9=So No) (n2:PySem.W.findIn K AV E1=So No) (n3:PySem.W.findIn K AV E8=So No) (zB:PySem.W.nsIn K mainGlobals (oS "Board")=So No)
  (mI:∃f g,Fun K QbT (oS "Site.__init__") Jhr f g/\Meth K C QbT f) (mM:MsIn K C TM) (mP:MsIn K C TP)
  :∃fd:FuncData,(∀(s:Ao)(v:Am),BindsTo s fd ⟨[v],[]⟩ [(BZ,v)])/\∀base:Heap,K.In base->base.Ns mainGlobals mg->(∀c∈csP,LamB mg base c.1 c.2)->FnOk bT w K mg base Kq 42 fa fd [BZ] (pZ K tqs):=by
 have X0:∀base A,ExcC AK Co:=λbase A=>⟨⟨u,Y,ZI X G Y,_,_,_,_,xc_NoSite,hX⟩⟩;have X1:∀base A,ExcC AK G5:=λbase A=>⟨⟨q,W,ZI X G W,_,_,_,_,xc_NoText,hX⟩⟩;have X2:∀base A,ExcC AK Cp:=λbase A=>⟨⟨m,O,ZI X G O,_,_,_,_,xc_TooMany,hX⟩⟩;have T0:∀base A,Takes AK LM cl:=λbase A=>by have z:=Jpa (G:=AK) X G gX gR_RouteError (ZI X G ec_RouteError);exact z
 have I0:∀base A,IsaC AK DD cl:=λbase A=>by have z:=nE (G:=AK) (t:=DD) (v:=.ref x) gI gX rfl (.inl (ZI X G ec_BadLead)) QaN;exact z
 have I1:∀base A,IsaC AK DF cl:=λbase A=>by have z:=nE (G:=AK) (t:=DF) (v:=.ref o) gI gX rfl (.inl (ZI X G ec_BadValues)) (.tail _ QaN);exact z
 have I2:∀base A,IsaC AK DB cl:=λbase A=>by have z:=nE (G:=AK) (t:=DB) (v:=.ref y) gI gX rfl (.inl (ZI X G ec_NoBack)) Vg;exact z
 have I3:∀base A,IsaC AK DC cl:=λbase A=>by have z:=nE (G:=AK) (t:=DC) (v:=.ref B) gI gX rfl (.inl (ZI X G ec_NoHole)) (.tail _ Vg);exact z
 have I4:∀base A,IsaC AK DA cl:=λbase A=>by have z:=nE (G:=AK) (t:=DA) (v:=.ref I) gI gX rfl (.inl (ZI X G ec_NoRow)) Tu;exact z
 have I5:∀base A,IsaC AK Co cl:=λbase A=>by have z:=nE (G:=AK) (t:=Co) (v:=.ref u) gI gX rfl (.inl (ZI X G Y)) (.tail _ Tu);exact z
 have I6:∀base A,IsaC AK G5 cl:=λbase A=>by have z:=nE (G:=AK) (t:=G5) (v:=.ref q) gI gX rfl (.inl (ZI X G W)) X4;exact z
 have I7:∀base A,IsaC AK Dz cl:=λbase A=>by have z:=nE (G:=AK) (t:=Dz) (v:=.ref F) gI gX rfl (.inl (ZI X G ec_Taken)) Kp;exact z
 have I8:∀base A,IsaC AK Cp cl:=λbase A=>by have z:=nE (G:=AK) (t:=Cp) (v:=.ref m) gI gX rfl (.inl (ZI X G O)) (.tail _ Kp);exact z
 have I9:∀base A,IsaC AK Fl cl:=λbase A=>by have z:=nE (G:=AK) (t:=Fl) (v:=.ty "ValueError") gI gX rfl (.inr ⟨jZ 0 (nY X G dB) rfl,by decide+kernel,by decide+kernel⟩) (.tail _ (.tail _ Kp));exact z
 have cl_:Cls K C:=⟨pg,hd,po,sa⟩;have hF:∀base A,∀f∈nsS,FldC AK f:=λbase A f hf=>by
  simp only[nsS,Ze,ZK,lA]at hf;rcases hf with rfl|rfl|rfl
  ·exact Jfw zB aC cl_ n1 A
  ·exact Jfw zB aC cl_ n2 A
  ·exact Jfw zB aC cl_ n3 A
 have hM:=Jie mM bndM;have hP:=Jie mP bndP;have hT:=rO X G dT bnd;have hD:=rO X G dD bndT;obtain⟨⟨fL,gL,L⟩,_⟩:=dL;have e:=hfa.symm.trans (ZI X G L.a);cases e;obtain⟨⟨fO,gO,DO⟩,_⟩:=rO X G dO bndO;have hcode:gO.code=.ref 543:=by obtain⟨_,_,_,_,_,_,_,_,_,_,lk,_⟩:=DO.F.ex;exact PySem.W.law_code X G ht DO.g (X _ _ lk) rfl
 have hcodeL:gL.code=.ref 560:=by obtain⟨_,_,_,_,_,_,_,_,_,_,lk,_⟩:=L.F.ex;exact PySem.W.law_code X G ht2 hfa (X _ _ lk) rfl
 refine⟨gL,?_,λbase _ _ LBs=>?_⟩
 ·obtain⟨_,_,kV,doc,pm,an,cdv,ct,_,e,_⟩:=L.F.ex;subst e;exactλs v=>.of_eq rfl
 ·have LB:=LBs QcW Af;have LB2:=LBs QcX Af;have Z9:=all2 (P:=bT) (w:=w) (base:=base) hT (nY X G dB) ⟨_,ZI X G y0,.str Le,Au,λH=>rfl⟩ ⟨_,ZI X G y1,.int 4,Au,λH=>rfl⟩ ⟨_,ZI X G y2,.int 4,Au,λH=>rfl⟩ ⟨_,ZI X G y3,.int 6,Au,λH=>rfl⟩ ⟨_,ZI X G y4,.int 8,Au,λH=>rfl⟩ ⟨_,ZI X G y5,.int 8,Au,λH=>rfl⟩ ⟨_,ZI X G y6,.ref ya6,rfl,λH=>Rd.oN (.inl y6) (J:=[ID,L6,GD]) (xs:=[.str IF,.str Ma,.str Yb]) v6 Af (.cons Au LR) (λH=>⟨_,_,rfl,rfl,X8⟩) H⟩ ⟨_,ZI X G y7,.ref ya7,rfl,λH=>Rd.oN (.inl y7) (J:=L7) (xs:=[.ref ya7_0,.ref ya7_1,.ref ya7_2]) v7 Af (.cons rfl (.cons rfl Nm)) (λH=>⟨_,_,rfl,(Rd.oN (.inr ⟨ya7,_,_,_,y7,v7,rfl,rfl,by simp⟩) (J:=[ID,(.str QcS)]) (xs:=[.str IF,.str QcS]) v7_0 Af LR Ka H),⟨_,_,rfl,(Rd.oN (.inr ⟨ya7,_,_,_,y7,v7,rfl,rfl,by simp⟩) (J:=[L6,(.str QcT)]) (xs:=[.str Ma,.str QcT]) v7_1 Af LR Ka H),⟨_,_,rfl,(Rd.oN (.inr ⟨ya7,_,_,_,y7,v7,rfl,rfl,by simp⟩) (J:=[GD,(.str QcU)]) (xs:=[.str Yb,.str QcU]) v7_2 Af LR Ka H),rfl⟩⟩⟩) H⟩ ⟨_,ZI X G y8,.str Lf,Au,λH=>rfl⟩ (X0 base) (X1 base) (X2 base) (T0 base) (I0 base) (I1 base) (I2 base) (I3 base) (I4 base) (I5 base) (I6 base) (I7 base) (I8 base) (I9 base) hD cl_ aC hM hP (hF base);have EB:=Z9 12;have EB2:=Z9 11;have hO:=foBL (k:=11) EB2 DO hcode LB (N:=JeQ) (b:=JR) (i:=5) λhr C hx La h0=>Jkn EB2 hr C hx La h0;obtain⟨fI,gI_,FI,mt_⟩:=mI;have hi:FnOk bT w K mg base Kq 1 fI gI_ [oS "self"] (spNS K):=Jpc FI (kF Ab) rfl (hF base) λX A C=>by have:=Jvu C;rw[C.K]at this;exact this
  have MS:∀A,Room 2 A->MakeS AK:=λA hr=>⟨⟨C,fI,gI_,_,⟨mk,mt_.at_,mt_.fn,kc⟩,hi,hr,ZI X G aC,aC,FI.binds λ_ _ _ _ _ _ us hl=>match us,hl with|[_],_=>rfl⟩⟩;obtain⟨⟨fR,gR_,DR⟩,_⟩:=rO X G dR bndR;have hR:FnOk bT w K mg base Kq 36 fR gR_ [Ca] (spQ K mg Rr):=fn_tp (λJ a h=>if_neg h) ((fn_rd (j:=35) (i:=iR) (b1:=sO) (b2:=iL) (k:=11) DR.F (kF (N:=JjN) Ab) rfl Ax λY9 A H0 C hr hx h0=>JnW (EB2 A LC) (MS A LC) C hx h0).imp λvs H Q E h=>by
   obtain⟨hl,h0,J,r,g⟩:=h;have hz:=Yx;refine⟨hl,h0,J,r,λa=>?_⟩;have g:=g a;rw[show Rr J a=runR R1 Q1 nR iR sO iL J a from if_pos 'c']at g;exact g)
  have ER:∀A,Room (3*12+2) A->EnvR AK Rl TX Rr:=λA hr=>⟨Jsp (EB A hr) λn h=>funext (mK n h),⟨⟨36,fR,gR_,_,hR,hr.in1.in1,DR.g,DR.F.kp,DR.b⟩⟩,λJ=>by rw[show(λd=>Rl vST [d])=λd=>runD defs 12 vST [d]from funext λd=>mK vST 'p' [d]];rfl,λ_=>rfl⟩;have EL:∀A,Room (3*12+5) A->EnvL AK Rl TX Rr 539 ((oS "_law_did")++".<locals>."++"<lambda>"):=λA hr=>⟨ER A LC,MS A LC,⟨⟨3*13,fO,gO,_,hO,hr.in1.in1,DO.g,DO.F.kp,DO.b⟩⟩⟩;exact JsA (j:=3*12+5) (t:=λX H0=>tLaw X H0 (RL Rl TX)) (P2:=539) L.F hcodeL LB2 rfl rfl (kF (N:=JvI) Ab) (M:=[]) Ax Ax (λX A H0 C hr hx La tb h0=>d_law (k:=12) ER hr (EL A hr) C hx La tb h0) λX H0 H Z D ns hK hl e hQ=>by subst hK;exact⟨_,e,JnX ns hl,hQ⟩
end K73
end _r
namespace PySem.W.Fast
theorem tw7973118723840467628:0=0:=rfl
theorem tw2964165081841920102:0=0:=rfl
theorem tw15867534596486431566:0=0:=rfl
theorem tw17509830334683427360:0=0:=rfl
theorem tw11867238341624147348:0=0:=rfl
theorem tw2772737197926428573:0=0:=rfl
theorem tw12510750879942589698:0=0:=rfl
theorem tw13197631361673788918:0=0:=rfl
theorem tw10642909387672957998:0=0:=rfl
theorem tw10813147690498830147:0=0:=rfl
theorem tw12136535808011552303:0=0:=rfl
theorem tw17124280623796598291:0=0:=rfl
theorem tw14121349705747033433:0=0:=rfl
theorem tw6651649982460850619:0=0:=rfl
theorem tw14664017485081968494:0=0:=rfl
theorem tw3123843003383101321:0=0:=rfl
theorem tw9338021846019092668:0=0:=rfl
theorem tw992709271833983550:0=0:=rfl
theorem tw1094279802379042657:0=0:=rfl
theorem tw1085243770075634976:0=0:=rfl
theorem tw6787885604005470680:0=0:=rfl
theorem tw4092818707280436906:0=0:=rfl
theorem tw2981107065556866524:0=0:=rfl
theorem tw10318070760021388564:0=0:=rfl
theorem tw5147017498429486303:0=0:=rfl
theorem tw11933621540935125745:0=0:=rfl
theorem tw3022928212219521323:0=0:=rfl
theorem tw2584265996897961645:0=0:=rfl
theorem tw12236542304620632547:0=0:=rfl
theorem tw13944525255713490773:0=0:=rfl
theorem tw9678855336505775420:0=0:=rfl
theorem tw15428027024811762333:0=0:=rfl
theorem tw2430329753034310473:0=0:=rfl
theorem tw13720649261405430018:0=0:=rfl
theorem tw14774155087573170988:0=0:=rfl
theorem tw5605184651642938142:0=0:=rfl
theorem tw4025077955825061117:0=0:=rfl
theorem tw17826074129798893509:0=0:=rfl
theorem tw8182544961440822003:0=0:=rfl
theorem tw2065386369235733353:0=0:=rfl
theorem tw12559356444160797079:0=0:=rfl
theorem tw6407966130400773585:0=0:=rfl
theorem tw15486917718502134433:0=0:=rfl
theorem tw8574104222635313094:0=0:=rfl
theorem tw4250283409174578968:0=0:=rfl
theorem tw7455624618195334739:0=0:=rfl
theorem tw17236646856574547921:0=0:=rfl
theorem tw2320740130188490008:0=0:=rfl
theorem tw13588884308107015657:0=0:=rfl
theorem tw12358738455932054448:0=0:=rfl
theorem tw1600408183864369864:0=0:=rfl
theorem tw9455906261366555564:0=0:=rfl
theorem tw14230149236348774124:0=0:=rfl
theorem tw5104540817560424371:0=0:=rfl
theorem tw4811077475101847584:0=0:=rfl
theorem tw14031919360254232105:0=0:=rfl
theorem tw16686283993610399657:0=0:=rfl
theorem tw17845001824858282812:0=0:=rfl
theorem tw5319136415297846034:0=0:=rfl
theorem tw10383780026570267524:0=0:=rfl
theorem tw8155261773947916695:0=0:=rfl
theorem tw6066040755379400965:0=0:=rfl
theorem tw231904408862533340:0=0:=rfl
theorem tw537738704935056428:0=0:=rfl
theorem tw13411070818388335830:0=0:=rfl
theorem tw15204372999259113611:0=0:=rfl
theorem tw55173917939850648:0=0:=rfl
theorem tw16401469362910701170:0=0:=rfl
theorem tw8440023026737331772:0=0:=rfl
theorem tw10825835493023674721:0=0:=rfl
theorem tw7791549913690495242:0=0:=rfl
theorem tw5822991027215846393:0=0:=rfl
theorem tw3746030529967442619:0=0:=rfl
theorem tw3528910870893797976:0=0:=rfl
theorem tw11571953670450023501:0=0:=rfl
theorem tw2283848634520257123:0=0:=rfl
theorem tw10372737452919714046:0=0:=rfl
theorem tw13713015522644491572:0=0:=rfl
theorem tw15831916997415486301:0=0:=rfl
theorem tw17244925512393824296:0=0:=rfl
theorem tw11676055529210378804:0=0:=rfl
theorem tw13242638484852062221:0=0:=rfl
theorem tw8545312579249122386:0=0:=rfl
theorem tw1704530528514528906:0=0:=rfl
theorem tw8001217042487239207:0=0:=rfl
theorem tw17404746955427652550:0=0:=rfl
theorem tw10536873502807817311:0=0:=rfl
theorem tw4874041416516407787:0=0:=rfl
theorem tw10905240490706133621:0=0:=rfl
theorem tw1005519748185548103:0=0:=rfl
theorem tw7099013594733203716:0=0:=rfl
theorem tw13366689104160648071:0=0:=rfl
theorem tw5066916556198544972:0=0:=rfl
theorem tw5708272040727863984:0=0:=rfl
theorem tw3087801757150646744:0=0:=rfl
theorem tw11083786363208299514:0=0:=rfl
theorem tw2110120663496487365:0=0:=rfl
theorem tw3617434012016279718:0=0:=rfl
theorem tw12704575346827776392:0=0:=rfl
theorem tw2332447563770735152:0=0:=rfl
theorem tw4275055107897311415:0=0:=rfl
theorem tw3623689844458530892:0=0:=rfl
theorem tw234112911918558487:0=0:=rfl
theorem tw17639031392954410715:0=0:=rfl
theorem tw16518136766706326366:0=0:=rfl
theorem tw10243172562752006497:0=0:=rfl
theorem tw18364828982066691665:0=0:=rfl
theorem tw7316944514049802015:0=0:=rfl
theorem tw16791533039042970106:0=0:=rfl
theorem tw14663381241412354368:0=0:=rfl
theorem tw14221640821758311390:0=0:=rfl
theorem tw16110184164398284600:0=0:=rfl
theorem tw12685673742702599645:0=0:=rfl
theorem tw4175736298107469956:0=0:=rfl
theorem tw9241580195988096152:0=0:=rfl
theorem tw12786705017331646004:0=0:=rfl
theorem tw16450506719853514701:0=0:=rfl
theorem tw3800956419981565932:0=0:=rfl
theorem tw4525346935863501458:0=0:=rfl
theorem tw9800854414489602503:0=0:=rfl
theorem tw11578855650539182175:0=0:=rfl
theorem tw14095463489608320132:0=0:=rfl
theorem tw15466061728768272913:0=0:=rfl
theorem tw5193830327875620466:0=0:=rfl
theorem tw15574161850335416492:0=0:=rfl
theorem tw15220862365789925431:0=0:=rfl
theorem tw6846162859206758394:0=0:=rfl
theorem tw309201419685842664:0=0:=rfl
theorem tw18048691671371566413:0=0:=rfl
theorem tw10868210691425983636:0=0:=rfl
theorem tw17895517670785524181:0=0:=rfl
theorem tw3313496352571981529:0=0:=rfl
theorem tw10257276031715441178:0=0:=rfl
theorem tw6529852242120355681:0=0:=rfl
theorem tw1911195252117520569:0=0:=rfl
theorem tw14810699510819953326:0=0:=rfl
theorem tw6074872663480586796:0=0:=rfl
theorem tw10698103728714038991:0=0:=rfl
theorem tw16876793230311588371:0=0:=rfl
theorem tw17648641753904925235:0=0:=rfl
theorem tw15631894706825662545:0=0:=rfl
theorem tw1104309494181224004:0=0:=rfl
theorem tw9887272349808854241:0=0:=rfl
theorem tw9018070736536996212:0=0:=rfl
theorem tw18161683025727201500:0=0:=rfl
theorem tw8270530629526707807:0=0:=rfl
theorem tw10073650855339258826:0=0:=rfl
theorem tw6348884072192743459:0=0:=rfl
theorem tw9767009104121602488:0=0:=rfl
theorem tw2841017431283942564:0=0:=rfl
theorem tw14953026077079099531:0=0:=rfl
theorem tw403582359478999722:0=0:=rfl
theorem tw14246109698710302808:0=0:=rfl
theorem tw14801303452474618820:0=0:=rfl
theorem tw8870505555459536820:0=0:=rfl
theorem tw10416114827207368438:0=0:=rfl
theorem tw3332154941226395374:0=0:=rfl
theorem tw13944663823383436340:0=0:=rfl
theorem tw7234791481054238755:0=0:=rfl
theorem tw13666686875559494184:0=0:=rfl
theorem tw2666635787392490587:0=0:=rfl
theorem tw10896525917010463254:0=0:=rfl
theorem tw7253079080763251100:0=0:=rfl
theorem tw756733086250680493:0=0:=rfl
theorem tw12339125872056046299:0=0:=rfl
theorem tw8890869383228843411:0=0:=rfl
theorem tw759050678377094575:0=0:=rfl
theorem tw13754388546044833229:0=0:=rfl
theorem tw309872009671178125:0=0:=rfl
theorem tw4158984344212127417:0=0:=rfl
end PySem.W.Fast
open PySem PySem.W PyProof.Rows _r
theorem PySem.Challenge.cw_routeboard_k73_whole_site_texts_spoilt_holds : PySem.Challenge.rw_routeboard_k73_whole_site_texts_spoilt.Holds := by
 w_on;o_law;k_head;(case hw=>w_witness2)
 k_fill
 refine Rd.Joj (l:=PySem.Challenge.rw_routeboard_k73_whole_site_texts_spoilt) (n:=63) (k:=42) (x:=(oS "_law_script")) (tq:=K73.tqs) (cs:=[(543,539),(560,558)]) (CX:=fun w=>Rd.CXr PySem.Challenge.rw_routeboard_k73_whole_site_texts_spoilt.prog w) (sp:=fun w=>Rd.pZ _ K73.tqs) rfl 'p' rfl ⟨rfl,by decide,by decide⟩ K73.JwD (fun w h Y=>⟨PySem.W.km_in_of Y,lJ.mpr ⟨PySem.W.km_tabs_of Y 539 'k',lJ.mpr ⟨PySem.W.km_tabs_of Y 558 'k',fun _ h=>nomatch h⟩⟩⟩) (fun _=>lJ.mpr ⟨by kernel_rfl,lJ.mpr ⟨by kernel_rfl,fun _ h=>nomatch h⟩⟩) (fun _=>lJ.mpr ⟨by kernel_rfl,lJ.mpr ⟨by kernel_rfl,fun _ h=>nomatch h⟩⟩) ?F (fun w H a ns hl hT hS=>⟨hT,a,ns,rfl,hS,hl,fun _=>rfl⟩) fun _ _ _ _ _ z=>Rd.noCX z
 case F=>
  intro w mg fa h KX G hmg
  refine' K73.Jue KX G hmg ?dT ?dL ?dD ?dO ?dR ?ht ?ht2 ?dB ?y0 ?y1 ?y2 ?y3 ?y4 ?y5 ?y6 ?v6 ?y7 ?v7 ?v7_0 ?v7_1 ?v7_2 ?y8 ?ec_BadLead ?ec_BadValues ?ec_NoBack ?ec_NoHole ?ec_NoRow ?ec_NoSite ?ec_NoText ?ec_RouteError ?ec_Taken ?ec_TooMany ?xc_NoSite ?xc_NoText ?xc_TooMany ?gX ?gR_RouteError ?gI ?aC ?pg ?hd ?po ?sa ?mk ?kc ?n1 ?n2 ?n3 ?zB ?mI ?mM ?mP
  (case dT=>(repeat' refine mB ⟨_,_,Rd.def_mk '^' '^' '^' '^'⟩ ?_);exact jA)
  (case dL=>(repeat' refine mB ⟨_,_,Rd.def_mk '^' '^' '^' '^'⟩ ?_);exact jA)
  (case dD=>(repeat' refine mB ⟨_,_,Rd.def_mk '^' '^' '^' '^'⟩ ?_);exact jA)
  (case dO=>(repeat' refine mB ⟨_,_,Rd.def_mk '^' '^' '^' '^'⟩ ?_);exact jA)
  (case dR=>(repeat' refine mB ⟨_,_,Rd.def_mk '^' '^' '^' '^'⟩ ?_);exact jA)
  (case ht=>kernel_rfl)
  (case ht2=>kernel_rfl)
  (case dB=>(repeat' refine mB '^' ?_);exact jA)
  (case y0=>k_is)
  (case y1=>k_is)
  (case y2=>k_is)
  (case y3=>k_is)
  (case y4=>k_is)
  (case y5=>k_is)
  (case y6=>k_is)
  (case v6=>k_is)
  (case y7=>k_is)
  (case v7=>k_is)
  (case v7_0=>k_is)
  (case v7_1=>k_is)
  (case v7_2=>k_is)
  (case y8=>k_is)
  (case ec_BadLead=>k_is)
  (case ec_BadValues=>k_is)
  (case ec_NoBack=>k_is)
  (case ec_NoHole=>k_is)
  (case ec_NoRow=>k_is)
  (case ec_NoSite=>k_is)
  (case ec_NoText=>k_is)
  (case ec_RouteError=>k_is)
  (case ec_Taken=>k_is)
  (case ec_TooMany=>k_is)
  (case xc_NoSite=>k_exc)
  (case xc_NoText=>k_exc)
  (case xc_TooMany=>k_exc)
  (case gX=>kernel_rfl)
  (case gR_RouteError=>kernel_rfl)
  (case gI=>kernel_rfl)
  (case aC=>k_is)
  (case pg=>k_is)
  (case hd=>k_is)
  (case po=>k_is)
  (case sa=>k_is)
  (case mk=>k_is)
  (case kc=>k_is)
  (case n1=>k_is)
  (case n2=>k_is)
  (case n3=>k_is)
  (case zB=>k_is)
  (case mI=>exact Rd.meth_mk '^' '^' '^' '^' '^')
  (case mM=>(repeat' refine mB (Rd.meth_mk '^' '^' '^' '^' '^') ?_);exact jA)
  (case mP=>(repeat' refine mB (Rd.meth_mk '^' '^' '^' '^' '^') ?_);exact jA)
