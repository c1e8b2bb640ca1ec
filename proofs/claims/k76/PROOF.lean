import PyProof.Rows.All
import Wide.All
import OpenK.AllK
import Wide.FinOn
import Lean
import PyProof.EqAt
import PyProof.EqKinds
import PyProof.TupleCall
import PyProof.DictRoadsH
import PyProof.NeKinds
import PyProof.StrBlockI
import PyProof.SliceStr2
import PyProof.StrLaws
import PyProof.ListMulRoad
import PyProof.FactsAll.tuple
import PyProof.SetKind
import PyProof.DictKinds
import PyProof.Rows.SetFrom
import PyProof.Rows.SortStr
import PyProof.FactsAll.set
import KE.KDictOf
import PyProof.AttrMissHeap
import PyProof.WalksMore
import PyProof.ListRange
import PyProof.TupleOfSeq
import PyProof.Rows.TupDisplay
import PyProof.DictItems
import KE.KMinBuiltin
import KE.KTupSum
import PyProof.DictWalks
import KE.KSortTup
import PyProof.StrLawsTight
import PyProof.StrLawsChain
import PyProof.StrLawsJoin
import PyProof.StrLawsFirst
import PyProof.StrBlockH
import PyProof.StrCalls2
import PyProof.MeetsStr2
import PyProof.Rows.StrNews2
import PyProof.Conv_int_bool
import PySem.Challenge.RW_routeboard_k76_whole_leads_and_tables
set_option Elab.async false
set_option linter.all false
set_option maxRecDepth 100000
set_option maxHeartbeats 0
set_option bootstrap.genMatcherCode false
set_option compiler.extract_closed false
set_option backward.eqns.nonrecursive false
open Option renaming some→So,none→No
open Bool renaming true→To,false→Fo
open PySem.Str renaming ofString→oS
section
open Lean
def sgM(a:Array Syntax):Syntax:=if a.size==1 then a[0]! else mkNode `Lean.Parser.Term.app #[a[0]!,mkNullNode (a.extract 1 a.size)]
def sgA(k:Name)(s:String)(c:List Char):Syntax:=mkNode k #[mkAtom s,mkIdent (((String.ofList c).splitOn ".").foldl .str .anonymous)]
def sgI(c:Char):Bool:=c.isAlphanum||"_.'₀₁₂σκ".toList.contains c
def sgO(a b:Syntax)(k:Name)(s:String):Syntax:=mkNode k #[a,mkAtom s,b]
mutual
def sgP:Nat->Array Syntax->List Char->Syntax×List Char
|n+1,a,r=>match r with
 |' '::r=>sgP n a r
 |'('::r=>let p:=sgP n #[] r
  if p.2.head?==So ',' then let q:=sgP n #[] (p.2.drop 1);sgP n (a.push (mkNode `Lean.Parser.Term.tuple #[mkNode `Lean.Parser.Term.hygienicLParen #[mkAtom "(",mkNode `hygieneInfo #[mkIdent .anonymous]],mkNullNode #[p.1,mkAtom ",",mkNullNode #[q.1]],mkAtom ")"])) (q.2.drop 1)
  else sgP n (a.push p.1) (p.2.drop 1)
 |'['::']'::r=>sgP n (a.push (sgO (mkAtom "[") (mkAtom "]") `«term[_]» ""|>.setArg 1 (mkNullNode #[]))) r
 |'['::r=>let p:=sgL n #[] r;sgP n (a.push (sgO (mkAtom "[") (mkAtom "]") `«term[_]» ""|>.setArg 1 (mkNullNode p.1))) p.2
 |'⟨'::r=>let p:=sgL n #[] r;sgP n (a.push (mkNode `Lean.Parser.Term.anonymousCtor #[mkAtom "⟨",mkNullNode p.1,mkAtom "⟩"])) p.2
 |'?'::'_'::r=>sgP n (a.push (mkNode `Lean.Parser.Term.syntheticHole #[mkAtom "?",mkNode `Lean.Parser.Term.hole #[mkAtom "_"]])) r
 |'"'::r=>let p:=r.span (·!='"');sgP n (a.push (Syntax.mkStrLit (String.ofList p.1))) (p.2.drop 1)
 |'\''::c::r=>sgP n (a.push (Syntax.mkCharLit c)) (r.drop 1)
 |'.'::r=>let p:=r.span sgI;sgP n (a.push (sgA `Lean.Parser.Term.dotIdent "." p.1)) p.2
 |c::r=>if c==')'||c==','||c==']'||c=='⟩' then(sgM a,c::r)else
  if c.isDigit then let p:=(c::r).span Char.isDigit;sgP n (a.push (Syntax.mkNumLit (String.ofList p.1))) p.2 else
  if sgI c then let p:=(c::r).span sgI;let s:=String.ofList p.1
   if s=="fun" then let q:=p.2.span (·!='=');let b:=sgP n #[] (q.2.drop 2);let v:=((String.ofList q.1).splitOn " ").filter (·!="");(sgM (a.push (mkNode `Lean.Parser.Term.fun #[mkAtom "fun",mkNode `Lean.Parser.Term.basicFun #[mkNullNode (v.map fun x=>(sgP n #[] x.toList).1).toArray,mkNullNode #[],mkAtom "=>",b.1]])),b.2)else
   sgP n (a.push (if s=="_" then mkNode `Lean.Parser.Term.hole #[mkAtom s]else if s=="Prop" then mkNode `Lean.Parser.Term.prop #[mkAtom s]else(sgA .anonymous "" p.1).getArg 1)) p.2
  else let o:=(c::r).span (fun c=>!sgI c&&!" ([⟨?\"'".toList.contains c);let p:=sgP n #[] o.2;let s:=String.ofList o.1;(sgO (sgM a) p.1 (if s=="->" then `Lean.Parser.Term.arrow else .mkSimple ("term_"++s++"_")) s,p.2)
 |[]=>(sgM a,[])
|_,a,r=>(sgM a,r)
def sgL:Nat->Array Syntax->List Char->Array Syntax×List Char
|n+1,a,r=>let p:=sgP n #[] r;if p.2.head?==So ',' then sgL n (a++#[p.1,mkAtom ","]) (p.2.drop 1)else(a.push p.1,p.2.drop 1)
|_,a,r=>(a,r)
end
end
def sgT:List String:="вautoParam¦F.bl To¦Lls.map Lead.d¦%.ref C¦=a.map .str¦`kv.map rowD¦|ls.map Lead.row¦Ëi + 1¦Õ.walk Ar¦ÖrunD defs Bo¦Ø.inl rfl¦Ú.ref s.heap.objs.size¦ÝrunD defs (c + 5)¦ék + 1¦ûvals2 kv gs¦ςrunD defs (c + 6)¦Ъ.ret (.tup (.cons A0 (.cons (.call 29 (.cons C8 (.cons Gk .nil))) .nil)))¦ѐbackTo pos (starEach Fi X.env)¦Ѷ.seq (.ownD To 2) (.put To To 2 AD BI)¦Ɓs.heap.objs.size¦ƄJ.length¦Ɔits.toArray¦ƈits.toArray.size¦Ƌls.length¦Ƒks.length¦Ɯh2.length¦úPySem.strKind prog w¦ĂRs.gB.mp h¦ĆLead.mk l ps gs¦Ģgs.flatMap (wG kv)¦ĺbackTo pos KF¦ĿPySem.W.hideAll B [Cd]¦ŀjB X.env.cells sc.names []¦œ[So P,So (.tup Gr),So (.str x.l),So (patD x.ps),So (patD x.gs),So (.lst Fg)]¦ŝx.gs.flatMap (wG kv)¦šs.heap.push PySem.W.emptyDict¦ũevD U a O¦ƞcxE B1 P w K mg base N O fn cm A outer s H E¦ƠevD U e O¦ơadD a¦ƢcellsFrom n b acc¦ƥe.grow s¦ƬpatD ps¦ƮJf st¦ƯJk ps¦ưputK kvs k v¦ƲJr _ _ (f _) fun _=>b _¦Ƴs.heap.push (tQ To l)¦ƴevD U p O¦Ƹvals2 kv x.gs¦ƽvals2 kv gs¦ƾas.map adrD¦ǂzh5 s.heap t1 t2 f q¦ǅls.map Lead.row¦ǉList.range m¦ǋksOf g dd¦ǎevD U as O¦ǔ['r','o','t','a','r','e','t','i','_','t','e','s']¦ǖtblD ls¦Ǡz c _ _ _ _¦ǤJ.getD j .non¦Ǧ.un .notN C8¦ǧls.map Lead.l¦Ǯm.map adD¦ǯrelabel sc X.env¦ǸPart.any n¦ǺZ.set i BO¦ǽLead.mk l gs ps¦Ȑs.heap.push (newS w)¦ȓO.set i (So (.lst (J.eraseIdx j)))¦ȕitems.toList.drop (sIx Av 0 lo)¦ȭcutV xs lo hi¦ȮhidT f.heap H¦ȰbackTo pos (starEach [] X.env)¦Ɂws.map D.str¦ɏJaT _ _¦ɑsN X ls sc Cd s2 H2 fp E'¦ɛevD U k O¦ɜns.zip xs¦ɝNe.symm q¦ɠzh1 s.heap t1 f¦ɦZG _ _ E4¦ɨPart.rest n¦ɩsR _ _ rfl¦ɪList.replicate k.toNat J¦ʉevD U c¦ʎK w.params¦ʑFz.sm F6¦ʒSameP.of s¦ʗassignEach [tg] X.env¦ʙList.take_sublist _ _¦ʠLead.mk x.l x.gs x.ps¦ͱps.map Part.d¦ͲPart.one n ws¦ͽzh4 s.heap t1 t2 f q¦Ή.Call RH [] [] pos¦ΝassignEach es X.env¦ΟList.replicate k xs¦Ρg b _ this fun z=>z¦έevB U bc a O¦ήList.range i¦ώJH prog w¦ϑfun _=>To¦ϞBuiltin.Str.strSliceIndices lo hi 1 x.length¦ϢcxOf B1 P w K mg base N e b f i A g s H E¦ϩb _ _¦ϰpickOrder Kr es¦ϲf.toList.map banV¦ϺJie P w¦ϽmetS ws¦ЁevD U src O¦І.own 2 Gb¦Љkv.lookup n¦ЊJH P w¦ЋJi q g¦ЌtgN tg¦Рm b _ q fun z=>z¦ѩp.valD w¦Ѫo_gt _ _¦ұatKey xs k¦ҲJ.map banC¦Ҿrelabel scope O¦ӁO.set i (So d0)¦ӷJl k J¦Ӿh.resolve_left fun z=>q z.symm¦ԆNe.symm U¦ԉevD U c O¦ԋevD U v O¦Ԍns.zip fs¦ԓJv nt d¦ԔevD U e¦ԢinsR k r rows¦ԫList.replicate j.toNat i.cps¦ԮList.replicate k.toNat items¦Կ.loop Fo [2,3,4] 3 Wm loB¦ՁqA _¦Ղnum w¦ՄList.replicate k.toNat its¦ՋList.range n¦ՌjB cs b acc¦Սs02.trans sm¦Տps.getLast b¦ՐzipD CO Gr¦կList.replicate k.toNat xs¦ճhidT h H¦յfD N vs¦նr.bind f¦ջS \"told\"¦下putF f y fs¦丕lawM r.ps a¦世Part.word w¦东.loop Fo [2] 0 Ds hnB¦个JO nt J0 I0 O G7¦丱.loop [2,3] 2 Wl uR¦乑List.range bs.length¦乒zh3 s.heap t1 t2 f q¦乓s.heap.update a Sj¦乘.dct To Fo WM Kq¦乣envOfC l g Aa f O¦乬its.toList.map banV¦乮forB ts nt F3 J O¦乶valV kvs k¦乷zipD xs ys¦乹eU J its d¦乾h2.mono sm¦亁nC rows i¦亊I.base.tups b xs q¦互ws.zip (ws.drop 1)¦仈g b (I b o hb f)¦仉f b _ q fun z=>z¦今g b _ q fun z=>z¦仌ws.foldl addS ks¦仏List.range' lo n".splitOn "¦"
def sgU:List String:="Alaz._auto_1¦Eoaz._auto_2¦Rbaz._auto_3¦WYaz._auto_4¦Dx'в' KJ Al¦DW'в' CZ Eo¦Lz'в' SW WY¦Lx'в' MG Al¦Lu'в' Ky Al¦Ra'в' C4 Al¦Vs'в' LB Al¦AdList Str¦Ar.var 0¦AiPySem.W.Frag¦AZValue -> Shared -> Prop¦BfList (Str × NameKind)¦AD.var 1¦AQList (Addr × Obj)¦Cv.con (.int 1)¦CN.con (.int 0)¦Aymodel X.prog X.w¦AmCtx X G N nm¦Asmodel prog w¦AkShared¦AHPE X a (tI X U pa)¦ABList Part¦BYStr -> Option Value¦A0.var 2¦AGInv X Y Z H s¦Cw'F'¦BkProgram¦AzList Value¦AJrunD defs U¦AgCallD¦AXList Nat¦Gq'L'¦C8.var 4¦MN.con (.int 3)¦AoList D¦BzOw M O Z¦Dt.cons AD .nil¦Aw.ref a¦Fh.con (.int 2)¦DvList (Str × D)¦B6.var 3¦BXAround¦AIU + 1¦A3List Addr¦C7.bl Fo¦COps.map Part.d¦DT.bi .idx Ar CN¦BI.con Cw¦BWL2.Inv X Y Z H s¦BZPE X b (tI X U pb)¦B8oS \"pattern\"¦AAList V¦AYWorld¦B7runD defs (c + 3)¦DU.Name x px¦Fie :: es¦AnValue¦DubrD b rows as n¦C6List Expr¦Bm'%'¦DV.int k¦BqofN ns¦CnList (List Str)¦A4.tup xs¦BpL2.St¦Dw.con .non¦BUArray Value¦Cy.int at_¦Boc + 1¦Gr'='¦SX(Fo,eval e X.env)¦Gk.var 5¦FfoS \"address\"¦Em.ret (.con C7)¦DSws.map .str¦Fg'`'¦By.lst xs¦Fe'|'¦BeList Int¦DRs.heap.objs.size + 1¦BlOption D¦MM(Fo,eval a X.env)¦BHList (Str × Addr)¦A2.lst J¦CmList Lead¦BwoS \"_law_script\"¦EltI X U p¦C5.cons Ar .nil¦A8A.handled = No¦WT.str (oS \"rest\")¦AE'Ë'¦C4starEach [a] X.env = (MM :: starEach [] X.env)¦KJstarEach Fi X.env = (SX :: starEach es X.env)¦KI.bi .add AD (.bi .mul MN C8)¦A7.ref it¦Ek.cons MN .nil¦AFadrD a¦ACXW X H¦Fd.cons (.con (.int 4)) .nil¦Ds'Õ'¦CM'Ö'¦Bd'Ø'¦DPoS \"thing\"¦Dr'Ú'¦CkoS \"BadLead\"¦CjList Stmt¦C1'Ý'¦B4.un .len Ar¦Ej.Name x p1¦DO.bi .idx Gk CN¦Dq.dct Fo To (ksD kv) (vsD kv)¦BS.ref l¦Ciha Y s Z H _ I h¦Dp.un .len AD¦Gj.bi .idx C8 Cv¦AWc + 2¦Bc.ref f¦KFstarEach es X.env¦AV'é'¦HnoS \"Board\"¦MLoS \"number\"¦GioS \"BadValues\"¦BRmutB body¦B3EP X Y Z Q¦KCoS \"any\"¦AS.int i¦BjSo d¦BQrunD defs k¦CZ'@' = Fo¦DN.cons Ar Dt¦B2FuncData¦ARList Row¦MK.lst (made.map .str)¦A6c + 4¦Fc'û'¦BGList Env¦Bvmodel P w¦CLoS \"_law_at\"¦KAoS \"word\"¦BuSo DV¦CKList (κ × Value)¦BFPE X e El¦Gh.cons (.var 8) .nil¦CgList (κ × V)¦CYArray (Option Value)¦Bh.dK kvs¦CusepP M p = To¦EioS \"self\"¦MJ.bi .add AD (.bi .mul MN (.un .len C8))¦Ggb.map .str¦CfX.calm = To¦BPHOk P w H h¦Gf.cons A0 .nil¦DoUnit -> Shared -> Prop¦DnchkO N nm M i x = To¦CJO :: outer¦B1CXr P w¦Fb.bi .idx Ar Cv¦Hm.bi .idx B6 Cv¦CH.str r.l¦DmEnvOk K M H0 H Z O¦BOSo v¦Dl.int r¦E9oS \"rows\"¦B0Out X H Q¦Ct.Name x pos¦KyswapsWith e (So DU) pos.line X.env = pure Fo¦WR.Attribute Ej m apos¦DMKTr Key¦Bt.tup J¦Brhid L H¦BN.tup Gq¦BMOption Int¦Eh.Attribute DU f apos¦CWp.isWord = Fo¦EgOption Value -> Shared -> Prop¦CG.obj a ns fs¦DiOw [] O Z¦MIkeywordEach [] X.env¦Hk.con (.str (oS \"0\"))¦DhSo BS¦Gb.dis .nil¦DLStr -> Prop¦Dgls ++ hidN ls N¦E7oS \"hole\"¦DfA ++ (p :: qs)¦DJrows.map Row.d¦EfrunB defs bdefs k¦BL.dT kvs¦GasIx items.size items.size hi - sIx items.size 0 lo¦F9.con (.str KA)¦DIBool -> Hp -> Prop¦MH.con (.str (oS \"one\"))¦F8FnOk X.prog X.w X.K X.mg X.base CX k f fd ps sp¦MGstarEach [e] X.env = (SX :: starEach [] X.env)¦DH.builtin id¦E6.Assign [.Name x px] e pos¦Kx.con (.str (oS \"7\"))¦MF.un .neg Cv¦ME.cons C8 .nil¦DGrunD defs AW¦E5.con WT¦CFOption Addr¦E4Ne.symm hb¦F7(apos.endLine == pos.line) = To¦E3.bi .idx Ar Fh¦HjoS \"value\"¦Hi.con (.int 8)¦F6s1.trans s2¦Deblm E.b Ah¦SW(X.fn x = To) ∨ (X.env.scope.names.lookup x = So .local)¦E2he Y s Z H _ I h¦E1Bool -> Shared -> Prop¦E0chkA N nm M i x = To¦EZCx.mk1 X E Y¦EeoS \"part\"¦EYI1.hok.fresh (Zj _)¦KwoS \"abcdefghijklmnopqrstuvwxyz0123456789-\"¦F4PassesOwn Ay X.A X.env X.xe¦F3exO w U bc body¦Ku.un (.fld (S \"rows\")) Ar¦WQa :: b :: rest¦F2O.set i Bj¦FZbehindInMarks op b = Fo¦EWoS \"_law_k\"¦FY.Compare a [op] [b] pos¦FXSetTable.grown es1.size¦FW(d == sysModules) = Fo¦KtoS \"abcdefghijklmnopqrstuvwxyz\"¦Ks.con (.str s)¦Krw.params.setOrder a ep¦HeResult -> Shared -> Prop¦MD.bi .idx A0 Cv¦MCoS \"leads\"¦MBupd H s.heap.objs.size (.dT [])¦FVoS \"told\"¦EUoS \"name\"¦ETStr -> Fm -> Prop¦FUevD U e O = .ok d¦SVcompareOp op¦Ed.ins C dx fs¦Ecns.map D.int¦RH.Name Hn p¦WZList (List DM × V)¦Fuod.data = .dict es ep¦GMoS \"_law_pattern_here\"¦Et.builtin \"len\"¦EsrunD defs A6¦IYn + lkN a rows¦GL.builtin \"object.__class__\"¦FtI.hok.fresh (Zj _)¦IXArray (Int × Value)¦GKapos.endLine == cpos.line¦V4.un .truth (.call 8 Gf)¦GJPI X tg iter (tW X U ps)¦FsgetMethod ov m pl¦FqbackToKw pos MI¦IW.comp nt ps pc pe¦V3'ς'¦FpoS \"values\"¦FnNat -> Heap -> Prop¦IVList (Str × Value)¦LO.con (.str ML)¦IU.con (.str KC)¦LG.bi .add AD Cv¦Rl.bi .idx Gk Fh¦FlBinds X.K fd ps J¦GGSetAt s.heap a o es ep t¦GF.Call WR Fi [] pos¦IQoS \"0123456789\"¦GErunB defs bdefs U¦GD(X.A.units + 64) < cLine¦IPSo (f1 r) :: So (f2 r) :: O¦Rk.dis (.cons p .nil)¦Vy.call 47 (.cons AD (.cons (.bi .add (.bi .add A0 (.con (.int 40))) Ar) .nil))¦Vx.bi .eq (.call 44 (.cons Ar (.cons (.bi .add MJ Cv) (.cons Fh .nil)))) CN¦IMV -> List V -> Hp -> VK -> Prop¦LDBool -> Hp -> Prop¦Rh(Fo,eval b X.env)¦ILoS \"TooMany\"¦GCFun K x qual st f fd¦Rg.app Fo 3 (.call 47 (.cons Ar (.cons (.bi .add KI Cv) .nil)))¦IK.BoolOp .Or (b :: rest) pos¦Vw.call 44 (.cons Ar (.cons (.bi .add AD (.con (.int 39))) Ek))¦LC.con (.str (oS \"a\"))¦Vv.cons (.con (.int 9)) .nil¦Re.call 38 (.cons Gj .nil)¦LBstarEach [a] X.env = [MM]¦IJValue -> Value -> Sem Value¦IIha pos Y s Z H _ I h¦IHevD U as O = .ok A2¦Vu.bi .idx (.bi .idx AD (.bi .mod A0 Dp)) Cv¦LA.con (.str (S \"rest\"))¦IG.tup (rows'.map Row.d)¦LystarEach [b] X.env = (Rh :: starEach [] X.env)¦Lw(b ∈ X.ex) ∨ (X.s₀.heap.objs.size ≤ b)¦Lv(.nx,O.set i (So (.lst (J ++ [d]))))¦Vt.call 44 (.cons Ar (.cons KI Vv))¦LsOption (Value × Nat) -> Shared -> Prop¦LrPySem.W.instObj C s.heap.objs.size¦Lqupd W s2.heap.objs.size (.lst ys)¦Lp.un .truth (.un .isInt (.var 9))¦WXList (List DM × Addr × Value)¦Q7.set Fo 8 (.sl (.call 48 (.cons Ar (.cons (.bi .add (.con (.int 400)) (.bi .mul (.con (.int 60)) A0)) (.cons Vu .nil)))) Dw (.un .asI Hi))¦Vq.bi .idx (.dis (.cons Kx (.cons Hk (.cons (.con (.str (oS \"55\"))) .nil)))) (.call 44 (.cons Ar (.cons (.bi .add KI Fh) Ek)))¦Vp.bi .mul (.con (.int 80)) B6¦Vo.bi .idx Rl (.call 44 (.cons Ar (.cons (.bi .add KI Fh) (.cons (.un .len Rl) .nil))))¦Q1.tup (.cons (.bi .idx AD Cv) (.cons (.call 17 (.cons AD (.cons B6 C5))) .nil))¦Q0(.nx,O.set i (So (.lst (cutD J No (So n) ++ (y :: cutD J (So n) No)))))¦Vn.bi .gt (.call 44 (.cons Ar (.cons (.bi .add AD (.con (.int 30))) Ek))) CN¦QZ.ret (.tup (.cons (.un .dKeys A0) (.cons B6 (.cons (.con C7) .nil))))¦QYPySem.W.fnOf x qual (qE st) (Jx st) (Jf st) .none kV doc pm an cdv ct¦Vm.ext Fo 3 (.walk (.un .rows (.comp 0 (.un .range Vw) BI Vy)))¦Vl.bi .add (.bi .sub (.un .len (.var 9)) Cv) (.un .ints (.var 10))¦QX.bi .idx (.comp 0 Ds (.bi .eq DT (.bi .idx C8 CN)) Ar) CN¦QW.Raise (So (.Call (.Name cx np) [ma] [] cpos)) No pos¦QVcxOf CX P w K mg base N qual scope f cdv A outer s H E¦QTHT.sIx xs.length xs.length hi - HT.sIx xs.length 0 lo¦Vj.and (.bi .eq DO (.con (.str (S \"one\")))) Vx¦QPV -> Option Int -> Option Int -> Hp -> VK -> Prop¦Vi.or (.bi .eq (.var 6) CN) (.bi .eq DO IU)¦QOtypeOf DH = pure (.type \"method_descriptor\")¦QMupd H a (.ins C dx (putF f v (ns.zip xs)))¦QLswapsWith e No pos.line X.env = pure Fo¦QKOption (List (List Str) × List Str × Bool)¦Vh.bi .repU (.tup (.cons (.bi .idx (.tup (.cons LC (.cons Kx (.cons Hk .nil)))) (.call 44 (.cons Ar (.cons (.bi .add (.con (.int 700)) A0) Ek)))) .nil)) (.call 44 (.cons Ar (.cons (.bi .add (.con (.int 710)) A0) Fd)))¦Vg.comp 0 (.un .range (.call 44 (.cons Ar (.cons AD (.cons (.bi .add A0 Cv) .nil))))) BI (.call 45 (.cons AD (.cons (.bi .add (.bi .add A0 Fh) (.bi .mul (.con (.int 5)) Ar)) (.cons (.bi .idx C8 Ar) .nil))))¦Vf.ite (.bi .eq DO E5) Vm (.ite Vi Rg (.ite (.bi .eq DO F9) (.app Fo 3 (.bi .idx Gk Cv)) (.ite (.bi .eq DO LO) (.app Fo 3 Vq) (.app Fo 3 Vo))))¦Ve.ite (.or (.bi .ne (.call Fo 5 4 nsB Gh) (.pur (.call 36 (.cons B6 Gh)))) (.pur (.un .not (.un .truth (.call 51 (.cons AD Gh)))))) (.lift Em) (.lift .skip)¦Vd.comp 0 (.un .range (.bi .add Cv (.call 44 (.cons Ar (.cons LG Ek))))) BI (.bi .idx C8 (.call 44 (.cons AD (.cons (.bi .add (.bi .add A0 Fh) Ar) Fd))))¦Vc.ite (.and (.un .notN (.var 7)) (.bi .ne (.call 30 (.cons (.tup (.cons (.var 7) .nil)) (.cons Hm .nil))) (.tup (.cons (.bi .idx B6 CN) Dt)))) Em .skip¦Vb.ite (.and (.bi .lt Dp (.con (.int 7))) (.un .notT (.call 16 (.cons (.call 42 (.cons Gj (.cons (.var 8) (.cons (.var 10) .nil)))) Dt)))) Em .skip¦Va.ite (.bi .lt Dp Fh) (.set Fo 1 (.call 50 (.cons Ar (.cons (.bi .add (.con (.int 2000)) (.bi .mul (.con (.int 400)) A0)) .nil)))) .skip¦U7.set To 6 (.call 44 (.cons Ar (.cons (.bi .add AD (.con (.int 20))) (.cons (.bi .add (.un .len C8) Cv) .nil))))¦U6.ite (.or (.bi .ne (.un .len (.call 33 (.cons AD Gh))) Vl) (.bi .ne (.bi .idx (.var 9) CN) (.var 8))) Em .skip¦U5.ite (.or (.un .isN (.var 6)) (.bi .ne (.call 24 (.cons (.bi .idx C8 Fh) (.cons (.var 6) .nil))) Hm)) Em .skip¦U4.cons C8 (.cons (.call 49 (.cons Ar (.cons (.bi .add (.bi .add AD (.con (.int 41))) Vp) ME))) .nil)¦U3.or (.un .not (.un .truth (.call 3 (.cons Ar (.cons Cv Fd))))) (.un .not (.un .truth (.call 4 C5)))¦U2.ite (.bi (.dIn To) Gj A0) (.ret (.tup (.cons (.un .dKeys A0) (.cons B6 (.cons BI .nil))))) .skip¦U0.ite Vj (.set Fo 5 (.tup (.cons (.con (.str (S \"any\"))) (.cons (.bi .idx Gk Cv) .nil)))) .skip¦UY.ite (.bi .gt (.call 44 (.cons Ar (.cons (.bi .add MJ Fh) Fd))) CN) (.app Fo 4 Gk) .skip¦UX.and V4 (.un .not (.un .truth (.call 20 (.cons A0 (.cons (.bi (.dGet Fo) AD MD) .nil)))))¦UV.ite (.bi .ne (.ite (.un .isN B6) Dw (.bi .idx B6 CN)) (.call 36 (.cons A0 Dt))) Em .skip¦UT.and (.bi .ne A0 (.tup .nil)) (.and (.bi .eq (.bi .idx (.bi .idx A0 MF) CN) LA) Vn)¦UQ.ite (.bi .ne (.comp 0 (.walk (.var 6)) (.bi .notin Ar (.var 6)) Ar) Gb) Em .skip¦UP.call 44 (.cons Ar (.cons (.bi .add (.bi .add AD (.con (.int 22))) (.var 7)) Fd))¦UO.un .not (.un .truth (.call 3 (.cons Ar (.cons CN (.cons (.con (.int 6)) .nil)))))¦UM.ret (.and (.bi .le (.bi .idx Re CN) Dp) (.bi .le Dp (.bi .idx Re Cv)))¦Aa'Ɓ'¦Acxs.length¦Aqs1.heap.objs.size¦Ab'Ƅ'¦ANs2.heap.objs.size¦Ap'Ɔ'¦Ajps.length¦BK'ƈ'¦Avitems.size¦AMX.env.locals¦Ax'Ƌ'¦ALmade.length¦AKns.length¦AUits.length¦Bbkvs.length¦BEh.objs.size¦BJ'Ƒ'¦Csh'.objs.size¦Cbws.length¦ESits2.toArray.size¦Bgvs.length¦ERX.env.scope¦CBvs.toArray¦BDys.length¦CApre.length¦DFrows.length¦MAX.s₀.heap.objs.size¦Hc'Ɯ'¦Au⟨_,rfl⟩¦A9⟨P,w,K,mg,base,A⟩¦DQ[So Bq,So Cy,So P,So MK,So DV,So p.d,So Dl]¦Bi[.tup Gq,adD a]¦Dj⟨_,Zi _ rfl,rfl,rfl⟩¦Ge.ListComp elt [⟨tg,iter,ifs,0⟩] sc pos¦Kz[.type \"ValueError\",.type \"Exception\",.type \"BaseException\",.type \"object\"]¦Ce⟨rfl,rfl⟩¦Gc[.str x.l,.tup Gg]¦HlnotedBy As A O fun e j=>R (.error e) j¦E8⟨l.prog,w,K,mg,base,A⟩¦CV⟨v,u,e,r,g⟩¦CD⟨_,e,rfl⟩¦Kv⟨JL M 0 O,Ow M O Z,e.ows,e.readHid,?_⟩¦Hg[So Du,So CH,So r.pd,So DV]¦EV⟨O,e.readOk,?_⟩¦Hd⟨_,_,g,f,Out.now h rfl⟩¦Dd⟨_,rfl,h⟩¦Kqas.map fun a=>lkD a rows¦FT.Tuple [a,b] k2 pt2¦EO⟨_,_,rfl,rfl⟩¦BB'ơ'¦WO[.Name x px,.Name y py]¦Kp[(.str KC),(.str ML),WT]¦Hb'ƥ'¦CaPE X a ta¦B9[.ref a]¦EbmutS body¦EaSame.refl H¦D9runD defs c¦ENScOk N nm ls sc¦EM'Ƭ'¦Dc[So b,So f]¦SU'Ʈ'¦WN'Ư'¦W4'ư'¦Ko⟨_,Zi _ rfl,rfl⟩¦DEhid Bz H¦FS.tup CO¦D8⟨O,e,?_⟩¦Cr.str x¦EKpyNext A7¦Kn.bi o pa pb¦EJS \"BadLead\"¦WM'ƾ'¦SS[D.str (S \"a\"),D.str (S \"b\"),D.str (S \"7\"),D.str (S \"0\")]¦FRReps X.K H J xs¦Km.BoolOp .Or WQ pos¦EIReps K H J xs¦SRgS X M H0 ts nt¦Mz.Call (.Name x p) Fi [] pos¦SQ.and V4 (.bi .eq MD AD)¦Kl.un (.fld E9) Ar¦Cq.str w¦W3'ǋ'¦WL.loop Fo [5,6] 2 (.dis (.cons (.tup (.cons (.call 18 (.cons Gj Dt)) (.cons (.call 18 (.cons (.bi .idx C8 Fh) (.cons Hm .nil))) .nil))) .nil)) .skip¦Ha⟨_,g,trivial⟩¦EHexD U body¦EGlkD a rows¦SO.cons B6 .nil¦D7Rep K H d v¦SN.sl Ar Dw (.un .asI Fh)¦DDJdY _ _¦G9'ǖ'¦SM.loop Fo ts nt Rk .skip¦My.un .truth (.call 8 C5)¦SL.un (.fld (S \"told\")) Ar¦Kk[h,f,So (adK m),j,b]¦CU.ref b¦G8.var i¦WK⟨ok.mod,ok.kind,ok.glob,ok.blt,ok.above,ok.inj,ok.has,ok.cab,ok.hd,ok.frames,ok.stk,ok.exf,ok.bs,ok.bsz,ok.noex,ok.exfs,ok.funs,ok.frf⟩¦G7J.drop AE¦G6.lift .skip¦SK.call 18 (.cons B6 Dt)¦G5I.freeC x c e¦G4.type \"tuple\"¦G3bump g k c dd¦FQList (KTr κ)¦KjPA X Fi (tA X U p)¦WJ.bi (.dGet Fo) AD Hm¦FPZi _ rfl¦D6.tup DS¦FOupd H a o¦W2'Ǯ'¦Mx.bi .eq DT MH¦Mw.bi .eq DT E5¦Mv.bi .idx AD CN¦SJ[patD gs,.dct Fo To (ksD Fc) (vsD Fc)]¦CT.int j¦DCI.tok _¦FNC.glo _ hg¦FMuni L H H1¦FLfun _=>rfl¦W1'Ǻ'¦G2JE d.slots J¦Ki.cons Fb .nil¦WI[e,.Call RH [] [] pos]¦Mu.BoolOp .And WQ pos¦MtJB _ _ (Ja _ _ rfl b)¦SI.Tuple [.Name x p1,.Name y p2] k pos¦SH.Call (.Name \"enumerate\" M) [a] [] y¦A5String¦WH⟨fun b o e n hb G=>?_,fun b o e n hb G=>?_,I.base.free,fun b o e G=>?_,I.base.tups,I.base.frzs,I.base.tbls⟩¦SG⟨rfl,PassesOwn.leaving,rfl,rfl,rfl⟩¦CSSame H W¦DBList DefD¦DASameP H W¦G1List (KTr Key)¦G0[So b,So f,No]¦SFZr (Zw (Zk e) (I.ok.cab x c hfn F))¦WG.walk (.sl Ar Dw (.un .asI MF))¦FK⟨O,r,?_⟩¦SE[.Attribute DU f apos]¦MsZw (Zk e) I.ok.above¦Mr.Call WR [] [] pos¦SDSo (.builtin \"object.__setattr__\")¦Khfun _ _ _ q=>q¦Cp.bl b¦Cohit a¦GZfrs X.stack¦EF.bool To¦FJlsP made¦SC[.Tuple [.Name x z,.Name y n] kt pt]¦SA[.Tuple [.Name x px,.Name y m] J pt]¦Mq⟨.bl _,H,I,rfl,?_⟩¦Mp.UnaryOp .Not a pos¦WE.Attribute o m apos¦MotSB X w U bc M H0 a¦FHtI X U pa¦MntT X U pa¦FG.str x tk¦FFoS \"some\"¦D5So A2¦D4cN tg N¦Sy[So Bq,So Cy,P,L,So DV,So p.d,o]¦WD.cons (.var 7) (.cons Gk .nil)¦Mm.BoolOp op [a] pos¦Ml.Subscript a b pos¦MjtTB X U bc M H0 pa¦MitB X U bc [] H0 pb¦Kggs.map Part.d¦FE([DP],[])¦FD⟨?_,?_⟩¦CznP _¦GYoS \"looks\"¦GXoS \"table\"¦Mhfun _ _ q=>Zd _ q¦MgsetNext a sl i ep¦MftB X U bc M H0 pb¦Me.bi .idx A0 MF¦Sw.bi .idx G8 CN¦Dz.ref p¦SvOutQ X w [] H0 Di H BR D¦WC.un .range (.call 44 (.cons Ar (.cons (.bi .add AD (.con (.int 21))) Ek)))¦Kfeval a X.env¦Ke.type \"dict\"¦SuZ.set i Dh¦SsObj.mapSeq fun x=>x.push u8¦Sr.ok (.ret (Value.ref Aa))¦Sn.Compare a [.NotEq] [b] pos¦Md[.Tuple WO kt pt]¦Mc[.str x.l,.tup Gr]¦Kd.ret BI¦FCclsN nsB¦WB.raise Gi ME¦Sm.raise Gi .nil¦EESo Bc¦ED.type T¦KcclsN ns¦ECXW X H0¦WA'ɏ'¦EApatD gs¦SlOutQ X w M H0 Bz H BR D¦Sk.sl Ar Dw (.un .asI B6)¦WzJd _ _ (I c _ _ _) rfl rfl¦DyRelV y u¦Wy⟨.ref l,σ',_,I2,rv,fin _ ⟨l,_,rfl,⟨g,⟨o,Jg⟩,rfl,rfl⟩,rr _⟩⟩¦CQJaY _¦CP.bl p¦BAPlO H0¦Wx.Assign [.Name x px] (.ListComp elt [⟨tg,iter,ifs,0⟩] sc p1) pos¦GWtI X U pk¦Ww.set Fo 4 (.call 46 (.cons Ar (.cons (.bi .add LG Vp) Ek)))¦SjObj.putSet f t'¦FAVals dvs J¦EzPE X b tb¦EyPE X e te¦KbSame.refl _¦KaoS \"NoHole\"¦Siassign (.Name y w) X.env¦ShOutS X M H0 Bz H Eb D¦Sg.Compare a [.In] [b] pos¦Sf.un .truth (.call 8 Dt)¦ExZd _ e¦D3.ref d¦D2.str k¦Wv.call 44 (.cons Ar (.cons MJ (.cons (.un .len B6) .nil)))¦Wu(fun H=>⟨_,_,rfl,rfl,⟨_,_,rfl,rfl,⟨_,_,rfl,rfl,rfl⟩⟩⟩)¦Sefun b o j e=>eb b o j e¦Sdf (.int i t) (.int j u)¦MbList (KTr L2.Key)¦Ma⟨rfl,rfl,rfl⟩¦D1g i j¦GUVals xs its¦Sb⟨b,m,Inv.of2 l I.ok,q⟩¦L9binaryOp .Mult¦L8L p C h2 m w h¦L7oS \"_law_made\"¦J8LF ps gs a kv¦WtPySem.W.fnOf n n (qE s) (Jx s) (Jf s) .none kV j i g e ct¦SaF.args_tuple_mul_2 _ _¦R9.con (.str (S \"word\"))¦D0Sem Bool¦DZFldC G f¦Ws.Expr (.Call (.Attribute DU \"append\" apos) [e] [] pos) f¦Wr.ite (.and (.bi .le CN A0) (.bi .lt A0 B4)) A0 B4¦WqPySem.W.fnOf name qual g body scope dV kV G pm an cdv ct¦Wp.ite (.bi .lt (.un .dLen B6) (.un .len A0)) Sm .skip¦Wo⟨O,r.mono s,g.mono (fun d o=>o.mono s) fun c x=>x.mono s⟩¦W0'ʉ'¦J7rD2 X o¦GTmutS sb¦FystAt 62¦GSoS \"at\"¦J6O.set i No¦J5Ow M g σ'¦J4oS \"Taken\"¦J3y.map .str¦Wn.tryK (.call 32 (.cons AD Gh)) [9,10] 2 [Ck] .cnt¦R8I.base.free b o e n g¦R7fun b z=>absurd z Af¦R6.type \"StopIteration\"¦R5F.args_int_rmul_2 _ _¦R4.ret (.un .tuple B6)¦R3.ret (.un .tuple A0)¦Wm.walk (.un .rows Ar)¦R1.ret (.un .tuple C8)¦Wl.walk (.un .asT Ku)¦Wk[D.str (S \"a\"),D.str (S \"b\"),D.str (S \"7\"),D.str (S \"new\")]¦L6[So Du,So AF]¦Da[b,g,f]¦WjJc _ _ rfl (Jc _ _ (Jd _ _ (m _ _ _ _) rfl DD) rfl)¦Wi[D.str (S \"y\"),D.str (S \"id\"),D.str (S \"z\"),D.str (S \"x\")]¦J0evD U pc¦I0evD U pe¦Wh.un o pa¦GRChB.of n¦R0⟨[.type \"set\",a],[]⟩¦L5binaryOp .Add¦L4tS X U M H0 a¦L3.call 14 DN¦RZ.call 30 DN¦L0.con (.int 4)¦LZ.int j.length¦Wg.and (.bi .ne B6 Gb) (.bi .lt (.un .len C8) MN)¦Wf.ite (.pur 'Ǧ') (.ret (.tup (.cons A0 ME))) G6¦We.Raise (So (.Call (.Name x np) [e] [] cpos)) No pos¦GQ.ref t¦EwSo Bm¦Eu.ref z¦RYfun b xs q=>sm b _ q¦RXseqObj \"list\" CB 0¦RVrunB defs bdefs AV¦RU.Call Ej Fi [] p2¦RT.con (.str (oS \"b\"))¦RSrunB defs bdefs A6¦RQoS \"_law_leads_here\"¦ROoS \"GREATEST_NUMBER\"¦RNoS \"NAME_ONLY_HOLES\"¦Wd.AugAssign Eh .Add (.Constant (.int n) j vp) pos¦Wc.set Fo 4 (.call 30 (.cons Ar (.cons Gj .nil)))¦Wb.un .range (.call 44 (.cons Ar (.cons AD Fd)))¦RM⟨b,rfl,fun W s=>?_⟩¦IZ⟨rfl,?_⟩¦FxX.N.Nodup¦FvKV kvs vs¦Wa[fun v=>bindName X.env y v,fun v=>bindName X.env x v]¦LYArray DictEntry¦LWSq X.K t H a xs¦LVChg m L H L1 H1¦RKenvOfC j g Aa f m¦V9.walk (.un .rows p)¦V8.bi (.dGz t) G8 b¦V7.lst (acc.map .str)¦RJm.map fun _=>.bl To¦GPLoc ER x¦GOJdh CX X E¦GNPA X Fi t¦V6.Tuple [.Name x p1,.Name y p2,.Name z p3] k pos¦V5.Call (.Attribute DU \"extend\" apos) [e] [] pos¦LUeval e X.env¦LSeval o X.env¦LR.type \"list\"¦LQfun _ _=>rfl¦LPrs.map Row.d¦RGCalleeB G bc fi Kc m¦V2[.Constant .none j p']¦V1.set Fo 2 (.un .tuple (.comp 0 Ds BI SN))¦V0⟨I',fp,wr,_,Pz,Sz,_,e1,W9,st,tt,fun h' C k=>?_⟩¦VZ⟨_,rfl,\"set_iterator\",_,Ko,at_next.lookup,?_⟩¦IT.or pa pb¦ISupd H l o¦ErSetTable¦EpTL ps gs¦VY.Call (.Attribute DU \"pop\" apos) [b] [] cpos¦VX.eff (.call Fo 1 4 nsB (.cons (.var 6) WD))¦RF.Return (So e) pos¦RE.Attribute e f pos¦VW.Slice lo hi No p2¦RDSq.same hid_same q¦RCtTB X U bc M H0 pb¦RBbrD b rows as IY¦RAaskS b rows as n a¦VV.ListComp elt [⟨b,iter,ifs,0⟩] scope pos¦RzObjM s.heap x dx C mA¦Ry[patD ps,.str p.name]¦VU[.ExceptHandler (So (.Name rn np)) No [body] hp]¦VT.ite Mx (.ret (.bi .isin AD E3)) .skip¦VS[So Bq,So Cy,So P,So (lsP b),So FJ,j,No,No]¦VR⟨_,Zv X G y1,.int 99999999,Au,fun H=>rfl⟩¦VQ.un .all (.comp 0 Ds BI (.call 7 C5))¦DYJft i¦DXwG kv¦VP.builtin \"BaseException.__getattribute__\"¦VO.bi .zip Ar (.sl Ar (.un .asI Cv) Dw)¦VN.cons Ar (.cons (.bi .idx AD Cv) .nil)¦VM.sl Ar (.un .asI (.bi .add B6 Cv)) Dw¦VL.cons Au (.cons Au (.cons Au .nil))¦RwForInStep.yield r¦RvNat.not_lt_zero _¦Ruuni [Aa] MB m¦RttB X U bc M H0 pa¦Rr.comp 0 src BI e¦RpoS \"_law_address\"¦RooS \"MOST_CHOICES\"¦RnoS \"MOST_LETTERS\"¦IR.ref sl¦GH.lst []¦Rm[f1 r,f2 r]¦LNtOp r ta tb¦LMns.map .int¦LLtI X U Kn¦VJ.set Fo i p¦LKreprQuote x¦LJ.dT [(f,y)]¦LI.own 3 Gb¦LH.str p.name¦VI'Њ'¦VH[D.str (S \"7\"),D.str (S \"0\"),D.str (S \"55\")]¦VG⟨_,Zv X G y11,.str Kw,Au,fun H=>rfl⟩¦VF.ite (.bi (.dIn Fo) C8 B6) WB .skip¦VE[D.str (S \"s\"),D.str (S \"p\"),D.str (S \"q\")]¦VD[D.str (S \"a\"),D.str (S \"7\"),D.str (S \"0\")]¦VC⟨_,Zv X G y0,.str IQ,Au,fun H=>rfl⟩¦VB⟨_,Zv X G y2,.str Kt,Au,fun H=>rfl⟩¦VA.call 44 (.cons Ar (.cons LG Fd))¦VzlE ns ls y2 (obj0 a) No No No No No No¦RjHT.sIx Ac 0 lo¦Rifun _ _ _=>False¦Rf.dct To Fo [] []¦Q9.Tuple elts k tp¦Vr.Name \"range\" p1¦Q8fun a ha=>sJ ha¦Q6.ok (.ret .none)¦Q5.Tuple WI k2 b¦Q4.bi .eq DT LO¦Q3.bi .idx A0 CN¦Q2.bi .eq DT Ks¦IFList Str¦IEtF X U p¦ID.seq a b¦Lo.ret A0¦IC.ret Dw¦IB.tup Gr¦IA.lst Fg¦Vk[So Bq,So Cy,So EM,m,So (lsP L),j,f,h]¦QUHOk X.prog X.w W h'¦QSApart z TI TO i1 i2¦QRh.Ns mainGlobals mg¦QQ[So b,So g,So f,No]¦A1CallB¦Ln[Value.ref a]¦QN⟨B9,[]⟩¦Lm⟨_,q,rfl⟩¦U8IsSI s.heap it (.int sl 0) i a es.size ep¦UZ⟨.int _,H,I.tok _,Au,Out.now h rfl⟩¦UW.builtin \"getset_descriptor.__get__\"¦UUtB X U bc [] H0 (.call To fi i ns p)¦US.ite (.bi .notin C8 A0) WB .skip¦UR.un .not (.un .truth (.call 8 SO))¦GBList DefE¦UN⟨.bl _,H,I.kept k,rfl,Out.now h rfl⟩¦UL⟨_,Zv X G y3,.int 4,Au,fun H=>rfl⟩¦UK⟨_,Zv X G y4,.int 6,Au,fun H=>rfl⟩¦UJ⟨_,Zv X G y5,.int 4,Au,fun H=>rfl⟩¦UI⟨_,Zv X G y6,.int 6,Au,fun H=>rfl⟩¦UH⟨_,Zv X G y7,.int 8,Au,fun H=>rfl⟩¦UG⟨_,Zv X G y8,.int 8,Au,fun H=>rfl⟩¦UF⟨_,Zv X G y9,.int 8,Au,fun H=>rfl⟩¦Llfun _ q=>q¦LkTP X Y Z Q¦LjI.ok.hd hc¦LicutD J l h¦LheU J its b¦UEhl1.stay fun o e=>B.extBut _ _ m1 e¦QJ.call fi p¦LgC.vis x g5¦UDtB X U bc M H0 (.call Fo fi i ns p)¦Lfx.map .str¦Lemin k Ac¦LdoS \"words\"¦QIoS \"label\"¦QH.dct t To ks vs¦QGp1 _ _ _ _ FP¦QFO.set i (So d')¦QE.cons Hi .nil¦QDoS \"MOST_LEADS\"¦QCoS \"MOST_PARTS\"¦QBoS \"MOST_SIGNS\"¦QAoS \"MOST_WORDS\"¦QzoS \"WORD_SIGNS\"¦FkRelV v u¦Fj[.ref p]¦UCIsSI s.heap it (.ref tp) i a es.size ep¦QyPE X v (tI X U pv)¦UBh1.stay fun o e=>B.extBut _ _ d3 e¦UAtSB X w U bc [] H0 (.putF f pk pb)¦Uz.ext Fo 2 (.walk (.un .rows WJ))¦Uy.cons (.tup (.cons AD Gf)) SO¦Ux⟨Zi _ rfl,sa.stay fun o e=>Zd _ e⟩¦Uw[patD gs,.dct Fo To (ksD kv) (vsD kv)]¦Uv[.str KC,.str ML,.str (oS \"rest\")]¦Uu.Call (.Name \"len\" p1) [a] [] pos¦Ut.seq (.ite c (.ret e) .skip) rest¦Iz(.nx,env2)¦IyRoom k X.A¦IwSlf N nm x¦Iv[MC,Ff]¦Us.and (.bi q pa pb) (.bi r pb pc)¦UrgetattributeRaised _ _ _ _ _ _ _¦UqF.args_dict_keyiterator_next_1 _¦Up.un .any (.comp 0 WG BI Mw)¦QxOw M F2 Su¦Uo.Name \"set\" p2¦Qw.set Fo 6 Vt¦QvbrD b rows j s¦QuoS \"_law_name\"¦QtoS \"MOST_ROWS\"¦Um(.nx,O.set i (So (.dct t Fo [] [])))¦UlIsPair s.heap TI (.ref i1) (.ref i2)¦Uk⟨a,xs,i,w,rfl,n,j,f,Out.now h C⟩¦Qs(p.name,p.valD w)¦QrObjOk P w H h a o¦QqtI X U Wh Z H Q¦QpFnScope N ps SU¦Qo[assign tg X.env]¦Qn⟨_,Jg,p1,rfl⟩¦Qm[So b,So f,No,No]¦UjPySem.W.methodObj Bc (.ref y)¦UitSB X To BQ Ef [] H0 d.body¦Uh.ite (.un .notN Gk) 'Ъ' .skip¦LcOpR X SV r¦LbPG X tg SR¦La[p.d,.str w]¦GA.ref x¦Gz.own x¦Gy.str y¦Iu.ref e¦WW'ӷ'¦Gx.ref S¦Gv.int 8¦Ugupd H l (.lst (xs.eraseIdx k))¦UeBuiltin.SmallTypes.nextOf A7¦UdF.args_tuple_iterator_next_1 _¦UctSB X w U bc [] H0 (.set i pb)¦UbtSB X w U bc [] H0 (.setF f p)¦UatSB X w U bc [] H0 (.augF f n)¦T9.lst (rs.map fun r=>.tup Rm)¦T8.ite (.un .isN B6) Kd .skip¦T7.un .range (.bi .mul MN Dp)¦T6.dct Fo Fo (ksD acc) (vsD acc)¦K9G b o e g¦K8ps.zip us¦K7upd H a f¦K6O.set i s¦K5g Z H Q f¦K4tI X U pb¦K3tT X U pb¦K2.tup Gc¦T5oS \"most\"¦Ir.lst ys¦Iqhid L W¦IpvsOf dd¦T4s.heap.IsKeyIter it d i es.size ep¦T3⟨g,e,fun j i=>q j (s.trans i)⟩¦TZ⟨.int Bb,H,g,⟨t,rfl⟩,?_⟩¦TY⟨L,.inl rfl,fun c m j f h=>?_⟩¦TX[E,So BB,r,B,So x.d,v,s,u,M,H,j]¦En(.nx,O)¦QlcompareOp .Lt¦Qk.bi .ne pa pb¦Qj.Tuple f k tp¦Qi.int 99999999¦Qh.int A.length¦BaScope¦TVPSs X body (tSB X w U bc M H0 sb)¦TU⟨.bl _,H,I,rfl,Out.now b rfl⟩¦Qg(AN,sD its k)¦QfDGet X.K H a y o¦QeReadOk X.K H Z O¦Qd[So b,So g,So f]¦Qc⟨So Dl,?_⟩¦TR.Compare a [.IsNot] V2 pos¦TQtS X U M H0 (.ext Fo i V9)¦TNupd H l (.lst (f.map V.str))¦TKtSB X w U bc [] H0 (.setD f)¦TJ.app Fo 3 (.bi .idx C8 CN)¦TH.tryK RZ [3] 0 [Ck] Kd¦TFJc _ _ rfl (Jc _ _ Wz rfl)¦C9Gl X x¦TCPE X e (tC X U bc fi i Kc m p)¦TB⟨.int D1,H,I.tok _,Au,q⟩¦Tz[.str (S \"one\"),.str n,.tup DS]¦Tx.Compare a [op,g] [b,c] pos¦TwmkS (cutD x.cps.toList l h)¦Tv.Compare a [op,f] [b,c] pos¦Tu.Compare a [.NotIn] [b] pos¦TttSB X w U bc M H0 (.lift q)¦Ts.bl (xs.any fun d=>d.eqv a)¦TrlE ns ls Bu B z u v E C o¦WV'Ձ'¦Tq'Ղ'¦TpPu.cutD x.cps.toList lo hi¦Tn.obj a ns (putN f d ns fs)¦Tj.un .truth (.call 12 C5)¦Ti.app Fo 2 (.un .strI WJ)¦Gu[.str w]¦Gs[adrD a]¦Qbns.map V.int¦Qa.call 9 C5¦P9l.map Part.d¦P8oS \"FIGURES\"¦P7oS \"LETTERS\"¦K0K.In s.heap¦KZKT H kvs xs¦KYPT X a Mn¦KS⟨us,[]⟩¦KR[E7,Hj]¦Th[.str x.l,patD x.ps,patD x.gs]¦P6OpR X SV J7¦P5ChB m L H L1 H1¦P4⟨v,H,I,r,h⟩¦Io(.rt d,O)¦ImPT X a tA¦IlCls X.K C¦IkList DefB¦IjList Pu.D¦Ii[So FS]¦TgletOwnedTupleGo tg A7 u¦Tffun f vs=>PySem.call f vs¦TetS X U M H0 (.set To i p)¦TdtS X U M H0 (.app Fo i p)¦Tc.Compare a [.GtE] [b] pos¦Ta.set Fo 7 (.call 34 ME)¦KQ.frz o u¦KPSP X Y D¦KOwL _ hp¦KNhid [] W¦KMS \"rest\"¦KLha w Af¦S9uP B CJ e cls a0 fl s.heap¦S8OpR X (compareOp f) (rD2 X r)¦S7IsSI s.heap it first i a n ep¦S6⟨i,j,m,l,g,Out.now b rfl⟩¦S5⟨g,⟨o,e _ _ l rfl⟩,n⟩¦S4[So P,So Dq,So V7,So g.d]¦S3I.base.keep b o e n hb G¦S2F.args_list_append_2 _ _¦S1.For tg iter body [] pos¦S0OutS X M H0 Bz H GT D¦SZ.Compare a [.Eq] [b] pos¦SY.Compare a [.Lt] [b] pos¦P3.Compare a [.Gt] [b] pos¦P2envOfC qual sc Aa f cd¦P1.un .enum (.un .asT B6)¦P0rows.map fun r=>.str r.l¦PZadD (List.replicate j w)¦PYObjOk X.prog X.w FO h' a o¦PXOkD P w K mg base defs k 0 T¦Igfs.lookup f¦Ie.Expr e pos¦IcJnl I q rfl¦Ib.type \"str\"¦IatI X U G8¦HZupd H a By¦HYtF X U IW¦HWtI X U Wh¦HV.ite pc a b¦HUL2.fD N vs¦HS.type \"set\"¦HRl b o u F q¦HQ.ite pb a b¦HPF1 ns ls No¦PVbinaryOp .Add GQ CU¦PUsN X ls sc Cd s H fp E¦PRupd H l (frzO f o Bh)¦PQ.seq (.set Fo i e) rest¦PP.bi (.dGet To) SL AD¦PNj.map fun a=>lkD a rows¦HN(0,Value.none)¦HMKeyKind P w κ¦HLSqL X.K H a xs¦HKSqT X.K H a xs¦PMPSs X body (tS X U M H0 sb)¦PK⟨l,o,I,g,Out.now q rfl⟩¦PH[patD Df,p.d,patD (wp z)]¦PF.Constant .none j pos'¦PBargs_tuple_getitem _ _¦Py.Attribute o name apos¦Pwkey_of I.hok (F I.noH)¦PvZL _ (ZL _ (JbF hb e))¦PrtS X U M H0 (.own i p)¦Pqb.map fun r=>.tup Rm¦Pp.tryK QJ ts nt cs hh¦Po.con (.str (oS \"new\"))¦Pn.lift (.set Fo 4 SK)¦PmIsZip s.heap z TI TO .none¦Pl⟨z,g,n,r,k _ _ Bd e⟩¦Pk⟨[.ref l,.int k t],[]⟩¦Pj.Constant .none j pos¦PiZL _ (ZL _ (JbF L e))¦Ph.Call WE Fi [] pos¦Pg.Subscript e VW pos¦Pf.Call Ej [a] [] pos¦PeI.base.free b o q n x¦Pd.Call Ej Fi [] pos¦Pc.builtin \"isinstance\"¦Pb.type \"BaseException\"¦Pa.walk (.un .rows AD)¦O9.put Fo To 2 Gj BI¦O8.walk (.un .rows Gk)¦O7IsTup s.heap b ws.toArray¦O6⟨n,z,fun j m e i=>?_⟩¦O5[So b,So g,So f,No,No,No]¦O4[So Du,So AF,No,No,No]¦HJvisB nm x = To¦HI[.str l,adD w]¦O3.Constant AS j pos¦O0.Constant Cr j pos¦OZ.While c body [] pos¦OYPySem.W.instObj C dx¦OX.Call WE [] [] pos¦OW.call (.ref fa) QN¦OVstarEach [e,f] X.env¦OUJ.any fun d=>d.eqv a¦OTJeB (h.cells C I.ok)¦OSJ.any fun d=>d.eqv b¦ORfun b o e=>Zd _ Ex¦OQ.BinOp a .Mult b pos¦OP.ite SQ Lo .skip¦OO.put Fo Fo 3 C8 Gk¦ONoS \"_law_table_here\"¦OMPSs X rest (tLaw X H0 R)¦OL⟨[.ref l,.ref b],[]⟩¦OK[.str (S \"word\"),.str x]¦OJ[.str l,patD ps,patD gs]¦OI[DP,(oS \"signs\"),T5]¦OH[DP,(oS \"least\"),T5]¦OGstoreName X.env x u¦OFfun _ j=>NP X Y Q j¦OEh pos Y s Z H _ I m¦ODx.above y c (lP h)¦OC.Pass ⟨0,0,0,0⟩¦OBfun i=>bs.getD i Fo¦OAF.args_zip_next_1 _¦OzgS X M H0 [i,j,l] 3¦Oyfun f=>absurd f AO¦Oxfun f=>absurd Ah f¦Ov.Dict [So k] [v] p1¦OutSB X w U bc M H0 b¦Ot.Call Vr [a] [] A¦Os.un (.fld FV) Ar¦Oq.augF (S \"looks\") 1¦OooS \"_law_part_here\"¦On⟨Same.refl _,d,u,r⟩¦Om⟨_,_,_,rfl,rfl,rfl⟩¦Ol[So b,So f,No,No,No,No]¦HH.and pa pb¦HGpyIter Aw¦HFNe.symm d9¦HENe.symm d2¦HDNe.symm d3¦HBhid Bz H1¦HAr1.mono s2¦HyJfu rows i¦HxJtK u.same¦HwEQ X [] H0¦HvoS \"names\"¦Oj.Assign [tg] e pos¦OibinaryOp .FloorDiv¦OhstarEach [e] X.env¦Ogfun g C' _=>l g C'¦Of.Tuple elts k tpos¦OerawInt g.objs.size¦OdNat.succ_ne_self _¦OcJC (pE he) kB hs¦Ob.Assign SE e pos¦Oa.un .strI (.var 9)¦N9Jd _ _ rfl rfl rfl¦N8runB defs bdefs 11¦HuPE X value tv¦HtRep X.K H d v¦Hs⟨Z,H,I,h⟩¦Hr⟨xs,f,?_⟩¦Hq[patD ps,g.d]¦Ho⟨_,_,rfl⟩¦N7IsIt t1 s.heap i1 l1 k¦N6IsIt t2 s.heap i2 l2 k¦N5tS X U M H0 VJ D Z H¦N4s.heap.DictOfH kd d xs¦N3[So x,So y,So z,No,No]¦N2[.Call Uo [a] [] p3]¦N1[.Name x px,.Name y g]¦N0[.Call RH [] [] pos]¦NZ[.str p.name,p.valD w]¦Gpr.Good P E¦Gn[.tup CO]¦Gm[Ei,Ff]¦NY.BinOp a op b pos¦NXintBits_le_64 g l¦NWfun b u q=>Zd _ q¦NVfun b u e=>Zd _ e¦NUgetItem GQ IR¦NTfun _ o=>o.mono s¦NSgS X M H0 [i,j] 2¦NR.builtin \"sorted\"¦NQSetO X l (metS g)¦NOevalEach vs X.env¦NN.Tuple WO kt pt¦NK.bi .idx Ar MF¦NJ.bi .sub B4 Cv¦NI.bi .eq Sw Ks¦NH.bi .eq Mv Ks¦NG.lst (b.map .str)¦NF.tup (z.map .str)¦NDs.heap.IsList l items¦NCIsSq t s.heap a items¦NBEnvOk X.K M H0 H1 Z O¦NA⟨f3',f1',f4',f5'⟩¦Nz⟨.inl z,.inl rfl⟩¦Ny⟨.inr z,.inl rfl⟩¦Nx⟨o,L _ _ l,N,m,j⟩¦Nw[P,So Dq,So g.d,No]¦Nv.ext fun _=>True¦Nufun _ _ _ _ n=>n¦Nt.IfExp c a b pos¦Nr.int D1 s.toks¦NqcompareOp .NotIn¦Nphi Y s Z H _ I h¦NmJjS s.heap I.big¦Nlfun i q=>h i W5¦NknoteFrame Iu O¦NjtS X U M H0 VJ¦NitS X U M H0 SM¦Nh.Dict [] [] dpos¦Ng.bi .add V8 vp¦NfCx.mk2 X A' E' Y¦Nd.bi .le B4 A0¦Nc.bi .eq DT F9¦Nb.bi .ne DT F9¦Na.bi .idx AD A0¦M9.raise Gi SO¦M8.bi .idx B6 CN¦M7.bi .idx A0 Fh¦M6.raise IL .nil¦M5.bi .idx Gk Cv¦M4brF rows as IY¦M3IsTup s.heap t items¦M0OpR X SV (rD2 X q)¦MZIsIt t s.heap it a i¦MYIsPair s.heap TO a b¦MXIsSq t1 s.heap l1 xs¦MWIsSq t2 s.heap l2 ys¦MVL2.Inv EZ [] Z H s¦MUCalleeB G bc fi cn m¦MT⟨⟨_,he⟩,hit⟩¦MS⟨z,its,n,r,tr q⟩¦MR⟨rfl,fun _=>rfl⟩¦MQ[So b,So f,No,No,No]¦MP[.tup DJ,.tup Gr]¦MO[Ei,QI,B8,GS]¦Af'j'¦AO'v'¦Ae'c'¦Ah'g'¦W5'('¦WUX.env¦W6s.heap¦W7s.toks¦W8es.size¦XaX.prog¦XbValue.none¦XcX.stack¦XdPart.d¦Xea.length¦Xfp.isRest¦Xgp.isWord¦XhI.hok¦Xipos.line¦Xjx.length¦XkA.in1¦XlN.length¦Xmp.name¦Xnl.length¦Xosc.names¦XpC.calm¦Xqp.kind¦XrlE ns ls Bu (brD b Fe as n) o j m u No No¦XsI.bare¦XtPart.name¦XubrD a Fe [] 0¦Xvr.length¦XwI.free¦Xxx.cps.toList¦XyHh.objs.size¦XzI.loc¦XAs1.toks¦XBhit.typeIs¦XCNameKind.cell¦XDD.str¦XFX.base¦XGq.isWord¦XHL2.Key¦XIapos.atName¦XJscope.names¦XMPart.isRest¦XNg.name¦XOd.body¦XQe.same¦XRp.isList¦XSf.length¦XTI.freeC¦XUd.slots¦XXI.ok.kind¦XYA.in1.in1¦XZg.length¦X5g.isWord¦X6I.kIn¦X7h.len¦X8A.units¦X9s.drawn¦Yas'.heap¦Ybpl.isList¦Yces.toList¦YdF.slot_int_index.lookup¦Yek.toNat¦YfX.A.in1¦Yge.same0¦Yhacc.length¦Yig.toList¦Yjm.length¦Yke.readOk¦YlNameKind.free¦Ymo.data¦YnI.base¦YoI.cell¦Ypl.prog¦Yqq.name¦YrPL ps¦YsI.len¦YtRow.d¦YuZbp _¦YvJx st¦YwStr.empty¦Yx.inl z¦Yy.int 6¦YzSo p.d¦YA.int b¦YBCmpOp¦YCLsOk ls¦YDs5.heap¦YEKTr κ¦YFs.gens¦YGLead.d¦YHPySem.W.emptyDict¦YIF.entry_tuple_mul¦YJbrD b Fe as n¦YKj.length¦YLd.params¦YMb.length¦YNw.length¦YOLead.row¦YPa.heap.objs.size¦YQF.entry_int_rmul¦YRF.slot_tuple_mul¦YSPyProof.Rows.slot_tuple_getitem.lookup¦YTF.fills_int_mul¦YUadD w¦YVItt K a¦YW.ref CR¦YXlE ns ls y2 Xu j m b No No No¦YYlE ns ls y2 Xu f j b No No No¦YZList.nodup_nil¦Y0PySem.boot_len¦Y1r.Fine¦Y2g.kind¦Y3PE X o ta¦Y4PA X es t¦Y5PE X o td¦Y6PE X i ty¦Y7Same H H1¦Y8rv.length¦Z0fs.length¦Z1as.length¦Z2hr.length¦Z3e.readHid¦Z4kv.length¦Z5NoH K H¦Z6Fit p g¦Z7[x,y,z]¦Z8X.outer¦Z9s2.heap¦aAh.p.len¦aBKTr κ¦aD.dT []¦aEList D¦aF.int 0¦aGrelk O¦aH.inr z¦aIS.pe C¦aJ.int n¦aKvsD kv¦aL.str n¦aM.int 4¦aNF.entry_dict_keyiterator_next¦aOd.dep¦aPe.key¦aQupd H x o¦aRZr (Zk e)¦aS.lsm t xs¦aTf.trans g¦aUtI X U pc¦aVtT f U pc¦aWtI f U pe¦aXupd H l F¦aYO.set i o¦aZEQ X M H0¦a7Jti u l C¦a8oS \"rows\"¦a9oS \"told\"¦bAledF a ls¦bBlowB x.ps¦bCoS \"goal\"¦bDF.entry_tuple_iterator_next¦bEOption Value¦bFSqL K H a xs¦bGB.StaysIn h1¦bHSqT K H a xs¦bI⟨[a],[]⟩¦bJ⟨h,o,?_⟩¦bKI.ok.mod.kin¦bLl.row.toRowW¦bMOperator¦bNNameKind¦bOOption V¦bP[.int i]¦bQ[.ref l]¦bR[.ref d]¦bSy.length¦bTI.ok.mod¦bUo.isSome¦bVi.length¦bWO.length¦bXq.isRest¦bY.int i t¦bZuM kd k¦b0So [x,y]¦b5Itr lo n¦b6truthy v¦b7eval e O¦b8tT X U p¦b9i b o hb¦cA.error e¦cBtH X U p¦cCJ.drop i¦cDhid Bz W¦cEJmd C.un¦cGtM X U p¦cIhid Bz f¦cJhid [] _¦cKOw M O g¦cLhid [] H¦cOevD U BI¦cPo_lt _ _¦cQadK made¦cRjQ x.ps¦cSF.slot_tuple_hash.lookup¦cTslot_list_getitem.lookup¦cUOption Expr¦cVOut X H Q d¦cW⟨H,I,q⟩¦cXI.ok.frames¦cYList.length¦cZg.objs.size¦c5F.entry_set_update_loop¦c6F.slot_str_startswith¦c7typeIs_str _ _ _¦QaaI.ok.noex b o e¦Qabh Y s Z H Q I g¦Qac.Tuple es k pos¦Qad.ins C dx '下'¦Qaej Y m Z F _ l v¦Qaf.Dict [] [] pos¦QagputN f d' ns fs¦QahtI X U (.con d)¦Qaimem_of_lookup q¦Qaj.If c sa sb pos¦QakgS X M H0 [i] 0¦Qal.bi .isin pa pb¦Qam.lst (rs.map f)¦Qan.lst (rs.map g)¦Qao.int 2147483399¦Qap.int 2147483629¦Qaq.bl k¦Qar.rt d¦Qasval i¦QatSo Eh¦Qau.bl q¦Qavb rfl¦QawSo Du¦QaxSo AF¦QayTS prog w lb h a ks¦Qaz⟨_,_,rfl,rfl,h⟩¦QaA⟨B,e4,cc c4,hr⟩¦QaB⟨[],Jg,rfl,rfl⟩¦QaC⟨[.ref l,u],[]⟩¦QaDF.entry_list_append¦QaEtrk h H¦QaFItl K a¦QaG.bool g¦QaH.int Ab¦QaIrC1 X o¦QaJ.tup ys¦QaKJ.map f¦QaL.str Kw¦QaM.str Kt¦QaN.tup Kp¦QaO.str IQ¦QaP.int 31¦QaQpatD Df¦QaRSo r.pd¦QaShF base¦QaTPIE X Y Z tg R¦QaUcompareOp .LtE¦QaVcompareOp .GtE¦QaW.cons rfl .nil¦QaXNe.symm (Zr b)¦QaYx.cps.getD 0 0¦QaZw.cps.getD 0 0¦Qa0e.same.trans s¦Qa1.type \"object\"¦Qa2.Dict [] [] p1¦Qa3e2.mono (sm _)¦Qa4O.set i (So g)¦Qa5.lst (Jl 0 xs)¦Qa6mF q _ _ 2 rfl¦Qa7Jc _ _ rfl rfl¦Qa8JE 11 [ofN ns]¦Qa9oS \"goal_hole\"¦QbaoS \"_law_many\"¦QbboS \"_law_most\"¦QbcoS \"_law_some\"¦QbdVals xs us¦QbeVals vs us¦QbfSameP H H1¦QbgList MethE¦Qbh[.int i,v]¦QbiI.ok.above¦Qbjits.toList¦QbkJ.unpinned¦Qblws.toArray¦QbmX.env.qual¦Qbox.cps.size¦QbpPT X c (tT X U pc)¦QbqPA X es (tA X U p)¦QbrHeapKind prog w κ¦Qbs⟨kvs,.inl f,g⟩¦Qbt⟨kvs,.inr f,g⟩¦QbuF.slot_list_append¦QbvF.slot_tuple_index¦QbwI.hok.fresh g¦Qbx.Continue pos¦QbybinaryOp .Sub¦QbzbinaryOp .Mod¦QbAcompareOp .Gt¦QbBcompareOp .In¦QbC.int z.length¦QbDOut.now f rfl¦QbEi.getD j .non¦QbFp1 _ _ _ _ QG¦QbGstrIterType x¦QbHtS X U M H0 b¦QbI.bi .eq pa pb¦QbJ.bi .lt pa pb¦QbK.bi .gt pa pb¦QbL.bi .ge pa pb¦QbMdictSet d L M¦QbNxs.eraseIdx j¦QbOtS X U M H0 q¦QbP.Dict [] [] g¦QbQexD U rest F2¦QbR.cons E3 .nil¦QbS.un .isTup AD¦QbT.un .range L0¦QbU.un .range MN¦QbVoS \"_law_way\"¦QbWoS \"set_rows\"¦QbXoS \"__init__\"¦QbY⟨z,J,g,q,B,F⟩¦QbZ⟨H,I.tok _,q⟩¦Qb0⟨[.ref z],[]⟩¦Qb1⟨rfl,_,Qn,p2⟩¦Qb2⟨Dj,W.push _⟩¦Qb3[.tup CO,.tup Gr]¦Qb4[patD gs,.lst Fg]¦Qb5[E7,(oS \"other\")]¦Qb6F.slot_tuple_hash¦Qb7List.Pairwise.nil¦Qb8f.heap¦Qb9.List es pos¦Qca.ins C dx []¦QcbJdW xs lo hi¦QccObj.mapSeq f¦QcdputK kvs k y¦Qceeval iter WU¦Qcf.un .notN pa¦QcgrunD defs AV¦Qch.type (oF d)¦Qciws.map V.str¦Qcjr _ _ _ hD f¦QckJ.eraseIdx j¦QclexD U rest O¦QcmIte X.K To l¦Qcn.set Fo 2 Qa¦Qco.set Fo 3 MD¦Qcp.app Fo 2 Hm¦Qcq.set Fo 5 SK¦Qcr.set Fo 4 RZ¦Qcs.un .enum A0¦Qct.app Fo 4 Me¦Qcu.set Fo 4 QX¦QcvJp _ _ rfl f¦Qcwrows'.map Yt¦QcxbrD b j [] 0¦QcybrD b Fe s C¦QczrunD defs 11¦QcAList DM¦QcBCls K C¦QcCOwC L H¦QcDi ∈ M¦QcEKG kv g¦QcF[So D6]¦QcG[B8,Ff]¦QcHv.toNat¦QcIO.cells¦QcJs4.heap¦QcKt.place¦QcLpx.line¦QcM(.nx,O.set i Bj)¦QcN(.nx,O.set i D5)¦QcO(.nx,F1 ns b y2)¦QcP⟨w,z,B,r,?_⟩¦QcQ⟨xD uS _,?_⟩¦QcR[ofN ns,.int 10]¦QcS[B8,(oS \"many\")]¦QcTX.env.scope.kind¦QcUpl.isList.typeIs¦QcVF.entry_zip_next¦QcWF.slot_dict_iter¦QcX.inl i¦QcY.inr x¦QcZ.own a¦Qc0.inl h¦Qc1.inl e¦Qc2vT _ _¦Qc3.dT W4¦Qc4.dK []¦Qc5.inr h¦Qc6newS w¦Qc7.str z¦Qc8.ref D¦Qc9.pur p¦Qda.ret e¦Qdb.var 6¦Qdc.var 9¦Qdd.int t¦Qde.str l¦QdfksD kv¦Qdgfun _=>No¦Qdh(0,.none)¦Qdi([B8],[])¦QdjMut (H x)¦QdkPS X st t¦QdlRoom AV A¦QdmE Bm No W¦QdnPE X e IE¦QdoPE X b GW¦QdpSameN H W¦Qdq[V.ref l]¦QdrI.ok.funs¦Qdsus.length¦Qdtbs.length¦QduI.cne x c e¦QdvbinaryOp op¦QdwcompareOp g¦QdxgetItem o i¦Qdy.un .not pa¦Qdzh2.append f¦QdANe.symm d10¦QdB.whl n I sb¦QdCa3.trans hl¦QdDwD g (Zb h)¦QdEnst b o f r¦QdFdefs.drop i¦QdGs _ _ h rfl¦QdH.raise cx l¦QdI.seq a rest¦QdJ.app Fo i e¦QdK.cons Ar Gf¦QdL.un .len A0¦QdM.call 31 DN¦QdN.un .isN A0¦QdO.call 28 Dt¦QdP.app Fo 3 e¦QdQ.insi i k v¦QdRwG (kvOf b)¦QdS.un .asI lo¦QdTF1 ns ls Bu¦QdUoS \"things\"¦QdVoS \"labels\"¦QdW(.nx,Jt ts f O)¦QdXfun r=>.str r.l¦QdYList (Option V)¦QdZPySem.W.OpenLaw¦Qd0IsIt t h it a i¦Qd1Callee G U fi x¦Qd2Landed X H B h1¦Qd3h1.UpToSlots h2¦Qd4⟨its,r,p,z⟩¦Qd5⟨b,e _ g,f⟩¦Qd6⟨B,g,d,l,y⟩¦Qd7[ofN ns,.int k]¦Qd8[ofN ns,.int b]¦Qd9[.str r.l,r.pd]¦Qea[.str k,.str n]¦Qeb[So p.d,So g.d]¦Qec[patD qs,adD a]¦Qed[tblD ls,adD a]¦QeeF.slot_tuple_eq¦QefF.slot_set_iter¦QegF.slot_dict_len¦Qeh⟨fun h0=>?_,?_⟩".splitOn "¦"
def sgS(c:Char):String:=match sgT.find? fun s=>s.front==c with
|some s=>String.ofList (s.toList.drop 1)
|none=>""
set_option hygiene false in
local macro_rules
|`($c:char)=>match c.getChar with
|'c'=>`((by lia))
|'g'=>`((by decide +kernel))
|'j'=>`((by simp))
|'v'=>`((by decide))
|'@'=>`((x == ("__debug__" : Str)))
|'('=>`((by simp [usesP,q]))
|c=>match sgS c with
 |""=>Lean.Macro.throwUnsupported
 |s=>pure (sgP 999 #[] s.toList).1
set_option hygiene false in
local macro_rules
|`($x:ident)=>match x.getId with
 |.str .anonymous k=>if k.utf8ByteSize==2||(k.utf8ByteSize==3&&k.front=='Q') then match sgU.find? fun s=>s.startsWith k with
  |some s=>pure (sgP 999 #[] (s.toList.drop k.length)).1
  |none=>Lean.Macro.throwUnsupported
  else Lean.Macro.throwUnsupported
 |_=>Lean.Macro.throwUnsupported
theorem azn{G:Prop}:((G->False)->False)->G:=Classical.byContradiction
section
open Lean
def azr(p:Syntax):Bool:=(p.find? fun s=>s.isIdent&&s.getId==`rfl).isSome&&((p.reprint.getD "").splitOn ",").length<5
local macro_rules
|`(tactic|obtain $p:rcasesPatMed:=$e:term)=>if azr p then Macro.throwUnsupported else`(tactic|(refine azn fun N=>?_;obtain $p:rcasesPatMed:_:=$e:term<;>(refine N ?_;clear N)))
local macro_rules
|`(tactic|show $t:term)=>`(tactic|refine (?_:$t))
end
noncomputable section
def az(h:Nat:=by rfl)(i:Nat:=by decide)(j:Nat:=by decide+kernel)(k:Nat:=by first|exact .inl rfl|exact .inr rfl|assumption):=h
section
open PySem PySem.Spec PyProof.Rows
abbrev Za:=@wpAny_bind
abbrev Zb:=@wpAny_pure
abbrev Zc:=@Bool.and_eq_true
abbrev Zd:=@Heap.get?_push_of_some
abbrev Ze:=@List.length_map
abbrev Zf:=@List.mem_cons
abbrev Zg:=@List.map_cons
abbrev Zh:=@Bool.false_eq_true
abbrev Zi:=@Heap.get?_push_size
abbrev Zj:=@Nat.le_refl
abbrev Zk:=@Heap.lt_size
abbrev Zl:=@List.length_cons
abbrev Zm:=@List.lookup_cons
abbrev Zn:=@List.size_toArray
abbrev Zo:=@if_false
abbrev Zp:=@decide_eq_true_eq
abbrev Zq:=@List.getElem?_eq_getElem
abbrev Zr:=@Nat.ne_of_lt
abbrev Zs:=@decide_eq_true
abbrev Zt:=@decide_eq_false
abbrev Zu:=@List.getElem?_set_ne
abbrev Zv:=@PySem.W.mg_of
abbrev Zw:=@Nat.lt_of_lt_of_le
abbrev Zx:=@List.mem_singleton
abbrev Zy:=@List.length_append
abbrev Zz:=@List.getElem?_eq_some_iff
abbrev ZA:=@List.not_mem_nil
abbrev ZB:=@beq_self_eq_true
abbrev ZC:=@beq_eq_false_iff_ne
abbrev ZD:=@beq_iff_eq
abbrev ZE:=@List.mem_map
abbrev ZF:=@Bool.or_eq_false_iff
abbrev ZG:=@Heap.get?_update_other
abbrev ZH:=@Bool.false_ne_true
abbrev ZI:=@wpAny_call_entry
abbrev ZJ:=@wpAny_callSpecial?_slot
abbrev ZK:=@sizeLine_eq
abbrev ZL:=@List.mem_append_right
abbrev ZM:=@Nat.le_trans
abbrev ZN:=@List.mem_cons_of_mem
abbrev ZO:=@Heap.size_push
abbrev ZP:=@decide_eq_false_iff_not
abbrev ZQ:=@Heap.get?_update_self
abbrev ZR:=@wpAny_newObj_type
abbrev ZS:=@List.mem_append
abbrev ZT:=@Option.some.injEq
abbrev ZU:=@Bool.false_and
abbrev ZV:=@wpAny_mono
abbrev ZW:=@List.filterMap_cons
abbrev ZX:=@List.getElem?_set_self
abbrev ZY:=@List.take_of_length_le
abbrev ZZ:=@List.all_eq_true
abbrev rA:=@Bool.not_eq_true'
abbrev qB:=@List.mem_filterMap
abbrev qA:=@Nat.zero_le
abbrev gC:=@List.mem_map_of_mem
abbrev pA:=@Option.some.inj
abbrev oA:=@Bool.not_true
abbrev pB:=@wpAny_truthy_bool
abbrev nP:=@Nat.lt_irrefl
abbrev oB:=@List.getElem?_map
abbrev kA:=@wpAny_field
abbrev iA:=@True.intro
abbrev fF:=@List.getElem?_append_right
abbrev fC:=@List.append_assoc
abbrev eC:=@Nat.lt_succ_of_lt
abbrev dC:=@Int.toNat_natCast
abbrev eF:=@List.getElem?_append_left
abbrev eA:=@or_false
abbrev dF:=@Array.getElem?_eq_getElem
abbrev yD:=@Option.map_eq_some_iff
abbrev uC:=@Nat.lt_of_le_of_lt
abbrev nB:=@Bool.or_eq_true
abbrev mB:=@List.nil_append
abbrev lB:=@List.map_append
abbrev zB:=@decide_eq_decide
abbrev zE:=@AutoSeq1.wpAny_loadPart'
abbrev yB:=@List.cons_append
abbrev kD:=@Array.length_toList
abbrev vC:=@List.flatMap_cons
abbrev vA:=@wpAny_holding
abbrev uB:=@wpAny_seqItems
abbrev wL:=@List.mem_append_left
abbrev lC:=@List.nodup_cons
abbrev fE:=@Heap.SameBut.update
abbrev rB:=@List.any_cons
abbrev kC:=@wpAny_setField
abbrev jC:=@Bool.false_or
abbrev kF:=@List.replicate_succ
abbrev jD:=@List.length_nil
abbrev zG:=@List.length_replicate
abbrev yG:=@Array.getElem?_toList
abbrev jF:=@List.pairwise_cons
abbrev iF:=@List.contains_cons
abbrev uA:=@wpAny_rule
abbrev sA:=@call_meets
abbrev xG:=@Around.under_plainId
abbrev gF:=@List.nodup_append
abbrev vL:=@PyProof.Rows.callWith_type1
abbrev uG:=@wpAny_loadPart'
abbrev eE:=@List.find?_cons
abbrev dE:=@List.length_set
abbrev zD:=@Nat.min_eq_left
abbrev iC:=@Nat.le_succ
abbrev pL:=@List.getD_eq_getElem?_getD
abbrev nL:=@PySem.F.excBase_ValueError
abbrev vE:=@wpAny_isInstance
abbrev nG:=@List.zip_cons_cons
abbrev mG:=@List.mem_cons_self
abbrev gP:=@PyProof.Rows.slot_tuple_getitem
abbrev uE:=@List.append_nil
abbrev iD:=@Nat.ne_of_gt
abbrev mL:=@AutoSeq1.sub_tuple_tuple
abbrev tE:=@codeAny_builtin
abbrev xD:=@plainId_quiet
abbrev fP:=@wpAny_typeNameOfWhole_keyiter
abbrev lL:=@AutoSeq1.sub_tuple_list
abbrev kL:=@AutoSeq1.sub_list_tuple
abbrev jL:=@List.getElem?_cons_zero
abbrev Zbp:=@Nat.lt_succ_self
abbrev lG:=@List.any_eq_true
abbrev eP:=@F.slot_dict_keyiterator_next
abbrev kG:=@List.mem_flatMap
abbrev iL:=@AutoSeq1.sub_list_list
abbrev wD:=@wpAny_typeOf
abbrev vD:=@List.map_nil
abbrev lI:=@Obj.data_mapFields
abbrev kI:=@wpAny_setField_rec
abbrev uD:=@List.map_map
abbrev jG:=@List.cons.injEq
abbrev tG:=@wpAny_passesOwn
abbrev sG:=@wpAny_ite_split
abbrev uL:=@List.getElem?_eq_none
abbrev rG:=@wpAny_updateSeq
abbrev yE:=@Bool.or_false
abbrev mP:=@F.slot_tuple_iterator_next
abbrev xE:=@wpAny_attempt
abbrev vI:=@List.flatten_cons
abbrev uI:=@wpAny_pyIter_list
abbrev sI:=@wpAny_setState_of
abbrev tL:=@List.mem_of_getElem?
abbrev sL:=@List.contains_eq_mem
abbrev qG:=@Bool.not_false
abbrev xB:=@congrArg
abbrev qI:=@List.drop_length
abbrev pI:=@wpAny_askSetting
abbrev oI:=@Nat.min_eq_right
abbrev rL:=@PySem.W.hideAll_get
abbrev lP:=@PySem.mem_of_lookup
abbrev qL:=@wpAny_setEntries_of
abbrev kP:=@List.getElem?_replicate
abbrev jP:=@List.getElem?_cons_succ
abbrev iP:=@PySem.F.plainAttrs_list
abbrev pG:=@Paired.length
abbrev oG:=@List.all_cons
abbrev nI:=@wpAny_specialOf
abbrev xK:=@wpAny_pyIter_tuple
abbrev wK:=@wpAny_Call_Name_kw
abbrev iI:=@List.foldl_cons
abbrev gI:=@PySem.W.kia_one
abbrev eI:=@F.slot_int_rmul
abbrev pO:=@List.drop_of_length_le
abbrev vK:=@of_decide_eq_true
abbrev uK:=@List.length_range
abbrev tK:=@List.take_add_one
abbrev rK:=@Bool.eq_false_iff
abbrev dI:=@Bool.and_false
abbrev dG:=@codeAny_mono
abbrev oO:=@List.length_singleton
abbrev zF:=@Bool.true_or
abbrev yF:=@List.any_map
abbrev nO:=@builtinLookup_eq_fast
abbrev zH:=@wpAny_fieldsOf
abbrev qK:=@List.length_take
abbrev pK:=@AutoSeq1.idx_int
abbrev oK:=@List.getElem_mem
abbrev nK:=@List.filter_cons
abbrev mT:=@Array.getElem?_eq_some_iff
abbrev yH:=@Bool.true_and
abbrev mO:=@F.plain_extend_loop
abbrev mK:=@List.mem_filter
abbrev lK:=@wpAny_execs_nil
abbrev eL:=@List.forIn_cons
abbrev dU:=@List.drop_eq_getElem_cons
abbrev zT:=@wpAny_binaryOp_repeat_ref
abbrev yT:=@List.sublist_append_right
abbrev dP:=@wpAny_tupleItemsOf
abbrev vT:=@PySem.F.args_tuple_add_2
abbrev jI:=@Nat.zero_add
abbrev iG:=@typeIs_int
abbrev zK:=@List.drop_zero
abbrev uT:=@PySem.F.entry_tuple_add
abbrev sT:=@F.plain_set_update_loop
abbrev zO:=@Option.isSome_map
abbrev yO:=@Nat.le_of_succ_le
abbrev xO:=@Function.comp_def
abbrev wO:=@wpAny_dictEntries
abbrev vO:=@List.pairwise_map
abbrev rT:=@PySem.F.slot_tuple_add
abbrev qT:=@List.range_succ_eq_map
abbrev yK:=@Bool.and_self
abbrev uO:=@List.length_drop
abbrev sO:=@List.take_length
abbrev rO:=@Bool.not_eq_true
abbrev qO:=@Classical.skolem
abbrev gG:=@eq_of_beq
abbrev pT:=@Obj.isFreed_of_fields
abbrev fG:=@And.intro
abbrev lT:=@Calls.evalArgs_plain
abbrev lO:=@pushCells_keeps
abbrev kK:=@List.all_map
abbrev kO:=@Bool.eq_iff_iff
abbrev kT:=@wpAny_updateSeq_pair
abbrev jO:=@F.slot_zip_next
abbrev iO:=@typeLookup_type
abbrev gO:=@List.forIn_nil
abbrev fO:=@isSubtype_stop
abbrev eO:=@List.Perm.refl
abbrev dO:=@isSubtype_type
end
set_option genSizeOf false
namespace _r
namespace L2
open PySem PySem.Spec PyProof.Rows
variable{s:Ak}{pos p:Pos}{A:BX}{Y:AQ}{x:Str}{w:AY}{a b C f dx:Addr}{h h' base:Heap}{E Q:AZ}{K:Ai}{P prog:Bk}{u:An}{e tg c:Expr}{k t' i:Nat}{op:YB}{us:Az}{es:C6}{ps:Ad}{M:Model}{mg mA:BY}{fd:B2}{ch fp:A3}{body:Cj}{kw:IV}
inductive Key where
 |inl (i:Int)|inr (x:Str)|non
noncomputable instance:DecidableEq Key:=λ_ _=>Classical.propDecidable _
noncomputable def wI:Key->Value->Bool
 |.inl k,v=>Value.isInt k v
 |.inr x,v=>Value.isStrOf x v
 |.non,.none=>To
 |.non,_=>Fo
noncomputable def keyH (w:AY):Key->Int
 |.inl k=>hashInt k
 |.inr x=>hashStr w x
 |.non=>reduceHash 0xFCA86420
def JA:∀{k:Key}{v:An},wI k v=To->(∃i t,k=.inl i/\v=Value.int i t)\/(∃x t,k=.inr x/\v=Value.str x t)\/(k=.non/\v=.none)
 |.inl i,v,h=>by
  obtain⟨t,e⟩:=Value.isInt_shape (k:=i) (v:=v) h
  exact .inl ⟨i,t,rfl,e⟩
 |.inr x,v,h=>by
  obtain⟨t,e⟩:=Value.isStrOf_shape (x:=x) (v:=v) h
  exact .inr (.inl ⟨x,t,rfl,e⟩)
 |.non,v,h=>by cases v<;>first|exact .inr (.inr Ce)|cases h
def JlJ(i:Int)(t:Tok):wI QcX bY=To:=by simp[wI,Value.isInt]
def JmP(x:Str)(t:Tok):wI QcY (.str x t)=To:=by simp[wI,Value.isStrOf]
def JqX(a b:Int):decide (Key.inl a=.inl b)=(a==b):=by
 by_cases e:a=b
 ·subst e;simp
 ·rw[Zt λq=>e (by injection q)];exact(ZC.mpr e).symm
def JqZ(a b:Str):decide (Key.inr a=.inr b)=decide (a=b):=zB.mpr ⟨λq=>by injection q,λq=>by rw[q]⟩
def Jph{Q:Int->Shared->Prop}(h:Q (reduceHash 0xFCA86420) {s with toks:=W7+1}):wpAny As A (pyHash .none) Q E s:=
 PySem.W.pyHash_slot (T:="NoneType") rfl F.slot_NoneType_hash F.entry_NoneType_hash (F.args_NoneType_hash_1 _) (beq_builtin_none _) Bd (Za (Zb (Za (wpAny_mkInt (Zb ⟨_,_,rfl,h⟩)))))
def JH (prog:Bk) (w:AY):PySem.KeyKind prog w Key where
 is:=wI
 hash:=keyH w
 inj:=λv a b l o=>by
  rcases JA l with⟨i,t,rfl,rfl⟩|⟨x,t,rfl,rfl⟩|⟨rfl,rfl⟩<;>rcases JA o with⟨j,u,rfl,e⟩|⟨y,u,rfl,e⟩|⟨rfl,e⟩<;>first|rfl|(cases e;done)|(cases e;rfl)
 byValue:=λk v h=>by
  rcases JA h with⟨i,t,rfl,rfl⟩|⟨x,t,rfl,rfl⟩|⟨rfl,rfl⟩<;>rfl
 pyHash:=λg h=>by
  rcases JA g with⟨i,t,rfl,rfl⟩|⟨x,t,rfl,rfl⟩|⟨rfl,rfl⟩
  ·exact wpAny_pyHash_int h
  ·exact wpAny_pyHash_str h
  ·exact Jph h
 eqBool:=λn g h=>by
  rcases JA n with⟨i,t,rfl,rfl⟩|⟨x,t,rfl,rfl⟩|⟨rfl,rfl⟩
  ·rcases JA g with⟨j,u,rfl,rfl⟩|⟨y,u,rfl,rfl⟩|⟨rfl,rfl⟩
   ·rw[JqX]at h;exact wpAny_eqBool_int h
   ·exact SeqAt.EqAt.int_str i t y u _ _ _ _ (by rw[Zt (λq=>nomatch q)]at h;exact h)
   ·exact SeqAt.EqAt.int_none i t _ _ _ _ (by rw[Zt (λq=>nomatch q)]at h;exact h)
  ·rcases JA g with⟨j,u,rfl,rfl⟩|⟨y,u,rfl,rfl⟩|⟨rfl,rfl⟩
   ·exact SeqAt.EqAt.str_int x t j u _ _ _ _ (by rw[Zt (λq=>nomatch q)]at h;exact h)
   ·rw[JqZ]at h;exact wpAny_eqBool_str h
   ·exact SeqAt.EqAt.str_none x t _ _ _ _ (by rw[Zt (λq=>nomatch q)]at h;exact h)
  ·rcases JA g with⟨j,u,rfl,rfl⟩|⟨y,u,rfl,rfl⟩|⟨rfl,rfl⟩
   ·exact SeqAt.EqAt.none_int j u _ _ _ _ (by rw[Zt (λq=>nomatch q)]at h;exact h)
   ·exact SeqAt.EqAt.none_str y u _ _ _ _ (by rw[Zt (λq=>nomatch q)]at h;exact h)
   ·exact SeqAt.EqAt.same _ _ _ _ _ (by rw[Zs rfl]at h;exact h)
 «strs»:=λk x t v h=>by
  rcases JA h with⟨i,u,rfl,e⟩|⟨y,u,rfl,e⟩|⟨rfl,e⟩
  ·exact nomatch e
  ·injection e with m _
   subst m
   cases v<;>rfl
  ·exact nomatch e
def JhQ(prog:Bk)(w:AY)(i:Int)(t:Tok):'ώ'.is QcX bY=To:=JlJ i t
def JdD(prog:Bk)(w:AY)(x:Str)(t:Tok):'ώ'.is QcY (.str x t)=To:=JmP x t
inductive KTr(κ:Type)where
 |a (k:κ)|t (ks:List (KTr κ))
noncomputable instance {κ:Type}:DecidableEq aB:=λ_ _=>Classical.propDecidable _
section
variable{P:Bk}{w:AY}{κ:Type}[DecidableEq κ](kd:HM)
mutual
def kDep:KTr κ->Nat
 |.a _=>0
 |.t g=>nD g+1
def nD:List (KTr κ)->Nat
 |[]=>0
 |k::ks=>max (kDep k) (nD ks)
end
mutual
def uM:KTr κ->Int
 |.a k=>kd.hash k
 |.t g=>reduceHash (Builtin.Tuple.tupleHashOf (yC g))
def yC:List (KTr κ)->List Int
 |[]=>[]
 |k::ks=>uM k::yC ks
end
mutual
def kDrw:KTr κ->Nat
 |.a _=>1
 |.t g=>jE g+1
def jE:List (KTr κ)->Nat
 |[]=>0
 |k::ks=>kDrw k+jE ks
end
mutual
def KAt(h:Heap):KTr κ->Value->Prop
 |.a k,v=>kd.is k v=To
 |.t ks,v=>∃a o g n,v=.ref a/\h.get? a=So o/\o.cls=.type "tuple"/\o.data=.seq g n/\KAts h ks Yi
def KAts(h:Heap):List (KTr κ)->List Value->Prop
 |[],vs=>vs=[]
 |k::ks,vs=>∃v r,vs=v::r/\KAt h k v/\KAts h ks r
end
variable{kd}
def KAt.ref{j:FQ}(x:KAt kd h (.t j) Aw):∃o g n,h.get? a=So o/\o.cls=.type "tuple"/\o.data=.seq g n/\KAts kd h j Yi:=by obtain⟨b,o,g,n,e,x⟩:=x;cases e;exact⟨o,g,n,x⟩
mutual
theorem KAt.inj{h:Heap}:∀(x:YE){y:YE}{v:An},KAt kd h x v->KAt kd h y v->x=y
 |.a k,.a j,v,hx,hy=>by rw[kd.inj _ _ _ hx hy]
 |.a k,.t js,v,hx,hy=>by
  obtain⟨a,o,g,n,rfl,_⟩:=hy
  have:=kd.byValue _ _ hx
  simp[carriedByValue]at this
 |.t ks,.a j,v,hx,hy=>by
  obtain⟨a,o,g,n,rfl,_⟩:=hx
  have:=kd.byValue _ _ hy
  simp[carriedByValue]at this
 |.t ks,.t js,v,hx,hy=>by
  obtain⟨a,o,g,n,rfl,r,J,z,B⟩:=hx
  obtain⟨G,q,I,m,H,l,F⟩:=hy.ref
  rw[r]at m;cases m
  rw[z]at l
  cases l
  rw[KAts.inj ks B F]
theorem KAts.inj{h:Heap}:∀(x:FQ){y:FQ}{vs:Az},KAts kd h x vs->KAts kd h y vs->x=y
 |[],[],_,_,_=>rfl
 |[],k::ks,_,hx,⟨_,_,e,_⟩=>by cases hx;cases e
 |k::ks,[],_,⟨_,_,e,_⟩,hy=>by cases hy;cases e
 |k::ks,j::js,vs,⟨v,r,e,h1,h2⟩,⟨u,q,e',g1,g2⟩=>by
  subst e
  injection e' with g l
  subst g;subst l
  rw[KAt.inj k h1 g1,KAts.inj ks h2 g2]
end
mutual
theorem KAt.keep{h h':Heap}(j:∀a o g n,h.get? a=So o->Ym=.seq g n->h'.get? a=So o):∀(x:YE){v:An},KAt kd h x v->KAt kd h' x v
 |.a k,_,x=>x
 |.t ks,_,⟨a,o,g,n,e,h1,h2,h3,h4⟩=>⟨a,o,g,n,e,j _ _ _ _ h1 h3,h2,h3,KAts.keep j ks h4⟩
theorem KAts.keep{h h':Heap}(j:∀a o g n,h.get? a=So o->Ym=.seq g n->h'.get? a=So o):∀(x:FQ){vs:Az},KAts kd h x vs->KAts kd h' x vs
 |[],_,x=>x
 |k::ks,_,⟨v,r,e,h1,h2⟩=>⟨v,r,e,KAt.keep j k h1,KAts.keep j ks h2⟩
end
def JfP{d:Addr}{o:Obj}{es:LY}{m:Nat}(r:h.get? d=So o)(y:o.data=.dict es m)(v:Heap.SameBut d h h'):∀a o g n,h.get? a=So o->Ym=.seq g n->h'.get? a=So o:=λa q g n j l=>by
 have:a≠d:=λz=>by subst z;rw[r]at j;cases j;rw[y]at l;cases l
 exact(v.2 a this).trans j
section
variable{A:BX}{E:AZ}
def Jtb{q:FQ}{Q:Int->Shared->Prop}(Z:A.units<cLine)(x:KAt kd W6 (.t q) Aw)(h:Q (uM kd (.t q)) {s with toks:=W7+kDrw (.t q)})
  (G:∀k∈q,∀v B W,KAt kd B.heap k v->W bZ {B with toks:=B.toks+kDrw k}->wpAny Bv Xk (pyHash v) W E B):wpAny Bv A (pyHash Aw) Q E s:=by
 obtain⟨o,its,n,U,X,hd,hi⟩:=x.ref;have J:s.TypeIs Aw "tuple":=⟨o,U,X⟩;(unfold pyHash);(first|unfold pyHashByItsType|skip);(first|refine Za (wpAny_cRoomFor_or (.inr Z) ?_)|skip);(refine Za (nI J cS ?_));(show wpAny _ _ (if(So (Value.builtin "tuple.__hash__")==So Xb)=To then _ else _) Q E s);(rw[if_neg (by rw[beq_builtin_none];exact ZH)]);(refine Za (nI J cS ?_));(show wpAny _ _ (callSpecialIfBoundUnlessNone? Aw "__hash__" _>>=_) Q E s);(refine Za (wpAny_callSpecialIfBoundUnlessNone?_slot J Qb6 (ZI Qb6 J F.entry_tuple_hash ?_ (F.args_tuple_hash_1 _))));(show wpAny _ _ (Builtin.Tuple.tupleItemsOf Aw>>=_) _ _ s);(refine Za (dP U hd (Za ?_)));rw[<-Array.forIn_toList];refine wpAny_forIn_list _ (λrest(b:Array Int)B=>∃g left,q=g++left/\KAts kd W6 left rest/\b.toList=yC kd g/\B={s with toks:=W7+jE g}) _ ?_ ?_ _ _ ⟨[],q,rfl,hi,rfl,rfl⟩
 ·rintro y rest b B⟨g,left,e,I,O,rfl⟩;cases left with
  |nil=>cases I
  |cons k left=>
   obtain⟨v,r,N,h1,h2⟩:=I;cases N;have eh:∀l:List aB,yC kd (l++[k])=yC kd l++[uM kd k]:=λl=>by induction l with
    |nil=>rfl
    |cons z l G=>simp[yC,G]
   have ed:∀l:List aB,jE (l++[k])=jE l+kDrw k:=λl=>by induction l with
    |nil=>simp[jE]
    |cons z l G=>simp[jE,G,Nat.add_assoc]
   refine Za (G k (by rw[e];simp) _ _ _ h1 ?_);have H:∃j m,q=j++m/\KAts kd W6 m rest/\(b.push bZ).toList=yC kd j/\({s with toks:=W7+jE g+kDrw k}:Shared)={s with toks:=W7+jE j}:=⟨g++[k],left,by simp[e],h2,by simp[O,eh],by rw[ed,Nat.add_assoc]⟩;first
    |exact Zb H
    |exact Za (Zb (Zb H))
 ·rintro b B⟨g,left,e,I,O,rfl⟩;cases left with
  |cons k left=>obtain⟨_,_,N,_⟩:=I;cases N
  |nil=>
   rw[uE]at e;subst e;show wpAny _ _ (retInt (Builtin.Tuple.tupleHashOf b.toList)) _ _ _;(rw[O]);(refine wpAny_ret_mkInt ?_);show wpAny _ _ (if(decide (-(2:Int)^63<=Builtin.Tuple.tupleHashOf (yC kd q))&&decide (Builtin.Tuple.tupleHashOf (yC kd q)<2^63))=To then _ else _) Q E _;simp only[uM,kDrw]at h;unfold reduceHash at h;by_cases L:(decide (-(2:Int)^63<=Builtin.Tuple.tupleHashOf (yC kd q))&&decide (Builtin.Tuple.tupleHashOf (yC kd q)<2^63))=To
   ·(rw[if_pos L]);(rw[if_pos L]at h);(exact Zb (by simpa[Nat.add_assoc]using h))
   ·(rw[if_neg L]);(rw[if_neg L]at h);(exact Za (uA (Zb (by simpa[Nat.add_assoc]using h))))
theorem JmU{g:FQ}{k:YE}(h:k∈g):kDep k<=nD g:=by
 induction g with
 |nil=>cases h
 |cons z g j=>
  simp only[nD];rcases Zf.mp h with rfl|h
  ·lia
  ·have:=j h;lia
theorem Jrl:∀(n:Nat)(k:YE)(A:BX)(v:An)(s:Ak)(Q:Int->Shared->Prop),kDep k<=n->X8+4*n<cLine->KAt kd W6 k v->Q bZ {s with toks:=W7+kDrw k}->wpAny Bv A (pyHash v) Q E s
 |n,.a k,A,v,s,Q,_,_,x,h=>kd.pyHash x h
 |0,.t ks,A,v,s,Q,hn,_,_,_=>by simp[kDep]at hn
 |n+1,.t ks,A,v,s,Q,hn,hu,x,h=>by
  obtain⟨a,_,_,_,rfl,_⟩:=id x
  simp only[kDep]at hn
  exact Jtb Ae x h λk j l g o m h'=>Jrl n k Xk l g o (by have:=JmU j;lia) (by have:A.in1.units=X8+1:=rfl;lia) m h'
def JsO{xs ys:FQ}{Q:E1}(hu:A.units<cLine)(hx:KAt kd W6 (.t xs) Aw)(hy:KAt kd W6 (.t ys) CU)(h:Q (decide ((KTr.t xs:KTr κ)=.t ys)) s)
  (ih:∀k∈xs,∀j v u Q',KAt kd W6 k v->KAt kd W6 j u->Q' (decide (k=j)) s->wpAny Bv Xk (eqBool v u) Q' E s):wpAny Bv A (eqBool Aw CU) Q E s:=by
 have e0:decide ((KTr.t xs:KTr κ)=.t ys)=decide (xs=ys):=zB.mpr ⟨λz=>by injection z,λz=>by rw[z]⟩;rw[e0]at h;obtain⟨oa,Z,na,O,hca,hda,hia⟩:=hx.ref;obtain⟨ob,bs,nb,L,hcb,hdb,hib⟩:=hy.ref;have W:s.TypeIs Aw "tuple":=⟨oa,O,hca⟩;have U:s.TypeIs CU "tuple":=⟨ob,L,hcb⟩;(unfold eqBool);(try with_reducible refine vA ?_);(show wpAny _ _ (if(Value.ref a==Value.ref b)=To then _ else _) Q E s);by_cases G:(Value.ref a==Value.ref b)=To
 ·rw[if_pos G];have e:a=b:=by have:=gG G;injection this
  subst e;have:=KAt.inj _ hx hy;injection this with e1;rw[Zs e1]at h;exact Za (uA (Zb (by simpa using h)))
 ·rw[if_neg G];refine Za (wpAny_richCompare_same_room (op:=.Eq) W U Qee (ZI Qee W F.entry_tuple_eq ?_ (F.args_tuple_eq_2 _ _)) hu);(show wpAny _ _ (isInstance CU (.type "tuple")>>=_) _ _ s);(refine Za (vE U isSubtype_tuple_tuple ?_));(simp only[oA,Zh,Zo]);(refine Za (dP O hda (Za (dP L hdb (Za ?_)))));refine wpAny_forIn_list _ (λrest r s'=>r.1=No/\s'=s/\∃B q n y,rest=List.zip n y/\(∀k∈B,k∈xs)/\KAts kd W6 B n/\KAts kd W6 q y/\decide (B=q)=decide (xs=ys)/\(n.length==bS)=(Z.size==bs.size)) _ ?_ ?_ _ _ ⟨rfl,rfl,xs,ys,Z.toList,bs.toList,rfl,λ_ z=>z,hia,hib,rfl,by simp⟩
  ·rintro⟨u,v⟩rest r s'⟨hr,rfl,B,q,n,y,I,hm,o,g,l,m⟩;cases B with
   |nil=>cases o;simp at I
   |cons k1 B=>
    obtain⟨u',J,rfl,p1,p2⟩:=o;cases q with
    |nil=>cases g;simp at I
    |cons X q=>
     obtain⟨v',H,rfl,q1,q2⟩:=g;simp only[nG,jG,Prod.mk.injEq]at I;obtain⟨⟨rfl,rfl⟩,rfl⟩:=I;refine Za (ih k1 (hm _ Af) X _ _ _ p1 q1 ?_);by_cases hk:k1=X
     ·subst hk;rw[Zs rfl];simp only[oA,Zh,Zo];refine Zb ⟨rfl,rfl,B,q,J,H,rfl,λk z=>hm k (by simp[z]),p2,q2,?_,by simpa using m⟩;rw[<-l];exact zB.mpr ⟨λz=>by rw[z],λz=>by injection z⟩
     ·have hf:decide (xs=ys)=Fo:=by rw[<-l];exact Zt λz=>hk (by injection z)
      rw[hf]at h;(rw[Zt hk]);(simp only[qG,if_true]);exact Za (Zb (Zb (Zb ⟨_,rfl,(λe=>nomatch e),pB h⟩)))
  ·rintro⟨r1,r2⟩s'⟨hr,rfl,B,q,n,y,I,hm,o,g,l,m⟩;simp only at hr;subst hr;refine Zb ?_;have N:(Z.size==bs.size)=decide (xs=ys):=by
    rw[<-l,<-m];cases B with
    |nil=>
     cases o;cases q with
     |nil=>cases g;simp
     |cons X q=>obtain⟨v',H,rfl,q1,q2⟩:=g;simp
    |cons k1 B=>
     obtain⟨u',J,rfl,p1,p2⟩:=o;cases q with
     |nil=>cases g;simp
     |cons X q=>obtain⟨v',H,rfl,q1,q2⟩:=g;simp at I
   refine⟨.bool (Z.size==bs.size),rfl,(λe=>nomatch e),pB ?_⟩;rw[N];exact h
def Apart(kd:HM):Prop:=∀(A:BX)(E:AZ)(s:Ak)(k:κ)(v:An)(a:Addr)(o:Obj)(g:BU)(n:Nat)(Q:E1),X8<cLine->kd.is k v=To->s.heap.get? a=So o->o.cls=.type "tuple"->Ym=.seq g n->Q Fo s->wpAny Bv A (eqBool v Aw) Q E s/\wpAny Bv A (eqBool Aw v) Q E s
theorem Jra(B:Apart kd):∀(n:Nat)(k j:YE)(A:BX)(v u:An)(s:Ak)(Q:E1),kDep k<=n->X8+4*n+1<cLine->KAt kd W6 k v->KAt kd W6 j u->Q (decide (k=j)) s->wpAny Bv A (eqBool v u) Q E s
 |n,.a k,.a j,A,v,u,s,Q,_,_,x,y,h=>kd.eqBool x y (by rw[show decide ((KTr.a k:KTr κ)=.a j)=decide (k=j)from zB.mpr ⟨λz=>by injection z,λz=>by rw[z]⟩]at h;exact h)
 |n,.a k,.t js,A,v,u,s,Q,_,hu,x,y,h=>by
  obtain⟨a,o,g,m,rfl,l,r,q,_⟩:=y
  rw[Zt (λz=>nomatch z)]at h
  exact(B A E s k v a o g m Q Ae x l r q h).1
 |n,.t ks,.a j,A,v,u,s,Q,_,hu,x,y,h=>by
  obtain⟨a,o,g,m,rfl,l,r,q,_⟩:=x
  rw[Zt (λz=>nomatch z)]at h
  exact(B A E s j u a o g m Q Ae y l r q h).2
 |0,.t ks,.t js,A,v,u,s,Q,hn,_,_,_,_=>by simp[kDep]at hn
 |n+1,.t ks,.t js,A,v,u,s,Q,hn,hu,x,y,h=>by
  obtain⟨a,_,_,_,rfl,_⟩:=id x
  obtain⟨b,_,_,_,rfl,_⟩:=id y
  simp only[kDep]at hn
  exact JsO Ae x y h λk G j J I L H F h'=>Jra B n k j Xk J I s L (by have:=JmU G;lia) (by have:A.in1.units=X8+1:=rfl;lia) H F h'
theorem JqL:∀(n:Nat)(k:YE)(A:BX)(v:An)(s:Ak)(Q:E1),kDep k<=n->KAt kd W6 k v->Q To s->wpAny Bv A (eqIsQuiet n v) Q E s
 |n,.a k,A,v,s,Q,_,x,h=>by rw[eqIsQuiet_byValue n (kd.byValue _ _ x)];exact Zb h
 |0,.t ks,A,v,s,Q,hn,_,_=>by simp[kDep]at hn
 |n+1,.t ks,A,v,s,Q,hn,x,h=>by
  obtain⟨a,o,l,m,rfl,z,B,J,I⟩:=x
  simp only[kDep]at hn
  have y:s.TypeIs Aw "tuple":=⟨o,z,B⟩
  (unfold eqIsQuiet);(refine Za (nI y F.slot_tuple_eq.lookup ?_));(show wpAny _ _ (isInstance Aw (.type "tuple")>>=_) _ _ s)
  (refine Za (vE y isSubtype_tuple_tuple ?_));(simp only[oA,Zh,Zo]);(refine Za (uB z J (Za ?_)))
  (show wpAny _ _ (forIn l _ _) _ _ s);(rw[<-Array.forIn_toList])
  refine wpAny_forIn_list _ (λrest r j=>r.1=No/\j=s/\∃left,nD left<=n/\KAts kd W6 left rest) _ ?_ ?_ _ _ ⟨rfl,rfl,ks,by lia,I⟩
  ·rintro v rest r j⟨g,rfl,left,H,q⟩
   cases left with
   |nil=>cases q
   |cons k left=>
    obtain⟨U,N,e,G,L⟩:=q
    cases e
    simp only[nD]at H
    refine Za (JqL n k _ _ _ _ Ae G ?_)
    (simp only[oA,Zh,Zo]);(exact Zb ⟨rfl,rfl,left,by lia,L⟩)
  ·rintro⟨W,O⟩j⟨g,rfl,_⟩
   simp only at g
   subst g
   exact Zb h
end
noncomputable def Joy (kd:HM) (q:Apart kd):HeapKind P w (List aB)where
 is:=λh g a=>KAt kd h (.t g) Aw/\nD g<=7
 hash:=λg=>uM kd (.t g)
 draws:=λg=>kDrw (.t g)
 room:=λA=>X8+50<cLine
 inj:=λl m=>by
  have:=KAt.inj _ l.1 m.1
  injection this
 keeps:=λx n v o=>⟨KAt.keep (JfP n v o) _ x.1,x.2⟩
 pyHash:=λr j h=>Jrl 8 _ _ _ _ _ (by simp only[kDep];have:=j.2;lia) Ae j.1 h
 eqBool:=λr l m h=>Jra q 8 _ _ _ _ _ _ _ (by simp only[kDep];have:=l.2;lia) Ae l.1 m.1 (by rw[show decide ((KTr.t _:KTr κ)=.t _)=decide (_=_)from zB.mpr ⟨λz=>by injection z,λz=>by rw[z]⟩];exact h)
 quiet:=λj h=>JqL 8 _ _ _ _ _ (by simp only[kDep];have:=j.2;lia) j.1 h
end
def JpR(prog:Bk)(w:AY):Apart 'ώ':=λA E s k v a o l n Q g m q y r j=>by
 have p:s.heap.IsTuple a l:=⟨o,q,y,n,r⟩
 rcases JA m with⟨i,t,rfl,rfl⟩|⟨x,t,rfl,rfl⟩|⟨rfl,rfl⟩
 ·exact⟨SeqAt.EqAt.int_tuple i t p g _ _ _ _ j,SeqAt.EqAt.tuple_int i t p g _ _ _ _ j⟩
 ·exact⟨SeqAt.EqAt.str_tuple x t p g _ _ _ _ j,SeqAt.EqAt.tuple_str x t p g _ _ _ _ j⟩
 ·exact⟨SeqAt.EqAt.none_tuple p g _ _ _ _ j,SeqAt.EqAt.tuple_none p g _ _ _ _ j⟩
def Jie (prog:Bk) (w:AY):HeapKind prog w (List DM):=Joy 'ώ' (JpR prog w)
inductive V where
 |non|bl (b:Bool)|int (i:Int)|str (x:Str)|byt (b:Array UInt8)|flt (b:UInt64)|ref (a:Addr)|ty (n:String)
noncomputable instance:DecidableEq V:=λ_ _=>Classical.propDecidable _
variable{v:V}{vs:AA}
noncomputable def RelV:V->Value->Prop
 |.non,u=>u=Xb
 |.bl b,u=>u=Value.bool b
 |.int i,u=>∃t,u=Value.int i t
 |.str x,u=>∃t,u=Value.str x t
 |.byt b,u=>∃t,u=Value.bytes b t
 |.flt b,u=>∃t,u=Value.float b t
 |.ref a,u=>u=Value.ref a
 |.ty n,u=>u=Value.type n
noncomputable abbrev Vals:List V->List Value->Prop:=Paired RelV
def Vals.length{xs:AA}{us:Az}(r:Qbd):Ac=us.length:=pG r
theorem Vals.get:∀{xs:AA}{us:Az}{i:Nat}{x:V},Vals xs us->xs[i]? =So x->∃u,us[i]? =So u/\RelV x u
 |_,_,_,_,.nil,e=>by simp at e
 |_,_,0,_,.cons r _,e=>by simp at e;subst e;exact⟨_,rfl,r⟩
 |_,_,i+1,x,.cons _ t,e=>by
  obtain⟨u,j,g⟩:=Vals.get (i:=i) (x:=x) t (by simpa using e)
  exact⟨u,by simpa using j,g⟩
theorem Vals.append:∀{xs ys:AA}{us ws:Az},Vals xs us->Vals ys ws->Vals (xs++ys) (us++ws)
 |_,_,_,_,.nil,s=>s
 |_,_,_,_,.cons r t,s=>.cons r (Vals.append t s)
theorem Vals.take:∀{xs:AA}{us:Az}(n:Nat),Vals xs us->Vals (xs.take n) (us.take n)
 |_,_,0,_=>.nil
 |_,_,_+1,.nil=>.nil
 |_,_,n+1,.cons r t=>.cons r (Vals.take n t)
theorem Vals.drop:∀{xs:AA}{us:Az}(n:Nat),Vals xs us->Vals (xs.drop n) (us.drop n)
 |_,_,0,r=>r
 |_,_,_+1,.nil=>.nil
 |_,_,n+1,.cons _ t=>Vals.drop n t
def Vals.none_of:∀{xs:AA}{us:Az}{i:Nat},Vals xs us->xs[i]? =No->us[i]? =No:=fun{xs us i}r e=>by
 have j:=Xv
 have g:Ac<=i:=List.getElem?_eq_none_iff.mp e
 exact List.getElem?_eq_none_iff.mpr Ae
def RelO:Option V->Option Value->Prop
 |some v,So u=>RelV v u
 |none,No=>True
 |_,_=>False
def KV {κ:Type}:List (κ×V)->List (κ×Value)->Prop:=Paired fun(p:κ×V)(q:κ×Value)=>p.1=q.1/\RelV p.2 q.2
noncomputable def kV:Key->V
 |.inl i=>.int i
 |.inr x=>.str x
 |.non=>.non
inductive HO where
 | lst (xs:List V)
 | lsm (t:Str) (xs:List V)
 | tup (xs:List V)
 | dK (kvs:List (Key × V)) | dT (kvs:List (List (KTr Key) × V))
 | set (S:Int -> Bool) (n:Nat)
 | ins (C dx:Addr) (fs:List (Str × V))
 | own (x:Addr)
 | xd (fs:List (Str × V))
 | met (f x:Addr)
 | rng (lo hi:Int)
 | frz (o:Obj) (u:HO)
 | tbl (ps:Array Value)
 | ext (φ:Heap -> Prop)
variable{o:HO}
noncomputable abbrev Hp:=Addr->Option HO
variable{H W:Hp}
noncomputable def upd (H:Hp) (a:Addr) (o:HO):Hp:=λb=>if b=a then So o else H b
def Jg:upd H a o a=So o:=by unfold upd;rw[if_pos rfl]
def Je(h:b≠a):upd H a o b=H b:=by unfold upd;rw[if_neg h]
def tU{u:HO}(h:H a=So o)(h':H b=So u)(d:o≠u):a≠b:=by intro e;subst e;rw[h]at h';exact d (pA h')
def Ji(h:H a=So o)(h':H b=No):a≠b:=by intro e;subst e;rw[h]at h';cases h'
mutual
def KH(H:Hp):KTr Key->V->Prop
 |.a k,v=>v=kV k
 |.t ks,v=>∃a xs,v=.ref a/\H a=So A4/\KHs H ks xs
def KHs(H:Hp):List DM->List V->Prop
 |[],xs=>xs=[]
 |k::ks,xs=>∃x r,xs=x::r/\KH H k x/\KHs H ks r
end
mutual
theorem KH.keep{H W:Hp}(g:∀b xs,H b=So A4->W b=So A4):∀(k:KTr Key){v:V},KH H k v->KH W k v
 |.a _,_,x=>x
 |.t ks,_,⟨a,xs,e,h1,h2⟩=>⟨a,xs,e,g _ _ h1,KHs.keep g ks h2⟩
theorem KHs.keep{H W:Hp}(j:∀b xs,H b=So A4->W b=So A4):∀(g:G1){xs:AA},KHs H g xs->KHs W g xs
 |[],_,x=>x
 |k::g,_,⟨v,r,e,h1,h2⟩=>⟨v,r,e,KH.keep j k h1,KHs.keep j g h2⟩
end
def KB(H:Hp)(k:QcA)(b:Addr):Prop:=KH H (.t k) (.ref b)/\nD k<=7
def KB.keep{k:G1}(x:KB H k b)(g:∀b xs,H b=So A4->W b=So A4):KB W k b:=⟨KH.keep g _ x.1,x.2⟩
def KB.tup{k:G1}(x:KB H k b):∃xs,H b=So A4:=by obtain⟨⟨a,xs,e,h,_⟩,_⟩:=x;cases e;exact⟨xs,h⟩
section
variable(P:Bk)(w:AY)
def ObjOk (H:Hp) (h:Heap) (a:Addr):HO->Prop
 |.lst xs=>Ac<=sizeLine/\∃(its:Az)(n:Nat),Vals xs its/\h.get? a=So {cls:=.type "list",data:=.seq Ap n}
 |.lsm _ xs=>Ac<=sizeLine/\∃(its:Az)(n:Nat),Vals xs its/\h.get? a=So {cls:=.type "list",data:=.seq Ap n}
 |.tup xs=>(Ac<=sizeLine/\∀o,h.get? a=So o->o.dict=No)/\∃its:List Value,Vals xs its/\IsTup h a Ap
 |.dK kvs=>Bb<=sizeLine/\(a==sysModules)=Fo/\∃vs,KV kvs vs/\h.DictOf VI a vs
 |.dT kvs=>Bb<=sizeLine/\(a==sysModules)=Fo/\∃xs:List (List (KTr Key)×Addr×Value),
   Paired (fun(p:List (KTr Key)×V)(q:List (KTr Key)×Addr×Value)=>p.1=q.1/\KB H p.1 q.2.1/\RelV p.2 q.2.2) kvs xs/\
   ∃o es z,h.get? a=So o/\o.ExactDict/\o.data=.dict es z/\es.toList=xs.map (entryOfKey 'Ϻ')/\(xs.map (·.1)).Nodup
 |.set S n=>h.SetOf (intKind P w) a S n
 |.ins C dx fs=>H dx=So (.own a)/\fs.length<=1000/\dx≠a/\h.get? a=So (PySem.W.instObj C dx)/\
   ∃mA,h.Ns1 dx mA/\(∀f,RelO Ig (mA f))/\PySem.Within mA (fs.map (·.1))
 |.own _=>∃o,h.get? a=So o
 |.xd fs=>∃mA,h.Ns1 a mA/\∀f,RelO Ig (mA f)
 |.rng F B=>∃t u v,h.get? a=So {cls:=.type "range",data:=.fields #[.int F t,.int B u,.int 1 v]}
 |.frz o u=>h.get? a=So o/\ObjOk H h a u
 |.tbl ps=>∃q G g,ps[0]? =So (.str q G)/\h.get? a=So {cls:=.none,data:=.fields g}/\TriplesOk Yi/\∀pos l,codeAmong pos Yi=So l->∃(c:Addr)(m:Obj)(vs:BU)(t:Tok),l=.ref c/\H c=So (.frz m Nv)/\m.data=.fields vs/\vs[1]? =So (.str q t)
 |.met f x=>h.get? a=So (PySem.W.methodObj Bc GA)
 |.ext j=>j h/\(∃o,h.get? a=So o)/\∀r y:Heap,j r->(∀o,r.get? a=So o->y.get? a=So o)->j y
def nJ{z:BU}{n:Nat}(o:Obj)(q:(h.push {cls:=.type "tuple",data:=.seq z n}).get? BE=So o):o.dict=No:=by rw[Zi _ rfl]at q;cases q;rfl
def HOk(H:Hp)(h:Heap):Prop:=∀a o,H a=So o->ObjOk P w H h a o
end
def ObjOk.lt(x:Qr):a<BE:=by
 cases o with
 |lst j=>obtain⟨_,_,_,_,e⟩:=x;exact Zk e
 |lsm _ j=>obtain⟨_,_,_,_,e⟩:=x;exact Zk e
 |tup j=>obtain⟨_,_,_,p⟩:=x;exact p.lt
 |dK g=>obtain⟨_,_,_,_,o,_,_,e,_⟩:=x;exact Zk e
 |dT g=>obtain⟨_,_,_,_,o,_,_,e,_⟩:=x;exact Zk e
 |set S n=>obtain⟨o,_,_,_,e,_⟩:=x;exact Zk e
 |ins C dx fs=>obtain⟨_,_,_,e,_⟩:=x;exact Zk e
 |own y=>obtain⟨_,e⟩:=x;exact Zk e
 |xd fs=>obtain⟨_,⟨_,_,_,e,_⟩,_⟩:=x;exact Zk e
 |rng r m=>obtain⟨_,_,_,e⟩:=x;exact Zk e
 |frz l u=>obtain⟨e,_⟩:=x;exact Zk e
 |tbl ps=>obtain⟨_,_,_,_,e,_⟩:=x;exact Zk e
 |met f y=>exact Zk (show h.get? a=So _ from x)
 |ext q=>obtain⟨_,⟨_,e⟩,_⟩:=x;exact Zk e
theorem Paired.mapP{m l:Type}{F G:m->l->Prop}:∀{j:List m}{g:List l},Paired F j g->(∀a b,F a b->G a b)->Paired G j g
 |_,_,.nil,_=>.nil
 |_,_,.cons r t,f=>.cons (f _ _ r) (Paired.mapP t f)
def ObjOk.stay(x:Qr)(k:∀b u,(b=a\/H b=So QcZ)->h.get? b=So u->h'.get? b=So u)
  (I:∀b,H b=So (.own a)->W b=So QcZ) (J:∀b xs,H b=So A4->W b=So A4)
  (U:∀b o u,H b=So (.frz o (.ext u))->W b=So (.frz o (.ext u)):=by exactλ_ _ _ q=>q):ObjOk P w W h' a o:=by
 induction o with
 |lst xs=>obtain⟨z,g,n,r,e⟩:=x;exact Pl
 |lsm _ xs=>obtain⟨z,g,n,r,e⟩:=x;exact Pl
 |tup xs=>obtain⟨⟨z,N⟩,g,r,j,e,c⟩:=x;exact⟨⟨z,λo q=>by rw[k _ _ 'Ø' e]at q;cases q;exact N _ e⟩,g,r,j,k _ _ Bd e,c⟩
 |dK B=>obtain⟨z,y,vs,r,j,es,l,e,c⟩:=x;exact⟨z,y,vs,r,j,es,l,k _ _ Bd e,c⟩
 |dT B=>obtain⟨z,y,xs,r,j,es,l,e,c⟩:=x;exact⟨z,y,xs,Paired.mapP r λp q z=>⟨z.1,z.2.1.keep J,z.2.2⟩,j,es,l,k _ _ Bd e,c⟩
 |set S n=>obtain⟨j,es,l,t,e,c⟩:=x;exact⟨j,es,l,t,k _ _ Bd e,c⟩
 |ins C dx fs=>obtain⟨d,z,ne,e,mA,⟨F,es,l,m,c⟩,r⟩:=x;exact⟨I _ d,z,ne,k _ _ Bd e,mA,⟨F,es,l,k _ _ (.inr d) m,c⟩,r⟩
 |own y=>obtain⟨j,e⟩:=x;exact⟨j,k _ _ Bd e⟩
 |xd fs=>obtain⟨mA,⟨F,es,l,e,c⟩,r⟩:=x;exact⟨mA,⟨F,es,l,k _ _ Bd e,c⟩,r⟩
 |rng lo hi=>obtain⟨t,u,v,e⟩:=x;exact⟨t,u,v,k _ _ Bd e⟩
 |frz j u ih=>obtain⟨e,q⟩:=x;exact⟨k _ _ Bd e,ih q⟩
 |tbl ps=>obtain⟨q,Z,O,X,e,t,c⟩:=x;exact⟨q,Z,O,X,k _ _ Bd e,t,λpos cv z=>let⟨b,oc,vs,tk,e1,m,L⟩:=c pos cv z;⟨b,oc,vs,tk,e1,U _ _ _ m,L⟩⟩
 |met f y=>have e:h.get? a=So Uj:=x;show h'.get? a=So Uj;exact k a _ Bd e
 |ext φ=>obtain⟨p,⟨o,e⟩,G⟩:=x;exact⟨G _ _ p λo q=>k _ _ Bd q,⟨o,k _ _ Bd e⟩,G⟩
def HOk.lt(x:BP)(e:H a=So o):a<BE:=(x a o e).lt
def HOk.fresh(x:BP)(e:BE<=a):H a=No:=by
 cases q:H a with
 |none=>rfl
 |some u=>exact absurd (Zw (x.lt q) e) Cz
def HOk.kept(x:BP)(k:∀b u,h.get? b=So u->h'.get? b=So u):HOk P w H h':=λa o e=>
 (x a o e).stay (λb u _ q=>k b u q) Ll λ_ _ q=>q
def HOk.laid(x:BP)(k:∀b u,h.get? b=So u->h'.get? b=So u)(l:BE<=a)(new:ObjOk P w FO h' a o):HOk P w FO h':=λb u e=>by
 have g:=x.fresh l
 by_cases j:b=a
 ·subst j;rw[Jg]at e;cases e;exact new
 ·rw[Je j]at e
  exact(x b u e).stay (λc v _ q=>k c v q) (λc q=>by rw[Je 'Ћ'];exact q) (λc n q=>by rw[Je 'Ћ'];exact q) λc m r q=>by rw[Je 'Ћ'];exact q
def Rd(H:Hp)(a:Addr)(u:HO):Prop:=H a=So u\/∃o,H a=So KQ
def Rd.ok{u:HO}(r:Rd H a u)(x:BP):ObjOk P w H h a u:=by
 rcases r with r|⟨o,r⟩
 ·exact x a u r
 ·obtain⟨_,q⟩:=x a _ r;exact q
noncomputable def Mut:Option HO->Prop
 |some (.lst _)=>True
 |some (.lsm _ _)=>True
 |some (.dK _)=>True
 |some (.dT _)=>True
 |some (.set _ _)=>True
 |some (.ins _ _ _)=>True
 |some (.ext _)=>True
 |_=>False
section
variable{x e:Addr}{o':HO}
def HOk.write(ok:BP)(l:Qdj)(G:e=x\/H e=So Gz)(k:∀b u,b≠e->h.get? b=So u->h'.get? b=So u)(F:∃u,h'.get? e=So u)
  (new:ObjOk P w (upd H x o') h' x o'):HOk P w (upd H x o') h':=λb u q=>by
 have j:∀c y,H c=So (.own y)->c≠x:=λc y r z=>by subst z;rw[r]at l;exact l
 have m:∀c xs,H c=So A4->c≠x:=λc xs r z=>by subst z;rw[r]at l;exact l
 by_cases B:b=x
 ·subst B;rw[Jg]at q;cases q;exact new
 ·rw[Je B]at q
  by_cases g:b=e
  ·have I:H b=So Gz:=by
    rcases G with z|z
    ·exact absurd (g.trans z) B
    ·rw[g];exact z
   rw[q]at I;cases I;obtain⟨v,J⟩:=F;exact⟨v,by rw[g];exact J⟩
  ·refine(ok b u q).stay (λc v n r=>k c v ?_ r) (λc r=>by rw[Je (j c b r)];exact r) (λc xs r=>by rw[Je (m c xs r)];exact r) λc o' L r=>by rw[Je (λz=>by subst z;rw[r]at l;exact l)];exact r
   rcases n with rfl|n
   ·exact g
   ·rintro rfl
    rcases G with z|z
    ·exact j c b n z
    ·rw[n]at z;cases z;exact B rfl
end
structure Un(fs ex:A3)(H W:Hp)(h h':Heap):Prop where
 keep:∀b o,h.get? b=So o->H b=No->b∉fs->b∉ex->h'.get? b=So o
 slot:∀b o,h.get? b=So o->H b=No->b∈fs->b∉ex->∃sl,h'.get? b=So {o with slots:=sl}
 free:∀b o,h.get? b=So o->H b=No->b∉ex->W b=No
 there:∀b o,h.get? b=So o->b∉ex->∃o',h'.get? b=So o'
 tups:∀b xs,H b=So A4->W b=So A4
 frzs:∀b o u,H b=So (.frz o u)->W b=So KQ
 tbls:∀b ps,H b=So (.tbl ps)->∃more,W b=So (.tbl (ps++more))
section
variable{fs fs' ex ex':A3}{H H1 H2:Hp}{h h1 h2 h':Heap}{a x e:Addr}{o:HO}
def Un.any(u:Un fs ex H H1 h h1){g:Obj}(q:h.get? b=So g)(n:H b=No)(j:b∉ex):∃sl,h1.get? b=So {g with slots:=sl}:=by
 by_cases l:b∈fs
 ·exact u.slot b g q n l j
 ·exact⟨g.slots,u.keep b g q n l j⟩
def Un.kept(k:∀b u,h.get? b=So u->h'.get? b=So u):Un fs ex H H h h':=
 ⟨λb g q _ _ _=>k b g q,λb g q _ _ _=>⟨g.slots,k b g q⟩,λ_ _ _ n _=>n,λb g q _=>⟨g,k b g q⟩,λ_ _ q=>q,λ_ _ _ q=>q,λ_ ps q=>⟨#[],by rw[q];simp⟩⟩
def Un.refl:Un fs ex H H h h:=Un.kept λ_ _ q=>q
def Un.laid(k:∀b u,h.get? b=So u->h'.get? b=So u)(l:BE<=a)(g:H a=No):Un fs ex H FO h h' where
 keep:=λb u q _ _ _=>k b u q
 slot:=λb u q _ _ _=>⟨u.slots,k b u q⟩
 free:=λb u q n _=>by rw[Je (Zr (Zw (Zk q) l))];exact n
 there:=λb u q _=>⟨u,k b u q⟩
 tups:=λb j q=>by rw[Je 'Ћ'];exact q
 frzs:=λb u j q=>by rw[Je 'Ћ'];exact q
 tbls:=λb ps q=>⟨#[],by rw[Je 'Ћ',q];simp⟩
def Un.write(j:Qdj)(F:e=x\/H e=So Gz)(k:∀b u,b≠e->h.get? b=So u->h'.get? b=So u)(l:∃u,h'.get? e=So u):Un fs ex H aQ h h':=by
 have y:∀b,H b=No->b≠x:=λb n z=>by subst z;rw[n]at j;exact j
 have B:∀b,H b=No->b≠e:=λb n z=>by
  subst z;rcases F with r|r
  ·exact y b n r
  ·rw[n]at r;cases r
 have m:∀b u,H b=So u->¬Mut (So u)->b≠x:=λb u q nm z=>by subst z;rw[q]at j;exact nm j
 refine⟨λb u q n _ _=>k b u (B b n) q,λb u q n _ _=>⟨u.slots,k b u (B b n) q⟩,λb u q n _=>by rw[Je (y b n)];exact n,λb u q _=>?_,
  λb G q=>by rw[Je 'Р'];exact q,λb u G q=>by rw[Je 'Р'];exact q,λb ps q=>⟨#[],by rw[Je 'Р',q];simp⟩⟩
 by_cases g:b=e
 ·subst g;exact l
 ·exact⟨u,k b u g q⟩
end
noncomputable def trk (h:Heap) (H:Hp):List Addr:=(List.range BE).filter λa=>(H a).isSome
def hidT (h:Heap) (H:Hp):Heap:=PySem.W.hideAll h QaE
def JmJ(h:Heap)(H:Hp):'ճ'.objs.size=BE:=PySem.W.hideAll_size _ _
def Jpf{o:Obj}(e:h.get? b=So o)(n:H b=No):'ճ'.get? b=So o:=
 rL _ e λg=>by
  have q:(H b).isSome=To:=(mK.mp g).2
  rw[n]at q;simp at q
def Jtm{o:Obj}(e:'ճ'.get? b=So o):h.get? b=So o/\H b=No:=by
 have g:h.get? b=So o:=PySem.W.of_hideAll QaE e;refine⟨g,?_⟩;cases q:H b with
 |none=>rfl
 |some x=>have j:b∈trk h H:=mK.mpr ⟨List.mem_range.mpr (Zk g),by simp[q]⟩;have z:'ճ'.get? b=No:=PySem.W.hideAll_none QaE j;rw[z]at e;cases e
noncomputable def Jsn (g h:Heap) (L:Addr):List (Addr×Obj):=(List.range BE).filterMap λa=>if a=L\/(g.get? a).isSome=To then No else(h.get? a).map λo=>(a,o)
def rest (g h:Heap) (L d:Addr):List (Addr×Obj):=(Jsn g h L).filter λp=>decide (p.1≠d)
structure Mod(K:Ai)(mg:BY)(base:Heap):Prop where
 kin:K.In base
 glob:base.Ns mainGlobals mg
 blt:∃mb,base.Ns builtinsNs mb/\∀x:Str,x≠"__name__"->mb x=bootBuiltins x
 nolimit:base.NoLimit
structure Cx where
 prog:Program
 w:World
 K:PySem.W.Frag
 mg:Str->Option Value
 base:Heap
 A:Around
 N:List Str
 s₀:Shared
 H₀:Hp
 env:Env
 outer:List Env
 stack:List Env
 ex:List Addr
 fn:Str->Bool
 calm:Bool
 pn:List (Addr×Obj)
 xe:Value->Shared->Prop
variable{X:Cx}
noncomputable def frs (l:BG):List Addr:=l.filterMap (·.frame)
noncomputable abbrev Cx.fs (X:Cx):List Addr:=frs Z8
def Vis(g:Ba)(x:Str):Prop:=g.names.lookup x=So .local\/g.names.lookup x=So .cell\/g.names.lookup x=So .free
def Loc(g:Ba)(x:Str):Prop:=g.names.lookup x=So .local\/g.names.lookup x=So .cell
def Look(O:Env)(h:Heap)(m:BY)(x:Str)(u:An):Prop:=
 (O.kindOf x=So .local/\m x=So u)\/((O.kindOf x=So .cell\/O.kindOf x=So .free)/\∃c,O.cells.lookup x=So c/\h.IsCell c (So u))
structure Cx.Ok(X:Cx):Prop where
 mod:Mod X.K X.mg XF
 kind:X.env.scope.kind=.function
 glob:X.env.globals=mainGlobals
 blt:X.env.builtins=builtinsNs
 above:MA<=AM
 inj:∀x y c,X.env.cells.lookup x=So c->X.env.cells.lookup y=So c->x=y
 has:∀x,(X.env.kindOf x=So .cell\/X.env.kindOf x=So .free)->∃c,X.env.cells.lookup x=So c
 cab:∀x c,X.fn x=To->X.env.cells.lookup x=So c->MA<=c
 hd:X.calm=To->X.A.handled=No
 frames:X.A.frames=So Xc
 stk:X.stack=Z8\/(Xc=WU::X.outer/\X.env.frame=So AM)
 exf:∀b∈X.ex,b≠AM/\∀x c,X.env.cells.lookup x=So c->c≠b
 bs:∀b o,X.base.get? b=So o->X.s₀.heap.get? b=So o/\X.H₀ b=No
 bsz:X.base.objs.size<=MA
 noex:∀b o,X.base.get? b=So o->b∉X.ex
 exfs:∀b∈X.ex,b∉X.fs
 funs:X.s₀.heap.FunFrames XF Z8
 frf:∀b∈X.fs,X.H₀ b=No
structure Inv(X:Cx)(Y:AQ)(Z:QdY)(H:Hp)(s:Ak):Prop where
 ok:X.Ok
 os:s.os=X.s₀.os
 bare:AllBare YF
 base:Un X.fs X.ex X.H₀ H X.s₀.heap W6
 loc:∃m,s.heap.Ns AM m/\∀(i:Nat)(x:Str)(v:V),X.N[i]? =So x->Z[i]? =So BO->Vis ER x->∃u,RelV v u/\Look WU W6 m x u
 cell:∀x c,X.env.cells.lookup x=So c->∃v,s.heap.IsCell c v
 free:H AM=No
 freeC:∀x c,X.env.cells.lookup x=So c->H c=No
 pin:∀p∈X.pn++Y,s.heap.get? p.1=So p.2/\H p.1=No/\p.1≠AM/\p.1∉X.fs/\∀v,p.2.data≠.cell v
 hok:HOk Xa X.w H W6
 len:Z.length=X.N.length
section
variable{Z:QdY}
def Cx.Ok.nofr(ok:X.Ok){o:Obj}(e:X.base.get? b=So o):b∉X.fs:=λg=>by
 have:=(ok.funs.mem g).1
 rw[e]at this;cases this
def Inv.bs(I:AG):∀b o,X.base.get? b=So o->s.heap.get? b=So o/\H b=No:=λb o e=>
 ⟨I.base.keep b o (I.ok.bs b o e).1 (I.ok.bs b o e).2 (I.ok.nofr e) Qaa,I.base.free b o (I.ok.bs b o e).1 (I.ok.bs b o e).2 Qaa⟩
def Inv.bk(I:AG):∀b o,X.base.get? b=So o->s.heap.get? b=So o:=λb o e=>(I.bs b o e).1
def Inv.mod(I:AG):Mod X.K X.mg XF:=bT
def Inv.kIn(I:AG):X.K.In W6:=I.ok.mod.kin.keeps I.bk
def Inv.lt(I:AG):AM<Aa:=let⟨_,g,_⟩:=Xz;g.lt
def Inv.sz(I:AG):MA<=Aa:=ZM Qbi (Nat.le_of_lt I.lt)
def Inv.nofs(I:AG)(h:Aa<=a):a∉X.fs:=λg=>by
 obtain⟨_,o,j,_⟩:=I.ok.funs.mem g
 exact absurd (Zw (Zk j) (ZM I.sz h)) Cz
def Inv.cne(I:AG):∀x c,X.env.cells.lookup x=So c->c≠AM:=λx c e z=>by
 obtain⟨v,o,l,n⟩:=I.cell x c e
 obtain⟨m,⟨r,es,q,g,j,_⟩,_⟩:=Xz
 rw[z,g]at l;cases l;rw[j]at n;cases n
def Inv.funs(I:AG):s.heap.FunFrames XF Z8:=by
 have all:∀(l:BG),(∀b∈frs l,b∈X.fs)->X.s₀.heap.FunFrames XF l->s.heap.FunFrames XF l:=by
  intro l;induction l with
  |nil=>intro _ _;trivial
  |cons O r N=>intro n F;obtain⟨q,⟨L,o,g,J,y,G⟩,B⟩:=F;have j:L∈X.fs:=n L (by unfold frs;rw[ZW,g];exact mG);obtain⟨sl,e⟩:=I.base.slot L o y (I.ok.frf L j) j λz=>I.ok.exfs L z j;exact⟨q,⟨L,_,g,J,e,G⟩,N (λb m=>n b (by unfold frs;rw[ZW,g];exact ZN _ m)) B⟩
 exact all Z8 (λ_ m=>m) Qdr
def Inv.stack(I:AG):s.heap.FunFrames XF Xc:=by
 rcases I.ok.stk with e|⟨e,g⟩
 ·rw[e];exact I.funs
 ·rw[e];obtain⟨m,j,_⟩:=Xz;refine .cons (by rw[I.ok.kind];decide) g j ?_ I.funs;exact Heap.get?_none_of_le (ZM I.ok.bsz Qbi)
def Inv.stkSub(I:AG):∀b∈frs Xc,b∈AM::X.fs:=λb g=>by
 rcases I.ok.stk with e|⟨e,j⟩
 ·rw[e]at g;exact ZN _ g
 ·rw[e]at g
  unfold frs at g
  rw[ZW,j]at g
  exact g
def Inv.stkFree(I:AG):∀b∈frs Xc,H b=No:=λb g=>by
 rcases Zf.mp (I.stkSub b g)with e|g
 ·rw[e];exact I.free
 ·obtain⟨_,o,j,_⟩:=I.ok.funs.mem g
  exact I.base.free b o j (I.ok.frf b g) λz=>I.ok.exfs b z g
def Inv.step{g':Array GenState}{d':Drawn}(I:AG)
  (y:∀b∈ch,Lw/\b≠AM/\(∀x c,X.env.cells.lookup x=So c->c≠b)/\∀p∈X.pn++Y,p.1≠b)
  (keep:∀b o,b≠AM->b∉X.fs->b∉ch->s.heap.get? b=So o->H b=No->h'.get? b=So o)
  (J:∀b o,b≠AM->b∈X.fs->b∉ch->s.heap.get? b=So o->H b=No->∃sl,h'.get? b=So {o with slots:=sl}) (free:∀b o,b∉ch->s.heap.get? b=So o->H b=No->W b=No)
  (there:∀b o,b∉ch->s.heap.get? b=So o->∃o',h'.get? b=So o')
  (tups:∀b xs,H b=So A4->W b=So A4) (frzs:∀b o u,H b=So (.frz o u)->W b=So KQ) (tbls:∀b ps,H b=So (.tbl ps)->∃more,W b=So (.tbl (ps++more)))
  (ns:∀m,s.heap.Ns AM m->h'.Ns AM m) (hok:QU) (hg:AllBare g'):
  Inv X Y Z W {s with heap:=h',gens:=g',drawn:=d',toks:=t'}:=by
 have U:∀b o,X.s₀.heap.get? b=So o->b≠AM:=λb o e=>Zr Ms;have G:∀b o,X.s₀.heap.get? b=So o->b∉X.ex->b∉ch:=λb o e g L=>by
  rcases(y b L).1 with z|z
  ·exact g z
  ·exact absurd (Zw (Zk e) z) Cz
 have B:∀x c,X.env.cells.lookup x=So c->∀v,s.heap.IsCell c v->h'.IsCell c v:=λx c e v⟨o,N,hd⟩=>by
  have j:c∉ch:=λz=>(y c z).2.2.1 x c e rfl;by_cases hc:c∈X.fs
  ·obtain⟨sl,q⟩:=J c o Qdu hc j N G5;exact⟨_,q,hd⟩
  ·exact⟨o,keep c o Qdu hc j N G5,hd⟩
 refine⟨I.ok,I.os,hg,⟨λb o e n L g=>?_,λb o e n L g=>?_,λb o e n g=>?_,λb o e g=>?_,λb xs e=>tups b xs (I.base.tups b xs e),λb o xs e=>frzs b o xs (I.base.frzs b o xs e),λb ps e=>?_⟩,?_,λx c e=>?_,?_,λx c e=>?_,λp hp=>?_,hok,Ys⟩
 ·exact keep b o (U b o e) L K9 (I.base.keep b o e n L g) R8
 ·obtain⟨sl,F⟩:=I.base.slot b o e n L g;obtain⟨sl',O⟩:=J b _ (U b o e) L K9 F R8;exact⟨sl',O⟩
 ·obtain⟨o',F⟩:=I.base.there b o e g;exact free b o' K9 F R8
 ·obtain⟨o',F⟩:=I.base.there b o e g;exact there b o' K9 F
 ·obtain⟨m1,F⟩:=I.base.tbls b ps e;obtain⟨m2,O⟩:=tbls b _ F;exact⟨m1++m2,by rw[O,Array.append_assoc]⟩
 ·obtain⟨m,hn,hl⟩:=Xz;refine⟨m,ns m hn,λi x v F O e3=>?_⟩;obtain⟨u,r,l⟩:=hl i x v F O e3;refine⟨u,r,?_⟩;rcases l with l|⟨k,c,e,z⟩
  ·exact .inl l
  ·exact .inr ⟨k,c,e,B x c e _ z⟩
 ·obtain⟨v,z⟩:=I.cell x c e;exact⟨v,B x c e v z⟩
 ·obtain⟨m,⟨o,_,_,N,_⟩,_⟩:=Xz;exact free _ o (λz=>(y _ z).2.1 rfl) N Xw
 ·obtain⟨v,o,N,hd⟩:=I.cell x c e;exact free c o (λz=>(y c z).2.2.1 x c e rfl) N G5
 ·obtain⟨e,n,ne,nf,d⟩:=I.pin p hp;have j:p.1∉ch:=λz=>(y p.1 z).2.2.2 p hp rfl;exact⟨keep p.1 p.2 ne nf j e n,free p.1 p.2 j e n,ne,nf,d⟩
def Inv.un(I:AG)(u:Un X.fs [] H W W6 h')(j:QU):Inv X Y Z W {s with heap:=h',toks:=t'}:=by
 obtain⟨m,⟨o,es,L,B,r⟩,_⟩:=id Xz;obtain⟨sl,G⟩:=u.any B Xw Af;exact I.step (g':=YF) (d':=X9) (ch:=[]) (λ_ z=>nomatch z) (λb o _ y _ e n=>u.keep b o e n y Af) (λb o _ y _ e n=>u.slot b o e n y Af) (λb o _ e n=>u.free b o e n Af) (λb o _ e=>u.there b o e Af) u.tups u.frzs u.tbls (λO F=>by
  obtain⟨N,l,q,g,J⟩:=F;rw[B]at g;cases g;exact⟨_,l,q,G,J⟩) j Xs
def Inv.call{g':Array GenState}{d':Drawn}(I:AG)(u:Un GZ ch H W W6 h')(y:QU)(N:AllBare g')
  (l:∀b∈ch,Lw/\b≠AM/\(∀x c,X.env.cells.lookup x=So c->c≠b)/\∀p∈X.pn++Y,p.1≠b):
  Inv X Y Z W {s with heap:=h',gens:=g',drawn:=d',toks:=t'}:=by
 obtain⟨m,⟨o,es,U,G,r⟩,_⟩:=id Xz;obtain⟨sl,q⟩:=u.any G Xw λz=>(l _ z).2.1 rfl;exact I.step (ch:=ch) l (λb o q O g e n=>u.keep b o e n (λz=>(Zf.mp (I.stkSub b z)).elim q O) g) (λb o _ _ g e n=>u.any e n g) (λb o g e n=>u.free b o e n g) (λb o g e=>u.there b o e g) u.tups u.frzs u.tbls (λm' J=>by
  obtain⟨o',B,F,j,L⟩:=J;rw[G]at j;cases j;exact⟨_,B,F,q,L⟩) y N
def Inv.turned{it:Addr}(I:AG)(k:∀b o,b≠it->s.heap.get? b=So o->h'.get? b=So o)(N:H it=No)(l:it≠AM)
  (h1:it∈X.ex\/X.s₀.heap.objs.size<=it) (J:∀x c,X.env.cells.lookup x=So c->c≠it) (G:∀p∈X.pn++Y,p.1≠it):Inv X Y Z H {s with heap:=h',toks:=t'}:=by
 have j:∀b u,H b=So u->b≠it:=λb u e z=>by rw[z,N]at e;cases e
 refine I.step (g':=YF) (d':=X9) (ch:=[it]) (λb L=>?_) (λb o _ _ g e _=>k b o (λz=>g (by simp[z])) e) (λb o _ _ g e _=>⟨o.slots,k b o (λz=>g (by simp[z])) e⟩) Nu
  (λb o g e=>⟨o,k b o (λz=>g (by simp[z])) e⟩) (λ_ _ e=>e) (λ_ _ _ e=>e) (λb ps e=>⟨#[],by rw[e];simp⟩) (λm F=>?_) (λb u e=>?_) Xs
 ·have e:b=it:=by simpa using L
  subst e;exact⟨h1,l,J,G⟩
 ·obtain⟨o,es,y,B,r⟩:=F;exact⟨o,es,y,k _ o (Ne.symm l) B,r⟩
 ·refine(I.hok b u e).stay (λc v g q=>k c v ?_ q) Ll λ_ _ q=>q;rcases g with z|z
  ·rw[z];exact j b u e
  ·exact j c _ z
def Inv.tok(I:AG)(t:Nat):Inv X Y Z H {s with toks:=t}:=I.un (h':=W6) (t':=t) Un.refl Xh
def Inv.kept(I:AG)(k:∀b u,s.heap.get? b=So u->h'.get? b=So u):Inv X Y Z H {s with heap:=h',toks:=t'}:=I.un (Un.kept k) (I.hok.kept k)
def Inv.laid(I:AG)(k:∀b u,s.heap.get? b=So u->h'.get? b=So u)(g:Aa<=a)(new:PY):
  Inv X Y Z FO {s with heap:=h',toks:=t'}:=I.un (Un.laid k g Qbw) (I.hok.laid k g new)
def Inv.write{x e:Addr}(I:AG)(l:Qdj)(j:e=x\/H e=So Gz)(k:∀b u,b≠e->s.heap.get? b=So u->h'.get? b=So u)(g:∃u,h'.get? e=So u)
  (new:ObjOk Xa X.w aQ h' x o):Inv X Y Z aQ {s with heap:=h',toks:=t'}:=I.un (Un.write l j k g) (I.hok.write l j k g new)
def Inv.pins_of{g:AQ}(I:AG)(h:∀p∈g,s.heap.get? p.1=So p.2/\H p.1=No/\p.1≠AM/\p.1∉X.fs/\∀v,p.2.data≠.cell v):Inv X g Z H s:=
 ⟨I.ok,I.os,Xs,Yn,Xz,Yo,Xw,XT,λp j=>(ZS.mp j).elim (λz=>I.pin p (wL _ z)) (h p),Xh,Ys⟩
def JjQ{N:Ad}(l:N.Nodup){j:Nat}(a:N[i]? =So x)(b:N[j]? =So x):i=j:=by obtain⟨q,m⟩:=Zz.mp a;obtain⟨n,g⟩:=Zz.mp b;exact(List.getElem_inj l).mp (m.trans g.symm)
def JfV{Q:Do}(I:AG)(hN:Fx)(hi:X.N[i]? =So x)(G:GP)(r:Fk)
  (h:∀s',Inv X Y W1 H s'->(∃a,Heap.SameBut a W6 Ya/\(a=AM\/X.env.cells.lookup x=So a))->Q () s') (hf:Lz):wpAny M A OG Q E s:=by
 obtain⟨m,hn,hl⟩:=id Xz;have hcls:(QcT==.class||(QcT==.module&&X.env.locals !=X.env.globals))=Fo:=by rw[I.ok.kind];rfl
 have O:i<Z.length:=by rw[I.len];exact(Zz.mp hi).1
 have cne:=I.cne;have l:∀{a:Addr}{h':Heap},(∃o,s.heap.get? a=So o/\H a=No)->Heap.SameBut a W6 h'->HOk Xa X.w H h':=fun{a h'}ha g b ob e=>by
  obtain⟨_,_,J⟩:=ha;refine(I.hok b ob e).stay (λc w' F q=>(g.2 c ?_).trans q) Ll λ_ _ q=>q;rintro rfl;rcases F with rfl|F
  ·rw[J]at e;cases e
  ·rw[J]at F;cases F
 rcases G with N|N
 ·refine wpAny_storeName_local N hn (λh' hn' g=>?_) hcls;obtain⟨oL,_,_,hoL,_⟩:=id hn;refine h _ ⟨I.ok,I.os,Xs,WH,⟨_,hn',λj y v' B L e3=>?_⟩,λy c e=>?_,Xw,XT,λp hp=>?_,l ⟨oL,hoL,Xw⟩ g,by simpa using I.len⟩ ⟨_,g,.inl rfl⟩
  ·exact(g.2 b (Zr Ms)).trans S3
  ·obtain⟨sl,B⟩:=I.base.slot b o e n hb G;exact⟨sl,(g.2 b (Zr Ms)).trans B⟩
  ·obtain⟨o',B⟩:=I.base.there b o e G;exact⟨o',(g.2 b (Zr Ms)).trans B⟩
  ·by_cases U:j=i
   ·subst U;rw[hi]at B;cases B;rw[ZX O]at L;cases L;exact⟨u,r,.inl ⟨N,by simp⟩⟩
   ·rw[Zu 'Ԇ']at L;obtain⟨u',r',q⟩:=hl j y v' B L e3;refine⟨u',r',?_⟩;rcases q with⟨k,e⟩|⟨k,c,e,z⟩
    ·refine .inl ⟨k,?_⟩;have:y≠x:=λe=>U (JjQ hN B (e▸hi));simp[this,e]
    ·exact .inr ⟨k,c,e,z.sameBut g (cne y c e)⟩
  ·obtain⟨w',z⟩:=I.cell y c e;exact⟨w',z.sameBut g (cne y c e)⟩
  ·obtain⟨e,n,ne,nf,d⟩:=I.pin p hp;exact⟨(g.2 p.1 ne).trans e,n,ne,nf,d⟩
 ·have hfn:X.fn x=To:=by
   rcases hf with z|z
   ·exact z
   ·rw[z]at N;cases N
  obtain⟨c,F⟩:=I.ok.has x (.inl N);obtain⟨w',z⟩:=I.cell x c F;refine wpAny_storeName_cell XX N F z (λh' hc' g=>?_);obtain⟨oc,hoc,hocd⟩:=id z;refine h {s with heap:=h'} ⟨I.ok,I.os,Xs,WH,⟨m,hn.sameBut g (Ne.symm (cne x c F)),λj y v' B L e3=>?_⟩,λy c' e=>?_,Xw,XT,λp hp=>?_,l ⟨oc,hoc,I.freeC x c F⟩ g,by simpa using I.len⟩ ⟨c,g,.inr F⟩
  ·exact(g.2 b SF).trans S3
  ·obtain⟨sl,B⟩:=I.base.slot b o e n hb G
   exact⟨sl,(g.2 b SF).trans B⟩
  ·obtain⟨o',B⟩:=I.base.there b o e G
   exact⟨o',(g.2 b SF).trans B⟩
  ·by_cases U:j=i
   ·subst U;rw[hi]at B;cases B;rw[ZX O]at L;cases L;exact⟨u,r,.inr ⟨.inl N,c,F,hc'⟩⟩
   ·rw[Zu 'Ԇ']at L;obtain⟨u',r',q⟩:=hl j y v' B L e3;refine⟨u',r',?_⟩;rcases q with q|⟨k,c',e,z'⟩
    ·exact .inl q
    ·refine .inr ⟨k,c',e,z'.sameBut g ?_⟩;rintro rfl;exact U (JjQ hN B (I.ok.inj _ _ _ e F▸hi))
  ·by_cases hcc:c'=c
   ·subst hcc;exact⟨_,hc'⟩
   ·obtain⟨w2,z2⟩:=I.cell y c' e;exact⟨w2,z2.sameBut g hcc⟩
  ·obtain⟨e,n,ne,nf,d⟩:=I.pin p hp
   refine⟨(g.2 p.1 ?_).trans e,n,ne,nf,d⟩;intro q;rw[q,hoc]at e;have q':oc=p.2:=pA e;exact d w' (by rw[<-q'];exact hocd)
def jR{Q:Do}(I:AG)(m:Fx)(hi:X.N[i]? =So x)(l:GP)(r:Fk)
  (h:∀g,Inv X Y W1 H g->Q () g) (j:Lz):wpAny M A OG Q E s:=
 JfV I m hi l r (λg n _=>h g n) j
def Inv.call'{g:Ak}(I:AG)(q:g.os=s.os)(u:Un GZ ch H W W6 g.heap)(j:HOk Xa X.w W g.heap)(m:AllBare g.gens)
  (l:∀b∈ch,Lw/\b≠AM/\(∀x c,X.env.cells.lookup x=So c->c≠b)/\∀p∈X.pn++Y,p.1≠b):Inv X Y Z W g:=by obtain⟨h',g',d',t',n⟩:=g;have e:n=s.os:=q;subst e;exact I.call (g':=g') (t':=t') (d':=d') u j m l
end
noncomputable abbrev XK:=Value->Option Addr->Hp->Prop
noncomputable abbrev St:=List (Option V)
variable{Z:St}
noncomputable abbrev VK:=V->Hp->Prop
noncomputable abbrev TE:=St->Hp->VK->Prop
variable{ta te:TE}
noncomputable abbrev TT:=St->Hp->LD->Prop
noncomputable abbrev TA:=St->Hp->(List V->Hp->Prop)->Prop
structure Ends where
 nx:St->Hp->Prop
 rt:VK
 bk:St->Hp->Prop:=λ_ _=>False
 ct:St->Hp->Prop:=λ_ _=>False
variable{t:TA}
noncomputable abbrev TS:=Ends->St->Hp->Prop
inductive EP(X:Cx)(pins:AQ)(σ:St)(Q:VK)(u:An)(s':Ak):Prop where
 |mk (v:V) (H':Hp) (I:Inv X pins σ H' s') (r:RelV v u) (q:Q v H'):EP X pins σ Q u s'
inductive TP(X:Cx)(pins:AQ)(σ:St)(Q:DI)(b:Bool)(s':Ak):Prop where
 |mk (H':Hp) (I:Inv X pins σ H' s') (q:Q b H'):TP X pins σ Q b s'
inductive AP(X:Cx)(pins:AQ)(σ:St)(Q:List V->Hp->Prop)(us:Az)(s':Ak):Prop where
 |mk (vs:List V) (H':Hp) (I:Inv X pins σ H' s') (r:Vals vs us) (q:Q vs H'):AP X pins σ Q us s'
inductive NP(X:Cx)(pins:AQ)(nx:St->Hp->Prop)(s':Ak):Prop where
 |mk (σ':St) (H':Hp) (I:Inv X pins σ' H' s') (q:nx σ' H'):NP X pins nx s'
inductive RP(X:Cx)(pins:AQ)(rt:VK)(u:An)(s':Ak):Prop where
 |mk (v:V) (σ':St) (H':Hp) (I:Inv X pins σ' H' s') (r:RelV v u) (q:rt v H'):RP X pins rt u s'
def SP(X:Cx)(Y:AQ)(D:Ends)(f:Flow)(g:Ak):Prop:=
 match f with
 |.next=>NP X Y D.nx g
 |.brk=>NP X Y D.bk g
 |.cont=>NP X Y D.ct g
 |.ret u=>RP X Y D.rt u g
def PE(X:Cx)(e:Expr)(t:TE):Prop:=
 ∀(Y:AQ)(s:Ak)(Z:St)(H:Hp)(Q:VK),Inv X Y Z H s->t Z H Q->wpAny Ay X.A LU B3 X.xe s
def PT(X:Cx)(e:Expr)(t:TT):Prop:=
 ∀(Y:AQ)(s:Ak)(Z:St)(H:Hp)(Q:DI),Inv X Y Z H s->t Z H Q->wpAny Ay X.A (isTrue e WU LU) Lk X.xe s
def PW(X:Cx)(e:Expr)(t:TT):Prop:=
 ∀(g:Sem Value)(Y:AQ)(s:Ak)(Z:St)(H:Hp)(Q:DI),Inv X Y Z H s->t Z H Q->wpAny Ay X.A (isTrue e WU g) Lk X.xe s
def PW.pt{t:TT}(h:PW X e t):PT X e t:=h _
def PA(X:Cx)(es:C6)(t:TA):Prop:=
 ∀(pos:Pos)(Y:AQ)(s:Ak)(Z:St)(H:Hp)(Q:List V->Hp->Prop),Inv X Y Z H s->t Z H Q->wpAny Ay X.A (spliced 'ĺ') (AP X Y Z Q) X.xe s
def PS(X:Cx)(st:Stmt)(t:TS):Prop:=
 ∀(Y:AQ)(s:Ak)(Z:St)(H:Hp)(D:Ends),Inv X Y Z H s->t D Z H->wpAny Ay X.A (exec st WU) KP X.xe s
def PSs(X:Cx)(st:Cj)(t:TS):Prop:=
 ∀(Y:AQ)(s:Ak)(Z:St)(H:Hp)(D:Ends),Inv X Y Z H s->t D Z H->wpAny Ay X.A (execs st WU) KP X.xe s
def thn{g:Type}{t:Sem g}{Q j:g->Shared->Prop}(h:wpAny M A t Q E s)(l:∀a s,Q a s->j a s):wpAny M A t j E s:=ZV h l λ_ _ x=>x
section
def tVar(i:Nat):TE:=λZ H Q=>∃v,Z[i]? =So BO/\Q v H
def tC(v:V):TE:=λ_ H Q=>Q v H
def qD(G:X.N[i]? =So x)(z:Vis ER x)(q:DW)(hcd:'в' ((x==("__classdict__":Str))=Fo) Eo):PE X Ct (tVar i):=by
 intro Y s Z H Q I h;obtain⟨v,e,h⟩:=h;obtain⟨m,J,F⟩:=Xz;obtain⟨u,r,l⟩:=F i x v G e z;have n:EP X Y Z Q u s:=P4;rcases l with⟨j,B⟩|⟨j,c,y,g⟩
 ·exact wpAny_Name (wpAny_loadName_local XX j J B n) q
 ·rcases j with j|j
  ·exact wpAny_Name (wpAny_loadName_cell XX j y g n) q
  ·exact wpAny_Name (wpAny_loadName_free XX j y g n hcd) q
def nV{i j pos}:PE X O3 (tC AS):=λ_ _ _ H _ I h=>wpAny_Constant_int ⟨.int i,H,I.tok _,Au,h⟩
def Jvt{b j pos}:PE X (.Constant (.bool b) j pos) (tC Cp):=λ_ _ _ H _ I h=>Constant_bool ⟨.bl b,H,I,rfl,h⟩
def JwA{j pos}:PE X Pj (tC .non):=λ_ _ _ H _ I h=>Constant_none ⟨.non,H,I,rfl,h⟩
def Jrf{x j pos}:PE X O0 (tC Cr):=λ_ _ _ H _ I h=>Calls.Constant_str ⟨.str x,H,I.tok _,Au,h⟩
def Gl(X:Cx)(x:Str):Prop:=X.env.kindOf x=So .globalImplicit
def pJ(I:AG)(l:C9)(g:X.mg x=So u)(h:Q u s)
  (j:DW):wpAny Ay X.A (eval Ct WU) Q E s:=
 Calls.Name_function_global XX l (Calls.loadGlobal_global (by rw[I.ok.glob];exact I.mod.glob.keeps I.bk) g h) j
def mH(I:AG)(g:C9)(m:X.mg x=No)(l:bootBuiltins x=So u)(h:Q u s)
  (q:'в' (x≠"__name__") Eo) (hd:DW):wpAny Ay X.A (eval Ct WU) Q E s:=by obtain⟨r,n,j⟩:=I.mod.blt;exact Calls.Name_function_global XX g (Calls.loadGlobal_builtin (by rw[I.ok.glob];exact I.mod.glob.keeps I.bk) m (by rw[I.ok.blt];exact n.keeps I.bk) ((j x q).trans l) h) hd
def JrB(g:C9)(j:X.mg x=So u)(r:Fk)(l:DW):PE X Ct (tC v):=
 λ_ _ _ H _ I h=>pJ I g j P4 l
def Jts(g:C9)(l:X.mg x=No)(j:bootBuiltins x=So u)(r:Fk)(m:'в' (x≠"__name__") Eo)(hd:DW):PE X Ct (tC v):=
 λ_ _ _ H _ I h=>mH I g l j P4 m hd
noncomputable def t2I (ta tb:TE) (k:Int->Int->Hp->Prop):St->Hp->Prop:=λZ H=>ta Z H λx g=>tb Z g λy l=>∃i j,x=.int i/\y=.int j/\k i j l
variable{a b:Expr}{tb:TE}
def PC(X:Cx)(op:YB)(a b:Expr)(t:TE):Prop:=
 ∀(Y:AQ)(s:Ak)(Z:St)(H:Hp)(Q:VK),Inv X Y Z H s->t Z H Q->
  wpAny Ay X.A Kf (λv j=>wpAny Ay X.A (eval b WU) (λu g=>wpAny Ay X.A (compareOp op v u) B3 X.xe g) X.xe j) X.xe s
def JiG(b:Expr)(h:op≠.In)(j:op≠.NotIn):behindInMarks op b=Fo:=by
 have l:(op==CmpOp.In)=Fo:=by cases op<;>first|rfl|exact absurd rfl h
 have g:(op==CmpOp.NotIn)=Fo:=by cases op<;>first|rfl|exact absurd rfl j
 cases b<;>first|rfl|(show(_&&(_||_)&&_)=Fo;rw[l,g,yE,dI,ZU])
def tCmp(p:Int->Int->Bool)(ta tb:TE):TE:=λZ H Q=>t2I ta tb (λi j g=>Q (.bl (p i j)) g) Z H
noncomputable abbrev tLt:TE->TE->TE:=tCmp λi j=>decide (i<j)
noncomputable abbrev tGt:TE->TE->TE:=tCmp λi j=>decide (j<i)
noncomputable abbrev tGe:TE->TE->TE:=tCmp λi j=>decide (j<=i)
def tIsN(ta:TE):TE:=λZ H Q=>ta Z H λx g=>Q (.bl (decide (x=.non))) g
def tNotN(ta:TE):TE:=λZ H Q=>ta Z H λx g=>Q (.bl (!decide (x=.non))) g
def RelV.none_iff{x:V}{v:An}(r:RelV x v):(v==Xb)=decide (x=.non):=by
 cases x with
 |non=>cases r;exact(Zs rfl).symm
 |_=>rw[Zt nofun];first|(cases r;rfl)|(obtain⟨t,rfl⟩:=r;rfl)
def Jwr{j pos'}(ha:Ca):PC X .Is a PF (tIsN ta):=by intro Y s Z H Q I h;refine thn Ci λv r g=>?_;obtain⟨x,l,n,q,m⟩:=g;exact Constant_none (is_none_gen ⟨.bl _,l,n,by rw[q.none_iff];rfl,m⟩)
def JkP{j pos'}(ha:Ca):PC X .IsNot a PF (tNotN ta):=by intro Y s Z H Q I h;refine thn Ci λv r g=>?_;obtain⟨x,l,n,q,m⟩:=g;exact Constant_none (isnot_none_gen ⟨.bl _,l,n,by rw[q.none_iff];rfl,m⟩)
def tB(t:TE):TT:=λZ H Q=>t Z H λx g=>∃c,x=.bl c/\Q c g
def JwT{t:TE}(h:PC X op a b t)(h1:FZ:=by first|exact JiG _ AO AO|rfl):PE X FY t:=λY s Z H Q I g=>wpAny_Compare1 Qab h1
def dQ{t:TE}(h:PC X op a b t)(h1:FZ:=by first|exact JiG _ AO AO|rfl):PT X FY (tB t):=by intro Y s Z H Q I j;refine wpAny_isTrue_Compare1 (thn (h Y s Z H _ I j) λv z h1=>thn h1 λu B n=>thn n λc y⟨x,m,g,r,l⟩=>?_) h1;obtain⟨d,rfl,q⟩:=l;cases r;exact pB ⟨m,g,q⟩
variable{tA tB':TT}{rest:C6}
def tAnd(t u:TT):TT:=λZ H Q=>t Z H λc g=>if c=To then u Z g Q else Q Fo g
def tOr(t u:TT):TT:=λZ H Q=>t Z H λc g=>if c=To then Q To g else u Z g Q
def tNot(t:TT):TT:=λZ H Q=>t Z H λc g=>Q (!c) g
def Jma(g:Im):PW X (.BoolOp .And [a] pos) tA:=by
 intro j Y s Z H Q I h;refine isTrue_and (thn (g Y s Z H Q I h) λc l e=>?_);cases c with
 |true=>exact isTrue_and_nil e
 |false=>exact e
def Jqq(g:Im):PW X (.BoolOp .Or [a] pos) tA:=by
 intro j Y s Z H Q I h;refine isTrue_or (thn (g Y s Z H Q I h) λc l e=>?_);cases c with
 |false=>exact isTrue_or_nil e
 |true=>exact e
def JvO(ha:Im)(r:PW X (.BoolOp .And (b::rest) pos) tB'):PW X Mu (tAnd tA tB'):=by
 intro n Y s Z H Q I h;refine isTrue_and (thn Ci λc q g=>?_);obtain⟨l,m,j⟩:=g;cases c with
 |true=>exact r n Y q Z l Q m j
 |false=>exact⟨l,m,j⟩
def Jws(ha:Im)(r:PW X IK tB'):PW X Km (tOr tA tB'):=by
 intro n Y s Z H Q I h;refine isTrue_or (thn Ci λc q g=>?_);obtain⟨l,m,j⟩:=g;cases c with
 |true=>exact⟨l,m,j⟩
 |false=>exact r n Y q Z l Q m j
def JuR(j:Im):PT X Mp (tNot tA):=by intro Y s Z H Q I h;exact isTrue_not (thn (j Y s Z H (λc g=>Q (!c) g) I h) λc m⟨g,l,q⟩=>⟨g,l,q⟩)
def tAndV(ta tb:TE):TE:=λZ H Q=>ta Z H λx g=>∃c,x=.bl c/\if c=To then tb Z g Q else Q C7 g
def tOrV(ta tb:TE):TE:=λZ H Q=>ta Z H λx g=>∃c,x=.bl c/\if c=To then Q Cw g else tb Z g Q
def tNotV(ta:TE):TE:=λZ H Q=>ta Z H λx g=>∃c,x=.bl c/\Q (.bl (!c)) g
def Jwm{op}{t:TE}(h:PE X a t):PE X Mm t:=λY s Z H Q I g=>BoolOp_one Qab
def Jvx(ha:Ca)(q:PE X (.BoolOp .And (b::rest) pos) tb):PE X Mu (tAndV ta tb):=by
 intro Y s Z H Q I h;refine BoolOp_and (thn Ci λv n j=>?_);obtain⟨x,m,l,r,g⟩:=j;obtain⟨c,rfl,g⟩:=g;cases r;refine pB ?_;cases c with
 |true=>exact q Y n Z m Q l g
 |false=>exact⟨.bl Fo,m,l,rfl,g⟩
def pe_or(ha:Ca)(q:PE X IK tb):PE X Km (tOrV ta tb):=by
 intro Y s Z H Q I h;refine BoolOp_or (thn Ci λv n j=>?_);obtain⟨x,m,l,r,g⟩:=j;obtain⟨c,rfl,g⟩:=g;cases r;refine pB ?_;cases c with
 |false=>exact q Y n Z m Q l g
 |true=>exact⟨.bl To,m,l,rfl,g⟩
def JuL(ha:Ca):PE X Mp (tNotV ta):=by intro Y s Z H Q I h;refine UnaryOp_ (thn Ci λv q j=>?_);obtain⟨x,m,l,n,g⟩:=j;obtain⟨c,rfl,g⟩:=g;cases n;exact not_of (pB ⟨.bl (!c),m,l,rfl,g⟩)
def tIf(t:TT)(ta tb:TE):TE:=λZ H Q=>t Z H λc g=>if c=To then ta Z g Q else tb Z g Q
def Jqd(r:PT X c tA)(q:Ca)(y:Ez):PE X Nt (tIf tA ta tb):=by
 intro Y s Z H Q I h;refine wpAny_IfExp (thn (r Y s Z H _ I h) λd m g=>?_);obtain⟨l,n,j⟩:=g;cases d with
 |true=>exact q Y m Z l Q n j
 |false=>exact y Y m Z l Q n j
end
def SqL(K:Ai)(H:Hp)(a:Addr)(xs:AA):Prop:=
 Rd H a By\/
  ∃(o:Obj)(g:BU)(n:Nat),K.lookup a=So o/\o.cls=.type "list"/\o.dict=No/\o.data=.seq g n/\g.size<=sizeLine/\Vals xs Yi
def ModT(K:Ai)(y:Str)(a:Addr):Prop:=PySem.W.nsIn K mainGlobals y=So (So Aw)\/
 ∃(b:Addr)(o:Obj)(g:BU)(n:Nat),PySem.W.nsIn K mainGlobals y=So (So CU)/\K.lookup b=So o/\o.cls=.type "tuple"/\o.data=.seq g n/\Value.ref a∈g.toList
def SqT(K:Ai)(H:Hp)(a:Addr)(xs:AA):Prop:=
 H a=So A4\/
  ∃(y:Str)(o:Obj)(g:BU)(n:Nat),ModT K y a/\K.lookup a=So o/\o.cls=.type "tuple"/\o.dict=No/\o.data=.seq g n/\g.size<=sizeLine/\Vals xs Yi
noncomputable def absV:Value->Option V
 |.none=>So .non
 |.bool b=>So Cp
 |.int i _=>So AS
 |.str x _=>So Cr
 |.bytes b _=>So (.byt b)
 |.float b _=>So (.flt b)
 |.ref a=>So Aw
 |.type n=>So (.ty n)
 |_=>No
def RelV.abs{x:V}(r:RelV x u):absV u=So x:=by
 cases x with
 |non=>cases r;rfl
 |bl _=>cases r;rfl
 |int _=>obtain⟨t,rfl⟩:=r;rfl
 |str _=>obtain⟨t,rfl⟩:=r;rfl
 |byt _=>obtain⟨t,rfl⟩:=r;rfl
 |flt _=>obtain⟨t,rfl⟩:=r;rfl
 |ref _=>cases r;rfl
 |ty _=>cases r;rfl
def RelV.inj{x y:V}{u:An}(r:RelV x u)(q:Dy):x=y:=pA (r.abs.symm.trans q.abs)
theorem Vals.inj:∀{xs ys:AA}{us:Az},Vals xs us->Vals ys us->xs=ys
 |_,_,_,.nil,.nil=>rfl
 |_,_,_,.cons r t,.cons r' t'=>by rw[r.inj r',Vals.inj t t']
section
variable{xs ys:AA}
def SqL.of(h:H a=So By):SqL K H a xs:=.inl Qc0
def SqT.of(h:H a=So A4):SqT K H a xs:=.inl h
theorem Inv.list(I:AG)(h:HL):∃its:List Value,Vals xs its/\PlainL W6 a Ap/\xs.length<=sizeLine:=by
 rcases h with h|⟨o,its,n,g,j,m,l,q,r⟩
 ·obtain⟨z,its,n,r,e⟩:=h.ok Xh;exact⟨its,r,⟨_,n,e,rfl,rfl,rfl⟩,z⟩
 ·refine⟨Qbj,r,⟨o,n,I.kIn a o g,j,m,by simpa using l⟩,?_⟩;have e:=Xv;simp only[kD]at e;lia
theorem Inv.tuple(I:AG)(h:HK):∃its:List Value,Vals xs its/\IsTup W6 a Ap/\xs.length<=sizeLine:=by
 rcases h with h|⟨_,o,its,n,_,g,j,_,l,m,r⟩
 ·obtain⟨⟨z,_⟩,its,r,p⟩:=I.hok a _ h;exact Qd4
 ·refine⟨Qbj,r,⟨o,I.kIn a o g,j,n,by simpa using l⟩,?_⟩;have e:=Xv;simp only[kD]at e;lia
theorem Inv.tupleD(I:AG)(h:HK):∃(its:Az)(o:Obj)(n:Nat),Vals xs its/\s.heap.get? a=So o/\o.cls=.type "tuple"/\o.dict=No/\o.data=.seq Ap n/\xs.length<=sizeLine:=by
 rcases h with h|⟨_,o,its,n,_,g,j,m,q,y,r⟩
 ·obtain⟨⟨z,l⟩,its,r,o,e,c,n,d⟩:=I.hok a _ h;exact⟨its,o,n,r,e,c,l _ e,d,z⟩
 ·refine⟨Qbj,o,n,r,I.kIn a o g,j,m,by simpa using q,?_⟩;have e:=Xv;simp only[kD]at e;lia
def Inv.list_inj(I:AG)(h:HL)(h':SqL X.K H a ys):xs=ys:=by
 obtain⟨j,r,⟨o,n,e,_,_,d⟩,_⟩:=I.list h;obtain⟨g,y,⟨z,B,m,_,_,l⟩,_⟩:=I.list h';rw[e]at m;cases m;rw[d]at l;injection l with q _;have:j=g:=by simpa using xB Array.toList q
 subst this;exact r.inj y
def Inv.tuple_inj(I:AG)(h:HK)(h':SqT X.K H a ys):xs=ys:=by
 obtain⟨j,r,⟨o,e,_,n,d⟩,_⟩:=I.tuple h;obtain⟨g,y,⟨z,m,_,B,l⟩,_⟩:=I.tuple h';rw[e]at m;cases m;rw[d]at l;injection l with q _;have:j=g:=by simpa using xB Array.toList q
 subst this;exact r.inj y
end
section
variable{st:Stmt}{rest:Cj}{t u:TS}
def tNext:TS:=λD Z H=>D.nx Z H
def tSeq(t u:TS):TS:=λD Z H=>t {D with nx:=u D} Z H
def Jto:PSs X [] tNext:=λ_ _ Z H _ I h=>lK Hs
def vJ(h1:Qdk)(j:PSs X rest u):PSs X (st::rest) (tSeq t u):=by
 intro Y s Z H D I h;refine wpAny_execs_cons (thn (h1 Y s Z H {D with nx:=u D} I h) λf l q=>?_);cases f with
 |next=>obtain⟨g,W,m,q⟩:=q;exact j Y l g W D m q
 |ret v=>exact q
 |brk=>exact q
 |cont=>exact q
def oN(h1:Qdk):PSs X [st] t:=by
 intro Y s Z H D I h;refine wpAny_execs_cons (thn (h1 Y s Z H D I h) λf g q=>?_);cases f with
 |next=>exact lK q
 |ret v=>exact q
 |brk=>exact q
 |cont=>exact q
def tCont:TS:=λD Z H=>D.ct Z H
def JhD:PS X Qbx tCont:=λ_ _ Z H _ I h=>wpAny_Continue Hs
def Inv.quiet(I:AG):interactive WU=Fo:=by simp[interactive,I.ok.kind]
def tDrop(te:TE):TS:=λD Z H=>te Z H λ_ g=>D.nx Z g
def nN(he:Ey)(l:'в' QL Al):PS X Ie (tDrop te):=by intro Y s Z H D I h;exact wpAny_Expr_any (thn E2 λv n⟨x,g,j,q,m⟩=>⟨Z,g,j,m⟩) I.quiet l
def tRet(te:TE):TS:=λD Z H=>te Z H D.rt
def jV(he:Ey):PS X RF (tRet te):=by intro Y s Z H D I h;exact wpAny_Return_some (thn E2 λv n⟨x,g,j,l,m⟩=>⟨x,Z,g,j,l,m⟩)
def tIfS(c:TT)(t u:TS):TS:=λD Z H=>c Z H λb g=>if b=To then t D Z g else u D Z g
def Jxn{a b:Cj}{m:TT}(y:PT X c m)(r:PSs X a t)(z:PSs X b u):PS X (.If c a b pos) (tIfS m t u):=by
 intro Y s Z H D I h;refine wpAny_If (thn (y Y s Z H _ I h) λd j g=>?_);obtain⟨q,l,n⟩:=g;cases d with
 |true=>exact r Y j Z q D l n
 |false=>exact z Y j Z q D l n
end
noncomputable abbrev TG:=V->St->Hp->(St->Hp->Prop)->Prop
noncomputable abbrev TGs:=List V->St->Hp->(St->Hp->Prop)->Prop
def PG(X:Cx)(g:Expr)(t:TG):Prop:=
 ∀(Y:AQ)(s:Ak)(Z:St)(H:Hp)(v:V)(u:An)(Q:St->Hp->Prop),Inv X Y Z H s->RelV v u->t v Z H Q->
  wpAny Ay X.A (assign g WU u) OF X.xe s
def PGs(X:Cx)(j:C6)(t:TGs):Prop:=
 ∀(Y:AQ)(s:Ak)(Z:St)(H:Hp)(vs:AA)(us:Az)(Q:St->Hp->Prop),Inv X Y Z H s->Vals vs us->t vs Z H Q->
  wpAny Ay X.A (assignInOrder ((assignEach j WU).map (·.2)) us) (λ_ g=>NP X Y Q g) X.xe s
def Jft(i:Nat):TG:=λv Z H Q=>Q W1 H
def qC(j:Fx)(hi:X.N[i]? =So x)(g:GP)(m:Lz):PG X Ct DY:=by intro Y s Z H v u Q I r h;exact wpAny_assign_Name (jR I j hi g r (λn l=>⟨_,H,l,h⟩) m)
def gNil:TGs:=λvs Z H Q=>vs=[]/\Q Z H
def gCons(t:TG)(u:TGs):TGs:=λvs Z H Q=>∃v r,vs=v::r/\t v Z H λg W=>u r g W Q
def kN:PGs X [] gNil:=by intro Y s Z H vs us Q I r h;obtain⟨e,h⟩:=h;subst e;cases r;exact assignInOrder_nil Hs
def JP{t:TG}{u:TGs}(h1:PG X e t)(z:PGs X es u)
  (B:'в' ((assignEach Fi WU).map (·.2)=assign e WU::'Ν'.map (·.2)) Al):PGs X Fi (gCons t u):=by
 intro Y s Z H vs us Q I r h;obtain⟨v,G,n,h⟩:=h;subst n;cases r with
 |cons r F=>rw[B];refine assignInOrder_cons (thn (h1 Y s Z H _ _ _ I r h) λ_ l j=>?_);obtain⟨g,y,m,q⟩:=j;exact z Y l g y _ _ Q m F q
def gTup(K:Ai)(n:Nat)(t:TGs):TG:=λv Z H Q=>∃a g,v=.ref a/\SqT K H a g/\g.length=n/\t g Z H Q
def rM{t:TGs}{n:Nat}(m:Cf)(h:PGs X es t)
  (L:'в' ('Ν'.length=n) Al) (hst:'в' ('Ν'.findIdx? (·.1)=No) Al):PG X Qac (gTup X.K n t):=by intro Y s Z H v u Q I r g;obtain⟨a,z,y,G,F,g⟩:=g;subst y;cases r;obtain⟨J,j,B,N⟩:=I.tuple G;refine assign_Tuple_tuple (I.ok.hd m) B (by simp[L,<-F,j.length]) hst λh' l=>?_;have q:Inv X Y Z H {s with heap:=h'}:=I.kept (t':=W7) λb o e=>l b o aR e;exact h Y _ Z H z _ Q q (by simpa using j) g
def tAsg(te:TE)(g:TG):TS:=λD Z H=>te Z H λx j=>g x Z j D.nx
def Jrn{g:TG}(he:Ey)(n:PG X tg g)(y:'в' (swapsWithSole [tg] e Xi WU=pure Fo) Al)(hw:'в' (swappedStores [tg] e WU=pure No) Al)
  (h1:'в' ('ʗ'.map (·.2)=Qo) Al):PS X Oj (tAsg te g):=by intro Y s Z H D I h;refine wpAny_Assign_stores (thn E2 λv l⟨x,r,j,z,m⟩=>?_) y hw;rw[h1];exact thn (n Y l Z r x v _ j z m) λ_ B q=>q
def pF{g:Pos}(n:Fx)(hi:X.N[i]? =So x)(j:GP)(he:Ey)(z:'в' (swapsWith e (So (.Name x g)) Xi WU=pure Fo) Al)(hf:Lz):
  PS X (.Assign [.Name x g] e pos) (tAsg te DY):=by intro Y s Z H D I h;refine wpAny_Assign_Name (thn E2 λv F⟨y,q,l,B,m⟩=>?_) z;exact jR l n hi j B (λG r=>⟨_,q,r,m⟩) hf
def tPar(i j:Nat)(ta:TA):TS:=λD Z H=>ta Z H λvs g=>∃v w,vs=[v,w]/\D.nx ('Ǻ'.set j (So w)) g
def Jxb{j:Nat}{y:Str}{a b:Expr}{ta:TA}{z n pt:Pos}{kt k2 pt2}(hc:Cf)(O:Fx)(hi:X.N[i]? =So x)(hj:X.N[j]? =So y)(m:i≠j)
  (J:X.env.scope.names.lookup x=So .local) (L:X.env.scope.names.lookup y=So .local) (ha:PA X [a,b] ta)
  (hw:swappedStores SC FT WU=pure b0)
  (hs:'в' (swapsWithSole SC FT Xi WU=pure Fo) Al):
  PS X (.Assign SC FT pos) (tPar i j ta):=by
 intro Y s Z H D I h;rw[exec_Assign_arm];refine Za (wpAny_standAt ?_);rw[hs];refine Za (Zb ?_);rw[if_neg 'v'];refine Za (Tuple_ (thn (ha _ Y s Z H _ I h) λus s1 G=>?_));obtain⟨vs,U,I1,r1,B⟩:=G;obtain⟨v,w,e1,B⟩:=B;subst e1;obtain⟨g,l,rfl,rv,F⟩:∃g l,us=[g,l]/\RelV v g/\RelV w l:=by
  cases r1 with
  |cons p q=>
   cases q with
   |cons p' q'=>cases q';exact⟨_,_,rfl,p,p'⟩
 refine ZR ?_ (by show 2<=sizeLine;decide);have I2:Inv X Y Z U {s1 with heap:=s1.heap.push {cls:=.type "tuple",data:=.seq [g,l].toArray}}:=I1.kept (t':=XA) λb o e=>Zd _ e;rw[hw];refine Za (Zb ?_);show wpAny Ay X.A (do rule "assign.swapped-stores";let items<-unpackItems (.ref Aq) 2 No;assignInOrder Wa items.reverse;pure Flow.next) _ _ _;refine Za (uA (Za (unpackItems_tuple (items:=#[g,l]) Lj (IsTup.new s1.heap _) λh' r=>?_)));have I3:=I2.kept (h':=h') (t':=XA) λb o e=>r b o aR e;show wpAny _ _ (assignInOrder Wa [l,g]>>=λ_=>pure Flow.next) _ _ _;refine Za (assignInOrder_cons (wpAny_bindName (jR I3 O hj (.inl L) F (λs2 I4=>?_) (.inr L))));refine assignInOrder_cons (wpAny_bindName (jR I4 O hi (.inl J) rv (λs3 N=>assignInOrder_nil (Zb ?_)) (.inr J)));rw[List.set_comm _ _ (Ne.symm m)]at N;exact⟨_,U,N,B⟩
def JwZ(c:TT)(q:TS):TS:=λD Z H=>∃j:Nat->St->Hp->Prop,(∃m,j m Z H)/\∀m Z H,j m Z H->
 c Z H λb l=>if b=To then∃N:St->Hp->Prop,(∀g W,N g W->∃n,n<m/\j n g W)/\q {D with nx:=N,ct:=N,bk:=D.nx} Z l else D.nx Z l
def JoF{U:TT}{O:TS}(hp:F4)(hc:PT X c U)(hb:PSs X body O):PS X OZ (JwZ U O):=by
 intro Y s Z H D I h;obtain⟨W9,⟨m0,w0⟩,l⟩:=h;refine wpAny_While (codeAny_whileLoop (λn s'=>∃m W,Inv X Y m W s'/\W9 n m W) ?_ m0 ⟨Z,H,I,w0⟩);rintro n s1⟨j,H1,I1,w1⟩;refine tG hp (thn (hc Y s1 j H1 _ I1 (l n j H1 w1)) λb s2 L=>?_);obtain⟨H2,I2,y⟩:=L;cases b with
 |true=>
  obtain⟨N,hN,y⟩:=y;rw[if_pos rfl];refine tG hp (thn (hb Y s2 j H2 _ I2 y) λf s3 r=>?_);cases f with
  |next=>obtain⟨g,q,B,G⟩:=r;obtain⟨z,J,F⟩:=hN g q G;exact QbY
  |cont=>obtain⟨g,q,B,G⟩:=r;obtain⟨z,J,F⟩:=hN g q G;exact QbY
  |brk=>exact r
  |ret v=>exact r
 |false=>rw[if_neg ZH];exact lK ⟨j,H2,I2,y⟩
structure It where
 go:Nat->Hp->Prop
 yld:Nat->Hp->V->Hp->Prop
 stop:Nat->Hp->Prop
def FpOk(X:Cx)(Y:AQ)(H:Hp)(b:Addr):Prop:=
 H b=No/\b≠AM/\b∉X.fs/\Lw/\(∀x c,X.env.cells.lookup x=So c->c≠b)/\∀p∈X.pn++Y,p.1≠b
def Inv.fpOk(I:AG)(g:Aa<=b)(j:W b=No):FpOk X Y W b:=by
 refine⟨j,iD (Zw I.lt g),I.nofs g,.inr (ZM I.sz g),λx c e z=>?_,λp l z=>?_⟩
 ·obtain⟨v,q⟩:=I.cell x c e;exact absurd (Zw q.lt (by rw[z];exact g)) Cz
 ·exact absurd (Zw (Zk (I.pin p l).1) (by rw[z];exact g)) Cz
structure Turn(P:Bk)(w:AY)(K:Ai)(tg:Expr)(J9:It)(fp:A3)(it:Addr)(tn:Fn):Prop where
 mem:it∈fp
 obj:∀i h,tn i h->∀b∈fp,∃o,h.get? b=So o/\∀v,o.data≠.cell v
 keep:∀i h h',tn i h->(∀b∈fp,∀o,h.get? b=So o->h'.get? b=So o)->tn i h'
 item:∀(X:Cx),Xa=P->X.w=w->X.K=K->X.calm=To->∀(i:Nat)(Y:AQ)(s:Ak)(Z:St)(H:Hp)(E:AZ),Inv X Y Z H s->(∀b∈fp,FpOk X Y H b)->tn i s.heap->J9.go i H->
  wpAny Bv X.A EK (λr s1=>∃u,r=So u/\
   wpAny Bv X.A Tg (λ_ s2=>∃x W,Inv X Y Z W s2/\RelV x u/\J9.yld i H x W/\tn AE Z9/\∀b∈fp,W b=No) E s1) E s
 done:∀(X:Cx),Xa=P->X.w=w->X.K=K->X.calm=To->∀(i:Nat)(Y:AQ)(s:Ak)(Z:St)(H:Hp)(E:AZ),Inv X Y Z H s->(∀b∈fp,FpOk X Y H b)->tn i s.heap->J9.stop i H->
  wpAny Bv X.A EK (λr s1=>r=No/\Inv X Y Z H s1) E s
 self:∀(A:BX)(i:Nat)(s:Ak)(Q:AZ)(E:AZ),tn i s.heap->Q A7 s->wpAny Bv A (pyIter A7) Q E s
noncomputable abbrev TI:=St->Hp->(It->Hp->Prop)->Prop
def PIE(X:Cx)(Y:AQ)(Z:St)(tg:Expr)(R:It->Hp->Prop)(g:An)(j:Ak):Prop:=
 ∃(m:Addr)(fp:A3)(l:Fn)(n:It)(W:Hp),g=.ref m/\Inv X Y Z W j/\Turn Xa X.w X.K tg n fp m l/\l 0 j.heap/\(∀b∈fp,FpOk X Y W b)/\R n W
def PI(X:Cx)(tg g:Expr)(j:TI):Prop:=
 ∀(Y:AQ)(s:Ak)(Z:St)(H:Hp)(R:It->Hp->Prop),Inv X Y Z H s->j Z H R->
  wpAny Ay X.A (eval g WU) (λv l=>wpAny Ay X.A (pyIter v) QaT X.xe l) X.xe s
def lU{it:Addr}{o:Obj}{n:A5}{vs:BU}{Q:Do}(j:s.heap.get? it=So o)(l:o.cls=.type n)(q:o.data=.fields vs)
  (m:["enumerate","zip","dict_itemiterator","dict_reverseitemiterator","odict_iterator","itertools.zip_longest","itertools.pairwise"].contains n=Fo) (g:Q () s):wpAny M A Tg Q E s:=by
 unfold letOwnedTupleGo;cases tg<;>first
  |exact Zb g
  |(cases u<;>first
    |exact Zb g
    |(refine Za (wpAny_load j ?_);rw[l,q];show wpAny M A (if(["enumerate","zip","dict_itemiterator","dict_reverseitemiterator","odict_iterator","itertools.zip_longest","itertools.pairwise"].contains n&&vs[0]? ==So (rawInt _))=To then _ else _) Q E s;rw[if_neg (by intro h;rw[m,ZU]at h;cases h)];exact Zb g))
noncomputable def Itl (K:Ai) (a:Addr):It:=
 ⟨λi H=>∃g x,SqL K H a g/\g[i]? =So x,λi H x W=>W=H/\∀g,SqL K H a g->g[i]? =So x,λi H=>∃g,SqL K H a g/\g.length<=i⟩
noncomputable def Itt (K:Ai) (a:Addr):It:=
 ⟨λi H=>∃g x,SqT K H a g/\g[i]? =So x,λi H x W=>W=H/\∀g,SqT K H a g->g[i]? =So x,λi H=>∃g,SqT K H a g/\g.length<=i⟩
noncomputable def Itr (lo:Int) (n:Nat):It:=⟨λi _=>i<n,λi H x W=>W=H/\x=.int (lo+i),λi _=>n<=i⟩
theorem Jhj(a it:Addr):Turn P w K tg QaF [it] it (λi h=>h.IsListIter it a i)where
 mem:=by simp
 obj:=λi h g b j=>by
  have e:b=it:=by simpa using j
  subst e
  obtain⟨o,e,c,d⟩:=g
  exact⟨o,e,λv z=>by rw[d]at z;cases z⟩
 keep:=λi h h' g k=>g.at λo e=>k it Af o e
 item:=by
  intro X y N G hc i Y s Z H E I m g B;subst y N G;obtain⟨xs,x,n,q⟩:=B;obtain⟨U,rv,p,hz⟩:=I.list n;obtain⟨u,hu,ru⟩:=rv.get q;obtain⟨J,F,f2,O,L,r⟩:=m it Af;refine wpAny_pyNext_list_item g XR (x:=u) (by simpa using hu) λh' l sb=>?_;have I1:Inv X Y Z H {s with heap:=h'}:=I.turned (t':=W7) (λb o j e=>(sb.2 b j).trans e) J F O L r;obtain⟨o,e,c,d⟩:=id l;exact⟨u,rfl,lU (s:={s with heap:=h'}) e c d AO ⟨x,H,I1,ru,⟨rfl,λys hy=>by rw[I.list_inj hy n];exact q⟩,l,λb j=>(m b j).1⟩⟩
 done:=by
  intro X y N G hc i Y s Z H E I m g B;subst y N G;obtain⟨xs,n,q⟩:=B;obtain⟨U,rv,p,hz⟩:=I.list n;obtain⟨J,F,f2,O,L,r⟩:=m it Af;have hl:=Y8;exact wpAny_pyNext_list_end Lj g XR (by simp;lia) λh' eb=>⟨rfl,I.turned (t':=W7) Se J F O L r⟩
 self:=λ_ _ _ _ _ g h=>wpAny_pyIter_listiter g h
theorem hZ(a it:Addr):Turn P w K tg YV [it] it (λi h=>h.IsTupleIter it a i)where
 mem:=by simp
 obj:=λi h g b j=>by
  have e:b=it:=by simpa using j
  subst e
  obtain⟨o,e,c,d⟩:=g
  exact⟨o,e,λv z=>by rw[d]at z;cases z⟩
 keep:=λi h h' g k=>g.at λo e=>k it Af o e
 item:=by
  intro X y N G hc i Y s Z H E I m g B;subst y N G;obtain⟨xs,x,n,q⟩:=B;obtain⟨its,U,p,hz⟩:=I.tuple n;obtain⟨u,hu,ru⟩:=U.get q;obtain⟨J,F,f2,O,L,r⟩:=m it Af;refine wpAny_pyNext_tuple_item g (show s.heap.IsTuple a Ap from p) (x:=u) (by simpa using hu) λh' l sb=>?_;have I1:Inv X Y Z H {s with heap:=h'}:=I.turned (t':=W7) (λb o j e=>(sb.2 b j).trans e) J F O L r;obtain⟨o,e,c,d⟩:=id l;exact⟨u,rfl,lU (s:={s with heap:=h'}) e c d AO ⟨x,H,I1,ru,⟨rfl,λys hy=>by rw[I.tuple_inj hy n];exact q⟩,l,λb j=>(m b j).1⟩⟩
 done:=by
  intro X y N G hc i Y s Z H E I m g B;subst y N G;obtain⟨xs,n,q⟩:=B;obtain⟨its,U,p,hz⟩:=I.tuple n;obtain⟨J,F,f2,O,L,r⟩:=m it Af;have hl:=U.length;exact wpAny_pyNext_tuple_end Lj g (show s.heap.IsTuple a its.toArray from p) (by simp;lia) λh' eb=>⟨rfl,I.turned (t':=W7) Se J F O L r⟩
 self:=λ_ _ _ _ _ g h=>wpAny_pyIter_tupleiter g h
theorem Jkg(it:Addr)(lo:Int)(n:Nat):Turn P w K tg b5 [it] it (λi h=>IsRangeIter h it (lo+(i:Nat)*1) ((n:Int)-(i:Nat)) 1)where
 mem:=by simp
 obj:=λi h g b j=>by
  have e:b=it:=by simpa using j
  subst e
  exact⟨_,g,λv z=>by
   have z':Data.fields _=Data.cell v:=z
   cases z'⟩
 keep:=λi h h' g k=>k it Af _ g
 item:=by
  intro X y N G r i Y s Z H E I m g B;subst y N G;obtain⟨J,F,f2,O,L,q⟩:=m it Af;have W9:=Walks.range (prog:=Xa) (w:=X.w) (I.ok.hd r) it lo 1 n;refine W9.item i s _ _ B g λv h' U hv l kk=>?_;obtain⟨t,rfl⟩:=hv;have I1:Inv X Y Z H {s with heap:=h',toks:=U}:=I.turned (λb o j e=>kk b o (by simpa using j) e) J F O L q;refine⟨_,rfl,lU (s:={s with heap:=h',toks:=U}) (n:="range_iterator") l rfl rfl AO ⟨.int (lo+i),H,I1,⟨t,?_⟩,Ce,l,λb j=>(m b j).1⟩⟩;rw[Int.mul_one]
 done:=by
  intro X y N G r i Y s Z H E I m g B;subst y N G;obtain⟨J,F,f2,O,L,q⟩:=m it Af;exact wpAny_pyNext_range_end (I.ok.hd r) g (by have:n<=i:=B;lia) λh' eb=>⟨rfl,I.turned (t':=W7) Se J F O L q⟩
 self:=λ_ _ _ _ _ g h=>wpAny_pyIter_rangeiter g h
def iTup (K:Ai) (tl:TE):TI:=λZ H R=>tl Z H λx g=>∃a,x=.ref a/\(∃j,SqT K g a j)/\R YV g
def Jup{l:Expr}{tl:TE}(m:PE X l tl):PI X tg l (iTup X.K tl):=by
 intro Y s Z H R I h;refine thn (m Y s Z H _ I h) λv s1 g=>?_;obtain⟨x,r,I1,z,j⟩:=g;obtain⟨a,e,⟨B,n⟩,q⟩:=j;subst e;cases z;obtain⟨its,G,p,F⟩:=I1.tuple n;refine xK (show s1.heap.IsTuple a Ap from p) ?_;refine⟨Aq,[Aq],_,_,r,rfl,I1.kept (t':=XA) λb o e=>Zd _ e,hZ a _,Dj,λb y=>?_,q⟩;have e:b=Aq:=by simpa using y
 subst e;exact I1.fpOk (Zj _) EY
theorem JpJ{R:It->Hp->Prop}{lo hi:Int}{t u v:Tok}{tk:Nat}(I:AG)(h1:-(2^62)<=lo)(n:lo<2^62)(l:-(2^62)<=hi)(m:hi<2^62)
  (q:R (Itr lo (hi-lo).toNat) H):wpAny Ay X.A (pyIter Dr) QaT E {s with heap:=s.heap.push {cls:=.type "range",data:=.fields #[.int lo t,.int hi u,.int 1 v]},toks:=tk}:=by
 refine wpAny_pyIter_range (IsRange.new ..) (small_one h1 n l m) ?_;have I1:Inv X Y Z H {s with heap:=s.heap.push {cls:=.type "range",data:=.fields #[.int lo t,.int hi u,.int 1 v]},toks:=tk}:=I.kept λb o e=>Zd _ e;refine⟨(s.heap.push {cls:=.type "range",data:=.fields #[.int lo t,.int hi u,.int 1 v]}).objs.size,[(s.heap.push {cls:=.type "range",data:=.fields #[.int lo t,.int hi u,.int 1 v]}).objs.size],_,_,H,rfl,
  I1.kept (t':=tk) λb o e=>Zd _ e,Jkg _ lo (hi-lo).toNat,?_,λb r=>?_,q⟩
 ·have j:lo+((0:Nat):Int)*1=lo:=by simp
  have g:(((hi-lo).toNat:Nat):Int)-((0:Nat):Int)=Builtin.Range.rangeSize lo hi 1:=by rw[rangeSize_one];split<;>lia
  show IsRangeIter _ _ (lo+((0:Nat):Int)*1) ((((hi-lo).toNat:Nat):Int)-((0:Nat):Int)) 1;rw[j,g];exact Zi _ rfl
 ·have e:b=(s.heap.push {cls:=.type "range",data:=.fields #[.int lo t,.int hi u,.int 1 v]}).objs.size:=by simpa using r
  subst e;exact I1.fpOk (Zj _) EY
def iRng1 (ta:TA):TI:=λZ H R=>ta Z H λvs g=>∃j:Int,vs=[.int j]/\ -(2^62)<=j/\j<2^62/\R (Itr 0 j.toNat) g
def Jhg{a:Expr}{ta:TA}(y:Gl X "range")(m:X.mg "range"=No)(ha:PA X [a] ta)(z:Vs):PI X tg (.Call (.Name "range" p) [a] [] pos) (iRng1 ta):=by
 intro Y s Z H R I h;refine Call_ (mH I y m boot_range (vL (thn II λus G⟨vs,J,l,F,g⟩=>?_) z rfl));obtain⟨j,e,g,n,q⟩:=g;subst e;cases F with
 |cons r B=>cases B;obtain⟨t,rfl⟩:=r;exact call_range_1 (JpJ l Ae Ae g n (by simpa using q))
def tFor(y:TI)(g:TG)(B:TS):TS:=λD Z H=>y Z H λn z=>∃q:Nat->Nat->St->Hp->Prop,(∃m,q 0 m Z z)/\∀i m Z H,q i m Z H->
 (n.stop i H/\D.nx Z H)\/(n.go i H/\∃N:St->Hp->Prop,(∀j W,N j W->∃r,r<m/\q AE r j W)/\∀x W,n.yld i H x W->g x Z W λl F=>B {D with nx:=N,ct:=N,bk:=D.nx} l F)
noncomputable def oE (fp:A3) (h:Heap):List (Addr×Obj):=fp.filterMap λb=>(h.get? b).map λo=>(b,o)
def JbF{o:Obj}(g:b∈fp)(e:h.get? b=So o):(b,o)∈oE fp h:=qB.mpr ⟨b,g,by rw[e];rfl⟩
def JfS{p:Addr×Obj}(l:p∈oE fp h):p.1∈fp/\h.get? p.1=So p.2:=by
 obtain⟨b,g,e⟩:=qB.mp l;cases q:h.get? b with
 |none=>rw[q]at e;cases e
 |some o=>rw[q]at e;have j:(b,o)=p:=pA e;subst j;exact⟨g,q⟩
def Inv.pinned(I:AG)(l:∀b∈fp,FpOk X Y H b)(q:∀b∈fp,∃o,s.heap.get? b=So o/\∀v,o.data≠.cell v):Inv X (Y++oE fp W6) Z H s:=
 I.pins_of λp y=>(ZS.mp y).elim (λz=>I.pin p (ZL _ z)) λz=>by
  obtain⟨g,e⟩:=JfS z
  obtain⟨m,r,n,_⟩:=l p.1 g
  obtain⟨o,j,d⟩:=q p.1 g
  rw[e]at j;cases j
  exact⟨e,m,r,n,d⟩
def Inv.unpinned{pl:AQ}(I:Inv X (Y++pl) Z H s):Inv X Y Z H s:=I.pins_of λp g=>I.pin p (ZL _ (wL _ g))
def gQ{q:Expr}{wi:TI}{g:TG}{tb:TS}(hp:F4)(hc:Cf)(hi:PI X tg q wi)(hg:PG X tg g)(L:PSs X body tb)
  (hs:∀x,foldedSetIterable q WU x=pure x:=by intro _;rfl):PS X (.For tg q body [] pos) (tFor wi g tb):=by
 intro Y s Z H D I h;refine wpAny_For (thn (hi Y s Z H _ I h) λv s1 h1=>thn h1 λitv s2 h2=>?_) hs;obtain⟨it,fp,tn,J9,H2,e,I2,T,st2,f2,W9,⟨m0,w0⟩,turn⟩:=h2;subst e;have z:∀{W:Hp},(∀b∈fp,W b=No)->∀b∈fp,FpOk X Y W b:=λhn b L=>⟨hn b L,(f2 b L).2⟩;refine codeAny_forLoop_any (λn s'=>∃i y W,Inv X Y y W s'/\tn i Ya/\(∀b∈fp,W b=No)/\W9 i n y W) ?_ m0 ⟨0,Z,H2,I2,st2,λb L=>(f2 b L).1,w0⟩;rintro n s3⟨i,F,H3,I3,st3,fr3,w3⟩;rcases turn i n F H3 w3 with⟨stop,qn⟩|⟨go,N,hN,step⟩
 ·refine tG hp (thn (T.done X rfl rfl rfl hc i Y s3 F H3 X.xe I3 (z fr3) st3 stop) λr s4 l=>?_);obtain⟨hr,I4⟩:=l;subst hr;exact lK ⟨F,H3,I4,qn⟩
 ·refine tG hp (thn (T.item X rfl rfl rfl hc i Y s3 F H3 X.xe I3 (z fr3) st3 go) λr s4 l=>?_);obtain⟨u,hr,h4⟩:=l;subst hr;refine tG hp (thn h4 λ_ s5 l=>?_);obtain⟨x,H5,I5,r5,y5,U,fr5⟩:=l;have I5':=I5.pinned (z fr5) (T.obj _ _ U);refine tG hp (thn (hg _ s5 F H5 x u _ I5' r5 (step x H5 y5)) λ_ s6 l=>?_);obtain⟨σ6,H6,I6,q6⟩:=l;refine tG hp (thn (L _ s6 σ6 H6 _ I6 q6) λf s7 O=>?_);have B:∀{j:St}{G:Hp},Inv X (Y++oE fp YD) j G s7->N j G->∃m,m<n/\∃i y W,Inv X Y y W s7/\tn i s7.heap/\(∀b∈fp,W b=No)/\W9 i m y W:=fun{j G}J n7=>by obtain⟨m',hm,w7⟩:=hN j G n7;refine⟨m',hm,i+1,j,G,Qbk,T.keep _ _ _ U λb L o e=>(J.pin (b,o) Pi).1,λb L=>?_,w7⟩;obtain⟨o,e,d⟩:=T.obj _ _ U b L;exact(J.pin (b,o) Pi).2.1
  cases f with
  |next=>obtain⟨j,G,J,n7⟩:=O;exact B J n7
  |cont=>obtain⟨j,G,J,n7⟩:=O;exact B J n7
  |brk=>obtain⟨j,G,J,O⟩:=O;exact⟨j,G,Qbk,O⟩
  |ret v=>obtain⟨x7,j,G,J,r7,O⟩:=O;exact⟨x7,j,G,Qbk,r7,O⟩
noncomputable abbrev R2:=V->V->Hp->VK->Prop
variable{r:R2}
def OpR(X:Cx)(f:IJ)(r:R2):Prop:=
 ∀(Y:AQ)(s:Ak)(Z:St)(H:Hp)(x y:V)(v u:An)(Q:VK),Inv X Y Z H s->RelV x v->RelV y u->r x y H Q->
  wpAny Ay X.A (f v u) B3 X.xe s
def UnR(X:Cx)(f:Value->Sem Value)(r:V->Hp->VK->Prop):Prop:=
 ∀(Y:AQ)(s:Ak)(Z:St)(H:Hp)(x:V)(v:An)(Q:VK),Inv X Y Z H s->RelV x v->r x H Q->
  wpAny Ay X.A (f v) B3 X.xe s
def gA(X:Cx)(f:An)(r:List V->Hp->VK->Prop):Prop:=
 ∀(Y:AQ)(s:Ak)(Z:St)(H:Hp)(g:AA)(us:Az)(Q:VK),Inv X Y Z H s->Vals g us->r g H Q->
  wpAny Ay X.A (call f us) B3 X.xe s
def TruR(X:Cx)(r:V->Hp->LD->Prop):Prop:=
 ∀(Y:AQ)(s:Ak)(Z:St)(H:Hp)(x:V)(v:An)(Q:DI),Inv X Y Z H s->RelV x v->r x H Q->
  wpAny Ay X.A b6 Lk X.xe s
def tOp(r:R2)(ta j:TE):TE:=λZ H Q=>ta Z H λx g=>j Z g λy l=>r x y l Q
def tUn(r:V->Hp->VK->Prop)(ta:TE):TE:=λZ H Q=>ta Z H λx g=>r x g Q
def rI(C:Int->Int->Prop)(g:Int->Int->V):R2:=λx y H Q=>∃i j,x=.int i/\y=.int j/\C i j/\Q D1 H
def rI0(g:Int->Int->V):R2:=λx y H Q=>∃i j,x=.int i/\y=.int j/\Q D1 H
noncomputable def rU (g:Int->V):V->Hp->VK->Prop:=λx H Q=>∃i,x=.int i/\Q (g i) H
section
variable{a b:Expr}{tb tc:TE}
def binT(ha:Ca)(O:Ez){R:V->V->Hp->Prop}(I:AG)
  (h:ta Z H λx q=>tb Z q λy j=>R x y j) {Q:AZ} {f:IJ}
  (J:∀v u n x y j,Inv X Y Z j n->RelV x v->RelV y u->R x y j->wpAny Ay X.A (f v u) Q X.xe n):
  wpAny Ay X.A Kf (λv m=>wpAny Ay X.A (eval b WU) (λu l=>wpAny Ay X.A (f v u) Q X.xe l) X.xe m) X.xe s:=by refine thn Ci λv z g=>?_;obtain⟨x,q,B,U,F⟩:=g;refine thn (O Y z Z q _ B F) λu n g=>?_;obtain⟨y,j,N,L,G⟩:=g;exact J v u n x y j N U L G
def pe_op{op:bM}(g:OpR X Qdv r)(j:Ca)(F:Ez):PE X NY LN:=by intro Y s Z H Q I h;exact wpAny_BinOp (binT j F I h λv u n x y m B l z q=>g Y n Z m x y v u Q B l z q)
def pe_un{op:UnaryOp}{r:V->Hp->VK->Prop}(l:UnR X (unaryOp op) r)(ha:Ca):PE X (.UnaryOp op a pos) (tUn r ta):=by intro Y s Z H Q I h;exact UnaryOp_ (thn Ci λv n⟨x,g,m,q,j⟩=>l Y n Z g x v Q m q j)
def opI{f:IJ}{C:Int->Int->Prop}{g:Int->Int->Int}
  (l:∀(i j:Int)(t u:Tok)(s:Ak)(Q:AZ)(E:AZ),C i j->Q Nr {s with toks:=W7+1}->wpAny Ay X.A Sd Q E s):
  OpR X f (rI C λi j=>.int D1):=by intro Y s Z H x y v u Q I n z h;obtain⟨i,j,rfl,rfl,m,q⟩:=h;obtain⟨t,rfl⟩:=n;obtain⟨t',rfl⟩:=z;exact l i j t t' s _ _ m TB
def opI0{f:IJ}{g:Int->Int->Int}
  (l:∀(i j:Int)(t u:Tok)(s:Ak)(Q:AZ)(E:AZ),Q Nr {s with toks:=W7+1}->wpAny Ay X.A Sd Q E s):
  OpR X f (rI0 λi j=>.int D1):=by intro Y s Z H x y v u Q I m n h;obtain⟨i,j,rfl,rfl,q⟩:=h;obtain⟨t,rfl⟩:=m;obtain⟨t',rfl⟩:=n;exact l i j t t' s _ _ TB
def opB0{f:IJ}{g:Int->Int->Bool}
  (l:∀(i j:Int)(t u:Tok)(s:Ak)(Q:AZ)(E:AZ),Q (.bool D1) s->wpAny Ay X.A Sd Q E s):
  OpR X f (rI0 λi j=>.bl D1):=by intro Y s Z H x y v u Q I m n h;obtain⟨i,j,rfl,rfl,q⟩:=h;obtain⟨t,rfl⟩:=m;obtain⟨t',rfl⟩:=n;exact l i j t t' s _ _ ⟨.bl D1,H,I,rfl,q⟩
def CDiv(i j:Int):Prop:=0<j/\j<1073741824
def CMul(i j:Int):Prop:=(-(2^64)<i/\i<2^64)\/(-(2^64)<j/\j<2^64)
def CMul.ok{i j:Int}(h:CMul i j):IntMulOk i j:=by
 rcases h with⟨g,l⟩|⟨g,l⟩
 ·exact .of_left NX
 ·exact .of_right NX
def JvC:OpR X L5 (rI0 λi j=>.int (i+j)):=opI0 λ_ _ _ _ _ _ _ q=>add_int q
def Jxj:OpR X Qby (rI0 λi j=>.int (i-j)):=opI0 λ_ _ _ _ _ _ _ q=>sub_int q
def Jwf:OpR X L9 (rI CMul λi j=>.int (i*j)):=opI λ_ _ _ _ _ _ _ g q=>mul_int q g.ok
def JtE:OpR X Oi (rI CDiv λi j=>.int (i / j)):=opI λi j _ _ _ _ _ g q=>by
 have m:(0:Int)<j:=g.1
 have l:j<1073741824:=g.2
 exact floordiv_int Ae (by rw[Int.fdiv_eq_ediv_of_nonneg i 'c'];exact q) (.inl (PyProof.noPylong_small Ae))
def Jwb:OpR X Qbz (rI (λ_ j=>0<j) λi j=>.int (i % j)):=opI λi j _ _ _ _ _ g q=>by
 have l:(0:Int)<j:=g
 exact mod_int' Ae (by rw[Int.fmod_eq_emod_of_nonneg i 'c'];exact q)
def unI{f:Value->Sem Value}{g:Int->Int}
  (j:∀(i:Int)(t:Tok)(s:Ak)(Q:AZ)(E:AZ),Q (.int (g i) W7) {s with toks:=W7+1}->wpAny Ay X.A (f bY) Q E s):
  UnR X f (rU λi=>.int (g i)):=by intro Y s Z H x v Q I l h;obtain⟨i,rfl,q⟩:=h;obtain⟨t,rfl⟩:=l;exact j i t s _ _ ⟨.int (g i),H,I.tok _,Au,q⟩
def Juv:UnR X (unaryOp .USub) (rU λi=>.int (-i)):=unI λ_ _ _ _ _ q=>neg_int q
end
section
variable{a b:Expr}{tb tc:TE}
def Jnl{Q:VK}{k g:Bool}(I:AG)(q:Q Qaq H)(e:k=g):EP X Y Z Q QaG s:=by subst e;exact⟨.bl k,H,I,rfl,q⟩
def op_lt:OpR X Ql (rI0 λi j=>.bl (decide (i<j))):=opB0 λ_ _ _ _ _ _ _ q=>lt_int q
def op_le:OpR X QaU (rI0 λi j=>.bl (decide (i<=j))):=opB0 λ_ _ _ _ _ _ _ q=>le_int q
def op_gt:OpR X QbA (rI0 λi j=>.bl (decide (j<i))):=opB0 λ_ _ _ _ _ _ _ q=>gt_int q
def op_ge:OpR X QaV (rI0 λi j=>.bl (decide (j<=i))):=opB0 λ_ _ _ _ _ _ _ q=>ge_int q
def JmD:OpR X Ql (λx y H Q=>∃i j,x=.str i/\y=.str j/\Q (.bl (decide (i.cps.toList<j.cps.toList))) H):=by intro Y s Z H x y v u Q I g l h;obtain⟨i,j,rfl,rfl,q⟩:=h;obtain⟨t,rfl⟩:=g;obtain⟨t',rfl⟩:=l;exact lt_str Ic
def JnK:OpR X QbB (λx y H Q=>∃i j,x=.str i/\y=.str j/\Q (.bl (!(Builtin.Str.occurrences j i 0 YK 1).isEmpty)) H):=by intro Y s Z H x y v u Q I g l h;obtain⟨i,j,rfl,rfl,q⟩:=h;obtain⟨t,rfl⟩:=g;obtain⟨t',rfl⟩:=l;exact in_str Ic
def Jhk:OpR X Nq (λx y H Q=>∃i j,x=.str i/\y=.str j/\Q (.bl (!(!(Builtin.Str.occurrences j i 0 YK 1).isEmpty))) H):=by intro Y s Z H x y v u Q I g l h;obtain⟨i,j,rfl,rfl,q⟩:=h;obtain⟨t,rfl⟩:=g;obtain⟨t',rfl⟩:=l;exact notIn_str Ic
def JaY(b:Expr)(h:'в' (op≠.In) Eo)(h2:'в' (op≠.NotIn) Eo):behindInMarks op b=Fo:=by
 have j:(op==CmpOp.In)=Fo:=by cases op<;>first|rfl|exact absurd rfl h
 have g:(op==CmpOp.NotIn)=Fo:=by cases op<;>first|rfl|exact absurd rfl h2
 cases b<;>first|rfl|(show(_&&(_||_)&&_)=Fo;rw[j,g,yE,dI,ZU])
def JrL(g:Lc)(j:Ca)(G:Ez)(n:FZ):PE X FY LN:=by intro Y s Z H Q I h;exact wpAny_Compare1 (binT j G I h λv u z x y m F l B q=>g Y z Z m x y v u Q F l B q) n
def JwC(t:TE):TT:=λZ H Q=>t Z H λx W=>∃k,x=.bl k/\Q k W
def nW(g:Lc)(ha:Ca)(hb:Ez)(F:FZ):PT X FY (JwC LN):=by
 intro Y s Z H Q I h;refine wpAny_isTrue_Compare1 (thn Ci λv l⟨x,L,j,r1,q⟩=>thn (hb Y l Z L _ j q) λu J⟨y,B,U,O,G⟩=>
  thn (g Y J Z B x y v u _ U r1 O G) λc s3⟨z,H3,m,n,k,e,N⟩=>?_) F
 subst e;cases n;exact pB ⟨H3,m,N⟩
def fV(r q:R2)(ta tb tc:TE):TE:=λZ H Q=>ta Z H λx l=>tb Z l λy n=>r x y n λz g=>∃k,z=.bl k/\
 (if k=To then tc Z g λj m=>q y j m Q else Q C7 g)
def Jop{g:YB}{q:R2}(L:Lc)(j:OpR X Qdw q)(ha:Ca)(hb:Ez)(N:PE X c tc)
  (hm:lastMarks [op,g] [b,c]=Fo:=by with_unfolding_all rfl):PE X Tx (fV r q ta tb tc):=by
 intro Y s Z H Q I h;refine Compare_chain (thn Ci λv U⟨x,H1,O,r1,q1⟩=>chain_link (thn (hb Y U Z H1 _ O q1) λu s2⟨y,H2,I2,n,q2⟩=>
  thn (L Y s2 Z H2 x y v u _ I2 r1 n q2) λd J⟨z,B,l,r3,k,e,m⟩=>?_)) hm
 subst e;cases r3;refine pB ?_;cases k with
 |false=>exact ite_ff ⟨.bl Fo,B,l,rfl,m⟩
 |true=>exact ite_tt (chain_last (thn (N Y J Z B _ l m) λw' s4⟨z',H4,G,F,q4⟩=>j Y s4 Z H4 y z' u w' Q G n F q4))
def Jos{g:YB}{B:R2}(O:Lc)(l:OpR X Qdw B)(ha:Ca)(hb:Ez)(U:PE X c tc)
  (hm:lastMarks [op,g] [b,c]=Fo:=by with_unfolding_all rfl):PT X Tx (JwC (fV r B ta tb tc)):=by
 intro Y s Z H Q I h;refine isTrue_chain (thn Ci λv s1⟨x,H1,I1,r1,q1⟩=>test_link (thn (hb Y s1 Z H1 _ I1 q1) λu s2⟨y,H2,I2,q,q2⟩=>
  thn (O Y s2 Z H2 x y v u _ I2 r1 q q2) λd L⟨z,F,m,r3,k,e,n⟩=>?_)) hm
 subst e;cases r3;refine pB ?_;cases k with
 |false=>obtain⟨k',e',q'⟩:=n;cases e';exact ite_ff ⟨F,m,q'⟩
 |true=>refine ite_tt (test_last (thn (U Y L Z F _ m n) λw' s4⟨z',H4,J,G,q4⟩=>thn (l Y s4 Z H4 y z' u w' _ J q G q4) λd' s5 j=>?_));obtain⟨z2,H5,I5,r5,k2,N,q5⟩:=j;subst N;cases r5;exact pB ⟨H5,I5,q5⟩
def TruV(K:Ai)(x:V)(H:Hp)(k:Bool):Prop:=
 match x with
 |.non=>k=Fo
 |.bl b=>k=b
 |.int i=>k=(i !=0)
 |.str y=>bS<=sizeLine/\k=((bS:Int)!=0)
 |.byt y=>y.size<=sizeLine/\k=((y.size:Int)!=0)
 |.ref p=>(∃g,SqL K H p g/\k=!g.isEmpty)\/(∃g,SqT K H p g/\k=!g.isEmpty)\/∃kvs,H p=So Bh/\k=!kvs.isEmpty
 |_=>False
def Jkz{κ:Type}{g:Cg}{vs:CK}(r:KV g vs):(!vs.isEmpty)=!g.isEmpty:=by cases r<;>rfl
def JeN{xs:AA}{g:Az}(r:Vals xs g):(!g.toArray.isEmpty)=!xs.isEmpty:=by cases r<;>simp
def jH:(sizeLine:Nat)<2^63:=by rw[ZK];decide
theorem JvE:TruR X (λx H Q=>∃k,TruV X.K x H k/\Q k H):=by
 intro Y s Z H x v Q I n h;obtain⟨k,e,q⟩:=h;have L:=jH;have N:sizeLine=16777216:=ZK;cases x with
 |non=>cases n;have g:k=Fo:=e;subst g;exact truthy_none cW
 |bl b=>cases n;have g:k=b:=e;subst g;exact pB cW
 |int i=>obtain⟨t,rfl⟩:=n;have g:k=(i !=0):=e;subst g;exact PySem.P.truthy_int cW
 |str y=>obtain⟨t,rfl⟩:=n;obtain⟨J,g⟩:y.length<=sizeLine/\k=((bS:Int)!=0):=e;subst g;exact PySem.P.truthy_str Ae QbZ
 |byt y=>obtain⟨t,rfl⟩:=n;obtain⟨J,g⟩:y.size<=sizeLine/\k=((y.size:Int)!=0):=e;subst g;exact PySem.W.truthy_bytes Ae QbZ
 |ref p=>
  cases n;have g:(∃l,SqL X.K H p l/\k=!l.isEmpty)\/(∃l,SqT X.K H p l/\k=!l.isEmpty)\/∃kvs,H p=So Bh/\k=!kvs.isEmpty:=e;rcases g with⟨l,z,g⟩|⟨l,z,g⟩|⟨kvs,z,g⟩
  ·subst g;obtain⟨B,r,pl,F⟩:=I.list z;have j:=Xv;exact wpAny_truthy_list Yb (by simp only[Zn];lia) ⟨H,I.tok _,by rw[JeN r];exact q⟩
  ·subst g;obtain⟨B,r,pl,F⟩:=I.tuple z;have j:=Xv;exact truthy_tuple pl (by simp only[Zn];lia) ⟨H,I.tok _,by rw[JeN r];exact q⟩
  ·subst g;obtain⟨F,G,vs,r,m⟩:Bb<=sizeLine/\(p==sysModules)=Fo/\∃vs,KV kvs vs/\s.heap.DictOf (JH Xa X.w) p vs:=I.hok p _ z;have j:Bb=Bg:=pG r;exact wpAny_truthy_dict G m Ae ⟨H,I.tok _,by rw[Jkz r];exact q⟩
 |_=>exact(show False from e).elim
def Jpk(ha:Ca)(j:∀g,isTrue a WU g=(do let v<-g;standAt a.pos;holding [v] b6)):
  PT X a (λZ H Q=>ta Z H λx W=>∃k,TruV X.K x W k/\Q k W):=by intro Y s Z H Q I h;exact isTrue_plain (thn Ci λv m⟨x,q,l,y,n⟩=>JvE Y m Z q x v Q l y n) (j _)
def Jkf:OpR X L5 (λx y H Q=>∃i j,x=.str i/\y=.str j/\i.length+j.length<=sizeLine/\Q (.str (i++j)) H):=by intro Y s Z H x y v u Q I g l h;obtain⟨i,j,rfl,rfl,m,q⟩:=h;obtain⟨t,rfl⟩:=g;obtain⟨t',rfl⟩:=l;exact add_str (λt' n=>⟨.str (i++j),H,I.tok _,Au,q⟩) m
def lA{x:V}(r:Vals [x] us):∃u,us=[u]/\RelV x u:=by
 cases r with
 |cons g j=>cases j;exact⟨_,rfl,g⟩
def vals2{x y:V}(r:Vals [x,y] us):∃u g,us=[u,g]/\RelV x u/\RelV y g:=by
 cases r with
 |cons m l=>
  cases l with
  |cons n j=>cases j;exact⟨_,_,rfl,m,n⟩
def JgC:gA X Ib (λg H Q=>∃i,g=bP/\i.natAbs.log2<1920/\Q (.str (toString i)) H):=by intro Y s Z H g us Q I r h;obtain⟨i,rfl,j,q⟩:=h;obtain⟨u,rfl,t,rfl⟩:=lA r;exact PySem.P.str_of_int j ⟨.str _,H,I.tok _,Au,q⟩
end
structure ObjM(h:Heap)(x dx C:Addr)(mA:BY):Prop where
 obj:h.get? x=So OY
 ns:h.Ns1 dx mA
 ne:dx≠x
def JnT(n:h.Ns1 dx mA):∃j,h.get? dx=So j/\∀name,PySem.W.lookIn name j=So (mA name):=by
 obtain⟨o,es,J,m,G,l,_,I⟩:=n;refine⟨o,m,λname=>?_⟩;have e:=I name;unfold nsFind findBy at e;rw[<-Array.find?_toList]at e;unfold PySem.W.lookIn;rw[G];dsimp only;split
 ·rename_i y q;rw[q]at e;exact xB So e
 ·rename_i q;rw[q]at e;have a:es.toList.any (·.refKey)=Fo:=by rw[List.any_eq_false];intro y F;obtain⟨z,t,g⟩:=l y (Array.mem_toList_iff.mp F);simp[DictEntry.refKey,g]
  have B:¬es.toList.any (·.refKey)=To:=by rw[a];exact ZH
  rw[if_neg B];exact xB So e
def ObjM.look{x:Addr}(I:ObjM h x dx C mA):∃g,PySem.W.InstAt h x OY C (So g)/\∀name,PySem.W.lookIn name g=So (mA name):=
 let⟨g,l,j⟩:=JnT I.ns
 ⟨g,⟨I.obj,rfl,rfl,l⟩,j⟩
section
variable{x:Addr}{name:Str}{v:An}
def Jtp{g:Bool}(X:K0)(I:Rz)(l:PySem.W.plainGet K C name=To)(z:PySem.W.hasDictIn K C=To)
  (n:PySem.W.findIn K Bm name=So No) (q:mA name=So v) (j:PySem.W.handedIn v=To) (h:Q v {s with toks:=W7+1}):
  wpAny As A (getAttr GA name g) Q E s:=by obtain⟨B,y,m⟩:=I.look;exact PySem.W.get_value X y (PySem.W.plainGet_of l).1 (PySem.W.findObj_own z n rfl (by rw[m,q])) j h
def Jpg{pl:D0}{Q:Value×List Value->Shared->Prop}(X:K0)(I:Rz)(g:PySem.W.plainGet K C name=To)
  (j:PySem.W.findIn K Bm name=So EE) (n:PySem.W.isFn K Bc=To) (m:mA name=No) (h:Q (.ref f,[.ref x]) s):
  wpAny As A (getMethod GA name pl) Q E s:=by obtain⟨y,q,l⟩:=I.look;exact PySem.W.method_fn X q (PySem.W.plainGet_of g).1 (PySem.W.plainGet_of g).2 j (ZD.mp n) (by show(PySem.W.lookIn name y).map (·.isSome)=So Fo;rw[l,m];rfl) h
theorem Jsx{ns:Ad}{Q:Do}(X:K0)(I:Rz)
  (U:PySem.W.findIn K Bm "__setattr__"=So SD) (hp:PySem.W.plainOver K C=To) (J:PySem.W.takerIn K C name=So No) (O:PySem.W.hasDictIn K C=To)
  (L:PySem.Within mA ns) (hsz:AK<=sizeLine)
  (h:∀h',ObjM h' x dx C (λy=>if y=name then So v else mA y)->Heap.SameBut dx W6 h'->Q () {s with heap:=h',toks:=W7+2}):
  wpAny As A (setAttr GA name v) Q E s:=by obtain⟨od,z,hl⟩:=I.look;refine PySem.W.set_plain X z U (PySem.W.osa_open (s:={s with toks:=W7+1}) (r:=No) X z hp J λb=>?_);obtain⟨cd,G,q⟩:=PySem.W.any_some O;have B:s.heap.get? x=So ⟨.ref C,So dx,.plain,#[]⟩:=I.obj;refine Za (Zb (Za (Za (wpAny_loadPart B (Za (PySem.W.Looks.here (s:={s with toks:=W7+1}) (PySem.W.looks_clsIn X G) ?_))))));rw[q];refine Zb (a:=So dx) (Za (Zb (Za ?_)));refine wpAny_nsSet1 (s:={s with toks:=W7+1}) I.ns λh' j g=>?_;obtain⟨oD,F,N,m,n,l⟩:=j.count (PySem.Within.cons name v L);refine Za (wpAny_lookBehind m (by rw[n];exact pastItsLine_dict (ZM l (by rw[Zl];lia))) ?_);exact Zb (h _ ⟨(g.2 _ (Ne.symm I.ne)).trans I.obj,j,I.ne⟩ g)
def JoV{R:He}{vs:Az}(X:K0)(m:PySem.W.makesIn K C=To)
  (hi:PySem.W.findIn K Bm "__init__"=So EE) (l:PySem.W.typeIn K Bc=So (.type "function"))
  (h:codeAny As (A.under (.builtin "type.__call__" ⟨.ref C::vs,kw⟩)) (.call Bc ⟨.ref DR::vs,kw⟩) (PySem.W.InitBack DR R)
   {s with heap:='š'.push Lr}):
  codeAny As A (.call Bm ⟨vs,kw⟩) R s:=by obtain⟨n,g,d,t,q⟩:=s;exact PySem.W.make_core (PySem.W.makes_of X m) (PySem.W.looks_findIn X hi) (λj=>PySem.W.bind_fn X j l) Bd h
end
noncomputable def putF (f:Str) (v:V):List (Str×V)->List (Str×V)
 |[]=>[(f,v)]
 |(g,x)::r=>if g=f then(g,v)::r else(g,x)::putF f v r
theorem JdM(f g:Str)(v:V):∀fs:List (Str×V),(putF f v fs).lookup g=if g=f then So v else fs.lookup g
 |[]=>by
  show List.lookup g [(f,v)]=_
  by_cases h:g=f
  ·have j:(g==f)=To:=ZD.mpr h
   simp only[List.lookup,j,if_pos h]
  ·have j:(g==f)=Fo:=ZC.mpr h
   simp only[List.lookup,j,if_neg h]
 |(k,x)::r=>by
  have m:=JdM f g v r
  rw[show putF f v ((k,x)::r)=(if k=f then(k,v)::r else(k,x)::putF f v r)from rfl]
  by_cases l:k=f
  ·rw[if_pos l]
   by_cases h:g=k
   ·have j:(g==k)=To:=ZD.mpr h
    simp only[List.lookup,j,if_pos (h.trans l)]
   ·have j:(g==k)=Fo:=ZC.mpr h
    simp only[List.lookup,j,if_neg (λe:g=f=>h (e.trans l.symm))]
  ·rw[if_neg l]
   by_cases h:g=k
   ·have j:(g==k)=To:=ZD.mpr h
    simp only[List.lookup,j,if_neg (λe:g=f=>l (h.symm.trans e))]
   ·have j:(g==k)=Fo:=ZC.mpr h
    simp only[List.lookup,j]
    exact m
theorem eY(f:Str)(v:V):∀fs:List (Str×V),f∈(putF f v fs).map (·.1)/\∀g,g∈fs.map (·.1)->g∈(putF f v fs).map (·.1)
 |[]=>⟨by simp[putF],λg h=>by simp at h⟩
 |(k,x)::r=>by
  obtain⟨m,l⟩:=eY f v r
  rw[show putF f v ((k,x)::r)=(if k=f then(k,v)::r else(k,x)::putF f v r)from rfl]
  by_cases j:k=f
  ·rw[if_pos j]
   subst j
   exact⟨by simp,λg h=>by simpa using h⟩
  ·rw[if_neg j]
   refine⟨?_,λg h=>?_⟩
   ·rw[Zg]
    exact ZN _ m
   ·rw[Zg]at h⊢
    rcases Zf.mp h with e|e
    ·exact Zf.mpr Qc1
    ·exact ZN _ (l g e)
theorem zY(f:Str)(v:V):∀fs:List (Str×V),(putF f v fs).length<=Z0+1
 |[]=>by simp[putF]
 |(k,x)::r=>by
  have j:=zY f v r
  rw[show putF f v ((k,x)::r)=(if k=f then(k,v)::r else(k,x)::putF f v r)from rfl]
  by_cases g:k=f
  ·rw[if_pos g,Zl,Zl];lia
  ·rw[if_neg g,Zl,Zl];lia
def RelO.some_of{o:bE}(r:RelO BO o):∃u,o=So u/\RelV v u:=by
 cases o with
 |none=>exact(show False from r).elim
 |some u=>exact⟨u,rfl,r⟩
def RelO.none_of{o:bE}(r:RelO No o):o=No:=by
 cases o with
 |none=>rfl
 |some u=>exact(show False from r).elim
def JmA(r:Fk):PySem.W.handedIn u=To:=by
 cases v with
 |non=>cases(show u=Xb from r);rfl
 |bl b=>cases(show u=Value.bool b from r);rfl
 |int i=>obtain⟨t,e⟩:=(show∃t,u=Value.int i t from r);cases e;rfl
 |str x=>obtain⟨t,e⟩:=(show∃t,u=Value.str x t from r);cases e;rfl
 |byt b=>obtain⟨t,e⟩:=(show∃t,u=Value.bytes b t from r);cases e;rfl
 |flt b=>obtain⟨t,e⟩:=(show∃t,u=Value.float b t from r);cases e;rfl
 |ref a=>cases(show u=Value.ref a from r);rfl
 |ty n=>cases(show u=Value.type n from r);rfl
section
variable{fs fs':List (Str×V)}
def dX(g:BP)(e:H a=So Ed):∃mA,ObjM h a dx C mA/\(∀f,RelO Ig (mA f))/\PySem.Within mA (fs.map (·.1))/\fs.length<=1000/\H dx=So QcZ:=by obtain⟨d,z,ne,j,mA,n,r,q⟩:=(show ObjOk P w H h a Ed from g a _ e);exact⟨mA,⟨j,n,ne⟩,r,q,z,d⟩
end
structure Cls(K:Ai)(C:Addr):Prop where
 pg:PySem.W.plainGet K C Yw=To
 hd:PySem.W.hasDictIn K C=To
 po:PySem.W.plainOver K C=To
 sa:PySem.W.findIn K Bm "__setattr__"=So SD
def Cls.get{K:Ai}{C:Addr}(c:QcB)(f:Str):PySem.W.plainGet K C f=To:=c.pg
def NoAttr(K:Ai)(C:Addr)(f:Str):Prop:=PySem.W.findIn K Bm f=So No
def NoAttr.taker{f:Str}(n:NoAttr K C f):PySem.W.takerIn K C f=So No:=by unfold PySem.W.takerIn;rw[show PySem.W.findIn K '%' f=So No from n];rfl
structure Meth(K:Ai)(C:Addr)(m:Str)(f:Addr):Prop where
 at_:PySem.W.findIn K Bm m=So EE
 fn:PySem.W.isFn K Bc=To
 kp:PySem.W.keepIn K Bc=To
section
variable{fs:List (Str×V)}{f:Str}
def JeJ{b:Bool}(I:AG)(e:H a=So Ed)(c:Il)(n:NoAttr X.K C f)(l:fs.lookup f=So v)
  (h:∀u g,Inv X Y Z H g->RelV v u->Q u g):wpAny Ay A (getAttr Aw f b) Q E s:=by obtain⟨mA,m,r,_,_,_⟩:=dX Xh e;obtain⟨u,q,j⟩:=RelO.some_of (v:=v) (o:=mA f) (by rw[<-l];exact r f);exact Jtp X6 m (c.get f) c.hd n q (JmA j) (h u _ DC j)
def Jex{m:Str}{g:Addr}{pl:D0}{Q:Value×List Value->Shared->Prop}(I:AG)(e:H a=So Ed)(c:Il)(k:Meth X.K C m g)(l:fs.lookup m=No)
  (h:Q (.ref g,B9) s):wpAny Ay A (getMethod Aw m pl) Q E s:=by obtain⟨mA,n,r,_,_,_⟩:=dX Xh e;have j:mA m=No:=RelO.none_of (by rw[<-l];exact r m);exact Jpg X6 n (c.get m) k.at_ k.fn j h
theorem JeA{y:V}{Q:Do}(I:AG)(e:H a=So Ed)(c:Il)(n:NoAttr X.K C f)(hl:fs.length<1000)(L:Dy)
  (h:∀B,Inv X Y Z (upd H a Qad) B->Q () B):wpAny Ay A (setAttr Aw f u) Q E s:=by
 obtain⟨mA,l,r,F,_,m⟩:=dX Xh e;have O:(fs.map (·.1)).length<=sizeLine:=by rw[Ze,ZK];lia
 refine Jsx X6 l c.sa c.po n.taker c.hd F O λh' j sb=>h _ ?_;have J:∃o,h'.get? dx=So o:=let⟨o,_,_,G,_⟩:=j.ns;⟨o,G⟩;refine I.write (x:=a) (e:=dx) (by rw[e];exact iA) (.inr m) (λb q U z=>(sb.2 b U).trans z) J ?_;refine⟨by rw[Je l.ne];exact m,?_,l.ne,j.obj,_,j.ns,λg=>?_,λg N=>?_⟩
 ·have:=zY f y fs;lia
 ·show RelO ('下'.lookup g) (if g=f then So u else mA g);rw[JdM];by_cases q:g=f
  ·rw[if_pos q,if_pos q];exact L
  ·rw[if_neg q,if_neg q];exact r g
 ·by_cases q:g=f
  ·rw[q];exact(eY f y fs).1
  ·refine(eY f y fs).2 g (F g λz=>N ?_);show(if g=f then So u else mA g)=No;rw[if_neg q];exact z
def Inv.made(I:AG):Inv X Y Z (upd (upd H Aa (.own DR)) DR (.ins C Aa []))
  {s with heap:='š'.push Lr}:=by
 have g:'š'.get? Aa=So YH:=Zi W6 rfl;have l:('š'.push Lr).get? DR=So Lr:=by have:=Zi 'š' (o:=PySem.W.instObj C Aa) rfl;rwa[ZO]at this
 have z:'š'.Ns Aa Qdg:=⟨YH,#[],_,g,rfl,(λe j=>absurd j Af),λ_=>rfl⟩;have m:=I.laid (a:=Aa) (o:=.own DR) (h':=s.heap.push YH) (t':=W7) NW (Zj _) ⟨_,g⟩;refine m.laid (a:=Aa+1) (o:=.ins C Aa []) (t':=W7) NW (Nat.le_of_eq (ZO _ _)) ?_;have ne:Aa≠Aa+1:=Zr Yu;refine⟨by rw[Je ne,Jg],qA _,ne,l,λ_=>No,(Heap.Ns1.of_empty z).at λo q=>Zd _ q,λ_=>iA,λy n=>absurd rfl n⟩
def Jud{O:Env}{f:Str}(j:attributeBase e f O b7=eval e O)
  (h:wpAny As A b7 (λo g=>wpAny As A (getAttr o f To) Q E g) E s):wpAny As A (eval RE O) Q E s:=
 Attribute_any_ h (by rw[arm_eval_Attribute,j])
end
def tFld(K:Ai)(ta:TE)(f:Str):TE:=λZ H Q=>ta Z H λx g=>∃a C dx fs v,x=.ref a/\g a=So Ed/\Cls K C/\NoAttr K C f/\fs.lookup f=So v/\Q v g
def sFld(K:Ai)(ta j:TE)(f:Str):TS:=λD Z H=>j Z H λy l=>ta Z l λx g=>∃a C dx fs,x=.ref a/\g a=So Ed/\Cls K C/\NoAttr K C f/\fs.length<1000/\
 D.nx Z (upd g a Qad)
def InOp(X:Cx)(op:bM)(g:V->V->Hp->VK->Prop):Prop:=
 ∀(Y:AQ)(s:Ak)(Z:St)(H:Hp)(x y:V)(u v:An)(Q:VK),Inv X Y Z H s->RelV x u->RelV y v->g x y H Q->wpAny Ay X.A (inplaceOp op u v) B3 X.xe s
def Jse(K:Ai)(ta B:TE)(n:V->V->Hp->VK->Prop)(f:Str):TS:=λD Z H=>ta Z H λx l=>∃a C dx fs v,x=.ref a/\l a=So Ed/\Cls K C/\NoAttr K C f/\fs.lookup f=So v/\
 B Z l λy q=>n v y q λz m=>∃j g,m a=So (.ins C j g)/\g.length<1000/\D.nx Z (upd m a (.ins C j (putF f z g)))
section
variable{o value:Expr}{f:Str}{pos' tpos:Pos}{tv:TE}
def JqY(he:PE X e ta)(F:attributeBase e f WU LU=eval e WU):PE X RE (tFld X.K ta f):=by intro Y s Z H Q I h;refine Jud F (thn E2 λu J g=>?_);obtain⟨x,z,j,m,a,C,dx,fs,v,ex,y,c,n,l,q⟩:=g;subst ex;obtain rfl:u=Value.ref a:=m;exact JeJ j y c n l λL N B G=>⟨v,z,B,G,q⟩
def pM(j:Y3)(B:Hu)(hs:swapsWith value (So (.Attribute o f pos')) Xi WU=pure Fo):PS X (.Assign [.Attribute o f pos'] value pos) (sFld X.K ta tv f):=by intro Y s Z H D I h;refine plainObj_wpAny_Assign_Attribute (thn (B Y s Z H _ I h) λu z⟨y,O,m,N,q⟩=>thn (j Y z Z O _ m q) λg s2⟨x,H2,U,F,a,C,dx,fs,ex,J,c,n,l,L⟩=>?_) hs;subst ex;obtain rfl:g=Value.ref a:=F;exact JeA U J c n l N λs3 G=>⟨Z,_,G,L⟩
def JmT{op:bM}{B:V->V->Hp->VK->Prop}(ha:Y3)(J:Hu)(m:InOp X op B):PS X (.AugAssign (.Attribute o f tpos) op value pos) (Jse X.K ta tv B f):=by intro Y s Z H D I h;refine wpAny_AugAssign_AttributeAny (thn Ci λov s1 g=>?_);obtain⟨x,H1,L,rx,a,C,dx,fs,v,ex,ea,c,n,l,q⟩:=g;subst ex;obtain rfl:ov=Value.ref a:=rx;refine JeJ L ea c n l λu s2 I2 ru=>thn (J Y s2 Z H1 _ I2 q) λw3 G⟨y,H2,U,ry,q3⟩=>thn (m Y G Z H2 v y u w3 _ U ru ry q3) λw4 s4 g=>?_;obtain⟨z,H3,F,rz,dx',fs',j,N,O⟩:=g;exact JeA F j c n N rz λs5 I5=>⟨Z,_,I5,O⟩
noncomputable def rAdd:V->V->Hp->VK->Prop:=λx y H Q=>∃i j,x=.int i/\y=.int j/\Q (.int (i+j)) H
def Jwk:InOp X .Add rAdd:=by rintro Y s Z H x y u v Q I g l⟨i,j,rfl,rfl,q⟩;obtain⟨t,rfl⟩:=(show∃t,u=Value.int i t from g);obtain⟨t',rfl⟩:=(show∃t',v=Value.int j t' from l);exact PyProof.Rows.iadd_int ⟨.int (i+j),H,I.tok _,Au,q⟩
end
structure Room(k:Nat)(A:BX):Prop where
 hd:A.handled=No
 dp:A.depth+3*k+5<recursionLimit
 un:A.units+16*k+200<cLine
theorem Room.mono{j:Nat}(r:Room k A)(h:j<=k):Room j A:=⟨r.hd,by have:=r.dp;lia,by have:=r.un;lia⟩
theorem Room.deeper(r:Qdl)(O:Env):Room k (A.deeper O):=
 ⟨r.hd,by have:=r.dp;show A.depth+1+3*k+5<_;lia,by have:=r.un;show A.units+3+16*k+200<_;lia⟩
theorem Room.in1(r:Qdl):Room k Xk:=
 ⟨r.hd,by have:=r.dp;show A.depth+3*k+5<_;lia,by have:=r.un;show A.units+1+16*k+200<_;lia⟩
def JjY:(A.under (.builtin "type.__call__" ⟨.ref C::us,kw⟩)).depth=A.depth+1:=by first|rfl|simp[Around.under,Code.weight,Code.isCreation,Code.isGuard,Code.isCaller,Code.frames,Code.isFrame,guardIds]
def Jks:(A.under (.builtin "type.__call__" ⟨.ref C::us,kw⟩)).units=X8+1:=by first|rfl|simp[Around.under,Code.cUnits,Code.frames,Code.isFrame]
theorem Room.make(r:Qdl)(C:Addr)(us:Az)(kw:IV):Room k (A.under (.builtin "type.__call__" ⟨.ref C::us,kw⟩)):=
 ⟨r.hd,by have:=r.dp;rw[JjY];lia,by have:=r.un;rw[Jks];lia⟩
theorem Room.depth(r:Room k A):A.depth<recursionLimit:=by have:=r.dp;lia
theorem Room.units(r:Room k A):A.units+64<cLine:=by have:=r.un;lia
def tNil:TA:=λ_ H Q=>Q [] H
def Jwz(ta:TE)(tr:TA):TA:=λZ H Q=>ta Z H λx g=>tr Z g λj l=>Q (x::j) l
def kB:PA X [] tNil:=λ_ _ _ _ H Q I h=>Calls.spliced_nil ⟨[],H,I,.nil,h⟩
def JC(ha:Ey)(m:Y4)(J:Dx):PA X Fi (Jwz te t):=by intro pos Y s Z H Q I h;rw[J];show wpAny _ _ (spliced (SX::backTo pos KF)) _ _ s;refine Calls.spliced_cons (thn Ci λu l g=>?_);obtain⟨x,B,j,L,q⟩:=g;exact thn (m pos Y l Z B _ j q) λus N⟨n,y,G,F,z⟩=>⟨x::n,y,G,.cons L F,z⟩
def tTup(t:TA):TE:=λZ H Q=>t Z H λxs g=>Ac<=sizeLine/\∀p,g p=No->Q Dz (upd g p A4)
def tLst(t:TA):TE:=λZ H Q=>t Z H λxs g=>Ac<=sizeLine/\∀p,g p=No->Q Dz (upd g p By)
def Jqt{x1}(h:Y4):PE X (.Tuple es x1 pos) (tTup t):=by intro Y s Z H Q I m;refine wpAny_Tuple_spliced (thn OE λus s1⟨xs,j,g,r,z,q⟩=>⟨by rw[<-r.length];exact z,?_⟩);have l:j Aq=No:=g.hok.fresh (Zj _);refine⟨.ref Aq,upd j Aq A4,g.laid (t':=XA) NV (Zj _) ?_,rfl,q _ l⟩;exact⟨⟨z,nJ⟩,us,r,⟨_,Zi _ rfl,rfl,_,rfl⟩⟩
def JwB(h:Y4):PE X Qb9 (tLst t):=by intro Y s Z H Q I m;refine wpAny_List_spliced (thn OE λus s1⟨xs,j,g,r,z,q⟩=>⟨by rw[<-r.length];exact z,?_⟩);have l:j Aq=No:=g.hok.fresh (Zj _);refine⟨.ref Aq,upd j Aq By,g.laid (t':=XA) NV (Zj _) ?_,rfl,q _ l⟩;exact⟨z,us,0,r,Zi _ rfl⟩
noncomputable abbrev Sp:=List V->Hp->VK->XK->Prop
noncomputable abbrev CXT:=List Env->Hp->Shared->XK->Value->Shared->Prop
structure Env0(P:Bk)(w:AY)(K:Ai)(mg:BY)(base:Heap)(A:BX)(outer:BG)(s:Ak)(H:Hp):Prop where
 frames:A.frames=So outer
 mod:Mod K mg base
 bs:∀b o,base.get? b=So o->s.heap.get? b=So o/\H b=No
 bsz:base.objs.size<=Aa
 funs:s.heap.FunFrames base outer
 frf:∀b∈frs outer,H b=No
 hok:HOk P w H W6
 bare:AllBare YF
inductive CE(outer:BG)(P:Bk)(w:AY)(H:Hp)(s:Ak)(Q:VK)(u:An)(s':Ak):Prop where
 |mk (v:V) (H':Hp):s'.os=s.os->AllBare s'.gens->Un (frs outer) [] H H' s.heap s'.heap->HOk P w H' s'.heap->RelV v u->Q v H'->CE outer P w H s Q u s'
variable{CX:CXT}
def CR(CX:CXT)(g:BG)(P:Bk)(w:AY)(H:Hp)(s:Ak)(Q:VK)(E:XK)(r:Result)(j:Ak):Prop:=
 match r with
 |.ok (.ret u)=>CE g P w H s Q u j
 |.ok _=>False
 |.error e=>CX g H s E e j
structure FnOk(P:Bk)(w:AY)(K:Ai)(mg:BY)(base:Heap)(CX:CXT)(k:Nat)(f:Addr)(fd:B2)(ps:Ad)(sp:Sp):Prop where
 len:∀vs H Q E,sp vs H Q E->Bg=Aj
 run:∀(A:BX)(outer:BG)(s:Ak)(H:Hp)(args:Args)(us:Az)(vs:AA)(Q:VK)(E:XK),Room k A->Env0 P w K mg base A outer s H->BindsTo s fd args (ps.zip us)->Vals vs us->sp vs H Q E->
  codeAny Bv A (.call Bc args) (CR CX outer P w H s Q E) s
def FnOk.imp{sp j:Sp}(F:FnOk P w K mg base CX k f fd ps sp)
  (h:∀vs H Q E,j vs H Q E->sp vs H Q E):FnOk P w K mg base CX k f fd ps j:=
 ⟨λvs H Q E q=>F.len vs H Q E (h _ _ _ _ q),λA g s H l us vs Q E y m B n z=>F.run A g s H l us vs Q E y m B n (h _ _ _ _ z)⟩
def Env0.make{g:BG}(e:Env0 P w K mg base A g s H)(C:Addr)(us:Az)(kw:IV):
  Env0 P w K mg base (A.under (.builtin "type.__call__" ⟨.ref C::us,kw⟩)) g s H:=⟨by first|exact e.frames|(simpa[Around.under,Code.envs,Code.isFrame,pushEnvs]using e.frames),e.mod,e.bs,e.bsz,e.funs,e.frf,e.hok,e.bare⟩
section
variable{s':Ak}
def Inv.env0(I:AG):Env0 Xa X.w X.K X.mg XF X.A Xc s H:=
 ⟨cX,bT,I.bs,ZM I.ok.bsz I.sz,I.stack,I.stkFree,Xh,Xs⟩
def Inv.after{Q:VK}(I:AG)(h:CE Xc Xa X.w H s Q u s'):EP X Y Z Q u s':=by obtain⟨v,W,y,j,un,m,r,q⟩:=h;obtain⟨n,g,d,t,l⟩:=s';obtain rfl:l=s.os:=y;exact⟨v,W,I.call (h':=n) (g':=g) (d':=d) (t':=t) (ch:=[]) un m j R7,r,q⟩
end
def Jwx(sp:Sp)(dvs:AA)(E:XK)(t:TA):TE:=λZ H Q=>t Z H λvs g=>sp (vs++dvs) g Q E
def gU(C:Addr)(m:Str)(sp:Sp)(dvs:AA)(E:XK)(ta:TE)(t:TA):TE:=λZ H Q=>ta Z H λx g=>∃a dx fs,x=.ref a/\g a=So Ed/\fs.lookup m=No/\
 t Z g λvs j=>sp (x::(vs++dvs)) j Q E
def tMake(C:Addr)(sp:Sp)(dvs:AA)(E:XK)(t:TA):TE:=λZ H Q=>t Z H λvs g=>∀x dx,g x=No->g dx=No->dx≠x->
 sp (.ref x::(vs++dvs)) (upd (upd g dx Gz) x Qca) (λv j=>v=.non/\Q GA j) E
def Binds(K:Ai)(fd:B2)(ps:Ad)(J:Az):Prop:=
 ∀(s:Ak)(us:Az),K.In s.heap->(us++J).length=Aj->BindsTo s fd KS (ps.zip (us++J))
def Binds.all(h:∀us:List Value,Qds=Aj->bindArgs fd KS=pure K8):Binds K fd ps []:=λs us _ g=>by
 rw[uE]at g⊢
 exact .of_eq (h us g)
def Jdh(CX:CXT)(X:Cx)(E:XK):Prop:=∀(Y:AQ)(Z:St)(H:Hp)(s:Ak)(e:An)(g:Ak),Inv X Y Z H s->CX Xc H s E e g->X.xe e g
section
variable{sp:Sp}{dvs:AA}{J:Az}{E:XK}{m:Str}{apos:Pos}{o:Expr}
def qV{Q:VK}(F:F8)(y:Iy)(B:Fl)(z:FA)(n:GO)
  (I:AG) (r:Qbe) (h:sp (vs++dvs) H Q E):wpAny Ay X.A (call Bc us) B3 X.xe s:=by
 have j:Vals (vs++dvs) (us++J):=r.append z;have q:(us++J).length=Aj:=by rw[<-j.length];exact F.len _ _ _ _ h
 refine wpAny_call (dG (F.run X.A Xc s H KS (us++J) (vs++dvs) Q E y I.env0 (B s us X6 q) j h) λr l g=>?_);cases r with
 |error e=>exact n Y Z H s e l I g
 |ok G=>
  cases G with
  |ret u=>exact I.after g
  |next=>exact False.elim g
  |brk=>exact False.elim g
  |cont=>exact False.elim g
def Jue(F:F8)(y:Iy)(G:C9)(z:X.mg x=So Bc)(n:PySem.W.keepIn X.K Bc=To)(L:Fl)(B:FA)(l:GO)
  (ha:GN) (g:DW) (he:Dx) (hpl:'в' ('ĺ'.any (·.1)=Fo) Al):
  PE X Mz (Jwx sp dvs E t):=by intro Y s Z H Q I h;refine wK (pJ I G z ?_ g);refine PySem.W.callWith_K (h₀:=XF) bK n (thn II λus N⟨vs,O,j,r,q⟩=>⟨j.kIn,?_⟩) he hpl;exact qV F y L B l j r q
def JsW{pl:D0}(he:Y3)(c:Il)(n:Meth X.K C m f)(F:F8)(N:Iy)(hb:Fl)(G:FA)(z:GO)(L:GN)
  (g:Dx) (hpl:'в' ('ĺ'.any (·.1)=Fo) Al)
  (ht:'в' (eval Ph WU=(do
   let ov<-eval o WU
   standAt XI
   let(f,first)<-holding [ov] Fs
   callWith pos f first 'ѐ' Fq)) Al):
  PE X Ph (gU C m sp dvs E ta t):=by intro Y s Z H Q I h;refine PySem.W.methodCall_KW (pl:=pl) (thn E2 λu B⟨x,H1,j,O,a,dx,fs,ex,U,l,q⟩=>?_) ht;subst ex;obtain rfl:u=Value.ref a:=O;refine Jex j U c n l ?_;refine PySem.W.callWith_K (first:=B9) (h₀:=XF) bK n.kp (thn (L pos Y B Z H1 _ j q) λus s2⟨vs,H2,y,r,q2⟩=>⟨y.kIn,?_⟩) g hpl;exact qV (us:=.ref a::us) (vs:=.ref a::vs) F N hb G z y (.cons rfl r) q2
def JpF {pl:D0} (he:Y3) (c:Il) (j:Meth X.K C m f) (F:F8) (y:Iy) (N:Fl) (G:FA) (n:GO)
  (z:'в' (eval OX WU = (do
   let ov <- eval o WU
   standAt XI
   let (f,first) <- holding [ov] Fs
   callWith pos f first 'Ȱ' Fq)) Al) :
  PE X OX (gU C m sp dvs E ta tNil):=by intro Y s Z H Q I h;refine PySem.W.methodCall_KW (pl:=pl) (thn E2 λu O ⟨x,U,g,B,a,dx,fs,ex,L,l,q⟩=>?_) z;subst ex;obtain rfl:u = Value.ref a:=B;refine Jex g L c j l ?_;exact PySem.W.callWith_K0 (first:=B9) g.kIn j.kp (qV (us:=B9) (vs:=B9) F y N G n g QaW q)
structure Mk(K:Ai)(C f:Addr):Prop where
 makes:PySem.W.makesIn K C=To
 init:PySem.W.findIn K Bm "__init__"=So EE
 fn:PySem.W.isFn K Bc=To
 kp:PySem.W.keepIn K Bm=To
def JpD{Q:VK}(M:Mk X.K C f)(F:F8)(y:Room AV X.A)(U:Fl)(G:FA)
  (q:GO) (I:AG) (r:Qbe)
  (h:∀x dx,H x=No->H dx=No->dx≠x->sp (.ref x::(vs++dvs)) (upd (upd H dx Gz) x Qca) (λv B=>v=.non/\Q GA B) E):
  wpAny Ay X.A (call Bm us) B3 X.xe s:=by
 have l:=h DR Aa (I.hok.fresh (iC _)) Ft (Zr Yu);have j:=Inv.made (C:=C) I;have n:Vals (V.ref DR::(vs++dvs)) (Value.ref DR::(us++J)):=.cons rfl (r.append G);have L:(Value.ref DR::us++J).length=Aj:=by have e:=n.length;rw[F.len _ _ _ _ l]at e;exact e.symm
 refine wpAny_call (JoV (f:=f) X6 M.makes M.init (ZD.mp M.fn) (dG (F.run _ Xc _ _ ⟨Value.ref DR::us,[]⟩ (Value.ref DR::(us++J)) _ _ E (y.make C us [])
  (j.env0.make C us []) (U _ (Value.ref DR::us) j.kIn L) n l) λr N g=>?_))
 cases r with
 |error e=>exact q Y Z _ _ e N j g
 |ok fl=>
  cases fl with
  |ret u=>obtain⟨v,W,z,rv,ev,O⟩:=j.after g;subst ev;exact⟨rv,⟨V.ref DR,W,z,rfl,O⟩⟩
  |next=>exact False.elim g
  |brk=>exact False.elim g
  |cont=>exact False.elim g
def JoQ(M:Mk X.K C f)(F:F8)(n:Room AV X.A)(j:C9)(y:X.mg x=So Bm)(q:Fl)(z:FA)(l:GO)
  (g:DW):PE X (.Call (.Name x p) [] [] pos) (tMake C sp dvs E tNil):=by intro Y s Z H Q I h;refine wK (pJ I j y ?_ g);exact PySem.W.callWith_K0 X6 M.kp (JpD (us:=[]) M F n q z l I .nil h)
end
structure FnScope(N P:Ad)(sc:Ba):Prop where
 kind:sc.kind=.function
 co:sc.isCoroutine=Fo
 gen:sc.isGenerator=Fo
 nd:N.Nodup
 pre:N.take P.length=P
 par:∀x∈P,sc.names.lookup x=So .local\/sc.names.lookup x=So .cell
 nofree:∀y∈sc.names,y.2≠.free
theorem Jgq{g:Str->Option NameKind}:∀{binds:IV}{m:BY},(∀v,(x,v)∉binds)->bindL g binds m x=m x
 |[],_,_=>rfl
 |(n,v)::r,m,h=>by
  unfold bindL
  rw[Jgq λw j=>h w (ZN _ j)]
  split
  ·have:x≠n:=by rintro rfl;exact h v mG
   simp[this]
  ·rfl
theorem JfR{g:Str->Option NameKind}:∀{binds:IV}{m:BY},(∀v,(x,v)∉binds)->bindC g binds m x=m x
 |[],_,_=>rfl
 |(n,v)::r,m,h=>by
  unfold bindC
  rw[JfR λw j=>h w (ZN _ j)]
  split
  ·rfl
  ·have:x≠n:=by rintro rfl;exact h v mG
   simp[this]
theorem Jgy{g:Str->Option NameKind}{x:Str}{v:An}:∀{P:Ad}{vs:Az}{i:Nat}{m:BY},P.Nodup->P[i]? =So x->vs[i]? =So v->g x=So .local->
  bindL g (P.zip vs) m x=So v
 |[],_,_,_,_,h,_,_=>by simp at h
 |_::_,[],_,_,_,_,h,_=>by simp at h
 |p::P,w::vs,0,m,nd,h1,h2,hk=>by
  simp at h1 h2;subst h1;subst h2
  show bindL g ((p,w)::P.zip vs) m p=_
  unfold bindL
  rw[Jgq λv j=>(lC.mp nd).1 (List.of_mem_zip j).1,if_pos hk]
  simp
 |p::P,w::vs,i+1,m,nd,h1,h2,hk=>by
  show bindL g ((p,w)::P.zip vs) m x=_
  unfold bindL
  exact Jgy (i:=i) (lC.mp nd).2 (by simpa using h1) (by simpa using h2) hk
theorem JgL{g:Str->Option NameKind}{x:Str}{v:An}:∀{P:Ad}{vs:Az}{i:Nat}{m:BY},P.Nodup->P[i]? =So x->vs[i]? =So v->g x≠So .local->
  bindC g (P.zip vs) m x=So v
 |[],_,_,_,_,h,_,_=>by simp at h
 |_::_,[],_,_,_,_,h,_=>by simp at h
 |p::P,w::vs,0,m,nd,h1,h2,hk=>by
  simp at h1 h2;subst h1;subst h2
  show bindC g ((p,w)::P.zip vs) m p=_
  unfold bindC
  rw[JfR λv j=>(lC.mp nd).1 (List.of_mem_zip j).1,if_neg hk]
  simp
 |p::P,w::vs,i+1,m,nd,h1,h2,hk=>by
  show bindC g ((p,w)::P.zip vs) m x=_
  unfold bindC
  exact JgL (i:=i) (lC.mp nd).2 (by simpa using h1) (by simpa using h2) hk
noncomputable def fD (N:Ad) (vs:AA):St:=vs.map So++List.replicate (N.length-Bg) No
noncomputable def cxOf (CX:CXT) (P:Bk) (w:AY) (K:Ai) (mg:BY) (base:Heap) (N:Ad) (j:Str) (g:Ba) (f:Addr) (m:An) (A:BX) (outer:BG) (s:Ak) (H:Hp) (E:XK):Cx where
 prog:=P
 w:=w
 K:=K
 mg:=mg
 base:=base
 A:=A.deeper RK
 N:=N
 s₀:=s
 H₀:=H
 env:=envOfC j g Aa f m
 outer:=outer
 stack:=envOfC j g Aa f m::outer
 ex:=[]
 calm:=To
 fn:=λ_=>To
 pn:=[]
 xe:=λe q=>wpAny Bv (A.deeper RK) (leaving RK e) (λ_ l=>CX outer H s E e l) (λn l=>CX outer H s E n l) q
def JjM{g:Ba}{n:Nat}(h:g.names.lookup x=So .cell):∃c,(cellsFrom n g.names []).lookup x=So c:=by have q:=PySem.W.cellsFrom_some g.names n [] Qc0;exact Option.isSome_iff_exists.mp q
theorem Jmc{N:Ad}{l:Str}{g:Ba}{O:An}{j:BG}{s1:Ak}{E:XK}
  (S:FnScope N ps g) (hd:A8) (B:Env0 P w K mg base A j s H) (hl:Bg=Aj) (r:Qbe)
  (x:InCallC s Aa (bindL '乣'.kindOf K8 λ_=>No) (cellsFrom DR g.names []) (bindC '乣'.kindOf K8 λ_=>No) s1):
  Inv (cxOf CX P w K mg base N l g f O A j s H E) [] 'յ' H s1:=by
 have hpl:Aj<=N.length:=by have:=xB cY S.pre;rw[qK]at this;lia
 obtain⟨U,tk,rfl,hk⟩:=x.done;have G:∀b:Addr,b∉(cxOf CX P w K mg base N l g f O A j s H E).ex:=λb z=>absurd (show b∈([]:List Addr)from z) Af;refine⟨⟨B.mod,S.kind,rfl,rfl,Zj _,λy z c U m=>?_,λy F=>?_,λy c _ h=>?_,λ_=>hd,Around.frames_deeper B.frames,.inr Ce,λb z=>absurd z (G b),B.bs,B.bsz,λb _ _=>G b,λb z=>absurd z (G b),B.funs,B.frf⟩,
  rfl,B.bare,Un.kept hk,⟨_,x.toInCall.ns,λi y v U m h3=>?_⟩,λy c h=>⟨_,x.cell y c h⟩,B.hok.fresh (Zj _),λy c h=>?_,λp J=>absurd (show p∈([]:List (Addr×Obj))from J) Af,B.hok.kept hk,?_⟩
 ·exact name_of_addr x.apart (lP U) (lP m)
 ·have F:g.names.lookup y=So .cell\/g.names.lookup y=So .free:=F;rcases F with F|F
  ·exact JjM F
  ·exact absurd rfl (S.nofree _ (lP F))
 ·exact Nat.le_of_lt OD
 ·have L:i<Bg:=by
   unfold fD at m;by_cases L:i<Bg
   ·exact L
   ·rw[fF (by simpa using L)]at m;rw[kP]at m;split at m<;>cases m
  have ha:vs[i]? =So v:=by
   unfold fD at m;rw[eF (by simpa using L),oB]at m;cases e:vs[i]? with
   |none=>rw[e]at m;cases m
   |some a=>rw[e]at m;cases m;rfl
  obtain⟨u,hu,rv⟩:=r.get ha;have J:ps[i]? =So y:=by
   rw[<-S.pre,List.getElem?_take_of_lt 'c'];exact U
  have I:ps.Nodup:=by rw[<-S.pre];exact S.nd.sublist 'ʙ'
  refine⟨u,rv,?_⟩;rcases S.par y (tL J)with k|k
  ·exact .inl ⟨k,Jgy I J hu k⟩
  ·obtain⟨c,e⟩:=JjM (n:=Aa+1) k
   refine .inr ⟨.inl k,c,e,?_⟩;have q:=x.cell y c e;rw[JgL I J hu (by show g.names.lookup y≠_;rw[k];decide)]at q;exact q
 ·exact B.hok.fresh (Nat.le_of_lt OD)
 ·unfold fD;show _=Xl;rw[Zy,Ze,zG];lia
def pP{name qual:Str}{g:Arguments}{scope:Ba}{dV kV G pm cdv ct oc:An}{an od:CF}
  {osl:CY} {N ps:Ad} {sp:Sp} (lk:K.lookup f=So ⟨oc,od,.func Wq,osl⟩) (U:PySem.W.codeIn K cdv qual=To) (S:FnScope N ps scope)
  (len:∀vs H Q E,sp vs H Q E->Bg=Aj)
  (z:∀(A:BX)(outer:BG)(s:Ak)(H:Hp)(vs:AA)(Q:VK)(E:XK),Room k (A.deeper (envOfC qual scope Aa f cdv))->sp vs H Q E->
   ∃t,PSs QV body t/\t {nx:=λ_ W=>Q .non W,rt:=Q} 'յ' H):
  FnOk P w K mg base CX AV f Wq ps sp:=by
 refine⟨len,λA outer s H args us vs Q E hr J hb r L=>?_⟩;have hl:=len _ _ _ _ L;have KX:K.In W6:=J.mod.kin.keeps λb o e=>(J.bs b o e).1;have lim:s.heap.NoLimit:=J.mod.nolimit.keeps λb o e=>(J.bs b o e).1;have m:∀y∈ps.zip us,scope.names.lookup y.1=So .local\/(scope.names.lookup y.1=So .cell/\((cellsFrom DR XJ []).lookup y.1).isSome=To):=λ⟨n,v⟩hy=>by
  rcases S.par n (List.of_mem_zip hy).1 with q|q
  ·exact .inl q
  ·exact .inr ⟨q,PySem.W.cellsFrom_some _ _ _ (.inl q)⟩
 refine codeAny_call_function hr.depth (KX _ _ lk) rfl S.co S.gen rfl (PySem.W.codeRec_of KX U) (hb _ _ _ _ ?_);refine wpAny_newFunctionEnv_cells S.kind m λO he s1 x=>?_;subst he;refine⟨lim.keeps x.toInCall.keep,codeAny_func ?_⟩;obtain⟨t,ht,hq⟩:=z A outer s H vs Q E (hr.deeper _) L;have I:Inv QV [] 'յ' H s1:=Jmc S hr.hd J hl r x;refine ZV (ht [] s1 'յ' H _ I hq) (λfl s' B=>?_) λe s' B=>B;have F:∀{j:St}{W:Hp}{v:V}{u:An},Inv QV [] j W s'->RelV v u->Q v W->CE outer P w H s Q u s':=
  fun{j W v u}l rv q=>⟨v,W,l.os,l.bare,l.base,l.hok,rv,q⟩
 cases fl with
 |ret u=>obtain⟨v,j,W,l,rv,q⟩:=B;exact F l rv q
 |next=>obtain⟨j,W,l,q⟩:=B;exact F (v:=V.non) (u:=Xb) l rfl q
 |brk=>obtain⟨_,_,_,q⟩:=B;exact False.elim q
 |cont=>obtain⟨_,_,_,q⟩:=B;exact False.elim q
section
variable{id T:A5}{r:List V->Hp->VK->Prop}
def tCB(r:List V->Hp->VK->Prop)(t:TA):TE:=λZ H Q=>t Z H λvs g=>r vs g Q
def rR(g:gA X DH r)(y:C9)(q:X.mg x=No)(l:bootBuiltins x=So DH)(ha:GN)(F:'в' (x≠"__name__") Eo)(hdb:DW)
  (he:Dx) (hpl:'в' ('ĺ'.any (·.1)=Fo) Al):PE X Mz (tCB r t):=by intro Y s Z H Q I h;refine wK (mH I y q l ?_ F hdb);exact PyProof.Rows.callWith_builtin1 (thn II λus m⟨vs,z,j,B,n⟩=>g Y m Z z vs us Q j B n) he hpl
def Jgt(g:gA X ED r)(y:C9)(q:X.mg x=No)(l:bootBuiltins x=So ED)(ha:GN)(F:'в' (x≠"__name__") Eo)(hdb:DW)
  (he:Dx) (hpl:'в' ('ĺ'.any (·.1)=Fo) Al):PE X Mz (tCB r t):=by intro Y s Z H Q I h;refine wK (mH I y q l ?_ F hdb);exact vL (thn II λus m⟨vs,z,j,B,n⟩=>g Y m Z z vs us Q j B n) he hpl
end
end L2
namespace HT
open PySem PyProof.Rows
section
variable{prog:Bk}{w:AY}{A:BX}{E:AZ}{s:Ak}
def Jtu{t b:Addr}{vs ws:Az}{Q:AZ}(z:IsTup W6 t CB)(C:O7)(u:vs≠[])
  (h1:ws=[]->Q GQ s) (B:ws≠[]->Q Dr {s with heap:=s.heap.push {cls:=.type "tuple",data:=.seq (vs++ws).toArray}})
  (hsz:Bg+Cb<=sizeLine):wpAny As A PV Q E s:=by
 obtain⟨⟨cls,q,data,sl⟩,j,r,n,v⟩:=id z;obtain⟨⟨y,i,m,g⟩,a,h,o,f⟩:=id C;simp only at r v h f;subst r v h f;have e:CB++ws.toArray=(vs++ws).toArray:=by simp
 by_cases l:ws=[]
 ·exact concat_meets ⟨_,j,rfl⟩ ⟨_,a,rfl⟩ noFill_tuple_add seq_tuple_add rT uT Qc2
   (tuple_addW1 t b CB Qbl n o q i sl g (by simpa using u) (by simp[l])) ⟨j,a,h1 l⟩
 ·refine concat_meets ⟨_,j,rfl⟩ ⟨_,a,rfl⟩ noFill_tuple_add seq_tuple_add rT uT Qc2
   (tuple_addW2 t b CB Qbl n o q i sl g (by simpa using u) (by simpa using l) (by rw[Zn,Zn];exact hsz)) ⟨j,a,?_⟩
  rw[e];exact B l
noncomputable def sIx (n d:Nat):Option Int->Nat
 |none=>d
 |some v=>if v<0 then(v+(n:Int)).toNat else min QcH n
theorem JwY(n d:Nat)(b:d<=n)(o:BM):sIx n d o<=n:=by
 cases o with
 |none=>exact b
 |some v=>
  show(if v<0 then(v+(n:Int)).toNat else min QcH n)<=n;by_cases a:v<0
  ·rw[if_pos a];lia
  ·rw[if_neg a];exact Nat.min_le_right _ _
theorem JkW(v:Int)(n d:Nat):(if v<0 then max (v+(n:Int)) 0 else min v (n:Int))=((sIx n d BO:Nat):Int):=by
 show(if v<0 then max (v+(n:Int)) 0 else min v (n:Int))=(((if v<0 then(v+(n:Int)).toNat else min QcH n):Nat):Int);by_cases a:v<0
 ·simp only[if_pos a];lia
 ·simp only[if_neg a];lia
theorem JkJ(lo hi:BM)(n:Nat):Builtin.Slice.sliceAdjust lo hi 1 (n:Int)=(((sIx n 0 lo:Nat):Int),((sIx n n hi:Nat):Int)):=by
 have a:¬((1:Int)<0):=by lia
 unfold Builtin.Slice.sliceAdjust;simp only[a,Zo];refine Prod.ext ?_ ?_
 ·cases lo with
  |none=>rfl
  |some v=>exact JkW v n 0
 ·cases hi with
  |none=>rfl
  |some v=>exact JkW v n n
theorem Jkv(i j:Nat):Builtin.Slice.slicePlaces (i:Int) (j:Int) 1=j-i:=by
 unfold Builtin.Slice.slicePlaces;have a:(1:Int)>0:=by lia
 simp only[a,if_true,Int.ediv_one];split<;>lia
def JeF{v:An}{o:BM}{Q:Option Int->Shared->Prop}(p:IsPart v o)(h:Q o s):wpAny As A (Builtin.Slice.slicePartIndex v) Q E s:=by
 cases p with
 |none=>exact slicePart_none h
 |int i t=>exact slicePart_int h
def JaZ{sl:Addr}{f e:An}{lo hi:BM}{n:Nat}{Q:Int×Int×Nat->Shared->Prop}(i:s.heap.IsSliceOf sl f e .none)(pl:IsPart f lo)(g:IsPart e hi)
  (h:Q (((sIx n 0 lo:Nat):Int),1,sIx n n hi-sIx n 0 lo) s):wpAny As A (Builtin.Slice.sliceApplied IR (pure (n:Int))) Q E s:=by obtain⟨l,b,j,a⟩:=id i;unfold Builtin.Slice.sliceApplied Builtin.Slice.sliceFields;refine Za (Za (kA b a (x:=f) rfl (Za (kA b a (x:=e) rfl (Za (kA b a (x:=.none) rfl (Zb ?_)))))));refine Za (slicePart_none ?_);show wpAny _ _ (if((1:Int)==0)=To then _ else _) _ _ s;rw[if_neg 'v'];refine Za (JeF pl (Za (JeF g (Za (Zb ?_)))));show wpAny _ _ (match Builtin.Slice.sliceAdjust lo hi 1 (n:Int)with|(lo,hi)=>pure (lo,(1:Int),Builtin.Slice.slicePlaces lo hi 1)) _ _ s;rw[JkJ lo hi n];show wpAny _ _ (pure (((sIx n 0 lo:Nat):Int),(1:Int),Builtin.Slice.slicePlaces ((sIx n 0 lo:Nat):Int) ((sIx n n hi:Nat):Int) 1)) _ _ s;rw[Jkv];exact Zb h
theorem Jpd(xs:BU)(i k:Nat):((List.range k).filterMap fun(m:Nat)=>xs[((i:Int)+(m:Int)*1).toNat]?).toArray=((xs.toList.drop i).take k).toArray:=by
 have e:(fun(m:Nat)=>xs[((i:Int)+(m:Int)*1).toNat]?)=λm=>xs[i+m]?:=by
  funext m;have:((i:Int)+(m:Int)*1).toNat=i+m:=by lia
  rw[this]
 rw[e];have:=pick_run xs i k;rw[List.filterMap_map]at this;have a:((λx=>xs[x]?)∘λx=>i+x)=λm=>xs[i+m]?:=rfl;rw[a]at this;rw[this]
theorem JcX{t sl:Addr}{items:BU}{j l:An}{lo hi:BM}{Q:AZ}(b:M3)(n:s.heap.IsSliceOf sl j l .none)(pl:IsPart j lo)(o:IsPart l hi)
  (r:¬(sIx Av 0 lo=0/\sIx Av Av hi=Av))
  (h:Q Dr {s with heap:=s.heap.push {cls:=.type "tuple",data:=.seq ('ȕ'.take Ga).toArray}})
  (hsz:Av<=sizeLine):wpAny As A NU Q E s:=by
 have a:sizeOk (.seq ('ȕ'.take Ga).toArray):=by show('ȕ'.take Ga).toArray.size<=sizeLine;rw[Zn,qK,uO,kD];lia
 have y:sIx Av Av hi<=Av:=JwY _ _ (Zj _) hi;obtain⟨v,e,i,u⟩:=id n;have g:s.TypeIs IR "slice":=⟨v,e,i⟩;unfold getItem;try with_reducible refine vA ?_
 first|refine Za (Zb ?_)|skip
 refine Za (wpAny_sequenceKey b.typeIs AO ?_);refine Za (ZJ (name:=oS "__getitem__") b.typeIs gP
  (ZI gP b.typeIs entry_tuple_getitem ?_ PB))
 show wpAny _ _ (Builtin.Tuple.tupleItemsOf (.ref t)>>=_) _ _ s;refine Za (tupleItemsOf_ b ?_);refine Za (wD g ?_);rw[if_pos 'v'];refine Za (JaZ n pl o ?_);have f:¬((((sIx Av 0 lo:Nat):Int)==0&&(1:Int)==1&& Ga==Av)=To):=by intro q;rw[Zc,Zc]at q;have z:((sIx Av 0 lo:Nat):Int)=0:=gG q.1.1;have B:sIx Av Av hi-sIx Av 0 lo=Av:=gG q.2;exact r ⟨by lia,by lia⟩
 show wpAny _ _ (if(((sIx Av 0 lo:Nat):Int)==0&&(1:Int)==1&& Ga==Av)=To then _ else _) _ _ s;rw[if_neg f,Jpd];first
  |exact Za (m:=Builtin.Tuple.tupleExact _) (ZR (Zb ⟨_,rfl,Zb h⟩) a)
  |exact Za (m:=Builtin.Tuple.tupleExact _) (ZR (Za (Zb (Zb ⟨_,rfl,Zb h⟩))) a)
  |exact Za (Za (m:=Builtin.Tuple.tupleExact _) (ZR (Zb (Zb ⟨_,rfl,Zb h⟩)) a))
  |exact Za (Za (m:=Builtin.Tuple.tupleExact _) (ZR (Zb ⟨_,rfl,Zb h⟩) a))
end
end HT
namespace L2
open PySem PySem.Spec PyProof.Rows
variable{X:Cx}{α:Type}{xs:AA}
noncomputable abbrev TO:=St->Hp->(Option Int->Hp->Prop)->Prop
def PO(X:Cx)(e:cU)(t:TO):Prop:=
 ∀(Y:AQ)(s:Ak)(Z:St)(H:Hp)(Q:Option Int->Hp->Prop),Inv X Y Z H s->t Z H Q->
  wpAny Ay X.A (evalPart e WU) (λu a=>∃o W,Inv X Y Z W a/\IsPart u o/\Q o W) X.xe s
noncomputable def tNoPart:TO:=λ_ H Q=>Q No H
noncomputable def tPart (t:TE):TO:=λZ H Q=>t Z H λx a=>∃i,x=.int i/\Q (So i) a
section
variable{e:Expr}{te:TE}{lo hi:cU}{tl th:TO}{pos p2:Pos}
def Jtr:PO X No tNoPart:=by intro Y s Z H Q I h;rw[evalPart_none];exact Zb ⟨No,H,I,.none,h⟩
def Jsp(h:Ey):PO X (So e) (tPart te):=by intro Y s Z H Q I f;rw[evalPart_some];refine thn (h Y s Z H _ I f) λu m a=>?_;obtain⟨x,j,b,l,g⟩:=a;obtain⟨i,rfl,q⟩:=g;obtain⟨t,rfl⟩:=l;exact⟨So i,j,b,.int i t,q⟩
def SlR(X:Cx)(r:QP):Prop:=
 ∀(Y:AQ)(s:Ak)(Z:St)(H:Hp)(x:V)(v b a:An)(lo hi:BM)(sl:Addr)(Q:VK),Inv X Y Z H s->RelV x v->s.heap.IsSliceOf sl b a .none->IsPart b lo->IsPart a hi->r x lo hi H Q->
  ∃T id,typeLookup ED "__getitem__"=pure (So DH)/\s.TypeIs v T/\wpAny Ay X.A (getItem v IR) B3 X.xe s
def tSl(r:QP)(te:TE)(tl th:TO):TE:=λZ H Q=>te Z H λx a=>tl Z a λl b=>th Z b λu f=>r x l u f Q
def JpE{r:QP}(G:SlR X r)(he:Ey)(M:PO X lo tl)(A:PO X hi th):PE X Pg (tSl r te tl th):=by intro Y s Z H Q I h;refine Subscript_ (thn E2 λv o f=>?_);obtain⟨x,P,w,E,J⟩:=f;refine wpAny_Slice (thn (M Y o Z P _ w J) λg O⟨l,L,U,pl,N⟩=>thn (A Y O Z L _ U N) λi a f=>?_);obtain⟨u,j,y,m,C⟩:=f;rw[evalPart_none];refine Zb ?_;have n:Inv X Y Z j {a with heap:=a.heap.push {cls:=.type "slice",data:=.fields #[g,i,.none]}}:=y.kept (t':=a.toks) λb W q=>Zd _ q;obtain⟨T,id,F,z,B⟩:=G Y {a with heap:=a.heap.push {cls:=.type "slice",data:=.fields #[g,i,.none]}} Z j x v g i l u YP Q n E (Heap.IsSliceOf.new ..) pl m C;show wpAny Ay X.A (subscriptTail e VW v (.ref YP)) B3 X.xe {a with heap:=a.heap.push {cls:=.type "slice",data:=.fields #[g,i,.none]}};exact tail_any (ops:=[.ref YP,v]) z F B (by with_unfolding_all rfl)
noncomputable def cutV (xs:AA) (lo hi:BM):List V:=(xs.drop Rj).take QT
theorem JdW(xs:AA)(lo hi:BM):'ȭ'.length<=Ac:=by unfold cutV;rw[qK,uO];lia
def rSlT (K:Ai):V->Option Int->Option Int->Hp->VK->Prop:=λx lo hi H Q=>∃a xs,x=.ref a/\SqT K H a xs/\
 ¬(HT.sIx Ac 0 lo=0/\HT.sIx Ac Ac hi=Ac)/\∀p,H p=No->Q Dz (upd H p (.tup 'ȭ'))
def JwO:SlR X (rSlT X.K):=by
 intro Y s Z H x v w z lo hi sl Q I m u pl j h;obtain⟨a,xs,rfl,l,n,q⟩:=h;cases m;obtain⟨its,r,g,i⟩:=I.tuple l;have f:BK=Ac:=by rw[Zn];exact r.length.symm
 refine⟨"tuple",_,YS,g.typeIs,?_⟩;refine HT.JcX g u pl j (by rw[f];exact n) ?_ (by rw[f];exact i);rw[f];refine⟨.ref Aa,_,I.laid (t':=W7) (o:=.tup 'ȭ') (λb y q=>Zd _ q) (Zj _) ?_,rfl,q _ Ft⟩;exact⟨⟨ZM Qcb i,nJ⟩,_,(r.drop Rj).take QT,IsTup.new _ _⟩
def rCatT(K:Ai):R2:=λx y H Q=>∃a b xs ys,x=.ref a/\y=.ref b/\SqT K H a xs/\SqT K H b ys/\xs≠[]/\xs.length+BD<=sizeLine/\
 (ys=[]->Q Aw H)/\(ys≠[]->∀p,H p=No->Q Dz (upd H p (.tup (xs++ys))))
def Vals.nil_iff{us:Az}(r:Qbd):us=[]↔xs=[]:=by
 cases r with
 |nil=>simp
 |cons _ _=>simp
def JrR:OpR X L5 (rCatT X.K):=by intro Y s Z H x y v u Q I n B h;obtain⟨a,b,xs,F,rfl,rfl,m,C,l,i,r,A⟩:=h;cases n;cases B;obtain⟨E,g,G,_⟩:=I.tuple m;obtain⟨j,f,p2,_⟩:=I.tuple C;refine HT.Jtu G p2 (λz=>l (g.nil_iff.mp z)) (λz=>⟨.ref a,H,I,rfl,r (f.nil_iff.mp z)⟩) (λz=>?_) (by rw[<-g.length,<-f.length];exact i);refine⟨.ref Aa,_,I.laid (t':=W7) (o:=.tup (xs++F)) (λb J q=>Zd _ q) (Zj _) ?_,rfl,A (λw=>z (f.nil_iff.mpr w)) _ Ft⟩;exact⟨⟨by rw[Zy];exact i,nJ⟩,_,g.append f,IsTup.new _ _⟩
end
noncomputable def ixN (n:Nat) (i:Int):Option Nat:=if 0<=i then(if i<n then So i.toNat else No)else if -(n:Int)<=i then So (i+n).toNat else No
def atI  (xs:List α) (i:Int):Option α:=(ixN Ac i).bind λj=>xs[j]?
theorem JmH{n:Nat}{i:Int}{j:Nat}(h:ixN n i=So j):seqIndex? i n=So j/\j<n/\ -(n:Int)<=i/\i<n:=by
 unfold ixN at h;by_cases b:0<=i
 ·rw[if_pos b]at h;by_cases a:i<n
  ·rw[if_pos a]at h;have e:i.toNat=j:=pA h;exact⟨by rw[seqIndex_of b a,e],by lia,by lia,a⟩
  ·rw[if_neg a]at h;cases h
 ·rw[if_neg b]at h;by_cases a:-(n:Int)<=i
  ·rw[if_pos a]at h;have e:(i+n).toNat=j:=pA h;exact⟨by rw[seqIndex_neg 'c' a,e],by lia,a,by lia⟩
  ·rw[if_neg a]at h;cases h
def jX{xs:List α}{i:Int}{v:α}(h:atI xs i=So v):∃j,seqIndex? i Ac=So j/\xs[j]? =So v/\j<Ac/\ -(Ac:Int)<=i/\i<Ac:=by
 unfold atI at h;cases e:ixN Ac i with
 |none=>rw[e]at h;cases h
 |some j=>rw[e]at h;obtain⟨g,f,a,b⟩:=JmH e;exact⟨j,g,h,f,a,b⟩
def sQ(b:Expr):Prop:=∀o i,subscripted b Fo o i=operate [o,i] Qdx
def IxR(X:Cx)(r:R2):Prop:=
 ∀(b a:Expr)(Y:AQ)(s:Ak)(Z:St)(H:Hp)(x y:V)(v u:An)(Q:VK),Inv X Y Z H s->RelV x v->RelV y u->r x y H Q->
  subscripted a Fo v u=operate [v,u] (getItem v u)->wpAny Ay X.A (subscriptTail b a v u) B3 X.xe s
def MtR(X:Cx)(id:A5)(r:IM):Prop:=
 ∀(Y:AQ)(s:Ak)(Z:St)(H:Hp)(x:V)(xs:AA)(v:An)(a:Az)(Q:VK),Inv X Y Z H s->RelV x v->Vals xs a->r x xs H Q->
  wpAny Ay X.A (call DH (v::a)) B3 X.xe s
section
variable{a b:Expr}{ta tb:TE}{pos:Pos}
def pe_ix{r:R2}(f:IxR X r)(e:Ca)(o:Ez)(n:sQ b):PE X Ml LN:=by intro Y s Z H Q I h;exact Subscript_ (binT e o I h λv u j x y i m g l q=>f a b Y j Z i x y v u Q m g l q (n _ _))
def rIxL(K:Ai):R2:=λx y H Q=>∃p xs i v,x=.ref p/\y=.int i/\SqL K H p xs/\atI xs i=So v/\Q v H
def rIxT(K:Ai):R2:=λx y H Q=>∃p xs i v,x=.ref p/\y=.int i/\SqT K H p xs/\atI xs i=So v/\Q v H
def rIxS:R2:=λx y H Q=>∃z i c,x=.str z/\y=.int i/\z.length<=sizeLine/\atI z.cps.toList i=So c/\Q (.str ⟨#[c]⟩) H
theorem Jst:IxR X (rIxL X.K):=by
 intro g l Y s Z H x y v u Q I L N h B;obtain⟨p,xs,i,z,rfl,rfl,O,G,q⟩:=h;cases L;obtain⟨t,rfl⟩:=N;obtain⟨its,r,pl,U⟩:=I.list O;obtain⟨j,f,F,P,E,J⟩:=jX G;obtain⟨w,o,n⟩:=r.get F;have M:=Xv;have W:=jH;have e:EP X Y Z Q w s:=⟨z,H,I,n,q⟩;by_cases A:0<=i
 ·have m:i.toNat=j:=by
   rw[seqIndex_of A J]at f;exact pA f
  exact item_listR Yb A Ae (by rw[m];simpa using o) e B
 ·have m:(i+(BK:Int)).toNat=j:=by
   rw[seqIndex_neg 'c' E]at f;rw[Zn,<-M];exact pA f
  exact subscriptTail_builtinR (x:=w) QcU cT
   (wpAny_getItem_list_neg (Q:=λr C=>r=w/\EP X Y Z Q r C) Yb Ae (by rw[Zn]<;>lia) Ae (by rw[m];simpa using o) ⟨rfl,e⟩) B
def Jwo:IxR X (rIxT X.K):=by
 intro e f Y s Z H x y v u Q I B F h J;obtain⟨p,xs,i,z,rfl,rfl,G,A,q⟩:=h;cases B;obtain⟨t,rfl⟩:=F;obtain⟨L,r,pl,N⟩:=I.tuple G;obtain⟨j,C,n,M,O,P⟩:=jX A;obtain⟨w,o,g⟩:=r.get n;have E:=Xv;have U:=jH;have l:EP X Y Z Q w s:=⟨z,H,I,g,q⟩;exact subscriptTail_builtinR (x:=w) pl.typeIs slot_tuple_getitem.lookup
  (getItem_tuple (j:=j) (Q:=λr m=>r=w/\EP X Y Z Q r m) pl Ae Ae (by rw[Zn,<-E];exact C) (by simpa using o) ⟨rfl,l⟩) J
def Jwc:IxR X rIxS:=by
 intro e f Y s Z H x y v u Q I o A h E;obtain⟨z,i,c,rfl,rfl,G,l,q⟩:=h;obtain⟨t,rfl⟩:=o;obtain⟨J,rfl⟩:=A;obtain⟨j,g,C,F,B,n⟩:=jX l;have w:z.cps.toList.length=z.length:=by simp[Str.length]
 rw[w]at g B n;have L:=jH;exact tail_any (typeIs_str s z t) slot_str_getitem.lookup (getItem_str (c:=c) (by
  have r:decide (i< -(2^63:Int))=Fo:=Zt Ae;have m:decide (i≥2^63)=Fo:=Zt Ae;rw[r,m,yE]) (by rw[g];simpa using C) ⟨.str ⟨#[c]⟩,H,I.tok _,Au,q⟩) E
theorem Jgd(lo hi:BM)(n:Nat):(sliceBounds lo hi No n).1=((HT.sIx n 0 lo:Nat):Int)/\(sliceBounds lo hi No n).2.1=((HT.sIx n n hi:Nat):Int)/\(sliceBounds lo hi No n).2.2=1:=by
 refine⟨?_,?_,rfl⟩
 ·cases lo with
  |none=>simp[sliceBounds,HT.sIx]
  |some i=>
   simp only[sliceBounds,HT.sIx,Option.getD_none,show(1:Int)>0 by decide,if_true];by_cases h:i<0
   ·simp only[h,if_true]<;>lia
   ·simp only[h,Zo]<;>lia
 ·cases hi with
  |none=>simp[sliceBounds,HT.sIx]
  |some i=>
   simp only[sliceBounds,HT.sIx,Option.getD_none,show(1:Int)>0 by decide,if_true];by_cases h:i<0
   ·simp only[h,if_true]<;>lia
   ·simp only[h,Zo]<;>lia
def Jfq(its:Az)(lo hi:BM):slicePick Ap lo hi No=((its.drop (HT.sIx AU 0 lo)).take (HT.sIx AU AU hi-HT.sIx AU 0 lo)).toArray:=by obtain⟨f,g,e⟩:=Jgd lo hi BK;unfold slicePick;rw[f,g,e];simp only[sliceRange_one,pick_run,Zn]<;>rfl
def rSlL (K:Ai):V->Option Int->Option Int->Hp->VK->Prop:=λx e f H Q=>∃a xs,x=.ref a/\SqL K H a xs/\∀p,H p=No->Q Dz (upd H p (.lst (cutV xs e f)))
theorem JtJ:SlR X (rSlL X.K):=by intro Y s Z H x v u y lo hi sl Q I j m pl g h;obtain⟨a,xs,rfl,i,q⟩:=h;cases j;obtain⟨n,r,f,l⟩:=I.list i;have e:=Xv;refine⟨"list",_,cT,f.isList.typeIs,?_⟩;refine wpAny_getItem_list_slice f.isList m pl g .none Af ?_ (by rw[Zn]<;>lia);rw[Jfq,<-e];refine⟨.ref Aa,_,I.laid (t':=W7) (o:=.lst 'ȭ') (λb w q=>Zd _ q) (Zj _) ?_,rfl,q _ Ft⟩;exact⟨ZM Qcb l,_,0,(r.drop Rj).take QT,Zi _ rfl⟩
theorem tZ:gA X Et (λxs H Q=>∃p ys,xs=Fj/\(SqL X.K H p ys\/SqT X.K H p ys)/\Q (.int BD) H):=by
 intro Y s Z H xs m Q I r h;obtain⟨p,ys,rfl,f,q⟩:=h;obtain⟨u,rfl,j⟩:=lA r;cases j;have n:=jH;rcases f with f|f
 ·obtain⟨i,g,pl,l⟩:=I.list f;have e:=XZ;exact Calls.call_len_list Yb (by simp only[Zn]<;>lia) ⟨.int BD,H,I.tok _,⟨W7+1,by rw[Zn,e]⟩,q⟩
 ·obtain⟨i,g,pl,l⟩:=I.tuple f;have e:=XZ;exact len_tuple pl (by simp only[Zn]<;>lia) ⟨.int BD,H,I.tok _,⟨W7+1,by rw[Zn,e]⟩,q⟩
def Jhf:gA X Et (λxs H Q=>∃z,xs=[.str z]/\z.length<=sizeLine/\Q QbC H):=by intro Y s Z H xs e Q I r h;obtain⟨z,rfl,f,q⟩:=h;obtain⟨u,rfl,t,rfl⟩:=lA r;have g:=jH;exact len_str Ae ⟨.int z.length,H,I.tok _,Au,q⟩
theorem Jcv:gA X G4 (λxs H Q=>∃p f,xs=Fj/\((SqL X.K H p f/\∀l,H l=No->Q BS (upd H l (.tup f)))\/(SqT X.K H p f/\Q Dz H))):=by
 intro Y s Z H xs y Q I r h;obtain⟨p,f,rfl,h⟩:=h;obtain⟨u,rfl,v⟩:=lA r;cases v;rcases h with⟨i,q⟩|⟨i,q⟩
 ·obtain⟨its,g,pl,m⟩:=I.list i;have j:=XZ;refine call_tuple_list Yb (λh' n=>?_) (by simp only[Zn]<;>lia);have I1:Inv X Y Z H {s with heap:=h'}:=I.kept (t':=W7) n;have w:Inv X Y Z (upd H Cs (.tup f)) {s with heap:=h'.push {cls:=.type "tuple",data:=.seq Ap}}:=
   I1.laid (t':=W7) (λb o e=>Zd _ e) (Zj _) (show ObjOk Xa X.w _ _ _ (.tup f)from⟨⟨m,nJ⟩,its,g,IsTup.new _ _⟩)
  exact⟨.ref Cs,_,w,rfl,q _ EY⟩
 ·obtain⟨its,g,pl,m⟩:=I.tuple i;exact call_tuple_same pl ⟨.ref p,H,I,rfl,q⟩
def tyV(K:Ai)(T:A5)(x:V)(H:Hp):Prop:=match x with
 |.str _=>T="str"
 |.int _=>T="int"
 |.ref p=>(T="list"/\∃xs,SqL K H p xs)\/(T="tuple"/\∃o,K.lookup p=So o/\o.cls=.type "tuple"/\o.dict=No)\/
   (T="dict"/\((∃kvs,H p=So Bh)\/∃kvs,H p=So BL))\/(T="set"/\∃S n,H p=So (.set S n))\/(T="list"/\∃t xs,H p=So aS)
 |_=>False
def Jvm{Y:AQ}{Z:St}{H:Hp}{s:Ak}{T:A5}{x:V}{v:An}(I:AG)(r:RelV x v)(ty:tyV X.K T x H):
  s.TypeIs v T/\∀a,v=.ref a->∃m,s.heap.get? a=So m/\m.dict=No:=by
 cases x with
 |str z=>obtain⟨t,rfl⟩:=r;cases(show T="str" from ty);exact⟨typeIs_str s z t,λ_ e=>nomatch e⟩
 |int i=>obtain⟨t,rfl⟩:=r;cases(show T="int" from ty);exact⟨iG s i t,λ_ e=>nomatch e⟩
 |ref p=>
  cases r;rcases ty with⟨rfl,xs,u⟩|⟨rfl,o,f,q,j⟩|⟨rfl,f⟩|⟨rfl,S,n,f⟩|⟨rfl,t,xs,f⟩
  ·obtain⟨l,_,pl,_⟩:=I.list u;refine⟨QcU,λa e=>?_⟩;cases e;obtain⟨o,n,e,c,j,_⟩:=pl;exact⟨o,e,j⟩
  ·refine⟨⟨o,I.kIn p o f,q⟩,λa e=>?_⟩;cases e;exact⟨o,I.kIn _ o f,j⟩
  ·have z:∃o,s.heap.get? p=So o/\o.ExactDict:=by
    rcases f with⟨h,f⟩|⟨h,f⟩
    ·obtain⟨_,_,_,_,o,_,_,e,ex,_⟩:=I.hok p _ f;exact⟨o,e,ex⟩
    ·obtain⟨_,_,_,_,o,_,_,e,ex,_⟩:=I.hok p _ f;exact⟨o,e,ex⟩
   obtain⟨o,e,ex⟩:=z;refine⟨⟨o,e,ex.1⟩,λa g=>?_⟩;cases g;exact⟨o,e,ex.2.1⟩
  ·obtain⟨o,_,_,_,e,ex,_⟩:=I.hok p _ f;refine⟨⟨o,e,ex.1⟩,λa g=>?_⟩;cases g;exact⟨o,e,ex.2.1⟩
  ·obtain⟨_,l,n,_,e⟩:=I.hok p _ f;refine⟨CD,λa g=>?_⟩;cases g;exact CD
 |_=>exact False.elim ty
def tBM(K:Ai)(T:A5)(r:IM)(f:TE)(t:TA):TE:=λZ H Q=>f Z H λx e=>tyV K T x e/\t Z e λxs g=>r x xs g Q
variable{o e:Expr}{es:C6}{to:TE}{t:TA}{name:Str}{apos cpos:Pos}{T id:A5}{r:IM}
def iM(u:PlainAttrs T)(g:Slot T name id)(i:QO)(E:MtR X id r)(w:PE X o to)(y:GN)
  (f:'в' (attributeBase o name WU LS=eval o WU) Al)
  (hfew:'в' (((backTo cpos (starEach Fi WU)).all (λx=>!x.1)&&(backToKw cpos MI).all (λx=>x.1.isSome)
   &&decide ((e::es).length+([]:List Keyword).length+(if([]:List Keyword).isEmpty then 0 else 1)<30))=To) Al)
  (hline:'в' (GK=To) Al) (hs:Dx) (hplain:'в' ((backTo cpos KF).any (·.1)=Fo) Al):
  PE X (.Call Py Fi [] cpos) (tBM X.K T r to t):=by intro Y s Z H Q I h;refine wpAny_Call_method_late f hfew hline rfl (thn (w Y s Z H _ I h) λv z j=>?_);obtain⟨x,J,l,m,ty,B⟩:=j;obtain⟨A,L⟩:=Jvm l m ty;refine⟨T,id,u,g,i,A,L,?_⟩;have n:=y cpos Y z Z J _ l B;rw[hs]at n⊢;refine Calls.callWith_builtin (by show(Fo||(backTo cpos KF).any (·.1))=Fo;rw[hplain]<;>rfl) (lT ?_);exact thn n λq G⟨O,C,N,M,F⟩=>E Y G Z C x O v q Q N m M F
end
def MtM(X:Cx)(id:A5)(r:IM):Prop:=
 ∀(Y:AQ)(s:Ak)(Z:St)(H:Hp)(x:V)(xs:AA)(v:An)(a:Az)(Q:VK),Inv X Y Z H s->RelV x v->Vals xs a->r x xs H Q->
  wpAny Ay X.A (call DH (v::a)) B3 X.xe s
def Vals.one:∀{x:V}{us:Az},Vals [x] us->∃u,us=[u]/\RelV x u
 |_,_,.cons r .nil=>⟨_,rfl,r⟩
theorem Vals.eraseIdx:∀{xs:AA}{us:Az}(i:Nat),Vals xs us->Vals (xs.eraseIdx i) (us.eraseIdx i)
 |_,_,_,.nil=>.nil
 |_,_,0,.cons _ t=>t
 |_,_,i+1,.cons r t=>.cons r (Vals.eraseIdx i t)
theorem Vals.rep{us:Az}(h:Qbd):∀k:Nat,Vals 'Ο'.flatten (List.replicate k us).flatten
 |0=>.nil
 |k+1=>by
  rw[kF,kF,vI,vI]
  exact Vals.append h (Vals.rep h k)
theorem JgM:∀(l:List α)(i:Nat),(l.eraseIdx i).length<=Xn
 |[],_=>Zj _
 |_::_,0=>iC _
 |_::r,i+1=>Nat.succ_le_succ (JgM r i)
theorem Jgm(its:Az):∀(k:Nat)(acc:Az),
  List.foldl (λb f=>b++f) acc.toArray (List.replicate k Ap)=(acc++(List.replicate k its).flatten).toArray
 |0,acc=>by simp
 |k+1,acc=>by
  have e:acc.toArray++Ap=(acc++its).toArray:=by simp
  have a:(acc++its)++(List.replicate k its).flatten=acc++(List.replicate AV its).flatten:=by
   rw[kF,vI,fC]
  rw[<-a,<-Jgm its k (acc++its),<-e,kF,iI]
section
variable{Y:AQ}{Z:St}{H:Hp}{s:Ak}{l b:Addr}{ys zs:AA}
def Inv.lset{its its':Az}{n:Nat}{f:Array Value->Array Value}{t':Nat}(I:AG)(g:H l=So By)
  (e:s.heap.get? l=So {cls:=.type "list",data:=.seq Ap n}) (hf:f Ap=its'.toArray) (hv:Vals ys its') (hz:BD<=sizeLine):
  Inv X Y Z (upd H l Ir) {s with heap:=s.heap.update l Qcc,toks:=t'}:=by have q:=PySem.IsL.update e f;rw[hf]at q;refine I.write (x:=l) (e:=l) (by rw[g];exact trivial) Bd (λh u hb a=>(ZG W6 Qcc E4).trans a) ⟨_,q⟩ ?_;exact⟨hz,its',_,hv,q⟩
def Inv.lnew{its:Az}{t':Nat}(I:AG)(a:Vals ys its)(hz:BD<=sizeLine):
  Inv X Y Z (upd H Aa Ir) {s with heap:=s.heap.push {cls:=.type "list",data:=.seq Ap},toks:=t'}:=
 I.laid Mh (Zj _) ⟨hz,its,0,a,Zi _ rfl⟩
def Inv.fresh(I:AG):H Aa=No:=I.hok.fresh (Zj _)
def Inv.lstM(I:AG)(a:H l=So By):Ac<=sizeLine/\∃(its:Az)(n:Nat),Vals xs its/\xs.length=AU/\s.heap.get? l=So {cls:=.type "list",data:=.seq Ap n}:=by obtain⟨z,its,n,r,e⟩:=I.hok l _ a;exact⟨z,its,n,r,Xv,e⟩
def JpT{n:Nat}(h:n<=sizeLine):Builtin.List.listTooLong n=Fo:=by unfold Builtin.List.listTooLong;exact Zt Ae
end
def rAppend:V->List V->Hp->VK->Prop:=λx a H Q=>∃l xs y,x=.ref l/\a=[y]/\H l=So By/\xs.length<sizeLine/\Q .non (upd H l (.lst (xs++[y])))
theorem Joh:MtM X "list.append" rAppend:=by intro Y s Z H x w v j Q I f i h;obtain⟨l,xs,y,rfl,rfl,b,o,q⟩:=h;cases f;obtain⟨u,rfl,g⟩:=i.one;obtain⟨z,a,n,r,m,e⟩:=I.lstM b;refine sA Qbu CD QaD S2 (PySem.list_append l a.toArray n u (by rw[Zn];lia)) ⟨e,?_⟩;refine⟨.non,_,I.lset (its':=a++[u]) b e Af (r.append (.cons g .nil)) ?_,rfl,q⟩;rw[Zy,oO];lia
def rPopAt:V->List V->Hp->VK->Prop:=λx a H Q=>∃l xs i k y,x=.ref l/\a=bP/\H l=So By/\ -(2^63)<=i/\i<2^63/\seqIndex? i Ac=So k/\xs[k]? =So y/\Q y Ug
theorem Jou:MtM X "list.pop" rPopAt:=by
 intro Y s Z H x J v G Q I j E h;obtain⟨l,xs,i,k,y,rfl,rfl,b,m,B,f,g,q⟩:=h;cases j;obtain⟨u,rfl,C⟩:=E.one;obtain⟨t,rfl⟩:=C;obtain⟨z,its,n,r,A,e⟩:=I.lstM b;obtain⟨w,o,a⟩:=r.get g;refine sA F.slot_list_pop CD F.entry_list_pop (F.args_list_pop_2 _ _)
  (MeetsSeq.list_pop_at l Ap n i t k w (fitsIndex_both m B) (by rw[Zn,<-A];exact f) (by rw[<-yG];exact o) (by rw[Zn];lia)) ⟨e,?_⟩
 refine⟨y,_,I.lset (its':=its.eraseIdx k) b e ?_ (r.eraseIdx k) ?_,a,q⟩
 ·show its.toArray.eraseIdxIfInBounds k=(its.eraseIdx k).toArray;rw[List.eraseIdxIfInBounds_toArray]
 ·have:=JgM xs k;lia
def JmL(xs:List α)(k:Nat):'Ο'.flatten.length=k*Ac:=by
 induction k with
 |zero=>simp
 |succ k a=>rw[kF,vI,Zy,a,Nat.succ_mul,Nat.add_comm]
end L2
namespace Att
open PySem PySem.W PySem.Calls PyProof.Rows
def JdG{P:Params}{h:Heap}:∀(ns:Be)(vs:Az),WellAll P h vs (ns.map WData.int)->IntsAre vs ns:=by
 intro ns;induction ns with
 |nil=>intro vs w;rw[vD]at w;cases w;exact .nil
 |cons n ns e=>
  intro vs w;rw[Zg]at w;cases w with
  |cons a b=>cases a;exact .cons _ _ (e _ b)
theorem JnV{l:OpenLaw}{n:Nat}(C:l.most=So n){P:Params}{h:Heap}{args:List WData}{b:Az}
  (e:l.row.toRowW.claim.pre args=To) (m:WellAll P h b args):
  ∃a vs ns,b=Ln/\args=[WData.list (ns.map WData.int)]/\h.get? a=So {cls:=.type "list",data:=.seq CB}/\IntsAre vs ns/\ns.length<=n:=by
 have o:WShape.hasAll [] args [.list .int]=To:=(pre_splitW e).1;have s:l.pre.holds [] {args:=args}=To:=(pre_splitW e).2;obtain⟨d,r,rfl,v,B⟩:=hasAllW_cons o;obtain rfl:=hasAllW_nil B;obtain⟨E,rfl,A⟩:=hasW_list v;obtain⟨ns,rfl⟩:=items_int A;have g:AK<=n:=by
  unfold OpenLaw.pre at s;have j:(WTm.not (.lt (.lit (.int (n:Int))) (.len (.arg 0)))).holds [] {args:=[.list LM]}=To:=by have j:=(holds_andW s).1;rw[C]at j;exact j
  have i:=condW_of j (w_not (w_lt w_lit (w_len_list (w_arg rfl))));rw[Ze]at i;refine Nat.le_of_not_lt λq=>?_;have y:(n:Int)<((AK:Nat):Int):=by lia
  first
   |(rw[Zs y]at i;exact absurd i (by decide))
   |(simp at i;lia)
 cases m with
 |cons w z=>
  cases z;cases w with
  |list u f=>exact⟨_,_,ns,rfl,rfl,u,JdG ns _ f,g⟩
def Job(l:OpenLaw)(args:List WData):l.row.toRowW.claim.post args EF args=To:=
 postW_of (r:=bL) (X:=(To==To))
  (show WShape.has [] EF .bool=To by first|rfl|decide|simp[WShape.has,WShape.arms,WShape.armsAll])
  (show(WTm.eq .res (.lit EF)).value [] {args:=args,res:=So EF,after:=args}=So (.bool (To==To))from w_eq_bool (w_res rfl) w_lit) rfl
def JhC{l:OpenLaw}{n:Nat}{q:Bk}{loose:Ad}{J:(Str->Option Value)->Heap->Prop}{L:World->Heap->Prop}{d:DefRec}
  (hn:l.most=So n) (z:d.params.defaults=[])
  (U:∀(w:AY)(e b:Ak)(mg mb:BY)(s:Addr)(o:Obj)(B v h:An)(a:Addr)(vs:Az)(ns:Be),
   Ground q loose [] J w e mg mb b.heap->L w b.heap->
   b.heap.get? s=So o->Ym=.func (docDef d.name YL XO d.scope B v h)->b.heap.CodeRec v d.name->mg d.name=So (.ref s)->
   b.heap.get? a=So {cls:=.type "list",data:=.seq CB}->IntsAre vs ns->AK<=n->b.gens=#[]->
   codeAny (model Yp w) callerA (.call (.ref s) QN) (λr u=>r=.ok (.ret EF)/\OldK b.heap u.heap/\u.os=b.os/\AllBare u.gens) b):
  WalkO q loose J L bL d [] Tf:=by intro w e b mg mb G Z s o B v h dV kV M O y F C P H E as j I N A hlo;obtain rfl:dV=.none:=Dflts.none F z;obtain rfl:kV=.none:=Dflts.noKw F;obtain⟨a,vs,ns,rfl,rfl,m,g,i⟩:=JnV hn j A;refine enter_call (dG (U w e b mg mb s o B v h a vs ns G Z M (fd_plain O) y C m g i P) λr u hq=>?_);obtain⟨rfl,X,W,Y⟩:=hq;exact⟨.inl ⟨.bool To,.bool To,[],rfl,λ_=>rfl,.bool To,Job l _,λ_=>⟨Qb7,λ_ hm=>(nomatch hm)⟩⟩,X,W,Y⟩
end Att
namespace L2
open PySem PySem.Spec PyProof.Rows
variable{H W:Hp}{X:Cx}{a:Addr}{w:AY}{u:An}{P:Bk}{y:V}{s:Ak}{kvs:WZ}{A:BX}{Y:AQ}{Z:St}{E Q:AZ}{K:Ai}{x:Str}{o:bO}{xs:WX}{pos:Pos}
theorem Jgp:∀{vs:Az}{ns:Be},IntsAre vs ns->Vals Qb vs
 |_,_,.nil=>.nil
 |_,_,.cons n t h=>.cons ⟨t,rfl⟩ (Jgp h)
def Only(H:Hp):Prop:=∀b,H b=No\/∃o xs,H b=So (.frz o By)
def Jqb{mg mb:BY}{CX:CXT}{k:Nat}{fa:Addr}{fd:B2}{sp:Sp}{f:Ak}{vs:Az}{ns:Be}
  (KX:K.In Qb8) (L:f.heap.Ns mainGlobals mg) (i:f.heap.Ns builtinsNs mb) (hbb:∀x:Str,x≠"__name__"->mb x=bootBuiltins x) (U:f.heap.NoLimit) (hg:f.gens=#[])
  (ha:f.heap.get? a=So {cls:=.type "list",data:=.seq CB}) (hi:IntsAre vs ns) (hl:AK<=sizeLine) (hr:Room k callerA)
  (F:∀l:Heap,K.In l->l.Ns mainGlobals mg->FnOk P w K mg l CX k fa fd [x] sp) (hbind:∀(s:Ak)(u:An),BindsTo s fd ⟨[u],[]⟩ [(x,u)])
  (hsp:∀H:Hp,Only H->SqL K H a (ns.map V.int)->sp B9 H (λv _=>v=.bl To) λ_ _ _=>False)
  (hCX:∀H e j,CX [] H f Ri e j->False):
  codeAny Bv callerA OW (λr j=>r=.ok (.ret EF)/\OldK Qb8 j.heap/\j.os=f.os/\AllBare j.gens) f:=by
 have rv:=Jgp hi;have lenV:=hi.length;have C:∀H:Hp,Only H->SqL K H a (ns.map V.int)->HOk P w H f.heap->(∀b,H b≠No->b=a)->(H a≠No->K.lookup a=No)->
   codeAny Bv callerA OW (λr j=>r=.ok (.ret EF)/\OldK Qb8 j.heap/\j.os=f.os/\AllBare j.gens) f:=by
  intro H hO hS O hA hK;have g:∀{b:Addr}{o:Obj},f.heap.get? b=So o->H b=No->'Ȯ'.get? b=So o:=λe n=>Jpf e n;have noA:∀{b:Addr}{o:Obj}{N:LY}{G:Nat},f.heap.get? b=So o->Ym=.dict N G->H b=No:=fun{b o N G}e d=>by
   cases q:H b with
   |none=>rfl
   |some u=>have e':b=a:=hA b (by rw[q];simp);subst e';rw[ha]at e;cases e;have d':Data.seq CB _=Data.dict N G:=d;cases d'
  have B:∀{b:Addr}{m:BY},f.heap.Ns b m->'Ȯ'.Ns b m:=fun{b m}⟨o,N,G,e,d,r⟩=>⟨o,N,G,g e (noA e d),d,r⟩;have J:K.In 'Ȯ':=λb o e=>g (KX b o e) (by
   cases q:H b with
   |none=>rfl
   |some u=>
    have e':b=a:=hA b (by rw[q];simp);subst e';rw[hK (by rw[q];simp)]at e;cases e)
  have hM:Mod K mg 'Ȯ':=⟨J,B L,⟨mb,B i,hbb⟩,let⟨mc,h1,h2⟩:=U;⟨mc,B h1,h2⟩⟩;have e0:Env0 P w K mg 'Ȯ' callerA [] f H:=⟨rfl,hM,λb o e=>Jtm e,Nat.le_of_eq (JmJ _ _),trivial,λb i=>absurd (show b∈([]:List Addr)from i) Af,O,.of_eq hg⟩;refine dG ((F _ J (B L)).run callerA [] f H QN B9 B9 _ _ hr e0 (hbind f Aw) QaW (hsp H hO hS)) λr j h=>?_;cases r with
  |error e=>exact(hCX H e j h).elim
  |ok fl=>
   cases fl with
   |next=>exact False.elim h
   |brk=>exact False.elim h
   |cont=>exact False.elim h
   |ret u=>
    obtain⟨v,W,os,bare,un,I,r',q⟩:=h;have q':v=.bl To:=q;subst q';obtain rfl:u=Value.bool To:=r';refine⟨rfl,OldK.of_keep λb o e=>?_,os,bare⟩;cases q:H b with
    |none=>exact un.keep b o e q (by intro z;exact absurd (show b∈([]:List Addr)from z) Af) Af
    |some u=>
     rcases hO b with z|⟨ob,xs,z⟩
     ·rw[q]at z;cases z
     ·have z2:=un.frzs b ob _ z;obtain⟨e1,_⟩:=O b _ z;obtain⟨e2,_⟩:=I b _ z2;rw[e]at e1;cases e1;exact e2
 cases hk:K.lookup a with
 |some o=>have e:=KX a o hk;rw[ha]at e;cases e;refine C Qdg (λ_=>.inl rfl) (.inr ⟨_,CB,_,hk,rfl,rfl,rfl,by rw[Zn,lenV];exact hl,by simpa using rv⟩) (λb u z=>by have M:(No:Option HO)=So u:=z;cases M) (λb z=>absurd rfl z) λz=>absurd rfl z
 |none=>
  refine C (λb=>if b=a then So (.frz {cls:=.type "list",data:=.seq CB} (.lst Qb))else No) (λb=>?_) (.inl (.inr ⟨{cls:=.type "list",data:=.seq CB},if_pos rfl⟩)) (λb u z=>?_) (λb z=>?_) λ_=>hk
  ·by_cases i:b=a
   ·exact .inr ⟨_,_,if_pos i⟩
   ·exact .inl (if_neg i)
  ·by_cases i:b=a
   ·have M:=(if_pos i).symm.trans z;cases M;subst i;exact⟨ha,by rw[Ze];exact hl,vs,_,rv,ha⟩
   ·have M:=(if_neg i).symm.trans z;cases M
  ·by_cases i:b=a
   ·exact i
   ·exact absurd (if_neg i) z
def JrW{l:QdZ}{n k:Nat}{q:Bk}{loose:Ad}{XP:(Str->Option Value)->Heap->Prop}{U:World->Heap->Prop}{d:DefRec}{K:Params->PySem.W.Frag}{CX:World->CXT}{sp:World->Sp}
  (hn:l.most=So n) (C:n<=sizeLine) (z:d.params.defaults=[]) (hr:Room k callerA)
  (hY:∀(w:AY)(h:Heap),U w h->'ʎ'.In h)
  (F:∀(w:AY)(mg:BY)(r:Addr)(h:Heap),'ʎ'.In h->h.Ns mainGlobals mg->mg d.name=So (.ref r)->
   ∃L:FuncData,(∀(s:Ak)(u:An),BindsTo s L ⟨[u],[]⟩ [(x,u)])/\
    ∀b:Heap,'ʎ'.In b->b.Ns mainGlobals mg->FnOk Yp w 'ʎ' mg b (CX w) k r L [x] (sp w))
  (M:∀(w:AY)(H:Hp)(a:Addr)(ns:Be),AK<=n->Only H->SqL 'ʎ' H a (ns.map V.int)->sp w B9 H (λv _=>v=.bl To) λ_ _ _=>False)
  (I:∀(w:AY)(H:Hp)(s:Ak)(e:An)(B:Ak),CX w [] H s Ri e B->False):
  PySem.W.WalkO q loose XP U bL d [] Tf:=by refine Att.JhC hn z λw N m mg mb r o pm cd doc a vs ns G Y9 ho hd hcd J j i g hg=>?_;have O:=hY w _ Y9;obtain⟨L,hb,hF⟩:=F w mg r _ O G.T.g J;exact Jqb O G.T.g G.T.b G.T.builtins G.T.nolimit hg j i (ZM g C) hr hF hb (λH hO hS=>M w H a ns g hO hS) λH e B=>I w H m e B
noncomputable def qH (s:Stmt) (j:Nat):Stmt:=match s with
 |.ClassDef _ _ _ b _ _ _ _ _ _ _=>b.getD j OC
 |_=>.Pass ⟨0,0,0,0⟩
noncomputable def qE (s:Stmt):Arguments:=match s with
 |.FunctionDef _ a _ _ _ _ _ _ _ _=>a
 |_=>{posonlyargs:=[],args:=[],vararg:=No,kwonlyargs:=[],kw_defaults:=[],kwarg:=No,defaults:=[]}
noncomputable def Jx (s:Stmt):List Stmt:=match s with
 |.FunctionDef _ _ b _ _ _ _ _ _ _=>b
 |_=>[]
noncomputable def Jf (s:Stmt):Scope:=match s with
 |.FunctionDef _ _ _ _ _ _ b _ _ _=>b
 |_=>{kind:=.function,names:=[],isGenerator:=Fo,isCoroutine:=Fo}
inductive Fune(K:Ai)(x qual:Str)(st:Stmt)(f:Addr)(fd:B2):Prop where
 |mk (oc:Value) (od:Option Addr) (kV doc pm:Value) (an:Option Addr) (cdv ct:Value) (osl:Array (Option Value)) (h:fd=PySem.W.fnOf x qual (qE st) (Jx st) (Jf st) .none kV doc pm an cdv ct/\K.lookup f=So ⟨oc,od,.func fd,osl⟩/\PySem.W.codeIn K cdv qual=To):Fune K x qual st f fd
structure Fun(K:Ai)(x qual:Str)(st:Stmt)(f:Addr)(fd:B2):Prop where
 ex:Fune K x qual st f fd
 kp:PySem.W.keepIn K Bc=To
section
variable{mg:BY}{base:Heap}
def Fun.binds{qual:Str}{st:Stmt}{f:Addr}{fd:B2}{ps:Ad}(F:GC)
  (h:∀(kV doc pm:An)(an:CF)(cdv ct:An)(us:Az),Qds=Aj->bindArgs QY KS=pure K8):Binds K fd ps []:=by obtain⟨i,g,kV,doc,pm,an,cdv,ct,e,rfl,j,b⟩:=F.ex;exact .all (h kV doc pm an cdv ct)
def JqN{qual:Str}{st:Stmt}{f:Addr}{e:An}{g an:CF}{b:CY}{kV doc pm cdv ct:An}(l:K.lookup f=So ⟨e,g,.func QY,b⟩)
  (c:PySem.W.codeIn K cdv qual=To) (k:PySem.W.keepIn K Bc=To):Fun K x qual st f QY:=⟨⟨e,g,kV,doc,pm,an,cdv,ct,b,rfl,l,c⟩,k⟩
end
def iteF{A B:Prop}(h:B):if Fo=To then A else B:=by rw[if_neg ZH];exact h
def iteT{A B:Prop}(h:A):if To=To then A else B:=by rw[if_pos rfl];exact h
def Same(H W:Hp):Prop:=∀b o,H b=So o->W b=So o
def Same.refl(H:Hp):Same H H:=λ_ _ h=>h
def Same.trans{e f:Hp}(a:Same H e)(b:Same e f):Same H f:=λc o h=>b c o (a c o h)
def Same.free(e:CS){l:Addr}(h:W l=Option.none):H l=Option.none:=by
 cases q:H l with
 |none=>rfl
 |some o=>rw[e l o q]at h;cases h
def Same.seq{xs:AA}(e:CS)(h:bF):SqL K W a xs:=by
 rcases h with(h|⟨o,h⟩)|h
 ·exact .inl (.inl (e _ _ h))
 ·exact .inl (.inr ⟨o,e _ _ h⟩)
 ·exact .inr h
section
variable{κ:Type}[DecidableEq κ]
noncomputable def valV (kvs:Cg) (k:κ):Option V:=(kvs.find? λb=>decide (b.1=k)).map (·.2)
noncomputable def putK (kvs:Cg) (k:κ) (v:V):List (κ×V):=
 if(kvs.any λb=>decide (b.1=k))=To then kvs.map (λb=>if b.1=k then(b.1,v)else b)else kvs++[(k,v)]
def oR{p:κ×V}{r:Cg}{k:κ}(e:p.1=k):valV (p::r) k=So p.2:=by simp[valV,eE,e]
def iR{p:κ×V}{r:Cg}{k:κ}(e:¬p.1=k):valV (p::r) k=valV r k:=by simp[valV,eE,e]
theorem kR(k:κ):∀kvs:List (κ×V),(kvs.any λb=>decide (b.1=k))='乶'.isSome
 |[]=>rfl
 |p::r=>by
  rw[rB]
  by_cases e:p.1=k
  ·simp only[oR e,Zs e,zF,Option.isSome_some]
  ·rw[iR e,Zt e,jC];exact kR k r
theorem Jdy(kvs:Cg)(k:κ)(v:V):'ư'.length<=Bb+1:=by
 unfold putK;split
 ·rw[Ze];lia
 ·rw[Zy,Zl,jD];lia
def RelO.isSome_eq{u:bE}(r:RelO o u):o.isSome=u.isSome:=by
 cases o with
 |none=>cases u with
  |none=>rfl
  |some _=>exact(show False from r).elim
 |some _=>cases u with
  |none=>exact(show False from r).elim
  |some _=>rfl
def KV.val{kvs:Cg}{vs:CK}(r:Fv)(k:κ):RelO '乶' (valueAt vs k):=by
 unfold KV at r;induction r with
 |nil=>exact iA
 |@cons p q m g h t l=>
  obtain⟨i,j⟩:=h;by_cases e:p.1=k
  ·have f:q.1=k:=i.symm.trans e;have b:valueAt (q::g) k=So q.2:=by simp[valueAt,eE,f]
   rw[oR e,b];exact j
  ·have f:¬q.1=k:=λz=>e (i.trans z);have b:valueAt (q::g) k=valueAt g k:=by simp[valueAt,eE,f]
   rw[iR e,b];exact l
def KV.any{kvs:Cg}{vs:CK}(r:Fv)(k:κ):(kvs.any λb=>decide (b.1=k))=vs.any λb=>decide (b.1=k):=by
 unfold KV at r;induction r with
 |nil=>rfl
 |cons h t e=>rw[rB,rB,e,h.1]
def KV.repl{kvs:Cg}{vs:CK}(r:Fv)(k:κ)(g:Dy):
  KV (kvs.map λb=>if b.1=k then(b.1,y)else b) (vs.map λb=>if b.1=k then(b.1,u)else b):=by
 unfold KV at r⊢;induction r with
 |nil=>exact .nil
 |@cons p q l m h t j=>
  rw[Zg,Zg];refine .cons ?_ j;obtain⟨f,i⟩:=h;by_cases e:p.1=k
  ·rw[if_pos e,if_pos (f.symm.trans e)];exact⟨f,g⟩
  ·rw[if_neg e,if_neg (λz=>e (f.trans z))];exact⟨f,i⟩
def KV.put{kvs:Cg}{vs:CK}(r:Fv)(k:κ)(b:Dy):KV Qcd (stored vs k u):=by
 unfold putK stored;rw[r.any k];by_cases e:(vs.any λf=>decide (f.1=k))=To
 ·rw[if_pos e,if_pos e];exact r.repl k b
 ·rw[if_neg e,if_neg e];exact Paired.snoc r ⟨rfl,b⟩
def KV.keys{kvs:Cg}{vs:CK}(r:Fv):kvs.map (·.1)=vs.map (·.1):=by
 unfold KV at r;induction r with
 |nil=>rfl
 |cons h t b=>rw[Zg,Zg,b,h.1]
def KV.length{kvs:Cg}{vs:CK}(r:Fv):Bb=Bg:=pG r
end
def kM{k:Key}(r:RelV (kV k) u):'Њ'.is k u=To:=by
 cases k with
 |inl i=>obtain⟨t,e⟩:=(show∃t,u=Value.int i t from r);subst e;exact JhQ P w i t
 |inr x=>obtain⟨t,e⟩:=(show∃t,u=Value.str x t from r);subst e;exact JdD P w x t
 |non=>cases(show u=Xb from r);rfl
mutual
theorem Jxo{P:Bk}{w:AY}{H:Hp}{h:Heap}(ok:BP):∀(k:KTr Key){v:V}{u:An},KH H k v->RelV v u->KAt VI h k u
 |.a k,v,u,x,r=>by cases(show v=kV k from x);exact kM r
 |.t ks,v,u,⟨a,xs,e,h1,h2⟩,r=>by
  subst e
  cases(show u=Value.ref a from r)
  obtain⟨_,j,f,o,g,i,n,b⟩:=(show ObjOk P w H h a A4 from ok a _ h1)
  exact⟨a,o,_,n,rfl,g,i,b,by simpa using JqW ok ks h2 f⟩
theorem JqW{P:Bk}{w:AY}{H:Hp}{h:Heap}(ok:BP):∀(b:G1){xs:AA}{us:Az},KHs H b xs->Vals xs us->KAts VI h b us
 |[],_,_,x,r=>by cases x;cases r;rfl
 |k::b,_,_,⟨v,q,e,h1,h2⟩,r=>by
  subst e
  cases r with
  |cons g f=>exact⟨_,_,rfl,Jxo ok k h1 g,JqW ok b h2 f⟩
end
noncomputable abbrev KT (H:Hp):List (List DM×V)->List (List DM×Addr×Value)->Prop:=Paired λp q=>p.1=q.1/\KB H p.1 q.2.1/\RelV p.2 q.2.2
def KT.val(r:KZ)(k:QcA):RelO '乶' ('ұ'.map (·.2)):=by
 induction r with
 |nil=>exact iA
 |@cons p q m g h t l=>
  obtain⟨i,_,j⟩:=h;by_cases e:p.1=k
  ·have f:q.1=k:=i.symm.trans e;have b:atKey (q::g) k=So q.2:=by simp[atKey,eE,f]
   rw[oR e,b];exact j
  ·have f:¬q.1=k:=λz=>e (i.trans z);have b:atKey (q::g) k=atKey g k:=by simp[atKey,eE,f]
   rw[iR e,b];exact l
def KT.repl(r:KZ)(k:QcA)(j:Dy):
  KT H (kvs.map λf=>if f.1=k then(f.1,y)else f) (xs.map (putAt k u)):=by
 induction r with
 |nil=>exact .nil
 |@cons p q n m h t l=>
  rw[Zg,Zg];refine .cons ?_ l;obtain⟨b,g,i⟩:=h;unfold putAt;by_cases e:p.1=k
  ·rw[if_pos e,if_pos (b.symm.trans e)];exact⟨b,g,j⟩
  ·rw[if_neg e,if_neg (λz=>e (b.trans z))];exact⟨b,g,i⟩
def KT.put(r:KZ)(k:QcA){b:Addr}(g:KB H k b)(f:Dy):
  KT H Qcd (storedH xs k b u):=by
 have e:(kvs.any λh=>decide (h.1=k))='ұ'.isSome:=by rw[kR,(r.val k).isSome_eq,zO]
 unfold putK storedH;rw[e];by_cases q:'ұ'.isSome=To
 ·rw[if_pos q,if_pos q];exact r.repl k f
 ·rw[if_neg q,if_neg q];exact Paired.snoc r ⟨rfl,g,f⟩
def KT.keeps(r:KZ)(f:∀b e,H b=So (.tup e)->W b=So (.tup e)):KT W kvs xs:=
 Paired.mapP r λ_ _ z=>⟨z.1,z.2.1.keep f,z.2.2⟩
section
variable{h:Heap}
def Jvp{u:HO}(ok:BP)(e:Rd H a u):ObjOk P w H h a u:=e.ok ok
def xI{kvs:List (Key×V)}(ok:BP)(e:Rd H a Bh):Bb<=sizeLine/\(a==sysModules)=Fo/\∃b,KV kvs b/\h.DictOf VI a b:=
 show ObjOk P w H h a Bh from Jvp ok e
def JwI{kvs:List (Key×V)}(ok:BP)(e:H a=So Bh):Bb<=sizeLine/\(a==sysModules)=Fo/\∃b,KV kvs b/\h.DictOf VI a b:=xI ok Qc1
def key_of{b:G1}(ok:BP)(e:KB H b a):'Ϻ'.is h b a:=⟨Jxo ok _ e.1 rfl,e.2⟩
def gH(ok:BP)(e:Rd H a BL):Bb<=sizeLine/\(a==sysModules)=Fo/\
  ∃xs,KT H kvs xs/\h.DictOfH 'Ϻ' a xs:=by
 obtain⟨z,y,xs,r,o,n,g,j,C,v,B,i⟩:=(show ObjOk P w H h a BL from Jvp ok e);refine⟨z,y,xs,r,o,n,g,j,C,v,B,λx b=>?_,i⟩;have all:∀{l:List (List (KTr Key)×V)}{m:List (List (KTr Key)×Addr×Value)},KT H l m->∀x∈m,'Ϻ'.is h x.1 x.2.1:=by
  intro l m q;induction q with
  |nil=>intro x b;exact nomatch b
  |@cons p q I G f t F=>
   intro x b;rcases Zf.mp b with e|b
   ·subst e;exact key_of ok (by rw[<-f.1];exact f.2.1)
   ·exact F x b
 exact all r x b
def Jvk(ok:BP)(e:H a=So BL):Bb<=sizeLine/\(a==sysModules)=Fo/\
  ∃xs,KT H kvs xs/\h.DictOfH 'Ϻ' a xs:=gH ok Qc1
end
theorem sP(b:A.units+60<cLine):'Ϻ'.room Xk:=show A.units+1+50<cLine by lia
def NoH(K:Ai)(H:Hp):Prop:=∀b o,K.lookup b=So o->H b=No
def Inv.noH(I:AG):NoH X.K H:=λb o e=>(I.bs b o (I.mod.kin b o e)).2
def DGet(K:Ai)(H:Hp)(a:Addr)(y:V)(r:bO):Prop:=
 (∃kvs k,Rd H a Bh/\y=kV k/\r=valV kvs k)\/∃kvs k b,Rd H a BL/\y=.ref b/\(NoH K H->KB H k b)/\r=valV kvs k
def DPut(K:Ai)(H:Hp)(a:Addr)(y v:V)(W:Hp):Prop:=
 (∃kvs k,H a=So Bh/\y=kV k/\kvs.length<sizeLine/\W=upd H a (.dK W4))\/
 ∃kvs k b,H a=So BL/\y=.ref b/\(NoH K H->KB H k b)/\kvs.length<sizeLine/\W=upd H a Qc3
def DPut.k{kvs:List (Key×V)}{k:Key}{v:V}(e:H a=So Bh)(b:Bb<sizeLine):DPut K H a (kV k) v (upd H a (.dK W4)):=.inl ⟨kvs,k,e,rfl,b,rfl⟩
def DPut.t{b:Addr}{k:G1}{v:V}(e:H a=So BL)(f:NoH K H->KB H k b)(g:Bb<sizeLine):
  DPut K H a CU v (upd H a Qc3):=.inr ⟨kvs,k,b,e,rfl,f,g,rfl⟩
section
variable{v:V}{r:An}
def Inv.big(I:AG):sysModules<Aa:=by have h:mainGlobals<Aa:=(I.mod.glob.keeps I.bk).lt;exact Nat.lt_trans AO h
def JnH(G:A.units+60<cLine)(I:AG)(g:DGet X.K H a y BO)(F:Dy)(h:∀j C,Inv X Y Z H C->RelV v j->Q j C):
  wpAny Ay A (getItem Aw u) Q E s:=by
 rcases g with⟨kvs,k,e,n,l⟩|⟨kvs,k,b,e,n,N,l⟩
 ·subst n;obtain⟨z,J,L,f,m⟩:=xI Xh e;obtain⟨j,q,i⟩:=RelO.some_of (v:=v) (o:=valueAt L k) (by rw[l];exact f.val k);exact wpAny_getItem_of (kM F) m.mapOf q (h j _ DC i)
 ·subst n;cases(show u=Value.ref b from F);obtain⟨z,J,xs,f,m⟩:=gH Xh e;obtain⟨j,q,i⟩:=RelO.some_of (v:=v) (o:='ұ'.map (·.2)) (by rw[l];exact f.val k);obtain⟨p,M,B⟩:=yD.mp q;refine wpAny_getItem_heap (sP G) (key_of Xh (N I.noH)) m M ?_;rw[B];exact h j _ DC i
def d_in(C:A.units+60<cLine)(I:AG)(g:Qf)(B:Dy)(h:∀n,Inv X Y Z H n->Q (.bool bU) n):
  wpAny Ay A (compareOp .In u Aw) Q E s:=by
 rcases g with⟨kvs,k,e,j,l⟩|⟨kvs,k,b,e,j,F,l⟩
 ·subst j;obtain⟨z,m,G,f,i⟩:=xI Xh e;refine wpAny_in_of (kM B) m i.mapOf ?_;rw[<-(f.val k).isSome_eq,<-l];exact h _ DC
 ·subst j;cases(show u=Value.ref b from B);obtain⟨z,m,xs,f,i⟩:=gH Xh e;refine wpAny_in_heap (sP C) Pw m i ?_;have q:=(f.val k).isSome_eq;rw[zO]at q;rw[<-q,<-l];exact h _ DC
def Jtn(C:A.units+60<cLine)(I:AG)(g:Qf)(B:Dy)(h:∀n,Inv X Y Z H n->Q (.bool (!o.isSome)) n):
  wpAny Ay A (compareOp .NotIn u Aw) Q E s:=by
 rcases g with⟨kvs,k,e,j,l⟩|⟨kvs,k,b,e,j,F,l⟩
 ·subst j;obtain⟨z,m,G,f,i⟩:=xI Xh e;refine wpAny_notIn_of (kM B) m i.mapOf ?_;rw[<-(f.val k).isSome_eq,<-l];exact h _ DC
 ·subst j;cases(show u=Value.ref b from B);obtain⟨z,m,xs,f,i⟩:=gH Xh e;refine wpAny_notIn_heap (sP C) Pw m i ?_;have q:=(f.val k).isSome_eq;rw[zO]at q;rw[<-q,<-l];exact h _ DC
def lW{h':Heap}{t':Nat}{f:HO}(I:AG)(h:Mut (H a))(i:Heap.SameBut a W6 h')(g:∃q,h'.get? a=So q)(new:ObjOk Xa X.w K7 h' a f):
  Inv X Y Z K7 {s with heap:=h',toks:=t'}:=
 I.write (x:=a) (e:=a) h Bd (λb q j z=>(i.2 b j).trans z) g new
def Jwq{h':Heap}{kvs:List (Key×V)}{vs:List (Key×Value)}(z:Bb<=sizeLine)(e:(a==sysModules)=Fo)(b:Fv)(dd:h'.DictOf VI a vs):
  ObjOk P w W h' a Bh:=⟨z,e,vs,b,dd⟩
theorem JnJ{Q:Do}(hu:A.units+60<cLine)(I:AG)(g:DPut X.K H a y v W)(U:Dy)(rv:RelV v r)(h:∀N,Inv X Y Z W N->Q () N):
  wpAny Ay A (setItem Aw u r) Q E s:=by
 rcases g with⟨kvs,k,e,C,l,G⟩|⟨kvs,k,b,e,C,O,l,G⟩
 ·subst C G;obtain⟨z,m,vs,f,B⟩:=JwI Xh e;have n:Bg<=sizeLine:=by rw[<-f.length];exact z
  have F:'ư'.length<=sizeLine:=by have:=Jdy kvs k v;lia
  refine wpAny_setItem_pairs (hsz:=n) (kM U) B λL i J=>h _ ?_;have he:∃q,L.get? a=So q:=let⟨q,_,_,j,_⟩:=i;⟨q,j⟩;exact lW I (by rw[e];exact iA) J he (Jwq F m (f.put k rv) i)
 ·subst C G;cases(show u=Value.ref b from U);obtain⟨z,m,xs,f,B⟩:=Jvk Xh e;have n:Ac<=sizeLine:=by rw[<-pG f];exact z
  have F:'ư'.length<=sizeLine:=by have:=Jdy kvs k v;lia
  refine wpAny_setItem_heap (hsz:=n) (sP hu) (key_of Xh (O I.noH)) B λL i J=>h _ ?_;obtain⟨q,es,ep,j,h2,h3,h4,_,h5⟩:=i;refine lW I (by rw[e];exact iA) J ⟨q,j⟩ ⟨F,m,_,(f.put k (O I.noH) rv).keeps λc ys M=>?_,q,es,ep,j,h2,h3,h4,h5⟩;rw[Je (tU M e (λz=>nomatch z))];exact M
end
section
variable{kvs:List (Key×V)}{k:Key}
theorem d_len(I:AG)(e:Rd H a Bh)(h:∀t f,Inv X Y Z H f->Q (.int Bb t) f):wpAny Ay A (call Et B9) Q E s:=by obtain⟨z,i,j,b,g⟩:=xI Xh e;refine call_len_dict i g (by rw[<-b.length];rw[ZK]at z;lia) ?_;rw[<-b.length];exact h _ _ DC
end
def NoSl(i:Expr):Prop:=∀b e,subscripted i Fo b e=operate [b,e] (getItem b e)
def JrI{prog:Bk}{O:Env}{e b:Expr}{T id:A5}
  (z:typeLookup ED "__getitem__"=pure (So DH)) (B:NoSl b)
  (h:wpAny As A b7 (λo l=>wpAny As A (eval b O) (λi f=>f.TypeIs o T/\wpAny As A Qdx Q E f) E l) E s):
  wpAny As A (eval (.Subscript e b pos) O) Q E s:=by
 refine Subscript_ (ZV h (λo l q=>ZV q (λi f g=>?_) λ_ _ x=>x) λ_ _ x=>x);obtain⟨v,g⟩:=g;unfold subscriptTail;refine Za ?_;rw[getitemInPython_of_ne v.not_modules];refine Za (nI v z ?_);have m:wpAny As A (subscripted b Fo o i) (λr j=>wpAny As A (letTemporaryGo e o r>>=λ_=>pure r) Q E j) E f:=by rw[B o i];exact wpAny_operating (ZV g (λr j n=>Za (wpAny_letTemporaryGo (Zb n))) λ_ _ x=>x)
 first
  |exact Zb (Za m)
  |exact Za (Zb (Za m))
  |exact Za m
def Jiq(I:AG)(g:Qf):s.TypeIs Aw "dict":=by
 rcases g with⟨kvs,k,e,_,_⟩|⟨kvs,k,b,e,_,_,_⟩
 ·obtain⟨_,_,h,_,f⟩:=xI Xh e;exact f.typeIs
 ·obtain⟨_,_,xs,_,f⟩:=gH Xh e;exact f.typeIs
def tDGet(K:Ai)(f ty:TE):TE:=λZ H Q=>f Z H λx e=>ty Z e λy b=>∃a v,x=.ref a/\DGet K b a y BO/\Q v b
def tDIn(K:Ai)(ty f:TE):TE:=λZ H Q=>ty Z H λy e=>f Z e λx b=>∃a o,x=.ref a/\DGet K b a y o/\Q (.bl bU) b
def JtQ(K:Ai)(ty f:TE):TE:=λZ H Q=>ty Z H λy e=>f Z e λx b=>∃a o,x=.ref a/\DGet K b a y o/\Q (.bl (!o.isSome)) b
def sDPut(K:Ai)(g ty e:TE):TS:=λD Z H=>e Z H λv f=>g Z f λx h=>ty Z h λy i=>∃a b,x=.ref a/\DPut K i a y v b/\D.nx Z b
section
variable{o i e value:Expr}{pos' tpos:Pos}{td ty tv:TE}
def JtG(z:X.A.units+60<cLine)(l:Y5)(hi:Y6)(L:NoSl i):PE X (.Subscript o i pos) (tDGet X.K td ty):=by intro Y s Z H Q I h;refine JrI PySem.F.slot_dict_getitem.lookup L (thn (l Y s Z H _ I h) λu n⟨x,J,m,q,B⟩=>thn (hi Y n Z J _ m B) λN O f=>?_);obtain⟨y,C,j,G,a,v,ex,g,F⟩:=f;subst ex;obtain rfl:u=Value.ref a:=q;exact⟨Jiq j g,JnH z j g G λU M r b=>⟨v,C,r,b,F⟩⟩
def JvS(r:X.A.units+60<cLine)(hi:Y6)(j:Y5):PC X .In i o (tDIn X.K ty td):=by intro Y s Z H Q I h;refine thn Np λL m⟨y,F,l,C,v⟩=>thn Qae λu M b=>?_;obtain⟨x,z,G,q,a,f,ex,g,B⟩:=b;subst ex;obtain rfl:u=Value.ref a:=q;exact d_in r G g C λJ n=>⟨.bl f.isSome,z,n,rfl,B⟩
def JkZ(r:X.A.units+60<cLine)(hi:Y6)(j:Y5):PC X .NotIn i o (JtQ X.K ty td):=by intro Y s Z H Q I h;refine thn Np λL m⟨y,F,l,C,v⟩=>thn Qae λu M b=>?_;obtain⟨x,z,G,q,a,f,ex,g,B⟩:=b;subst ex;obtain rfl:u=Value.ref a:=q;exact Jtn r G g C λJ n=>⟨.bl (!f.isSome),z,n,rfl,B⟩
def JmE(q:X.A.units+60<cLine)(f:Y5)(hi:Y6)(m:Hu)(U:swapsWith value (So (.Subscript o i pos')) Xi WU=pure Fo):
  PS X (.Assign [.Subscript o i pos'] value pos) (sDPut X.K td ty tv):=by intro Y s Z H D I h;refine wpAny_Assign_Subscript (thn (m Y s Z H _ I h) λr l⟨v,N,j,rv,F⟩=>thn (f Y l Z N _ j F) λu L⟨x,G,O,C,J⟩=>thn (hi Y L Z G _ O J) λiv s3⟨y,H3,n,M,a,B,ex,g,z⟩=>?_) U;subst ex;obtain rfl:u=Value.ref a:=C;exact JnJ q n g M rv λs4 b=>⟨Z,B,b,z⟩
end
def Jpj(h:Heap)(b:sysModules<BE):ObjOk P w H (h.push {cls:=.type "dict",data:=.dict #[]}) BE Qc4:=
 ⟨qA _,ZC.mpr QaX,[],.nil,Heap.DictOf.new h⟩
def JjS(h:Heap)(b:sysModules<BE):ObjOk P w H (h.push {cls:=.type "dict",data:=.dict #[]}) BE aD:=
 ⟨qA _,ZC.mpr QaX,[],.nil,_,#[],0,Zi _ rfl,Ma,rfl,rfl,YZ⟩
def tDNewK:TE:=λ_ H Q=>∀p,H p=No->Q Dz (upd H p Qc4)
def tDNewT:TE:=λ_ H Q=>∀p,H p=No->Q Dz (upd H p aD)
def JpI:PE X Qaf tDNewK:=λY s Z H Q I h=>
 wpAny_Dict_empty ⟨.ref Aa,_,I.laid (a:=Aa) (o:=.dK []) (t':=W7) Mh (Zj _) (Jpj W6 I.big),rfl,h _ Ft⟩
def Jjm:PE X Qaf tDNewT:=λY s Z H Q I h=>
 wpAny_Dict_empty ⟨.ref Aa,_,I.laid (a:=Aa) (o:=.dT []) (t':=W7) Mh (Zj _) Nm,rfl,h _ Ft⟩
structure M1(X:Cx)(o:Expr)(m:Str)(apos:Pos)(e:Expr)(cpos:Pos):Prop where
 base:attributeBase o m WU LS=eval o WU
 few:((backTo cpos Oh).all (λx=>!x.1)&&(backToKw cpos MI).all (λx=>x.1.isSome)
  &&decide (([e]:List Expr).length+([]:List Keyword).length+(if([]:List Keyword).isEmpty then 0 else 1)<30))=To
 line:GK=To
 trees:backTo cpos Oh=[SX]
structure M2(X:Cx)(o:Expr)(m:Str)(apos:Pos)(e f:Expr)(cpos:Pos):Prop where
 base:attributeBase o m WU LS=eval o WU
 few:((backTo cpos OV).all (λx=>!x.1)&&(backToKw cpos MI).all (λx=>x.1.isSome)
  &&decide (([e,f]:List Expr).length+([]:List Keyword).length+(if([]:List Keyword).isEmpty then 0 else 1)<30))=To
 line:GK=To
 trees:backTo cpos OV=[SX,(Fo,eval f WU)]
end L2
namespace Pu
open PySem
variable{α β:Type}{E:DL}{nt:Nat}
inductive D where
 | non | bl (b:Bool) | int (i:Int) | str (x:Str) | tup (ds:List D) | lst (ds:List D)
 | dct (t z:Bool) (ks vs:List D) | exc (c:Str) | fn (x:Str) (i:Nat)
 | obj (a:Nat) (ns:List Str) (fs:List D)
 | mls (t:Str) (ds:List D) | adr (b:Nat)
 deriving Inhabited
inductive Rs(α:Type)where
 |ok (a:α)|ex (c:Str)|sk
variable{P:D->Prop}
noncomputable def Rs.bind :Rs α->(α->Rs β)->Rs β
 |.ok a,f=>f a
 |.ex c,_=>.ex c
 |.sk,_=>.sk
noncomputable def Rs.calm :Rs α->Rs α
 |.ok a=>.ok a
 |.ex _=>.sk
 |.sk=>.sk
@[simp]def Rs.calm_ok(a:α):(Rs.ok a).calm=.ok a:=rfl
def Rs.Good(r:Rs α)(P:α->Prop)(E:DL):Prop:=
 match r with
 |.ok a=>P a
 |.ex c=>E c
 |.sk=>False
@[simp]def Rs.bo(a:α)(f:α->Rs β):(Rs.ok a).bind f=f a:=rfl
@[simp]def Rs.bind_ex(c:Str)(f:α->Rs β):(Rs.ex c:Rs α).bind f=.ex c:=rfl
@[simp]def Rs.bind_stuck(f:α->Rs β):(Rs.sk:Rs α).bind f=.sk:=rfl
def Rs.bind_assoc{b:Type}(r:Rs α)(f:α->Rs β)(g:β->Rs b):'ն'.bind g=r.bind λa=>(f a).bind g:=by cases r<;>rfl
def Rs.gB{r:Rs α}{f:α->Rs β}{P:β->Prop}:'ն'.Good P E↔r.Good (λa=>(f a).Good P E) E:=by cases r<;>rfl
def Rs.good_calm{r:Rs α}{P:α->Prop}{b:DL}(h:r.calm.Good P E):r.Good P b:=by
 cases r with
 |ok a=>exact h
 |ex c=>exact h.elim
 |sk=>exact h
def Rs.Good.mono{r:Rs α}{P e:α->Prop}{b:DL}(h:Gp)(g:∀a,P a->e a)(f:∀c,E c->b c):r.Good e b:=by
 cases r with
 |ok a=>exact g a h
 |ex c=>exact f c h
 |sk=>exact h
def Rs.Good.imp{r:Rs α}{P b:α->Prop}(h:Gp)(e:∀a,P a->b a):r.Good b E:=h.mono e λ_ x=>x
mutual
def D.eqv:D->D->Bool
 |.non,.non=>To
 |.bl a,.bl b=>a==b
 |.bl a,.int b=>(if a then 1 else 0)==b
 |.int a,.bl b=>a==(if b then 1 else 0)
 |.int a,.int b=>a==b
 |.str a,.str b=>a==b
 |.tup as,.tup bs=>eqvs as bs
 |.lst as,.lst bs=>eqvs as bs
 |_,_=>Fo
def eqvs:List D->List D->Bool
 |[],[]=>To
 |a::as,b::bs=>D.eqv a b&&eqvs as bs
 |_,_=>Fo
end
mutual
def D.imm:D->Bool
 |.non=>To
 |.bl _=>To
 |.int _=>To
 |.str _=>To
 |.exc _=>To
 |.fn _ _=>To
 |.tup J=>imms J
 |.lst _=>Fo
 |.dct _ z _ a=>z&&imms a
 |.obj _ _ _=>Fo
 |.mls _ _=>Fo
 |.adr _=>Fo
def imms:List D->Bool
 |[]=>To
 |d::J=>D.imm d&&imms J
end
mutual
def D.dep:D->Nat
 |.non=>0
 |.bl _=>0
 |.int _=>0
 |.str _=>0
 |.tup J=>deps J+1
 |.lst J=>deps J+1
 |.dct _ _ _ _=>1000
 |.exc _=>1000
 |.fn _ _=>1000
 |.obj _ _ _=>1000
 |.mls _ _=>1000
 |.adr _=>1000
def deps:List D->Nat
 |[]=>0
 |d::J=>max (D.dep d) (deps J)
end
mutual
theorem oM:∀d:D,aO<=900->d.eqv d=To
 |.non,_=>rfl
 |.bl b,_=>ZB b
 |.int i,_=>ZB i
 |.str x,_=>ZB x
 |.tup J,h=>oW J (yO h)
 |.lst J,h=>oW J (yO h)
 |.dct _ _ _ _,h=>by simp only[D.dep]at h;lia
 |.exc _,h=>by simp only[D.dep]at h;lia
 |.fn _ _,h=>by simp only[D.dep]at h;lia
 |.obj _ _ _,h=>by simp only[D.dep]at h;lia
 |.mls _ _,h=>by simp only[D.dep]at h;lia
 |.adr _,h=>by simp only[D.dep]at h;lia
theorem oW:∀J:List D,deps J<=900->eqvs J J=To
 |[],_=>rfl
 |d::J,h=>by rw[show eqvs (d::J) (d::J)=(d.eqv d&&eqvs J J)from rfl,oM d (ZM (Nat.le_max_left _ _) h),oW J (ZM (Nat.le_max_right _ _) h)];rfl
end
def eqv_S(x y:Str):(D.str x).eqv Gy=(x==y):=rfl
def Jrd(a b:D)(as bs:Ao):eqvs (a::as) (b::bs)=(a.eqv b&&eqvs as bs):=rfl
noncomputable def ixn (n:Nat) (i:Int):Option Nat:=if 0<=i then(if i<n then So i.toNat else No)else if -(n:Int)<=i then So (i+n).toNat else No
def atD  (xs:List α) (i:Int):Option α:=(ixn Ac i).bind λj=>xs[j]?
noncomputable def six (n d:Nat):Option Int->Nat
 |none=>d
 |some v=>if v<0 then(v+(n:Int)).toNat else min QcH n
def cutD  (xs:List α) (lo hi:BM):List α:=(xs.drop (six Ac 0 lo)).take (six Ac Ac hi-six Ac 0 lo)
noncomputable def lD:Nat:=16777216
noncomputable def Rs.ofOpt :Option α->Rs α
 |some a=>.ok a
 |none=>.sk
noncomputable def eM (x:Str):List D:=x.cps.toList.map λc=>.str ⟨#[c]⟩
def D.walk:D->Rs aE
 |.tup J=>.ok J
 |.lst J=>.ok J
 |.str x=>.ok (eM x)
 |_=>.sk
def D.truth:D->Rs Bool
 |.non=>.ok Fo
 |.bl b=>.ok b
 |.int i=>.ok (i !=0)
 |.str x=>if x.length<=lD then .ok ((Xj:Int)!=0)else .sk
 |.tup J=>.ok (!J.isEmpty)
 |.lst J=>.ok (!J.isEmpty)
 |_=>.sk
noncomputable def D.bound:D->Rs (Option Int)
 |.non=>.ok No
 |.int i=>.ok (So i)
 |_=>.sk
noncomputable def ltS (a b:Str):Bool:=decide (a.cps.toList<b.cps.toList)
def insS (x:Str):List Str->List Str
 |[]=>[x]
 |y::ys=>if x==y then y::ys else if ltS x y then x::y::ys else y::insS x ys
def jA:List Str->List Str
 |[]=>[]
 |x::xs=>insS x (jA xs)
noncomputable def mkS (l:AX):Str:=⟨l.toArray⟩
noncomputable def rD:List D->Option IF
 |[]=>So []
 |.str x::J=>(rD J).map (x::·)
 |_::_=>No
inductive O1 where
 |neg|not|isN|notN|notT|len|all|any|tuple|list|sset|lset|truth|isStr|isTup|isInt|isBool|range|enum|ints|asI|rows|asT|dictP|strI|dLen|dKeys|fld (f:Str)
inductive O2 where
 |add|sub|mul|fdiv|mod|eq|ne|lt|le|gt|ge|isin|notin|idx|zip|rep|repT|repU|dIn (t:Bool)|dNi (t:Bool)|dGet (t:Bool)|indexT|strt|dGz (t:Bool)
noncomputable def smallI (i:Int):Bool:=decide (-(2^64)<i)&&decide (i<2^64)
noncomputable def midI (i:Int):Bool:=decide (-(2^62)<=i)&&decide (i<2^62)
noncomputable def Jw (a:D):Bool:=decide (a.dep<=20)
noncomputable def upTo (lo:Int) (n:Nat):List D:='Ջ'.map fun(k:Nat)=>D.int (lo+(k:Int))
noncomputable def Jl (k:Nat):List D->List D
 |[]=>[]
 |d::J=>.tup [.int k,d]::Jl AV J
noncomputable def zipD:List D->List D->List D
 |a::as,b::bs=>.tup [a,b]::zipD as bs
 |_,_=>[]
noncomputable def xA:List D->Option (List Bool)
 |[]=>So []
 |.bl b::J=>(xA J).map (b::·)
 |_::_=>No
noncomputable def digs (cs:AX):Nat:=cs.foldl (λacc c=>acc*10+(c-48)) 0
noncomputable def JvY (c:Nat):Bool:=decide (48<=c)&&decide (c<=57)
noncomputable def mE (kp:D->Bool):List D->Option (List D×List D)
 |[]=>So ([],[])
 |d::J=>match d with
  |.tup [k,v]=>if kp k then(mE kp J).map λp=>(k::p.1,v::p.2)else No
  |_=>No
noncomputable def keyN:D->Bool
 |.str _=>To
 |.non=>To
 |_=>Fo
noncomputable abbrev Jwv:List D->Option (List D×List D):=mE keyN
noncomputable def banD (x:Str):Bool:=x==oS "any"||x==oS "number"||x==oS "one"||x==oS "rest"||x==oS "word"||x==oS ":"||x==oS "#"||x==oS "*"
noncomputable def keyB:D->Bool
 |.int _=>To
 |.str _=>To
 |.non=>To
 |_=>Fo
noncomputable def keyI:D->Bool
 |.int _=>To
 |_=>Fo
def keyS:D->Bool
 |.str x=>!banD x
 |_=>Fo
def banC:D->Nat
 |.str x=>if banD x then 1 else 0
 |_=>0
mutual
def fA:D->Bool
 |.int _=>To
 |.str _=>To
 |.non=>To
 |.tup J=>decide ('Ҳ'.sum<=1)&&fB J
 |_=>Fo
def fB:List D->Bool
 |[]=>To
 |d::J=>fA d&&fB J
end
def keyD (t:Bool):D->Bool
 |.tup J=>t&&(J.all keyI||J.all keyS||(fA Bt&&decide (deps J<=7)))
 |d=>!t&&keyB d
noncomputable def yA (k:D):List D->List D->Option D
 |a::ks,v::vs=>if a.eqv k then So v else yA k ks vs
 |_,_=>No
noncomputable def setD (k v:D):List D->List D->List D
 |a::ks,u::vs=>(if a.eqv k then v else u)::setD k v ks vs
 |_,vs=>vs
def putD (k v:D) (b vs:Ao):List D×List D:=if b.any λa=>a.eqv k then(b,setD k v b vs)else(b++[k],vs++[v])
noncomputable def idxD (x:D):List D->Option Nat
 |[]=>No
 |d::J=>if d.eqv x then So 0 else(idxD x J).map (·+1)
noncomputable def Jrg:List D->Option (List Int)
 |[]=>So []
 |.int i::J=>(Jrg J).map (i::·)
 |_::_=>No
def keysOf:List D->Option (List (List Int))
 |[]=>So []
 |.tup ks::J=>match Jrg ks,keysOf J with
  |some k,So r=>So (k::r)
  |_,_=>No
 |_::_=>No
noncomputable def yM (J:Ao):Rs D:=match Jwv J with
 |some (ks,vs)=>if ks.Pairwise (λa b=>a.eqv b=Fo)/\ks.length<=1000 then .ok (.dct Fo To ks vs)else .sk
 |none=>.sk
noncomputable def isiD (f:D->Bool):D->Rs D
 |.dct _ _ _ _=>.sk
 |.exc _=>.sk
 |.fn _ _=>.sk
 |.obj _ _ _=>.sk
 |.mls _ _=>.sk
 |.adr _=>.sk
 |d=>.ok (.bl (f d))
noncomputable def onII (a b:D) (k:Int->Int->Rs D):Rs D:=match a with
 |.int i=>match b with
  |.int j=>k i j
  |_=>.sk
 |_=>.sk
noncomputable def onSS (a b:D) (k:Str->Str->Rs D):Rs D:=match a with
 |.str i=>match b with
  |.str j=>k i j
  |_=>.sk
 |_=>.sk
def Jga{a b:D}{k:Str->Str->Rs D}(h:(onSS a b k).Good P E):∃i j,a=.str i/\b=.str j/\(k i j).Good P E:=by
 cases a<;>first|exact(show False from h).elim|skip
 cases b<;>first|exact(show False from h).elim|exact Qaz
noncomputable def onQ (a:D) (k:List D->Rs D):Rs D:=match a with
 |.tup J=>k J
 |.lst J=>k J
 |_=>.sk
def xX{a:D}{k:List D->Rs D}(h:(onQ a k).Good P E):∃J,(a=.tup J\/a=.lst J)/\(k J).Good P E:=by cases a<;>first|exact(show False from h).elim|exact⟨_,.inl rfl,h⟩|exact⟨_,.inr rfl,h⟩
noncomputable def onD (a:D) (k:Bool->List D->List D->Rs D):Rs D:=match a with
 |.dct t _ e b=>k t e b
 |_=>.sk
def JiP{a:D}{k:Bool->List D->List D->Rs D}(h:(onD a k).Good P E):∃t z e b,a=.dct t z e b/\(k t e b).Good P E:=by cases a<;>first|exact(show False from h).elim|exact⟨_,_,_,_,rfl,h⟩
def iK{a b:D}{k:Int->Int->Rs D}(h:(onII a b k).Good P E):∃i j,a=.int i/\b=.int j/\(k i j).Good P E:=by
 cases a<;>first|exact(show False from h).elim|skip
 cases b<;>first|exact(show False from h).elim|exact Qaz
def op1 (o:O1) (d:D):Rs D:=
 match o with
 |.neg=>match d with
  |.int i=>.ok (.int (-i))
  |_=>.sk
 |.not=>match d with
  |.bl b=>.ok (.bl !b)
  |_=>.sk
 |.isN=>match d with
  |.non=>.ok Cw
  |_=>.ok C7
 |.notN=>match d with
  |.non=>.ok C7
  |_=>.ok Cw
 |.notT=>match d with
  |.bl b=>.ok (.bl !b)
  |_=>.sk
 |.len=>match d with
  |.tup J=>.ok QaH
  |.lst J=>.ok QaH
  |.mls _ J=>.ok QaH
  |.str x=>if x.length<=lD then .ok (.int Xj)else .sk
  |_=>.sk
 |.all=>match d with
  |.lst J=>match xA J with
   |some bs=>.ok (.bl (bs.all id))
   |none=>.sk
  |_=>.sk
 |.any=>match d with
  |.lst J=>match xA J with
   |some bs=>.ok (.bl (bs.any id))
   |none=>.sk
  |_=>.sk
 |.tuple=>match d with
  |.tup J=>.ok Bt
  |.lst J=>.ok Bt
  |_=>.sk
 |.list=>match d with
  |.tup J=>.ok A2
  |.lst J=>.ok A2
  |_=>.sk
 |.sset=>match d with
  |.lst J=>match rD J with
   |some a=>if a.length<60 then .ok (.lst ((jA a).map .str))else .sk
   |none=>.sk
  |_=>.sk
 |.lset=>match d with
  |.lst J=>match rD J with
   |some a=>if a.length<60 then .ok (.int (jA a).length)else .sk
   |none=>.sk
  |_=>.sk
 |.truth=>d.truth.bind λb=>.ok Cp
 |.isStr=>isiD (λd=>match d with
   |.str _=>To
   |_=>Fo) d
 |.isTup=>isiD (λd=>match d with
   |.tup _=>To
   |_=>Fo) d
 |.isInt=>isiD (λd=>match d with
   |.int _=>To
   |.bl _=>To
   |_=>Fo) d
 |.isBool=>isiD (λd=>match d with
   |.bl _=>To
   |_=>Fo) d
 |.range=>match d with
  |.int i=>if midI i then .ok (.lst (upTo 0 i.toNat))else .sk
  |_=>.sk
 |.enum=>onQ d λJ=>.ok (.lst (Jl 0 J))
 |.ints=>match d with
  |.str x=>if x.cps.toList.all JvY&&decide (x.cps.toList≠[])&&decide (x.cps.toList.length<=640)then .ok (.int (digs Xx))else .sk
  |.bl b=>.ok (.int (if b then 1 else 0))
  |_=>.sk
 |.asI=>match d with
  |.int i=>.ok AS
  |_=>.sk
 |.rows=>match d with
  |.tup J=>.ok Bt
  |.lst J=>.ok A2
  |_=>.sk
 |.asT=>match d with
  |.tup J=>.ok Bt
  |_=>.sk
 |.dKeys=>match d with
  |.dct To _ ks _=>.ok (.lst ks)
  |_=>.sk
 |.fld f=>match d with
  |.obj _ e fs=>match(e.zip fs).lookup f with
   |some v=>.ok v
   |none=>.sk
  |_=>.sk
 |.dLen=>match d with
  |.dct _ _ ks _=>.ok (.int BJ)
  |_=>.sk
 |.dictP=>match d with
  |.tup J=>yM J
  |.lst J=>yM J
  |_=>.sk
 |.strI=>match d with
  |.str x=>if x.length<=1000 then .ok (.str x)else .sk
  |.int i=>if i.natAbs<2^64 then .ok (.str (toString i:A5))else .sk
  |_=>.sk
noncomputable def repS (x:Str) (k:Int):Str:=⟨(List.replicate Ye x.cps).foldl (·++·) #[]⟩
noncomputable def JlF (x:Str) (c:Nat):Bool:=decide (c∈x.cps.toList)
def op2 (o:O2) (a b:D):Rs D:=
 match o with
 |.add=>match a,b with
  |.int i,.int j=>.ok (.int (i+j))
  |.str x,.str y=>if x.length+y.length<=lD then .ok (.str (x++y))else .sk
  |.tup xs,.tup ys=>if Ac+BD<=lD then .ok (.tup (xs++ys))else .sk
  |.lst xs,.lst ys=>if Ac+BD<=lD then .ok (.lst (xs++ys))else .sk
  |_,_=>.sk
 |.sub=>onII a b λi j=>.ok (.int (i-j))
 |.mul=>match a,b with
  |.int i,.int j=>if smallI i||smallI j then .ok (.int (i*j))else .sk
  |.str x,.int k=>if 2<=k/\k<=1000/\1<=Xj/\x.length<=1000 then .ok (.str (repS x k))else .sk
  |_,_=>.sk
 |.fdiv=>onII a b λi j=>if 0<j/\j<1073741824 then .ok (.int (i / j))else .sk
 |.mod=>onII a b λi j=>if 0<j then .ok (.int (i % j))else .sk
 |.eq=>if Jw a&&Jw b then .ok (.bl (a.eqv b))else .sk
 |.ne=>if Jw a&&Jw b then .ok (.bl (!a.eqv b))else .sk
 |.lt=>match a with
  |.int i=>match b with
   |.int j=>.ok (.bl (decide (i<j)))
   |_=>.sk
  |.str x=>match b with
   |.str y=>.ok (.bl (ltS x y))
   |_=>.sk
  |_=>.sk
 |.le=>onII a b λi j=>.ok (.bl (decide (i<=j)))
 |.gt=>onII a b λi j=>.ok (.bl (decide (j<i)))
 |.ge=>onII a b λi j=>.ok (.bl (decide (j<=i)))
 |.isin=>match a,b with
  |.str x,.str y=>if x.cps=#[x.cps.getD 0 0]then .ok (.bl (JlF y QaY))else .sk
  |a,.tup J=>if Jw Bt&&Jw a then .ok (.bl OU)else .sk
  |a,.lst J=>if Jw A2&&Jw a then .ok (.bl OU)else .sk
  |_,_=>.sk
 |.notin=>match a,b with
  |.str x,.str y=>if x.cps=#[x.cps.getD 0 0]then .ok (.bl (!JlF y QaY))else .sk
  |a,.tup J=>if Jw Bt&&Jw a then .ok (.bl (!J.any λd=>d.eqv a))else .sk
  |a,.lst J=>if Jw A2&&Jw a then .ok (.bl (!J.any λd=>d.eqv a))else .sk
  |_,_=>.sk
 |.idx=>match a,b with
  |.tup J,.int i=>Rs.ofOpt (atD J i)
  |.lst J,.int i=>Rs.ofOpt (atD J i)
  |.str x,.int i=>if x.length<=lD then Rs.ofOpt ((atD Xx i).map λc=>.str ⟨#[c]⟩)else .sk
  |_,_=>.sk
 |.zip=>onQ a λxs=>onQ b λys=>.ok (.lst '乷')
 |.rep=>match a,b with
  |.lst J,.int k=>if midI k&&decide (Ab*k.toNat<=lD)then .ok (.lst 'ɪ'.flatten)else .sk
  |_,_=>.sk
 |.repT=>match a,b with
  |.tup J,.int k=>if decide (2<=k)&&decide (J≠[])&&decide (Ab*k.toNat<=lD)then .ok (.tup 'ɪ'.flatten)else .sk
  |_,_=>.sk
 |.repU=>match a,b with
  |.tup J,.int k=>if decide (0<=k)&&decide (J≠[])&&decide (Ab*k.toNat<=lD)then .ok (.tup 'ɪ'.flatten)else .sk
  |_,_=>.sk
 |.dIn e=>onD b λt f _=>if t=e/\keyD t a=To then .ok (.bl (f.any λd=>d.eqv a))else .sk
 |.dNi e=>onD b λt f _=>if t=e/\keyD t a=To then .ok (.bl (!f.any λd=>d.eqv a))else .sk
 |.dGet e=>onD a λt f g=>if t=e/\keyD t b=To then Rs.ofOpt (yA b f g)else .sk
 |.dGz e=>onD a λt f g=>if t=e/\keyD t b=To then .ok ((yA b f g).getD aF)else .sk
 |.indexT=>match a,b with
  |.tup J,x=>if Jw Bt&&Jw x&&decide (Ab<=1000)then Rs.ofOpt ((idxD x J).map λn=>.int n)else .sk
  |_,_=>.sk
 |.strt=>onSS a b λx y=>.ok (.bl (decide (0+y.length<=Xj)&&(x.cps.extract 0 (0+y.length)==y.cps)))
inductive Px where
 |var (i:Nat)|con (d:D)|un (o:O1) (a:Px)|bi (o:O2) (a b:Px)|and (a b:Px)|or (a b:Px)|ite (c a b:Px)|nil|cons (a as:Px)|tup (as:Px)|dis (as:Px)|call (f:Nat) (as:Px)|sl (a lo hi:Px)|walk (a:Px)|comp (nt:Nat) (src c e:Px)
 deriving Inhabited
noncomputable def usesP:Px->Nat->Bool
 |.var j,i=>j==i
 |.con _,_=>Fo
 |.un _ a,i=>usesP a i
 |.bi _ a b,i=>usesP a i||usesP b i
 |.and a b,i=>usesP a i||usesP b i
 |.or a b,i=>usesP a i||usesP b i
 |.ite c a b,i=>usesP c i||usesP a i||usesP b i
 |.nil,_=>Fo
 |.cons a b,i=>usesP a i||usesP b i
 |.tup a,i=>usesP a i
 |.dis a,i=>usesP a i
 |.call _ a,i=>usesP a i
 |.sl a b c,i=>usesP a i||usesP b i||usesP c i
 |.walk a,i=>usesP a i
 |.comp nt s c e,i=>usesP s i||usesP c (i+(if nt=0 then 1 else nt))||usesP e (i+(if nt=0 then 1 else nt))
def sepP (M:AX) (p:Px):Bool:=M.all λi=>!usesP p i
mutual
def D.noL:D->Bool
 |.lst _=>Fo
 |.tup J=>noLs J
 |.dct _ _ _ a=>noLs a
 |.obj _ _ fs=>noLs fs
 |.mls _ J=>noLs J
 |_=>To
def noLs:List D->Bool
 |[]=>To
 |d::J=>D.noL d&&noLs J
end
noncomputable def noLI:Option (Option D)->Bool
 |some (So d)=>d.noL
 |_=>To
noncomputable abbrev Fm:=List (Option D)
variable{O:Fm}
noncomputable def vU:List D->Rs Fm
 |[x,.tup [y,z]]=>.ok N3
 |_=>.sk
def Jv (nt:Nat) (d:D):Rs Fm:=
 if nt=0 then .ok [So d]else match d with
  |.tup J=>if nt=5 then vU J else if Ab=nt then .ok (J.map So)else .sk
  |_=>.sk
def pX{J:Ao}{r:Rs Fm}(h:vU J=r):r=.sk\/∃x y z,J=[x,.tup [y,z]]/\r=.ok N3:=by
 unfold vU at h;split at h
 ·exact .inr ⟨_,_,_,rfl,h.symm⟩
 ·exact .inl h.symm
def rJ{d:D}{c:Str}(h:Jv nt d=.ex c):False:=by
 unfold Jv at h;split at h
 ·cases h
 ·split at h
  ·split at h
   ·rcases pX h with z|⟨_,_,_,_,z⟩<;>cases z
   ·split at h<;>cases h
  ·cases h
def JO (nt:Nat) (c e:Fm->Rs D) (O:Fm):List D->Rs aE
 |[]=>.ok []
 |d::J=>'ԓ'.bind λa=>(c (a++O)).calm.bind λb=>match b with
  |.bl To=>(e (a++O)).bind λy=>(JO nt c e O J).bind λf=>.ok (y::f)
  |.bl Fo=>JO nt c e O J
  |_=>.sk
noncomputable abbrev CallD:=Nat->List D->Rs D
noncomputable def D.asL:D->Rs aE
 |.lst J=>.ok J
 |_=>.sk
def evD (U:Ag):Px->Fm->Rs D
 |.var i,O=>match O[i]? with
  |some (So d)=>.ok d
  |_=>.sk
 |.con d,_=>.ok d
 |.un o a,O=>'ũ'.bind (op1 o)
 |.bi o a b,O=>'ũ'.bind λx=>(evD U b O).bind λy=>op2 o x y
 |.and a b,O=>'ũ'.bind λx=>match x with
  |.bl To=>evD U b O
  |.bl Fo=>.ok C7
  |_=>.sk
 |.or a b,O=>'ũ'.bind λx=>match x with
  |.bl To=>.ok Cw
  |.bl Fo=>evD U b O
  |_=>.sk
 |.ite c a b,O=>'ԉ'.bind λx=>match x with
  |.bl To=>evD U a O
  |.bl Fo=>evD U b O
  |_=>.sk
 |.nil,_=>.ok GH
 |.cons a as,O=>'ũ'.bind λx=>'ǎ'.bind λy=>y.asL.bind λJ=>.ok (.lst (x::J))
 |.tup as,O=>'ǎ'.bind λy=>y.asL.bind λJ=>if Ab<=lD then .ok Bt else .sk
 |.dis as,O=>'ǎ'.bind λy=>y.asL.bind λJ=>if Ab<=lD then .ok A2 else .sk
 |.call f as,O=>'ǎ'.bind λy=>y.asL.bind λJ=>U f J
 |.sl a lo hi,O=>'ũ'.bind λx=>(evD U lo O).bind λl=>l.bound.bind λl=>(evD U hi O).bind λh=>h.bound.bind λh=>match x with
  |.tup J=>.ok (.tup Li)
  |.lst J=>.ok (.lst Li)
  |.str x=>if x.length<=20000 then .ok (.str Tw)else .sk
  |_=>.sk
 |.walk a,O=>'ũ'.bind λx=>x.walk.bind λJ=>.ok A2
 |.comp nt src c e,O=>'Ё'.bind λs=>s.asL.bind λJ=>if Ab<=lD then(JO nt W0 'Ԕ' O J).bind λg=>.ok (.lst g)else .sk
inductive Sx where
 |skip|seq (a b:Sx)|set (m:Bool) (i:Nat) (e:Px)|own (i:Nat) (e:Px)|app (m:Bool) (i:Nat) (e:Px)|ext (m:Bool) (i:Nat) (e:Px)|eff (e:Px)|ret (e:Px)|ite (c:Px) (a b:Sx)|loop (m:Bool) (ts:List Nat) (nt:Nat) (src:Px) (body:Sx)|brk|cnt|raise (c:Str) (p:Px)|whl (n:Nat) (c:Px) (body:Sx)|put (m t:Bool) (i:Nat) (k v:Px)|ownD (t:Bool) (i:Nat)|retF (i:Nat)|tryK (e:Px) (ts:List Nat) (nt:Nat) (cs:List Str) (h:Sx)|popi (t i:Nat) (k:Px)|insi (i:Nat) (k v:Px)
 deriving Inhabited
inductive Fw where
 |nx|rt (d:D)|bk|ct
noncomputable def Jt:List Nat->List (Option D)->Fm->Fm
 |i::is,s::ss,O=>Jt is ss K6
 |_,_,O=>O
def forL (ts:AX) (nt:Nat) (body:Fm->Rs (Fw×Fm)):List D->Fm->Rs (Fw×Fm)
 |[],O=>.ok En
 |d::J,O=>'ԓ'.bind λa=>(body (Jt ts a O)).bind λr=>match r with
  |(.nx,env2)=>forL ts nt body J env2
  |(.ct,env2)=>forL ts nt body J env2
  |(.bk,env2)=>.ok Iz
  |(.rt d,env2)=>.ok (.rt d,env2)
noncomputable def whlL (c:Fm->Rs D) (body:Fm->Rs (Fw×Fm)):Nat->Fm->Rs (Fw×Fm)
 |0,_=>.sk
 |n+1,O=>(c O).bind λb=>match b with
  |.bl To=>(body O).bind λr=>match r with
   |(.nx,env2)=>whlL c body n env2
   |(.ct,env2)=>whlL c body n env2
   |(.bk,env2)=>.ok Iz
   |(.rt d,env2)=>.ok (.rt d,env2)
  |.bl Fo=>.ok En
  |_=>.sk
noncomputable def nF:D->Bool
 |.str x=>decide (Xj<=1000)&&x.cps.toList.all λc=>decide (c<256)
 |_=>Fo
def iE:D->Bool
 |.lst J=>J.all nF
 |_=>Fo
noncomputable def mutS:Sx->Bool
 |.seq a b=>mutS a||mutS b
 |.app _ _ _=>To
 |.ext _ _ _=>To
 |.ite _ a b=>mutS a||mutS b
 |.loop _ _ _ _ b=>mutS b
 |.whl _ _ b=>mutS b
 |.put _ _ _ _ _=>To
 |.popi _ _ _=>To
 |.insi _ _ _=>To
 |_=>Fo
noncomputable def JL (M:AX):Nat->Fm->Fm
 |_,[]=>[]
 |j,s::O=>(if j∈M then No else s)::JL M (j+1) O
def exD (U:Ag):Sx->Fm->Rs (Fw×Fm)
 |.skip,O=>.ok En
 |.seq a b,O=>(exD U a O).bind λr=>match r with
  |(.nx,env2)=>exD U b env2
  |r=>.ok r
 |.set m i e,O=>'Ơ'.bind λd=>if m&&!d.imm then .sk else .ok QcM
 |.own i e,O=>'Ơ'.bind λd=>match d with
  |.lst J=>if !imms J then .sk else .ok QcN
  |_=>.sk
 |.ownD t i,O=>.ok Um
 |.retF i,O=>match O[i]? with
  |some (So (.dct t Fo ks vs))=>.ok (.rt QH,O)
  |_=>.sk
 |.app m i e,O=>match O[i]? with
  |some (So (.lst J))=>'Ơ'.bind λd=>if(m&&!d.imm)||!decide (Ab<lD)then .sk else .ok Lv
  |_=>.sk
 |.ext m i e,O=>match O[i]? with
  |some (So (.lst J))=>'Ơ'.bind λy=>y.asL.bind λg=>if(m&&!imms g)||!decide (Ab+g.length<=lD)then .sk else .ok (.nx,O.set i (So (.lst (J++g))))
  |_=>.sk
 |.eff e,O=>'Ơ'.bind λ_=>.ok En
 |.ret e,O=>'Ơ'.bind λd=>.ok Io
 |.ite c a b,O=>'ԉ'.bind λx=>match x with
  |.bl To=>exD U a O
  |.bl Fo=>exD U b O
  |_=>.sk
 |.loop m ts nt src body,O=>'Ё'.bind λs=>s.asL.bind λJ=>if m&&(mutS body||!imms J)then .sk else forL ts nt EH J O
 |.brk,O=>.ok (.bk,O)
 |.cnt,O=>.ok (.ct,O)
 |.raise c p,O=>'ƴ'.bind λd=>if iE d then .ex c else .sk
 |.whl n c body,O=>whlL W0 EH n O
 |.put m t' i k v,O=>match O[i]? with
  |some (So (.dct t Fo ks vs))=>'ԋ'.bind λy=>'ɛ'.bind λx=>if(m&&!y.imm)||!(t==t')||!keyD t x||!decide (BJ<1000000)then .sk else .ok (.nx,O.set i (So (.dct t Fo (putD x y ks vs).1 (putD x y ks vs).2)))
  |_=>.sk
 |.tryK e ts nt cs h,O=>match evD U e O with
  |.ok d=>'ԓ'.bind λf=>.ok QdW
  |.ex c=>if cs.contains c then exD U h O else .sk
  |.sk=>.sk
 |.popi t i k,O=>match O[i]? with
  |some (So (.lst J))=>'ɛ'.bind λx=>match x with
   |.int n=>match ixn Ab n with
    |some j=>match J[j]? with
     |some d=>.ok (.nx,'ȓ'.set t Bj)
     |none=>.sk
    |none=>.sk
   |_=>.sk
  |_=>.sk
 |.insi i k v,O=>match O[i]? with
  |some (So (.lst J))=>'ɛ'.bind λx=>'ԋ'.bind λy=>match x with
   |.int n=>if midI n&&decide (Ab<1000)then .ok Q0 else .sk
   |_=>.sk
  |_=>.sk
theorem gK{M:AX}:∀(O:Fm)(j i:Nat),(JL M j O)[i]? =(O[i]?).map λs=>if j+i∈M then No else s
 |[],_,_=>by simp[JL]
 |s::O,j,0=>by simp[JL]
 |s::O,j,i+1=>by
  have:=gK (M:=M) O (j+1) i
  simp only[JL,jP,this]
  rw[show j+1+i=j+'Ë' by lia]
def JkQ{d:D}{new:Fm}(h:Jv nt d=.ok new):new.length=if nt=0 then 1 else nt:=by
 unfold Jv at h;split at h
 ·rename_i q;cases h;simp[q]
 ·rename_i q;split at h
  ·split at h
   ·rename_i e;subst e;rcases pX h with z|⟨_,_,_,_,z⟩
    ·cases z
    ·cases z;rfl
   ·split at h
    ·rename_i e;cases h;simp[q,e]
    ·cases h
  ·cases h
theorem JdX{c e h g:Fm->Rs D}{env':Fm}(f:∀a:Fm,Xe=(if nt=0 then 1 else nt)->c (a++O)=h (a++env'))(b:∀a:Fm,Xe=(if nt=0 then 1 else nt)->e (a++O)=g (a++env')):
  ∀J,JO nt c e O J=JO nt h g env' J
 |[]=>rfl
 |d::J=>by
  have l:=JdX f b J
  unfold JO
  cases j:Jv nt d with
  |ok a=>
   have i:=JkQ j
   simp only[Rs.bo,f a i,b a i,l]
  |ex x=>rfl
  |sk=>rfl
theorem Jlr(U:Ag):∀(p:Px)(O env':Fm),(∀i,usesP p i=To->O[i]? =env'[i]?)->evD U p O=evD U p env':=by
 intro p;induction p with
 |var j=>intro O env' h;simp only[evD,h j (by simp[usesP])]
 |con d=>intro O env' h;rfl
 |un o a g=>intro O env' h;simp only[evD,g O env' λi q=>h i '(']
 |bi o a b g l=>intro O env' h;simp only[evD,g O env' λi q=>h i '(',l O env' λi q=>h i W5]
 |and a b g l=>intro O env' h;simp only[evD,g O env' λi q=>h i '(',l O env' λi q=>h i W5]
 |or a b g l=>intro O env' h;simp only[evD,g O env' λi q=>h i '(',l O env' λi q=>h i W5]
 |ite c a b n g l=>intro O env' h;simp only[evD,n O env' λi q=>h i '(',g O env' λi q=>h i W5,l O env' λi q=>h i W5]
 |nil=>intro O env' h;rfl
 |cons a b g l=>intro O env' h;simp only[evD,g O env' λi q=>h i '(',l O env' λi q=>h i W5]
 |tup a g=>intro O env' h;simp only[evD,g O env' λi q=>h i '(']
 |dis a g=>intro O env' h;simp only[evD,g O env' λi q=>h i '(']
 |call f a g=>intro O env' h;simp only[evD,g O env' λi q=>h i '(']
 |sl a b c g l n=>intro O env' h;simp only[evD,g O env' λi q=>h i '(',l O env' λi q=>h i W5,n O env' λi q=>h i W5]
 |walk a g=>intro O env' h;simp only[evD,g O env' λi q=>h i '(']
 |comp nt s c e w n v=>
  intro O env' h;have app:∀(u:Px),(∀i,usesP u (i+(if nt=0 then 1 else nt))=To->O[i]? =env'[i]?)->∀m:Fm,Yj=(if nt=0 then 1 else nt)->∀i,usesP u i=To->(m++O)[i]? =(m++env')[i]?:=λu y m r i z=>by
   by_cases q:i<Yj
   ·rw[eF q,eF q]
   ·rw[fF 'c',fF 'c'];refine y _ ?_;rw[show i-m.length+(if nt=0 then 1 else nt)=i by lia];exact z
  simp only[evD,w O env' λi q=>h i '('];rw[show JO nt 'ʉ' 'Ԕ' O=JO nt 'ʉ' 'Ԕ' env' from funext λJ=>JdX (λm r=>n _ _ (app c Nl m r)) (λm r=>v _ _ (app e Nl m r)) J]
def Ju(U:Ag){M:AX}{p:Px}(O:Fm)(h:Cu):evD U p (JL M 0 O)=evD U p O:=by
 refine Jlr U p _ _ λi b=>?_;have e:i∉M:=λa=>by have:=ZZ.mp h i a;rw[b]at this;simp at this
 rw[gK];simp only[jI,if_neg e];cases O[i]? <;>rfl
noncomputable def Jb:Rs (Fw×Fm)->Rs D
 |.ok (.nx,_)=>.ok .non
 |.ok (.rt d,_)=>.ok d
 |.ok _=>.sk
 |.ex c=>.ex c
 |.sk=>.sk
structure DefD where
 slots:Nat
 params:Nat
 body:Sx
noncomputable def JE (n:Nat) (J:Ao):Fm:=J.map So++List.replicate (n-Ab) No
def runD (defs:DB):Nat->CallD
 |0=>λ_ _=>.sk
 |k+1=>λf J=>match defs[f]? with
  |some d=>if Ab=YL then Jb (exD BQ XO G2)else .sk
  |none=>.sk
def Rs.ofOpt_ex{o:Option α}{c:Str}:Rs.ofOpt o≠.ex c:=by cases o<;>simp[Rs.ofOpt]
noncomputable def yI:Px->Bool
 |.var _=>To
 |.con _=>To
 |_=>Fo
def pR(U:Ag){p:Px}(h:yI p=To):evD U p O=.sk\/∃d,evD U p O=.ok d:=by
 cases p with
 |var i=>
  simp only[evD];cases O[i]? with
  |none=>exact .inl rfl
  |some o=>cases o with
   |none=>exact .inl rfl
   |some d=>exact .inr ⟨d,rfl⟩
 |con d=>exact .inr ⟨d,rfl⟩
 |_=>cases h
def lH:Px->Bool
 |.nil=>To
 |.cons a p=>yI a&&lH p
 |_=>Fo
def xY(U:Ag){p:Px}:lH p=To->evD U p O=.sk\/∃J,evD U p O=.ok A2:=by
 induction p with
 |nil=>exactλ_=>.inr ⟨[],rfl⟩
 |cons a p _ e=>
  intro h;simp only[lH,Zc]at h;simp only[evD];rcases pR U (O:=O) h.1 with q|⟨d,q⟩
  ·rw[q];exact .inl rfl
  ·rcases e h.2 with b|⟨J,b⟩
   ·rw[q,b];exact .inl rfl
   ·rw[q,b];exact .inr ⟨d::J,rfl⟩
 |_=>exactλh=>Bool.noConfusion h
def JuO(a b:D)(c:Str):op2 .idx a b≠.ex c:=by intro h;cases a<;>first|(cases h;done)|(cases b<;>first|(cases h;done)|exact Rs.ofOpt_ex h|(simp only[op2]at h;split at h;exact Rs.ofOpt_ex h;cases h))
noncomputable def isIdx:O2->Bool
 |.idx=>To
 |_=>Fo
def noEx:Px->Bool
 |.tup a=>lH a
 |.bi o a b=>isIdx o&&(yI a&&yI b)
 |p=>yI p
def xQ(U:Ag)(p:Px)(O:Fm)(c:Str)(h:noEx p=To):evD U p O≠.ex c:=by
 have f:∀{p:Px},yI p=To->evD U p O≠.ex c:=λh e=>by rcases pR U (O:=O) h with q|⟨d,q⟩<;>(rw[q]at e;cases e)
 cases p with
 |tup a=>
  intro e;simp only[evD]at e;rcases xY U (O:=O) (show lH a=To from h)with q|⟨J,q⟩
  ·rw[q]at e;cases e
  ·rw[q]at e;simp only[Rs.bo,D.asL]at e;split at e<;>cases e
 |bi o a b=>
  simp only[noEx,Zc]at h;obtain⟨i,j,n⟩:=h;have m:o=.idx:=by cases o<;>first|rfl|cases i
  subst m;intro e;simp only[evD]at e;rcases pR U (O:=O) j with q|⟨d,q⟩
  ·rw[q]at e;cases e
  ·rw[q]at e;simp only[Rs.bo]at e;rcases pR U (O:=O) n with g|⟨l,g⟩
   ·rw[g]at e;cases e
   ·rw[g]at e;exact JuO d l c e
 |_=>exact f h
theorem yX(x:Str):∀(l:Ad)(w:Str),w∈insS x l↔w=x\/w∈l
 |[],w=>by simp[insS]
 |y::ys,w=>by
  unfold insS
  split
  ·next h=>
   have:x=y:=by simpa using h
   subst this
   simp
  ·split
   ·simp
   ·simp only[Zf,yX x ys w]
    constructor
    ·rintro(h|h|h)<;>simp[h]
    ·rintro(h|h|h)<;>simp[h]
theorem wH:∀(l:Ad)(w:Str),w∈jA l↔w∈l
 |[],w=>Iff.rfl
 |y::ys,w=>by
  unfold jA
  rw[yX,wH ys w]
  simp
def LtS(a b:Str):Prop:=a.cps.toList<b.cps.toList
def LtS.irrefl(a:Str):¬LtS a a:=List.lt_irrefl _
def LtS.trans{a b c:Str}(h:LtS a b)(h':LtS b c):LtS a c:=List.lt_trans h h'
def LtS.asymm{a b:Str}(h:LtS a b)(h':LtS b a):False:=LtS.irrefl a (h.trans h')
def LtS.total{a b:Str}(h:¬LtS a b)(f:a≠b):LtS b a:=by
 by_cases z:LtS b a
 ·exact z
 ·exfalso;apply f;have e:a.cps.toList=b.cps.toList:=List.le_antisymm (List.not_lt.mp z) (List.not_lt.mp h);cases a with
  |mk x=>cases b with
   |mk y=>have:x=y:=Array.toList_inj.mp e;rw[this]
theorem Jhm(x:Str):∀l:List Str,l.Pairwise LtS->(insS x l).Pairwise LtS
 |[],_=>by simp[insS]
 |y::ys,h=>by
  obtain⟨f,g⟩:=jF.mp h
  unfold insS
  split
  ·exact h
  ·next e=>
   have e:x≠y:=by simpa using e
   split
   ·next a=>
    have a:LtS x y:=vK (p:=Xx<y.cps.toList) a
    refine jF.mpr ⟨λz b=>?_,h⟩
    rcases Zf.mp b with rfl|b
    ·exact a
    ·exact a.trans (f z b)
   ·next a=>
    have a:¬LtS x y:=λz=>a (Zs (p:=Xx<y.cps.toList) z)
    refine jF.mpr ⟨λz b=>?_,Jhm x ys g⟩
    rcases(yX x ys z).mp b with rfl|b
    ·exact LtS.total a e
    ·exact f z b
theorem jS:∀l:List Str,(jA l).Pairwise LtS
 |[]=>Qb7
 |x::xs=>Jhm x _ (jS xs)
theorem JgP:∀a b:List Str,a.Pairwise LtS->b.Pairwise LtS->(∀k,k∈a↔k∈b)->a=b
 |[],[],_,_,_=>rfl
 |[],y::b,_,_,h=>by
  have:=(h y).mpr Af
  simp at this
 |x::a,[],_,_,h=>by
  have:=(h x).mp Af
  simp at this
 |x::a,y::b,hx,hy,h=>by
  obtain⟨i,m⟩:=jF.mp hx
  obtain⟨j,l⟩:=jF.mp hy
  have e:x=y:=by
   rcases Zf.mp ((h x).mp Af)with e|e
   ·exact e
   ·rcases Zf.mp ((h y).mpr Af)with g|g
    ·exact g.symm
    ·exact((j x e).asymm (i y g)).elim
  subst e;rw[JgP a b m l λk=>?_];constructor
  ·intro f
   rcases Zf.mp ((h k).mp (by simp[f]))with e|e
   ·subst e;exact((LtS.irrefl _) (i _ f)).elim
   ·exact e
  ·intro f
   rcases Zf.mp ((h k).mpr (by simp[f]))with e|e
   ·subst e;exact((LtS.irrefl _) (j _ f)).elim
   ·exact e
theorem Jlj:∀l:List Str,(jA l).length<=l.length:=by
 have ins:∀(x:Str)(l:Ad),(insS x l).length<=Xn+1:=by
  intro x l;induction l with
  |nil=>simp[insS]
  |cons y e b=>
   unfold insS;split
   ·simp
   ·split
    ·simp
    ·simp only[Zl];lia
 intro l;induction l with
 |nil=>simp[jA]
 |cons x a b=>unfold jA;have:=ins x (jA a);simp only[Zl];lia
def Jkw(l:Ad)(h:l.Pairwise LtS):l.Nodup:=h.imp fun{a b}z e=>by
 subst e
 exact LtS.irrefl _ z
mutual
def Jh:D->Bool
 |.non=>To
 |.bl _=>To
 |.int _=>To
 |.str _=>To
 |.exc _=>To
 |.fn _ _=>To
 |.adr _=>To
 |.tup J=>Jj J
 |.lst J=>Jj J
 |.dct _ z _ a=>z&&Jj a
 |.obj _ _ _=>Fo
 |.mls _ _=>Fo
def Jj:List D->Bool
 |[]=>To
 |d::J=>Jh d&&Jj J
end
noncomputable def plE:Fm->Bool
 |[]=>To
 |none::O=>plE O
 |some d::O=>Jh d&&plE O
theorem vQ:∀{O:Fm}{i:Nat}{d:D},plE O=To->O[i]? =So Bj->Jh d=To
 |[],_,_,_,h=>by simp at h
 |none::O,0,d,_,h=>by simp at h
 |some x::O,0,d,p,h=>by simp at h;subst h;simp only[plE,Zc]at p;exact p.1
 |none::O,i+1,d,p,h=>vQ (O:=O) (i:=i) p (by simpa using h)
 |some x::O,i+1,d,p,h=>by simp only[plE,Zc]at p;exact vQ (i:=i) p.2 (by simpa using h)
def Jmh{i j:Nat}{d:D}(p:plE J6=To)(h:O[j]? =So Bj)(n:j≠i):Jh d=To:=vQ p (by rw[Zu (Ne.symm n)];exact h)
inductive Rc where
 |ok (d st:D)|ex (c:Str) (st:D)|sk
def Rc.Good(r:Rc)(P:D->D->Prop)(E:Str->D->Prop):Prop:=match r with
 |.ok d a=>P d a
 |.ex c a=>E c a
 |.sk=>False
noncomputable abbrev CallB:=Nat->D->List D->Rc
inductive Rx where
 |ok (d:D) (env:Fm)|ex (c:Str) (env:Fm)|sk
def Rx.Good(r:Rx)(P:D->Fm->Prop)(E:ET):Prop:=match r with
 |.ok d O=>P d O
 |.ex c O=>E c O
 |.sk=>False
noncomputable def Rx.bind (r:Rx) (f:D->Fm->Rx):Rx:=match r with
 |.ok d O=>f d O
 |.ex c O=>.ex c O
 |.sk=>.sk
def Rx.gB{r:Rx}{f:D->Fm->Rx}{P:D->Fm->Prop}{E:ET}:'ն'.Good P E↔r.Good (λd O=>(f d O).Good P E) E:=by cases r<;>rfl
def Rx.Good.imp{r:Rx}{P b:D->Fm->Prop}{E a:ET}(h:Gp)(g:∀d e,P d e->b d e)(f:∀c e,E c e->a c e):r.Good b a:=by
 cases r with
 |ok d e=>exact g d e h
 |ex c e=>exact f c e h
 |sk=>exact h
inductive Bx where
 |pur (p:Px)|call (r:Bool) (f i:Nat) (ns:List Str) (as:Px)|bi (o:O2) (a b:Bx)|isN (a:Bx)|or (a b:Bx)|and (a b:Bx)
noncomputable def Rx.of (O:Fm):Rs D->Rx
 |.ok d=>.ok d O
 |.ex c=>.ex c O
 |.sk=>.sk
noncomputable def Rx.lay (r:Bool) (O:Fm) (i:Nat):Rc->Rx
 |.ok d a=>.ok d (O.set i (So a))
 |.ex c a=>if r then .ex c (O.set i (So a))else .sk
 |.sk=>.sk
def evB (U:Ag) (bc:A1):Bx->Fm->Rx
 |.pur p,O=>.of O 'ƴ'
 |.call r f i ns as,O=>match O[i]? with
  |some (So (.obj a ns' fs))=>if ns'=ns then match evD U as O with
   |.ok (.lst J)=>if plE (O.set i No)&&Jj J then .lay r O i (bc f CG J)else .sk
   |.ex c=>if r then .ex c O else .sk
   |_=>.sk else .sk
  |_=>.sk
 |.bi o a b,O=>'έ'.bind λx e=>(evB U bc b e).bind λy g=>if Jh x then .of g (op2 o x y)else .sk
 |.isN a,O=>'έ'.bind λx e=>.of e (op1 .isN x)
 |.or a b,O=>'έ'.bind λx e=>match x with
  |.bl To=>.ok Cw e
  |.bl Fo=>evB U bc b e
  |_=>.sk
 |.and a b,O=>'έ'.bind λx e=>match x with
  |.bl To=>evB U bc b e
  |.bl Fo=>.ok C7 e
  |_=>.sk
inductive Bs where
 |lift (p:Sx)|seq (a b:Bs)|ite (t:Bx) (a b:Bs)|eff (e:Bx)|set (i:Nat) (e:Bx)|ret (p:Px)|loop (ts:List Nat) (nt:Nat) (src:Px) (body:Bs)|setF (f:Str) (p:Px)|setD (f:Str)|augF (f:Str) (n:Int)|putF (f:Str) (k:Px) (v:Bx)|raise (c:Str) (p:Px)
inductive Rq where
 |ok (f:Fw) (env:Fm)|ex (c:Str) (env:Fm)|sk
def Rq.Good(r:Rq)(P:Fw->Fm->Prop)(E:ET):Prop:=match r with
 |.ok d O=>P d O
 |.ex c O=>E c O
 |.sk=>False
noncomputable def Rq.bind (r:Rq) (f:Fw->Fm->Rq):Rq:=match r with
 |.ok d O=>f d O
 |.ex c O=>.ex c O
 |.sk=>.sk
noncomputable def Rx.next (r:Rx) (f:D->Fm->Rq):Rq:=match r with
 |.ok d O=>f d O
 |.ex c O=>.ex c O
 |.sk=>.sk
def Rq.gB{r:Rq}{f:Fw->Fm->Rq}{P:Fw->Fm->Prop}{E:ET}:'ն'.Good P E↔r.Good (λd O=>(f d O).Good P E) E:=by cases r<;>rfl
def Rx.good_next{r:Rx}{f:D->Fm->Rq}{P:Fw->Fm->Prop}{E:ET}:(r.next f).Good P E↔r.Good (λd O=>(f d O).Good P E) E:=by cases r<;>rfl
def Rq.Good.imp{r:Rq}{P b:Fw->Fm->Prop}{E a:ET}(h:Gp)(g:∀d e,P d e->b d e)(f:∀c e,E c e->a c e):r.Good b a:=by
 cases r with
 |ok d e=>exact g d e h
 |ex c e=>exact f c e h
 |sk=>exact h
noncomputable def Juy (w:Bool):Rs (Fw×Fm)->Rq
 |.ok (.rt d,O)=>if w then .sk else .ok Qar O
 |.ok (f,O)=>.ok f O
 |_=>.sk
def forB (ts:AX) (nt:Nat) (body:Fm->Rq):List D->Fm->Rq
 |[],O=>.ok .nx O
 |d::J,O=>match Jv nt d with
  |.ok b=>(body (Jt ts b O)).bind λf a=>match f with
   |.nx=>forB ts nt body J a
   |.ct=>forB ts nt body J a
   |.bk=>.ok .nx a
   |.rt d=>.ok Qar a
  |_=>.sk
noncomputable def putN  (f:Str) (v:α):List Str->List α->List α
 |n::ns,x::xs=>if n=f then v::xs else x::putN f v ns xs
 |_,xs=>xs
noncomputable def mC:D->Bool
 |.dct _ _ _ a=>Jj a
 |.mls _ J=>Jj J
 |d=>Jh d
def chgF (f:Str) (d':D) (O:Fm):Rq:=match O with
 |some (.obj a ns fs)::env'=>if ns.contains f&&fs.all mC&&plE env'&&decide (AK<1000)then .ok .nx (So (.obj a ns Qag)::env')else .sk
 |_=>.sk
def chgD (f:Str) (x y:D) (O:Fm):Rq:=match O with
 |some (.obj a ns fs)::env'=>match(ns.zip fs).lookup f with
  |some (.dct To Fo ks vs)=>if plE env'&&Jj (putN f D.non ns fs)&&Jj vs&&decide (BJ<1000)then .ok .nx (So (.obj a ns (putN f (.dct To Fo (putD x y ks vs).1 (putD x y ks vs).2) ns fs))::env')else .sk
  |_=>.sk
 |_=>.sk
noncomputable def qU (f:Str) (O:Fm):Option D:=match O with
 |some (.obj _ ns fs)::_=>'Ԍ'.lookup f
 |_=>No
noncomputable def Rc.at (O:Fm):Rc->Rq
 |.ok d st=>.ok Qar (So st::O)
 |.ex c st=>.ex c (So st::O)
 |.sk=>.sk
def exO (w:Bool) (U:Ag) (bc:A1):Bs->Fm->Rq
 |.lift p,O=>Juy w (exD U p O)
 |.seq a b,O=>(exO w U bc a O).bind λf h=>match f with
  |.nx=>exO w U bc b h
  |f=>.ok f h
 |.ite t a b,O=>(evB U bc t O).next λx g=>match x with
  |.bl To=>exO w U bc a g
  |.bl Fo=>exO w U bc b g
  |_=>.sk
 |.eff e,O=>(evB U bc e O).next λ_ g=>.ok .nx g
 |.set i e,O=>(evB U bc e O).next λd g=>if Jh d then .ok .nx (g.set i Bj)else .sk
 |.ret p,O=>match evD U p O with
  |.ok d=>.ok Qar O
  |.ex c=>.ex c O
  |.sk=>.sk
 |.loop ts nt src body,O=>match evD U src O with
  |.ok (.lst J)=>if Jj J&&imms J then forB ts nt F3 J O else .sk
  |.ex c=>.ex c O
  |_=>.sk
 |.setF f p,O=>match evD U p O with
  |.ok d=>if Jh d then chgF f d O else .sk
  |_=>.sk
 |.setD f,O=>chgF f Rf O
 |.augF f n,O=>match qU f O with
  |some (.int z)=>chgF f (.int (z+n)) O
  |_=>.sk
 |.putF f k v,O=>(evB U bc v O).next λy g=>match evD U k g with
  |.ok x=>if Jh y&&keyD To x then chgD f x y g else .sk
  |_=>.sk
 |.raise c p,O=>match evD U p O with
  |.ok d=>if iE d then .ex c O else .sk
  |_=>.sk
structure DefB where
 slots:Nat
 params:Nat
 body:Bs
noncomputable def wA:D->D->Bool
 |.obj a _ _,.obj b _ _=>a==b
 |_,_=>Fo
def ansB (s0:D):Rq->Rc
 |.ok .nx (So st::_)=>if wA s0 st then .ok .non st else .sk
 |.ok (.rt d) (So st::_)=>if wA s0 st then .ok d st else .sk
 |.ex c (So st::_)=>if wA s0 st then .ex c st else .sk
 |_=>.sk
def runB (defs:DB) (bdefs:Ik):Nat->CallB
 |0=>λ_ _ _=>.sk
 |k+1=>λf st J=>match bdefs[f]? with
  |some b=>if Ab+1=b.params then ansB st (exO To BQ Ef b.body (JE b.slots (st::J)))else .sk
  |none=>.sk
noncomputable def nsB:List Str:=[oS "rows",oS "told",oS "looks"]
def obj0 (a:Nat):D:=.obj a nsB [.tup [],.dct To Fo [] [],.int 0]
def mutB:Bs->Bool
 |.lift p=>mutS p
 |.seq a b=>mutB a||mutB b
 |.ite _ a b=>mutB a||mutB b
 |.loop _ _ _ b=>mutB b
 |_=>Fo
end Pu
namespace Rd
open PySem PySem.Spec PyProof.Rows L2 PySem.W
variable{H:Hp}{P:Bk}{w:AY}{s s':Ak}{h base B:Heap}{A:BX}{C a:Addr}{mg:BY}
def HOk.onB{h':Heap}(ok:BP)(tr:∀b u,H b=So u->∃o,B.get? b=So o)(k1:B.StaysIn h)(k2:B.StaysIn h'):HOk P w H h':=λa o e=>
 ObjOk.stay (ok a o e) (λb u g q=>by
  have l:∃o,B.get? b=So o:=by
   rcases g with rfl|g
   ·exact tr _ _ e
   ·exact tr _ _ g
  obtain⟨j,f⟩:=l;have i:=k1 b j f;rw[q]at i;cases i;exact k2 b _ f) (λ_ z=>z) (λ_ _ z=>z)
def ObjOk.has{o:HO}(x:Qr):∃b,h.get? a=So b:=by
 cases o with
 |lst i=>obtain⟨_,_,_,_,e⟩:=x;exact⟨_,e⟩
 |lsm _ i=>obtain⟨_,_,_,_,e⟩:=x;exact⟨_,e⟩
 |tup i=>obtain⟨_,_,_,b,e,_⟩:=x;exact⟨_,e⟩
 |dK g=>obtain⟨_,_,_,_,b,_,_,e,_⟩:=x;exact⟨_,e⟩
 |dT g=>obtain⟨_,_,_,_,b,_,_,e,_⟩:=x;exact⟨_,e⟩
 |set S n=>obtain⟨b,_,_,_,e,_⟩:=x;exact⟨_,e⟩
 |ins C j fs=>obtain⟨_,_,_,e,_⟩:=x;exact⟨_,e⟩
 |own y=>obtain⟨_,e⟩:=x;exact⟨_,e⟩
 |xd fs=>obtain⟨_,⟨_,_,_,e,_⟩,_⟩:=x;exact⟨_,e⟩
 |rng r l=>obtain⟨_,_,_,e⟩:=x;exact⟨_,e⟩
 |frz b u=>obtain⟨e,_⟩:=x;exact⟨_,e⟩
 |tbl m=>obtain⟨_,_,_,_,e,_⟩:=x;exact⟨_,e⟩
 |met f y=>exact⟨_,(show h.get? a=So _ from x)⟩
 |ext q=>obtain⟨_,⟨_,e⟩,_⟩:=x;exact⟨_,e⟩
def HOk.has(ok:BP){b:Addr}{u:HO}(e:H b=So u):∃o,h.get? b=So o:=ObjOk.has (ok b u e)
inductive CXi(P:Bk)(w:AY)(outer:BG)(H:Hp)(s:Ak)(E:XK)(e:An)(s':Ak):Prop where
 |mk (a C:Addr) (H':Hp) (B:Heap) (a0:Value):e=.ref a->s'.os=s.os->AllBare s'.gens->Un (frs outer) [] H H' s.heap s'.heap->HOk P w H' s'.heap->Heap.FlyingW B outer a (.ref C) a0 s'.heap->(∀b u,H' b=So u->∃o,B.get? b=So o)->(∀b o,s.heap.get? b=So o->b∉frs outer->(H b=No->B.get? b=So o)/\∃o',B.get? b=So o')->E (.ref C) No H'->CXi P w outer H s E e s'
noncomputable def CXr (P:Bk) (w:AY):CXT:=CXi P w
def uP(B:Heap)(l:BG)(e:Addr)(b a0 f:An)(h:Heap):Prop:=B.StaysIn h/\B.get? e=No/\h.FunFrames B l/\h.TracedAtW B e b a0 f
section
variable{M:Model}{E:AZ}{O:Env}{outer:BG}{L e:Addr}{cls a0 fl:An}{Q:Do}
def vY(y:A.frames=So CJ)(m:O.frame=So L)(x:S9)(F:∀l,Heap.HeldW B CJ e cls a0 L l->s.heap.UpToSlots l->Q () {s with heap:=l}):wpAny M A Nk Q E s:=by
 obtain⟨U,r,Y,u⟩:=x;by_cases G:fl=rawInt L
 ·subst G;exact wpAny_noteFrame_againW m u (F W6 ⟨U,r,Y,u⟩ (Heap.UpToSlots.refl _))
 ·obtain⟨oe,Z,T,oT,ts,W,⟨hc,h0⟩,J,X,z,n,v,j,N⟩:=u;subst hc;unfold noteFrame;simp only[m];refine Za (kA W J X ?_);rw[if_pos 'j'];refine Za (kA v j N ?_);rw[if_neg (by simpa using G)];refine Za (kC v j (mT.mp N).1 ?_);have g:∀b,b≠T->(s.heap.update T (Obj.mapFields (·.setIfInBounds 3 Xb))).get? b=s.heap.get? b:=λb hb=>ZG _ _ E4;have I:∀b o,s.heap.get? b=So o->(∀Z,o.data≠.fields Z)->b≠T:=λb o hb f q=>by rw[q,v]at hb;injection hb with hb;subst hb;exact f ts j
  refine wpAny_entryW y (Y.of_keeps λb o hb f=>⟨o,'仈'.trans hb,rfl⟩) m ((g e (Ne.symm n)).trans W) (λb o i=>(g b λq=>by
   rw[q,z]at i;cases i).trans (U b o i)) r J (mT.mp X).1 h0 λl hN=>?_
  obtain⟨x1,x2,x3,x4⟩:=hN;exact F l ⟨x1,r,x2,x3⟩ λb o hb f=>x4 b o ('仈'.trans hb) f
def JkC(g:A.frames=So CJ)(l:O.frame=So L)(x:S9)(o:∀f,Heap.FlyingW B outer e cls a0 f->s.heap.UpToSlots f->Q () {s with heap:=f}):wpAny M A (leaving O Iu) Q E s:=by unfold leaving;refine Za (vY g l x λy b m=>?_);refine wpAny_landsW b λn j i=>?_;obtain⟨u,v,⟨_,_,r⟩,q⟩:=j;exact o n ⟨u,v,r,q⟩ (m.trans i)
end
structure FlyIn(X:Cx)(C a:Addr)(W:Hp)(s':Ak):Prop where
 inv:∃Y Z,Inv X Y Z W s'/\((∃h vs,Heap.MadeExcOf h Ya a Bm vs/\Inv X Y Z W {s' with heap:=h})\/
  ∃B a0 fl,uP B Xc a Bm a0 fl Ya/\(∀b u,W b=So u->∃o,B.get? b=So o)/\(∀b o,X.s₀.heap.get? b=So o->b∉frs X.stack->b∉X.ex->(X.H₀ b=No->B.get? b=So o)/\∃o',B.get? b=So o')/\∀p∈X.pn,B.get? p.1=So p.2)
noncomputable def cxE (CX:CXT) (P:Bk) (w:AY) (K:Ai) (mg:BY) (base:Heap) (N:Ad) (O:Env) (fn:Str->Bool) (cm:Bool) (A:BX) (outer:BG) (s:Ak) (H:Hp) (E:XK):Cx where
 prog:=P
 w:=w
 K:=K
 mg:=mg
 base:=base
 A:=A.deeper O
 N:=N
 s₀:=s
 H₀:=H
 env:=O
 outer:=outer
 stack:=O::outer
 ex:=[]
 calm:=cm
 fn:=fn
 pn:=[]
 xe:=λe s'=>wpAny Bv (A.deeper O) (leaving O e) (λ_ b=>CX outer H s E e b) (λf b=>CX outer H s E f b) s'
section
variable{K:Ai}{N:Ad}{O:Env}{fn:Str->Bool}{cm:Bool}{outer:BG}{W:Hp}{E:XK}
def JiS(j:O.frame=So Aa){Y:AQ}{Z:Bp}{h1 h':Heap}{a0:An}(I:Inv 'ƞ' Y Z W {s' with heap:=h1})
  (fl:Heap.FlyingW B outer a Bm a0 h') (k1:bG) (up:h1.UpToSlots h') (tr:∀b u,W b=So u->∃o,B.get? b=So o)
  (kp:∀b o,s.heap.get? b=So o->b∉frs CJ->(H b=No->B.get? b=So o)/\∃q,B.get? b=So q) (hE:Qdm):CXr P w outer H s E Aw {s' with heap:=h'}:=by
 have g:∀b o,s.heap.get? b=So o->b∉frs outer->b∉frs CJ:=λb o f l m=>by
  unfold frs at m;rw[ZW,j]at m;rcases Zf.mp m with e|m
  ·have:=Zk f;rw[e]at this;exact absurd this Cz
  ·exact l m
 have u:=Yn;refine⟨a,C,W,B,a0,rfl,I.os,Xs,⟨?_,?_,?_,?_,u.tups,u.frzs,u.tbls⟩,HOk.onB Xh tr k1 fl.1,fl,tr,λb o f l=>kp b o f (g b o f l),hE⟩
 ·intro b o f l j _;exact fl.1 b o ((kp b o f (g b o f j)).1 l)
 ·intro b o f l j _;obtain⟨sl,v⟩:=u.slot b o f l j (by show b∉([]:List Addr);simp);obtain⟨_,z,i,y⟩:=(show s.heap.FunFrames base outer from I.ok.funs).mem j;rw[f]at i;cases i;obtain⟨n,r⟩:=up b _ v y;exact⟨n,r⟩
 ·intro b o f l _;exact u.free b o f l (by show b∉([]:List Addr);simp)
 ·intro b o f _;by_cases j:b∈frs outer
  ·obtain⟨_,z,i,y⟩:=(show s.heap.FunFrames base outer from I.ok.funs).mem j;rw[f]at i;cases i;obtain⟨sl,v⟩:=u.slot b o f (I.ok.frf b j) j (by show b∉([]:List Addr);simp);obtain⟨n,r⟩:=up b _ v y;exact⟨_,r⟩
  ·obtain⟨q,e⟩:=(kp b o f (g b o f j)).2;exact⟨q,fl.1 b q e⟩
def JlM(f:O.frame=So Aa)(F:FlyIn 'ƞ' C a W s')(L:Qdm):'ƞ'.xe Aw s':=by
 obtain⟨Y,Z,I,X⟩:=F.inv;have hst:'ƞ'.stack=O::outer:=rfl;show wpAny Bv (A.deeper (O)) (leaving (O) Aw) _ _ s';have j:(A.deeper (O)).frames=So CJ:=cX;rcases X with⟨h,vs,M,g⟩|⟨B,a0,flv,m,tr,kp,_⟩
 ·have G:∀v∈(O::outer),∀b,v.frame=So b->b∈frs CJ:=λv r b i=>qB.mpr ⟨v,r,i⟩;have J:(hideAll h (frs CJ)).StaysIn h:=λb o q=>of_hideAll _ q;refine wpAny_leaves_madeW j f J (funFrames_hide g.stack G) M λU t m _ _ n=>?_;refine JiS f (B:=hideAll h (frs CJ)) (h1:=h) g m J ((Heap.UpToSlots.of_keeps M.keeps).trans n) (λb u e=>?_) (λb o i l=>Qeh) L
  ·obtain⟨o,ho⟩:=HOk.has g.hok e;exact⟨o,hideAll_get _ ho λz=>by rw[g.stkFree b z]at e;cases e⟩
  ·refine hideAll_get _ (g.base.keep b o i h0 (λz=>l ?_) (by show b∉([]:List Addr);simp)) l;exact qB.mpr (by obtain⟨e,r,f⟩:=qB.mp z;exact⟨e,.tail _ r,f⟩)
  ·obtain⟨o',e⟩:=g.base.there b o i (by show b∉([]:List Addr);simp);exact⟨o',hideAll_get _ e l⟩
 ·refine JkC j f m λU y n=>?_;exact JiS f (h1:=Ya) I y m.1 n tr (λb o i l=>kp b o i l (by show b∉([]:List Addr);simp)) L
end
def JiH{K:Ai}{N:Ad}{e:Str}{b:Ba}{f:Addr}{i:An}{g:BG}{W:Hp}{E:XK}(F:FlyIn 'Ϣ' C a W s')(j:Qdm):'Ϣ'.xe Aw s':=
 JlM (O:=envOfC e b Aa f i) (fn:=λ_=>To) (cm:=To) rfl F j
def JjI{X:Cx}{Y:AQ}{Z:Bp}{E:XK}{e:An}(I:AG)(h:CXr Xa X.w Xc H s E e s'):∃a C W,e=.ref a/\FlyIn X C a W s'/\E Bm No W:=by
 obtain⟨a,C,W,B,a0,rfl,y,L,u,m,O,tr,i,F⟩:=h;have I':Inv X Y Z W s':=I.call' y u m L R7;have g:∀b,b∉X.fs->b≠AM->b∉frs Xc:=λb h1 M hm=>by
  rcases Zf.mp (I.stkSub b hm)with e|e
  ·exact M e
  ·exact h1 e
 refine⟨a,C,W,rfl,⟨Y,Z,I',.inr ⟨B,a0,.none,O,tr,λb o n q f=>?_,λp hp=>?_⟩⟩,F⟩;rotate_left
 ·obtain⟨q1,q2,N,q4,_⟩:=I.pin p KO;exact(i p.1 p.2 q1 (g p.1 q4 N)).1 q2
 have j:b∉X.fs:=λz=>q (by
  rcases I.ok.stk with e|⟨e,_⟩
  ·rw[e];exact z
  ·rw[e];obtain⟨G,U,J⟩:=qB.mp z;exact qB.mpr ⟨G,.tail _ U,J⟩)
 constructor
 ·intro r;have l:=I.base.keep b o n r j f;exact(i b o l q).1 (I.base.free b o n r f)
 ·obtain⟨v,l⟩:=I.base.there b o n f;exact(i b v l q).2
def Jia{M:Model}{E:AZ}{O:Env}{outer:BG}{L e:Addr}{i:An}{l:Az}{Q:Do}
  (n:A.frames=So CJ) (r:O.frame=So L) (j:base.StaysIn h) (I:h.FunFrames base CJ) (g:Heap.MadeExcOf h W6 e i l)
  (z:∀f a0,Heap.HeldW base CJ e i a0 L f->s.heap.UpToSlots f->Q () {s with heap:=f}):wpAny M A Nk Q E s:=by
 obtain⟨t,q,G,W⟩:=g.there;have fresh:∀b,h.get? b=No->base.get? b=No:=λb m=>by
  cases N:base.get? b with
  |none=>rfl
  |some u=>have:=j b u N;rw[m]at this;cases this
 unfold noteFrame;simp only[r];refine Za (kA (x:=Xb) q rfl rfl ?_);rw[if_neg (show¬((Value.none !=Value.none)=To) by decide)];refine wpAny_entryW (a0:=.ref t) n (I.of_keeps λb o m _=>⟨o,g.keeps b o m,rfl⟩) r q (λb o m=>g.keeps b o (j b o m)) (fresh e g.new) rfl (by show 1<6;decide) rfl λf J=>?_;obtain⟨F,U,v,y⟩:=J;exact z f GQ ⟨F,fresh e g.new,U,v⟩ y
noncomputable def nmK:Value->Str
 |.str n _=>n
 |_=>Yw
def Jrs(P:Bk){K:Ai}{x:Str}{b:Az}{f:A5}(M:Mod K mg base)(u:PySem.W.nsIn K mainGlobals x=So Ew)(q:excIn K C b f=To):OwnCls x C b f mg base:=by obtain⟨mb,i,m⟩:=M.blt;obtain⟨o,l,v,E,F,k,r⟩:=id M.glob;refine PySem.W.own_of_in (p:=P) (loose:=l.toList.map λe=>nmK aP) (mb:=mb) M.kin ⟨M.glob,i,M.nolimit,m,λy _ h _ _ _=>?_⟩ u q;rw[<-r];refine Option.map_eq_none_iff.mpr (Array.find?_eq_none.mpr λe g z=>h (ZE.mpr ⟨e,by simpa using g,?_⟩));obtain⟨n,t,j⟩:=k e g;rw[j]at z⊢;exact gG z
section
variable{X:Cx}{x:Str}{e:Expr}{te:TE}{np cpos pos:Pos}{bs0:Az}{Bn nid iid:A5}
def Jqf(f:Cf)(G:C9)(hn:PySem.W.nsIn X.K mainGlobals x=So Ew)(O:X.mg x=So Bm)(hq:excIn X.K C bs0 nid=To)(m:ExcBaseFacts Bn nid iid bs0)(L:Ey)(l:CZ)
  (j:Lx):PS X We (λD Z H=>te Z H λv W=>([v]:List V).length=1/\∀a s',FlyIn X C a W s'->X.xe Aw s'):=by
 intro Y s Z H D I h;obtain⟨tl,N,nm,y,bs,F,sn,sub,ab,col,dd,k0,k1,k2,k3,k5,mN,M,hN,i,T⟩:=(Jrs Xa bT hn hq).obj;refine wpAny_Raise_call_subT (C:=C) (nm:=nm) (q:=y) (N:=N) (bs:=bs) (bm:=tl) (hdct:=F) (sn:=sn) (sub:=sub) (ab:=ab) (col:=col) (dd:=dd) (k0:=k0) (k1:=k1) (k2:=k2) (k3:=k3) (k5:=k5)
  m (mN:=mN) (T.hasType m.hasBase) (I.ok.hd f) (by rw[j];rfl) i (pJ I G O IZ l)
 have r:=(JC L kB j) cpos Y s Z H (λvs W=>Bg=1/\∀a s',FlyIn X C a W s'->X.xe Aw s') I h;rw[j]at r⊢;refine lT (ZV r (λn o hp=>?_) λ_ _ z=>z);obtain⟨vs,H2,g,J,E,u⟩:=hp;have U:n.length<=sizeLine:=by rw[<-J.length,E];decide
 refine⟨rfl,U,g.bk _ _ M,hN.keeps g.bk,T.keeps g.bk,λh' a b=>?_⟩;exact u a _ ⟨Y,Z,g.kept (t':=o.toks) b.keeps,.inl ⟨o.heap,n,b,g⟩⟩
end
end Rd
namespace Rd
open PySem PySem.Spec PyProof.Rows L2 Pu
variable{H W:Hp}{Z:Bp}{d:D}{xs:AA}{s:Ak}{X:Cx}{x:Str}{J:Ao}{a Cd:Addr}{Y:AQ}{pos:Pos}{v:V}{Q:VK}{pc ps pe:Px}{o:O2}{scope:Ba}{A:BX}{E:AZ}{N:Ad}{nm:Bf}{elt iter tg:Expr}{ifs:C6}{its:Az}{nt:Nat}{cs:BH}{prog:Bk}{fp:A3}{α:Type}{P:D->Prop}
noncomputable def keyV:L2.Key->D
 |.inl n=>.int n
 |.inr x=>.str x
 |.non=>.non
mutual
def vB:KTr L2.Key->D
 |.a k=>keyV k
 |.t b=>.tup (JT b)
def JT:List (KTr XH)->List D
 |[]=>[]
 |k::ks=>vB k::JT ks
end
def DK(H:Hp)(a:Addr)(t z:Bool)(b:Ao)(xs:AA):Prop:=match t with
 |true=>∃kvs:List (List (KTr XH)×V),(match z with
  |true=>∃o,H a=So (.frz o BL)
  |false=>H a=So BL)/\b=kvs.map (λp=>.tup (JT p.1))/\xs=kvs.map (·.2)
 |false=>∃kvs:List (L2.Key×V),(match z with
  |true=>∃o,H a=So (.frz o Bh)
  |false=>H a=So Bh)/\b=kvs.map (λp=>keyV p.1)/\xs=kvs.map (·.2)
def DK.mono{t z:Bool}{i:Ao}(e:∀o,H a=So o->W a=So o)(h:DK H a t z i xs):DK W a t z i xs:=by
 cases t<;>cases z<;>obtain⟨b,g,f⟩:=h
 ·exact Qd5
 ·exact⟨b,let⟨o,h⟩:=g;⟨o,e _ h⟩,f⟩
 ·exact Qd5
 ·exact⟨b,let⟨o,h⟩:=g;⟨o,e _ h⟩,f⟩
noncomputable def clsN (ns:Ad):Str:=if ns.contains (oS "rows")then oS "Board" else oS "Site"
mutual
def Rep(K:Ai)(H:Hp):D->V->Prop
 |.non,v=>v=.non
 |.bl b,v=>v=.bl b
 |.int i,v=>v=.int i
 |.str x,v=>v=.str x
 |.tup J,v=>∃a xs,v=.ref a/\SqT K H a xs/\Reps K H J xs
 |.lst J,v=>∃a xs,v=.ref a/\SqL K H a xs/\Reps K H J xs
 |.dct t z ks vs,v=>∃a xs,v=.ref a/\DK H a t z ks xs/\Reps K H vs xs
 |.exc c,v=>∃a o C,v=.ref a/\H a=So (.frz o Nv)/\o.cls=.ref C/\PySem.W.nsIn K mainGlobals c=So Ew
 |.fn x _,v=>∃f,v=.ref f/\PySem.W.nsIn K mainGlobals x=So EE
 |.obj a ns fs,v=>v=.ref a/\∃C e xs,H a=So (.ins C e 'ɜ')/\PySem.W.nsIn K mainGlobals Kc=So (So Bm)/\ns.length=Z0/\Reps K H fs xs
 |.mls t J,v=>∃a xs,v=.ref a/\H a=So (.lsm t xs)/\Reps K H J xs
 |.adr b,v=>v=.ref b
def Reps(K:Ai)(H:Hp):List D->List V->Prop
 |[],xs=>xs=[]
 |d::J,xs=>∃x r,xs=x::r/\Rep K H d x/\Reps K H J r
end
def SqT.same{K:Ai}(e:CS)(h:bH):SqT K W a xs:=by
 rcases h with h|h
 ·exact .inl (e _ _ h)
 ·exact .inr h
mutual
theorem Rep.mono{K:Ai}{H W:Hp}(e:CS):∀(d:D){v:V},Rep K H d v->Rep K W d v
 |.non,_,h=>h
 |.bl _,_,h=>h
 |.int _,_,h=>h
 |.str _,_,h=>h
 |.tup J,_,⟨a,xs,e1,h1,h2⟩=>⟨a,xs,e1,SqT.same e h1,Reps.mono e J h2⟩
 |.lst J,_,⟨a,xs,e1,h1,h2⟩=>⟨a,xs,e1,e.seq h1,Reps.mono e J h2⟩
 |.dct t z ks vs,_,⟨a,xs,e1,h1,h2⟩=>⟨a,xs,e1,h1.mono (e a),Reps.mono e vs h2⟩
 |.exc c,_,⟨a,o,C,e1,h1,h2⟩=>⟨a,o,C,e1,e _ _ h1,h2⟩
 |.fn x _,_,h=>h
 |.obj a ns fs,_,⟨e1,C,dx,xs,h1,h2,h3,h5⟩=>⟨e1,C,dx,xs,e _ _ h1,h2,h3,Reps.mono e fs h5⟩
 |.mls t J,_,⟨a,xs,e1,h1,h2⟩=>⟨a,xs,e1,e _ _ h1,Reps.mono e J h2⟩
 |.adr _,_,h=>h
theorem Reps.mono{K:Ai}{H W:Hp}(e:CS):∀(J:Ao){xs:AA},Reps K H J xs->Reps K W J xs
 |[],_,h=>h
 |d::J,_,⟨x,r,e1,h1,h2⟩=>⟨x,r,e1,Rep.mono e d h1,Reps.mono e J h2⟩
end
theorem Reps.length{K:Ai}{H:Hp}:∀{J:Ao}{xs:AA},Reps K H J xs->Ac=Ab
 |[],_,h=>by cases h;rfl
 |d::J,_,⟨x,r,e1,h1,h2⟩=>by subst e1;simp[Reps.length h2]
theorem Reps.get{K:Ai}{H:Hp}:∀{J:Ao}{xs:AA}{i:Nat}{d:D},Reps K H J xs->J[i]? =So d->∃x,xs[i]? =So x/\Rep K H d x
 |[],_,_,_,_,e=>by simp at e
 |d::J,_,0,d',⟨x,r,e1,h1,h2⟩,e=>by subst e1;simp at e;subst e;exact⟨x,rfl,h1⟩
 |d::J,_,i+1,d',⟨x,r,e1,h1,h2⟩,e=>by
  subst e1
  obtain⟨y,b,f⟩:=Reps.get (i:=i) h2 (by simpa using e)
  exact⟨y,by simpa using b,f⟩
theorem Reps.get'{K:Ai}:∀{J:Ao}{xs:AA}{i:Nat}{x:V},Reps K H J xs->xs[i]? =So x->∃d,J[i]? =So d/\Rep K H d x
 |[],_,_,_,h,e=>by cases h;simp at e
 |d::J,_,0,d',⟨x,r,e1,h1,h2⟩,e=>by subst e1;simp at e;subst e;exact⟨d,rfl,h1⟩
 |d::J,_,i+1,d',⟨x,r,e1,h1,h2⟩,e=>by
  subst e1
  obtain⟨y,b,f⟩:=Reps.get' (i:=i) h2 (by simpa using e)
  exact⟨y,by simpa using b,f⟩
theorem Reps.append{K:Ai}:∀{J es:Ao}{xs ys:AA},Reps K H J xs->Reps K H es ys->Reps K H (J++es) (xs++ys)
 |[],_,_,_,h,h'=>by cases h;exact h'
 |d::J,es,_,ys,⟨x,r,e1,h1,h2⟩,h'=>by subst e1;exact⟨x,r++ys,rfl,h1,Reps.append h2 h'⟩
theorem Reps.take{K:Ai}:∀(n:Nat){J:Ao}{xs:AA},Reps K H J xs->Reps K H (J.take n) (xs.take n)
 |0,_,_,h=>by simp[Reps]
 |n+1,[],_,h=>by cases h;simp[Reps]
 |n+1,d::J,_,⟨x,r,e1,h1,h2⟩=>by subst e1;exact⟨x,r.take n,rfl,h1,Reps.take n h2⟩
theorem Reps.drop{K:Ai}:∀(n:Nat){J:Ao}{xs:AA},Reps K H J xs->Reps K H (J.drop n) (xs.drop n)
 |0,_,_,h=>by simpa using h
 |n+1,[],_,h=>by cases h;simp[Reps]
 |n+1,d::J,_,⟨x,r,e1,h1,h2⟩=>by subst e1;exact Reps.drop n h2
def Reps.nil_iff{K:Ai}(h:EI):xs=[]↔J=[]:=by
 have:=h.length;constructor
 ·intro e;subst e;cases J with
  |nil=>rfl
  |cons _ _=>simp at this
 ·intro e;subst e;exact h
def Reps.one{K:Ai}(h:D7):Reps K H [d] [v]:=⟨v,[],rfl,h,rfl⟩
def Tups(K:Ai)(H W:Hp):Prop:=(∀a xs,SqT K H a xs->SqT K W a xs)/\∀a o u,H a=So (.frz o u)->W a=So KQ
def Tups.of{K:Ai}(e:CS):Tups K H W:=⟨λ_ _ h=>SqT.same e h,λ_ _ _ h=>e _ _ h⟩
mutual
theorem Rep.tups{K:Ai}{H W:Hp}(e:Tups K H W):∀(d:D){v:V},d.imm=To->Rep K H d v->Rep K W d v
 |.non,_,_,h=>h
 |.bl _,_,_,h=>h
 |.int _,_,_,h=>h
 |.str _,_,_,h=>h
 |.tup J,_,i,⟨a,xs,e1,h1,h2⟩=>⟨a,xs,e1,e.1 _ _ h1,Reps.tups e J (by simpa[D.imm]using i) h2⟩
 |.lst J,_,i,_=>by simp[D.imm]at i
 |.dct t z ks vs,_,i,⟨a,xs,e1,h1,h2⟩=>by
  simp only[D.imm,Zc]at i
  refine⟨a,xs,e1,?_,Reps.tups e vs i.2 h2⟩
  obtain⟨rfl,_⟩:=i
  cases t<;>obtain⟨b,⟨o,f⟩,g⟩:=h1
  ·exact⟨b,⟨o,e.2 _ _ _ f⟩,g⟩
  ·exact⟨b,⟨o,e.2 _ _ _ f⟩,g⟩
 |.exc c,_,_,⟨a,o,C,e1,h1,h2⟩=>⟨a,o,C,e1,e.2 _ _ _ h1,h2⟩
 |.fn x _,_,_,h=>h
 |.obj a ns fs,_,i,_=>by simp[D.imm]at i
 |.mls _ _,_,i,_=>by simp[D.imm]at i
 |.adr _,_,i,_=>by simp[D.imm]at i
theorem Reps.tups{K:Ai}{H W:Hp}(e:Tups K H W):∀(J:Ao){xs:AA},imms J=To->Reps K H J xs->Reps K W J xs
 |[],_,_,h=>h
 |d::J,_,i,⟨x,r,e1,h1,h2⟩=>by
  simp only[imms,Zc]at i
  exact⟨x,r,e1,Rep.tups e d i.1 h1,Reps.tups e J i.2 h2⟩
end
noncomputable def hid (L:A3) (H:Hp):Hp:=λa=>if a∈L then No else H a
noncomputable def Chgb:HO->Prop
 |.lst _=>True
 |.dK _=>True
 |.dT _=>True
 |_=>False
def Ows(L:A3)(H:Hp):Prop:=∀a∈L,∃o,H a=So o/\Chgb o
def ItOk(b:It):Prop:=∀(L:A3)(i:Nat)(H:Hp)(x:V)(W:Hp),Ows L H->b.yld i H x W->b.yld i Br x Iq
section
variable{L L':A3}{H1:Hp}{o:HO}
def Jy(h:a∉L):hid L H a=H a:=by unfold hid;rw[if_neg h]
def rE(h:a∈L):hid L H a=No:=by unfold hid;rw[if_pos h]
def pN(h:hid L H a=So o):a∉L/\H a=So o:=by
 unfold hid at h;split at h
 ·cases h
 ·rename_i q;exact⟨q,h⟩
def hid_same:Same Br H:=λa o h=>(pN h).2
def JpG(k:∀a o,H a=So o->a∉L->W a=So o/\a∉L'):Same Br (hid L' W):=λa o h=>by
 obtain⟨e,f⟩:=pN h
 obtain⟨b,g⟩:=k a o f e
 rw[Jy g];exact b
def JI:hid [] H=H:=by funext a;exact Jy Af
def JnP(h:a∉L):hid L FO=upd Br a o:=by
 funext b;by_cases q:b=a
 ·subst q;rw[Jy h,Jg,Jg]
 ·rw[Je q];by_cases r:b∈L
  ·rw[rE r,rE r]
  ·rw[Jy r,Jy r,Je q]
end
def ReadOk(K:Ai)(H:Hp)(Z:Bp)(O:Fm):Prop:=∀(i:Nat)(d:D),O[i]? =So Bj->∃v,Z[i]? =So BO/\Rep K H d v
def ReadOk.mono{K:Ai}{O:Fm}(r:ReadOk K H Z O)(e:CS):ReadOk K W Z O:=λi d h=>
 let⟨v,f,b⟩:=r i d h
 ⟨v,f,b.mono e⟩
def XE(X:Cx)(C:Addr)(H:Hp):Prop:=∀a b,FlyIn X C a H b->X.xe Aw b
def XW(X:Cx)(H:Hp)(c:Str):Prop:=∀C W,X.mg c=So Bm->Same H W->XE X C W
def XW.mono{c:Str}(e:CS)(h:XW X H c):XW X W c:=λC f b s=>h C f b (e.trans s)
def Out(X:Cx)(H:Hp)(Q:VK)(d:D):Prop:=∀v W,Same H W->Rep X.K W d v->Q v W
def Out.mono{b:Hp}(h:cV)(e:Same H b):Out X b Q d:=λv W f r=>h v W (e.trans f) r
def Out.now(h:cV)(r:Ht):Q v H:=h v H Ea r
inductive tI(X:Cx)(call:Ag)(p:Px)(σ:Bp)(H:Hp)(Q:VK):Prop where
 |mk:∀env,ReadOk X.K H σ env->(evD call p env).Good (Out X H Q) (XW X H)->tI X call p σ H Q
inductive tT(X:Cx)(call:Ag)(p:Px)(σ:Bp)(H:Hp)(Q:LD):Prop where
 |mk:∀env,ReadOk X.K H σ env->((evD call p env).Good (λd=>∃b,d=.bl b/\∀H',Same H H'->Q b H') AC)->tT X call p σ H Q
inductive tA(X:Cx)(call:Ag)(p:Px)(σ:Bp)(H:Hp)(Q:(List V->Hp->Prop)):Prop where
 |mk:∀env,ReadOk X.K H σ env->((evD call p env).Good (λd=>∃ds,d=.lst ds/\∀vs H',Same H H'->Reps X.K H' ds vs->Q vs H') AC)->tA X call p σ H Q
section
variable{U:Ag}{e a b c:Expr}{es:C6}{p pa pb:Px}
def PE.weak{t t':TE}(h:PE X e t)(g:∀Z H Q,t' Z H Q->t Z H Q):PE X e t':=λY s Z H Q I f=>h Y s Z H Q I K5
def PT.weak{t t':TT}(h:PT X e t)(g:∀Z H Q,t' Z H Q->t Z H Q):PT X e t':=λY s Z H Q I f=>h Y s Z H Q I K5
def PW.weak{t t':TT}(h:PW X e t)(g:∀Z H Q,t' Z H Q->t Z H Q):PW X e t':=λw Y s Z H Q I f=>h w Y s Z H Q I K5
def PA.weak{t t':TA}(h:Y4)(g:∀Z H Q,t' Z H Q->t Z H Q):PA X es t':=λp Y s Z H Q I f=>h p Y s Z H Q I K5
def tI.then{O:Fm}{k:D->Rs D}(r:Qe)(h:('ƴ'.bind k).Good B0 AC){f:VK}
  (g:∀d v W,Same H W->Rep X.K W d v->ReadOk X.K W Z O->(k d).Good (Out X W Q) (XW X W)->f v W):tI X U p Z H f:=by refine⟨O,r,'Ă'.imp λd i v W s j=>g d v W s j (r.mono s) (i.mono (λl o=>o.mono s) λc x=>x.mono s)⟩
def Jvu{i:Nat}(u:X.N[i]? =So x)(l:Vis ER x)(n:CZ)(f:(x==("__classdict__":Str))=Fo):PE X Ct Ia:=by
 refine PE.weak (qD u l n f) λZ H Q g=>?_;obtain⟨O,r,h⟩:=g;simp only[evD]at h;cases q:O[i]? with
 |none=>rw[q]at h;exact h.elim
 |some o=>
  cases o with
  |none=>rw[q]at h;exact h.elim
  |some d=>rw[q]at h;obtain⟨v,m,j⟩:=r i d q;exact⟨v,m,Out.now h j⟩
def JR{i:Int}{j}:PE X O3 (tI X U (.con AS)):=PE.weak nV λZ H Q⟨O,r,h⟩=>Out.now h rfl
def eJ{i:Bool}{j}:PE X (.Constant (.bool i) j pos) (tI X U (.con (.bl i))):=PE.weak Jvt λZ H Q⟨O,r,h⟩=>Out.now h rfl
def JuB{j}:PE X Pj (tI X U Dw):=PE.weak JwA λZ H Q⟨O,r,h⟩=>Out.now h rfl
def yP{j}:PE X O0 (tI X U (.con Cr)):=PE.weak Jrf λZ H Q⟨O,r,h⟩=>Out.now h rfl
def JuM(X:Cx)(x:Str)(d:D):Prop:=∃v u,X.mg x=So u/\RelV v u/\∀H,Rep X.K H d v
def JrD(f:C9)(h:JuM X x d)(j:CZ):PE X Ct Qah:=by obtain⟨v,u,i,r,g⟩:=h;exact PE.weak (JrB f i r j) λZ H Q⟨O,r,h⟩=>Out.now h (g H)
def rD2(X:Cx)(o:O2):R2:=λx y H Q=>∃f g,Rep X.K H f x/\Rep X.K H g y/\(op2 o f g).Good B0 AC
def tI.two(h:tI X U Kn Z H Q):tOp J7 FH K4 Z H Q:=by obtain⟨O,r,h⟩:=h;refine tI.then r h λn x u w j m l=>?_;refine tI.then m l λq y z f i B g=>?_;exact⟨n,q,j.mono f,i,g⟩
def mJ{op:bM}(f:OpR X Qdv J7)(g:AH)(i:BZ):PE X NY LL:=
 PE.weak (pe_op f g i) λZ H Q h=>h.two
def kJ{op:YB}(f:P6)(g:AH)(i:BZ)(j:FZ):PE X FY LL:=
 PE.weak (JrL f g i j) λZ H Q h=>h.two
def tT.asTest{Q:DI}(h:tT X U p Z H Q):tI X U p Z H λx W=>∃k,x=.bl k/\Q k W:=by obtain⟨O,r,h⟩:=h;refine⟨O,r,h.imp λd f v W s g=>?_⟩;obtain⟨b,e,q⟩:=f;subst e;exact⟨b,g,q W s⟩
def pH{op:YB}(f:P6)(g:AH)(i:BZ)(j:FZ):PT X FY (tT X U Kn):=
 PT.weak (nW f g i j) λZ H Q h=>h.asTest.two
def pI_ix(g:IxR X J7)(f:AH)(j:BZ)(i:sQ b):PE X Ml LL:=
 PE.weak (pe_ix g f j i) λZ H Q h=>h.two
def tT.and{Q:DI}(h:tT X U HH Z H Q):tAnd Mn K3 Z H Q:=by
 obtain⟨O,r,h⟩:=h;refine⟨O,r,'Ă'.imp λd f=>?_⟩;cases d with
 |bl b=>
  refine RM;cases b with
  |true=>exact iteT ⟨O,r.mono s,f.mono (λd⟨g,e,q⟩=>T3) λc x=>x.mono s⟩
  |false=>obtain⟨g,e,q⟩:=f;cases e;exact iteF (q W s)
 |_=>exact f.elim
def tT.or{Q:DI}(h:tT X U IT Z H Q):tOr Mn K3 Z H Q:=by
 obtain⟨O,r,h⟩:=h;refine⟨O,r,'Ă'.imp λd f=>?_⟩;cases d with
 |bl b=>
  refine RM;cases b with
  |false=>exact iteF ⟨O,r.mono s,f.mono (λd⟨g,e,q⟩=>T3) λc x=>x.mono s⟩
  |true=>obtain⟨g,e,q⟩:=f;cases e;exact iteT (q W s)
 |_=>exact f.elim
def Jro{op}(f:KY):PW X Mm Mn:=by
 cases op
 ·exact Jma f
 ·exact Jqq f
def Juo{rest:C6}(g:KY)(f:PW X (.BoolOp .And (b::rest) pos) K3):PW X Mu (tT X U HH):=
 PW.weak (JvO g f) λZ H Q h=>h.and
def Juz{rest:C6}(g:KY)(f:PW X IK K3):PW X Km (tT X U IT):=
 PW.weak (Jws g f) λZ H Q h=>h.or
def JqT(i:KY):PT X Mp (tT X U Qdy):=by
 refine PT.weak (JuR i) λZ H Q f=>?_;obtain⟨O,r,h⟩:=f;refine⟨O,r,'Ă'.imp λd g=>?_⟩;cases d with
 |bl b=>obtain⟨j,e,q⟩:=g;cases e;exact⟨b,rfl,q⟩
 |_=>exact g.elim
def JtO{K:Ai}{b:Bool}(r:D7)(h:d.truth=.ok b):TruV K v H b:=by
 cases d with
 |non=>cases r;simp only[D.truth]at h;cases h;rfl
 |bl c=>cases r;simp only[D.truth]at h;cases h;rfl
 |int i=>cases r;simp only[D.truth]at h;cases h;rfl
 |str x=>
  cases r;simp only[D.truth]at h;split at h
  ·rename_i q;cases h;exact⟨by rw[ZK];exact q,rfl⟩
  ·cases h
 |tup J=>obtain⟨a,xs,rfl,f,h2⟩:=r;simp only[D.truth]at h;cases h;refine .inr (.inl Hr);have:=Hc;cases J<;>cases xs<;>simp_all
 |lst J=>obtain⟨a,xs,rfl,f,h2⟩:=r;simp only[D.truth]at h;cases h;refine .inl Hr;have:=Hc;cases J<;>cases xs<;>simp_all
 |_=>simp only[D.truth]at h;cases h
def Jpu{c:Str}(h:d.truth=.ex c):False:=by cases d<;>simp only[D.truth]at h<;>first|cases h|(split at h<;>cases h)
def Jte{c:Str}(h:d.walk=.ex c):False:=by cases d<;>simp only[D.walk]at h<;>cases h
def Jrm(m:AH)(l:∀f,isTrue a WU f=(do let v<-f;standAt a.pos;holding [v] b6)):PT X a (tT X U (.un .truth pa)):=by
 refine PT.weak (Jpk m l) λZ H Q j=>?_;obtain⟨O,r,h⟩:=j;refine⟨O,r,'Ă'.imp λd g v W s n=>?_⟩;simp only[op1]at g;cases i:d.truth with
 |ok b=>rw[i]at g;obtain⟨u,e,q⟩:=g;cases e;exact⟨b,JtO n i,q W s⟩
 |ex c=>exact(Jpu i).elim
 |sk=>rw[i]at g;exact g.elim
def JvV{op}(f:AH):PE X Mm FH:=Jwm f
def Jxd{rest:C6}(i:AH)(j:PE X (.BoolOp .And (b::rest) pos) K4):PE X Mu (tI X U HH):=by
 refine PE.weak (Jvx i j) λZ H Q g=>?_;obtain⟨O,r,h⟩:=g;refine tI.then r h λd v W s l q f=>?_;cases d with
 |bl b=>
  cases l;refine⟨b,rfl,?_⟩;cases b with
  |true=>exact iteT ⟨O,q,f⟩
  |false=>exact iteF QbD
 |_=>exact f.elim
def pI_or{rest:C6}(i:AH)(j:PE X IK K4):PE X Km (tI X U IT):=by
 refine PE.weak (pe_or i j) λZ H Q g=>?_;obtain⟨O,r,h⟩:=g;refine tI.then r h λd v W s l q f=>?_;cases d with
 |bl b=>
  cases l;refine⟨b,rfl,?_⟩;cases b with
  |true=>exact iteT QbD
  |false=>exact iteF ⟨O,q,f⟩
 |_=>exact f.elim
def Jun(i:AH):PE X Mp (tI X U Qdy):=by
 refine PE.weak (JuL i) λZ H Q f=>?_;obtain⟨O,r,h⟩:=f;refine tI.then r h λd v W s j q g=>?_;cases d with
 |bl b=>cases j;exact⟨b,rfl,Out.now g rfl⟩
 |_=>exact g.elim
def pI_if(j:Qbp)(i:AH)(l:BZ):PE X Nt (tI X U (.ite pc pa pb)):=by
 refine PE.weak (Jqd j i l) λZ H Q f=>?_;obtain⟨O,r,h⟩:=f;refine⟨O,r,'Ă'.imp λd g=>?_⟩;cases d with
 |bl b=>
  refine RM;cases b with
  |true=>exact iteT Wo
  |false=>exact iteF Wo
 |_=>exact g.elim
def JK:PA X [] (tA X U .nil):=by refine PA.weak kB λZ H Q f=>?_;obtain⟨O,r,h⟩:=f;obtain⟨J,e,q⟩:=h;cases e;exact q [] H Ea rfl
def Jn(l:PE X e FH)(m:PA X es (tA X U pb))(z:Dx):PA X Fi (tA X U (.cons pa pb)):=by
 refine PA.weak (JC l m z) λZ H Q f=>?_;obtain⟨O,r,h⟩:=f;refine⟨O,r,'Ă'.imp λd u v W s C=>?_⟩;refine⟨O,r.mono s,((Rs.gB.mp u).imp λy g=>?_).mono (λ_ x=>x) λc x=>x.mono s⟩;cases y with
 |lst J=>refine⟨J,rfl,λj n i w=>?_⟩;obtain⟨B,e,q⟩:=g;cases e;exact q (v::j) n (s.trans i) ⟨v,j,rfl,C.mono i,w⟩
 |_=>exact g.elim
def nE{a:Addr}{K:Ai}(h:H a=No)(r:EI):Same H (upd H a A4)/\Rep K (upd H a A4) Bt Aw:=by
 have s:Same H (upd H a A4):=λb o e=>by rw[Je (Ji e h)];exact e
 exact⟨s,a,xs,rfl,SqT.of Jg,r.mono s⟩
def jM{a:Addr}{K:Ai}(h:H a=No)(r:EI):Same H (upd H a By)/\Rep K HZ A2 Aw:=by
 have s:Same H HZ:=λb o e=>by rw[Je (Ji e h)];exact e
 exact⟨s,a,xs,rfl,SqL.of Jg,r.mono s⟩
def yV{k:Nat}(h:Qbq):PE X Qac (tI X U (.tup p)):=by
 refine PE.weak (Jqt h) λZ H Q g=>?_;obtain⟨O,r,h⟩:=g;refine⟨O,r,'Ă'.imp λd f=>?_⟩;cases d with
 |lst J=>
  simp only[D.asL,Rs.bo]at f;refine⟨J,rfl,λq W s i=>?_⟩;split at f
  ·rename_i m;refine⟨by rw[i.length,ZK];exact m,λa j=>?_⟩;obtain⟨l,n⟩:=nE j i;exact f _ _ (s.trans l) n
  ·exact f.elim
 |_=>exact f.elim
def OutF(X:Cx)(H:Hp)(Q:VK)(d:D):Prop:=∃J,d=.lst J/\∀l xs W,Same H W->H l=No->W l=So By->Reps X.K W J xs->Q BS W
inductive tF(X:Cx)(call:Ag)(p:Px)(σ:Bp)(H:Hp)(Q:VK):Prop where
 |mk:∀env,ReadOk X.K H σ env->(evD call p env).Good (OutF X H Q) (XW X H)->tF X call p σ H Q
end
structure Gw where
 prog:Program
 w:World
 K:PySem.W.Frag
 mg:Str->Option Value
 base:Heap
 A:Around
variable{G:Gw}
noncomputable def gwOf (X:Cx):Gw:=⟨Xa,X.w,X.K,X.mg,XF,X.A⟩
noncomputable def visB (nm:Bf) (x:Str):Bool:=match nm.lookup x with
 |some .local=>To
 |some .cell=>To
 |some .free=>To
 |_=>Fo
noncomputable def celB (nm:Bf) (x:Str):Bool:=match nm.lookup x with
 |some .cell=>To
 |some .free=>To
 |_=>Fo
noncomputable def locB (nm:Bf) (x:Str):Bool:=match nm.lookup x with
 |some .local=>To
 |some .cell=>To
 |_=>Fo
noncomputable def gloB (nm:Bf) (x:Str):Bool:=match nm.lookup x with
 |some .globalImplicit=>To
 |_=>Fo
structure Ctx(X:Cx)(G:Gw)(N:Ad)(nm:Bf):Prop where
 g:gwOf X=G
 hN:X.N=N
 nd:N.Nodup
 vis:∀x,visB nm x=To->Vis ER x
 cel:∀x,celB nm x=To->X.env.kindOf x=So .cell\/X.env.kindOf x=So .free
 glo:∀x,gloB nm x=To->Gl X x
 sto:∀x,locB nm x=To->Loc ER x/\(X.fn x=To\/X.env.scope.names.lookup x=So .local)
 calm:X.calm=To
 un:X.A.units+64<cLine
 fr:∃e0 out0 L,Xc=e0::out0/\e0.frame=So L/\X.env.frame=So L
def Ctx.K(C:Am):X.K=G.K:=by rw[<-C.g];rfl
def Ctx.mg(C:Am):X.mg=G.mg:=by rw[<-C.g];rfl
def Walk(K:Ai)(e:It)(H:Hp)(J:Ao):Prop:=∀W,Same H W->
 (∀i,i<Ab->e.go i W)/\e.stop Ab W/\∀i x b,i<Ab->e.yld i W x b->Same W b/\∃d,J[i]? =So d/\Rep K b d x
inductive tW(X:Cx)(call:Ag)(p:Px)(σ:Bp)(H:Hp)(R:(It->Hp->Prop)):Prop where
 |mk:∀env,ReadOk X.K H σ env->((evD call p env).Good (λd=>∃ds,d=.lst ds/\∀J H',Same H H'->Walk X.K J H' ds->ItOk J->R J H') AC)->tW X call p σ H R
noncomputable def jB (cs:BH):List (Str×NameKind)->List (Str×Addr)->List (Str×Addr)
 |[],acc=>acc
 |(n,k)::r,acc=>match k,cs.lookup n with
  |.free,So a=>jB cs r ((n,a)::acc)
  |_,_=>jB cs r acc
theorem JaP{O:Env}:∀(b:Bf)(acc:BH),(∀y∈b,y.2=.free->∃c,O.cells.lookup y.1=So c)->
  (forIn b acc λx r=>if(x.2==Yl)=To then do let a<-cellOf O x.1;pure (ForInStep.yield ((x.1,a)::r))else pure Rw:Sem (List (Str×Addr)))=pure (jB QcI b acc)
 |[],acc,_=>rfl
 |(n,k)::r,acc,h=>by
  rw[eL]
  by_cases f:k=.free
  ·subst f
   obtain⟨c,l⟩:=h (n,.free) (.head _) rfl
   have e:O.cells.lookup n=So c:=l
   have m:cellOf O n=pure c:=by unfold cellOf;rw[e]
   simp only[ZB,if_true,m]
   have i:=JaP r ((n,c)::acc) λy g=>h y (.tail _ g)
   simp only[jB,e]
   exact i
  ·have q:(k==Yl)=Fo:=by simpa using f
   simp only[q,Zh,Zo]
   have i:=JaP r acc λy g=>h y (.tail _ g)
   have j:jB QcI ((n,k)::r) acc=jB QcI r acc:=by
    cases k<;>first|rfl|exact absurd rfl f
   rw[j];exact i
def JeB{O:Env}(h:∀y∈scope.names,y.2=.free->∃c,O.cells.lookup y.1=So c):closureFor scope O=pure (jB QcI XJ []):=by have e:=JaP (O:=O) XJ [] h;unfold closureFor;simp only[bind_pure];exact e
theorem xR:∀(b:Bf)(acc:BH),(∀x c,acc.lookup x=So c->cs.lookup x=So c)->∀x c,'Ռ'.lookup x=So c->cs.lookup x=So c
 |[],acc,h=>h
 |(n,k)::r,acc,h=>by
  intro x c
  have keep:=xR r acc h x c
  unfold jB
  split
  ·rename_i a g
   refine xR r _ (λy d e=>?_) x c
   by_cases f:y=n
   ·subst f
    simp only[Zm,ZB]at e
    cases e
    exact g
   ·have i:(y==n)=Fo:=by simpa using f
    simp only[Zm,i]at e
    exact h y d e
  ·exact keep
theorem gZ:∀(b:Bf)(acc:BH)(x:Str),(∃c,acc.lookup x=So c)->∃c,'Ռ'.lookup x=So c
 |[],acc,x,h=>h
 |(n,k)::r,acc,x,h=>by
  unfold jB
  split
  ·refine gZ r _ x ?_
   by_cases e:x=n
   ·subst e;exact⟨_,by simp only[Zm,ZB];rfl⟩
   ·have f:(x==n)=Fo:=by simpa using e
    obtain⟨c,g⟩:=h
    exact⟨c,by simp only[Zm,f];exact g⟩
  ·exact gZ r acc x h
theorem vR:∀(b:Bf)(acc:BH)(x:Str),(x,Yl)∈b->(∃c,cs.lookup x=So c)->∃c,'Ռ'.lookup x=So c
 |[],acc,x,h,_=>nomatch h
 |(n,k)::r,acc,x,h,f=>by
  rcases Zf.mp h with e|g
  ·cases e
   obtain⟨c,f⟩:=f
   unfold jB
   rw[f]
   exact gZ r _ _ ⟨c,by simp only[Zm,ZB]⟩
  ·unfold jB
   split
   ·exact vR r _ x g f
   ·exact vR r acc x g f
noncomputable def relk (O:Env) (p:Str×NameKind):Str×NameKind:=if(p.2==Yl&&O.scope.kind==.function&&O.kindOf p.1==So .cell)=To then(p.1,XC)else(p.1,p.2)
def eX(O:Env)(n:Str)(k:bN):relk O (n,k)=(n,k)\/(k=.free/\relk O (n,k)=(n,.cell)):=by
 unfold relk;split
 ·rename_i b;simp only[Zc,ZD]at b;exact .inr ⟨b.1.1,rfl⟩
 ·exact .inl rfl
def Jfi(scope:Ba)(O:Env):'Ҿ'.names=scope.names.map aG:=rfl
theorem zZ{O:Env}{x:Str}:∀{b:Bf}{k:bN},b.lookup x=So k->(b.map aG).lookup x=So k\/(k=.free/\(b.map aG).lookup x=So .cell)
 |[],_,h=>by simp at h
 |(n,k')::r,k,h=>by
  rw[Zg]
  by_cases f:x=n
  ·subst f
   simp only[Zm,ZB]at h
   cases h
   rcases eX O x k' with e|⟨i,e⟩
   ·rw[e];exact .inl (by simp only[Zm,ZB])
   ·rw[e];exact .inr ⟨i,by simp only[Zm,ZB]⟩
  ·have g:(x==n)=Fo:=by simpa using f
   simp only[Zm,g]at h
   have j:=zZ (O:=O) h
   rcases eX O n k' with e|⟨_,e⟩<;>rw[e]<;>simp only[Zm,g]<;>exact j
theorem JgV{O:Env}{x:Str}:∀{b:Bf},b.lookup x=No->(b.map aG).lookup x=No
 |[],_=>rfl
 |(n,k')::r,h=>by
  rw[Zg]
  by_cases f:x=n
  ·subst f;simp only[Zm,ZB]at h;cases h
  ·have g:(x==n)=Fo:=by simpa using f
   simp only[Zm,g]at h
   have i:=JgV (O:=O) h
   rcases eX O n k' with e|⟨_,e⟩<;>rw[e]<;>simp only[Zm,g]<;>exact i
def Js{O:Env}{k:bN}(h:scope.names.lookup x=So k):'Ҿ'.names.lookup x=So k\/(k=.free/\(relabel scope O).names.lookup x=So .cell):=zZ h
def JV{O:Env}{k:bN}(h:'Ҿ'.names.lookup x=So k):scope.names.lookup x=So k\/(k=.cell/\scope.names.lookup x=So .free):=by
 rw[Jfi]at h;cases q:scope.names.lookup x with
 |none=>rw[JgV q]at h;cases h
 |some f=>
  rcases zZ (O:=O) q with z|⟨b,e⟩
  ·rw[z]at h;cases h;exact .inl rfl
  ·rw[e]at h;cases h;subst b;exact .inr Ce
theorem mem_of_lookup{α:Type}:∀{l:List (Str×α)}{x:Str}{a:α},l.lookup x=So a->(x,a)∈l
 |[],_,_,h=>by simp at h
 |(n,b)::r,x,a,h=>by
  by_cases e:x=n
  ·subst e;simp only[Zm,ZB]at h;cases h;exact .head _
  ·have f:(x==n)=Fo:=by simpa using e
   simp only[Zm,f]at h
   exact .tail _ (mem_of_lookup h)
def Jhi{w:AY}{R:He}{b:Expr}{it acc:An}{O:Env}(I:Nat->Shared->Prop)
  (F:∀n s,I n s->wpAny As A (pyNext it) (λr l=>match r with
   |none=>R (.ok .next) l
   |some v=>wpAny As A (letOwnedTupleGo b it v) (λ_ g=>wpAny As A (assign b O v) (λ_ q=>
     wpAny As A (forIn ifs To λc r=>if r=To then do let ok<-isTrue c O (eval c O);pure (ForInStep.yield ok)else pure Rw) (λok i=>
      if ok=To then wpAny As A (eval elt O) (λx B=>
       wpAny As A (PySem.call (.builtin "list.append") [acc,x]) (λ_ z=>∃m,m<n/\I m z) Hl B) Hl i
      else∃m,m<n/\I m i) Hl q) Hl g) Hl l) Hl s)
  (n:Nat) (h:I n s):
  codeAny As A (.compLoop VV 0 it acc O) R s:=by
 refine codeAny_loop rfl I (λn s hI=>?_) n h;show wpAny _ A ((compTurn VV 0 it acc O).onRaise (λx=>do noteFrame x O;theTreesLotGoes x)) _ _ s;refine wpAny_noted ?_;rw[compTurn_list];refine Za (wpAny_standAt (Za (ZV (F n s hI) (λr l y=>?_) λ_ _ f=>f)));cases r with
 |none=>exact Zb y
 |some v=>
  refine Za (ZV y (λ_ g C=>?_) λ_ _ f=>f);refine Za (ZV C (λ_ q U=>Za (ZV U (λok i u=>?_) λ_ _ f=>f)) λ_ _ f=>f);cases ok with
  |false=>exact Zb ⟨rfl,u⟩
  |true=>exact Za (Za (ZV u (λx B L=>Za (ZV L (λ_ z M=>Zb (Zb ⟨rfl,M⟩)) λ_ _ f=>f)) λ_ _ f=>f))
noncomputable def dum (n:Str):Str:=⟨n.cps.push 0⟩
def hidN (ls N:Ad):List Str:=N.map λn=>if ls.contains n then dum n else n
theorem kX:∀(b:Bf)(n:Nat)(acc:BH)(x:Str)(c:Addr),'Ƣ'.lookup x=So c->acc.lookup x=So c\/(n<=c/\(x,XC)∈b)
 |[],_,_,_,_,h=>.inl h
 |(y,k)::r,n,acc,x,c,h=>by
  unfold cellsFrom at h
  split at h
  ·rename_i i
   rw[ZD]at i
   subst i
   rcases kX r (n+1) _ x c h with q|⟨e,f⟩
   ·by_cases g:x=y
    ·subst g
     simp only[Zm,ZB,ZT]at q
     subst q
     exact .inr ⟨Zj _,by simp⟩
    ·have j:(x==y)=Fo:=by simpa using g
     simp only[Zm,j]at q
     exact .inl q
   ·exact .inr ⟨yO e,by simp[f]⟩
  ·rcases kX r n acc x c h with q|⟨e,f⟩
   ·exact .inl q
   ·exact .inr ⟨e,by simp[f]⟩
theorem sV:∀(b:Bf)(n:Nat)(acc:BH),(∀x c,acc.lookup x=So c->c<n)->(∀x y c,acc.lookup x=So c->acc.lookup y=So c->x=y)->∀x y c,'Ƣ'.lookup x=So c->'Ƣ'.lookup y=So c->x=y
 |[],_,_,_,h=>h
 |(z,k)::r,n,acc,hlt,h=>by
  unfold cellsFrom
  split
  ·refine sV r (n+1) _ (λx c e=>?_) λx y c j i=>?_
   ·by_cases f:x=z
    ·subst f
     simp only[Zm,ZB,ZT]at e
     subst e;exact Zbp _
    ·have g:(x==z)=Fo:=by simpa using f
     simp only[Zm,g]at e
     exact eC (hlt x c e)
   ·by_cases f:x=z<;>by_cases l:y=z
    ·rw[f,l]
    ·subst f
     have g:(y==x)=Fo:=by simpa using l
     simp only[Zm,ZB,ZT]at j
     simp only[Zm,g]at i
     subst j
     exact absurd (hlt y _ i) Cz
    ·subst l
     have g:(x==y)=Fo:=by simpa using f
     simp only[Zm,ZB,ZT]at i
     simp only[Zm,g]at j
     subst i
     exact absurd (hlt x _ j) Cz
    ·have g:(x==z)=Fo:=by simpa using f
     have m:(y==z)=Fo:=by simpa using l
     simp only[Zm,g]at j
     simp only[Zm,m]at i
     exact h x y c j i
  ·exact sV r n acc hlt h
theorem jW:∀(b:Bf)(n:Nat)(acc:BH)(x:Str),(x,XC)∉b->'Ƣ'.lookup x=acc.lookup x
 |[],_,_,_,_=>rfl
 |(y,k)::r,n,acc,x,h=>by
  unfold cellsFrom
  split
  ·rename_i f
   rw[ZD]at f
   rw[jW r _ _ x λq=>h (by simp[q])]
   have g:x≠y:=λe=>h (by simp[e,f])
   have i:(x==y)=Fo:=by simpa using g
   simp only[Zm,i]
  ·exact jW r _ _ x λq=>h (by simp[q])
theorem wQ:∀(b:Bf)(n:Nat)(acc:BH)(x:Str),(∃c,acc.lookup x=So c)->∃c,'Ƣ'.lookup x=So c
 |[],_,_,_,h=>h
 |(y,k)::r,n,acc,x,h=>by
  unfold cellsFrom
  split
  ·refine wQ r _ _ x ?_
   by_cases e:x=y
   ·exact⟨n,by simp[Zm,e]⟩
   ·have f:(x==y)=Fo:=by simpa using e
    simpa only[Zm,f]using h
  ·exact wQ r _ _ x h
theorem JqF:∀(b:Bf)(n:Nat)(acc:BH)(x:Str),(x,XC)∈b->∃c,'Ƣ'.lookup x=So c
 |[],_,_,_,h=>by cases h
 |(y,k)::r,n,acc,x,h=>by
  unfold cellsFrom
  rcases Zf.mp h with q|q
  ·cases q
   simp only[ZB,if_true]
   exact wQ r _ _ _ ⟨n,by simp[Zm]⟩
  ·split<;>exact JqF r _ _ x q
theorem mW:∀(b:Bf)(h:Heap)(acc:BH)(x:Str)(c:Addr),(cellsFrom BE b acc).lookup x=So c->acc.lookup x=So c\/(BE<=c/\(pushCells h b).IsCell c No)
 |[],_,_,_,_,e=>.inl e
 |(y,k)::r,h,acc,x,c,e=>by
  unfold cellsFrom at e
  unfold pushCells
  split at e
  ·rename_i f
   rw[if_pos f]
   have g:(h.push {cls:=.type "cell",data:=.cell No}).objs.size=BE+1:=ZO ..
   rw[<-g]at e
   rcases mW r (h.push {cls:=.type "cell",data:=.cell No}) _ x c e with q|⟨m,j⟩
   ·by_cases i:x=y
    ·subst i
     simp only[Zm,ZB,ZT]at q
     subst q
     exact .inr ⟨Zj _,_,lO _ _ _ _ FP,rfl⟩
    ·have l:(x==y)=Fo:=by simpa using i
     simp only[Zm,l]at q
     exact .inl q
   ·exact .inr ⟨by lia,j⟩
  ·rename_i f
   rw[if_neg f]
   exact mW r h acc x c e
theorem gV{lo:Nat}:∀(b:Bf)(n:Nat)(acc:BH)(x:Str),lo<=n->((x,XC)∈b\/∀c,acc.lookup x=So c->lo<=c)->∀c,'Ƣ'.lookup x=So c->lo<=c
 |[],_,_,_,_,h,c,e=>by
  rcases h with h|h
  ·cases h
  ·exact h c e
 |(y,k)::r,n,acc,x,hn,h,c,e=>by
  unfold cellsFrom at e
  split at e
  ·refine gV r (n+1) _ x (Nat.le_succ_of_le hn) ?_ c e
   by_cases g:x=y
   ·refine .inr λi f=>?_
    subst g
    simp only[Zm,ZB,ZT]at f
    subst f;exact hn
   ·have l:(x==y)=Fo:=by simpa using g
    rcases h with h|h
    ·rcases Zf.mp h with q|q
     ·cases q;exact absurd rfl g
     ·exact .inl q
    ·refine .inr λi f=>?_
     simp only[Zm,l]at f
     exact h i f
  ·rename_i j
   refine gV r n acc x hn ?_ c e
   rcases h with h|h
   ·rcases Zf.mp h with q|q
    ·cases q;exact absurd (ZB _) j
    ·exact .inl q
   ·exact .inr h
def sN (X:Cx) (ls:Ad) (scope:Ba) (C:Addr) (s:Ak) (H:Hp) (fp:A3) (E:AZ):Cx:=
 {X with N:=ls++hidN ls X.N,s₀:=s,H₀:=H,env:=compEnvC scope (cellsFrom (C+1) XJ (jB X.env.cells XJ [])) C WU,outer:=Xc,ex:=fp,fn:=λx=>scope.names.lookup x==So .cell,pn:=[],xe:=E}
def Juw (N:Ad) (nm:Bf) (ls:Ad) (b:Bf):Bool:=
 b.all λy=>(y.2 !=.cell||(b.lookup y.1==So .cell&&ls.contains y.1))&&(y.2 !=.free||celB nm y.1)&&(y.2 !=.local||(b.lookup y.1==So .local&&(ls.contains y.1||!N.contains y.1)))
structure ScOk(N:Ad)(nm:Bf)(ls:Ad)(sc:Ba):Prop where
 kind:sc.kind=.function
 nd:(ls++hidN ls N).Nodup
 all:Juw N nm ls Xo=To
 no:∀n∈N,ls.contains n=To->sc.names.lookup (dum n)=No
section
variable{ls:Ad}{sc:Ba}
def ScOk.at(h:EN){y:Str×NameKind}(b:y∈sc.names):(y.2=.cell->sc.names.lookup y.1=So .cell/\y.1∈ls)/\(y.2=.free->celB nm y.1=To)/\(y.2=.local->sc.names.lookup y.1=So .local/\(y.1∈ls\/y.1∉N)):=by
 have q:=ZZ.mp h.all y b;simp only[Zc,bne_iff_ne,nB,ZD,rA,sL,Zp,ZP]at q;refine⟨λe=>?_,λe=>?_,λe=>?_⟩
 ·rcases q.1.1 with z|z
  ·exact absurd e z
  ·exact z
 ·rcases q.1.2 with z|z
  ·exact absurd e z
  ·exact z
 ·rcases q.2 with z|z
  ·exact absurd e z
  ·exact z
def ScOk.fcell(h:EN)(b:sc.names.lookup x=So .free):(x,XC)∉sc.names:=λq=>by
 have:=((h.at q).1 rfl).1
 rw[b]at this;cases this
def ScOk.cells(h:EN)(C:Am)(ok:X.Ok):∀y∈sc.names,y.2=.free->∃c,X.env.cells.lookup y.1=So c:=λy b e=>ok.has _ (C.cel _ ((h.at b).2.1 e))
def Jol(C:Am)(h:EN):Ctx PU G Dg Xo where
 g:=C.g
 hN:=by show ls++hidN ls X.N=_;rw[C.hN]
 nd:=h.nd
 vis:=λx b=>by
  show Vis 'ǯ' x
  unfold visB at b
  split at b
  ·rename_i e
   rcases Js (O:=WU) e with z|⟨z,_⟩
   ·exact .inl z
   ·cases z
  ·rename_i e
   rcases Js (O:=WU) e with z|⟨z,_⟩
   ·exact .inr Yx
   ·cases z
  ·rename_i e
   rcases Js (O:=WU) e with z|⟨_,z⟩
   ·exact .inr aH
   ·exact .inr Yx
  ·cases b
 cel:=λx b=>by
  show(relabel sc WU).names.lookup x=So .cell\/(relabel sc WU).names.lookup x=So .free
  unfold celB at b
  split at b
  ·rename_i e
   rcases Js (O:=WU) e with z|⟨z,_⟩
   ·exact .inl z
   ·cases z
  ·rename_i e
   rcases Js (O:=WU) e with z|⟨_,z⟩
   ·exact .inr z
   ·exact .inl z
  ·cases b
 glo:=λx b=>by
  show(relabel sc WU).names.lookup x=So .globalImplicit
  unfold gloB at b
  split at b
  ·rename_i e
   rcases Js (O:=WU) e with z|⟨z,_⟩
   ·exact z
   ·cases z
  ·cases b
 sto:=λx b=>by
  show Loc 'ǯ' x/\((sc.names.lookup x==So .cell)=To\/(relabel sc WU).names.lookup x=So .local)
  unfold locB at b
  split at b
  ·rename_i e
   rcases Js (O:=WU) e with z|⟨z,_⟩
   ·exact⟨.inl z,.inr z⟩
   ·cases z
  ·rename_i e
   rcases Js (O:=WU) e with z|⟨z,_⟩
   ·exact⟨.inr z,.inl (by rw[e];rfl)⟩
   ·cases z
  ·cases b
 calm:=Xp
 un:=C.un
 fr:=C.fr
noncomputable abbrev sD (its:Az) (n:Nat):Obj:={cls:=.type "list",dict:=No,data:=.seq Ap n}
theorem Jov{g:Heap}{tk:Nat}{m:BY}{h0:Heap}(C:Am)(h:EN)(hh:g=pushCells h0 Xo)(h0s:h0.objs.size=Cd+1)(I:AG)
  (hf:∀b∈fp,FpOk X Y H b) (ho:∀b∈fp,∃o,s.heap.get? b=So o) (hC:Cd=Aa+1) (hns:g.Ns Cd m) (keep:∀b o,s.heap.get? b=So o->g.get? b=So o)
  (hacc:g.get? Aa=So (sD [] 0)):
  Inv PU [(Aa,sD [] 0)] (List.replicate Ax No++Z) H {s with heap:=g,toks:=tk}:=by
 subst hC
 have sub:∀x c,'ŀ'.lookup x=So c->X.env.cells.lookup x=So c:=xR Xo [] λx c e=>by simp at e
 have old':∀x c,'ŀ'.lookup x=So c->c<Aa:=λx c e=>by
  obtain⟨v,o,h1,h2⟩:=I.cell x c (sub x c e)
  exact Zk h1
 have F:∀x c,(cellsFrom (Aa+1+1) Xo 'ŀ').lookup x=So c->X.env.cells.lookup x=So c\/(Aa+1+1<=c/\g.IsCell c No):=λx c e=>by
  rw[<-h0s]at e
  rcases mW Xo h0 _ x c e with q|⟨q1,q2⟩
  ·exact .inl (sub x c q)
  ·exact .inr ⟨h0s▸q1,hh▸q2⟩
 have stk:∀b∈frs Xc,b<Aa:=λb L=>by
  obtain⟨_,o,ho,_⟩:=I.stack.mem L
  exact Zk ho
 refine⟨⟨bT,h.kind,I.ok.glob,I.ok.blt,iC _,sV _ _ _ (λx c e=>eC (eC (old' x c e))) λx y c e1 e2=>I.ok.inj x y c (sub x c e1) (sub y c e2),λx hk=>?_,λx c z e=>?_,I.ok.hd,cX,.inl rfl,λb L=>?_,I.bs,ZM I.ok.bsz I.sz,λb o e L=>?_,λb L hz=>?_,I.stack,I.stkFree⟩,
  rfl,Xs,Un.kept keep,⟨m,hns,λi x v hN B hv=>?_⟩,λx c e=>?_,?_,λx c e=>?_,λp hp=>?_,I.hok.kept keep,?_⟩
 ·--every cell name has its cell
  have hk':'ǯ'.names.lookup x=So .cell\/(relabel sc WU).names.lookup x=So .free:=hk
  have j:sc.names.lookup x=So .free\/sc.names.lookup x=So .cell:=by
   rcases hk' with z|z
   ·rcases JV z with q|⟨_,q⟩
    ·exact .inr q
    ·exact .inl q
   ·rcases JV z with q|⟨q,_⟩
    ·exact .inl q
    ·cases q
  rcases j with j|j
  ·have hm:=mem_of_lookup j
   exact wQ _ _ _ _ (vR Xo [] x hm (h.cells C I.ok (x,.free) hm rfl))
  ·exact JqF _ _ _ _ (mem_of_lookup j)
 ·have z':sc.names.lookup x=So .cell:=by
   have z2:(sc.names.lookup x==So .cell)=To:=z
   simpa using z2
  have U:(cellsFrom (Aa+1+1) Xo 'ŀ').lookup x=So c:=e
  have:=gV (lo:=Aa+1+1) _ _ _ _ (Zj _) (.inl (mem_of_lookup z')) c U
  show Aa<=c
  lia
 ·obtain⟨o,e⟩:=ho b L
  refine⟨Zr (eC (Zk e)),λx c U=>?_⟩
  rcases F x c U with q|⟨q,_⟩
  ·exact(hf b L).2.2.2.2.1 x c q
  ·have:=Zk e
   exactλee=>nP _ (Zw (eC (eC this)) (ee▸q))
 ·rcases(hf b L).2.2.2.1 with z|z
  ·exact I.ok.noex b o e z
  ·exact absurd (Zw (Zk (I.ok.bs b o e).1) z) Cz
 ·rcases Zf.mp (I.stkSub b hz)with z|z
  ·exact(hf b L).2.1 z
  ·exact(hf b L).2.2.1 z
 ·--a name that the block sees
  have f:(ls++hidN ls X.N)[i]? =So x:=hN
  by_cases hi:i<Ax
  ·rw[eF (by simpa using hi)]at B
   rw[kP]at B
   split at B<;>cases B
  ·have hi':Ax<=i:=Nat.le_of_not_lt hi
   rw[fF hi']at f
   rw[fF (by simpa using hi')]at B
   rw[zG]at B
   obtain⟨f,hxl⟩:X.N[i-Ax]? =So x/\x∉ls:=by
    unfold hidN at f
    rw[oB]at f
    cases q:X.N[i-Ax]? with
    |none=>rw[q]at f;cases f
    |some n=>
     rw[q]at f
     simp only[Option.map_some,ZT]at f
     by_cases hc:ls.contains n=To
     ·rw[if_pos hc]at f
      have hno:=h.no n (by rw[<-C.hN];exact tL q) hc
      rw[f]at hno
      have M:'ǯ'.names.lookup x=So .local\/(relabel sc WU).names.lookup x=So .cell\/(relabel sc WU).names.lookup x=So .free:=hv
      exfalso
      rcases M with z|z|z<;>rcases JV z with q|⟨_,q⟩<;>(rw[hno]at q;cases q)
     ·rw[if_neg hc]at f
      subst f
      exact⟨rfl,by simpa using hc⟩
   have hxN:x∈N:=by rw[<-C.hN];exact tL f
   have j:sc.names.lookup x=So .free:=by
    have M:'ǯ'.names.lookup x=So .local\/(relabel sc WU).names.lookup x=So .cell\/(relabel sc WU).names.lookup x=So .free:=hv
    rcases M with z|z|z
    ·rcases JV z with q|⟨q,_⟩
     ·have w:=((h.at Qai).2.2 rfl).2
      rcases w with w|w
      ·exact absurd w hxl
      ·exact absurd hxN w
     ·cases q
    ·rcases JV z with q|⟨_,q⟩
     ·exact absurd ((h.at Qai).1 rfl).2 hxl
     ·exact q
    ·rcases JV z with q|⟨q,_⟩
     ·exact q
     ·cases q
   have hm:=mem_of_lookup j
   have hk:=C.cel x ((h.at hm).2.1 rfl)
   have hvX:Vis ER x:=by
    rcases hk with z|z
    ·exact .inr Yx
    ·exact .inr aH
   obtain⟨m0,_,hl⟩:=Xz
   obtain⟨u,r,l⟩:=hl (i-Ax) x v f B hvX
   refine⟨u,r,.inr FD⟩
   ·show(relabel sc WU).names.lookup x=So .cell\/(relabel sc WU).names.lookup x=So .free
    rcases Js (O:=WU) j with z|⟨_,z⟩
    ·exact .inr z
    ·exact .inl z
   ·rcases l with⟨z,_⟩|⟨_,c,e,z⟩
    ·rcases hk with w|w<;>(rw[w]at z;cases z)
    ·obtain⟨c',U⟩:=vR (cs:=X.env.cells) Xo [] x hm ⟨c,e⟩
     have e2:=sub x c' U
     rw[e]at e2
     cases e2
     obtain⟨o,h1,h2⟩:=z
     exact⟨c,(jW _ _ _ _ (h.fcell j)).trans U,o,keep _ _ h1,h2⟩
 ·rcases F x c e with q|⟨_,q⟩
  ·obtain⟨v,o,h1,h2⟩:=I.cell x c q
   exact⟨v,o,keep _ _ h1,h2⟩
  ·exact⟨No,q⟩
 ·exact I.hok.fresh (iC _)
 ·rcases F x c e with q|⟨q,_⟩
  ·exact I.freeC x c q
  ·exact I.hok.fresh Ae
 ·have e:p=(Aa,sD [] 0):=by simpa[sN]using hp
  subst e
  exact⟨hacc,I.hok.fresh (Zj _),Zr Yu,λL=>nP _ (stk _ L),λv z=>(by cases z)⟩
 ·show(List.replicate Ax No++Z).length=(ls++hidN ls X.N).length
  rw[Zy,Zy,zG,I.len]
  unfold hidN
  rw[Ze]
end
open PySem.SeqAt (EqAt RcAt RcNeAt)
theorem JiU:∀{as bs:Ao},eqvs as bs=To->Z1=Qdt
 |[],[],_=>rfl
 |[],_::_,h=>nomatch h
 |_::_,[],h=>nomatch h
 |a::as,b::bs,h=>by
  simp[JiU (Bool.and_eq_true_iff.mp h).2]
theorem oZ:∀e bs:List D,e.length=bs.length->eqvs e bs=(List.range e.length).all λj=>(e.getD j .non).eqv (bs.getD j .non)
 |[],[],_=>rfl
 |a::e,b::bs,h=>by
  have f:=oZ e bs (by simpa using h)
  rw[Zl,qT,oG,kK]
  rw[Jrd,f]
  rfl
def JlD{as bs:Ao}(h:as.length≠bs.length):eqvs as bs=Fo:=by
 cases e:eqvs as bs with
 |false=>rfl
 |true=>exact absurd (JiU e) h
theorem lQ:∀{J:Ao}{n j:Nat},deps J<=n->'Ǥ'.dep<=n
 |[],n,j,_=>by simp[D.dep]
 |d::J,n,0,h=>by simp only[deps]at h;simp;lia
 |d::J,n,j+1,h=>by
  simp only[deps]at h
  have:=lQ (J:=J) (n:=n) (j:=j) Ae
  simpa using this
section
variable{X:Cx}{Y:AQ}{Z:Bp}{H:Hp}{s:Ak}
def JfN(I:BW){ys:AA}(h1:HL)(i:SqT X.K H a ys):False:=by obtain⟨its,_,l,_⟩:=I.list h1;obtain⟨b,_,h,_⟩:=I.tuple i;obtain⟨o,e,c,_⟩:=l.isList;obtain⟨m,f,g,_⟩:=h;rw[e]at f;cases f;rw[c]at g;injection g with j;exact absurd j AO
inductive KD(X:Cx)(H:Hp):D->V->Prop
 |non:KD X H .non .non
 |bl (b:Bool):KD X H (.bl b) (.bl b)
 |int (i:Int):KD X H (.int i) (.int i)
 |str (x:Str):KD X H (.str x) (.str x)
 |tup {ds:List D} {a:Addr} {xs:List V} (h:SqT X.K H a xs) (r:Reps X.K H ds xs):KD X H (.tup ds) (.ref a)
 |lst {ds:List D} {a:Addr} {xs:List V} (h:SqL X.K H a xs) (r:Reps X.K H ds xs):KD X H (.lst ds) (.ref a)
def kd(p:d.dep<1000)(r:Ht):KD X H d v:=by
 cases d with
 |non=>cases r;exact .non
 |bl b=>cases r;exact .bl b
 |int i=>cases r;exact .int i
 |str x=>cases r;exact .str x
 |tup J=>obtain⟨a,xs,rfl,f,e⟩:=r;exact .tup f e
 |lst J=>obtain⟨a,xs,rfl,f,e⟩:=r;exact .lst f e
 |_=>simp[D.dep]at p
theorem sX{n:Nat}(b:∀{d d':D}{v:V},aO<=n->d'.dep<1000->Rep X.K H d v->Rep X.K H d' v->d=d'):∀{J es:Ao}{xs:AA},deps J<=n->deps es<1000->Reps X.K H J xs->Reps X.K H es xs->J=es
 |[],es,xs,_,_,h,h'=>by
  cases h
  cases es with
  |nil=>rfl
  |cons _ _=>obtain⟨_,_,e,_⟩:=h';cases e
 |d::J,[],_,_,_,⟨_,_,e,_⟩,h'=>by cases e;cases h'
 |d::J,c::es,_,p,p',⟨x,r,e,h1,h2⟩,⟨x',r',e1,h3,h4⟩=>by
  cases e;cases e1
  simp only[deps]at p p'
  rw[b 'c' 'c' h1 h3,sX b 'c' 'c' h2 h4]
def Rep.inj(I:BW)(n:Nat):n<1000->∀{d d':D}{v:V},aO<=n->d'.dep<1000->Rep X.K H d v->Rep X.K H d' v->d=d':=by
 induction n using Nat.strongRecOn with
 |_ n j=>
  intro m d d' v p h r i;have k:=kd Ae r;have l:=kd h i;clear r i;rcases k with _|_|_|_|⟨b,g⟩|⟨b,g⟩<;>rcases l with _|_|_|_|⟨e,f⟩|⟨e,f⟩<;>first|rfl|skip
  ·cases I.tuple_inj b e;simp only[D.dep]at p h;rw[sX (n:=n-1) (λq=>j (n-1) Ae Ae q) 'c' 'c' g f]
  ·exact(JfN I e b).elim
  ·exact(JfN I b e).elim
  ·cases I.list_inj b e;simp only[D.dep]at p h;rw[sX (n:=n-1) (λq=>j (n-1) Ae Ae q) 'c' 'c' g f]
def Jjv(I:BW)(f:FR)(b:GU){j:Nat}(h:j<BK):∃v,Rep X.K H 'Ǥ' v/\RelV v Ap[j]:=by
 have i:j<AU:=by simpa using h
 have w:=YM;have r:=XS;have n:J[j]? =So 'Ǥ':=by rw[pL,Zq 'c'];rfl
 obtain⟨v,q,m⟩:=f.get n;obtain⟨u,g,l⟩:=b.get q;refine⟨v,m,?_⟩;have:Ap[j]=u:=by have e:its[j]? =So u:=g;rw[Zq i]at e;simpa using e
 rw[this];exact l
inductive KU(X:Cx)(H:Hp)(s:Ak):D->Value->Prop
 |non:KU X H s .non .none
 |bl (b:Bool):KU X H s (.bl b) (.bool b)
 |int (i:Int) (t:Tok):KU X H s (.int i) (.int i t)
 |str (x:Str) (t:Tok):KU X H s (.str x) (.str x t)
 |tup {ds:List D} {a:Addr} {xs:List V} {its:List Value} (r:Reps X.K H ds xs) (v:Vals xs its) (p:IsTup s.heap a 'Ɔ'):KU X H s (.tup ds) (.ref a)
 |lst {ds:List D} {a:Addr} {xs:List V} {its:List Value} (r:Reps X.K H ds xs) (v:Vals xs its) (p:s.heap.IsList a 'Ɔ'):KU X H s (.lst ds) (.ref a)
def ku(I:BW){u:An}(p:d.dep<1000)(r:Ht)(q:Fk):KU X H s d u:=by
 cases kd p r with
 |non=>cases q;exact .non
 |bl b=>cases q;exact .bl b
 |int i=>obtain⟨t,rfl⟩:=q;exact .int i t
 |str x=>obtain⟨t,rfl⟩:=q;exact .str x t
 |tup f e=>cases q;obtain⟨its,g,h,_⟩:=I.tuple f;exact .tup e g h
 |lst f e=>cases q;obtain⟨its,g,h,_⟩:=I.list f;exact .lst e g h.isList
def EqAt.rc{u f:An}{k:Bool}(q:KU X H s d u)(h:RcAt A s u f k)(g:u=f->k=To):EqAt A s u f k:=λprog w E Q b=>by
 unfold eqBool
 refine vA (sG (λe=>?_) λ_=>?_)
 ·rw[g (gG e)]at b
  exact Za (uA (Zb b))
 ·cases q<;>exact Za (h prog w E _ (pB b))
theorem iU(I:BW)(n:Nat):∀(A:BX)(d d':D){v U:V}{u y:An},aO<=n->n<=900->d'.dep<1000->Rep X.K H d v->Rep X.K H d' U->RelV v u->RelV U y->X8+n+1<cLine->
  RcAt A s u y (d.eqv d')/\RcNeAt A s u y (!d.eqv d')/\EqAt A s u y (d.eqv d'):=by
 induction n using Nat.strongRecOn with
 |_ n ih=>
  intro A d d' v U u y p hn C r O q M hu;have k:=ku I Ae r q;have k':=ku I C O M;suffices z:RcAt A s u y (d.eqv d')/\RcNeAt A s u y (!d.eqv d')from⟨z.1,z.2,EqAt.rc k z.1 λe=>by subst e;cases q.inj M;rw[<-Rep.inj I n 'c' p C r O];exact oM d Ae⟩
  have b:A.units<cLine:=by lia
  have L:∀{J i:Ao}{xs ys:AA}{its its2:Az},(D.tup J).dep<=n->(D.tup i).dep<1000->Reps X.K H J xs->Reps X.K H i ys->Vals xs its->Vals ys its2->∀j(g1:j<BK)(g2:j<ES),EqAt Xk s Ap[j] its2.toArray[j] ('Ǥ'.eqv QbE):=λz1 z2 h2 m w h j g1 g2=>by obtain⟨w1,k1,k2⟩:=Jjv I h2 w g1;obtain⟨w2,k3,k4⟩:=Jjv I m h g2;simp only[D.dep]at z1 z2;exact(ih (n-1) Ae Xk _ _ (lQ Ae) Ae (uC (lQ (Zj _)) Ae) k1 k3 k2 k4 (by show A.units+1+(n-1)+1<cLine;lia)).2.2
  clear ih r O q M;rcases k with _|_|_|_|@⟨J,_,_,its,h2,w,f⟩|@⟨J,_,_,its,h2,w,f⟩<;>rcases k' with _|_|_|_|@⟨i,_,_,its2,m,h,g⟩|@⟨i,_,_,its2,m,h,g⟩
  ·exact⟨.none_none,.none_none⟩
  ·exact⟨.none_bool _,.none_bool _⟩
  ·exact⟨.none_int _ _,.none_int _ _⟩
  ·exact⟨.none_str _ _,.none_str _ _⟩
  ·exact⟨.none_tuple g b,.none_tuple g b⟩
  ·exact⟨.none_list g b,.none_list g b⟩
  ·exact⟨.bool_none _,.bool_none _⟩
  ·exact⟨.bool_bool _ _,.bool_bool _ _⟩
  ·exact⟨.bool_int _ _ _,.bool_int _ _ _⟩
  ·exact⟨.bool_str _ _ _,.bool_str _ _ _⟩
  ·exact⟨.bool_tuple _ g b,.bool_tuple _ g b⟩
  ·exact⟨.bool_list _ g b,.bool_list _ g b⟩
  ·exact⟨.int_none _ _,.int_none _ _⟩
  ·exact⟨.int_bool _ _ _,.int_bool _ _ _⟩
  ·exact⟨.int_int _ _ _ _,.int_int _ _ _ _⟩
  ·exact⟨.int_str _ _ _ _,.int_str _ _ _ _⟩
  ·exact⟨.int_tuple _ _ g b,.int_tuple _ _ g b⟩
  ·exact⟨.int_list _ _ g b,.int_list _ _ g b⟩
  ·exact⟨.str_none _ _,.str_none _ _⟩
  ·exact⟨.str_bool _ _ _,.str_bool _ _ _⟩
  ·exact⟨.str_int _ _ _ _,.str_int _ _ _ _⟩
  ·exact⟨.str_str _ _ _ _,.str_str _ _ _ _⟩
  ·exact⟨.str_tuple _ _ g b,.str_tuple _ _ g b⟩
  ·exact⟨.str_list _ _ g b,.str_list _ _ g b⟩
  ·exact⟨.tuple_none f b,.tuple_none f b⟩
  ·exact⟨.tuple_bool _ f b,.tuple_bool _ f b⟩
  ·exact⟨.tuple_int _ _ f b,.tuple_int _ _ f b⟩
  ·exact⟨.tuple_str _ _ f b,.tuple_str _ _ f b⟩
  ·have B:BK=Ab:=by rw[Zn,<-w.length,'Ɯ']
   have F:ES=i.length:=by rw[Zn,<-h.length,m.length]
   have ev:((List.range (min BK ES)).all (λj=>'Ǥ'.eqv QbE)&&its.toArray.size==ES)=eqvs J i:=by
    rw[B,F];by_cases l:Ab=bV
    ·rw[oZ J i l,<-l,Nat.min_self];simp
    ·rw[JlD l];simp[l]
   show RcAt A s _ _ (eqvs J i)/\RcNeAt A s _ _ (!eqvs J i);rw[<-ev];exact⟨.tuples f g b L8,.tuples f g b L8⟩
  ·exact⟨.tuple_list f g b,.tuple_list f g b⟩
  ·exact⟨.list_none f b,.list_none f b⟩
  ·exact⟨.list_bool _ f b,.list_bool _ f b⟩
  ·exact⟨.list_int _ _ f b,.list_int _ _ f b⟩
  ·exact⟨.list_str _ _ f b,.list_str _ _ f b⟩
  ·exact⟨.list_tuple f g b,.list_tuple f g b⟩
  ·have B:BK=Ab:=by rw[Zn,<-w.length,'Ɯ']
   have F:ES=i.length:=by rw[Zn,<-h.length,m.length]
   show RcAt A s _ _ (eqvs J i)/\RcNeAt A s _ _ (!eqvs J i);by_cases l:Ab=bV
   ·rw[oZ J i l,<-B];exact⟨.lists f g (by rw[B,F,l]) b L8,.lists f g (by rw[B,F,l]) b L8⟩
   ·rw[JlD l];have hb:('ƈ' !=ES)=To:=by rw[B,F];simpa using l
    exact⟨.lists_lengths f g hb b,.lists_lengths f g hb b⟩
end
section
variable{U:Ag}{c:Expr}{p:Px}
def PIf(X:Cx)(ifs:C6)(t:TT):Prop:=∀(Y:AQ)(s:Ak)(Z:Bp)(H:Hp)(Q:DI),L2.Inv X Y Z H s->t Z H Q->
 wpAny Ay X.A (forIn ifs To λc r=>if r=To then do let ok<-isTrue c WU (eval c WU);pure (ForInStep.yield ok)else pure Rw) Lk X.xe s
def JkM:PIf X [] (tT X U BI):=λY s Z H Q I⟨O,r,b,e,q⟩=>by
 cases e
 exact wpAny_tests_nil ⟨H,I,q H Ea⟩
def Jtw(h:PT X c b8):PIf X [c] b8:=λY s Z H Q I w=>wpAny_tests_one (h Y s Z H Q I w)
def JkT:∀{l:List α},Xn=2->∃a b,l=[a,b]
 |[a,b],_=>⟨a,b,rfl⟩
def TgOk(X:Cx)(tg:Expr)(nt m:Nat):Prop:=∀(Y:AQ)(s:Ak)(h f:Bp)(H:Hp)(d:D)(v:V)(u:An)(b:Fm)(Q:L2.St->Hp->Prop),h.length=m->L2.Inv X Y (h++f) H s->RelV v u->Rep X.K H d v->Jv nt d=.ok b->
 (∀e:L2.St,e.length=m->YM=m->(∀(i:Nat)(g:D),b[i]? =So (So g)->∃w,e[i]? =So (So w)/\Rep X.K H g w)->Q (e++f) H)->
 wpAny Ay X.A (assign tg WU u) OF X.xe s
def Jve(m:X.N[0]? =So x)(nd:Fx)(f:GP)(q:SW):TgOk X Ct 0 1:=by
 intro Y s w n H d v u j Q l I r g b h;refine qC (pos:=pos) nd m f q Y s (w++n) H v u Q I r ?_;obtain⟨y,rfl⟩:=List.length_eq_one_iff.mp l;simp only[Jv,if_true]at b;cases b;refine h [So v] rfl rfl λi z e=>?_;cases i with
 |zero=>simp at e;subst e;exact⟨v,rfl,g⟩
 |succ i=>simp at e
def JuG{y:Str}{k:Nat}{l m:Pos}(hN:X.N[0]? =So x)(j:X.N[1]? =So y)(nd:Fx)(n:GP)(F:SW)
  (B:Loc ER y) (M:X.fn y=To\/X.env.scope.names.lookup y=So .local) (z:Cf):TgOk X (.Tuple [.Name x l,.Name y m] k pos) 2 2:=by
 intro Y s lo hi H d v u q Q hl I r O b h;refine rM (pos:=pos) z (JP (qC (pos:=l) nd hN n F) (JP (qC (pos:=m) nd j B M) kN)) rfl rfl Y s (lo++hi) H v u Q I r ?_;unfold Jv at b;rw[if_neg 'v']at b;cases d with
 |tup J=>
  dsimp only at b;rw[if_neg 'v']at b;split at b
  ·rename_i C;cases b;obtain⟨a,xs,rfl,hq,hr⟩:=O;obtain⟨d0,d1,rfl⟩:=JkT C;obtain⟨g,r0,L,h0,f,r1,e1,h1,w⟩:=hr;subst e1;subst w;subst L;refine⟨a,[g,f],rfl,hq,rfl,g,[f],rfl,f,[],rfl,rfl,?_⟩;obtain⟨l0,l1,rfl⟩:=JkT hl;refine h [So g,So f] rfl rfl λi d' e=>?_;rcases i with _|_|i
   ·simp at e;subst e;exact⟨g,rfl,h0⟩
   ·simp at e;subst e;exact⟨f,rfl,h1⟩
   ·simp at e
  ·cases b
 |_=>cases b
end
def eS{J:List α}{i:Nat}{d:α}(h:J[i]? =So d):J.drop i=d::J.drop AE:=by obtain⟨b,e⟩:=Zz.mp h;rw[dU b,e]
def ReadOk.front{K:Ai}{lo hi:Bp}{new O:Fm}(j:lo.length=new.length)(h:∀(i:Nat)(d':D),new[i]? =So (So d')->∃w,lo[i]? =So (So w)/\Rep K H d' w)(r:ReadOk K H hi O):ReadOk K H (lo++hi) (new++O):=by
 intro i d e;by_cases b:i<new.length
 ·rw[eF b]at e;obtain⟨w,g,f⟩:=h i d e;exact⟨w,by rw[eF 'c'];exact g,f⟩
 ·rw[fF 'c']at e;obtain⟨w,g,f⟩:=r _ d e;exact⟨w,by rw[fF 'c',j];exact g,f⟩
section
variable{ls:Ad}{sc:Ba}{U:Ag}
def Jdl{M:Model}{f:Addr}{e:BH}{j:Str}{h:CF}{i:An}{g:Env}{b:Addr}{Q:Env->Shared->Prop}
  (m:Q (newEnv scope Aa f (cellsFrom DR XJ e) j h i (So g) b) {s with heap:=pushCells (s.heap.push {cls:=.type "dict",data:=.dict #[]}) XJ}):
  wpAny M A (newFunctionEnv scope f e [] j h i (So g) b) Q E s:=by simp only[newFunctionEnv,Option.isSome_some,if_true];refine Za (wpAny_alloc ?_);refine Za (wpAny_layCells _ (λname kind cells=>by cases l:kind==XC<;>simp[l]) _ _ _ _ ?_);rw[show({s with heap:=s.heap.push {cls:=.type "dict",data:=.dict #[]}}:Shared).heap.objs.size='Ɓ'+1 from ZO ..];rw[gO];exact Za (Zb (Zb m))
def RW(X:Cx)(Cd:Addr)(x:An)(e:Ak):Prop:=∃m,e.heap.Ns Cd m/\∀f,Heap.SameBut Cd e.heap f->∀b:Env,b.locals=Cd->wpAny Ay X.A (PySem.passOn "comprehension.variables-let-go" x b:Sem Value) (λ_ _=>False) X.xe {e with heap:=f}
def JsQ{e:An}{O env':Env}(h:O.frame=env'.frame):noteFrame e O=noteFrame e env':=by unfold noteFrame PySem.frameOf;rw[h]
structure Sib(X X':Cx):Prop where
 code:X'.env.code=X.env.code
 qual:X'.env.qual=Qbm
 base:X'.base=XF
 mg:X'.mg=X.mg
 tb:∀P ps,X.H₀ P=So (.tbl ps)->∃more,X'.H₀ P=So (.tbl (ps++more))
def Jsq{H2:Hp}{s2 s':Ak}{E':AZ}{Cc:Addr}{ce:Env}(C:Am)(I2:L2.Inv X Y Z H2 s2)(f2:∀b∈fp,FpOk X Y H2 b)(hCd:AN<=Cd)
  (F:FlyIn 'ɑ' Cc a W s') (hx:∀s5,FlyIn X Cc a W s5->X.xe Aw s5) (hce:ce.frame=X.env.frame):notedBy Ay X.A ce (RW X Cd) Aw s':=by
 obtain⟨e0,f,L,j,hf0,hfx⟩:=C.fr;obtain⟨ps,σ',I',hxx⟩:=F.inv;have hfr:X.A.frames=So (e0::f):=by rw[<-j];exact I2.ok.frames
 show wpAny _ X.A (noteFrame Aw ce) _ _ s';rw[JsQ (env':=e0) (hce.trans (hfx.trans hf0.symm))];have hstk:∀b,b∉X.fs->b≠AM->b∉frs Xc:=λb h1 h2 hm=>by
  rcases Zf.mp (I2.stkSub b hm)with e|e
  ·exact h2 e
  ·exact h1 e
 have rest:∀(B:Heap)(a0:An)(h1 h4:Heap),L2.Inv 'ɑ' ps σ' W {s' with heap:=h1}->B.StaysIn h1->(∀b u,W b=So u->∃o,B.get? b=So o)->
   (∀b o,s2.heap.get? b=So o->b∉frs X.stack->b∉fp->(H2 b=No->B.get? b=So o)/\∃o',B.get? b=So o')->Heap.HeldW B (e0::f) a (.ref Cc) a0 L h4->h1.UpToSlots h4->RW X Cd Aw {s' with heap:=h4}:=by
  intro B a0 h1 h4 I1 k1 tr kp g up;obtain⟨m,hn,_⟩:=I1.loc;have hn4:h4.Ns Cd m:=up.ns hn;refine⟨m,hn4,λI M cenv _=>?_⟩;obtain⟨g1,g2,g3,oe,vs,T,oT,ts,he,hcls,hd,hv1,hnT,hTe,hT,y,h3⟩:=g;obtain⟨oC,esC,epC,hoC,hdC,_⟩:=hn4;have hfC:W Cd=No:=I1.free;have neC:∀b o vs,h4.get? b=So o->Ym=.fields vs->b≠Cd:=λb o vs hb hd' q=>by
   rw[q,hoC]at hb;cases hb;rw[hdC]at hd';cases hd'
  have he5:=(M.2 a (neC a oe vs he hd)).trans he;have hT5:=(M.2 T (neC T oT ts hT y)).trans hT;have hsz3:3<ts.size:=(mT.mp h3).1;unfold PySem.passOn;refine Za (kA he5 hd hv1 ?_);rw[if_neg (show¬((Value.ref T==Value.none)=To)from by simp)];have go:∀(v:An),X.xe Aw {s' with heap:=I.update T (Obj.mapFields (·.setIfInBounds 3 v))}:=λv=>by
   refine hx _ ?_;have hT6:(I.update T (Obj.mapFields (·.setIfInBounds 3 v))).get? T=So (Obj.mapFields (·.setIfInBounds 3 v) oT):=ZQ _ hT5 (pT (lI y _));have oth:∀b,b≠T->(I.update T (Obj.mapFields (·.setIfInBounds 3 v))).get? b=I.get? b:=λb hb=>ZG _ _ E4;have B5:∀b o,b≠Cd->B.get? b=So o->(I.update T (Obj.mapFields (·.setIfInBounds 3 v))).get? b=So o:=λb o hb hB=>(oth b λq=>by rw[q,hnT]at hB;cases hB).trans ((M.2 b hb).trans (g1 b o hB));have hB':∀{b o},b≠Cd->B.get? b=So o->'Ŀ'.get? b=So o:=λhb hB=>rL _ hB (by simpa using hb);have n:∀{b o},'Ŀ'.get? b=So o->b≠Cd/\B.get? b=So o:=fun{b o}q=>⟨λz=>(by
    rw[PySem.W.hideAll_none [Cd] (by simp[z])]at q;cases q),PySem.W.of_hideAll _ q⟩
   have noB':∀{b},B.get? b=No->'Ŀ'.get? b=No:=fun{b}q=>by
    cases z:'Ŀ'.get? b with
    |none=>rfl
    |some o=>rw[(n z).2]at q;cases q
   have i:∀b o,s2.heap.get? b=So o->b≠Cd:=λb o q=>Zr (Zw (Zk q) hCd);have frm:∀b o,h1.get? b=So o->(∀vs,o.data≠.fields vs)->b≠Cd->∃sl,(I.update T (Obj.mapFields (·.setIfInBounds 3 v))).get? b=So {o with slots:=sl}:=λb o hb hnf hne=>by
    obtain⟨sl,e4⟩:=up b o hb hnf;exact⟨sl,(oth b λq=>by
     rw[q,hT]at e4;injection e4 with e4;exact hnf ts (by have:=xB Obj.data e4;rw[y]at this;exact this.symm)).trans ((M.2 b hne).trans e4)⟩
   have U1:Un GZ fp H2 W Z9 h1:=I1.base;have fo:∀b∈frs Xc,∃o,s2.heap.get? b=So o/\∀vs,o.data≠.fields vs:=λb hb=>(I2.stack.mem hb).2;have nfp:∀b∈frs Xc,b∉fp:=λb hb hm=>by obtain⟨_,q1,q2,_⟩:=f2 b hm;exact hstk b q2 q1 hb
   have slt:∀b o,s2.heap.get? b=So o->H2 b=No->b∈frs X.stack->∃sl,(I.update T (Obj.mapFields (·.setIfInBounds 3 v))).get? b=So {o with slots:=sl}:=λb o hb h0 hf=>by obtain⟨sl,e1⟩:=U1.slot b o hb h0 hf (nfp b hf);obtain⟨o',ho',hnf⟩:=fo b hf;rw[hb]at ho';cases ho';obtain⟨sl2,e2⟩:=frm b _ e1 hnf b9;exact⟨sl2,e2⟩
   have un:Un GZ fp H2 W Z9 (I.update T (Obj.mapFields (·.setIfInBounds 3 v))):=by
    refine⟨λb o hb h0 hf hp=>B5 b o b9 ((kp b o hb hf hp).1 h0),λb o hb h0 hf hp=>slt b o hb h0 hf,U1.free,λb o hb hp=>?_,U1.tups,U1.frzs,U1.tbls⟩;by_cases hf:b∈frs Xc
    ·obtain⟨sl,e⟩:=slt b o hb (I2.stkFree b hf) hf;exact⟨_,e⟩
    ·obtain⟨o',e⟩:=(kp b o hb hf hp).2;exact⟨o',B5 b o' b9 e⟩
   have trB:∀b u,W b=So u->∃o,'Ŀ'.get? b=So o:=λb u e=>by obtain⟨o,q⟩:=tr b u e;exact⟨o,hB' (λz=>by rw[z,hfC]at e;cases e) q⟩
   have st6:'Ŀ'.StaysIn (I.update T (Obj.mapFields (·.setIfInBounds 3 v))):=λb o q=>B5 b o (n q).1 (n q).2;have ff:(I.update T (Obj.mapFields (·.setIfInBounds 3 v))).FunFrames 'Ŀ' Xc:=by
    have base:∀l:List Env,(∀b∈frs l,b∈frs Xc)->h4.FunFrames B l->(I.update T (Obj.mapFields (·.setIfInBounds 3 v))).FunFrames 'Ŀ' l:=by
     intro l;induction l with
     |nil=>intro _ _;trivial
     |cons en r ih=>intro hs hl;obtain⟨hk,⟨L1,o1,hf1,hn1,ho1,hd1⟩,hr⟩:=hl;have hL1:L1∈frs Xc:=hs L1 (by unfold frs;rw[ZW,hf1];exact mG);obtain⟨o2,w,_⟩:=fo L1 hL1;refine⟨hk,⟨L1,o1,hf1,noB' hn1,?_,hd1⟩,ih (λb hb=>hs b (by unfold frs;rw[ZW,hf1];exact ZN _ hb)) hr⟩;exact(oth L1 λq=>by rw[q,hT]at ho1;cases ho1;exact hd1 ts y).trans ((M.2 L1 (i L1 o2 w)).trans ho1)
    rw[j];exact base (e0::f) (λb hb=>by rw[j];exact hb) g3
   refine⟨⟨Y,Z,I2.call' (ch:=fp) I1.os un (HOk.onB I1.hok trB (λb o q=>k1 b o (n q).2) st6) I1.bare (λb hb=>?_),.inr ⟨PySem.W.hideAll B [Cd],a0,v,⟨st6,noB' g2,ff,oe,vs,T,_,_,(oth a (Ne.symm hTe)).trans he5,hcls,hd,hv1,noB' hnT,hTe,hT6,lI y _,by simp[hsz3]⟩,trB,λb o hb hn hnx=>?_,λp hp=>?_⟩⟩⟩
   ·obtain⟨_,f1',f2',f3',f4',f5'⟩:=f2 b hb;exact NA
   ·have nfs:b∉X.fs:=λz=>hn (by
     rcases I2.ok.stk with e|⟨e,_⟩
     ·rw[e];exact z
     ·rw[e];obtain⟨e',he',hf'⟩:=qB.mp z;exact qB.mpr ⟨e',.tail _ he',hf'⟩)
    have np:b∉fp:=λz=>by
     rcases(f2 b z).2.2.2.1 with q|q
     ·exact hnx q
     ·exact absurd (Zw (Zk hb) q) Cz
    obtain⟨o2,w⟩:=I2.base.there b o hb hnx;have q:=kp b o2 w hn np;refine Qeh
    ·have e2:=I2.base.keep b o hb h0 nfs hnx
     rw[w]at e2;cases e2;exact hB' (i b _ w) (q.1 (I2.base.free b _ hb h0 hnx))
    ·obtain⟨o',e⟩:=q.2
     exact⟨o',hB' (i b _ w) e⟩
   ·obtain⟨q1,q2,q3,q4,_⟩:=I2.pin p KO;exact hB' (i _ _ q1) ((kp p.1 p.2 q1 (hstk p.1 q4 q3) λz=>(f2 _ z).2.2.2.2.2 p KO rfl).1 q2)
  have fly:wpAny Ay X.A (do setFlight Aw cenv.frame;throw Aw:Sem Value) (λ_ _=>False) X.xe {s' with heap:=I}:=by
   refine Za ?_;unfold setFlight;refine Za (kA he5 hd hv1 ?_);rw[if_pos 'j'];exact kC hT5 y hsz3 (wpAny_throw (go _))
  first
   |exact Za (Zb fly)
   |exact fly
 rcases hxx with⟨h,vs,hm,Ih⟩|⟨B,a0,flv,fl,tr,kp,_⟩
 ·have hk:(PySem.W.hideAll h (frs (e0::f))).StaysIn h:=λb o q=>PySem.W.of_hideAll _ q;have hin:∀O∈(e0::f),∀b,O.frame=So b->b∈frs (e0::f):=λO he b hb=>qB.mpr ⟨O,he,hb⟩;have hs0:'ɑ'.stack=e0::f:=j;have hstk2:h.FunFrames XF (e0::f):=by rw[<-hs0];exact Ih.stack
  refine Jia hfr hf0 hk (PySem.W.funFrames_hide hstk2 hin) hm λh' a0 g up=>?_;refine rest _ a0 h h' Ih hk (λb u e=>?_) (λb o hb hn hp=>?_) g ((Heap.UpToSlots.of_keeps hm.keeps).trans up)
  ·obtain⟨o,ho⟩:=HOk.has Ih.hok e;exact⟨o,rL _ ho λz=>by rw[Ih.stkFree b (by rw[hs0];exact z)]at e;cases e⟩
  ·rw[j]at hn;refine⟨λh0=>rL _ (Ih.base.keep b o hb h0 (by show b∉frs Xc;rw[j];exact hn) hp) hn,?_⟩;obtain⟨o',e⟩:=Ih.base.there b o hb hp;exact⟨o',rL _ e hn⟩
 ·have fl':uP B (e0::f) a (.ref Cc) a0 flv Ya:=by rw[<-j];exact fl
  exact vY hfr hf0 fl' λh' g up=>rest B a0 Ya h' I' fl.1 tr kp g up
inductive CI(X:Cx)(call:Ag)(X':Cx)(ac:Addr)(tn:Fn)(fp:A3)(H H2:Hp)(n:Nat)(σ:Bp)(nt:Nat)(pc pe:Px)(env:Fm)(ds:Ao)(Gd:List D->Prop):Nat->Shared->Prop
 |mk (i:Nat) (lo:L2.St) (H':Hp) (its:List Value) (k:Nat) (ys:List V) (done:List D) (s':Shared):L2.Inv X' [(ac,sD its k)] (lo++σ) H' s'->lo.length=n->tn i s'.heap->(∀b∈fp,H' b=No)->Same H2 H'->Vals ys its->Reps X.K H' done ys->done.length<=i->i<='Ƅ'->(JO nt (evD call pc) (evD call pe) env (ds.drop i)).Good (λrest=>Gd (done++rest)) AC->
  CI X call X' ac tn fp H H2 n σ nt pc pe env ds Gd (Ab-i) s'
theorem Jgr{O:Fm}{Gd:List D->Prop}{RR0:Value->Addr->Result->Shared->Prop}(C:Am)(h:EN)(hsrc:GJ)
  (htg:∀g,Ctx g G Dg sc.names->TgOk g tg nt Ax) (hif:∀g,Ctx g G Dg sc.names->PIf g ifs (tT g U pc)) (helt:∀g,Ctx g G Dg sc.names->Sib X g->PE g elt (tI g U pe))
  (I:BW) (r:Qe) (hw:tW X U ps Z H λJ9 W=>∃J,Walk X.K J9 W J/\Same H W/\J.length<=lD/\(JO nt J0 I0 O J).Good Gd AC)
  (hok:∀(acc:Addr)(ys:AA)(Hf:Hp)(Cd:Addr)(m:BY)(s4:Ak)(dn:Ao),L2.Inv X Y Z Hf s4->s4.heap.Ns Cd m->FpOk X Y Hf Cd->Hf acc=So (.lst ys)->H acc=No->Same H Hf->Reps X.K Hf dn ys->Gd dn->RR0 (.ref acc) Cd (.ok .next) s4) (hRR:∀acc Cd x s',RW X Cd x s'->RR0 acc Cd (.error x) s'):
  wpAny Ay X.A Qce (λx s₁=>wpAny Ay X.A (pyIter x) (λit s₂=>wpAny Ay X.A (newList []) (λacc s₃=>
   wpAny Ay X.A (newFunctionEnv sc X.env.globals 'ŀ' [] Qbm No .none (So WU)) (λcenv s₄=>
    codeAny Ay X.A (.compStart Ge 0 it acc {cenv with scope:=relabel sc WU}) (RR0 acc cenv.locals) s₄) X.xe s₃) X.xe s₂) X.xe s₁) X.xe s:=by
 refine thn (hsrc Y s Z H _ I hw) λv s1 h1=>thn h1 λitv s2 h2=>?_;obtain⟨it,fp,tn,J9,H2,rfl,I2,T,st2,f2,J,hW,s02,hz,hG2⟩:=h2;refine ZR (Jdl ?_);dsimp only;generalize hH2:s2.heap.push {cls:=.type "list",dict:=No,data:=.seq ([]:List Value).toArray}=Hh;obtain⟨w,B⟩:∃w,w=pushCells (Hh.push {cls:=.type "dict",data:=.dict #[]}) Xo:=Au;rw[<-B];have hns₁:w.Ns Xy Qdg:=B▸(Heap.Ns.new Hh Ke).keeps (lO _ _);have hC:Hh.objs.size=AN+1:=by rw[<-hH2,ZO]
 have hlt:∀b o,s2.heap.get? b=So o->b<AN:=λb o e=>Zk e;have old:∀b o,s2.heap.get? b=So o->w.get? b=So o:=λb o e=>by rw[B];exact lO _ _ _ _ (Zd _ (hH2▸Zd _ e))
 have hacc:w.get? AN=So (sD [] 0):=by rw[B];exact lO _ _ _ _ (Zd _ (hH2▸Zi _ rfl))
 have fpl:∀b∈fp,b<AN:=λb hb=>by obtain⟨o,e,_⟩:=T.obj _ _ st2 b hb;exact hlt b o e
 let RR:Result->Shared->Prop:=RR0 (.ref AN) Xy;let ce:Env:=compEnvC sc (cellsFrom (Xy+1) Xo 'ŀ') Xy WU;let E':Value->Shared->Prop:=notedBy Ay X.A ce λe s'=>RR cA s';let g:Cx:=sN X ls sc Xy s2 H2 fp E';have C':Ctx g G Dg Xo:=Jol C h;have SB:Sib X g:=⟨rfl,rfl,rfl,rfl,λP ps z=>I2.base.tbls P ps z⟩;have I4:L2.Inv g [(AN,sD [] 0)] (List.replicate Ax No++Z) H2 {s2 with heap:=w}:=
  Jov C h B (ZO ..) I2 f2 (λb hb=>let⟨o,e,_⟩:=T.obj _ _ st2 b hb;⟨o,e⟩) hC hns₁ old hacc
 have sub:∀x c,'ŀ'.lookup x=So c->X.env.cells.lookup x=So c:=xR Xo [] λx c e=>by simp at e
 have stat:∀{W:Hp}{o:Obj},(∀b∈fp,W b=No)->∀b∈fp,FpOk g [(AN,o)] W b:=fun{W o}hn b hb=>by
  have hb':=fpl b hb;refine⟨hn b hb,?_,I4.ok.exfs b hb,.inl hb,(I4.ok.exf b hb).2,λp hp=>?_⟩
  ·show b≠Hh.objs.size;rw[hC];exact Zr (eC hb')
  ·have e:p=(AN,o):=by simpa[g,sN]using hp
   rw[e];exact iD hb'
 have loop:∀s₃:Shared,s₃={s2 with heap:=w}->
   codeAny Ay X.A (.compLoop Ge 0 A7 (.ref AN) ce) RR s₃:=by
  rintro s₃ rfl;refine Jhi (CI X U g AN tn fp H H2 Ax Z nt pc pe O J Gd) ?_ Ab
   (.mk 0 (List.replicate Ax No) H2 [] 0 [] [] _ I4 zG (T.keep _ _ _ st2 (λb hb o e=>old b o e)) (λb hb=>(f2 b hb).1) Kb .nil rfl (Zj _) WV (by simpa using hG2))
  rintro _ s'⟨i,lo,W,its,k,ys,j,_,I',hlo,st,fr,sm,hv,hr,hdl,hil,hg⟩;by_cases hi:i<Ab
  ·have go:=(hW W sm).1 i hi
   refine thn (T.item g rfl rfl rfl C'.calm i _ s' (lo++Z) W g.xe I' (stat fr) st go) λr' s4 zz0=>?_;obtain⟨u,hr',h4⟩:=zz0;subst hr';refine thn h4 λ_ s5 zz0=>?_;obtain⟨x,H5,I5,r5,y5,st5,fr5⟩:=zz0;obtain⟨s45,d,hd,rd⟩:=(hW W sm).2.2 i x H5 hi y5;rw[eS hd]at hg;simp only[JO]at hg;replace hg:=Rs.gB.mp hg;cases hb:Jv nt d with
   |sk=>rw[hb]at hg;exact hg.elim
   |ex c=>exact(rJ hb).elim
   |ok new=>
    rw[hb]at hg;replace hg:=Rs.gB.mp hg;have I5p:=I5.pinned (stat fr5) (T.obj _ _ st5);refine thn (htg g C' _ s5 lo Z H5 d x u new (λσ' H''=>∃l:L2.St,σ'=l++Z/\l.length=Ax/\H5=H''/\ReadOk X.K H5 (l++Z) (new++O)) hlo I5p r5 rd hb λl l1 l2 hn=>
     ⟨l,rfl,l1,rfl,ReadOk.front (l1.trans l2.symm) hn (r.mono ('Ս'.trans s45))⟩) λ_ s6⟨σ6,H6,I6,l,e6,l6,e7,rd6⟩=>?_
    subst e6;subst e7;refine thn (hif g C' _ s6 _ _ (λb H7=>Same H5 H7/\(if b=To then((evD U pe (new++O)).bind λy=>'个'.bind λys=>Rs.ok (y::ys)).Good (λrest=>Gd (j++rest)) AC
     else(JO nt J0 I0 O G7).Good (λrest=>Gd (j++rest)) AC)) I6 ⟨new++O,rd6,Rs.good_calm (hg.mono (λd' hd'=>?_) λc z=>z)⟩) λok s7⟨H7,I7,L,q7⟩=>?_
    ·cases d' with
     |bl b=>
      refine⟨b,rfl,λH7 L=>⟨L,?_⟩⟩;cases b with
      |true=>exact iteT hd'
      |false=>exact iteF hd'
     |_=>exact hd'.elim
    have tn7:∀{s9:Ak}{H9:Hp}{o:Obj}{σ9:Bp},L2.Inv g ([(AN,o)]++oE fp YD) σ9 H9 s9->tn AE s9.heap/\∀b∈fp,H9 b=No:=fun{s9 H9 o σ9}I9=>by refine⟨T.keep _ _ _ st5 λb hb o' e=>(I9.pin (b,o') Pv).1,λb hb=>?_⟩;obtain⟨o',e,_⟩:=T.obj _ _ st5 b hb;exact(I9.pin (b,o') Pv).2.1
    cases ok with
    |false=>
     rw[if_neg ZH];have q7':'个'.Good (λrest=>Gd (j++rest)) AC:=by rw[if_neg ZH]at q7;exact q7
     obtain⟨t7,f7⟩:=tn7 I7;exact⟨Ab- AE,by lia,.mk AE l H7 its k ys j _ I7.unpinned l6 t7 f7 ((sm.trans s45).trans L) hv (hr.mono (s45.trans L)) Ae Ae q7'⟩
    |true=>
     rw[if_pos rfl];rw[if_pos rfl]at q7;replace q7:=Rs.gB.mp q7;refine thn (helt g C' SB _ s7 _ _ (λv8 H8=>Same H7 H8/\∃y,Rep X.K H8 y v8/\(JO nt J0 I0 O G7).Good (λrest=>Gd (j++(y::rest))) AC) I7
      ⟨new++O,rd6.mono L,q7.mono (λy hy v8 H8 s78 r8=>⟨s78,y,r8,Rs.gB.mp hy⟩) λc z C0 H0 hm0 s0 a0 s0' F0=>ZV (Jsq C I2 f2 (by rw[hC];exact iC _) F0 (λs5 F5=>z C0 H0 hm0 (('Ս'.trans s45).trans (L.trans s0)) a0 s5 F5) rfl) (λ_ _ e=>hRR _ _ _ _ e) λ_ _ e=>hRR _ _ _ _ e⟩) λu8 s8⟨v8,H8,I8,r8,s78,y,ry,q8⟩=>?_
     have e8:=(I8.pin Qg Af).1;have hlen:AU<=lD:=by have h1:=hv.length;have h2:=Z2;lia
     refine sA Qbu ⟨_,e8,rfl⟩ QaD S2 (PySem.list_append s2.heap.objs.size its.toArray k u8 (by rw[Zn,ZK];exact hlen)) ⟨e8,?_⟩;have q9:=PySem.IsL.update e8 (λx=>x.push u8);have hpush:its.toArray.push u8=(its++[u8]).toArray:=by simp
     rw[hpush]at q9;obtain⟨k9,q9⟩:∃k9,(s8.heap.update AN Ss).get? AN=So (sD (its++[u8]) k9):=⟨_,q9⟩;have f:=(I8.pin Qg Af).2;have I8u:L2.Inv g (oE fp YD) (l++Z) H8 s8:=I8.pins_of λp hp=>I8.pin p (ZL _ (ZL _ hp));have I9:L2.Inv g (oE fp YD) (l++Z) H8 {s8 with heap:=s8.heap.update AN Ss,toks:=s8.toks}:=by
      refine I8u.turned (it:=AN) (λb o hb e=>(ZG s8.heap _ E4).trans e) f.1 f.2.1 (.inr (Zj _)) (λx c e=>?_) (λp hp=>?_)
      ·rcases kX _ _ _ _ _ e with q|⟨q,_⟩
       ·obtain⟨v0,o0,h0,_⟩:=I2.cell x c (sub x c q);exact Zr (hlt c o0 h0)
       ·rw[hC]at q;exact iD (Zw (eC Yu) q)
      ·have hp':p∈oE fp YD:=by simpa[g,sN]using hp
       exact Zr (fpl _ (JfS hp').1)
     have I10:L2.Inv g ([(AN,sD (its++[u8]) k9)]++oE fp YD) (l++Z) H8 {s8 with heap:=s8.heap.update AN Ss,toks:=s8.toks}:=
      I9.pins_of λp hp=>(ZS.mp hp).elim (λz=>by
       have e:p=(AN,sD (its++[u8]) k9):=by simpa using z
       subst e;exact⟨q9,f.1,f.2.1,f.2.2.1,λv z=>(by cases z)⟩) λz=>I9.pin p (ZL _ z)
     obtain⟨t10,f10⟩:=tn7 I10;refine⟨Ab- AE,by lia,.mk AE l H8 (its++[u8]) _ (ys++[v8]) (j++[y]) _ I10.unpinned l6 t10 f10 (((sm.trans s45).trans L).trans s78) (hv.append (.cons r8 .nil)) ((hr.mono ((s45.trans L).trans s78)).append (Reps.one ry)) ?_ Ae ?_⟩
     ·rw[Zy,oO];lia
     ·simpa using q8
  ·--the end
   have hie:i=Ab:=by lia
   subst hie;rw[qI]at hg;simp only[JO]at hg;have hg':Gd j:=by have hg2:Gd (j++[]):=hg;simpa using hg2
   refine thn (T.done g rfl rfl rfl C'.calm Ab _ s' (lo++Z) W g.xe I' (stat fr) st (hW W sm).2.1) λr' s4 zz0=>?_;obtain⟨hr',I5⟩:=zz0;subst hr';obtain⟨m',hn',_⟩:=I5.loc;have f:=I5.pin Qg Af;have hlen:BD<=sizeLine:=by have h2:=Z2;rw[ZK];have h3:lD=16777216:=rfl;lia
   have HC:W Xy=No:=I5.free;have okH:HOk Xa X.w Lq QcJ:=by
    intro b o e;by_cases hb:b=AN
    ·subst hb;rw[Jg]at e;cases e;exact⟨hlen,its,k,hv,f.1⟩
    ·rw[Je hb]at e;have ok5:ObjOk Xa X.w W QcJ b o:=I5.hok b o e;refine ok5.stay (λc w' hc q=>q) (λc q=>?_) (λc xs q=>?_) λc o' u' q=>?_
     ·by_cases M:c=AN
      ·subst M;rw[f.2.1]at q;cases q
      ·rw[Je M];exact q
     ·by_cases M:c=AN
      ·subst M;rw[f.2.1]at q;cases q
      ·rw[Je M];exact q
     ·by_cases M:c=AN
      ·subst M;rw[f.2.1]at q;cases q
      ·rw[Je M];exact q
   have un:Un GZ fp H2 Lq Z9 QcJ:=by
    have U9:Un GZ fp H2 W Z9 QcJ:=I5.base;have ne1:∀b o,s2.heap.get? b=So o->b≠AN:=λb o e=>Zr (hlt b o e);have neH:∀b u,H2 b=So u->b≠AN:=λb u e z=>by rw[z,I2.hok.fresh (Zj _)]at e;cases e
    refine⟨U9.keep,U9.slot,λb o e n h2=>?_,U9.there,λb xs e=>?_,λb o u e=>?_,λb ps' e=>?_⟩
    ·rw[Je (ne1 b o e)];exact U9.free b o e n h2
    ·rw[Je (neH b _ e)];exact U9.tups b xs e
    ·rw[Je (neH b _ e)];exact U9.frzs b o u e
    ·rw[Je (neH b _ e)];exact U9.tbls b ps' e
   have If:L2.Inv X Y Z Lq s4:=I2.call' (ch:=fp) I5.os un okH I5.bare λb hb=>by obtain⟨_,f1',f2',f3',f4',f5'⟩:=f2 b hb;exact NA
   have sH:Same W Lq:=λb o e=>by rw[Je (Ji e f.2.1)];exact e
   have hCn:upd W AN Ir Xy=No:=by rw[Je (by rw[hC];exact Nat.succ_ne_self _)];exact HC
   exact hok AN ys _ Xy m' s4 j If hn' (I2.fpOk (by rw[hC];exact iC _) hCn) Jg (s02.free (I2.hok.fresh (Zj _))) ('Ս'.trans sH) (hr.mono sH) hg'
 exact codeAny_compStart_list (loop _ rfl) (T.self _ 0 _ _ _ (T.keep _ _ _ st2 λb hb o e=>old b o e) (loop _ rfl))
def Jgx{O:Fm}(r:Qe)(h:(evD U IW O).Good (OutF X H Q) AC):
  tW X U ps Z H λe W=>∃J,Walk X.K e W J/\Same H W/\J.length<=lD/\(JO nt J0 I0 O J).Good (λi=>OutF X H Q (.lst i)) AC:=by
 refine⟨O,r,'Ă'.imp λd b=>?_⟩;cases d with
 |lst J=>
  simp only[D.asL,Rs.bo]at b;split at b
  ·rename_i f;exact⟨J,rfl,λe W g w _=>⟨J,w,g,f,Rs.gB.mp b⟩⟩
  ·exact b.elim
 |_=>exact b.elim
def JqU{h':Heap}(I:BW)(f:FpOk X Y H Cd)(g:Heap.SameBut Cd W6 h'):L2.Inv X Y Z H {s with heap:=h'}:=by obtain⟨h,m,q,i,j,l⟩:=f;exact I.turned (t':=W7) (λb o n e=>(g.2 b n).trans e) h m i j l
def JkU(C:Am)(h:EN)(g:GJ)
  (j:∀b,Ctx b G Dg sc.names->TgOk b tg nt Ax) (n:∀b,Ctx b G Dg sc.names->PIf b ifs (tT b U pc)) (i:∀b,Ctx b G Dg sc.names->Sib X b->PE b elt (tI b U pe))
  (hs:∀x,foldedSetIterable iter WU x=pure x:=by intro _;rfl):PE X Ge HY:=by rintro Y s Z H Q I⟨O,r,hG⟩;rw[eval_ListComp];refine wpAny_comprehension_free (use:=No) rfl hs OT h.kind (λy w e=>((h.at w).2.2 e).1) (Jgr (RR0:=λacc C=>compPost Ay X.A X.xe No B3 acc C) C h g j n i I r (Jgx r hG) ?_ λ_ _ _ _ e=>e);intro acc F q Cd m s4 dn If hn f L M sm rs B;refine⟨m,hn,λh' l=>⟨.ref acc,q,JqU If f l,rfl,?_⟩⟩;obtain⟨ds',z,u⟩:=B;cases z;exact u acc F q sm M L rs
def Jev{u w:Pos}{i:Nat}{y:Str}(C:Am)(h:EN)(hi:X.N[i]? =So y)(hy:locB nm y=To)(j:GJ)
  (z:∀g,Ctx g G Dg sc.names->TgOk g tg nt Ax) (B:∀g,Ctx g G Dg sc.names->PIf g ifs (tT g U pc)) (l:∀g,Ctx g G Dg sc.names->PE g elt (tI g U pe))
  (hs:∀x,foldedSetIterable iter WU x=pure x:=by intro _;rfl):PS X (.Assign [.Name y w] Ge u) (tAsg HY DY):=by
 obtain⟨n,F⟩:=C.sto y hy;have nd:X.N.Nodup:=by rw[C.hN];exact C.nd
 have L:∃b,swapsWith Ge (So (.Name y w)) u.line WU=pure b:=Au;obtain⟨b,L⟩:=L;cases b with
 |false=>exact pF nd hi n (JkU C h j z B Og hs) L F
 |true=>
  rintro Y s Z H D I⟨O,r,hG⟩;rw[exec_Assign_Name_used _ _ _ _ L];refine Za (wpAny_standAt (Za ?_));show wpAny _ X.A (do let _<-comprehension Ge sc WU _ (newList []) Fo Qce (So Si)) _ _ s;refine Za (ZV (wpAny_comprehension_free (use:=So Si) (Q:=λ_ M=>SP X Y D .next M) rfl hs OT h.kind (λy hy e=>((h.at hy).2.2 e).1)
   (Jgr (RR0:=λacc C=>compPost Ay X.A X.xe (So Si) (λ_ M=>SP X Y D .next M) acc C) C h j z B Og I r (Jgx r hG) ?_ λ_ _ _ _ e=>e)) (λ_ M hq=>Zb (Zb hq)) λ_ _ e=>e)
  intro acc ys Hf Cd m s4 dn If hn f ha h0 sm rs hg;show wpAny _ X.A (assign (.Name y w) WU (.ref acc)) _ _ s4;refine wpAny_assign_Name (JfV If nd hi n (v:=.ref acc) rfl (λs5 I5⟨ad,sb,had⟩=>?_) F);have hne:Cd≠ad:=by
   rcases had with q|q
   ·rw[q];exact f.2.1
   ·exact Ne.symm (f.2.2.2.2.1 y ad q)
  refine⟨m,hn.sameBut sb hne,λh' hsb=>⟨_,Hf,JqU I5 f hsb,?_⟩⟩;obtain⟨ds',e',hQ⟩:=hg;cases e';exact hQ acc ys Hf sm h0 ha rs
end
def Jno(l b:Addr)(items e:BU)(n j:Nat)(dd i:CF)(sl f:CY)(r:Av+e.size<=sizeLine):
  Meets (Builtin.«list.__add__» OL) (λ_ R s=>s.heap.get? l=So {cls:=.type "list",dict:=dd,data:=.seq items n,slots:=sl}/\s.heap.get? b=So {cls:=.type "list",dict:=i,data:=.seq e j,slots:=f}/\R Sr {s with heap:=s.heap.push {cls:=Value.type "list",data:=Data.seq (items++e)},toks:=W7}):=
 .of_wp λprog w A R s h=>by
  obtain⟨L,g,d,z,I⟩:=s;obtain⟨m,q,h⟩:=h;have F:=pK;have C:=mL;have B:=iL;have u:=lL;have y:=kL
  wp_walk using zE m,zE q;exact Dd
def JlG{w:AY}{l b:Addr}{items e:BU}{Q:AZ}(I:ND)(L:s.heap.IsList b e)
  (h:Q Dr {s with heap:=s.heap.push {cls:=.type "list",data:=.seq (items++e)}}) (hsz:Av+e.size<=sizeLine):wpAny As A (binaryOp .Add BS CU) Q E s:=by obtain⟨⟨cls,C,data,sl⟩,r,u,n,y⟩:=id I;obtain⟨⟨z,q,j,m⟩,f,i,B,g⟩:=id L;simp only at u y i g;subst u y i g;exact concat_meets ⟨_,r,rfl⟩ ⟨_,f,rfl⟩ PySem.noFill_list_add PySem.seq_list_add F.slot_list_add F.entry_list_add (F.args_list_add_2 _ _) (Jno l b items e n B C q sl m hsz) ⟨r,f,h⟩
def Jpy{w:AY}{t b:Addr}{ws:Az}{Q:AZ}(F:IsTup W6 t ([]:List Value).toArray)(I:O7)
  (h:Q CU s):wpAny As A PV Q E s:=by
 obtain⟨⟨C,B,m,sl⟩,q,r,n,u⟩:=id F;obtain⟨⟨y,l,i,j⟩,e,g,z,f⟩:=id I;simp only at r u g f;subst r u g f;exact concat_meets Lm CD noFill_tuple_add seq_tuple_add rT uT Qc2
   (tuple_addW0 t b ([]:List Value).toArray Qbl n z B l sl j Af) ⟨q,e,h⟩
def uF{n:Nat}(h:n<=lD):n<=sizeLine:=by rw[ZK];exact h
def JuA{a b:D}{E:DL}(h:(op2 .add a b).Good P E):(∃i j,a=.int i/\b=.int j)\/(∃i j,a=.str i/\b=.str j)\/(∃i j,a=.tup i/\b=.tup j)\/∃i j,a=.lst i/\b=.lst j:=by cases a<;>first|exact(show False from h).elim|(cases b<;>first|exact(show False from h).elim|exact .inl EO|exact .inr (.inl EO)|exact .inr (.inr (.inl EO))|exact .inr (.inr (.inr EO)))
theorem JsN:OpR X L5 (rD2 X .add):=by
 rintro Y s Z H x y v u Q I n r⟨dx,dy,z,w,h⟩;rcases JuA h with⟨i,j,rfl,rfl⟩|⟨i,j,rfl,rfl⟩|⟨J,es,rfl,rfl⟩|⟨J,es,rfl,rfl⟩
 ·exact JvC Y s Z H x y v u Q I n r ⟨_,_,z,w,Out.now h rfl⟩
 ·simp only[op2]at h;split at h
  ·rename_i m;exact Jkf Y s Z H x y v u Q I n r ⟨_,_,z,w,uF m,Out.now h rfl⟩
  ·exact h.elim
 ·simp only[op2]at h;split at h
  ·rename_i m;obtain⟨a,xs,rfl,q,h2⟩:=z;obtain⟨b,ys,rfl,l,f⟩:=w;have F:=Hc;have M:=XS;by_cases hx:xs=[]
   ·subst hx;have hd:J=[]:=h2.nil_iff.mp rfl;subst hd;cases n;cases r;obtain⟨its,g,L,_⟩:=I.tuple q;obtain⟨e,U,O,_⟩:=I.tuple l;cases g;exact Jpy L O ⟨.ref b,H,I,rfl,Out.now h ⟨b,ys,rfl,l,f⟩⟩
   ·refine JrR Y s Z H _ _ v u Q I n r ⟨a,b,xs,ys,rfl,rfl,q,l,hx,uF (by rw[F,M];exact m),λhy=>?_,λhy p hp=>?_⟩
    ·have he:es=[]:=f.nil_iff.mp hy;subst he;exact Out.now h ⟨a,xs,rfl,q,by simpa using h2⟩
    ·obtain⟨B,g⟩:=nE (K:=X.K) hp Qdz;exact h _ _ B g
  ·exact h.elim
 ·simp only[op2]at h;split at h
  ·rename_i m;obtain⟨a,xs,rfl,q,h2⟩:=z;obtain⟨b,ys,rfl,l,f⟩:=w;have F:=Hc;have M:=XS;cases n;cases r;obtain⟨its,g,L,_⟩:=I.list q;obtain⟨e,U,O,_⟩:=I.list l;have l3:=XZ;have l4:=U.length;have C:Ac+BD<=sizeLine:=uF (by rw[F,M];exact m);refine JlG L.isList O.isList ?_ (by rw[Zn,Zn];lia);have ea:Ap++e.toArray=(its++e).toArray:=by simp
   rw[ea];obtain⟨B,w1⟩:=jM (K:=X.K) (xs:=xs++ys) I.fresh Qdz;exact⟨.ref _,_,I.lnew (t':=W7) (g.append U) (by rw[Zy];exact C),rfl,h _ _ B w1⟩
  ·exact h.elim
def JsL:OpR X Qby (rD2 X .sub):=by rintro Y s Z H x y v u Q I b e⟨l,n,g,f,h⟩;obtain⟨i,j,rfl,rfl,m⟩:=iK h;exact Jxj Y s Z H x y v u Q I b e Hd
theorem JjT(xs:Array α):∀(n:Nat)(acc:Array α),((List.replicate n xs).foldl (·++·) acc).size=acc.size+n*xs.size
 |0,acc=>by simp
 |n+1,acc=>by
  rw[kF,iI,JjT xs n,Array.size_append,Nat.succ_mul]
  lia
def Jww{a b:D}{E:DL}(h:(op2 .mul a b).Good P E):(∃i j,a=.int i/\b=.int j)\/∃i j,a=.str i/\b=.int j:=by cases a<;>first|exact(show False from h).elim|(cases b<;>first|exact(show False from h).elim|exact .inl EO|exact .inr EO)
theorem JrU:OpR X L9 (rD2 X .mul):=by
 rintro Y s Z H x y v u Q I f g⟨F,dy,m,l,h⟩;rcases Jww h with⟨i,j,rfl,rfl⟩|⟨i,j,rfl,rfl⟩
 ·simp only[op2]at h;split at h
  ·rename_i b;refine Jwf Y s Z H x y v u Q I f g ⟨i,j,m,l,?_,Out.now h rfl⟩;simp only[smallI,nB,Zc,Zp]at b;exact b
  ·exact h.elim
 ·simp only[op2]at h;split at h
  ·rename_i b;obtain⟨C,U,M,B⟩:=b;have w:x=V.str i:=m;have r:y=V.int j:=l;subst w r;obtain⟨t,rfl⟩:=f;obtain⟨O,rfl⟩:=g;have L:i.length*j.toNat<=1000*1000:=Nat.mul_le_mul B Ae;have n:PySem.Builtin.Str.tooLong (i.length*j.toNat)=Fo:=by unfold PySem.Builtin.Str.tooLong;rw[Zt];have:=ZK;lia
   have z:(j==1||i.length==0)=Fo:=by rw[ZF,ZC,ZC];lia
   refine P.mul_str ?_ (λ_ _ q=>?_) (λ_ _=>n) ?_
   ·rw[Zt 'c',Zt 'c'];rfl
   ·have:(1000:Int)<=(2^63-1) / j:=by
     refine(Int.le_ediv_iff_mul_le Ae).mpr ?_;lia
    lia
   ·rw[if_neg 'c',if_neg (by rw[z];exact ZH)];refine⟨?_,⟨.str (repS i j),H,I.tok _,Au,Out.now h rfl⟩⟩;have e:(⟨'ԫ'.foldl (·++·) #[]⟩:Str).length=i.length*j.toNat:=by show('ԫ'.foldl (·++·) #[]).size=_;rw[JjT,Nat.mul_comm];simp[Str.length]
    rw[e];have:=ZK;lia
  ·exact h.elim
def JpU:OpR X Oi (rD2 X .fdiv):=by
 rintro Y s Z H x y v u Q I e f⟨n,q,m,l,h⟩;obtain⟨i,j,rfl,rfl,b⟩:=iK h;split at b
 ·rename_i g;exact JtE Y s Z H x y v u Q I e f S6
 ·exact b.elim
def Jrt:OpR X Qbz (rD2 X .mod):=by
 rintro Y s Z H x y v u Q I e f⟨n,q,m,l,h⟩;obtain⟨i,j,rfl,rfl,b⟩:=iK h;split at b
 ·rename_i g;exact Jwb Y s Z H x y v u Q I e f S6
 ·exact b.elim
def JqC(n:GD):OpR X (compareOp .Eq) (rD2 X .eq):=by
 rintro Y s Z H x y v u Q I i j⟨e,f,m,l,h⟩;have b:(if(Jw e&&Jw f)=To then Rs.ok (.bl (e.eqv f))else .sk:Rs D).Good B0 AC:=h;split at b
 ·rename_i g;simp only[Jw,Zc,Zp]at g;exact(iU I 20 X.A e f g.1 Ae Ae m l i j Ae).1 Xa X.w X.xe _ TU
 ·exact b.elim
def Jmd(n:GD):OpR X (compareOp .NotEq) (rD2 X .ne):=by
 rintro Y s Z H x y v u Q I i j⟨e,f,m,l,h⟩;have b:(if(Jw e&&Jw f)=To then Rs.ok (.bl (!e.eqv f))else .sk:Rs D).Good B0 AC:=h;split at b
 ·rename_i g;simp only[Jw,Zc,Zp]at g;exact(iU I 20 X.A e f g.1 Ae Ae m l i j Ae).2.1 Xa X.w X.xe _ TU
 ·exact b.elim
def lt_cs{a b:D}{E:DL}(h:(op2 .lt a b).Good P E):(∃i j,a=.int i/\b=.int j)\/∃i j,a=.str i/\b=.str j:=by cases a<;>first|exact(show False from h).elim|(cases b<;>first|exact(show False from h).elim|exact .inl EO|exact .inr EO)
def zU:OpR X Ql (rD2 X .lt):=by
 rintro Y s Z H x y v u Q I b e⟨l,m,g,f,h⟩;rcases lt_cs h with⟨i,j,rfl,rfl⟩|⟨i,j,rfl,rfl⟩
 ·exact op_lt Y s Z H x y v u Q I b e Hd
 ·exact JmD Y s Z H x y v u Q I b e Hd
def JwQ:OpR X QaU (rD2 X .le):=by rintro Y s Z H x y v u Q I b e⟨l,n,g,f,h⟩;obtain⟨i,j,rfl,rfl,m⟩:=iK h;exact op_le Y s Z H x y v u Q I b e Hd
def oV:OpR X QbA (rD2 X .gt):=by rintro Y s Z H x y v u Q I b e⟨l,n,g,f,h⟩;obtain⟨i,j,rfl,rfl,m⟩:=iK h;exact op_gt Y s Z H x y v u Q I b e Hd
def mV:OpR X QaV (rD2 X .ge):=by rintro Y s Z H x y v u Q I b e⟨l,n,g,f,h⟩;obtain⟨i,j,rfl,rfl,m⟩:=iK h;exact op_ge Y s Z H x y v u Q I b e Hd
theorem xV:∀{J:Ao}{j:Nat}{d:D},J[j]? =So d->aO<=deps J
 |[],_,_,h=>by simp at h
 |a::J,0,d,h=>by simp at h;subst h;simp only[deps];lia
 |a::J,j+1,d,h=>by
  have:=xV (J:=J) (j:=j) (d:=d) (by simpa using h)
  simp only[deps];lia
open Classical in
noncomputable def eU (J:Ao) (its:Az) (d:D) (y:An):Bool:=decide (∃(j:Nat)(b:D),its[j]? =So y/\J[j]? =So b/\b.eqv d=To)
open Classical in
def fU(I:BW)(m:FR)(l:GU)(pd:deps J<1000){d':D}{j:Nat}{y:An}(h1:its[j]? =So y)(h:J[j]? =So d'):
  eU J its d y=d'.eqv d:=by
 have same:∀k b,its[k]? =So y->J[k]? =So b->b=d':=λk b g f=>by
  obtain⟨L,u,C⟩:=m.get h
  obtain⟨O,r,B⟩:=m.get f
  obtain⟨F,q,w⟩:=l.get u
  obtain⟨M,n,z⟩:=l.get r
  rw[h1]at q;cases q
  rw[g]at n;cases n
  have:=w.inj z
  subst this
  exact Rep.inj I _ pd (xV f) (uC (xV h) pd) B C
 cases e:d'.eqv d with
 |true=>exact Zs ⟨j,d',h1,h,e⟩
 |false=>
  refine Zt ?_
  rintro⟨k,b,g,f,i⟩
  rw[same k b g f,e]at i
  cases i
open Classical in
theorem vP(I:BW)(i:FR)(h:GU)(pd:deps J<1000)(d:D):its.toArray.any '乹'=J.any λf=>f.eqv d:=by
 have r:=h.length
 have q:=bV
 rw[show its.toArray.any '乹'=its.any '乹' by simp,kO,lG,lG]
 constructor
 ·rintro⟨y,u,e⟩
  obtain⟨j,f,_,n,l⟩:=vK e
  exact⟨f,tL n,l⟩
 ·rintro⟨f,m,e⟩
  obtain⟨j,g⟩:=List.getElem?_of_mem m
  have b:j<AU:=by
   have:=(Zz.mp g).1
   lia
  refine⟨its[j],oK b,?_⟩
  rw[fU I i h pd (Zq b) g]
  exact e
theorem fN(L:GD)(I:BW)(g:FR)(f:GU){x:V}{v:An}(l:Rep X.K H d x)(r:RelV x v)(z:deps J<=20)(m:d.dep<=20):
  ∀y,y∈Ap->EqAt Yf s y v (eU J its d y):=by
 intro y q;have h:y∈its:=by simpa using q
 obtain⟨j,e⟩:=List.getElem?_of_mem h;have O:=XS;have C:=XZ;have n:=(Zz.mp e).1;have b:J[j]? =So 'Ǥ':=by rw[pL,Zq 'c'];rfl
 rw[fU I g f 'c' e b];obtain⟨M,u,B⟩:=g.get b;obtain⟨F,i,w⟩:=f.get u;rw[e]at i;cases i;exact(iU I 20 Yf _ d (lQ z) AO Ae B l w r (by show X.A.units+1+20+1<cLine;lia)).2.2
def JiE(h:x.cps=#[x.cps.getD 0 0]):x=⟨#[x.cps.getD 0 0]⟩:=by obtain⟨c⟩:=x;show Str.mk c=_;rw[<-h]
def Jqj(C:GD):OpR X QbB (rD2 X .isin):=by
 rintro Y s Z H x y v u Q I m q⟨b,F,B,r,h⟩;cases F with
 |str z=>
  cases b with
  |str w=>
   simp only[op2]at h;split at h
   ·rename_i i;refine JnK Y s Z H x y v u Q I m q QcP;have e:=PySem.StrLaws.found_one z QaZ;rw[<-JiE i]at e;rw[e];exact Out.now h rfl
   ·exact h.elim
  |_=>exact(show False from h).elim
 |tup J=>
  have g:(if(Jw Bt&&Jw b)=To then Rs.ok (.bl OS)else .sk:Rs D).Good B0 AC:=by cases b<;>exact h
  split at g
  ·rename_i i;have f:deps J+1<=20/\b.dep<=20:=by simpa[Jw,D.dep]using i
   obtain⟨a,xs,rfl,n,j⟩:=r;cases q;obtain⟨its,l,p,_⟩:=I.tuple n;refine SeqAt.in_tupleAt Lh p (fN C I j l B m Ae f.2) Mq;rw[vP I j l 'c'];exact Out.now g rfl
  ·exact g.elim
 |lst J=>
  have g:(if(Jw A2&&Jw b)=To then Rs.ok (.bl OS)else .sk:Rs D).Good B0 AC:=by cases b<;>exact h
  split at g
  ·rename_i i;have f:deps J+1<=20/\b.dep<=20:=by simpa[Jw,D.dep]using i
   obtain⟨a,xs,rfl,n,j⟩:=r;cases q;obtain⟨its,l,p,_⟩:=I.list n;refine SeqAt.in_listAt Lh XR (fN C I j l B m Ae f.2) Mq;rw[vP I j l 'c'];exact Out.now g rfl
  ·exact g.elim
 |_=>cases b<;>exact(show False from h).elim
def Jmf(C:GD):OpR X Nq (rD2 X .notin):=by
 rintro Y s Z H x y v u Q I m q⟨b,F,B,r,h⟩;cases F with
 |str z=>
  cases b with
  |str w=>
   simp only[op2]at h;split at h
   ·rename_i i;refine Jhk Y s Z H x y v u Q I m q QcP;have e:=PySem.StrLaws.found_one z QaZ;rw[<-JiE i]at e;rw[e];exact Out.now h rfl
   ·exact h.elim
  |_=>exact(show False from h).elim
 |tup J=>
  have g:(if(Jw Bt&&Jw b)=To then Rs.ok (.bl (!J.any λd=>d.eqv b))else .sk:Rs D).Good B0 AC:=by cases b<;>exact h
  split at g
  ·rename_i i;have f:deps J+1<=20/\b.dep<=20:=by simpa[Jw,D.dep]using i
   obtain⟨a,xs,rfl,n,j⟩:=r;cases q;obtain⟨its,l,p,_⟩:=I.tuple n;refine SeqAt.notIn_tupleAt Lh p (fN C I j l B m Ae f.2) Mq;rw[vP I j l 'c'];exact Out.now g rfl
  ·exact g.elim
 |lst J=>
  have g:(if(Jw A2&&Jw b)=To then Rs.ok (.bl (!J.any λd=>d.eqv b))else .sk:Rs D).Good B0 AC:=by cases b<;>exact h
  split at g
  ·rename_i i;have f:deps J+1<=20/\b.dep<=20:=by simpa[Jw,D.dep]using i
   obtain⟨a,xs,rfl,n,j⟩:=r;cases q;obtain⟨its,l,p,_⟩:=I.list n;refine SeqAt.notIn_listAt Lh XR (fN C I j l B m Ae f.2) Mq;rw[vP I j l 'c'];exact Out.now g rfl
  ·exact g.elim
 |_=>cases b<;>exact(show False from h).elim
def Jlh{K:Ai}{i:Int}(b:EI)(h:atD J i=So d):∃x,atI xs i=So x/\Rep K H d x:=by
 have l:=YM;unfold atD at h;unfold atI;have e:L2.ixN Ac i=ixn Ab i:=by rw[l];rfl
 rw[e];cases q:ixn Ab i with
 |none=>rw[q]at h;cases h
 |some j=>rw[q]at h;exact b.get h
def Jxg:IxR X (rD2 X .idx):=by
 rintro b e Y s Z H x y v u Q I g l⟨F,M,B,n,h⟩r;cases F<;>first|exact(show False from h).elim|(cases M<;>first|exact(show False from h).elim|skip)
 ·rename_i z i;simp only[op2]at h;split at h
  ·rename_i L;cases q:atD z.cps.toList i with
   |none=>rw[q]at h;exact h.elim
   |some c=>rw[q]at h;exact Jwc b e Y s Z H x y v u Q I g l ⟨z,i,c,B,n,uF L,q,Out.now h rfl⟩ r
  ·exact h.elim
 ·rename_i J i;simp only[op2]at h;cases q:atD J i with
  |none=>rw[q]at h;exact h.elim
  |some d=>rw[q]at h;obtain⟨a,xs,rfl,j,m⟩:=B;obtain⟨w,f,C⟩:=Jlh m q;exact Jwo b e Y s Z H _ y v u Q I g l Uk r
 ·rename_i J i;simp only[op2]at h;cases q:atD J i with
  |none=>rw[q]at h;exact h.elim
  |some d=>rw[q]at h;obtain⟨a,xs,rfl,j,m⟩:=B;obtain⟨w,f,C⟩:=Jlh m q;exact Jst b e Y s Z H _ y v u Q I g l Uk r
end Rd
namespace HT
open PySem PyProof.Rows
def JcV{prog:Bk}{w:AY}{A:BX}{E:AZ}{s:Ak}{t sl:Addr}{items:BU}{l r:An}{lo hi:BM}{Q:AZ}(a:M3)(u:s.heap.IsSliceOf sl l r .none)(pl:IsPart l lo)(v:IsPart r hi)
  (m:sIx Av 0 lo=0/\sIx Av Av hi=Av) (h:Q GQ s):wpAny As A NU Q E s:=by
 obtain⟨C,f,i,B⟩:=id u;have g:s.TypeIs IR "slice":=⟨C,f,i⟩;unfold getItem;try with_reducible refine vA ?_
 first|refine Za (Zb ?_)|skip
 refine Za (wpAny_sequenceKey a.typeIs AO ?_);refine Za (ZJ (name:=oS "__getitem__") a.typeIs gP
  (ZI gP a.typeIs entry_tuple_getitem ?_ PB))
 show wpAny _ _ (Builtin.Tuple.tupleItemsOf (.ref t)>>=_) _ _ s;refine Za (tupleItemsOf_ a ?_);refine Za (wD g ?_);rw[if_pos 'v'];refine Za (JaZ u pl v ?_);have e:(((sIx Av 0 lo:Nat):Int)==0&&(1:Int)==1&& Ga==Av)=To:=by rw[m.1,m.2];simp
 show wpAny _ _ (if(((sIx Av 0 lo:Nat):Int)==0&&(1:Int)==1&& Ga==Av)=To then _ else _) _ _ s;rw[if_pos e];have b:∀{j:E1},j To s->wpAny As Xk (Builtin.Tuple.tupleIsExact GQ) j E s:=fun{j}q=>by obtain⟨o,y,z,n,F⟩:=id a;unfold Builtin.Tuple.tupleIsExact;refine Za (wD (T:="tuple") ⟨o,y,z⟩ ?_);exact Zb q
 first
  |exact Za (b (by simp only[if_true];exact Za (uA (Zb ⟨_,rfl,Zb h⟩))))
  |exact Za (wpAny_of_in1 (b (by simp only[if_true];exact Za (uA (Zb ⟨_,rfl,Zb h⟩)))))
end HT
namespace Rd
open PySem PySem.Spec PyProof.Rows L2 Pu
open PySem.SeqAt (EqAt RcAt RcNeAt)
variable{H H0 H1 W:Hp}{a l it b:Addr}{K:Ai}{Z σ':Bp}{X:Cx}{s:Ak}{i k n j ep sl:Nat}{w:AY}{A:BX}{E Q:AZ}{prog P:Bk}{N ks:Ad}{Y:AQ}{G:Gw}{nm:Bf}{pos p1 p2 px apos tp np:Pos}{M:AX}{xs:AA}{t lb t1 t2 m:Bool}{x y z:Str}{J:Ao}{p pa pb:Px}{O:Fm}{L L1:A3}{e tg:Expr}{o:O1}{h h':Heap}{v:V}{elts vs:C6}{items:BU}{α:Type}{es:IX}{bs:List Bool}{st:Stmt}
section
variable{X:Cx}{U:Ag}{e a b c:Expr}{es:C6}{p pa pb pc pl ph:Px}{pos:Pos}
def mY{lo hi:BM}(f:EI):Reps K H (cutD J lo hi) 'ȭ':=by
 have l:=XS;have e:cutV xs lo hi=(xs.drop (six Ab 0 lo)).take (six Ab Ab hi-six Ab 0 lo):=by unfold cutV;rw[l];rfl
 rw[e];exact(f.drop _).take _
def JlE{v:An}{o:BM}(h:IsPart v o):∃p:Option (Int×Tok),v=partValue p/\p.map (·.1)=o:=by
 cases h with
 |none=>exact⟨No,rfl,rfl⟩
 |int i t=>exact⟨So (i,t),rfl,rfl⟩
theorem Jhc(n:Nat)(lo hi:BM):Builtin.Str.strSliceIndices lo hi 1 n=(List.range (six n n hi-six n 0 lo)).map λk=>six n 0 lo+k:=by
 have g:∀a b:Nat,sliceRange (a:Int) (b:Int) 1=(List.range (b-a)).map λk=>a+k:=λa b=>by
  unfold sliceRange;have e:(if(a:Int)<b then((b:Int)-a+1-1) / 1 else 0).toNat=b-a:=by split<;>simp<;>lia
  simp only[show(1:Int)>0 by decide,if_true,e];refine List.map_congr_left λk _=>?_;lia
 have f:∀(v:BM)(d:Nat),(match v with|none=>(d:Int)|some i=>max 0 (min (if i<0 then i+(n:Int)else i) n))=((six n d v:Nat):Int):=λv d=>by
  cases v with
  |none=>rfl
  |some i=>
   unfold six;by_cases h:i<0
   ·simp only[h,if_true];lia
   ·simp only[h,Zo];lia
 rw[<-g];have r:=f lo 0;have q:=f hi n;unfold Builtin.Str.strSliceIndices;simp only[show(1:Int)>0 by decide,if_true];rw[<-r,<-q];cases lo<;>cases hi<;>rfl
theorem Jmy(x:Str)(lo hi:BM):Txt.slice x lo hi=mkS Tp:=by
 have g:x.cps.toList.length=x.length:=kD;have f:∀(d:Nat),d<=x.length->∀v,six Xj d v<=x.length:=λd C v=>by
  cases v with
  |none=>exact C
  |some i=>simp only[six];split<;>lia
 have q:=f 0 WV lo;have I:=f Xj (Zj _) hi;have r:'Ϟ'.filterMap (x.cps[·]?)=Pu.cutD Xx lo hi:=by
  rw[Jhc,Pu.cutD,g];have:=StrLaws.picks Xx (six Xj Xj hi-six Xj 0 lo);generalize six Xj 0 lo=a at q this;generalize six Xj Xj hi=b at I this;by_cases h:a<=b
  ·rw[<-this a 'c'];simp only[yG]
  ·rw[show b-a=0 by lia];simp
 unfold Txt.slice;rw[r];split
 ·rename_i h;have F:'Ϟ'.length=x.length:=by simpa using h
  rw[Jhc,Ze,uK]at F;have u:six Xj 0 lo=0:=by lia
  have B:six Xj Xj hi=x.length:=by lia
  rw[Pu.cutD,g,u,B,Nat.sub_zero,zK,<-g,sO];rfl
 ·rfl
def rSlD (X:Cx):V->Option Int->Option Int->Hp->VK->Prop:=λx f g H Q=>∃d,Rep X.K H d x/\(match d with
 |.tup J=>Rs.ok (.tup (cutD J f g))
 |.lst J=>.ok (.lst (cutD J f g))
 |.str x=>if x.length<=20000 then .ok (.str (mkS (Pu.cutD Xx f g)))else .sk
 |_=>.sk:Rs D).Good B0 AC
def slD:SlR X (rSlD X):=by
 rintro Y s Z H x v vl vu lo hi sl Q I rx hs pl C⟨d,r,h⟩;cases d with
 |tup J=>
  obtain⟨a,xs,rfl,q,h2⟩:=r;by_cases hw:HT.sIx Ac 0 lo=0/\HT.sIx Ac Ac hi=Ac
  ·cases rx;obtain⟨its,r,ht,hz⟩:=I.tuple q;have g:BK=Ac:=by rw[Zn];exact r.length.symm
   refine⟨"tuple",_,YS,ht.typeIs,HT.JcV ht hs pl C (by rw[g];exact hw) ⟨.ref a,H,I,rfl,Out.now h ⟨a,xs,rfl,q,?_⟩⟩⟩;have e:=mY (lo:=lo) (hi:=hi) h2;have e2:cutV xs lo hi=xs:=by unfold cutV;rw[hw.1,hw.2];simp
   rw[e2]at e;exact e
  ·refine JwO Y s Z H _ v vl vu lo hi sl Q I rx hs pl C ⟨a,xs,rfl,q,hw,λp hp=>?_⟩;obtain⟨s1,q1⟩:=nE (K:=X.K) hp (mY (lo:=lo) (hi:=hi) h2);exact h _ _ s1 q1
 |lst J=>obtain⟨a,xs,rfl,q,h2⟩:=r;refine JtJ Y s Z H _ v vl vu lo hi sl Q I rx hs pl C ⟨a,xs,rfl,q,λp hp=>?_⟩;obtain⟨s1,q1⟩:=jM (K:=X.K) hp (mY (lo:=lo) (hi:=hi) h2);exact h _ _ s1 q1
 |str x=>
  cases r;obtain⟨t,rfl⟩:=rx;have h:(if x.length<=20000 then Rs.ok (D.str (mkS Tp))else Rs.sk:Rs D).Good B0 AC:=h;split at h
  ·rename_i hz;obtain⟨f,e1,e2⟩:=JlE pl;obtain⟨B,e3,e4⟩:=JlE C;obtain⟨o,ho,hc,hd⟩:=hs;subst e1 e3 e2 e4;refine⟨"str",_,F.slot_str_getitem.lookup,typeIs_str _ _ _,wpAny_getItem_str_slice (l:=f) (u:=B) (st:=No) ⟨o,ho,hc,hd⟩ rfl (post_val_or_str ⟨?_,λt' k=>?_⟩)⟩
   ·exact ZM (Txt.slice_le x _ _) (ZM hz (show 20000<=sizeLine by rw[ZK];decide))
   ·refine⟨.str (Txt.slice x (f.map (·.1)) (B.map (·.1))),H,I.tok _,Au,?_⟩;rw[Jmy];exact Out.now h rfl
  ·exact h.elim
 |_=>exact h.elim
def tO (X:Cx) (U:Ag) (p:Px):TO:=λZ H Q=>∃O,ReadOk X.K H Z O/\('ƴ'.bind D.bound).Good (λo=>∀W,Same H W->Q o W) AC
def KW:PO X No (tO X U Dw):=λY s Z H Q I⟨O,r,h⟩=>Jtr Y s Z H Q I (h H Ea)
def zW(h:BF):PO X (So e) (tO X U (.un .asI p)):=λY s Z H Q I⟨O,r,f⟩=>Jsp h Y s Z H Q I (by
 simp only[evD,Rs.bind_assoc]at f
 refine⟨O,r,(Rs.gB.mp f).imp λd g v W q u=>?_⟩
 cases d with
 |int i=>exact⟨i,u,g W q⟩
 |_=>exact(show False from g).elim)
def jY{lo hi:cU}{p2:Pos}(I:PE X e FH)(hl:PO X lo (tO X U pl))(hu:PO X hi (tO X U ph)):PE X Pg (tI X U (.sl pa pl ph)):=by refine PE.weak (JpE slD I hl hu) λZ H Q q=>?_;obtain⟨O,r,h⟩:=q;refine tI.then r h λd v H1 s1 rv F B=>?_;rw[<-Rs.bind_assoc]at B;refine⟨O,F,(Rs.gB.mp B).imp λl C H2 f=>?_⟩;rw[<-Rs.bind_assoc]at C;refine⟨O,F.mono f,((Rs.gB.mp C).imp λu h3 H3 g=>?_).mono (λ_ x=>x) λc x=>x.mono f⟩;refine⟨d,rv.mono aT,?_⟩;have h4:=h3.mono (λd'(o:Out X H1 Q d')=>o.mono aT) λc(x:XW X H1 c)=>x.mono aT;cases d<;>exact h4
def tF.of{Q:VK}(h:tI X U p Z H Q)(u:∀O d,ReadOk X.K H Z O->evD U p O=.ok d->∃J,d=.lst J):tF X U p Z H Q:=by
 obtain⟨O,r,h⟩:=h;refine FK;cases q:evD U p O with
 |ok d=>rw[q]at h;obtain⟨J,rfl⟩:=u O d r q;exact⟨J,rfl,λl xs W s B g f=>h _ _ s ⟨l,xs,rfl,SqL.of g,f⟩⟩
 |ex c=>rw[q]at h;exact h
 |sk=>rw[q]at h;exact h
noncomputable def isL:Px->Bool
 |.comp _ _ _ _=>To
 |.dis _=>To
 |_=>Fo
def JnS{d:D}(h:isL p=To)(e:evD U p O=.ok d):∃J,d=.lst J:=by
 cases p with
 |comp r a b c=>
  simp only[evD]at e;cases q:evD U a O with
  |ok f=>
   rw[q]at e;cases f with
   |lst J=>
    simp only[Rs.bo,D.asL]at e;split at e
    ·cases g:JO r (evD U b) W0 O J with
     |ok u=>rw[g]at e;cases e;exact⟨u,rfl⟩
     |ex c=>rw[g]at e;cases e
     |sk=>rw[g]at e;cases e
    ·cases e
   |_=>cases e
  |ex c=>rw[q]at e;cases e
  |sk=>rw[q]at e;cases e
 |dis a=>
  simp only[evD]at e;cases q:evD U a O with
  |ok f=>
   rw[q]at e;cases f with
   |lst J=>
    simp only[Rs.bo,D.asL]at e;split at e
    ·cases e;exact⟨J,rfl⟩
    ·cases e
   |_=>cases e
  |ex c=>rw[q]at e;cases e
  |sk=>rw[q]at e;cases e
 |_=>cases h
def Jjp(h:Qdn)(g:isL p=To):PE X e El:=PE.weak h λZ H Q f=>tF.of f λO d _ q=>JnS g q
def Jvd(h:Qbq):PE X Qb9 (tF X U (.dis p)):=by
 refine PE.weak (JwB h) λZ H Q q=>?_;obtain⟨O,r,h⟩:=q;refine⟨O,r,'Ă'.imp λd f=>?_⟩;cases d with
 |lst J=>
  simp only[D.asL,Rs.bo]at f;refine⟨J,rfl,λvs W s g=>?_⟩;split at f
  ·rename_i I;refine⟨by rw[g.length,ZK];exact I,λa u=>?_⟩;obtain⟨B,r2⟩:=jM u g;obtain⟨ds',F,C⟩:=f;cases F;exact C a vs _ (s.trans B) (s.free u) Jg (g.mono B)
  ·exact f.elim
 |_=>exact f.elim
def rC1 (X:Cx) (o:O1):List V->Hp->VK->Prop:=λxs H Q=>∃x d,xs=[x]/\Rep X.K H d x/\(op1 o d).Good B0 AC
def tC1{Q:VK}(h:Qq):tCB QaI (tA X U (.cons pa .nil)) Z H Q:=by obtain⟨O,r,h⟩:=h;refine FK;simp only[evD];refine Rs.gB.mpr ('Ă'.imp λd B=>?_);simp only[Rs.bo,D.asL];refine⟨[d],rfl,λvs W s f=>?_⟩;obtain⟨x,C,u,q,g⟩:=f;cases g;subst u;exact⟨x,d,rfl,q,B.mono NT λ_ x=>x.mono s⟩
section
variable{G:Gw}{N:Ad}{nm:Bf}{x:Str}{id T:A5}{p1:Pos}
def eQ(C:Am)(u:gA X DH QaI)(r:AH)(q:gloB nm x=To)(F:G.mg x=No)(B:bootBuiltins x=So DH)(I:x≠"__name__")(f:CZ)
  (g:Ra):PE X Pf HW:=
 PE.weak (rR u (C.glo _ q) (by rw[C.mg];exact F) B (Jn r JK g) I f g rfl) λZ H Q h=>tC1 h
def zL(C:Am)(u:gA X ED QaI)(r:AH)(q:gloB nm x=To)(F:G.mg x=No)(B:bootBuiltins x=So ED)(I:x≠"__name__")(f:CZ)
  (g:Ra):PE X Pf HW:=
 PE.weak (Jgt u (C.glo _ q) (by rw[C.mg];exact F) B (Jn r JK g) I f g rfl) λZ H Q h=>tC1 h
end
def Inv.kind(I:BW){a:Addr}{o f:HO}(h:H a=So o)(B:Mut (So o))(hn:ObjOk Xa X.w H W6 a o->ObjOk Xa X.w K7 W6 a f):L2.Inv X Y Z K7 s:=by
 have ne:∀{b u},H b=So u->Mut (So u)=False->upd H a f b=H b:=fun{b u}e m=>Je λz=>by
  subst z
  rw[h]at e;cases e
  rw[m]at B;exact B
 have r:∀{b},H b=No->upd H a f b=No:=fun{b}e=>by rw[Je λz=>by rw[z,h]at e;cases e];exact e
 exact{
  ok:=I.ok,os:=I.os,bare:=Xs
  base:=⟨I.base.keep,I.base.slot,λb g hb h0 F=>r (I.base.free b g hb h0 F),I.base.there,λb xs q=>by rw[ne '亊' rfl];exact I.base.tups b xs q,λb g u q=>by rw[ne (I.base.frzs b g u q) rfl];exact I.base.frzs b g u q,λb qs q=>by
   obtain⟨m,e⟩:=I.base.tbls b qs q
   exact⟨m,by rw[ne e rfl];exact e⟩⟩
  loc:=Xz,cell:=Yo,free:=r Xw,freeC:=λx c e=>r G5
  pin:=λp C=>⟨(I.pin p C).1,r (I.pin p C).2.1,(I.pin p C).2.2⟩
  hok:=I.hok.write (by rw[h];exact B) Bd Kh (HOk.has Xh h) (hn (I.hok a o h))
  len:=Ys}
def Inv.asL(I:BW){a:Addr}{t:Str}(h:H a=So aS):L2.Inv X Y Z HZ s:=Inv.kind I h trivial id
def Inv.asM(I:BW){a:Addr}(t:Str)(h:H a=So By):L2.Inv X Y Z (upd H a aS) s:=Inv.kind I h trivial id
def Jvc{a:Addr}{o u:HO}(h:H a=So o):upd (upd H a u) a o=H:=funext λb=>by
 by_cases q:b=a
 ·subst q;rw[Jg,h]
 ·rw[Je q,Je q]
def Jwy:gA X Et (rC1 X .len):=by
 rintro Y s Z H xs g Q I q⟨x,d,e,r,h⟩;subst e;cases d with
 |str z=>
  simp only[op1]at h;split at h
  ·rename_i hz;exact Jhf Y s Z H _ g Q I q ⟨z,by rw[show x=V.str z from r],uF hz,Out.now h rfl⟩
  ·exact h.elim
 |tup J=>obtain⟨a,ys,rfl,f,h2⟩:=r;exact tZ Y s Z H _ g Q I q ⟨a,ys,rfl,.inr f,by rw['Ɯ'];exact Out.now h rfl⟩
 |lst J=>obtain⟨a,ys,rfl,f,h2⟩:=r;exact tZ Y s Z H _ g Q I q ⟨a,ys,rfl,.inl f,by rw['Ɯ'];exact Out.now h rfl⟩
 |mls t J=>obtain⟨a,ys,rfl,f,h2⟩:=r;refine thn (tZ Y s Z _ _ g (λv W=>v=.int BD/\W=upd H a Ir) (Inv.asL I f) q ⟨a,ys,rfl,.inl (.inl (.inl Jg)),rfl,rfl⟩) λu s1 C=>?_;obtain⟨v,H1,I1,B,e1,e2⟩:=C;subst e1 e2;have F:=Inv.asM I1 t (xs:=ys) Jg;rw[Jvc f]at F;exact⟨_,H,F,B,by rw['Ɯ'];exact Out.now h rfl⟩
 |_=>exact(show False from h).elim
def Jpr:gA X G4 (rC1 X .tuple):=by
 rintro Y s Z H xs u Q I B⟨x,d,e,r,h⟩;subst e;cases d with
 |tup J=>obtain⟨a,g,rfl,f,q⟩:=r;exact Jcv Y s Z H _ u Q I B ⟨a,g,rfl,.inr ⟨f,Out.now h ⟨a,g,rfl,f,q⟩⟩⟩
 |lst J=>obtain⟨a,g,rfl,f,q⟩:=r;refine Jcv Y s Z H _ u Q I B ⟨a,g,rfl,.inl ⟨f,λl hl=>?_⟩⟩;obtain⟨C,F⟩:=nE (K:=X.K) hl q;exact h _ _ C F
 |_=>exact(show False from h).elim
def JuV:gA X (.type "int") (rC1 X .ints):=by
 rintro Y s Z H xs us Q I q⟨x,d,e,r,h⟩;subst e;cases d with
 |str z=>
  simp only[op1]at h;split at h
  ·rename_i g;simp only[Zc,Zp,ZZ,JvY]at g;obtain⟨⟨C,h2⟩,h3⟩:=g;have f:x=V.str z:=r;subst f;obtain⟨u,rfl,t,rfl⟩:=lA q;have F:z.length<=640:=by
    have e:z.length=z.cps.toList.length:=by simp[Str.length]
    rw[e];exact h3
   exact PySem.W.KIN.call_text (PySem.intText_digits (λc B=>C c B) h2 Ae) F UZ
  ·exact h.elim
 |bl b=>have f:x=V.bl b:=r;subst f;obtain⟨u,rfl,t,rfl⟩:=lA q;exact PySem.call_int_bool UZ
 |_=>exact(show False from h).elim
theorem pW:∀{J:Ao}{bs:List Bool}{xs:AA},xA J=So bs->Reps K H J xs->xs=bs.map V.bl
 |[],_,_,h,r=>by
  simp only[xA]at h
  cases h
  cases r
  rfl
 |d::J,bs,_,h,⟨x,r,e,h1,h2⟩=>by
  subst e
  cases d with
  |bl b=>
   simp only[xA]at h
   cases q:xA J with
   |none=>rw[q]at h;cases h
   |some f=>
    rw[q]at h
    cases h
    have:=pW q h2
    subst this
    cases h1
    rfl
  |_=>simp[xA]at h
def Jmj:'乑'.all OB=bs.all id:=by
 induction bs with
 |nil=>rfl
 |cons b bs f=>rw[Zl,qT,oG,kK];simp only[oG,<-f];rfl
def JnA:'乑'.any OB=bs.any id:=by
 induction bs with
 |nil=>rfl
 |cons b bs f=>rw[Zl,qT,rB,yF];simp only[rB,<-f];rfl
theorem JjD(r:Cf)(I:BW){a:Addr}(h1:SqL X.K H a (bs.map V.bl)){g:Bool}{tr:Nat->Bool}
  (hq:∀h' C,(∀b o,s.heap.get? b=So o->h'.get? b=So o)->Q QaG {s with heap:=h',toks:=C}):
  wpAny Ay Yf HG (λit f=>∃I fp wr n P St tr,it=.ref I/\Walks Xa X.w Yf I fp wr n P St/\St 0 Qb8/\TruthOf Xa X.w Yf P tr/\n=Qdt/\tr=(λi=>bs.getD i Fo)/\
   ∀h' C,(∀b o,b∉wr->f.heap.get? b=So o->h'.get? b=So o)->Q QaG {f with heap:=h',toks:=C}) X.xe s:=by
 obtain⟨its,rv,p,hz⟩:=I.list h1;have hh:X.A.in1.handled=No:=by show X.A.handled=No;exact I.ok.hd r
 refine uI XR ?_;obtain⟨o,ho,_⟩:=XR;have hlt:a<Aa:=Zk ho;refine⟨Aa,_,_,_,_,_,λi=>bs.getD i Fo,rfl,Walks.list hh Aa a (Zr hlt) Ap,⟨Dj,p.isList.push _⟩,?_,?_,rfl,λh' C k=>?_⟩
 ·intro i v Q' E' s' hv q;have B:its[i]? =So v:=by simpa using hv
  have F:=Y8;have hi:i<AU:=(Zz.mp B).1;have hbi:(bs.map V.bl)[i]? =So (V.bl (bs.getD i Fo)):=by rw[oB,pL,Zq (by rw[Ze]at F;lia)];rfl
  obtain⟨u,e1,e2⟩:=rv.get hbi;rw[B]at e1;cases e1;cases e2;exact pB q
 ·have F:=Y8;rw[Ze]at F;rw[Zn];exact F.symm
 ·refine hq h' C λb o e=>k b o ?_ Ex;intro hb;have:b=Aa:=by simpa using hb
  rw[this]at e;exact nP _ (Zk e)
def JwE(f:Cf):gA X (.builtin "all") (rC1 X .all):=by
 rintro Y s Z H xs us Q I rv⟨x,d,e,r,h⟩;subst e;cases d with
 |lst J=>
  simp only[op1]at h;cases q:xA J with
  |none=>rw[q]at h;exact h.elim
  |some bs=>rw[q]at h;obtain⟨a,ys,rfl,h1,h2⟩:=r;have:=pW q h2;subst this;obtain⟨u,rfl,rx⟩:=lA rv;cases rx;refine call_all_walk (thn (JjD (g:=bs.all id) (tr:=λ_=>To) f I h1 (Q:=EP X Y Z Q) λh' C k=>UN) λit s2 B=>?_);obtain⟨I',fp,wr,n,Pz,Sz,tr,e1,W9,st,tt,F,e3,hq⟩:=B;subst F;subst e3;refine V0;rw[Jmj];exact hq h' C k
 |_=>exact(show False from h).elim
def JvW(f:Cf):gA X (.builtin "any") (rC1 X .any):=by
 rintro Y s Z H xs us Q I rv⟨x,d,e,r,h⟩;subst e;cases d with
 |lst J=>
  simp only[op1]at h;cases q:xA J with
  |none=>rw[q]at h;exact h.elim
  |some bs=>rw[q]at h;obtain⟨a,ys,rfl,h1,h2⟩:=r;have:=pW q h2;subst this;obtain⟨u,rfl,rx⟩:=lA rv;cases rx;refine call_any_walk (thn (JjD (g:=bs.any id) (tr:=λ_=>To) f I h1 (Q:=EP X Y Z Q) λh' C k=>UN) λit s2 B=>?_);obtain⟨I',fp,wr,n,Pz,Sz,tr,e1,W9,st,tt,F,e3,hq⟩:=B;subst F;subst e3;refine V0;rw[JnA];exact hq h' C k
 |_=>exact(show False from h).elim
def tI.un1{Q:VK}{f:VK}(h:Qq)(g:∀d v W,Same H W->Rep X.K W d v->(op1 o d).Good (Out X W Q) (XW X W)->f v W):tI X U pa Z H f:=by obtain⟨O,r,h⟩:=h;exact tI.then r h λd v W s u _ q=>g d v W s u q
def wW{d:D}(r:D7):op1 .isN d=.ok (.bl (decide (v=.non)))/\op1 .notN d=.ok (.bl (!decide (v=.non))):=by
 cases d with
 |non=>cases r;rw[Zs rfl];exact Ce
 |_=>rw[Zt (by rintro rfl;first|(cases r;done)|(obtain⟨_,_,e,_⟩:=r;cases e;done)|(obtain⟨e,_⟩:=r;cases e;done)|(obtain⟨_,e,_⟩:=r;cases e;done)|(obtain⟨_,_,_,e,_⟩:=r;cases e))];exact Ce
def JtU{j p'}(g:AH):PE X TR (tI X U Qcf):=
 PE.weak (JwT (JkP g)) λZ H Q h=>h.un1 λd v W s q f=>by rw[(wW q).2]at f;exact Out.now f rfl
def Jwe{j p'}(g:AH):PT X (.Compare a [.Is] V2 pos) (tT X U (.un .isN pa)):=
 PT.weak (dQ (Jwr g)) λZ H Q h=>h.asTest.un1 λd v W s q f=>by rw[(wW q).1]at f;exact Out.now f rfl
def JrC{j p'}(g:AH):PT X TR (tT X U Qcf):=
 PT.weak (dQ (JkP g)) λZ H Q h=>h.asTest.un1 λd v W s q f=>by rw[(wW q).2]at f;exact Out.now f rfl
def Jvr(g:AH):PE X (.UnaryOp .USub a pos) (tI X U (.un .neg pa)):=by
 refine PE.weak (pe_un Juv g) λZ H Q h=>h.un1 λd v W s q f=>?_;cases d with
 |int i=>exact⟨i,q,Out.now f rfl⟩
 |_=>exact(show False from f).elim
def tI.chain{F I:O2}{Q:VK}(h:tI X U (.and (.bi F pa pb) (.bi I pb pc)) Z H Q):fV (rD2 X F) (rD2 X I) FH K4 aU Z H Q:=by
 obtain⟨O,r,h⟩:=h;simp only[evD,Rs.bind_assoc]at h;refine tI.then r h λdx x H1 s1 r1 C f=>?_;cases u:evD U pb O with
 |ok dy=>
  rw[u]at f;refine⟨O,C,?_⟩;rw[u];intro y H2 q r2;have h2:=f.mono (λd(o:Out X H1 Q d)=>o.mono q) λc(x:XW X H1 c)=>x.mono q;simp only[Rs.bo]at h2;refine⟨dx,dy,r1.mono q,r2,(Rs.gB.mp h2).imp λdz B z H3 g r3=>?_⟩;cases dz with
  |bl k=>
   refine⟨k,r3,?_⟩;cases k with
   |true=>have h3:=B.mono (λd(o:Out X H2 Q d)=>o.mono g) λc(x:XW X H2 c)=>x.mono g;refine iteT (tI.then (C.mono (q.trans g)) h3 λdw w H4 s4 r4 q4 h4=>⟨dy,dw,r2.mono (g.trans s4),r4,h4⟩)
   |false=>exact iteF (B _ _ g rfl)
  |_=>exact B.elim
 |ex c=>exact⟨O,C,by rw[u]at f⊢;exact f⟩
 |sk=>rw[u]at f;exact f.elim
def JpY{q r:O2}{op f:YB}(u:M0)(g:S8)(B:AH)(F:BZ)(C:PE X c aU)
  (I:lastMarks [op,f] [b,c]=Fo):PE X Tv (tI X U Us):=PE.weak (Jop u g B F C I) λZ H Q h=>h.chain
def JoB{q r:O2}{op f:YB}(u:M0)(g:S8)(B:AH)(F:BZ)(C:PE X c aU)
  (I:lastMarks [op,f] [b,c]=Fo):PT X Tv (tT X U Us):=PT.weak (Jos u g B F C I) λZ H Q h=>h.asTest.chain
end
noncomputable def hJ (t:Bool):String:=if t then "tuple_iterator" else "list_iterator"
def IsIt(t:Bool)(h:Heap)(it a:Addr)(i:Nat):Prop:=∃o,h.get? it=So o/\o.cls=.type (hJ t)/\o.data=.fields #[.ref a,.int i 0]
def IsSq(t:Bool)(h:Heap)(a:Addr)(items:BU):Prop:=match t with
 |true=>h.IsTuple a items
 |false=>h.IsList a items
def IsIt.stay(x:Qd0)(k:∀o,h.get? it=So o->h'.get? it=So o):IsIt t h' it a i:=let⟨o,e,r⟩:=x;⟨o,k o e,r⟩
def IsSq.stay(x:IsSq t h a items)(k:∀o,h.get? a=So o->h'.get? a=So o):IsSq t h' a items:=by
 cases t
 ·exact let⟨o,e,r⟩:=(show h.IsList a items from x);(show h'.IsList a items from⟨o,k o e,r⟩)
 ·exact let⟨o,e,r⟩:=(show h.IsTuple a items from x);(show h'.IsTuple a items from⟨o,k o e,r⟩)
def IsIt.lt(x:Qd0):it<BE:=let⟨_,e,_⟩:=x;Zk e
def iT{x:An}(hit:MZ)(I:NC)(u:items[i]? =So x)
  (B:∀h',IsIt t h' it a AE->Heap.SameBut it W6 h'->Q x {s with heap:=h'}):wpAny As A Ue Q E s:=by
 cases t with
 |false=>exact wpAny_nextOf_list_item (l:=a) (i:=i) hit I u B
 |true=>obtain⟨o,f,C,g⟩:=id hit;obtain⟨ol,q,_,U,r⟩:=(show s.heap.IsTuple a items from I);have ty:s.TypeIs A7 "tuple_iterator":=⟨o,f,C⟩;unfold Builtin.SmallTypes.nextOf;refine Za (ZJ (name:=oS "__next__") ty mP (ZI mP ty bD ?_ Ud));show wpAny _ _ (field A7 0>>=_) _ _ s;refine Za (kA f g (x:=.ref a) rfl ?_);show wpAny _ _ (if(Value.ref a==Xb)=To then _ else _) _ _ s;rw[if_neg (show¬((Value.ref a==Value.none)=To)from ZH)];show wpAny _ _ (field A7 1>>=_) _ _ s;refine Za (kA f g (x:=.int i 0) rfl ?_);show wpAny _ _ (seqItems? Aw>>=_) _ _ s;refine Za (uB q r ?_);simp only[dC,u];refine Za (kC f g Af (Zb ⟨x,rfl,Zb (B _ ?_ (fE ..))⟩));refine⟨_,ZQ _ f (pT (lI g _)),(Obj.cls_mapFields ..).trans C,?_⟩;rw[lI g];simp[rawInt]
def qY(u:A8)(hit:MZ)(I:NC)(B:items[i]? =No)
  (C:∀h' e,Heap.ExtBut it W6 h'->(∃o,h'.get? e=So o/\o.cls=.type "StopIteration")->E Iu {s with heap:=h'}):wpAny As A Ue Q E s:=by
 cases t with
 |false=>exact wpAny_nextOf_list_end u (l:=a) (i:=i) hit I B C
 |true=>
  obtain⟨o,f,U,r⟩:=id hit;obtain⟨ol,g,_,nl,q⟩:=(show s.heap.IsTuple a items from I);have ty:s.TypeIs A7 "tuple_iterator":=⟨o,f,U⟩;unfold Builtin.SmallTypes.nextOf;refine Za (ZJ (name:=oS "__next__") ty mP (ZI mP ty bD ?_ Ud));show wpAny _ _ (field A7 0>>=_) _ _ s;refine Za (kA f r (x:=.ref a) rfl ?_);show wpAny _ _ (if(Value.ref a==Xb)=To then _ else _) _ _ s;rw[if_neg (show¬((Value.ref a==Value.none)=To)from ZH)];show wpAny _ _ (field A7 1>>=_) _ _ s;refine Za (kA f r (x:=.int i 0) rfl ?_);show wpAny _ _ (seqItems? Aw>>=_) _ _ s;refine Za (uB g q ?_);simp only[dC,B];refine Za (uA (Za (kC f r Af ?_)));show wpAny _ _ (newExc R6 []>>=_) _ _ _;refine Za ?_;simp only[newExc,newTuple];refine Za (ZR ?_ (by size_fits));refine Za (m:=firstArgMember _ _) (wpAny_of_eq (a:=Xb) (by first|rfl|(simp only[firstArgMember];rfl)) (ZR ?_ (by size_fits)));delta raiseNew;refine Za (wpAny_handled ?_);first|rw[show A.in1.handled=No from u]|rw[u]
  refine Za (Zb (wpAny_throw ?_));exact C _ _ (((fE ..).extBut.push _).push _) Ko
def Jjj(I:A8)(t:Bool)(it a:Addr)(q:a≠it)(items:BU):
  Draws prog w A it [it,a] Av (λi v=>items[i]? =So v) (λi h=>IsIt t h it a i/\IsSq t h a items)where
 live:=λ_ _ st=>let⟨o,F,_⟩:=st.1;⟨o,F⟩
 frame:=λ_ _ _ st r=>⟨st.1.stay λo e=>r it Af o e,st.2.stay λo e=>r a Af o e⟩
 item:=λi s Q E u st B=>iT st.1 st.2 (x:=items[i]) (by simp[u]) λh' f g=>B _ h' W7 (by simp[u]) ⟨f,st.2.stay λo e=>g.extBut a o q e⟩ g
 done:=λs Q E st C=>qY I st.1 st.2 Af C
def Sq(K:Ai)(t:Bool)(H:Hp)(a:Addr)(xs:AA):Prop:=match t with
 |true=>SqT K H a xs
 |false=>SqL K H a xs
def Sq.same(e:CS)(h:Sq K t H a xs):Sq K t W a xs:=by
 cases t
 ·exact Same.seq e (show SqL K H a xs from h)
 ·exact SqT.same e (show SqT K H a xs from h)
section
variable{ys:AA}
def gD(I:BW)(h:LW):∃its:List Value,Vals xs its/\IsSq t W6 a Ap/\xs.length<=sizeLine:=by
 cases t
 ·obtain⟨its,r,p,z⟩:=I.list h;exact⟨its,r,XR,z⟩
 ·obtain⟨its,r,p,z⟩:=I.tuple h;exact Qd4
def wV(I:BW)(h:LW)(h':Sq X.K t H a ys):xs=ys:=by
 cases t
 ·exact I.list_inj h h'
 ·exact I.tuple_inj h h'
def xU(I:BW)(h:LW){o:Obj}(e:s.heap.get? b=So o)(u:o.cls≠.type "list")(q:o.cls≠.type "tuple"):a≠b:=by
 rintro rfl;obtain⟨B,_,p,_⟩:=gD I h;cases t
 ·obtain⟨r,f,g,_⟩:=(show s.heap.IsList a _ from p);rw[e]at f;cases f;exact u g
 ·obtain⟨r,f,g,_⟩:=(show s.heap.IsTuple a _ from p);rw[e]at f;cases f;exact q g
end
def Ite (K:Ai) (t:Bool) (a:Addr):It:=
 ⟨λi H=>∃xs x,Sq K t H a xs/\xs[i]? =So x,λi H x W=>∃T v,H T=No/\x=.ref T/\W=upd H T (.tup Qbh)/\∀xs,Sq K t H a xs->xs[i]? =So v,λi H=>∃xs,Sq K t H a xs/\xs.length=i⟩
def kS{tk:Nat}{ch:A3}(I:BW)(B:∀b∈ch,FpOk X Y H b)(k:∀b o,b∉ch->s.heap.get? b=So o->h'.get? b=So o):
  L2.Inv X Y Z H {s with heap:=h',toks:=tk}:=by
 refine I.step (g':=YF) (d':=X9) (ch:=ch) (λb g=>?_) (λb o _ _ f e _=>k b o f e) (λb o _ _ f e _=>⟨o.slots,k b o f e⟩) Nu (λb o f e=>⟨o,k b o f e⟩) (λ_ _ e=>e) (λ_ _ _ e=>e) (λb ps e=>⟨#[],by rw[e];simp⟩) (λm hm=>?_) (λb u e=>?_) Xs
 ·obtain⟨_,f1,_,f3,F,U⟩:=B b g;exact⟨f3,f1,F,U⟩
 ·obtain⟨o,es,ep,ho,r⟩:=hm;exact⟨o,es,ep,k _ o (λg=>(B _ g).2.1 rfl) ho,r⟩
 ·refine(I.hok b u e).stay (λc v f q=>k c v ?_ q) Ll λ_ _ q=>q;intro g;have C:=(B c g).1;rcases f with z|z
  ·rw[<-z,C]at e;cases e
  ·rw[C]at z;cases z
def JdO{tk:Nat}{ch:A3}{o:HO}(I:BW)(hf:∀b∈ch,FpOk X Y H b)(k:∀b o,b∉ch->s.heap.get? b=So o->h'.get? b=So o)
  (hp:Aa<=a) (new:PY):L2.Inv X Y Z FO {s with heap:=h',toks:=tk}:=by
 have hn:H a=No:=I.hok.fresh hp;have f:∀b u,H b=So u->b≠a:=λb u e z=>by rw[z,hn]at e;cases e
 have ne2:∀b C,s.heap.get? b=So C->b≠a:=λb C e=>Zr (Zw (Zk e) hp);refine I.step (g':=YF) (d':=X9) (ch:=ch) (λb B=>?_) (λb o _ _ g e _=>k b o g e) (λb o _ _ g e _=>⟨o.slots,k b o g e⟩) (λb C _ e n=>by rw[Je (ne2 b C e)];exact n) (λb o g e=>⟨o,k b o g e⟩)
  (λb xs e=>by rw[Je (f b _ e)];exact e) (λb C u e=>by rw[Je (f b _ e)];exact e) (λb ps e=>⟨#[],by rw[Je (f b _ e),e];simp⟩) (λm hm=>?_) (λb u e=>?_) Xs
 ·obtain⟨_,f1,_,f3,f4,f5⟩:=hf b B;exact⟨f3,f1,f4,f5⟩
 ·obtain⟨o,es,ep,ho,r⟩:=hm;exact⟨o,es,ep,k _ o (λB=>(hf _ B).2.1 rfl) ho,r⟩
 ·by_cases B:b=a
  ·subst B;rw[Jg]at e;cases e;exact new
  ·rw[Je B]at e;refine(I.hok b u e).stay (λc v g q=>k c v ?_ q) (λc q=>?_) (λc xs q=>?_) λc o' u' q=>by rw[Je (f c _ q)];exact q
   ·intro U;have F:=(hf c U).1;rcases g with z|z
    ·rw[<-z,F]at e;cases e
    ·rw[F]at z;cases z
   ·rw[Je (f c _ q)];exact q
   ·rw[Je (f c _ q)];exact q
def Jgg{tpos:Pos}(t:Bool)(a it e:Addr)(U:e≠it):
  Turn P w K Of (Ite K t a) [e,it] e (λi h=>(∃f,IsEnum h e it i f)/\IsIt t h it a i)where
 mem:=by simp
 obj:=λi h st b g=>by
  obtain⟨⟨f,C⟩,o,ho,hc,hd⟩:=st
  rcases Zf.mp g with rfl|g
  ·exact⟨_,C,λv z=>by cases z⟩
  ·have e:b=it:=by simpa using g
   subst e
   exact⟨o,ho,λv z=>by rw[hd]at z;cases z⟩
 keep:=λi h h' st q=>⟨let⟨f,C⟩:=st.1;⟨f,q e Af _ C⟩,st.2.stay λo x=>q it Af o x⟩
 item:=by
  intro X hP hw hK hc i Y s Z H E I hf st hg;subst hP hw hK;obtain⟨xs,x,F,hx⟩:=hg;obtain⟨its,rv,p,hz⟩:=gD I F;obtain⟨u,hu,ru⟩:=rv.get hx;obtain⟨⟨f,C⟩,hit⟩:=st;obtain⟨o,ho,r,hod⟩:=id hit;have na:a≠it:=xU I F ho (by rw[r];cases t<;>simp[hJ]) (by rw[r];cases t<;>simp[hJ]);have nae:a≠e:=xU I F C Af Af;have hlt:i<BK:=by have:=(Zz.mp hu).1;simpa using this
  have D:=Jjj (prog:=Xa) (w:=X.w) (A:=Yf) (show X.A.in1.handled=No from I.ok.hd hc) t it a na Ap;refine wpAny_pyNext_enum_itemD D C ⟨hit,p⟩ hlt U (by simp[U,Ne.symm nae]) λy h' tk hP ho' hs' hT hsz hk=>?_;have hy:y=u:=by
   have e1:Ap[i]? =So y:=hP;have e2:Ap[i]? =So u:=by simpa using hu
   rw[e1]at e2;exact pA e2
  subst hy;refine⟨_,rfl,wpAny_letOwnedTupleGo_enum ho' λh2 he2 B=>?_⟩;have hel:e<Aa:=Zk C;have hil:it<Aa:=hit.lt;have keep2:∀b o,b∉[e,it]->s.heap.get? b=So o->h2.get? b=So o:=λb o g q=>by have h1:b≠e:=λz=>g (by simp[z]);have h3:b≠it:=λz=>g (by simp[z]);exact(B.2 b h1).trans (hk b o h1 h3 q)
  have hT2:h2.get? Aa=So {cls:=.type "tuple",data:=.seq #[.int i tk,y]}:=(B.2 _ (iD hel)).trans hT;have hfr:H Aa=No:=I.hok.fresh (Zj _);have I2:L2.Inv X Y Z (upd H Aa (.tup [.int i,x])) {s with heap:=h2,toks:=tk+1}:=
   JdO I hf keep2 (Zj _) ⟨⟨by rw[ZK];show 2<=_;decide,λo q=>by rw[hT2]at q;cases q;rfl⟩,[.int i tk,y],.cons ⟨tk,rfl⟩ (.cons ru .nil),_,hT2,rfl,_,rfl⟩
  refine⟨.ref Aa,_,I2,rfl,⟨Aa,x,hfr,rfl,rfl,λzs hzs=>by rw[wV I hzs F];exact hx⟩,⟨⟨_,by simpa using he2⟩,hs'.1.stay λo q=>(B.2 it U.symm).trans q⟩,λb g=>?_⟩;rcases Zf.mp g with rfl|g
  ·rw[Je (Zr hel)];exact(hf b Af).1
  ·have e:b=it:=by simpa using g
   subst e;rw[Je (Zr hil)];exact(hf b Af).1
 done:=by
  intro X hP hw hK hc i Y s Z H E I hf st hg;subst hP hw hK;obtain⟨xs,F,hx⟩:=hg;obtain⟨its,rv,p,hz⟩:=gD I F;obtain⟨⟨f,C⟩,hit⟩:=st;obtain⟨o,ho,r,hod⟩:=id hit;have na:a≠it:=xU I F ho (by rw[r];cases t<;>simp[hJ]) (by rw[r];cases t<;>simp[hJ]);have hl:=Y8;have hin:i=BK:=by rw[Zn,<-hl,hx]
  have D:=Jjj (prog:=Xa) (w:=X.w) (A:=Yf) (show X.A.in1.handled=No from I.ok.hd hc) t it a na Ap;refine wpAny_pyNext_enum_endD D C (by rw[<-hin];exact⟨hit,p⟩) λh' hx'=>⟨rfl,kS (tk:=W7) I hf λb o g q=>hx' b o (λz=>g (by simp[z])) q⟩
 self:=λA i s Q E st h=>let⟨⟨f,C⟩,_⟩:=st;wpAny_pyIter_enum C h
structure Apart(z TI TO i1 i2:Addr):Prop where
 all:[z,TI,TO,i1,i2].Nodup
def Apart.ne{z TI TO f g:Addr}(D:Apart z TI TO f g):TI≠z/\TO≠z/\f≠z/\g≠z/\TI≠TO/\TI≠f/\TI≠g/\TO≠f/\TO≠g/\f≠g:=by have h:=D.all;simp only[lC,Zf,ZA,eA,not_or]at h;obtain⟨⟨C,I,a3,B⟩,⟨F,U,b3⟩,⟨q,r⟩,u,_⟩:=h;exact⟨Ne.symm C,Ne.symm I,Ne.symm a3,Ne.symm B,F,U,b3,q,r,u⟩
section
variable{z TI TO i1 i2 l1 l2:Addr}{xs ys:BU}{x y a b:An}
def JsH(D:QS)(hz:Pm)(hTI:Ul)(hTO:MY)(h1:N7)(h2:N6)
  (hl1:MX) (hl2:MW) (n1:l1∉[z,TO,i1,i2]) (n2:l2∉[z,TO,i1,i2]) (hx:xs[k]? =So x) (hy:ys[k]? =So y)
  (hQ:∀h',IsZip h' z TI TO (rawInt Aa)->IsPair h' TO x y->IsIt t1 h' i1 l1 AV->IsIt t2 h' i2 l2 AV->IsPair h' Aa x y->(∀c o,c∉[z,TO,i1,i2]->s.heap.get? c=So o->h'.get? c=So o)->Q Dr {s with heap:=h'}):
  wpAny As A (Builtin.«zip.__next__» Qb0) (λfin s'=>∃v,fin=.done (.ret v)/\Q v s') E s:=by
 obtain⟨d1,d2,d3,d4,d5,d6,d7,d8,d9,d10⟩:=D.ne;simp only[Zf,ZA,eA,not_or]at n1 n2;obtain⟨m1,m2,m3,m4⟩:=n1;obtain⟨o1,o2,o3,o4⟩:=n2;show wpAny _ _ (field Eu 2>>=_) _ _ _;refine Za (kA hz rfl (x:=.bool Fo) rfl ?_);show wpAny _ _ (field Eu 3>>=_) _ _ _;refine Za (kA hz rfl (x:=.ref TI) rfl (Za (uB hTI rfl ?_)));show wpAny _ _ (Builtin.SmallTypes.ownedTupleIsFree (.ref z)>>=_) _ _ _;refine Za ?_;unfold Builtin.SmallTypes.ownedTupleIsFree;refine Za (kA hz rfl (x:=.none) rfl (Zb ?_));simp only[if_true];refine Za (uA (Za (kA hz rfl (x:=.ref TO) rfl (Za (kI hz Af λg1 U I=>?_)))));replace U:IsZip g1 z TI TO .ellipsis:=U;refine Za ?_;simp only[List.zipIdx_cons,List.zipIdx_nil,eL,gO];refine Za (Za (wpAny_onRaise ?_));show wpAny _ _ (Builtin.SmallTypes.nextOf (.ref i1)>>=_) _ _ _;refine Za (iT (h1.stay λo e=>I.extBut _ _ d3 e) (hl1.stay λo e=>I.extBut _ _ m1 e) hx λg2 k1 s2=>Zb ?_);have F:IsPair g2 TO a b:=s2.extBut _ _ d8 (I.extBut _ _ d2 hTO);refine Za (uB F rfl (Za (kT F λg3 u s3=>?_)));replace u:IsPair g3 TO x b:=u;refine Za (wpAny_letGo (Zb ?_));refine Za (Za (wpAny_onRaise ?_));show wpAny _ _ (Builtin.SmallTypes.nextOf (.ref i2)>>=_) _ _ _;refine Za (iT (h2.stay λo e=>s3.extBut _ _ HF (s2.extBut _ _ QdA (I.extBut _ _ d4 e))) (hl2.stay λo e=>s3.extBut _ _ o2 (s2.extBut _ _ o3 (I.extBut _ _ o1 e))) hy λg4 k2 s4=>Zb ?_);have C:IsPair g4 TO x b:=s4.extBut _ _ d9 u;refine Za (uB C rfl (Za (kT C λg f s5=>?_)));replace f:IsPair g TO x y:=f;refine Za (wpAny_letGo (Zb (Zb (Za (uB f rfl (Za (wpAny_newTuple ?_)))))));have hsz:g.objs.size=Aa:=by rw[s5.1,s4.1,s3.1,s2.1,I.1]
 have hz5:IsZip g z TI TO .ellipsis:=s5.extBut _ _ HE (s4.extBut _ _ (Ne.symm d4) (s3.extBut _ _ HE (s2.extBut _ _ HD U)));have kp:∀c o,c∉[z,TO,i1,i2]->s.heap.get? c=So o->g.get? c=So o:=λc o r e=>by simp only[Zf,ZA,eA,not_or]at r;exact s5.extBut _ _ r.2.1 (s4.extBut _ _ r.2.2.2 (s3.extBut _ _ r.2.1 (s2.extBut _ _ r.2.2.1 (I.extBut _ _ r.1 e))))
 have e1:IsIt t1 g i1 l1 AV:=k1.stay λo e=>s5.extBut _ _ (Ne.symm d8) (s4.extBut _ _ d10 (s3.extBut _ _ (Ne.symm d8) e));have e2:IsIt t2 g i2 l2 AV:=k2.stay λo e=>s5.extBut _ _ HF e;have zl:z<g.objs.size:=Zk hz5;show wpAny _ _ (Builtin.SmallTypes.ownedTupleHandOut Eu (.ref cZ)>>=_) _ _ _;refine Za ?_;unfold Builtin.SmallTypes.ownedTupleHandOut;have hz6:IsZip (g.push {cls:=.type "tuple",data:=.seq #[x,y]}) z TI TO .ellipsis:=Zd _ hz5;refine Za (kI hz6 Af λg7 hz7 s7=>?_);replace hz7:IsZip g7 z TI TO Oe:=hz7;refine kI hz7 Af λg8 B s8=>?_;replace B:IsZip g8 z TI TO Oe:=B;have up:∀c o,c≠z->g.get? c=So o->g8.get? c=So o:=λc o r e=>s8.extBut _ _ r (s7.extBut _ _ r Ex);have hT8:IsPair g8 cZ x y:=s8.extBut _ _ (iD zl) (s7.extBut _ _ (iD zl) FP);rw[hsz]at B hT8;refine Zb ⟨_,rfl,?_⟩;show Q (.ref cZ) _;rw[hsz];exact hQ g8 B (up _ _ d2 f) (e1.stay λo e=>up _ o d3 e) (e2.stay λo e=>up _ o d4 e) hT8 λc o r e=>up c o (λq=>r (by simp[q])) (kp c o r e)
def JwL{Q:Fin->Shared->Prop}(hh:A8)(D:QS)(hz:Pm)(hTI:Ul)(hTO:MY)(h1:N7)(h2:N6)
  (hl1:MX) (hl2:MW) (n1:l1∉[z,TO,i1,i2]) (n2:l2∉[z,TO,i1,i2]) (hend:xs[k]? =No\/ys[k]? =No)
  (hE:∀h' e,(∀c o,c∉[z,TO,i1,i2]->s.heap.get? c=So o->h'.get? c=So o)->(∃o,h'.get? e=So o/\o.cls=.type "StopIteration")->E Iu {s with heap:=h'}):
  wpAny As A (Builtin.«zip.__next__» Qb0) Q E s:=by
 obtain⟨d1,d2,d3,d4,d5,d6,d7,d8,d9,d10⟩:=D.ne;simp only[Zf,ZA,eA,not_or]at n1 n2;obtain⟨m1,m2,m3,m4⟩:=n1;obtain⟨o1,o2,o3,o4⟩:=n2;show wpAny _ _ (field Eu 2>>=_) _ _ _;refine Za (kA hz rfl (x:=.bool Fo) rfl ?_);show wpAny _ _ (field Eu 3>>=_) _ _ _;refine Za (kA hz rfl (x:=.ref TI) rfl (Za (uB hTI rfl ?_)));show wpAny _ _ (Builtin.SmallTypes.ownedTupleIsFree (.ref z)>>=_) _ _ _;refine Za ?_;unfold Builtin.SmallTypes.ownedTupleIsFree;refine Za (kA hz rfl (x:=.none) rfl (Zb ?_));simp only[if_true];refine Za (uA (Za (kA hz rfl (x:=.ref TO) rfl (Za (kI hz Af λg1 C B=>?_)))));replace C:IsZip g1 z TI TO .ellipsis:=C;refine Za ?_;simp only[List.zipIdx_cons,List.zipIdx_nil,eL,gO];refine Za (Za (wpAny_onRaise ?_));show wpAny _ _ (Builtin.SmallTypes.nextOf (.ref i1)>>=_) _ _ _;have f:∀c,c∉[z,TO,i1,i2]->c≠z/\c≠TO/\c≠i1/\c≠i2:=λc r=>by simpa[not_or]using r
 cases hx:xs[k]? with
 |none=>
  refine Za (qY hh UB UE hx λg2 e I he=>?_);obtain⟨oe,g,u⟩:=he;have hz2:IsZip g2 z TI TO .ellipsis:=I _ _ HD C;have hez:e≠z:=λq=>by subst q;rw[hz2]at g;cases g;simp at u
  exact kI hz2 Af λg3 _ U=>hE g3 e (λc o r q=>U.extBut _ _ (f c r).1 (I _ _ (f c r).2.2.1 (B.extBut _ _ (f c r).1 q))) ⟨oe,U.extBut _ _ hez g,u⟩
 |some x=>
  have hy:ys[k]? =No:=by rcases hend with q|q;(·rw[hx]at q;cases q);exact q
  refine Za (iT UB UE hx λg2 k1 I=>Zb ?_);have F:IsPair g2 TO a b:=I.extBut _ _ d8 (B.extBut _ _ d2 hTO);refine Za (uB F rfl (Za (kT F λg3 hTO3 U=>Za (wpAny_letGo (Zb ?_)))));refine Za (Za (wpAny_onRaise ?_));show wpAny _ _ (Builtin.SmallTypes.nextOf (.ref i2)>>=_) _ _ _;refine Za (qY hh (h2.stay λo e=>U.extBut _ _ HF (I.extBut _ _ QdA (B.extBut _ _ d4 e))) (hl2.stay λo e=>U.extBut _ _ o2 (I.extBut _ _ o3 (B.extBut _ _ o1 e))) hy λg4 e s4 he=>?_);obtain⟨oe,g,u⟩:=he;have hz4:IsZip g4 z TI TO .ellipsis:=s4 _ _ (Ne.symm d4) (U.extBut _ _ HE (I.extBut _ _ HD C));have hez:e≠z:=λq=>by subst q;rw[hz4]at g;cases g;simp at u
  exact kI hz4 Af λg5 _ s5=>hE g5 e (λc o r q=>s5.extBut _ _ (f c r).1 (s4 _ _ (f c r).2.2.2 (U.extBut _ _ (f c r).2.1 (I.extBut _ _ (f c r).2.2.1 (B.extBut _ _ (f c r).1 q))))) ⟨oe,s5.extBut _ _ hez g,u⟩
end
def Jjw{f:AA}(I:BW)(h:Sq X.K t H l f)(g:FpOk X Y H b):l≠b:=by
 rintro rfl;have mod:∀o,X.K.lookup l=So o->False:=λo e=>by
  have B:=I.mod.kin l o e;rcases g.2.2.2.1 with q|q
  ·exact I.ok.noex l o B q
  ·exact absurd (Zw (Zk (I.ok.bs l o B).1) q) Cz
 have r:∀u,Rd H l u->False:=λu q=>by rcases q with q|⟨o,q⟩<;>(rw[g.1]at q;cases q)
 cases t
 ·rcases(show SqL X.K H l f from h)with q|⟨o,_,_,q,_⟩
  ·exact r _ q
  ·exact mod o q
 ·rcases(show SqT X.K H l f from h)with q|⟨_,o,_,_,_,q,_⟩
  ·exact r _ (.inl q)
  ·exact mod o q
def Itz (K:Ai) (t1 t2:Bool) (q g:Addr):It:=
 ⟨λi H=>∃xs f x y,Sq K t1 H q xs/\Sq K t2 H g f/\xs[i]? =So x/\f[i]? =So y,
  λi H x W=>∃T u v,H T=No/\x=.ref T/\W=upd H T (.tup [u,v])/\(∀xs,Sq K t1 H q xs->xs[i]? =So u)/\∀f,Sq K t2 H g f->f[i]? =So v,
  λi H=>∃xs f,Sq K t1 H q xs/\Sq K t2 H g f/\(xs[i]? =No\/f[i]? =No)⟩
def JuD(z TI TO g f r q:Addr)(t1 t2:Bool)(i:Nat)(h:Heap):Prop:=IsZip h z TI TO .none/\IsPair h TI (.ref g) (.ref f)/\(∃a b,IsPair h TO a b)/\IsIt t1 h g r i/\IsIt t2 h f q i
def JoJ{tpos:Pos}(t1 t2:Bool)(l1 l2 z TI TO i1 i2:Addr)(D:QS):
  Turn P w K Of (Itz K t1 t2 l1 l2) [z,TI,TO,i1,i2] z (JuD z TI TO i1 i2 l1 l2 t1 t2)where
 mem:=by simp
 obj:=λi h st b g=>by
  obtain⟨h1,U,⟨a,c,h3⟩,⟨o4,h4,_,h4'⟩,⟨o5,h5,_,h5'⟩⟩:=st
  simp only[Zf,ZA,eA]at g
  rcases g with rfl|rfl|rfl|rfl|rfl
  ·exact⟨_,h1,λv q=>by cases q⟩
  ·exact⟨_,U,λv q=>by cases q⟩
  ·exact⟨_,h3,λv q=>by cases q⟩
  ·exact⟨_,h4,λv q=>by rw[h4']at q;cases q⟩
  ·exact⟨_,h5,λv q=>by rw[h5']at q;cases q⟩
 keep:=λi h h' st q=>let⟨h1,U,⟨a,c,h3⟩,h4,h5⟩:=st;⟨q z Af _ h1,q TI Af _ U,⟨a,c,q TO Af _ h3⟩,h4.stay λo e=>q i1 Af o e,h5.stay λo e=>q i2 Af o e⟩
 item:=by
  intro X hP hw hK r i Y s Z H E I hf st hg;subst hP hw hK;obtain⟨xs,ys,x,y,q1,q2,hx,hy⟩:=hg;obtain⟨its,rv,p1,_⟩:=gD I q1;obtain⟨its2,rv2,p2,_⟩:=gD I q2;obtain⟨u,hu,ru⟩:=rv.get hx;obtain⟨v,hv,rw2⟩:=rv2.get hy;obtain⟨hz,B,⟨a,b,C⟩,j1,j2⟩:=st;have f:∀{t:Bool}{l:Addr}{zs:AA},Sq X.K t H l zs->l∉[z,TO,i1,i2]:=fun{t l zs}q g=>
   Jjw I q (hf l (by simp only[Zf,ZA,eA]at g⊢;rcases g with e|e|e|e<;>simp[e])) rfl
  have hT:s.TypeIs Eu "zip":=⟨_,hz,rfl⟩;unfold pyNext;refine Za (xE (ZJ (name:=oS "__next__") hT jO (ZI jO hT QcV
   (JsH D hz B C j1 j2 p1 p2 (f q1) (f q2) (x:=u) (y:=v) (by simpa using hu) (by simpa using hv) λh' a1 a2 a3 a4 a5 a6=>Zb ?_) OA)))
  refine⟨_,rfl,wpAny_letOwnedTupleGo_zip a1 λU b1 b2=>?_⟩;obtain⟨d1,d2,d3,d4,_⟩:=D.ne;have zl:z<Aa:=Zk hz;have kp:∀c o,c∉[z,TI,TO,i1,i2]->s.heap.get? c=So o->U.get? c=So o:=λc o r e=>by simp only[Zf,ZA,eA,not_or]at r;exact(b2.2 c r.1).trans (a6 c o (by simp[r]) e)
  have hT2:IsPair U Aa u v:=(b2.2 _ (iD zl)).trans a5;have I2:L2.Inv X Y Z (upd H Aa (.tup [x,y])) {s with heap:=U,toks:=W7}:=
   JdO I hf kp (Zj _) ⟨⟨by rw[ZK];show 2<=_;decide,λo q=>by rw[show U.get? 'Ɓ'=So _ from hT2]at q;cases q;rfl⟩,[u,v],.cons ru (.cons rw2 .nil),_,hT2,rfl,_,rfl⟩
  have hTI2:IsPair U TI (.ref i1) (.ref i2):=(b2.2 _ d1).trans (a6 TI _ (by obtain⟨_,_,_,_,d5,d6,d7,_⟩:=D.ne;simp[d1,d5,d6,d7]) B);refine⟨.ref Aa,_,I2,rfl,⟨Aa,x,y,I.hok.fresh (Zj _),rfl,rfl,λzs q=>by rw[wV I q q1];exact hx,λzs q=>by rw[wV I q q2];exact hy⟩,
   ⟨b1,hTI2,⟨u,v,(b2.2 _ d2).trans a2⟩,a3.stay λo e=>(b2.2 _ d3).trans e,a4.stay λo e=>(b2.2 _ d4).trans e⟩,λb g=>?_⟩
  have hbl:b<Aa:=by
   simp only[Zf,ZA,eA]at g;rcases g with rfl|rfl|rfl|rfl|rfl
   ·exact zl
   ·exact Zk B
   ·exact Zk C
   ·exact j1.lt
   ·exact j2.lt
  rw[Je (Zr hbl)];exact(hf b g).1
 done:=by
  intro X hP hw hK r i Y s Z H E I hf st hg;subst hP hw hK;obtain⟨xs,ys,q1,q2,hx⟩:=hg;obtain⟨its,rv,p1,_⟩:=gD I q1;obtain⟨its2,rv2,p2,_⟩:=gD I q2;obtain⟨hz,B,⟨a,b,C⟩,j1,j2⟩:=st;have f:∀{t:Bool}{l:Addr}{zs:AA},Sq X.K t H l zs->l∉[z,TO,i1,i2]:=fun{t l zs}q g=>
   Jjw I q (hf l (by simp only[Zf,ZA,eA]at g⊢;rcases g with e|e|e|e<;>simp[e])) rfl
  have hT:s.TypeIs Eu "zip":=⟨_,hz,rfl⟩;unfold pyNext;refine Za (xE (ZJ (name:=oS "__next__") hT jO (ZI jO hT QcV
   (JwL (show X.A.in1.handled=No from I.ok.hd r) D hz B C j1 j2 p1 p2 (f q1) (f q2) ?_ λh' e hk he=>?_) OA)))
  ·rcases hx with q|q
   ·exact .inl (by simpa using rv.none_of q)
   ·exact .inr (by simpa using rv2.none_of q)
  ·obtain⟨o,ho,hoc⟩:=he;refine Za (vE (T:="StopIteration") (b:=To) ⟨o,ho,hoc⟩ fO (Zb ⟨rfl,kS (tk:=W7) I hf λc o r e=>hk c o ?_ e⟩));simp only[Zf,ZA,eA,not_or]at r⊢;exact⟨r.1,r.2.2.1,r.2.2.2⟩
 self:=λA i s Q E st h=>wpAny_pyIter_zip st.1 h
noncomputable abbrev tQ (t:Bool) (l:Addr):Obj:={cls:=.type (hJ t),data:=.fields #[.ref l,.int 0 0]}
def iS{xs:BU}(h:IsSq t W6 l xs)(f:Q Dr {s with heap:=s.heap.push (tQ t l)}):wpAny As A (pyIter BS) Q E s:=by
 cases t
 ·exact uI (show s.heap.IsList l xs from h) f
 ·exact xK (show s.heap.IsTuple l xs from h) f
def IsSq.push{xs:BU}(x:IsSq t h a xs)(o:Obj):IsSq t (h.push o) a xs:=x.stay λ_ e=>Zd _ e
noncomputable abbrev zh1 (h:Heap) (t:Bool) (l:Addr):Heap:=h.push (tQ t l)
noncomputable abbrev zh3 (h:Heap) (t1 t2:Bool) (f g:Addr):Heap:=(zh1 (zh1 h t1 f) t2 g).push {cls:=.type "tuple",data:=.seq #[.ref BE,.ref (zh1 h t1 f).objs.size]}
noncomputable abbrev zh4 (h:Heap) (t1 t2:Bool) (g f:Addr):Heap:=(zh3 h t1 t2 g f).push {cls:=.type "tuple",data:=.seq #[.none,.none]}
noncomputable abbrev zipOb (a b:Addr):Obj:={cls:=.type "zip",data:=.fields #[.none,.bool Fo,.bool Fo,.ref a,.ref b]}
noncomputable abbrev zh5 (h:Heap) (t1 t2:Bool) (g f:Addr):Heap:=(zh4 h t1 t2 g f).push (zipOb (zh1 (zh1 h t1 g) t2 f).objs.size (zh3 h t1 t2 g f).objs.size)
def JtW(f q:Addr)(xs ys:BU)(t1 t2:Bool):
  Meets (Builtin.«zip.__new__» ⟨[.type "zip",.ref f,.ref q],[]⟩) (λ_ R s=>IsSq t1 W6 f xs/\IsSq t2 W6 q ys/\R (.ok (.ret (.ref 'ͽ'.objs.size))) {s with heap:=zh5 W6 t1 t2 f q}):=
 .of_wp λprog w A R s h=>by
  obtain⟨U,g,d,F,I⟩:=s;obtain⟨B,u,h⟩:=h
  have hsub:=sub_zip
  have C:IsSq t1 (Shared.heap ⟨U,g,d,F,I⟩) f xs:=B
  have r:IsSq t2 (Shared.heap ⟨U.push (tQ t1 f),g,d,F,I⟩) q ys:=u.push _
  wp_walk using iS C,iS r
  exact Dd
open AutoSeq1 (wpAny_loadPart')
def Jsb(l:Addr)(items:BU)(n:Nat)(dct:CF)(sl:CY):
  Meets (Builtin.«enumerate.__new__» ⟨[.type "enumerate",.ref l],[]⟩) (λ_ R s=>s.heap.get? l=So {cls:=.type "tuple",dict:=dct,data:=.seq items n,slots:=sl}/\
   R (.ok (.ret (.ref 'Ƴ'.objs.size))) {s with heap:='Ƴ'.push {cls:=.type "enumerate",data:=.fields #[.none,.bool Fo,.ref Aa,rawInt 0,.none,.none]}}):=
 .of_wp λprog w A R s h=>by
  obtain⟨r,g,d,B,C⟩:=s;obtain⟨f,h⟩:=h
  have u:=sub_enumerate
  have q:IsSq To (Shared.heap ⟨r,g,d,B,C⟩) l items:=(show Heap.IsTuple r l items from⟨_,f,rfl,n,rfl⟩)
  wp_walk using uG f
  refine wpAny_stack_any λst=>Zb ?_
  split
  ·rename_i c _ _ _ _ _
   cases(c==Value.type "enumerate")<;>(wp_walk using uG f,iS q;exact Dd)
  ·wp_walk using uG f,iS q;exact Dd
def Jho(B:IsSq t W6 l items)
  (h:∀h',IsEnum h' DR Aa 0 .none->IsIt t h' Aa l 0->(∀b o,s.heap.get? b=So o->h'.get? b=So o)->Q (.ref DR) {s with heap:=h'}):
  wpAny As A (PySem.call (.type "enumerate") bQ) Q E s:=by
 cases t with
 |false=>exact call_enumerate_list (show s.heap.IsList l items from B) λh' a b _ d=>h h' a b d
 |true=>
  obtain⟨⟨c,dct,C,sl⟩,I,f,n,g⟩:=(show s.heap.IsTuple l items from B);replace f:c=.type "tuple":=f;replace g:C=.seq items n:=g;subst f g;refine callType_new F.called_enumerate AO (F.typeCall_enumerate_1 _) (F.newCall_enumerate_1 _) (λobj=>F.args_object_init_2 obj _) F.entry_enumerate_new (Jsb l items n dct sl) ⟨I,?_⟩;have r:'Ƴ'.objs.size=Aa+1:=ZO ..;have u:IsEnum ('Ƴ'.push {cls:=.type "enumerate",data:=.fields #[.none,.bool Fo,.ref Aa,rawInt 0,.none,.none]}) DR Aa 0 .none:=by have q:=Zi 'Ƴ' (o:={cls:=.type "enumerate",data:=.fields #[.none,.bool Fo,.ref Aa,rawInt 0,.none,.none]}) rfl;rw[r]at q;exact q
  show _/\_;rw[r];exact⟨⟨_,u,rfl⟩,h _ u ⟨_,Zd _ FP,rfl,rfl⟩ λb o x=>Zd _ (Zd _ x)⟩
def Jmz{f q:Addr}{xs ys:BU}(C:IsSq t1 W6 f xs)(B:IsSq t2 W6 q ys)
  (h:∀h',JuD (Aa+4) (Aa+2) (Aa+3) Aa DR f q t1 t2 0 h'->(∀c o,s.heap.get? c=So o->h'.get? c=So o)->Q (.ref (Aa+4)) {s with heap:=h'}):
  wpAny As A (PySem.call (.type "zip") [.ref f,.ref q]) Q E s:=by
 refine callType_new F.called_zip AO (F.typeCall_zip_2 _ _) (F.newCall_zip_2 _ _) (λobj=>F.args_object_init_3 obj _ _) F.entry_zip_new (JtW f q xs ys t1 t2) ⟨C,B,?_⟩;have U:'ɠ'.objs.size=Aa+1:=ZO ..;have r:(zh1 'ɠ' t2 q).objs.size=Aa+2:=by rw[ZO,U]
 have u:'乒'.objs.size=Aa+3:=by rw[ZO,r]
 have z4:'ͽ'.objs.size=Aa+4:=by rw[ZO,u]
 have p1:∀(g:Heap)(o o':Obj)(b:Addr),g.get? b=So o->(g.push o').get? b=So o:=λg o o' b e=>Zd _ e;have I:'ǂ'.get? 'ͽ'.objs.size=So _:=Zi _ rfl;have g4:'ǂ'.get? '乒'.objs.size=So _:=p1 _ _ _ _ FP;have g3:'ǂ'.get? (zh1 'ɠ' t2 q).objs.size=So _:=p1 _ _ _ _ QG;have g2:'ǂ'.get? 'ɠ'.objs.size=So _:=p1 _ _ _ _ QbF;have g1:'ǂ'.get? Aa=So _:=p1 _ _ _ _ (p1 _ _ _ _ QbF);show _/\_;rw[r,u,z4]at I;rw[U,r]at g3;rw[u]at g4;rw[U]at g2;rw[z4];exact⟨⟨_,I,rfl⟩,h _ ⟨I,g3,⟨_,_,g4⟩,⟨_,g1,rfl,rfl⟩,⟨_,g2,rfl,rfl⟩⟩ λc o x=>p1 _ _ _ _ (p1 _ _ _ _ (p1 _ _ _ _ (p1 _ _ _ _ (p1 _ _ _ _ x))))⟩
def lV{d:D}(r:D7)(h:d=.tup J\/d=.lst J):∃t a xs,v=.ref a/\Sq K t H a xs/\Reps K H J xs:=by
 rcases h with rfl|rfl
 ·obtain⟨a,xs,e,g,f⟩:=r;exact⟨To,a,xs,e,g,f⟩
 ·obtain⟨a,xs,e,g,f⟩:=r;exact⟨Fo,a,xs,e,g,f⟩
theorem wZ:∀(J:Ao)(k i:Nat),(Jl k J)[i]? =(J[i]?).map λd=>.tup [.int ((k+i:Nat):Int),d]
 |[],_,_=>by simp[Jl]
 |d::J,k,0=>by simp[Jl]
 |d::J,k,i+1=>by
  have:=wZ J AV i
  simp only[Jl,jP,this]
  rw[show k+1+i=k+'Ë' by lia]
theorem JY:∀(J:Ao)(k:Nat),'ӷ'.length=Ab
 |[],_=>rfl
 |d::J,k=>by simp[Jl,JY J]
theorem Jjn:∀(as bs:Ao)(i:Nat)(a b:D),as[i]? =So a->bs[i]? =So b->(zipD as bs)[i]? =So (.tup [a,b])
 |a::as,b::bs,0,_,_,h,h'=>by simp at h h';simp[zipD,h,h']
 |a::as,b::bs,i+1,_,_,h,h'=>by simpa[zipD]using Jjn as bs i _ _ (by simpa using h) (by simpa using h')
 |[],_,_,_,_,h,_=>by simp at h
 |_::_,[],_,_,_,_,h'=>by simp at h'
theorem zX:∀(as bs:Ao),(zipD as bs).length=min Z1 Qdt
 |[],_=>by simp[zipD]
 |_::_,[]=>by simp[zipD]
 |a::as,b::bs=>by simp[zipD,zX as bs]
theorem Jna(I:BW)(h1:LW)(h2:FR):Walk X.K (Ite X.K t a) H (Jl 0 J):=by
 intro W sm;have l:=Hc;have f:=Sq.same sm h1;have g:=h2.mono sm;refine⟨λi q=>?_,⟨xs,f,by rw[JY];exact l⟩,λi x r q⟨T,v,B,e1,C,F⟩=>?_⟩
 ·rw[JY]at q;exact⟨xs,xs[i]'(by lia),f,Zq Ae⟩
 ·subst e1;subst C;obtain⟨d,hd,u⟩:=g.get' (F xs f);obtain⟨U,r1⟩:=nE (K:=X.K) (J:=[.int i,d]) (xs:=Qbh) B ⟨_,_,rfl,rfl,_,_,rfl,u,rfl⟩;refine⟨U,_,by rw[wZ,hd];rfl,?_⟩;simpa using r1
theorem Jpi(I:BW){ys:AA}{es:Ao}(h1:Sq X.K t1 H a xs)(h2:FR)(h3:Sq X.K t2 H b ys)(r:Reps X.K H es ys):Walk X.K (Itz X.K t1 t2 a b) H (zipD J es):=by
 intro W sm;have l:=Hc;have l':=Xv;have g:=Sq.same sm h1;have f:=Sq.same sm h3;refine⟨λi q=>?_,⟨xs,ys,g,f,?_⟩,λi x B q⟨T,u,v,U,e1,e2,hu,hv⟩=>?_⟩
 ·rw[zX]at q;exact⟨xs,ys,xs[i]'(by lia),ys[i]'(by lia),g,f,Zq Ae,Zq Ae⟩
 ·rw[zX];by_cases hh:Ab<=es.length
  ·exact .inl (uL Ae)
  ·exact .inr (uL Ae)
 ·subst e1;subst e2;obtain⟨d,hd,C⟩:='乾'.get' (hu xs g);obtain⟨e,F,re⟩:=(r.mono sm).get' (hv ys f);obtain⟨s1,r1⟩:=nE (K:=X.K) (J:=[d,e]) (xs:=[u,v]) U ⟨_,_,rfl,C,_,_,rfl,re,rfl⟩;exact⟨s1,_,Jjn _ _ _ _ _ hd F,r1⟩
theorem Jjs(h1:bH)(h2:EI)(inj:∀W B,Same H W->SqT K W a B->True):Walk K YV H J:=by intro W sm;have l:=Hc;have f:=SqT.same sm h1;refine⟨λi C=>⟨xs,xs[i]'(by lia),f,Zq Ae⟩,⟨xs,f,by lia⟩,λi x g C⟨e,q⟩=>?_⟩;subst e;obtain⟨d,u,r⟩:='乾'.get' (q xs f);exact On
theorem Jje(h1:bF)(h2:EI):Walk K QaF H J:=by intro W sm;have l:=Hc;have f:=Same.seq sm h1;refine⟨λi B=>⟨xs,xs[i]'(by lia),f,Zq Ae⟩,⟨xs,f,by lia⟩,λi x g B⟨e,q⟩=>?_⟩;subst e;obtain⟨d,u,r⟩:='乾'.get' (q xs f);exact On
def Jkc{lo:Int}:Walk K b5 H (upTo lo n):=by
 intro W sm;have l:(upTo lo n).length=n:=by simp[Pu.upTo]
 refine⟨λi f=>by rw[l]at f;exact f,by show n<=_;rw[l];exact Zj _,λi x g f⟨e,q⟩=>?_⟩;subst e;refine⟨Same.refl _,.int (lo+i),?_,q⟩;rw[l]at f;simp[Pu.upTo,List.getElem?_range f]
noncomputable def Its (x:Str):It:=⟨λi _=>i<Qbo,λi H v W=>W=H/\∃c,x.cps[i]? =So c/\v=.str ⟨#[c]⟩,λi _=>i=Qbo⟩
def JoN:Walk K (Its x) H (eM x):=by
 intro W sm;have l:(eM x).length=x.cps.size:=by simp[eM]
 refine⟨λi f=>by rw[l]at f;exact f,l,λi v g f⟨e,c,q,r⟩=>?_⟩;subst e;refine⟨Same.refl _,.str ⟨#[c]⟩,?_,r⟩;unfold eM;rw[oB,yG,q];rfl
def Jjh(f:A8)(I:Addr)(x:Str)(t:Tok):Walks P w A I [I] [I] Qbo (SignAt x) (λi h=>h.IsStrIter I QbG x t i):=by
 cases g:x.cps.all (·<128)
 ·rw[show strIterType x="str_iterator" by simp[strIterType,g]];exact Walks.strWide f I x t
 ·rw[show strIterType x="str_ascii_iterator" by simp[strIterType,g]];exact Walks.strAscii f I x t
def Joo(x:Str)(t:Tok)(I:Addr):Turn P w K (.Name y px) (Its x) [I] I (λi h=>h.IsStrIter I QbG x t i)where
 mem:=by simp
 obj:=λi h st b f=>by
  have e:b=I:=by simpa using f
  subst e
  obtain⟨o,h1,_,h3⟩:=st
  exact⟨o,h1,λv q=>by rw[h3]at q;cases q⟩
 keep:=λi h h' st k=>let⟨o,h1,h2⟩:=st;⟨o,k I Af o h1,h2⟩
 item:=by
  intro X F hw hK B i Y s Z H E g r st U;subst F hw hK;refine(Jjh (g.ok.hd B) I x t).item i s _ _ U st λv h' tk hv st' C=>?_;obtain⟨c,u,hcc,rfl⟩:=hv;have I1:L2.Inv X Y Z H {s with heap:=h',toks:=tk}:=kS g r λb o f e=>C b o f e;exact⟨_,rfl,Zb ⟨.str ⟨#[c]⟩,H,I1,⟨u,rfl⟩,⟨rfl,c,hcc,rfl⟩,st',λb f=>(r b f).1⟩⟩
 done:=by
  intro X F hw hK B i Y s Z H E g r st U;subst F hw hK;have e:i=x.cps.size:=U;subst e;exact(Jjh (g.ok.hd B) I x t).done s _ _ st λh' tk C=>⟨rfl,kS g r λb o f e=>C b o f e⟩
 self:=λA i s Q E st h=>by
  cases ha:x.cps.all (·<128)
  ·rw[show strIterType x="str_iterator" by simp[strIterType,ha]]at st;exact wpAny_pyIter_striter_wide st h
  ·rw[show strIterType x="str_ascii_iterator" by simp[strIterType,ha]]at st;exact wpAny_pyIter_striter_ascii st h
def JqG:ItOk QaF:=λL i H x W _⟨e,h⟩=>⟨by rw[e],λxs q=>h xs (hid_same.seq q)⟩
def Jqv:ItOk YV:=λL i H x W _⟨e,h⟩=>⟨by rw[e],λxs q=>h xs (SqT.same hid_same q)⟩
def JpA{lo:Int}:ItOk b5:=λL i H x W _⟨e,h⟩=>⟨by rw[e],h⟩
def JwW:ItOk (Its x):=λL i H v W _⟨e,h⟩=>⟨by rw[e],h⟩
def Jbx{T:Addr}(g:Ows L H)(h:H T=No):T∉L:=λf=>by
 obtain⟨o,e,_⟩:=g T f
 rw[h]at e;cases e
def Jtd:ItOk (Ite K t a):=λL i H x W C⟨T,v,g,u,r,B⟩=>by
 have f:=Jbx C g
 exact⟨T,v,by rw[Jy f];exact g,u,by rw[r,JnP f],λxs q=>B xs RD⟩
def Jvb:ItOk (Itz K t1 t2 a b):=λL i H x W I⟨T,u,v,g,B,r,C,F⟩=>by
 have f:=Jbx I g
 exact⟨T,u,v,by rw[Jy f];exact g,B,by rw[r,JnP f],λxs q=>C xs RD,λxs q=>F xs RD⟩
section
variable{U:Ag}{a b l:Expr}
def Jqk(hl:PE X l El):PI X (.Name y px) l (tW X U (.walk p)):=by
 rintro Y s Z H R I⟨O,r,h⟩;refine thn (hl Y s Z H (λv W=>∃d J,Rep X.K W d v/\d.walk=.ok J/\Same H W/\∀J9 H2,Same H H2->Walk X.K J9 H2 J->ItOk J9->R J9 H2) I ⟨O,r,'Ă'.imp λd B v W s1 rv=>?_⟩) λv s1⟨x,H1,I1,r1,d,J,rd,C,s2,g⟩=>?_
 ·cases q:d.walk with
  |ok J=>rw[q]at B;obtain⟨ds',e,g⟩:=B;cases e;exact⟨d,J,rv,q,s1,g⟩
  |ex c=>exact(Jte q).elim
  |sk=>rw[q]at B;exact B.elim
 cases d with
 |tup es=>
  cases C;obtain⟨a,xs,rfl,f,F⟩:=rd;cases r1;obtain⟨its,rv,pt,hz⟩:=I1.tuple f;refine xK (show s1.heap.IsTuple a Ap from pt) ⟨Aq,[Aq],_,_,H1,rfl,I1.kept (t':=XA) λb o e=>Zd _ e,hZ a _,Dj,λb u=>?_,g _ _ s2 (Jjs f F λ_ _ _ _=>trivial) Jqv⟩;have e:b=Aq:=by simpa using u
  subst e;exact I1.fpOk (Zj _) EY
 |lst es=>
  cases C;obtain⟨a,xs,rfl,f,F⟩:=rd;cases r1;obtain⟨its,rv,pt,hz⟩:=I1.list f;refine uI pt.isList ⟨Aq,[Aq],_,_,H1,rfl,I1.kept (t':=XA) λb o e=>Zd _ e,Jhj a _,Dj,λb u=>?_,g _ _ s2 (Jje f F) JqG⟩;have e:b=Aq:=by simpa using u
  subst e;exact I1.fpOk (Zj _) EY
 |str z=>
  cases C;have hx:x=V.str z:=rd;subst hx;obtain⟨t,rfl⟩:=r1;refine wpAny_pyIter_strU ⟨Aq,[Aq],_,_,H1,rfl,I1.kept (t':=XA) λb o e=>Zd _ e,Joo z t _,Dj,λb u=>?_,g _ _ s2 JoN JwW⟩;have e:b=Aq:=by simpa using u
  subst e;exact I1.fpOk (Zj _) EY
 |_=>cases C
def JrV(hl:PE X l El):PI X Q9 l (tW X U V9):=by
 rintro Y s Z H R I⟨O,r,h⟩;simp only[evD,Rs.bind_assoc]at h;refine thn (hl Y s Z H (λv W=>∃d J,Rep X.K W d v/\(d=.tup J\/d=.lst J)/\Same H W/\∀J9 C,Same H C->Walk X.K J9 C J->ItOk J9->R J9 C) I ⟨O,r,'Ă'.imp λd u v W s1 q=>?_⟩) λv s1⟨x,H1,I1,r1,d,J,rd,hw,s2,f⟩=>?_
 ·cases d with
  |tup J=>obtain⟨ds',e,f⟩:=u;cases e;exact⟨_,J,q,.inl rfl,s1,f⟩
  |lst J=>obtain⟨ds',e,f⟩:=u;cases e;exact⟨_,J,q,.inr rfl,s1,f⟩
  |_=>exact(show False from u).elim
 rcases hw with rfl|rfl
 ·obtain⟨a,xs,rfl,g,B⟩:=rd;cases r1;obtain⟨its,q,pt,hz⟩:=I1.tuple g;refine xK (show s1.heap.IsTuple a Ap from pt) ⟨Aq,[Aq],_,_,H1,rfl,I1.kept (t':=XA) λb o e=>Zd _ e,hZ a _,Dj,λb F=>?_,f _ _ s2 (Jjs g B λ_ _ _ _=>trivial) Jqv⟩;have e:b=Aq:=by simpa using F
  subst e;exact I1.fpOk (Zj _) EY
 ·obtain⟨a,xs,rfl,g,B⟩:=rd;cases r1;obtain⟨its,q,pt,hz⟩:=I1.list g;refine uI pt.isList ⟨Aq,[Aq],_,_,H1,rfl,I1.kept (t':=XA) λb o e=>Zd _ e,Jhj a _,Dj,λb F=>?_,f _ _ s2 (Jje g B) JqG⟩;have e:b=Aq:=by simpa using F
  subst e;exact I1.fpOk (Zj _) EY
def fY(C:Am)(u:AH)(hg:gloB nm "range"=To)(hm:G.mg "range"=No)(q:LB):PI X tg (.Call Vr [a] [] pos) (tW X U (.un .range pa)):=by
 rintro Y s Z H R I⟨O,r,h⟩;refine Jhg FN (by rw[C.mg];exact hm) (Jn (U:=U) u JK q) q Y s Z H R I FK;simp only[evD];refine Rs.gB.mpr ('Ă'.imp λd f=>?_);cases d with
 |int i=>
  simp only[op1]at f;split at f
  ·rename_i g;simp only[midI,Zc,Zp]at g;obtain⟨ds',e,hR⟩:=f;cases e;refine⟨bP,rfl,λvs W B rs=>?_⟩;obtain⟨v,r',F,h1,h2⟩:=rs;cases h2;cases h1;subst F;exact⟨i,rfl,g.1,g.2,hR _ _ B Jkc JpA⟩
  ·exact f.elim
 |_=>exact(show False from f).elim
def JrM(C:Am)(ha:AH)(hg:gloB nm "enumerate"=To)(hm:G.mg "enumerate"=No)(hs:LB):
  PI X Q9 (.Call (.Name "enumerate" p1) [a] [] pos) (tW X U (.un .enum pa)):=by
 rintro Y s Z H R I⟨O,r,h⟩;refine Call_ (mH I FN (by rw[C.mg];exact hm) boot_enumerate (vL (thn (Jn (U:=U) ha JK hs pos Y s Z H (λvs W=>∃d J v,vs=[v]/\Rep X.K W d v/\(d=.tup J\/d=.lst J)/\Same H W/\∀J9 F,Same H F->Walk X.K J9 F (Jl 0 J)->ItOk J9->R J9 F) I FK) λus s1 zz=>?_) hs rfl))
 ·simp only[evD];refine Rs.gB.mpr ('Ă'.imp λd hd=>?_);refine⟨[d],rfl,λvs W s1 rs=>?_⟩;obtain⟨v,r',B,h1,h2⟩:=rs;cases h2;subst B;obtain⟨J,w1,g⟩:=xX hd;obtain⟨_,e,hR⟩:=g;cases e;exact⟨_,J,v,rfl,h1,w1,s1,hR⟩
 obtain⟨vs,H1,f,r1,d,J,v,B,rd,hw,s2,hR⟩:=zz;subst B;obtain⟨t,l,xs,rfl,q1,q2⟩:=lV rd hw;obtain⟨u,rfl,ru⟩:=lA r1;cases ru;obtain⟨its,rv,pt,hz⟩:=gD f q1;refine Jho pt λh' he hit kp=>wpAny_pyIter_enum he ⟨Aq+1,[Aq+1,Aq],_,_,H1,rfl,f.kept (t':=XA) kp,Jgg t l Aq (Aq+1) Od,MT,λb hb=>?_,hR _ _ s2 (Jna f q1 q2) Jtd⟩;have q:Aq<=b:=by
  simp only[Zf,ZA,eA]at hb;rcases hb with rfl|rfl
  ·exact iC _
  ·exact Zj _
 exact f.fpOk q (f.hok.fresh q)
def JvR(C:Am)(ha:AH)(hb:BZ)(hg:gloB nm "zip"=To)(hm:G.mg "zip"=No)(hs:starEach [a,b] WU=MM::starEach [b] WU)
  (F:starEach [b] WU=[Rh]):PI X Q9 (.Call (.Name "zip" p1) [a,b] [] pos) (tW X U (.bi .zip pa pb)):=by
 rintro Y s Z H R I⟨O,r,h⟩;refine Call_ (mH I FN (by rw[C.mg];exact hm) boot_zip (vL (thn (Jn (U:=U) ha (Jn hb JK F) hs pos Y s Z H (λvs W=>∃d J v f es v',vs=[v,v']/\Rep X.K W d v/\(d=.tup J\/d=.lst J)/\Rep X.K W f v'/\(f=.tup es\/f=.lst es)/\Same H W/\∀J9 H2,Same H H2->Walk X.K J9 H2 (zipD J es)->ItOk J9->R J9 H2) I FK)
  λus s1 zz=>?_) hs (by rw[F];rfl)))
 ·simp only[evD];refine Rs.gB.mpr ('Ă'.imp λd hd=>?_);refine Rs.gB.mpr ((Rs.gB.mpr ((Rs.gB.mp hd).imp λf hd'=>?_)));refine⟨[d,f],rfl,λvs W s1 rs=>?_⟩;obtain⟨v,r',e1,h1,v',r'',e2,h2,h3⟩:=rs;cases h3;subst e2;subst e1;obtain⟨J,w1,g⟩:=xX hd';obtain⟨es,w2,g⟩:=xX g;obtain⟨_,e,hR⟩:=g;cases e;exact⟨d,J,v,f,es,v',rfl,h1,w1,h2,w2,s1,hR⟩
 obtain⟨vs,H1,q,r1,d,J,v,f,es,v',e1,rd,hw,rd',hw',s2,hR⟩:=zz;subst e1;obtain⟨t,l,xs,rfl,q1,q2⟩:=lV rd hw;obtain⟨t',l',ys,rfl,q3,q4⟩:=lV rd' hw';obtain⟨u,u',rfl,ru,ru'⟩:=vals2 r1;cases ru;cases ru';obtain⟨its,rv,pt,hz⟩:=gD q q1;obtain⟨its2,rv2,pt2,hz2⟩:=gD q q3;have ap:Apart (Aq+4) (Aq+2) (Aq+3) Aq (Aq+1):=⟨by simp[lC]⟩;refine Jmz pt pt2 λh' st kp=>wpAny_pyIter_zip st.1 ⟨Aq+4,_,_,_,H1,rfl,q.kept (t':=XA) kp,JoJ t t' l l' _ _ _ _ _ ap,st,λb hb=>?_,hR _ _ s2 (Jpi q q1 q2 q3 q4) Jvb⟩;have B:Aq<=b:=by simp only[Zf,ZA,eA]at hb;rcases hb with rfl|rfl|rfl|rfl|rfl<;>first|exact Zj _|exact Nat.le_add_right _ _
 exact q.fpOk B (q.hok.fresh B)
end
noncomputable def uni (L:A3) (H H1:Hp):Hp:=λa=>if a∈L then H a else H1 a
section
variable{L':A3}{o:HO}
def JM(h:a∉L):uni L H H1 a=H1 a:=by unfold uni;rw[if_neg h]
def sJ(h:a∈L):uni L H H1 a=H a:=by unfold uni;rw[if_pos h]
def pQ(h:∀a∈L,H1 a=No):hid L FM=H1:=by
 funext a;by_cases q:a∈L
 ·rw[rE q,h a q]
 ·rw[Jy q,JM q]
def nY(s:Same Br H1):Same H FM:=λa o h=>by
 by_cases q:a∈L
 ·rw[sJ q];exact h
 ·rw[JM q];exact s a o (by rw[Jy q];exact h)
def Ows.tup(h:Ows L H):Tups K H Br:=by
 have f:∀b o,H b=So o->¬Chgb o->b∉L:=λb o e r B=>by obtain⟨u,g,c⟩:=h b B;rw[e]at g;cases g;exact r c
 refine⟨λb xs q=>?_,λb o u q=>by rw[Jy '仉'];exact q⟩;rcases q with q|q
 ·exact .inl (by rw[Jy '仉'];exact q)
 ·exact .inr q
end
section
variable{ps:AQ}{s':Ak}
def Chgc:HO->Prop
 |.lsm _ _=>True
 |.ins _ _ _=>True
 |.own _=>True
 |o=>Chgb o
structure OwC(L:A3)(H:Hp):Prop where
 all:∀a∈L,∃o,H a=So o/\Chgc o
 own:∀b a,b∈L->H b=So (.own a)->a∈L/\∃C fs,H a=So (.ins C b fs)
 dx:∀a C d fs,a∈L->H a=So (.ins C d fs)->d∈L
def Ows.c(h:Ows L H):OwC L H where
 all:=λa g=>by
  obtain⟨o,e,c⟩:=h a g
  exact⟨o,e,by cases o<;>first|exact c|exact c.elim⟩
 own:=λb a q e=>by obtain⟨o,f,c⟩:=h b q;rw[e]at f;cases f;exact c.elim
 dx:=λa C d fs g e=>by obtain⟨o,f,c⟩:=h a g;rw[e]at f;cases f;exact c.elim
def Inv.obj(I:BW)(u:QcC)(r:a∈L):∃f,s.heap.get? a=So f/\∀v,f.data≠.cell v:=by
 obtain⟨o,h,F⟩:=u.all a r;have:=I.hok a o h;cases o with
 |lst xs=>obtain⟨_,q,n,_,e⟩:=this;exact⟨_,e,λv z=>by cases z⟩
 |lsm _ xs=>obtain⟨_,q,n,_,e⟩:=this;exact⟨_,e,λv z=>by cases z⟩
 |dK g=>obtain⟨_,_,vs,_,f,es,ep,e,c,d,_⟩:=this;exact⟨f,e,λv z=>by rw[d]at z;cases z⟩
 |ins C dx fs=>obtain⟨_,_,_,e,_⟩:=this;exact⟨_,e,λv z=>by cases z⟩
 |own b=>obtain⟨_,C,fs,U⟩:=u.own a b r h;obtain⟨_,_,_,_,mA,⟨od,es,ep,B,d,_⟩,_⟩:=I.hok b _ U;exact⟨od,B,λv z=>by rw[d]at z;cases z⟩
 |dT g=>obtain⟨_,_,xs,_,f,es,ep,e,c,d,_⟩:=this;exact⟨f,e,λv z=>by rw[d]at z;cases z⟩
 |_=>exact F.elim
theorem JiQ(I:BW)(g:QcC):∀L1:List Addr,(∀a∈L1,a∈L)->∃ps:List (Addr×Obj),ps.map (·.1)=L1/\∀p∈ps,s.heap.get? p.1=So p.2/\∀v,p.2.data≠.cell v
 |[],_=>⟨[],rfl,by simp⟩
 |a::L1,h=>by
  obtain⟨r,B,q⟩:=Inv.obj I g (h a Af)
  obtain⟨ps,F,C⟩:=JiQ I g L1 λb u=>h b (by simp[u])
  refine⟨(a,r)::ps,by simp[F],λp f=>?_⟩
  rcases Zf.mp f with rfl|f
  ·exact⟨B,q⟩
  ·exact C p f
def Inv.fsFree(I:BW)(f:b∈X.fs):H b=No:=by obtain⟨_,o,g,_⟩:=I.ok.funs.mem f;exact I.base.free b o g (I.ok.frf b f) λz=>I.ok.exfs b z f
def Inv.hide(I:BW)(C:QcC):∃ps:List (Addr×Obj),ps.map (·.1)=L/\(∀p∈ps,s.heap.get? p.1=So p.2)/\L2.Inv X (ps++Y) Z Br s:=by
 obtain⟨ps,e1,U⟩:=JiQ I C L λ_ z=>z
 have B:∀p∈ps,p.1∈L:=λp f=>by rw[<-e1];exact gC f
 have g:∀b o,H b=So o->¬Chgc o->b∉L:=λb o e nc hm=>by
  obtain⟨u,r,c⟩:=C.all b hm
  rw[e]at r;cases r;exact nc c
 have F:∀b,H b=No->hid L H b=No:=λb e=>by unfold hid;split<;>first|rfl|exact e
 refine⟨ps,e1,λp f=>(U p f).1,?_⟩
 exact{
  ok:=I.ok,os:=I.os,bare:=Xs
  base:=⟨I.base.keep,I.base.slot,λb o q n x=>F b Pe,I.base.there,λb xs q=>by
    have:=I.base.tups b xs q
    rw[Jy 'Ρ'];exact this,
   λb o u q=>by
    have:=I.base.frzs b o u q
    rw[Jy 'Ρ'];exact this,
   λb qs q=>by
    obtain⟨m,this⟩:=I.base.tbls b qs q
    exact⟨m,by rw[Jy 'Ρ'];exact this⟩⟩
  loc:=Xz,cell:=Yo,free:=F _ Xw,freeC:=λx c e=>F _ G5
  pin:=λp f=>by
   have hp':p∈ps\/p∈X.pn++Y:=by
    simp only[ZS]at f⊢
    rcases f with h|h|h
    ·exact .inr Qc0
    ·exact .inl h
    ·exact .inr Qc5
   rcases hp' with f|f
   ·obtain⟨o,r,_⟩:=C.all p.1 (B p f)
    refine⟨(U p f).1,rE (B p f),λz=>?_,λz=>?_,(U p f).2⟩
    ·rw[z,I.free]at r;cases r
    ·rw[Inv.fsFree I z]at r;cases r
   ·obtain⟨q1,q2,q3⟩:=I.pin p f
    exact⟨q1,F _ q2,q3⟩
  hok:=λa o e=>by
   obtain⟨h1,h2⟩:=pN e
   exact(I.hok a o h2).stay Kh (λb q=>by rw[Jy λhm=>h1 (C.own b a hm q).1];exact q) (λb xs q=>by rw[Jy '今'];exact q) λb o' u' q=>by rw[Jy '今'];exact q
  len:=Ys}
def Inv.unhide(I:BW)(hL:QcC)(e1:ps.map (·.1)=L)(e2:∀p∈ps,s.heap.get? p.1=So p.2)(sm:∀b xs,hid L H b=So A4->H1 b=So A4)(f:L2.Inv X (ps++Y) σ' H1 s'):(∀a∈L,H1 a=No)/\L2.Inv X Y σ' FM s':=by
 have U:∀b o,H b=So o->¬Chgc o->b∉L:=λb o e nc hm=>by
  obtain⟨u,e3,c⟩:=hL.all b hm
  rw[e]at e3;cases e3;exact nc c
 have g:∀a∈L,∃ob,s.heap.get? a=So ob/\s'.heap.get? a=So ob/\H1 a=No:=λa B=>by
  rw[<-e1]at B
  obtain⟨p,hp,rfl⟩:=ZE.mp B
  obtain⟨q1,q2,_⟩:=f.pin p (by simp[hp])
  exact⟨p.2,e2 p hp,q1,q2⟩
 have F:∀b,H b=No->b∉L:=λb e hm=>by
  obtain⟨o,e3,_⟩:=hL.all b hm
  rw[e]at e3;cases e3
 have tp:∀b xs,H b=So A4->uni L H H1 b=So A4:=λb xs q=>by
  have hb:=U b _ q λz=>z
  rw[JM hb];exact sm b _ (by rw[Jy hb];exact q)
 refine⟨λa B=>let⟨_,_,_,h⟩:=g a B;h,?_⟩
 exact{
  ok:=I.ok,os:=f.os,bare:=f.bare
  base:=⟨f.base.keep,f.base.slot,λb o q n x=>by rw[JM (F b Pe)];exact f.base.free b o q n x,f.base.there,
   λb xs q=>by rw[JM (U b _ '亊' λz=>z)];exact f.base.tups b xs q,
   λb o u q=>by rw[JM (U b _ (I.base.frzs b o u q) λz=>z)];exact f.base.frzs b o u q,
   λb qs q=>by
    obtain⟨m,this⟩:=I.base.tbls b qs q
    rw[JM (U b _ this λz=>z)];exact f.base.tbls b qs q⟩
  loc:=f.loc,cell:=f.cell
  free:=by rw[JM (F _ Xw)];exact f.free
  freeC:=λx c e=>by rw[JM (F _ G5)];exact f.freeC x c e
  pin:=λp hp=>by
   obtain⟨q1,q2,q3⟩:=f.pin p (by
    simp only[ZS]at hp⊢
    rcases hp with h|h
    ·exact .inl h
    ·exact .inr Qc5)
   exact⟨q1,by rw[JM (F _ (I.pin p hp).2.1)];exact q2,q3⟩
  hok:=λa o e=>by
   by_cases B:a∈L
   ·rw[sJ B]at e
    obtain⟨u,e3,hc⟩:=hL.all a B
    rw[e]at e3;cases e3
    have:=I.hok a o e
    have trB:∀{b:Addr}{x:Obj},b∈L->s.heap.get? b=So x->s'.heap.get? b=So x:=fun{b x}hb q=>by
     obtain⟨ob,h1,h2,_⟩:=g b hb
     rw[h1]at q;cases q;exact h2
    have tr:∀{x:Obj},s.heap.get? a=So x->s'.heap.get? a=So x:=trB B
    cases o with
    |lst xs=>obtain⟨z,its,n,r,q⟩:=this;exact MS
    |lsm _ xs=>obtain⟨z,its,n,r,q⟩:=this;exact MS
    |own y=>obtain⟨x,q⟩:=this;exact⟨x,tr q⟩
    |ins C dx fs=>
     obtain⟨d,z,ne,q,mA,⟨od,es,ep,q2,c⟩,r⟩:=this
     have hd:=hL.dx a C dx fs B e
     exact⟨by rw[sJ hd];exact d,z,ne,tr q,mA,⟨od,es,ep,trB hd q2,c⟩,r⟩
    |dK kvs=>obtain⟨z,y,vs,r,ob,es,ep,q,c⟩:=this;exact⟨z,y,vs,r,ob,es,ep,tr q,c⟩
    |dT kvs=>obtain⟨z,y,xs,r,ob,es,ep,q,c⟩:=this;exact⟨z,y,xs,Paired.mapP r λp q z=>⟨z.1,z.2.1.keep tp,z.2.2⟩,ob,es,ep,tr q,c⟩
    |_=>exact hc.elim
   ·rw[JM B]at e
    have nz:∀b o,H1 b=So o->b∉L:=λb o q hm=>by
     obtain⟨_,_,_,h⟩:=g b hm
     rw[q]at h;cases h
    exact(f.hok a o e).stay Kh (λb q=>by rw[JM (nz b _ q)];exact q) (λb xs q=>by rw[JM (nz b _ q)];exact q) λb o' u' q=>by rw[JM (nz b _ q)];exact q
  len:=f.len}
end
def OutH(X:Cx)(L:A3)(H:Hp)(Q:VK)(d:D):Prop:=∀v W,Same H W->(∀a∈L,W a=H a)->Rep X.K Iq d v->Q v W
inductive tH(X:Cx)(call:Ag)(p:Px)(σ:Bp)(H:Hp)(Q:VK):Prop where
 |mk:∀env L,Ows L H->ReadOk X.K (hid L H) σ env->(evD call p env).Good (OutH X L H Q) (XW X (hid L H))->tH X call p σ H Q
def OutFH(X:Cx)(L:A3)(H:Hp)(Q:VK)(d:D):Prop:=∃J,d=.lst J/\∀l xs W,Same H W->(∀a∈L,W a=H a)->H l=No->W l=So By->Reps X.K Iq J xs->Q BS W
inductive tFH(X:Cx)(call:Ag)(p:Px)(σ:Bp)(H:Hp)(Q:VK):Prop where
 |mk:∀env L,Ows L H->ReadOk X.K (hid L H) σ env->(evD call p env).Good (OutFH X L H Q) (XW X (hid L H))->tFH X call p σ H Q
section
variable{U:Ag}
def pE(F:BF):PE X e cB:=by
 rintro Y s Z H Q I⟨O,L,C,r,h⟩;obtain⟨ps,e1,e2,I'⟩:=Inv.hide I C.c;refine ZV (F (ps++Y) s Z Br (λv H1=>Same Br H1/\((∀a∈L,H1 a=No)->Q v FM)) I' ⟨O,r,h.mono (λd hd v H1 f B=>⟨f,λg=>hd v _ (nY f) Q8 ?_⟩) λc z=>z⟩)
  (λu f⟨v,H1,I1,B,sm,q⟩=>?_) λ_ _ z=>z
 ·rw[pQ g];exact B
 ·obtain⟨g,I2⟩:=Inv.unhide I C.c e1 e2 RY I1;exact⟨v,_,I2,B,q g⟩
end
def tWH (X:Cx) (U:Ag) (p:Px):TI:=λZ H R=>∃O L,Ows L H/\ReadOk X.K Br Z O/\(evD U p O).Good (λd=>∃J,d=.lst J/\∀f W,Same H W->(∀a∈L,W a=H a)->Walk X.K f Iq J->ItOk f->R f W) (XW X Br)
section
variable{U:Ag}{iter:Expr}
def JuU(hi:PI X tg iter (tW X U p)):PI X tg iter (tWH X U p):=by
 rintro Y s Z H R I⟨O,L,hL,r,h⟩;obtain⟨ps,e1,e2,I'⟩:=Inv.hide I hL.c;refine ZV (hi (ps++Y) s Z Br (λf H1=>Same Br H1/\((∀a∈L,H1 a=No)->R f FM)) I' ⟨O,r,h.mono (λd⟨J,ed,hd⟩=>⟨J,ed,λf H1 u w ok=>⟨u,λC=>hd f _ (nY u) Q8 ?_ ok⟩⟩) λc z=>z⟩)
  (λv u q1=>ZV q1 (λitv s2 zz=>?_) λ_ _ z=>z) λ_ _ z=>z
 ·rw[pQ C];exact w
 ·obtain⟨it,fp,tn,f,H1,e3,I1,T,t0,hf,sm,q⟩:=zz;obtain⟨C,I2⟩:=Inv.unhide I hL.c e1 e2 RY I1;refine⟨it,fp,tn,f,_,e3,I2,T,t0,λb hb=>?_,q C⟩;obtain⟨f0,f1,f2,f3,f4,F⟩:=hf b hb;have B:b∉L:=λhm=>by rw[<-e1]at hm;obtain⟨p,g,rfl⟩:=ZE.mp hm;exact F p (by simp[g]) rfl
  exact⟨by rw[JM B];exact f0,f1,f2,f3,f4,λp g=>F p (by
   simp only[ZS]at g⊢;rcases g with h|h
   ·exact .inl h
   ·exact .inr Qc5)⟩
end
noncomputable def owA (O:Fm) (Z:Bp) (i:Nat):Option Addr:=match O[i]?,Z[i]? with
 |some (So _),So (So (.ref l))=>So l
 |_,_=>No
def Ow (M:AX) (O:Fm) (Z:Bp):List Addr:=M.filterMap (owA O Z)
def owA_iff:owA O Z i=So l↔∃d,O[i]? =So Bj/\Z[i]? =So Dh:=by
 unfold owA;constructor
 ·intro h;split at h
  ·rename_i d m f g;cases h;exact⟨d,f,g⟩
  ·cases h
 ·rintro⟨d,f,g⟩;rw[f,g]
def mem_Ow:l∈Ow M O Z↔∃i∈M,∃d,O[i]? =So Bj/\Z[i]? =So Dh:=by
 unfold Ow;rw[qB];constructor
 ·rintro⟨i,f,h⟩;exact⟨i,f,owA_iff.mp h⟩
 ·rintro⟨i,f,h⟩;exact⟨i,f,owA_iff.mpr h⟩
def qX{env':Fm}(h:∀i∈M,owA O Z i=owA env' σ' i):Ow M O Z=Ow M env' σ':=by
 unfold Ow;induction M with
 |nil=>rfl
 |cons i M g=>simp only[ZW,h i (.head _),g λj f=>h j (.tail _ f)]
def Jsl{s:Bl}{t:bO}(h:j≠i):owA K6 (Z.set i t) j=owA O Z j:=by unfold owA;rw[Zu (Ne.symm h),Zu (Ne.symm h)]
def JD{s:Bl}{t:bO}(h:i∉M):Ow M K6 (Z.set i t)=Ow M O Z:=qX λj f=>Jsl λe=>h (e▸f)
noncomputable def OwnIs (K:Ai) (f H:Hp) (l:Addr):D->Prop
 |.lst J=>∃xs,H l=So By/\Reps K f J xs
 |.dct t z ks vs=>z=Fo/\∃xs,DK H l t Fo ks xs/\Reps K f vs xs
 |_=>False
def OwnIs.mono{r f:Hp}{d:D}(h:OwnIs K r H l d)(e:Same r f)(k:∀o,H l=So o->W l=So o):OwnIs K f W l d:=by
 cases d with
 |lst J=>obtain⟨xs,q,g⟩:=h;exact⟨xs,k _ q,g.mono e⟩
 |dct t z ks vs=>obtain⟨u,xs,q,g⟩:=h;exact⟨u,xs,q.mono k,g.mono e⟩
 |_=>exact h.elim
def OwnIs.chg{u:Hp}{d:D}(h:OwnIs K u H l d):∃o,H l=So o/\Chgb o:=by
 cases d with
 |lst J=>obtain⟨xs,f,r⟩:=h;exact⟨_,f,trivial⟩
 |dct t z ks vs=>
  obtain⟨B,xs,f,r⟩:=h;cases t<;>obtain⟨q,g,_⟩:=f
  ·exact Ha
  ·exact Ha
 |_=>exact h.elim
def OwnIs.rep{q:Hp}{d:D}(h:OwnIs K q H l d)(e:Same q H):Rep K H d BS:=by
 cases d with
 |lst J=>obtain⟨xs,g,f⟩:=h;exact⟨l,xs,rfl,SqL.of g,f.mono e⟩
 |dct t z ks vs=>obtain⟨rfl,xs,g,f⟩:=h;exact⟨l,xs,rfl,g,f.mono e⟩
 |_=>exact h.elim
structure EnvOk(K:Ai)(M:AX)(H0 H:Hp)(Z:Bp)(O:Fm):Prop where
 same:Same H0 H
 len:Z.length=bW
 read:∀(i:Nat)(d:D),i∉M->O[i]? =So Bj->∃v,Z[i]? =So BO/\Rep K DE d v
 own:∀(i:Nat)(d:D),i∈M->O[i]? =So Bj->∃l,Z[i]? =So Dh/\H0 l=No/\OwnIs K DE H l d
 apart:∀(i j:Nat)(l:Addr)(d d':D),i∈M->j∈M->i≠j->O[i]? =So Bj->O[j]? =So (So d')->Z[i]? =So Dh->Z[j]? ≠So Dh
structure Fz(L:A3)(H:Hp)(L':A3)(W:Hp):Prop where
 keep:∀a o,H a=So o->a∉L->W a=So o
 own:∀l∈L',l∈L\/H l=No
section
variable{L2:A3}{H2:Hp}
def Fz.of(s:Y7)(h:∀l∈L1,l∈L\/H l=No):Fz L H L1 H1:=⟨λa o e _=>s a o e,h⟩
def Fz.sm(s:Y7):Fz L H L H1:=.of s λ_ h=>.inl h
def Fz.trans(a:Fz L H L1 H1)(b:Fz L1 H1 L2 H2):Fz L H L2 H2 where
 keep:=λc o e g=>b.keep c o (a.keep c o e g) λf=>by
  rcases a.own c f with h|h
  ·exact g h
  ·rw[e]at h;cases h
 own:=λl r=>by
  rcases b.own l r with h|h
  ·exact a.own l h
  ·by_cases f:l∈L
   ·exact .inl f
   ·cases q:H l with
    |none=>exact .inr rfl
    |some o=>rw[a.keep l o q f]at h;cases h
def Fz.hid(a:Fz L H L1 H1):Same Br (hid L1 H1):=JpG λb o e f=>⟨a.keep b o e f,λg=>by
 rcases a.own b g with h|h
 ·exact f h
 ·rw[e]at h;cases h⟩
end
def EnvOk.ows(e:Dm):Ows Bz H:=λa r=>by
 obtain⟨i,B,d,u,q⟩:=mem_Ow.mp r
 obtain⟨l,f,_,g⟩:=e.own i d B u
 rw[q]at f;cases f
 exact g.chg
def EnvOk.same0(e:Dm):Same H0 DE:=λa o h=>by
 have B:a∉Ow M O Z:=λr=>by
  obtain⟨i,C,d,u,q⟩:=mem_Ow.mp r
  obtain⟨l,f,g,_⟩:=e.own i d C u
  rw[q]at f;cases f
  rw[h]at g;cases g
 rw[Jy B];exact e.same a o h
def EnvOk.readOk(e:Dm):ReadOk K H Z O:=λi d h=>by
 by_cases q:i∈M
 ·obtain⟨l,g,_,f⟩:=e.own i d q h
  exact⟨_,g,f.rep hid_same⟩
 ·obtain⟨v,g,f⟩:=e.read i d q h
  exact⟨v,g,f.mono hid_same⟩
def EnvOk.readHid(e:Dm):ReadOk K DE Z (JL M 0 O):=λi d h=>by
 rw[gK]at h
 cases q:O[i]? with
 |none=>rw[q]at h;cases h
 |some s=>
  rw[q]at h
  simp only[Option.map_some,jI,ZT]at h
  split at h
  ·cases h
  ·rename_i f
   subst h
   exact e.read i d f q
def EnvOk.grow(e:Dm)(s:CS):EnvOk K M H0 W Z O where
 same:=e.same.trans s
 len:=e.len
 read:=λi d q h=>let⟨v,g,f⟩:=e.read i d q h;⟨v,g,f.mono (Fz.sm s).hid⟩
 own:=λi d q h=>let⟨l,g,r,f⟩:=e.own i d q h;⟨l,g,r,f.mono (Fz.sm s).hid (s l)⟩
 apart:=e.apart
theorem rC{l:List α}{a b:α}(h:(l.set i a)[j]? =So b):(j=i/\b=a/\i<Xn)\/(j≠i/\l[j]? =So b):=by
 by_cases q:j=i
 ·subst q;by_cases f:j<Xn
  ·rw[ZX f]at h;cases h;exact .inl ⟨rfl,rfl,f⟩
  ·rw[uL (by rw[dE];lia)]at h;cases h
 ·rw[Zu 'ɝ']at h;exact .inr ⟨q,h⟩
def EnvOk.put(e:Dm){d:D}(g:i∉M)(r:Rep K DE d v):EnvOk K M H0 H W1 F2 where
 same:=XQ
 len:=by rw[dE,dE];exact e.len
 read:=λj u f h=>by
  rw[JD g]
  rcases rC h with⟨rfl,hd,hl⟩|⟨q,h⟩
  ·cases hd;exact⟨v,ZX (by rw[e.len];exact hl),r⟩
  ·rw[Zu 'ɝ'];exact e.read j u f h
 own:=λj u f h=>by
  rw[JD g]
  rcases rC h with⟨rfl,_,_⟩|⟨q,h⟩
  ·exact absurd f g
  ·rw[Zu 'ɝ'];exact e.own j u f h
 apart:=λj k l d1 d2 f B q C I F=>by
  have n1:j≠i:=λz=>g (z▸f)
  have U:k≠i:=λz=>g (z▸B)
  rw[Zu (Ne.symm n1)]at C F
  rw[Zu 'Ԇ']at I⊢
  exact e.apart j k l d1 d2 f B q C I F
theorem Jqi{d:D}(b:Addr)(h:b∈Ow M F2 Su):b=l\/b∈Ow M O Z:=by
 obtain⟨j,u,r,g,f⟩:=mem_Ow.mp h;by_cases q:j=i
 ·subst q;by_cases B:j<Z.length
  ·rw[ZX B]at f;cases f;exact .inl rfl
  ·rw[uL (by rw[dE];lia)]at f;cases f
 ·rw[Zu 'ɝ']at g f;exact .inr (mem_Ow.mpr ⟨j,u,r,g,f⟩)
def EnvOk.putOwn(e:Dm)(s:CS){d:D}(h0:H l=No)(hl:∀Hh,Tups K W Hh->OwnIs K Hh W l d):
  EnvOk K M H0 W Su F2/\Fz Bz H Qx W:=by
 have fz:Fz Bz H Qx W:=.of s λb hb=>by
  rcases Jqi b hb with rfl|h
  ·exact .inr h0
  ·exact .inl h
 have ows:Ows Qx W:=λb hb=>by
  rcases Jqi b hb with rfl|h
  ·exact(hl W (Tups.of Kb)).chg
  ·obtain⟨o,h1,h2⟩:=e.ows b h;exact⟨o,s _ _ h1,h2⟩
 refine⟨{
  same:=e.same.trans s
  len:=by rw[dE,dE];exact e.len
  read:=λj d' u h=>?_
  own:=λj d' u h=>?_
  apart:=λj k m d1 d2 u hk I h1 h2 h3 B=>?_},fz⟩
 ·rcases rC h with⟨rfl,hd,g⟩|⟨I,h⟩
  ·cases hd
   exact⟨.ref l,ZX (by rw[e.len];exact g),(hl _ ows.tup).rep hid_same|>λr=>by
    have ho:l∉Ow M (O.set j Bj) (Z.set j Dh):=λhm=>by
     obtain⟨k,hk,d2,k1,C⟩:=mem_Ow.mp hm
     by_cases q:k=j
     ·exact u (q▸hk)
     ·rw[Zu 'ɝ']at k1 C
      obtain⟨l',f,_,g3⟩:=e.own k d2 hk k1
      rw[C]at f;cases f
      obtain⟨o,g4,_⟩:=g3.chg
      rw[h0]at g4;cases g4
    have:=hl _ (ows.tup)
    cases d with
    |lst J=>obtain⟨xs,F,q2⟩:=this;exact⟨l,xs,rfl,SqL.of (by rw[Jy ho];exact F),q2⟩
    |dct t z ks vs=>obtain⟨rfl,xs,F,q2⟩:=this;exact⟨l,xs,rfl,F.mono λo q=>by rw[Jy ho];exact q,q2⟩
    |_=>exact this.elim⟩
  ·obtain⟨v,f,g2⟩:=e.read j d' u h
   exact⟨v,by rw[Zu (Ne.symm I)];exact f,g2.mono fz.hid⟩
 ·rcases rC h with⟨rfl,hd,g⟩|⟨I,h⟩
  ·cases hd;exact⟨l,ZX (by rw[e.len];exact g),e.same.free h0,hl _ ows.tup⟩
  ·obtain⟨m,f,g0,g2⟩:=e.own j d' u h
   exact⟨m,by rw[Zu (Ne.symm I)];exact f,g0,g2.mono fz.hid (s m)⟩
 ·have U:∀q dq,q∈M->q≠i->O[q]? =So (So dq)->Z[q]? ≠So Dh:=λq dq hq hqi hqe hqs=>by
   obtain⟨l',f,_,g3⟩:=e.own q dq hq hqe
   rw[f]at hqs;cases hqs
   obtain⟨o,g4,_⟩:=g3.chg
   rw[h0]at g4;cases g4
  rcases rC h1 with⟨F,_,g⟩|⟨n1,k1⟩
  ·rw[F,ZX (by rw[e.len];exact g)]at h3
   cases h3
   rcases rC h2 with⟨q,_,_⟩|⟨n2,C⟩
   ·exact I (F.trans q.symm)
   ·rw[Zu (Ne.symm n2)]at B
    exact U k d2 hk n2 C B
  ·rw[Zu (Ne.symm n1)]at h3
   rcases rC h2 with⟨q2,_,g⟩|⟨n2,C⟩
   ·rw[q2,ZX (by rw[e.len];exact g)]at B
    cases B
    exact U j d1 u n1 k1 h3
   ·rw[Zu (Ne.symm n2)]at B
    exact e.apart j k m d1 d2 u hk I k1 C h3 B
def JhB{o:HO}(h:l∈L):hid L IS=hid L H:=by
 funext b;by_cases q:b∈L
 ·rw[rE q,rE q]
 ·rw[Jy q,Jy q,Je (λz:b=l=>q (by rw[z];exact h))]
def EnvOk.change(e:Dm){d d':D}{o:HO}(hi:i∈M)(g:O[i]? =So Bj)(r:Z[i]? =So Dh)(new:OwnIs K DE IS l d'):
  EnvOk K M H0 IS Z (O.set i (So d'))/\Fz Bz H (Ow M QF Z) IS:=by
 have hl:l∈Ow M O Z:=mem_Ow.mpr ⟨i,hi,d,g,r⟩;obtain⟨l',B,h0,h2⟩:=e.own i d hi g;rw[r]at B;cases B;have iσ:i<O.length:=(Zz.mp g).1;have ow:Ow M QF Z=Ow M O Z:=qX λj f=>by
  by_cases q:j=i
  ·subst q;rw[owA_iff.mpr ⟨d,g,r⟩];exact owA_iff.mpr ⟨d',ZX iσ,r⟩
  ·unfold owA;rw[Zu 'ɝ']
 have hh:hid (Ow M QF Z) IS=hid Bz H:=by rw[ow,JhB hl]
 refine⟨⟨λb C q=>?_,by rw[dE];exact e.len,λj F f h=>?_,λj F f h=>?_,λj k m d1 d2 f hk u B h2 h3=>?_⟩,⟨λa C q u=>?_,λb hb=>.inl (by rw[ow]at hb;exact hb)⟩⟩
 ·rw[Je (Ji q h0)];exact e.same b C q
 ·rw[hh];rcases rC h with⟨rfl,_,_⟩|⟨u,h⟩
  ·exact absurd hi f
  ·exact e.read j F f h
 ·rw[hh];rcases rC h with⟨rfl,hd,_⟩|⟨u,h⟩
  ·cases hd;exact⟨l,r,h0,new⟩
  ·obtain⟨m,g1,g0,g2⟩:=e.own j F f h;have hne:m≠l:=λz=>e.apart i j l _ _ hi f (Ne.symm u) g h r (z▸g1);exact⟨m,g1,g0,g2.mono Kb λC q=>by rw[Je hne];exact q⟩
 ·have back:∀(q:Nat)(dq:D),(O.set i (So d'))[q]? =So (So dq)->∃I,O[q]? =So (So I):=λq dq U=>by
   rcases rC U with⟨rfl,_,_⟩|⟨_,U⟩
   ·exact⟨_,g⟩
   ·exact⟨dq,U⟩
  obtain⟨e1,k1⟩:=back j d1 B;obtain⟨e2,k2⟩:=back k d2 h2;exact e.apart j k m e1 e2 f hk u k1 k2 h3
 ·rw[Je (λz:a=l=>u (by rw[z];exact hl))];exact q
def Chg(m:Bool)(L:A3)(H:Hp)(f:A3)(W:Hp):Prop:=Fz L H f W/\(m=Fo->Same H W)
section
variable{n:Bool}{L2:A3}{H2:Hp}
def Chg.of(s:Y7):Chg m L H L H1:=⟨Fz.sm s,λ_=>s⟩
def Chg.trans(a:LV)(b:Chg n L1 H1 L2 H2):Chg (m||n) L H L2 H2:=⟨a.1.trans b.1,λh=>by
 simp only[ZF]at h
 exact(a.2 h.1).trans (b.2 h.2)⟩
def Chg.weak(a:LV)(h:n=Fo->m=Fo):Chg n L H L1 H1:=⟨a.1,λq=>a.2 (h q)⟩
end
def OutS(X:Cx)(M:AX)(H0:Hp)(L:A3)(H:Hp)(m:Bool)(D:Ends)(r:Fw×Fm):Prop:=match r.1 with
 |.nx=>∀σ' W,EnvOk X.K M H0 W σ' r.2->Chg m L H (Ow M r.2 σ') W->D.nx σ' W
 |.rt d=>∀v W,Same H0 W->Rep X.K W d v->D.rt v W
 |.bk=>∀σ' W,EnvOk X.K M H0 W σ' r.2->Chg m L H (Ow M r.2 σ') W->D.bk σ' W
 |.ct=>∀σ' W,EnvOk X.K M H0 W σ' r.2->Chg m L H (Ow M r.2 σ') W->D.ct σ' W
inductive tS(X:Cx)(call:Ag)(M:AX)(H0:Hp)(p:Sx)(D:Ends)(σ:Bp)(H:Hp):Prop where
 |mk:∀env,EnvOk X.K M H0 H σ env->(exD call p env).Good (OutS X M H0 (Ow M env σ) H (mutS p) D) (XW X H0)->tS X call M H0 p D σ H
def OutS.after{n k:Bool}{D:Ends}{r:Fw×Fm}(h:OutS X M H0 L H k D r)(c:LV)(F:k=Fo->m=Fo/\n=Fo):OutS X M H0 L1 H1 n D r:=by
 obtain⟨f,e⟩:=r;have B:∀{C:A3}{W:Hp},Chg n L1 H1 C W->Chg k L H C W:=λI=>(c.trans I).weak λq=>by obtain⟨a,b⟩:=F q;rw[a,b];rfl
 cases f with
 |nx=>exactλσ' W g u=>h σ' W g (B u)
 |rt d=>exact h
 |bk=>exactλσ' W g u=>h σ' W g (B u)
 |ct=>exactλσ' W g u=>h σ' W g (B u)
section
variable{U:Ag}{c:Expr}{pc:Px}{a b:Sx}{rest sa sb:Cj}
def PS.weak{t t':TS}(h:Qdk)(g:∀D Z H,t' D Z H->t D Z H):PS X st t':=λY s Z H D I f=>h Y s Z H D I (g D Z H f)
def PSs.weak{f:Cj}{t t':TS}(h:PSs X f t)(q:∀D Z H,t' D Z H->t D Z H):PSs X f t':=λY s Z H D I g=>h Y s Z H D I (q D Z H g)
def nM:PSs X [] (tS X U M H0 .skip):=PSs.weak Jto λD Z H⟨O,e,h⟩=>h Z H e (Chg.of Ea)
def qM(h:PS X st L4):PSs X [st] L4:=oN h
def oX(h1:PS X st L4)(F:PSs X rest QbH):PSs X (st::rest) (tS X U M H0 ID):=by
 refine PSs.weak (vJ h1 F) λD Z H⟨O,e,h⟩=>D8;refine(Rs.gB.mp h).imp λr C=>?_;obtain⟨f,u⟩:=r;have I:mutS ID=Fo->mutS a=Fo:=λq=>(ZF.mp q).1;cases f with
 |nx=>intro σ' W g B;refine⟨u,g,C.imp λr2 F=>F.after B λq=>ZF.mp q⟩
 |rt d=>exact C
 |bk=>exactλσ' W g B=>C σ' W g (B.weak I)
 |ct=>exactλσ' W g B=>C σ' W g (B.weak I)
def jN(f:BF):PS X RF (tS X U M H0 (.ret p)):=by refine PS.weak (jV f) λD Z H⟨O,e,h⟩=>EV;exact(Rs.gB.mp h).mono (λd g v W s r=>g v W Qa0 r) λc z=>z.mono XQ
def uU(B:Qbp)(u:PSs X sa L4)(hb:PSs X sb QbH):PS X Qaj (tS X U M H0 HV):=by
 refine PS.weak (Jxn B u hb) λD Z H⟨O,e,h⟩=>EV;refine(Rs.gB.mp h).mono (λd g=>?_) λc z=>z.mono XQ;cases d with
 |bl k=>
  refine⟨k,rfl,λW s=>?_⟩;have f:∀{q:Sx},(mutS HV=Fo->mutS q=Fo)->(exD U q O).Good (OutS X M H0 Bz H (mutS HV) D) (XW X H0)->tS X U M H0 q D Z W:=λF I=>
   ⟨O,e.grow s,I.imp λr C=>C.after (m:=Fo) (Chg.of s) λz=>⟨rfl,F z⟩⟩
  cases k with
  |true=>exact iteT (f (λz=>(ZF.mp z).1) g)
  |false=>exact iteF (f (λz=>(ZF.mp z).2) g)
 |_=>exact g.elim
def JnB(g:i∉M)(f:Cu){D:Ends}(h:N5):tAsg cB DY D Z H:=by obtain⟨O,e,h⟩:=h;simp only[exD,ZU,Zh,Zo]at h;refine Kv;rw[Ju U O f];exact(Rs.gB.mp h).mono (λd q v W s k r=>q _ _ ('ƥ'.put g r) (by rw[JD g];exact Chg.of s)) λc z=>z.mono Yg
def Jty(u:i∉M){D:Ends}(h:tS X U M H0 (.set To i p) D Z H):tAsg El DY D Z H:=by
 obtain⟨O,e,h⟩:=h;simp only[exD,yH]at h;refine⟨O,Yk,'Ă'.mono (λd g v W s r=>?_) λc z=>z.mono XQ⟩;split at g
 ·exact g.elim
 ·rename_i q;have f:d.imm=To:=by simpa using q
  exact g _ _ ('ƥ'.put u (Rep.tups 'ƥ'.ows.tup d f r)) (by rw[JD u];exact Chg.of s)
def JnF{D:Ends}(h:tS X U M H0 (.own i p) D Z H):tAsg IE DY D Z H:=by
 obtain⟨O,e,h⟩:=h;refine⟨O,Yk,'Ă'.mono (λd f=>?_) λc z=>z.mono XQ⟩;cases d with
 |lst J=>
  simp only at f;split at f
  ·exact f.elim
  ·rename_i q;have g:imms J=To:=by simpa using q
   refine⟨J,rfl,λl xs W s r B C=>?_⟩;obtain⟨u,F⟩:=e.putOwn s (i:=i) (d:=.lst J) r λI tp=>⟨xs,B,Reps.tups tp J g C⟩;exact f _ _ u ⟨F,λ_=>s⟩
 |_=>exact f.elim
def JuS(C:Am)(hi:N[i]? =So x)(g:locB nm x=To)(r:i∉M)(f:Cu)(q:BF)(B:Lu):
  PS X E6 Nj:=by obtain⟨F,u⟩:=C.sto x g;exact PS.weak (pF (by rw[C.hN];exact C.nd) (by rw[C.hN];exact hi) F (pE q) B u) λD Z H h=>JnB r f h
def Jsh(C:Am)(hi:N[i]? =So x)(f:locB nm x=To)(q:i∉M)(g:BF)(u:Lu):
  PS X E6 Te:=by obtain⟨B,r⟩:=C.sto x f;exact PS.weak (pF (by rw[C.hN];exact C.nd) (by rw[C.hN];exact hi) B g u r) λD Z H h=>Jty q h
def JuJ(C:Am)(hi:N[i]? =So x)(f:locB nm x=To)(g:Qdn)(r:Lu):
  PS X E6 Pr:=by obtain⟨u,q⟩:=C.sto x f;exact PS.weak (pF (by rw[C.hN];exact C.nd) (by rw[C.hN];exact hi) u g r q) λD Z H h=>JnF h
def Joq  {te:TE} (I:QcD) {D:Ends}   (h:tS X U M H0 (.app m i p) D Z H)
  (C:∀ O,EnvOk X.K M H0 H Z O -> ∀ Q,'ƴ'.Good (λd=>∀ v H1,Same H H1 -> (m = To -> d.imm = To) -> Rep X.K HB d v -> Q v H1) EC -> (∀ d,evD U p O = .ok d -> m = To -> d.imm = To) -> te Z H Q) :
  ∃ l,Z[i]? = So Dh /\ (∃ xs,H l = So By) /\ te Z H λv H1=>∃ xs,H1 l = So By /\ Ac < sizeLine /\ D.nx Z (upd H1 l (.lst (xs ++ [v]))):=by
 obtain ⟨O,e,h⟩:=h;simp only [exD] at h;cases q:O[i]? with
 | none=>rw [q] at h; exact h.elim
 | some o=>
  rw [q] at h;cases o with
  | none=>exact h.elim
  | some d=>
   cases d with
   | lst J=>
    obtain ⟨l,g,h0,xs,hl,hr⟩:=e.own i _ I q;refine ⟨l,g,⟨xs,hl⟩,C O e _ ('Ă'.imp λd B v H1 r him r1=>?_) λd ed hm=>?_⟩
    ·split at B
     ·exact B.elim
     ·rename_i f;simp only [nB,not_or,rA,rO,ZP,Decidable.not_not] at f;have u:=r _ _ hl;have F:Ab < lD:=by simpa using f.2
      refine ⟨xs,u,by rw [hr.length,ZK]; exact F,?_⟩;obtain ⟨e2,f2⟩:=(e.grow r).change (d':=.lst (J ++ [d])) (o:=.lst (xs ++ [v])) I q g ⟨_,Jg,(hr.mono (Fz.sm r).hid).append (Reps.one r1)⟩;exact B Z _ e2 ⟨(Fz.sm r).trans f2,λz=>by cases z⟩
    ·rw [ed] at h;simp only [Rs.bo] at h;split at h
     ·exact h.elim
     ·rename_i f;simp only [nB,not_or,hm,yH] at f;simpa using f.1
   | _=>exact h.elim
def Jux  (C:Am) (hi:N[i]? = So x) (hx:HJ) (I:CZ) (u:(x == ("__classdict__" : Str)) = Fo) (hM:QcD) (hsp:Cu) (he:BF)
  (F:F7) {f:Pos} (hs:Lx):PS X Ws Td:=by
 refine PS.weak (nN (iM iP PySem.F.slot_list_append PySem.F.type_list_append Joh (qD (by rw [C.hN]; exact hi) (C.vis x hx) I u) Oc rfl (by rw [hs]; rfl) F hs rfl) rfl) λD Z H h=>?_;obtain ⟨l,B,⟨xs,F⟩,h⟩:=Joq (te:=tH X U p) hM h λO e Q g _=>⟨JL M 0 O,Ow M O Z,e.ows,Z3,by
  rw [Ju U O hsp];exact g.mono (λd q v W s k r=>q v W s (λz=>by cases z) r) λc z=>z.mono Yg⟩
 obtain ⟨O,L,k1,k2,k3⟩:=h;refine ⟨.ref l,B,.inl ⟨rfl,xs,SqL.of F⟩,O,L,k1,k2,k3.imp λd q v H1 s1 kk r1=>?_⟩;simp only [tNil];obtain ⟨ys,g1,g2,g3⟩:=q v H1 s1 kk r1;exact ⟨l,ys,v,rfl,rfl,g1,g2,g3⟩
end
inductive gS(X:Cx)(M:AX)(H0:Hp)(ts:AX)(nt:Nat)(v:V)(σ:Bp)(H:Hp)(Q:(L2.St->Hp->Prop)):Prop where
 |mk:∀env d new,EnvOk X.K M H0 H σ env->Rep X.K (hid (Ow M env σ) H) d v->Jv nt d=.ok new->(∀σ',EnvOk X.K M H0 H σ' (Jt ts new env)->Ow M (Jt ts new env) σ'=Ow M env σ->Q σ' H)->gS X M H0 ts nt v σ H Q
section
variable{U:Ag}{l:Nat}{p3:Pos}
def JvN(C:Am)(hi:N[i]? =So x)(q:locB nm x=To)(f:i∉M):PG X Ct Qak:=by obtain⟨h1,h2⟩:=C.sto x q;rintro Y s Z H v u Q I r⟨O,d,F,e,B,g,h⟩;refine qC (pos:=pos) (i:=i) (by rw[C.hN];exact C.nd) (by rw[C.hN];exact hi) h1 h2 Y s Z H v u Q I r ?_;simp only[Jv,if_true]at g;cases g;exact h _ (e.put f B) (JD f)
def JuE(C:Am)(hi:N[i]? =So x)(hx:locB nm x=To)(q:i∉M)(hj:N[j]? =So y)(hy:locB nm y=To)(g:j∉M):PG X SI NS:=by
 obtain⟨h1,h2⟩:=C.sto x hx;obtain⟨h3,h4⟩:=C.sto y hy;rintro Y s Z H v u Q I r⟨O,d,new,e,rd,f,h⟩;refine rM (pos:=pos) Xp (JP (qC (i:=i) (pos:=p1) (by rw[C.hN];exact C.nd) (by rw[C.hN];exact hi) h1 h2) (JP (qC (i:=j) (pos:=p2) (by rw[C.hN];exact C.nd) (by rw[C.hN];exact hj) h3 h4) kN)) rfl rfl Y s Z H v u Q I r ?_;unfold Jv at f;rw[if_neg 'v']at f;cases d with
 |tup J=>
  dsimp only at f;rw[if_neg 'v']at f;split at f
  ·rename_i hd;cases f;obtain⟨a,xs,rfl,hq,hr⟩:=rd;match J,hd with
   |[d0,d1],_=>obtain⟨F,r0,e0,k0,B,r1,e1,k1,e2⟩:=hr;subst e1;subst e2;subst e0;exact⟨a,[F,B],rfl,SqT.same hid_same hq,rfl,F,[B],rfl,B,[],rfl,rfl,h _ ((e.put q k0).put g (by rw[JD q];exact k1)) (by rw[show Jt [i,j] ([d0,d1].map So) O='Ӂ'.set j (So d1)from rfl,JD g,JD q])⟩
  ·cases f
 |_=>cases f
def Jpm(C:Am)(hi:N[i]? =So x)(hx:locB nm x=To)(F:i∉M)(hj:N[j]? =So y)(hy:locB nm y=To)(g:j∉M)(hl:N[l]? =So z)(hz:locB nm z=To)(q:l∉M):PG X V6 Oz:=by
 obtain⟨h1,h2⟩:=C.sto x hx;obtain⟨h3,h4⟩:=C.sto y hy;obtain⟨h5,h6⟩:=C.sto z hz;rintro Y s Z H v u Q I r⟨O,d,new,e,rd,f,h⟩;refine rM (pos:=pos) Xp (JP (qC (i:=i) (pos:=p1) (by rw[C.hN];exact C.nd) (by rw[C.hN];exact hi) h1 h2) (JP (qC (i:=j) (pos:=p2) (by rw[C.hN];exact C.nd) (by rw[C.hN];exact hj) h3 h4) (JP (qC (i:=l) (pos:=p3) (by rw[C.hN];exact C.nd) (by rw[C.hN];exact hl) h5 h6) kN))) rfl rfl Y s Z H v u Q I r ?_;unfold Jv at f;rw[if_neg 'v']at f;cases d with
 |tup J=>
  dsimp only at f;rw[if_neg 'v']at f;split at f
  ·rename_i hd;cases f;obtain⟨a,xs,rfl,hq,hr⟩:=rd;match J,hd with
   |[d0,d1,d2],_=>
    obtain⟨x0,r0,e0,k0,x1,r1,e1,k1,B,r2,e2,k2,e3⟩:=hr;subst e3;subst e2;subst e1;subst e0;exact⟨a,[x0,x1,B],rfl,SqT.same hid_same hq,rfl,x0,[x1,B],rfl,x1,[B],rfl,B,[],rfl,rfl,h _ (((e.put F k0).put g (by rw[JD F];exact k1)).put q (by rw[JD g,JD F];exact k2))
     (by rw[show Jt [i,j,l] ([d0,d1,d2].map So) O=('Ӂ'.set j (So d1)).set l (So d2)from rfl,JD q,JD g,JD F])⟩
  ·cases f
 |_=>cases f
theorem Jom{body:Sx}{ts:AX}{nt:Nat}{D:Ends}{J:Ij}{J9:It}(e:NB)(s1:Y7)
  (wk:∀C W,Chg Eb Bz H1 C W->Ows C W->(∀i,i<Ab->J9.go i W)/\J9.stop Ab W/\∀i x H'',i<Ab->J9.yld i W x H''->Same W H''/\∃d,J[i]? =So d/\Rep X.K (hid C H'') d x)
  (h:(forL ts nt EH J O).Good Sh EC):
  ∃W9:Nat->Nat->L2.St->Hp->Prop,(∃m,W9 0 m Z H1)/\∀i m Z H,W9 i m Z H->(J9.stop i H/\D.nx Z H)\/(J9.go i H/\∃Nn:L2.St->Hp->Prop,(∀σ' W,Nn σ' W->∃m',m'<m/\W9 AE m' σ' W)/\
   ∀x W,J9.yld i H x W->gS X M H0 ts nt x Z W λu F=>tS X U M H0 body {D with nx:=Nn,ct:=Nn,bk:=D.nx} u F):=by
 refine⟨λi m σ' W=>∃g,EnvOk X.K M H0 W σ' g/\Chg Eb Bz H1 J5 W/\i<=Ab/\m=Ab-i/\(forL ts nt EH cC g).Good Sh EC,
  ⟨Ab,O,e,Chg.of Kb,qA _,rfl,by simpa using h⟩,?_⟩
 rintro i m σ' W⟨g,e',c',hi,rfl,B⟩;obtain⟨w1,w2,w3⟩:=wk _ W c' e'.ows;have cH:∀{C:A3}{Hz:Hp},Chg Eb Bz H1 C Hz->Chg Eb Bz H C Hz:=λz=>((Chg.of (m:=Fo) s1).trans z).weak λq=>by rw[q];rfl
 by_cases hlt:i<Ab
 ·refine .inr ⟨w1 i hlt,λu F=>∃m',m'<Ab-i/\∃g,EnvOk X.K M H0 F u g/\Chg Eb Bz H1 (Ow M g u) F/\i+1<=Ab/\m'=Ab- AE/\(forL ts nt EH G7 g).Good Sh EC,λu F q=>q,λx F hy=>?_⟩;obtain⟨s2,d,hd,rd⟩:=w3 i x F hlt hy;rw[eS hd]at B;simp only[forL]at B;replace B:=Rs.gB.mp B;cases hb:Jv nt d with
  |sk=>rw[hb]at B;exact B.elim
  |ex c=>exact(rJ hb).elim
  |ok new=>
   rw[hb]at B;refine⟨g,d,new,e'.grow s2,rd,hb,λσ3 e3 ow3=>⟨Jt ts new g,e3,(Rs.gB.mp B).imp λr hr=>?_⟩⟩;have c2:Chg Eb Bz H1 J5 F:=(c'.trans (n:=Fo) (Chg.of s2)).weak λq=>by rw[q];rfl
   have cc:∀{C:A3}{Hz:Hp},Chg Eb (Ow M (Jt ts new g) σ3) F C Hz->Chg Eb Bz H1 C Hz:=λz=>by rw[ow3]at z;exact(c2.trans z).weak λq=>by rw[q];rfl
   obtain⟨f,I⟩:=r;cases f with
   |nx=>exactλσ4 H4 e4 c4=>⟨_,by lia,I,e4,cc c4,by lia,rfl,hr⟩
   |ct=>exactλσ4 H4 e4 c4=>⟨_,by lia,I,e4,cc c4,by lia,rfl,hr⟩
   |bk=>exactλσ4 H4 e4 c4=>hr σ4 H4 e4 (cH (cc c4))
   |rt d=>exact hr
 ·have he:i=Ab:=by lia
  subst he;rw[qI]at B;exact .inl ⟨w2,B σ' W e' (cH c')⟩
variable{iter:Expr}{body:Cj}{src:Px}{sb:Sx}{ts:AX}{nt:Nat}
def hV(C:Am)(hp:F4)(hi:PI X tg iter (tW X U src))(hg:Lb)(hb:PM)(u:sepP M src=To)
  (hs:∀x,foldedSetIterable iter WU x=pure x):PS X S1 (tS X U M H0 (.loop Fo ts nt src sb)):=by
 refine PS.weak (gQ hp Xp (JuU hi) hg hb hs) λD Z H⟨O,e,h⟩=>Kv;rw[Ju U O u];refine(Rs.gB.mp h).mono (λd r=>?_) λc z=>z.mono Yg;cases d with
 |lst J=>simp only[Pu.D.asL,Rs.bo,ZU,Zh,Zo]at r;refine⟨J,rfl,λJ9 W F kk w ok=>Jom (U:=U) (e.grow F) F (λI g q ow=>?_) r⟩;have sh:Same cD (hid I g):=q.1.hid;obtain⟨a1,a2,a3⟩:=w g (sh.trans hid_same);refine⟨a1,a2,λi x f hi hy=>⟨(a3 i x f hi hy).1,?_⟩⟩;have B:=ok I i g x f ow hy;exact((w _ sh).2.2 i x _ hi B).2
 |_=>exact r.elim
theorem JoW{c:Expr}{I:Px}(hp:F4)(hc:PT X c (tT X U I))(hb:PM):PS X OZ (tS X U M H0 QdB):=by
 refine PS.weak (JoF hp hc hb) λD Z H zz0=>?_;obtain⟨O,e,h⟩:=zz0;simp only[exD]at h;have hm:mutS QdB=mutS sb:=rfl;rw[hm]at h;refine⟨λm σ' W=>∃g,EnvOk X.K M H0 W σ' g/\Chg GT Bz H J5 W/\(whlL (evD U I) (exD U sb) m g).Good S0 EC,⟨n,O,e,Chg.of Kb,h⟩,?_⟩;rintro m σ' W⟨g,e',c',hg⟩;cases m with
 |zero=>exact hg.elim
 |succ m=>
  simp only[whlL]at hg;refine⟨g,e'.readOk,(Rs.gB.mp hg).mono (λd hd=>?_) λc z=>z.mono e'.same⟩;cases d with
  |bl k=>
   refine⟨k,rfl,λH2 s2=>?_⟩;have c2:Chg GT Bz H J5 H2:=(c'.trans (n:=Fo) (Chg.of s2)).weak λq=>by rw[q];rfl
   have cc:∀{L':A3}{Hz:Hp},Chg GT J5 H2 L' Hz->Chg GT Bz H L' Hz:=λz=>(c2.trans z).weak λq=>by rw[q];rfl
   cases k with
   |true=>
    refine iteT ⟨λC H3=>∃u,EnvOk X.K M H0 H3 C u/\Chg GT Bz H (Ow M u C) H3/\(whlL (evD U I) (exD U sb) m u).Good S0 EC,λC H3 q=>⟨m,by lia,q⟩,g,e'.grow s2,(Rs.gB.mp hd).imp λr hr=>?_⟩;obtain⟨f,B⟩:=r;cases f with
    |nx=>exactλF H4 e4 c4=>QaA
    |ct=>exactλF H4 e4 c4=>QaA
    |bk=>exactλF H4 e4 c4=>hr F H4 e4 (cc c4)
    |rt d=>exact hr
   |false=>exact iteF (hd σ' H2 (e'.grow s2) c2)
  |_=>exact hd.elim
end
def spI(K:Ai)(mg:BY)(U:Ag)(f:Nat):Sp:=λvs H Q E=>∃J,Reps K H J vs/\(U f J).Good (λd=>∀v W,Same H W->Rep K W d v->Q v W) (λc=>∀C W,mg c=So Bm->Same H W->E Bm No W)
theorem Room.out(r:Room k XY):Room k A:=⟨r.hd,r.dp,by have:=r.un;simp only[Around.in1]at this;lia⟩
inductive Calleee(G:Gw)(call:Ag)(fi:Nat)(x:Str):Prop where
 |mk (kk:Nat) (f:Addr) (fd:FuncData) (ps:List Str) (h:FnOk G.prog G.w G.K G.mg G.base (CXr G.prog G.w) kk f fd ps (spI G.K G.mg call fi)/\Room kk G.A.in1.in1/\G.mg x=So (.ref f)/\PySem.W.keepIn G.K (.ref f)=To/\Binds G.K fd ps []):Calleee G call fi x
structure Callee(G:Gw)(U:Ag)(fi:Nat)(x:Str):Prop where
 ex:Calleee G U fi x
section
variable{U:Ag}{es:C6}{fi:Nat}
def Jsy(C:Am)(g:Qd1)(hg:gloB nm x=To)(hdb:CZ)(ha:Kj)(he:Dx)
  (hpl:'в' ('ĺ'.any (·.1)=Fo) Al):PE X Pd (tI X U QJ):=by
 obtain⟨kk,f,fd,ps,F,B,hm,hk,hb⟩:=g.ex;have B:=Room.out B;have hG:=C.g;subst hG;have hp:Jdh (CXr Xa X.w) X (λu _ W=>∀C,u=.ref C->XE X C W):=λY Z H s e s' I g=>by obtain⟨a,C,W,rfl,F,hE⟩:=JjI I g;exact hE C rfl a s' F
 refine PE.weak (Jue F B (C.glo x hg) hm hk hb .nil hp ha hdb he hpl) λZ H Q⟨O,r,h⟩=>FK;refine(Rs.gB.mp h).imp λd q=>?_;cases d with
 |lst J=>simp only[D.asL,Rs.bo]at q;refine⟨J,rfl,λvs W s rs=>?_⟩;show spI X.K X.mg U fi (vs++[]) W Q _;rw[uE];exact⟨J,rs,q.mono (λd o v H2 s2 rv=>o v H2 (s.trans s2) rv) λc z C H2 hm2 s2 C' e=>by cases e;exact z C H2 hm2 (s.trans s2)⟩
 |_=>exact q.elim
end
def JfT{d:D}(h:(JE n J)[i]? =So Bj):J[i]? =So d:=by
 unfold JE at h;by_cases f:i<Ab
 ·rw[eF (by simpa using f),oB]at h;cases q:J[i]? with
  |none=>rw[q]at h;cases h
  |some g=>rw[q]at h;cases h;rfl
 ·rw[fF (by simpa using f),kP]at h;split at h<;>cases h
section
variable{mg:BY}{base:Heap}{defs:DB}{fi:Nat}{d:DefD}
theorem pY{vs:AA}(U:d.slots=Xl)(hl:Ab<=Xl)(B:∀i∈M,Ab<=i)(r:Reps K H J vs):EnvOk K M H H HU G2:=by
 have l:=Xv;have get:∀(i:Nat)(f:D),(JE XU J)[i]? =So (So f)->∃v,(L2.fD N vs)[i]? =So BO/\Rep K H f v:=λi f h=>by have h':=JfT h;obtain⟨v,u,I⟩:=r.get h';refine⟨v,?_,I⟩;have g:i<Bg:=(Zz.mp u).1;unfold L2.fD;rw[eF (by simpa using g),oB,u];rfl
 have no:∀(i:Nat)(f:D),i∈M->(JE XU J)[i]? =So (So f)->False:=λi f g h=>by have h':=JfT h;have:=(Zz.mp h').1;have:=B i g;lia
 have F:Ow M G2 HU=[]:=by
  cases q:Ow M G2 (L2.fD N vs)with
  |nil=>rfl
  |cons b t=>obtain⟨i,g,f,u,_⟩:=mem_Ow.mp (show b∈Ow M G2 HU by rw[q];simp);exact(no i f g u).elim
 refine⟨Same.refl H,?_,λi f _ h=>by rw[F,JI];exact get i f h,λi f g h=>(no i f g h).elim,λi j l C d2 g _ _ h=>(no i C g h).elim⟩;unfold L2.fD JE;rw[Zy,Zy,Ze,Ze,zG,zG,U,l]
structure HX(X:Cx)(nm:Bf):Prop where
 sc:X.env.scope.names=nm
 pass:PassesOwn Ay X.A WU X.xe
 stk:X.stack=WU::X.outer
 frm:X.env.frame=So AM
 ex:X.ex=[]
theorem fn_ok{qual:Str}{f:Addr}{fd:B2}{ps:Ad}(F:GC)(S:Qp)(hd:defs[fi]? =So d)(hs:d.slots=Xl)(hp:d.params=Aj)(hM:∀i∈M,Aj<=i)(hpN:Aj<=Xl)
  (I:∀(X:Cx)(A:BX)(H0:Hp),Ctx X A9 N 'Ʈ'.names->Room j A->HX X 'Ʈ'.names->PSs X Yv (tS X BQ M H0 XO)):
  FnOk P w K mg base B1 (j+1) f fd ps (spI K mg Qcg fi):=by
 have U:∀J,runD defs AV fi J=if Ab=YL then Jb (exD BQ XO G2)else .sk:=λJ=>by
  simp only[runD,hd]
 obtain⟨oc,od,kV,doc,pm,an,cdv,ct,osl,rfl,lk,hcd⟩:=F.ex
 refine pP lk hcd S (λvs H Q E h=>?_) (λA B s H vs Q E hr h=>?_)
 ·obtain⟨J,r,g⟩:=h
  rw[U]at g
  split at g
  ·rename_i q
   rw[r.length,q,hp]
  ·exact g.elim
 ·obtain⟨J,r,g⟩:=h
  rw[U]at g
  split at g
  ·rename_i q
   have C:Ctx (cxOf B1 P w K mg base N qual SU f cdv A B s H E) ⟨P,w,K,mg,base,A.deeper (envOfC qual SU Aa f cdv)⟩ N 'Ʈ'.names:={
    g:=rfl
    hN:=rfl
    nd:=S.nd
    vis:=λy u=>by
     show Vis SU y
     unfold visB at u
     split at u
     ·rename_i z;exact .inl z
     ·rename_i z;exact .inr Yx
     ·rename_i z;exact .inr aH
     ·cases u
    cel:=λy u=>by
     show(Jf st).names.lookup y=So .cell\/(Jf st).names.lookup y=So .free
     unfold celB at u
     split at u
     ·rename_i z;exact .inl z
     ·rename_i z;exact .inr z
     ·cases u
    glo:=λy u=>by
     show(Jf st).names.lookup y=So .globalImplicit
     unfold gloB at u
     split at u
     ·rename_i z;exact z
     ·cases u
    sto:=λy u=>by
     show Loc SU y/\(To=To\/_)
     unfold locB at u
     split at u
     ·rename_i z;exact Nz
     ·rename_i z;exact Ny
     ·cases u
    calm:=rfl
    un:=hr.units
    fr:=Om}
   refine⟨_,I _ _ H C hr SG,JE XU J,pY hs Ae (λi hi=>by have:=hM i hi;lia) r,?_⟩
   cases q2:exD BQ XO (JE XU J)with
   |ok r2=>
    rw[q2]at g
    obtain⟨fl,env2⟩:=r2
    cases fl with
    |nx=>exactλσ' W e' _=>g .non W e'.same rfl
    |rt dd=>exactλv W s' r'=>g v W s' r'
    |bk=>exact g.elim
    |ct=>exact g.elim
   |ex c=>
    rw[q2]at g
    exactλC2 H2 hm s2 a s' F=>JiH F (g C2 H2 hm s2)
   |sk=>rw[q2]at g;exact g.elim
  ·exact g.elim
def Jsa{f:Addr}{fd:B2}{ps:Ad}:FnOk P w K mg base B1 0 f fd ps (spI K mg (runD defs 0) fi):=
 ⟨λvs H Q E⟨_,_,h⟩=>h.elim,λA g s H q r vs Q E _ _ _ _⟨_,_,h⟩=>h.elim⟩
end
section
variable{U:Ag}
open PySem.AutoSeq1 in
def Jkj(t:Bool)(l:Addr)(items:BU)(n:Nat)(b:Addr)(f:BU)(hs0:¬(!items.isEmpty&&Builtin.List.listTooLong (Av+f.size))=To)(q:Av<=sizeLine)(C:Av+f.size<=sizeLine+1):
  Meets (Builtin.«list.extend» OL) (λ_ R s=>s.heap.get? l=So {cls:=.type "list",dict:=No,data:=.seq items n,slots:=#[]}/\(∃I F sl,s.heap.get? b=So {cls:=.type (if t then "tuple" else "list"),dict:=I,data:=.seq f F,slots:=sl})/\R (.ok (.ret Xb)) {s with heap:=s.heap.update l (Obj.mapSeq λx=>x++f),toks:=W7}):=
 .of_wp λprog w A R s h=>by
  obtain⟨hp,g,d,tk,os⟩:=s;obtain⟨u,⟨I,F,sl,B⟩,h⟩:=h;have f1:=pK;have f2:=mL;have f3:=iL;have f4:=lL;have f5:=kL
  have r:(items++f).size<=sizeLine+1:=by rw[Array.size_append];exact C
  cases t with
  |true=>
   simp only[if_true]at B
   wp_walk using(rG u rfl (hz:=q) (_hz':=r)),uG u,uG B;exact Dd
  |false=>
   simp only[Zh,Zo]at B
   wp_walk using(rG u rfl (hz:=q) (_hz':=r)),uG u,uG B;exact Dd
def rExtS (K:Ai):V->List V->Hp->VK->Prop:=λx vs H Q=>∃l b xs f,x=.ref l/\vs=[.ref b]/\H l=So By/\(SqL K H b f\/SqT K H b f)/\xs.length+f.length<=sizeLine/\Q .non (upd H l (.lst (xs++f)))
theorem Jrr:MtM X "list.extend" (rExtS X.K):=by
 intro Y s Z H x vs v us Q I rx rv h;obtain⟨l,b,xs,zs,rfl,rfl,hH,hB,hz,q⟩:=h;cases rx;obtain⟨u,rfl,ru⟩:=rv.one;cases ru;obtain⟨z,its,n,r,hl,e⟩:=I.lstM hH;obtain⟨t,its2,g,hb⟩:∃(t:Bool)(its2:Az),Vals zs its2/\∃dd C sl,s.heap.get? b=So {cls:=.type (if t then "tuple" else "list"),dict:=dd,data:=.seq its2.toArray C,slots:=sl}:=by
  rcases hB with h|h
  ·obtain⟨its2,g,⟨o,C,e2,c2,d2,B⟩,_⟩:=I.list h;obtain⟨c,dd,da,sl⟩:=o;simp only at c2 B;subst c2;subst B;exact⟨Fo,its2,g,dd,C,sl,e2⟩
  ·obtain⟨its2,g,⟨o,e2,c2,C,B⟩,_⟩:=I.tuple h;obtain⟨c,dd,da,sl⟩:=o;simp only at c2 B;subst c2;subst B;exact⟨To,its2,g,dd,C,sl,e2⟩
 have hl2:=XZ;have hsz:BK+ES<=sizeLine:=by rw[Zn,Zn];lia
 have f:¬(!its.toArray.isEmpty&&Builtin.List.listTooLong (BK+ES))=To:=by rw[JpT hsz,dI];exact ZH
 refine sA F.slot_list_extend CD F.entry_list_extend (F.args_list_extend_2 _ _)
  (Jkj t l Ap n b its2.toArray f (by rw[Zn];lia) Ae) ⟨e,hb,?_⟩
 refine⟨.non,_,I.lset (its':=its++its2) hH e Af (r.append g) ?_,rfl,q⟩;rw[Zy];lia
def JpL  (hM:QcD) {D:Ends}   (h:tS X U M H0 (.ext m i p) D Z H) :
  ∃ O l xs,EnvOk X.K M H0 H Z O /\ Z[i]? = So Dh /\ H l = So By /\ 'ƴ'.Good (λd=>∃ es,d = .lst es /\ (m = To -> imms es = To) /\ ∀ f H1,Same H H1 -> Reps X.K HB es f -> ∃ ys,H1 l = So Ir /\ BD + f.length <= sizeLine /\ D.nx Z (upd H1 l (.lst (ys ++ f)))) EC:=by
 obtain ⟨O,e,h⟩:=h;simp only [exD] at h;cases q:O[i]? with
 | none=>rw [q] at h; exact h.elim
 | some o=>
  rw [q] at h;cases o with
  | none=>exact h.elim
  | some d=>
   cases d with
   | lst J=>
    obtain ⟨l,r,h0,xs,I,F⟩:=e.own i _ hM q;refine ⟨O,l,xs,e,r,I,'Ă'.imp λd g=>?_⟩;cases d with
    | lst es=>
     simp only [Pu.D.asL,Rs.bo] at g;split at g
     ·exact g.elim
     ·rename_i B;simp only [nB,not_or,rO,Bool.and_eq_false_iff] at B;have C:Ab + es.length <= lD:=by simpa using B.2
      refine ⟨es,rfl,λhm=>?_,λf H1 u r1=>⟨xs,u _ _ I,by rw [F.length,r1.length,ZK]; exact C,?_⟩⟩
      ·rcases B.1 with z | z
       ·rw [hm] at z; cases z
       ·simpa using z
      ·obtain ⟨e2,f2⟩:=(e.grow u).change (d':=.lst (J ++ es)) (o:=.lst (xs ++ f)) hM q r ⟨_,Jg,(F.mono (Fz.sm u).hid).append r1⟩;exact g Z _ e2 ⟨(Fz.sm u).trans f2,λz=>by cases z⟩
    | _=>exact g.elim
   | _=>exact h.elim
def JuN  (C:Am) (hi:N[i]? = So x) (hx:HJ) (hd1:CZ) (F:(x == ("__classdict__" : Str)) = Fo) (hM:QcD) (hsp:Cu) (he:BF)
  (hl:F7) {r:Pos} (hs:Lx):PS X (.Expr V5 r) TQ:=by
 refine PS.weak (nN (iM iP PySem.F.slot_list_extend PySem.F.type_list_extend Jrr (qD (by rw [C.hN]; exact hi) (C.vis x hx) hd1 F) Oc rfl (by rw [hs]; rfl) hl hs rfl) rfl) λD Z H h=>?_;obtain ⟨O,l,xs,e,hσ,hl,g⟩:=JpL hM h;simp only [evD,Rs.bind_assoc] at g;refine ⟨.ref l,hσ,.inl ⟨rfl,xs,SqL.of hl⟩,JL M 0 O,Ow M O Z,e.ows,Z3,?_⟩;rw [Ju U O hsp];refine (Rs.gB.mp g).mono (λd f v H1 s1 kk r1=>?_) λc z=>z.mono Yg;simp only [tNil];cases d with
 | tup es=>obtain ⟨I,e1,_,f⟩:=f;cases e1;obtain ⟨b,q,rfl,q1,q2⟩:=r1;obtain ⟨ys,B,g2,u⟩:=f q H1 s1 q2;exact ⟨l,b,ys,q,rfl,rfl,B,.inr (SqT.same hid_same q1),g2,u⟩
 | lst es=>obtain ⟨I,e1,_,f⟩:=f;cases e1;obtain ⟨b,q,rfl,q1,q2⟩:=r1;obtain ⟨ys,B,g2,u⟩:=f q H1 s1 q2;exact ⟨l,b,ys,q,rfl,rfl,B,.inl (hid_same.seq q1),g2,u⟩
 | _=>exact (show False from f).elim
end
section
variable{U:Ag}{a b:Expr}
def Juh{k:Bool}:OpR X (compareOp .IsNot) (λx y H Q=>y=.bl k/\∃c,x=.bl c/\Q (.bl (!(c==k))) H):=by rintro Y s Z H x y v u Q I g r⟨e,c,f,q⟩;subst e;subst f;cases g;cases r;exact isnot_bool ⟨.bl _,H,I,rfl,q⟩
def tIs{k:Bool}{g:Bool->Bool}(q:∀c,op1 o (.bl c)=.ok (.bl (g c)))(r:∀d,(∀c,d≠.bl c)->op1 o d=.sk){Q:VK}(h:Qq):
  tOp (λx y H Q=>y=.bl k/\∃c,x=.bl c/\Q (.bl (g c)) H) FH (tC Qaq) Z H Q:=h.un1 λd v W s u f=>by
 refine IZ
 cases d with
 |bl c=>cases u;rw[q c]at f;exact⟨c,rfl,Out.now f rfl⟩
 |_=>rw[r _ (by intro c;simp)]at f;exact f.elim
def Jml{j p'}(q:AH):PT X (.Compare a [.IsNot] [.Constant EF j p'] pos) (tT X U (.un .notT pa)):=
 PT.weak (nW (Juh (k:=To)) q Jvt CQ) λZ H Q h=>tIs (g:=λc=>!(c==To)) (λc=>by cases c<;>rfl) (λd f=>by cases d<;>first|rfl|exact absurd rfl (f _)) h.asTest
end
noncomputable def oF:D->String
 |.non=>"NoneType"
 |.bl _=>"bool"
 |.int _=>"int"
 |.str _=>"str"
 |.tup _=>"tuple"
 |.lst _=>"list"
 |_=>""
def JoX{c:An}{k:Bool}{d:D}{x:V}{u:An}(I:BW)(r:Rep X.K H d x)(f:RelV x u)(U:oF d≠"")
  (e:PySem.W.kitOne X.K Qch c=So k) (h:∀F,Q (.bool k) {s with toks:=F}):wpAny Ay A (PySem.call Pc [u,c]) Q E s:=by
 cases d with
 |non=>cases r;cases(show u=Xb from f);exact gI PySem.W.kitx_none X6 iA e (λz=>nomatch z) h
 |bl y=>cases r;cases(show u=Value.bool y from f);exact gI PySem.W.kitx_bool X6 iA e (λz=>nomatch z) h
 |int i=>cases r;obtain⟨t,rfl⟩:=f;exact gI PySem.W.kitx_int X6 iA e (λz=>nomatch z) h
 |str y=>cases r;obtain⟨t,rfl⟩:=f;exact gI PySem.W.kitx_str X6 iA e (λz=>nomatch z) h
 |tup J=>obtain⟨a,xs,rfl,B,_⟩:=r;cases(show u=Value.ref a from f);obtain⟨C,_,p,_⟩:=I.tuple B;obtain⟨o,g,q,_⟩:=p;exact gI PySem.W.kitx_tuple X6 ⟨o,g,q⟩ e (λz=>nomatch z) h
 |lst J=>obtain⟨a,xs,rfl,B,_⟩:=r;cases(show u=Value.ref a from f);obtain⟨C,_,p,_⟩:=I.list B;obtain⟨o,g,q,_⟩:=XR;exact gI PySem.W.kitx_list X6 ⟨o,g,q⟩ e (λz=>nomatch z) h
 |_=>exact absurd rfl U
example (K:Ai):PySem.W.kitOne K Ib G4=So Fo:=by
 first|rfl|decide|(unfold PySem.W.kitOne PySem.W.kitCls;simp)
theorem JiC(h:EI):∀k:Nat,Reps K H (List.replicate k J).flatten 'Ο'.flatten
 |0=>rfl
 |k+1=>by
  rw[kF,kF,vI,vI]
  exact h.append (JiC h k)
section
variable{U:Ag}{a b:Expr}
def dJ(o:O1)(T:A5):Prop:=∀(K:Ai)(d:D),(oF d≠""/\∃k,PySem.W.kitOne K Qch ED=So k/\op1 o d=.ok Qaq)\/op1 o d=.sk
def JrH:dJ .isStr "str":=λK d=>by cases d<;>first|exact .inl ⟨by simp[oF],_,by rfl,by rfl⟩|exact .inr rfl
def Jsr:dJ .isTup "tuple":=λK d=>by cases d<;>first|exact .inl ⟨by simp[oF],_,by rfl,by rfl⟩|exact .inr rfl
def JrX:dJ .isInt "int":=λK d=>by cases d<;>first|exact .inl ⟨by simp[oF],_,by rfl,by rfl⟩|exact .inr rfl
def JpZ:dJ .isBool "bool":=λK d=>by cases d<;>first|exact .inl ⟨by simp[oF],_,by rfl,by rfl⟩|exact .inr rfl
def JuY{T:A5}(hi:dJ o T):gA X Pc (λxs H Q=>∃x d,xs=[x,.ty T]/\Rep X.K H d x/\(op1 o d).Good B0 AC):=by
 rintro Y s Z H xs us Q I rv⟨x,d,e,r,h⟩;subst e;obtain⟨u1,B,rfl,F,C⟩:=vals2 rv;cases(show B=Value.type T from C);rcases hi X.K d with⟨hp,k,g,f⟩|e;rotate_left
 ·rw[e]at h;exact h.elim
 rw[f]at h;exact JoX I r F hp g λu=>⟨.bl k,H,I.kept (t':=u) (λ_ _ q=>q),rfl,Out.now h rfl⟩
def cIsi{T:A5}(hi:dJ o T)(C:Am)(hm:G.mg "isinstance"=No)(hy:G.mg y=No)(I:bootBuiltins y=So ED)(F:AH)(hg:gloB nm "isinstance"=To)(f:gloB nm y=To)(hn:y≠"__name__")(u:(y==("__debug__":Str))=Fo)
  (B:starEach [a,.Name y p2] WU=MM::starEach [.Name y p2] WU):PE X (.Call (.Name "isinstance" p1) [a,.Name y p2] [] pos) HW:=by refine PE.weak (rR (JuY hi) FN (by rw[C.mg];exact hm) PyProof.Rows.boot_isinstance (JC F (JC (Jts (v:=.ty T) (C.glo _ f) (by rw[C.mg];exact hy) I rfl hn u) kB rfl) B) Ah Ah B rfl) λZ H Q g=>?_;obtain⟨O,r,h⟩:=g;refine⟨O,r,'Ă'.imp λd hd v W s rv=>?_⟩;exact⟨v,d,rfl,rv,hd.mono NT λ_ q=>q.mono s⟩
def Jad:fillsNumberSlot G4 "mul"=pure Fo:=
 PySem.fillsNumberSlot_seq (id:="tuple.__mul__") (r:=So (.builtin "tuple.__rmul__")) PySem.F.slot_tuple_mul.lookup Ah PySem.F.slot_tuple_rmul.lookup Ah
def rZ:seqRepeat? G4=pure (So (.builtin "tuple.__mul__")):=by unfold seqRepeat?;rw[PySem.seqSlot_of (T:="tuple") (name:="__mul__") (id:="tuple.__mul__") PySem.F.slot_tuple_mul.lookup 'g',PySem.seqSlot_of (T:="tuple") (name:="__rmul__") (id:="tuple.__rmul__") PySem.F.slot_tuple_rmul.lookup 'g'];rfl
def JaG(a:Int)(t:Tok)(l:Addr)(items:BU)(n:Nat)(dd:CF)(sl:CY):
  Meets (Builtin.«int.__rmul__» ⟨[.int a t,.ref l],[]⟩) (λ_ R s=>s.heap.get? l=So {cls:=.type "tuple",dict:=dd,data:=.seq items n,slots:=sl}/\R (.ok (.ret Value.notImplemented)) s):=
 .of_wp λprog w A R s h=>by obtain⟨u,g,d,q,r⟩:=s;obtain⟨f,h⟩:=h;wp_walk;exact Dd
def Jkl(k:Int)(t:Tok)(l:Addr)(items:BU)(n:Nat)(dd:CF)(sl:CY)(h1:(decide (k< -(2^63))||decide (k≥2^63))=Fo)(h2:(items.isEmpty||k==1)=Fo)(h3:(decide (k<=0)||items.isEmpty)=Fo)
  (u:decide (Av*k>(2^63-1) / 8)=Fo) (F:Builtin.Tuple.tupleTooMany (Av*k)=Fo) (I:('Ԯ'.foldl (λf r=>f++r) #[]).size<=sizeLine):
  Meets (Builtin.«tuple.__mul__» Pk) (λ_ R s=>s.heap.get? l=So {cls:=.type "tuple",dict:=dd,data:=.seq items n,slots:=sl}/\R Sr {s with heap:=s.heap.push {cls:=Value.type "tuple",data:=Data.seq (List.foldl (λf r=>f++r) #[] 'Ԯ')},toks:=W7}):=
 .of_wp λprog w A R s h=>by
  obtain⟨hp,g,d,tk,os⟩:=s;obtain⟨q,h⟩:=h
  have f1:=pK;have f2:=mL;have f3:=iL;have B:=lL;have C:=kL
  wp_walk using zE q
  refine wpAny_ite_false (by rw[h1];rfl) ?_
  wp_walk using zE q
  refine wpAny_ite_false u ?_
  wp_walk using zE q
  exact Dd
theorem Juk{its:Az}{k:Int}{t:Tok}(hl:IsTup W6 l Ap)(hk:2<=k)(u:its≠[])(hz:AU*k.toNat<=sizeLine)
  (h:Q Dr {s with heap:=s.heap.push {cls:=.type "tuple",data:=.seq 'Մ'.flatten.toArray}}):wpAny As A (binaryOp .Mult BS (.int k t)) Q E s:=by
 obtain⟨⟨cls,C,data,sl⟩,q,I,n,hd⟩:=id hl;simp only at I hd;subst I hd;have hp:1<=AU:=by
  cases its with
  |nil=>exact absurd rfl u
  |cons a r=>simp
 have hkn:k.toNat<=sizeLine:=ZM (by calc k.toNat=1*k.toNat:=by lia
  _<=AU*k.toNat:=Nat.mul_le_mul_right _ hp) hz
 have sl16:sizeLine=16777216:=ZK;have B:k=(Ye:Int):=by lia
 have f:((BK:Nat):Int)*k=((AU*k.toNat:Nat):Int):=by rw[Zn,Int.natCast_mul,<-B]
 have g:List.foldl (λx1 x2=>x1++x2) #[] (List.replicate Ye Ap)='Մ'.flatten.toArray:=by have:=Jgm its Ye [];rw[mB]at this;exact this
 have e0:its.toArray.isEmpty=Fo:=by
  cases its with
  |nil=>exact absurd rfl u
  |cons a r=>simp
 refine zT (T:="tuple") (U:="int") AO Lm (λs'=>iG s' k t) Jad YT eI rZ Yd
  (sA eI (iG s k t) YQ R5 (JaG k t l Ap n C sl)
   ⟨q,rfl,Lm,sA YR Lm YI Sa (Jkl k t l Ap n C sl ?_ ?_ ?_ ?_ ?_ ?_) ⟨q,?_⟩⟩)
 ·simp only[ZF,ZP];lia
 ·rw[e0];simp only[jC,ZC];lia
 ·rw[e0];simp only[yE,ZP];lia
 ·rw[f,ZP];have:((AU*k.toNat:Nat):Int)<=16777216:=by lia
  lia
 ·simp only[Builtin.Tuple.tupleTooMany,ZP,f];lia
 ·rw[g,Zn,JmL,Nat.mul_comm];exact hz
 ·rw[g];exact h
def Jor:OpR X L9 (rD2 X .repT):=by
 rintro Y s Z H x y v u Q I rx ry⟨dx,dy,r1,r2,h⟩;cases dx<;>first|exact(show False from h).elim|(cases dy<;>first|exact(show False from h).elim|skip)
 rename_i J k;simp only[op2]at h;split at h
 ·rename_i g;simp only[Zc,Zp]at g;obtain⟨a,xs,rfl,h1,h2⟩:=r1;have e2:y=V.int k:=r2;subst e2;have F:=Hc;cases rx;obtain⟨t,rfl⟩:=ry;obtain⟨r,C,p1,_⟩:=I.tuple h1;have l2:=C.length;have B:r≠[]:=λz=>g.1.2 (h2.nil_iff.mp (C.nil_iff.mp z));have f:'կ'.flatten.length<=sizeLine:=by rw[JmL,F,Nat.mul_comm];exact uF g.2
  refine Juk p1 g.1.1 B (by rw[<-l2,F];exact uF g.2) ?_;obtain⟨s1,w1⟩:=nE (K:=X.K) I.fresh (JiC h2 Ye);refine⟨.ref Aa,_,I.laid (t':=W7) (o:=.tup 'կ'.flatten) (λb ob q=>Zd _ q) (Zj _) ?_,rfl,h _ _ s1 w1⟩;exact⟨⟨f,nJ⟩,_,C.rep Ye,IsTup.new _ _⟩
 ·exact h.elim
def Jwp{a:Addr}(f:ModT K y a){its:Az}{sl:CY}(v:K.lookup a=So ⟨.type "tuple",No,.seq Ap n,sl⟩)(hz:AU<=1000)(r:GU)(rs:∀H,Reps K H J xs)(H:Hp):Rep K H Bt Aw:=
 ⟨a,xs,rfl,.inr ⟨y,_,Ap,n,f,v,rfl,rfl,rfl,uF (ZM (by simpa using hz) AO),by simpa using r⟩,rs H⟩
def JuZ:PS X Qbx (tS X U M H0 .cnt):=PS.weak JhD λD Z H⟨O,e,h⟩=>h Z H e (Chg.of Ea)
end
noncomputable def vF (es:List (Int×Value)):List Str:=es.map λe=>strOf e.2
def TS(prog:Bk)(w:AY)(lb:Bool)(h:Heap)(a:Addr)(ks:Ad):Prop:=
 ∃o es ep t,(h.get? a=So o/\o.ExactSet/\o.data=.set es ep t)/\ElemsOf 'ú' Yc/\(t.fits W8=To/\es.size<scanBound)/\t.led=lb/\(es.size≠0->t.plain=Fo)/\(vF Yc).Perm ks/\ks.Nodup
def TS.stay(x:Qay)(k:∀o,h.get? a=So o->h'.get? a=So o):TS prog w lb h' a ks:=
 let⟨o,es,ep,t,⟨e,g⟩,f⟩:=x
 ⟨o,es,ep,t,⟨k o e,g⟩,f⟩
def TS.there(x:Qay):∃o,h.get? a=So o:=let⟨o,_,_,_,⟨e,_⟩,_⟩:=x;⟨o,e⟩
def JnY(t:Er)(n:Nat):(t.orStandIn n).led=t.led:=by unfold SetTable.orStandIn;split<;>rfl
def Jrx(t:Er)(es:IX)(h:Int)(x:An):(layNew t es h x).2.1.led=t.led:=by
 unfold layNew;split
 ·exact JnY ..
 ·rfl
def Jlo(t:Er)(es:IX)(n:Nat):(relayAll t es n).2.1.led=t.led/\(t.plain=Fo->(relayAll t es n).2.1.plain=Fo):=by
 unfold relayAll;split
 ·rename_i g f q;have e:g.led=t.led/\g.plain=t.plain:=by
   unfold SetTable.relaid SetTable.laid at q;cases r:SetTable.layClean (SetTable.sizeAbove n-1) (es.map (·.1))with
   |none=>rw[r]at q;cases q
   |some u=>rw[r]at q;cases q;exact Ce
  dsimp only;split
  ·exact⟨e.1,λz=>e.2.trans z⟩
  ·exact MR
 ·exact MR
def tV{k:Str}{v:An}(h:'ú'.is k v=To):∃t,v=.str k t:=Value.isStrOf_shape h
def key_of{es:List (Int×Value)}(h:ElemsOf 'ú' es)(k:Str):k∈vF es↔∃e∈es,'ú'.is k e.2=To:=by
 unfold vF;rw[ZE];constructor
 ·rintro⟨e,g,rfl⟩;obtain⟨⟨r,f,_⟩,_⟩:=h e g;obtain⟨t,q⟩:=tV f;refine⟨e,g,?_⟩;rw[q]at f⊢;exact f
 ·rintro⟨e,g,f⟩;obtain⟨t,q⟩:=tV f;exact⟨e,g,by rw[q];rfl⟩
def Jjy{o:Obj}{f:IX}{t t':Er}(F:s.heap.get? a=So o)(B:o.ExactSet)(r:o.data=.set es ep t)
  (h1:ElemsOf 'ú' f.toList) (C:t'.fits f.size=To) (u:f.size<scanBound) (I:t'.led=lb) (U:t'.plain=Fo) (h6:(vF f.toList).Perm ks) (h7:ks.Nodup):
  TS prog w lb '乓' a ks/\(s.heap.update a Sj).get? a=So {o with data:=.set f (ep+1) t'}:=by
 have g:'乓'.get? a=So {o with data:=.set f (ep+1) t'}:=by have q:=ZQ Sj F (by rw[putSet_of f t' r];rfl);rwa[putSet_of f t' r]at q
 exact⟨⟨_,f,ep+1,t',⟨g,B,rfl⟩,h1,⟨C,u⟩,I,λ_=>U,h6,h7⟩,g⟩
def JnW{b:Bool}{Q:Do}(h:Q () s):wpAny As A (match b with|true=>rule "set.scan.the-table-gave-way"|false=>pure ()) Q E s:=by
 cases b
 ·exact Zb h
 ·exact uA h
theorem Jut{tk:Tok}{Q:E1}(hS:TS prog w lb W6 a ks)(hb:BJ+1<scanBound)
  (h:∀b h',Heap.SameBut a W6 h'->TS prog w lb h' a (if x∈ks then ks else ks++[x])->Q b {s with heap:=h'}):wpAny As A (setAddHashed a FG (hashStr w x)) Q E s:=by
 obtain⟨o,es,ep,t,⟨U,hx,hd⟩,f,⟨hf,hz⟩,hl,hp,hk,hn⟩:=hS;have hlen:es.size=BJ:=by have:=hk.length_eq;simpa[vF]using this
 have F:'ú'.is x FG=To:=by simp[PySem.strKind,Value.isStrOf]
 have B:x∈ks↔∃e∈es.toList,'ú'.is x e.2=To:=(hk.mem_iff).symm.trans (key_of f x);have hh:hashStr w x='ú'.hash x:=rfl;rw[hh];unfold setAddHashed setAddHashedIn;refine vA (Za (sI U hd hf ?_));dsimp only;rw[byScan_of rfl hz f];simp only[if_true];unfold setAddByScan;refine Za (Za (uA (Za (wpAny_setScan_of F U hd hf f ?_))));cases hr:List.findIdx? (λe=>'ú'.is x e.2) Yc with
 |some j=>dsimp only;obtain⟨hj,hpj,_⟩:=List.findIdx?_eq_some_iff_getElem.mp hr;have g:x∈ks:=B.mpr ⟨_,oK hj,hpj⟩;refine Zb (Zb ?_);have q:=h Fo W6 (Heap.SameBut.refl a W6) (by rw[if_pos g];exact⟨o,es,ep,t,⟨U,hx,hd⟩,f,⟨hf,hz⟩,hl,hp,hk,hn⟩);cases s;exact q
 |none=>
  dsimp only;have g:¬x∈ks:=λz=>by obtain⟨e,he,hp⟩:=B.mp z;have:=List.findIdx?_eq_none_iff.mp hr e he;rw[hp]at this;cases this
  rw[if_neg g]at h;have a1:=layNew_perm t es ('ú'.hash x) FG;have a2:=layNew_fits t es ('ú'.hash x) FG;have a3:=Jrx t es ('ú'.hash x) FG;generalize layNew t es ('ú'.hash x) FG=L at a1 a2 a3⊢;obtain⟨es1,t1,wd,gv⟩:=L;dsimp only at a1 a2 a3⊢;rw[Array.toList_push]at a1;have b1:ElemsOf 'ú' es1.toList:=(f.push F rfl).perm a1;have b2:(vF es1.toList).Perm (ks++[x]):=by have c1:=a1.map λe:Int×Value=>strOf e.2;rw[lB]at c1;exact c1.trans (hk.append_right [x])
  have b3:(ks++[x]).Nodup:=by rw[gF];refine⟨hn,by simp,λu hu v hv e=>?_⟩;rw[Zx]at hv;subst hv e;exact g hu
  have b4:es1.size<scanBound:=by have:=b2.length_eq;simp only[vF,Ze,kD,Zy,oO]at this;lia
  refine Za (JnW ?_);have C:∀t2:SetTable,t2.led=lb->t2.plain=Fo->t2.fits es1.size=To->wpAny As A (do
    storeSet a es1 t2;if(!wd&&t2.tooFull)=To then do
      (match(relayAll t2 es1 FX).2.2 with|true=>rule "set.scan.the-table-gave-way"|false=>pure ());storeSet a (relayAll t2 es1 FX).1 (relayAll t2 es1 FX).2.1;pure (So To)
     else pure (So To)) (λr s'=>wpAny As A (match r with
      |some I=>pure I
      |none=>setAddHashedIn a FG ('ú'.hash x) 99999) Q E s') E s:=by
   intro t2 c1 c2 c3;refine Za (wpAny_storeSet_of U hd ?_ (fits_of_scanBound b4));obtain⟨T1,g1⟩:=Jjy (s:=s) U hx hd b1 c3 b4 c1 c2 b2 b3;have u1:=fE W6 a (Obj.putSet es1 t2);split
   ·have d1:=relayAll_perm t2 es1 FX
    have d2:=relayAll_fits t2 es1 FX;have d3:=Jlo t2 es1 FX;generalize relayAll t2 es1 FX=R at d1 d2 d3⊢;obtain⟨es2,t3,gv2⟩:=R;dsimp only at d1 d2 d3⊢;refine Za (JnW ?_);have z2:es2.size=es1.size:=by simpa using d1.length_eq
    refine Za (wpAny_storeSet_of g1 rfl ?_ (fits_of_scanBound (by rw[z2];exact b4)));obtain⟨T2,_⟩:=Jjy (s:={s with heap:=s.heap.update a (Obj.putSet es1 t2)}) g1 hx rfl (b1.perm d1) d2 (by rw[z2];exact b4) (d3.1.trans c1) (d3.2 c2) ((d1.map _).trans b2) b3;exact Zb (Zb (h To _ (u1.trans (fE _ a _)) T2))
   ·exact Zb (Zb (h To _ u1 T1))
  split
  ·refine Za ?_;rw[hashByValue_scannable 8 (x:=.str x tk) rfl];refine Zb ?_;exact C _ QdC rfl (SetTable.fits_plain_off a2)
  ·rename_i np;refine Za (Zb ?_);simp only[if_true];exact C _ QdC (by simpa using np) a2
noncomputable def addS (ks:Ad) (x:Str):List Str:=if x∈ks then ks else ks++[x]
def metS (ws:Ad):List Str:=ws.foldl addS []
def JmM(ws:Ad)(x:Str):metS (ws++[x])=addS 'Ͻ' x:=by unfold metS;rw[List.foldl_append];rfl
def JmK(val:Nat->Str)(i:Nat):metS ((List.range AE).map val)=addS (metS ('ή'.map val)) Qas:=by rw[List.range_succ,lB];exact JmM _ _
def JoU(ws:Ad):∀(ks:Ad)(k:Str),k∈ws.foldl addS ks↔k∈ks\/k∈ws:=by
 induction ws with
 |nil=>intro ks k;simp
 |cons x ws f=>
  intro ks k;rw[iI,f];unfold addS;split
  ·rename_i h;constructor
   ·rintro(z|z)<;>simp[z]
   ·rintro(z|z)
    ·exact .inl z
    ·rcases Zf.mp z with rfl|z
     ·exact .inl h
     ·exact .inr z
  ·simp[or_assoc]
def JiR(ws:Ad)(k:Str):k∈metS ws↔k∈ws:=by rw[metS,JoU];simp
theorem JoO(ws:Ad):∀ks:List Str,'仌'.length<=BJ+Cb:=by
 induction ws with
 |nil=>intro ks;simp
 |cons x ws f=>
  intro ks;rw[iI];have:=f (addS ks x);have g:(addS ks x).length<=BJ+1:=by unfold addS;split<;>simp
  simp only[Zl];lia
def dY(ws:Ad):'Ͻ'.length<=Cb:=by have:=JoO ws [];simpa[metS]using this
section
variable{R:He}{I:Addr}{fp wr:A3}{G:Array GenState->Array GenState->Prop}{P:Nat->Value->Prop}{St:Nat->Shared->Prop}
theorem JrQ(C:WalksS prog w Xk I fp wr G n P St)(S:Addr)(u:S∉fp)(val:Nat->Str)(hval:∀i v,P i v->∃t,v=.str Qas t)(r:n+1<scanBound):
  ∀(k i:Nat)(s:Ak),n-i=k->i<=n->St i s->TS prog w lb W6 S (metS ('ή'.map val))->
   (∀f,Moved (S::wr) G s f->TS prog w lb Qb8 S (metS ('Ջ'.map val))->R Q6 f)->codeAny As A (.builtin "set.update.loop" ⟨[.ref S,.ref I],[]⟩) R s:=by
 have notin:S∉wr:=λh=>u (C.sub _ h);have g:∀b∈wr,b∈S::wr:=λb r=>ZN _ r;intro k;induction k with
 |zero=>
  intro i s hk hi q hS hR;obtain rfl:i=n:=by lia
  refine tE c5 ?_;rw[xG sT _];show wpAny _ Xk (pyNext (.ref I)>>=_) _ _ s;refine Za (C.done s _ _ q λf hm=>?_);show wpAny _ Xk (ret Xb) _ _ f;exact Zb (hR f (hm.mono g) (hS.stay λo e=>hm.heap S o notin e))
 |succ k ih=>
  intro i s hk hi q hS hR;have B:i<n:=by lia
  refine tE c5 ?_;rw[xG sT _];show wpAny _ Xk (pyNext (.ref I)>>=_) _ _ s;refine Za (C.item i s _ _ B q λv f hP hst' hm=>?_);obtain⟨t,rfl⟩:=hval i v hP;have hS':=hS.stay λo e=>hm.heap S o notin e;show wpAny _ Xk (holding [Value.str Qas t] (setAdd S (.str Qas t))>>=_) _ _ f;refine Za (vA ?_);unfold setAdd;refine vA (Za ('ú'.pyHash (k:=val i) (by simp[PySem.strKind,Value.isStrOf]) ?_));have U:(metS ('ή'.map val)).length+1<scanBound:=by have:=dY ('ή'.map val);simp only[Ze,uK]at this;lia
  refine Jut (s:={f with toks:=f.toks+1}) hS' U λ_ h' hsb hS2=>?_;have hSi:TS prog w lb h' S (metS ((List.range AE).map val)):=by rw[JmK];exact hS2
  refine Zb ⟨xD sT _,ih AE _ Ae B (C.frame _ f _ _ hst' (iC _) λb r o e=>?_) hSi λs'' hm'' hS''=>?_⟩
  ·rw[hsb.2 b (λh:b=S=>u (by rw[<-h];exact r))];exact e
  ·refine hR s'' (Moved.trans C.gtrans ((hm.mono g).then_heap (iC _) λb o r e=>?_) hm'') hS'';rw[hsb.2 b (λh:b=S=>r (by rw[h];exact mG))];exact e
end
noncomputable abbrev byT (w:AY):Bool:=w.params.followText "set-order"
noncomputable abbrev newS (w:AY):Obj:={cls:=.type "set",dict:=No,data:=.set #[] 0 (.fresh 0 0 (!byT w))}
def Jth(a:An)(h:Q Dr {s with heap:=s.heap.push (newS w)}):codeAny As A (.call (.builtin "set.__new__") R0) (wants Q E) s:=by refine codeAny_of_tree ?_;show wpAny _ Xk (do checkBuiltinCall "set.__new__" R0;again (.builtin "set.__new__" R0)) _ _ s;refine Za (wpAny_of_eq (F.newCall_set_1 a) (Zb ⟨xD F.plain_set_new _,tE F.entry_set_new ?_⟩));rw[xG F.plain_set_new _];unfold Builtin.«set.__new__» Builtin.Frozenset.newClass;have sub:=sub_set_self;obtain⟨q,g,d,r,f⟩:=s;dsimp only;wp_walk;refine pI (Zb ?_);dsimp only;simp only[newObj];refine Za (wpAny_alloc (Zb (Zb h)))
def JlP{ws:Ad}(hh:A8)(hl:ND)(hi:StrsAre items.toList ws)(hb:Av+1<scanBound)
  (h:∀(h':Heap)(tk:Nat),TS prog w (!byT w) h' Aa (metS ws)->(∀b o,b<Aa->s.heap.get? b=So o->h'.get? b=So o)->Q Dr {s with heap:=h',toks:=tk}):
  wpAny As A (call HS bQ) Q E s:=by
 obtain⟨c,tl,hmro⟩:=F.called_set.mro;have hmade:=F.called_set.made;have hsub:=F.called_set.sub;refine wpAny_call (codeAny_of_tree ?_);show wpAny _ _ (callAny HS _) _ _ _;refine Zb ⟨Code.quiet_builtin _ Ah,tE F.entry_type_call ?_⟩;rw[Around.under_plain (weight_type_call_type "set" bQ []) rfl];have h1:=F.called_set.notType;have h2:=F.called_set.canCreate;have hct:=F.typeCall_set_1 BS;repeat(any_goals(first|assumption|wp_step))
 refine dG (Jth BS (E:=E) (Q:=λobj C=>obj=.ref Aa/\C={s with heap:=s.heap.push (newS w)}) Ce) λr C hr=>?_;cases r with
 |error e=>exact hr
 |ok fl=>
  cases fl with
  |ret obj=>
   obtain⟨rfl,rfl⟩:=hr;have hS:'Ȑ'.get? Aa=So Qc6:=Zi _ rfl;have hT:Shared.TypeIs {s with heap:=s.heap.push (newS w)} 'Ú' "set":=⟨_,hS,rfl⟩;have hli:=F.called_set.init.lookup;have hbi:=F.called_set.init.bind Dr;repeat(any_goals(first|assumption|wp_step))
   refine dG (codeAny_call_builtin (R:=wants (λr B=>r=.none/\∃h' tk,B={s with heap:=h',toks:=tk}/\TS prog w (!byT w) h' Aa (metS ws)/\
     (∀b o,b<Aa->s.heap.get? b=So o->h'.get? b=So o)) E) F.called_set.init.plain F.entry_set_init (check_set_init_1 hT ?_)) λr₂ B f=>?_
   ·obtain⟨ol,hol,hcl,nl,hdl⟩:=hl;obtain⟨ocls,U,odata,u⟩:=ol;simp only at hcl hdl;subst hcl;subst hdl;have hol':'Ȑ'.get? l=So {cls:=.type "list",dict:=U,data:=.seq items nl,slots:=u}:=Zd _ hol;have hsls:=F.sub_list_set;have hslf:=F.sub_list_frozenset;have hne:(Value.type "list"==Value.type "dict")=Fo:=by decide
    have hl1:'Ȑ'.IsList l items:=⟨_,hol',rfl,nl,rfl⟩;unfold Builtin.«set.__init__» noKeywords Builtin.Frozenset.updateFrom;generalize hPI:pyIter=PI;wp_walk;subst hPI;refine uI hl1 (Za (wpAny_runValue ?_));have hlS:l<Aa:=Zk hol;have hh3:A.in1.in1.in1.handled=No:=by simp[hh]
    have hneI:l≠(s.heap.push Qc6).objs.size:=by rw[ZO];exact Zr (eC hlS)
    have hSf:Aa∉['Ȑ'.objs.size,l]:=by rw[ZO];simp only[Zf,ZA,eA,not_or];exact⟨Zr Yu,iD hlS⟩
    have hlen:Av=Cb:=by have:=hi.strs;rw[<-this];simp
    have hval:∀(i:Nat)(v:An),items[i]? =So v->∃t,v=.str ((λi=>ws.getD i ⟨#[]⟩) i) t:=λi v hv=>by
     have hv':items.toList[i]? =So v:=by rw[yG];exact hv
     obtain⟨x,t,e⟩:=hi.all v (tL hv');have q:=xB (λl:List Str=>l[i]?) hi.strs;simp only[oB,hv',Option.map_some]at q;refine⟨t,?_⟩;rw[e]at q⊢;simp only[pL,<-q];rfl
    have hws:(List.range Av).map (λi=>ws.getD i ⟨#[]⟩)=ws:=by rw[hlen];refine List.ext_getElem Af λi h1 h2=>?_;simp[pL,h2]
    refine JrQ (lb:=!byT w) ((Walks.list hh3 _ l hneI items).toS) Aa hSf (λi=>ws.getD i ⟨#[]⟩) hval hb (Av-0) 0 _ Ae WV ⟨Dj,(hl1.push _)⟩ ?hS0 ?hR;case hS0=>
     refine⟨newS w,#[],0,.fresh 0 0 (!byT w),⟨Zd _ hS,Ma,rfl⟩,λe he=>by simp at he,⟨rfl,by decide⟩,rfl,λz=>absurd rfl z,eO _,YZ⟩
    case hR=>
     intro s' hm g;rw[hws]at g;obtain⟨h',g',d',tk',os'⟩:=s';have eg:g'=s.gens:=hm.gens;have ed:d'=s.drawn:=hm.drawn;have eo:os'=s.os:=hm.os;subst eg;subst ed;subst eo;show wpAny _ _ _ _ _ _;refine Zb ?_;show wpAny _ _ (ret Xb) _ _ _;refine Zb ⟨rfl,h',tk',rfl,g,λb o hb e=>?_⟩;have hb1:b≠Aa:=Zr hb;have hb2:b≠(s.heap.push Qc6).objs.size:=by rw[ZO];exact Zr (eC hb)
     exact hm.heap b o (by simp only[Zf,ZA,eA,not_or];exact⟨hb1,hb2⟩) (Zd _ Ex)
   ·cases r₂ with
    |error e=>exact f
    |ok I=>
     cases I with
     |ret r=>
      obtain⟨rfl,h',tk,rfl,g,hk'⟩:=f;repeat(any_goals(first|assumption|wp_step))
      exact h _ _ g hk'
     |_=>exact f.elim
  |_=>exact hr.elim
def Jso:entryFor table "set.__iter__"=So Builtin.«frozenset.__iter__»:=entryFor_alias (id':="frozenset.__iter__") (by kernel_rfl) rfl Ah (by kernel_rfl)
def fR:entryFor table "set_iterator.__next__"=So Builtin.«set_iterator.__next__»:=entryFor_of_tree (by kernel_rfl)
def at_next:Slot "set_iterator" "__next__" "set_iterator.__next__":=.of (owner:="set_iterator") (n:="__next__") (by rw[iO,nO];kernel_rfl) Ah Ah Ah (by first|exact .inl Ah|exact .inr Ah) (by rw[dO];kernel_rfl)
def JiA:Manifest.owners.lookup (String.ofList 'ǔ'.reverse)=So Manifest.sig_set_iterator:=by kernel_rfl
def dS(a:An):argsOk "set_iterator.__next__" bI:=by unfold argsOk;rw[signature?_of (id:="set_iterator.__next__") (n:=['_','_','t','x','e','n','_','_']) (o:='ǔ') (by kernel_rfl) JiA];kernel_rfl
def Jne{src:Source}{Q:Nat->Shared->Prop}(f:n≠0)(h:∀i d,i<n->Q i {s with drawn:=d}):wpAny As A (choose src n) Q E s:=λg p _=>⟨f,h _ _ (Nat.mod_lt _ (Nat.pos_of_ne_zero f))⟩
theorem iZ:∀(xs:List α)(i:Nat)(h:i<Ac),(xs[i]::xs.eraseIdx i).Perm xs
 |x::xs,0,h=>eO _
 |x::xs,i+1,h=>by
  simp only[List.getElem_cons_succ,List.eraseIdx_cons_succ]
  exact(List.Perm.swap ..).trans ((iZ xs i (by simpa using h)).cons x)
theorem JjA:∀(n:Nat)(xs:List α)(s:Ak)(Q:List α->Shared->Prop),Ac=n->(∀f d,f.Perm xs->Q f {s with drawn:=d})->wpAny As A (drawOrder n xs) Q E s
 |0,[],s,Q,_,h=>by
  unfold drawOrder
  refine Zb ?_
  have:=h [] X9 (eO _)
  cases s;exact this
 |n+1,x::xs,s,Q,hl,h=>by
  unfold drawOrder
  refine Za (Jne Af λi d g=>?_)
  have r:(x::xs)[i]? =So (x::xs)[i]:=Zq g
  rw[r]
  dsimp only
  refine Za (JjA n _ _ _ (by rw[List.length_eraseIdx_of_lt g];lia) λf q u=>Zb ?_)
  refine h _ q ?_
  exact(List.Perm.cons _ u).trans (iZ _ i g)
 |0,x::xs,s,Q,hl,_=>by simp at hl
 |n+1,[],s,Q,hl,_=>by simp at hl
theorem Jhu(next:Nat->Nat):∀(fuel k:Nat)(left:List α)(out:Array α),left.length=fuel->(pickOrder.go next fuel k left out).toList.Perm (out.toList++left)
 |0,k,left,out,h=>by
  have:left=[]:=List.length_eq_zero_iff.mp h
  subst this
  simp[pickOrder.go]
 |fuel+1,k,left,out,h=>by
  have f:next k % left.length<left.length:=Nat.mod_lt _ Ae
  unfold pickOrder.go
  rw[Zq f]
  dsimp only
  refine(Jhu next fuel AV _ _ (by rw[List.length_eraseIdx_of_lt f];lia)).trans ?_
  rw[Array.toList_push,fC]
  exact(List.Perm.append_left _ (iZ _ _ f))
def IsSI(h:Heap)(it:Addr)(first:An)(i:Nat)(a:Addr)(n ep:Nat):Prop:=h.get? it=So {cls:=.type "set_iterator",data:=.fields #[first,.int i 0,.ref a,.int n 0,.int ep 0]}
structure SetAt(h:Heap)(a:Addr)(o:Obj)(es:IX)(ep:Nat)(t:Er):Prop where
 ho:h.get? a=So o
 hx:o.ExactSet
 hd:o.data=.set es ep t
 hf:t.fits W8=To
def SetAt.stay{o:Obj}{t:Er}(x:SetAt h a o es ep t)(k:∀o,h.get? a=So o->h'.get? a=So o):SetAt h' a o es ep t:=⟨k _ x.ho,x.hx,x.hd,x.hf⟩
section
variable{o:Obj}{t:Er}
def IsSI.ty{h:Heap}{first:An}{i n:Nat}{s:Ak}(x:S7):s.TypeIs A7 "set_iterator":=⟨_,x,rfl⟩
def Jnk{Q:Fin->Shared->Prop}(g:A8)(f:∀h' e,(∀b o,s.heap.get? b=So o->h'.get? b=So o)->(∃o,h'.get? e=So o/\o.cls=.type "StopIteration")->E Iu {s with heap:=h'}):
  wpAny As A (do raiseNew (<-newExc R6 [])) Q E s:=by refine Za ?_;simp only[newExc,newTuple];refine Za (ZR ?_ (by size_fits));refine Za (m:=firstArgMember _ _) (wpAny_of_eq (a:=Xb) (by first|rfl|(simp only[firstArgMember];rfl)) (ZR ?_ (by size_fits)));delta raiseNew;refine Za (wpAny_handled ?_);rw[g];refine Za (Zb (wpAny_throw ?_));exact f _ _ OR Ko
def Jgj{nx:Nat}{x:An}{Q:Eg}(hit:U8)(g:GG)(f:∀(B:AZ)(r:Ls),r (So (x,nx)) s->wpAny As Xk Mg r B s)
  (u:∀h',IsSI h' it (.int nx 0) AE a W8 ep->Heap.SameBut it W6 h'->Q (So x) {s with heap:=h'}):wpAny As A EK Q E s:=by unfold pyNext;refine Za (xE (ZJ (name:=oS "__next__") (hit.ty (h:=W6)) at_next (ZI at_next (hit.ty (h:=W6)) fR ?_ (dS _))));show wpAny _ _ (fieldsOf A7>>=_) _ _ s;refine Za (zH hit rfl ?_);show wpAny _ _ (setEntries a>>=_) _ _ s;refine Za (qL g.ho g.hd g.hf ?_);show wpAny _ _ (if(((W8:Nat):Int)!=(W8:Int))=To then _ else _) _ _ s;rw[if_neg 'j'];show wpAny _ _ (setNext a sl i ep>>=_) _ _ s;refine Za (f _ _ ?_);refine Za (kC hit rfl Af ?_);have q:(s.heap.update it (Obj.mapFields (·.setIfInBounds 0 (rawInt (nx:Int))))).get? it=So {cls:=.type "set_iterator",data:=.fields #[.int nx 0,.int i 0,.ref a,.int W8 0,.int ep 0]}:=ZQ _ hit rfl;refine Za (kC q rfl Af (Zb ⟨x,rfl,Zb (u _ ?_ ((fE ..).trans (fE ..)))⟩));exact ZQ _ q rfl
def JfY{Q:Eg}(U:A8)(hit:U8)(r:GG)(g:∀(E':AZ)(u:Ls),u No s->wpAny As Xk Mg u E' s)
  (I:∀h',(∀b o,b≠it->s.heap.get? b=So o->h'.get? b=So o)->Q No {s with heap:=h'}):wpAny As A EK Q E s:=by unfold pyNext;refine Za (xE (ZJ (name:=oS "__next__") (hit.ty (h:=W6)) at_next (ZI at_next (hit.ty (h:=W6)) fR ?_ (dS _))));show wpAny _ _ (fieldsOf A7>>=_) _ _ s;refine Za (zH hit rfl ?_);show wpAny _ _ (setEntries a>>=_) _ _ s;refine Za (qL r.ho r.hd r.hf ?_);show wpAny _ _ (if(((W8:Nat):Int)!=(W8:Int))=To then _ else _) _ _ s;rw[if_neg 'j'];show wpAny _ _ (setNext a sl i ep>>=_) _ _ s;refine Za (g _ _ ?_);refine Za (kC hit rfl Af ?_);refine Jnk U λh' e B C=>?_;obtain⟨F,q,f⟩:=C;refine Za (vE (T:="StopIteration") (b:=To) ⟨F,q,f⟩ fO (Zb (I h' λb o hb e=>B b o ?_)));exact(ZG _ _ E4).trans e
def JkI{tp:Addr}{ord:BU}{e:Int×Value}{Q:Eg}(hit:UC)(f:GG)(g:s.heap.get? tp=So {cls:=.type "tuple",data:=.seq ord})(hj:ord[i]? =So (.int (j:Int) 0))(he:es[j]? =So e)
  (hQ:∀h',IsSI h' it (.ref tp) AE a W8 ep->Heap.SameBut it W6 h'->Q (So e.2) {s with heap:=h'}):wpAny As A EK Q E s:=by
 unfold pyNext;refine Za (xE (ZJ (name:=oS "__next__") (hit.ty (h:=W6)) at_next (ZI at_next (hit.ty (h:=W6)) fR ?_ (dS _))));show wpAny _ _ (fieldsOf A7>>=_) _ _ s;refine Za (zH hit rfl ?_);show wpAny _ _ (setEntries a>>=_) _ _ s;refine Za (qL f.ho f.hd f.hf ?_);show wpAny _ _ (if(((W8:Nat):Int)!=(W8:Int))=To then _ else _) _ _ s;rw[if_neg 'j'];show wpAny _ _ (seqItems? (.ref tp)>>=_) _ _ s;refine Za (uB g rfl ?_);simp only[dC,hj];refine Za ?_;unfold setNextDrawn;refine Za (sI f.ho f.hd f.hf ?_);simp only[bne_self_eq_false,Zh,Zo,he];first|refine Za (Zb (Zb ?_))|refine Zb ?_
 refine Za (kC hit rfl Af (Zb ⟨e.2,rfl,Zb (hQ _ ?_ (fE ..))⟩));exact ZQ _ hit rfl
def Jer{tp:Addr}{ord:BU}{Q:Eg}(I:A8)(hit:UC)(r:GG)(q:s.heap.get? tp=So {cls:=.type "tuple",data:=.seq ord})(hj:ord[i]? =No)
  (hQ:∀h',(∀b o,b≠it->s.heap.get? b=So o->h'.get? b=So o)->Q No {s with heap:=h'}):wpAny As A EK Q E s:=by unfold pyNext;refine Za (xE (ZJ (name:=oS "__next__") (hit.ty (h:=W6)) at_next (ZI at_next (hit.ty (h:=W6)) fR ?_ (dS _))));show wpAny _ _ (fieldsOf A7>>=_) _ _ s;refine Za (zH hit rfl ?_);show wpAny _ _ (setEntries a>>=_) _ _ s;refine Za (qL r.ho r.hd r.hf ?_);show wpAny _ _ (if(((W8:Nat):Int)!=(W8:Int))=To then _ else _) _ _ s;rw[if_neg 'j'];show wpAny _ _ (seqItems? (.ref tp)>>=_) _ _ s;refine Za (uB q rfl ?_);simp only[dC,hj];refine Za (kC hit rfl Af ?_);have F:(s.heap.update it (Obj.mapFields (·.setIfInBounds 0 (rawInt 0)))).get? it=So {cls:=.type "set_iterator",data:=.fields #[.int 0 0,.int i 0,.ref a,.int W8 0,.int ep 0]}:=ZQ _ hit rfl;refine Za (kC F rfl Af ?_);refine Jnk I λh' e u B=>?_;obtain⟨C,g,f⟩:=B;refine Za (vE (T:="StopIteration") (b:=To) ⟨C,g,f⟩ fO (Zb (hQ h' λb o hb e=>u b o ?_)));exact(ZG _ _ E4).trans ('ɦ'.trans e)
def Jmt(f:GG)(g:byT w=To)(r:AZ)(q:Ls)(h:q (((pickOrder Kr es)[i]?).map λe=>(e.2,sl)) s):wpAny As A Mg q r s:=by
 unfold setNext;refine Za (sI f.ho f.hd f.hf ?_);unfold setsByText;refine Za (Za (pI (Zb ?_)));show wpAny _ _ (if byT w=To then _ else _) _ _ s;rw[if_pos g];simp only[bne_self_eq_false,Zh,Zo];first|refine Za (Zb ?_)|skip
 unfold setWalk;refine Za (Za (sI f.ho f.hd f.hf ?_));unfold setsByText;refine Za (Za (pI (Zb ?_)));show wpAny _ _ (if byT w=To then _ else _) _ _ s;rw[if_pos g];refine Za (pI (Zb ?_));exact Zb h
def Jqg(f:GG)(q:byT w=Fo)(h1:es.size<=1)(r:es.size=0\/t.led=To)(C:AZ)(g:Ls)
  (h:g (match es[SetTable.below QcK sl]?,t.place[SetTable.below QcK sl]? with
   |some (_,x),So j=>So (x,j+1)
   |_,_=>No) s):wpAny As A Mg g C s:=by
 unfold setNext;refine Za (sI f.ho f.hd f.hf ?_);unfold setsByText;refine Za (Za (pI (Zb ?_)));show wpAny _ _ (if byT w=To then _ else _) _ _ s;rw[if_neg (by rw[q];decide)];have B:(!t.plain&&decide (W8>1))=Fo:=by rw[Zt 'c',dI]
 show wpAny _ _ (if(!t.plain&&decide (W8>1))=To then _ else _) _ _ s;rw[if_neg (by rw[B];decide)];have u:(!t.led&&!es.isEmpty)=Fo:=by
  rcases r with z|z
  ·have:es.isEmpty=To:=by simpa[Array.isEmpty]using z
   rw[this];simp
  ·rw[z];rfl
 show wpAny _ _ ((if(!t.led&&!es.isEmpty)=To then _ else _)>>=_) _ _ s;rw[if_neg (by rw[u];decide)];refine Za (Zb (Zb h))
end
def JoH:entryFor table "set_iterator.__iter__"=So Builtin.«dict_keyiterator.__iter__»:=entryFor_alias (id':="dict_keyiterator.__iter__") (by kernel_rfl) rfl Ah (by kernel_rfl)
def JiW:Slot "set_iterator" "__iter__" "set_iterator.__iter__":=.of (owner:="set_iterator") (n:="__iter__") (by rw[iO,nO];kernel_rfl) Ah Ah Ah (by first|exact .inl Ah|exact .inr Ah) (by rw[dO];kernel_rfl)
def Jky(a:An):argsOk "set_iterator.__iter__" bI:=by unfold argsOk;rw[signature?_of (id:="set_iterator.__iter__") (n:=['_','_','r','e','t','i','_','_']) (o:='ǔ') (by kernel_rfl) JiA];kernel_rfl
section
variable{o:Obj}{t:Er}
def wY{first:An}(hit:S7)(h:Q A7 s):wpAny As A (pyIter A7) Q E s:=by refine wpAny_pyIter_slot (hit.ty (h:=W6)) JiW (ZI JiW (hit.ty (h:=W6)) JoH ?_ (Jky _));show wpAny _ _ (ret A7) _ _ s;exact Zb ⟨_,rfl,"set_iterator",_,(hit.ty (h:=W6)),at_next.lookup,h⟩
def Jnz(hh:A8)(I:byT w=To)(C:a≠it):Walks prog w A it [it,a] [it] ('ϰ'.toList.map (·.2)).length (λi v=>('ϰ'.toList.map (·.2))[i]? =So v)
  (λi h=>IsSI h it (.int (0:Nat) 0) i a W8 ep/\SetAt h a o es ep t)where
 sub:=λb f=>by simp at f;simp[f]
 frame:=λi h h' st F=>⟨F it Af _ st.1,st.2.stay λo e=>F a Af o e⟩
 item:=λi s Q E hi st r=>by
  have g:i<(pickOrder Kr es).size:=by simpa using hi
  refine Jgj (sl:=0) (nx:=0) (x:=(pickOrder Kr es)[i].2) st.1 st.2 (λu B q=>Jmt st.2 I u B ?_) λh' g1 U=>?_
  ·rw[dF g];exact q
  ·refine r _ h' W7 ?_ ⟨g1,st.2.stay λo e=>(U.2 a C).trans e⟩ λb o f e=>(U.2 b λz=>f (by simp[z])).trans e
   rw[oB,yG,dF g];rfl
 done:=λs Q E st r=>by
  refine JfY (sl:=0) hh st.1 st.2 (λu B q=>Jmt st.2 I u B ?_) λh' k=>r h' W7 λb o f e=>k b o (λz=>f (by simp[z])) e
  rw[Array.getElem?_eq_none 'j'];exact q
 self:=λi s Q E st h=>wY st.1 h
def Jkx{tp:Addr}{ord:AX}(hh:A8)(C:a≠it)(q:tp≠it)(I:∀j∈ord,j<W8):Walks prog w A it [it,a,tp] [it] (ord.map λj=>(es.getD j Qdh).2).length (λi v=>(ord.map λj=>(es.getD j Qdh).2)[i]? =So v)
  (λi h=>IsSI h it (.ref tp) i a W8 ep/\SetAt h a o es ep t/\h.get? tp=So {cls:=.type "tuple",data:=.seq (ord.map λj:Nat=>Value.int (j:Int) 0).toArray})where
 sub:=λb g=>by simp at g;simp[g]
 frame:=λi h h' st r=>⟨r it Af _ st.1,st.2.1.stay λo e=>r a Af o e,r tp Af _ st.2.2⟩
 item:=λi s Q E hi st u=>by
  have f:i<ord.length:=by simpa using hi
  have F:ord[i]<es.size:=I _ (oK f)
  refine JkI (j:=ord[i]) (e:=es[ord[i]]) st.1 st.2.1 st.2.2 (by simp[f]) (dF F) λh' U B=>?_
  refine u _ h' W7 ?_ ⟨U,st.2.1.stay λo e=>(B.2 a C).trans e,(B.2 tp q).trans st.2.2⟩ λb o g e=>(B.2 b λz=>g (by simp[z])).trans e
  rw[oB,Zq f]
  simp[Array.getD,F]
 done:=λs Q E st u=>Jer hh st.1 st.2.1 st.2.2 Af λh' k=>u h' W7 λb o g e=>k b o (λz=>g (by simp[z])) e
 self:=λi s Q E st h=>wY st.1 h
theorem JpO(hh:A8)(hT:byT w=Fo)(U:a≠it)(h1:es.size<=1)(hl:es.size=0\/t.led=To):Walks prog w A it [it,a] [it] (es.toList.map (·.2)).length (λi v=>(es.toList.map (·.2))[i]? =So v)
  (λi h=>IsSI h it (.int ((if i=0 then 0 else t.place.getD 0 0+1:Nat):Nat) 0) i a W8 ep/\SetAt h a o es ep t)where
 sub:=λb f=>by simp at f;simp[f]
 frame:=λi h h' st hk=>⟨hk it Af _ st.1,st.2.stay λo e=>hk a Af o e⟩
 item:=λi s Q E hi st u=>by
  have r:i<es.size:=by simpa using hi
  have i0:i=0:=by lia
  subst i0
  have hsz:es.size=1:=by lia
  have F:t.place.size=1:=by
   have:=st.2.hf;simp only[SetTable.fits,Zc,ZD]at this;lia
  have f:SetTable.below QcK 0=0:=by
   unfold SetTable.below;rw[F];simp[SetTable.below.go]
  refine Jgj (sl:=0) (nx:=t.place.getD 0 0+1) (x:=es[0].2) st.1 st.2 (λC I q=>Jqg st.2 hT h1 hl C I ?_) λh' g1 g2=>?_
  ·rw[f,dF r,dF (show 0<t.place.size by lia)]
   have:t.place.getD 0 0=t.place[0]:=by simp[Array.getD,F]
   rw[this]at q;exact q
  ·refine u _ h' W7 ?_ ⟨g1,st.2.stay λo e=>(g2.2 a U).trans e⟩ λb o f e=>(g2.2 b λz=>f (by simp[z])).trans e
   rw[oB,yG,dF r];rfl
 done:=λs Q E st u=>by
  rw[Ze,kD]at st;refine JfY hh st.1 st.2 (λC I q=>Jqg st.2 hT h1 hl C I ?_) λh' k=>u h' W7 λb o f e=>k b o (λz=>f (by simp[z])) e;have F:t.place.size=es.size:=by
   have:=st.2.hf;simp only[SetTable.fits,Zc,ZD]at this;exact this.1
  have g:es.size<=SetTable.below QcK (if es.size=0 then 0 else t.place.getD 0 0+1):=by
   by_cases z:es.size=0
   ·lia
   ·have z1:es.size=1:=by lia
    rw[if_neg z];have B:t.place.size=1:=by lia
    unfold SetTable.below;rw[B];have h0:t.place[0]? =So (t.place[0]'(by lia)):=dF Ae;simp[SetTable.below.go,h0,z1]
  rw[Array.getElem?_eq_none g];exact q
 self:=λi s Q E st h=>wY st.1 h
def JpB(hS:TS prog w (!byT w) W6 a ks)(hk:BJ<=4000)
  (hQ:∀(h1:Heap)(d:Drawn)(I:Addr)(fp:A3)(vs:Az)(ks':Ad)(St:Fn),(∀b o,s.heap.get? b=So o->h1.get? b=So o)->(∀b∈fp,b=a\/s.heap.objs.size<=b)->Aa<=I->
   (∀A':Around,A'.handled=No->Walks prog w A' I fp [I] Bg (λi v=>vs[i]? =So v) St)->St 0 h1->StrsAre vs ks'->ks'.Perm ks->Q (.ref I) {s with heap:=h1,drawn:=d}):wpAny As A HG Q E s:=by
 obtain⟨o,es,ep,t,⟨f,hx,hd⟩,hel,⟨hf,hz⟩,hl,hp,hkp,hn⟩:=hS;have sa:SetAt W6 a o es ep t:=⟨f,hx,hd,hf⟩;have hty:s.TypeIs Aw "set":=⟨o,f,hx.1⟩;have g:a<Aa:=Zk f;have allS:∀e∈es.toList,∃x u,e.2=.str x u:=λe he=>by obtain⟨⟨k,hk,_⟩,_⟩:=hel e he;obtain⟨u,q⟩:=tV hk;exact⟨k,u,q⟩
 have r:∀l:List (Int×Value),l.Perm es.toList->StrsAre (l.map (·.2)) ((l.map (·.2)).map strOf)/\((l.map (·.2)).map strOf).Perm ks:=λl pl=>by
  refine⟨strsAre_map _ λv hv=>?_,?_⟩
  ·obtain⟨e,he,rfl⟩:=ZE.mp hv;exact allS e (pl.mem_iff.mp he)
  ·rw[uD];exact(pl.map _).trans hkp
 refine wpAny_pyIter_slot hty Qef (ZI Qef hty Jso ?_ (F.args_set_iter_1 _));unfold Builtin.«frozenset.__iter__» Builtin.Frozenset.slot0 slotArgs;simp only[List.isEmpty_nil,oA,Zh,Zo,bind_assoc,jD,bne_self_eq_false];unfold Builtin.Frozenset.addrOf Builtin.Frozenset.sizeOf;refine Za (Zb ?_);try dsimp only
 refine Za (Zb ?_);refine Za (Za (qL f hd hf (Zb ?_)));unfold setDrawn;refine Za (Za (sI f hd hf ?_));unfold setsByText;refine Za (Za (pI (Zb ?_)));refine Zb ?_;show wpAny _ _ (if(!byT w&&(!t.plain&&decide (W8>1)))=To then _ else _) _ _ s;have z1:es.size<=sizeLine:=fits_of_scanBound hz;by_cases B:(!byT w&&(!t.plain&&decide (W8>1)))=To
 ·rw[if_pos B];refine Za (JjA _ _ _ _ Af λord d po=>?_);refine Za (wpAny_newTuple ?_ (by rw[Ze,po.length_eq,uK];exact z1));refine Za (wpAny_setEpoch_of (Zd _ f) hd hf ?_);refine Za (ZR (Zb VZ));have oj:∀j∈ord,j<es.size:=λj hj=>by simpa using po.mem_iff.mp hj
  have pl:((ord.map λj=>es.getD j Qdh)).Perm Yc:=by
   have c1:=po.map λj=>es.getD j HN;refine c1.trans (List.Perm.of_eq ?_);refine List.ext_getElem Af λi h1 h2=>?_;have h3:i<es.size:=by simpa using h2
   simp[Array.getD,h3]
  obtain⟨C,U⟩:=r _ pl;have em:(ord.map λj=>es.getD j HN).map (·.2)=ord.map λj=>(es.getD j HN).2:=by rw[uD];rfl
  rw[em]at C U;refine hQ _ d _ [_,a,Aa] _ _ _ OR (λb hb=>?_) ?_ (λA' hA=>Jkx (tp:=Aa) (ord:=ord) hA ?_ ?_ oj) ⟨Zi _ rfl,sa.stay λo e=>Zd _ Ex,Zd _ FP⟩ C U
  ·simp only[Zf,ZA,eA]at hb;rcases hb with rfl|rfl|rfl
   ·right;show _<=(Heap.push _ _).objs.size;rw[ZO];exact iC _
   ·exact .inl rfl
   ·exact .inr (Zj _)
  ·show _<=(Heap.push _ _).objs.size;rw[ZO];exact iC _
  ·show a≠(Heap.push _ _).objs.size;rw[ZO];exact Zr (eC g)
  ·show Aa≠(Heap.push _ _).objs.size;rw[ZO];exact Zr Yu
 ·rw[if_neg B];refine Za (Zb ?_);refine Za (wpAny_setEpoch_of f hd hf ?_);refine Za (ZR (Zb VZ));have fpo:∀b∈[Aa,a],b=a\/s.heap.objs.size<=b:=λb hb=>by
   simp only[Zf,ZA,eA]at hb;rcases hb with rfl|rfl
   ·exact .inr (Zj _)
   ·exact .inl rfl
  have kp:∀(x:Obj)b o,s.heap.get? b=So o->(s.heap.push x).get? b=So o:=λx b o e=>Zd _ e;cases hT:byT w with
  |true=>
   have pl:'ϰ'.toList.Perm Yc:=by have:=Jhu Kr W8 0 Yc #[] Af;simpa[pickOrder]using this
   obtain⟨C,U⟩:=r _ pl;exact hQ _ X9 _ _ _ _ _ (kp _) fpo (Zj _) (λA' hA=>Jnz (o:=o) (t:=t) hA hT (Zr g)) Ux C U
  |false=>
   have few:es.size<=1:=by
    by_cases z:es.size<=1
    ·exact z
    ·exfalso;apply B;rw[hT,hp 'c',Zs 'c'];rfl
   obtain⟨C,U⟩:=r _ (eO _);rw[hT]at hl;exact hQ _ X9 _ _ _ _ _ (kp _) fpo (Zj _) (λA' hA=>JpO (o:=o) (t:=t) hA hT (Zr g) few (.inr hl)) Ux C U
end
def JoZ{Q:E1}(g:s.TypeIs Aw "set")(h:Q Fo s):wpAny As A (Builtin.List.listLengthHint Aw) Q E s:=by unfold Builtin.List.listLengthHint;refine Za (nI g F.slot_set_len.lookup ?_);generalize hid:("set.__len__":String)=id0;wp_delta;rw[show splitId id0=So ("set","__len__")from by subst hid;decide+kernel];subst hid;refine Za (vE (T:="set") (b:=To) g (by rw[dO];kernel_rfl) (sG Oy (λ_=>sG (λ_=>?_) Ox)));exact Za QdD
theorem JhI{Q:List Value->Shared->Prop}(hh:A8)(hS:TS prog w (!byT w) W6 a ks)(hk:BJ<60)
  (hQ:∀(h1:Heap)(d:Drawn)(tk:Nat)(vs:Az)(u:Ad),(∀b o,s.heap.get? b=So o->h1.get? b=So o)->Aa<=h1.objs.size->StrsAre vs u->u.Perm ks->Q vs {s with heap:=h1,drawn:=d,toks:=tk}):wpAny As A (collect Aw) Q E s:=by
 obtain⟨oa,hoa⟩:=hS.there;have hty:∀q:Shared,TS prog w (!byT w) q.heap a ks->q.TypeIs Aw "set":=λq⟨o,_,_,_,⟨e,x,_⟩,_⟩=>⟨o,e,x.1⟩;have hne:Aa≠a:=iD (Zk hoa);unfold collect;refine Za (wpAny_runValue (tE F.entry_proto_collect ?_));rw[xG F.plain_proto_collect _];show wpAny _ Xk (newList []>>=λl=>again (.builtin "list.__iadd__" ⟨[l,.ref a],[]⟩)) _ _ s;refine Za (ZR ?_);refine Zb ⟨xD F.plain_list_iadd _,tE F.entry_list_iadd ?_⟩;rw[xG F.plain_list_iadd _];show wpAny _ Xk (Builtin.List.listExtendWith Dr Aw Dr) _ _ _;unfold Builtin.List.listExtendWith;have hS1:TS prog w (!byT w) (s.heap.push {cls:=.type "list",data:=.seq ([]:List Value).toArray}) a ks:=hS.stay λo e=>Zd _ e;refine Za (wD (hty {s with heap:=s.heap.push {cls:=.type "list",data:=.seq ([]:List Value).toArray}} hS1) ?_);have h1:Builtin.List.listSameRef Dr Aw=Fo:=by simp[Builtin.List.listSameRef,hne]
 have h2:(Value.type "set"==Value.type "list")=Fo:=by decide
 have h3:(Value.type "set"==Value.type "tuple")=Fo:=by decide
 simp only[h1,h2,h3,yE,Zh,Zo];refine Za (JpB (s:={s with heap:=s.heap.push {cls:=.type "list",data:=.seq ([]:List Value).toArray}}) hS1 Ae λU d I fp vs u St kp fpo hI W9 st q1 q2=>?_);have C:(s.heap.push {cls:=.type "list",data:=.seq ([]:List Value).toArray}).objs.size=Aa+1:=ZO ..;have hSf:Aa∉fp:=λz=>by
  rcases fpo _ z with e|e
  ·exact hne e
  ·change(s.heap.push {cls:=.type "list",data:=.seq ([]:List Value).toArray}).objs.size<=_ at e;rw[C]at e;lia
 have hIS:Aa≠I:=λz=>by change(s.heap.push {cls:=.type "list",data:=.seq ([]:List Value).toArray}).objs.size<=_ at hI;rw[C]at hI;lia
 have hlen:Bg=BJ:=by have:=q2.length_eq;rw[<-q1.strs,Ze]at this;exact this
 have hnl:Bg<=sizeLine:=by rw[ZK];lia
 have hL1:U.get? Aa=So {cls:=.type "list",data:=.seq #[]}:=kp _ _ FP;have hh1:A.in1.in1.handled=No:=by simp[hh]
 have key:∀(g:Heap)(c:Nat)(tk:Nat),St 0 g->(∀b o,b≠Aa->U.get? b=So o->g.get? b=So o)->g.get? Aa=So {cls:=.type "list",data:=.seq #[] c}->
   codeAny As A (.builtin "list.extend.loop" ⟨[.ref Aa,.ref I,.ref Aa],[]⟩) (λr q=>match r with
    |.ok (.ret v)=>wpAny As A (match v with
     |.ref a=>do match(<-load a).data with
      |.seq xs _=>pure xs.toList
      |_=>unsupported "internal:collect"
     |_=>unsupported "internal:collect") Q E q
    |.ok _=>False
    |.error e=>E e q) {s with heap:=g,drawn:=d,toks:=tk}:=by
  intro g c tk st' kp' hL;refine codeAny_extend_loopS (W9 Xk (by simp[hh])).toS hnl Aa hSf _ Bg 0 _ #[] c rfl (qA _) st' hL (ItemsOf.nil _) λq f c' hm hS' B=>?_;have e2:f.toList=vs:=by
   refine List.ext_getElem (by simpa using B.1) λi a1 a2=>?_;have a3:i<f.size:=by simpa using a1
   have:vs[i]? =So f[i]:=B.2 i f[i] (dF a3);rw[Zq a2]at this;simpa using(pA this).symm
  show wpAny _ _ (load Aa>>=_) _ _ q;refine Za (wpAny_load hS' (Zb ?_));obtain⟨g',ge',d',tk',os'⟩:=q;have eg:ge'=s.gens:=hm.gens;have ed:d'=d:=hm.drawn;have eo:os'=s.os:=hm.os;subst eg ed eo;show Q f.toList _;rw[e2];refine hQ g' d' tk' vs u (λb o e=>?_) (Nat.le_of_lt (Zk hS')) q1 q2;have hb:b<Aa:=Zk e;refine hm.heap b o ?_ (kp' b o (Zr hb) (kp b o Ex));simp only[Zf,ZA,eA,not_or];refine⟨Zr hb,λz=>?_⟩;change(s.heap.push {cls:=.type "list",data:=.seq ([]:List Value).toArray}).objs.size<=_ at hI;rw[C]at hI;have hb':b<Aa:=hb;rw[z]at hb';exact absurd (Zw hb' (yO hI)) Cz
 have hS2:TS prog w (!byT w) U a ks:=hS1.stay λo e=>kp a o e;refine Za (vA (JoZ (hty {s with heap:=U,drawn:=d} hS2) ?_));refine sG (λ_=>?_) (λ_=>Zb ⟨xD mO _,key U 0 W7 st (λb o _ e=>e) hL1⟩);refine Za (uA (Za ?_));show wpAny _ Xk (updateSeq Aa (·.push .none)>>=λ_=>updateSeq Aa (·.pop)) _ _ _;refine Za (rG hL1 rfl ?_);have hL2:=ZQ (Obj.mapSeq (·.push Xb)) hL1 rfl;refine rG (hz:=by seq_fits) hL2 rfl ?_;have hL3:=ZQ (Obj.mapSeq (·.pop)) hL2 rfl;have oth:∀b o,b≠Aa->U.get? b=So o->((U.update Aa (Obj.mapSeq (·.push Xb))).update Aa (Obj.mapSeq (·.pop))).get? b=So o:=λb o hb e=>'ɦ'.trans ('ɦ'.trans e);exact Zb ⟨xD mO _,key _ _ W7 ((W9 Xk (by simp[hh])).frame 0 _ _ st λb hb o e=>oth b o (λz=>hSf (z▸hb)) e) oth hL3⟩
theorem JfO(hh:A8)(U:TS prog w (!byT w) W6 a ks)(hk:BJ<60)
  (h:∀(h':Heap)(d:Drawn)(tk:Nat)(l:Addr)(vs:Az)(u:Ad)(e:Nat),(∀b o,s.heap.get? b=So o->h'.get? b=So o)->Aa<=l->h'.get? l=So (seqObj "list" CB e)->StrsAre vs u->u.Perm ks->PyProof.Rows.sortedS u=To->Q BS {s with heap:=h',drawn:=d,toks:=tk}):
  wpAny As A (call NR B9) Q E s:=by
 obtain⟨oa,hoa⟩:=U.there;refine Calls.call_function_entry kind_sorted plain_sorted entry_sorted (args_sorted1 _) ?_;unfold Builtin.«sorted»;refine Za (m:=checkCount "sorted" 1 1 _) (Zb (Za (JhI (by simp[hh]) U hk λB d tk vs ks' kp F C q2=>?_)));have hlen:Bg=BJ:=by have:=q2.length_eq;rw[<-C.strs,Ze]at this;exact this
 refine Za (wpAny_newList ?_ (by rw[ZK];lia));have f:(B.push RX).get? B.objs.size=So RX:=Zi _ rfl;refine Za (vA (ZI slot_list_sort ⟨_,f,rfl⟩ entry_list_sort (list_sort_treeK strKind_oneLt (s:={s with heap:=B.push RX,drawn:=d,toks:=tk}) f C.keysOf (λv₁ I rest e=>keyKind_strs (by rw[<-e];exact C)) Ae λr a1 a2=>⟨_,rfl,?_⟩) (args_list_sort _)));obtain⟨u,b1,b2,b3⟩:=sorted_out_str C a1 a2;obtain⟨e,he⟩:=sortedHeap_at (out:=(arrOf r).map (·.2)) f;refine Zb ⟨_,rfl,h _ d tk B.objs.size ((arrOf r).map (·.2)).toList u e (λb o q=>?_) F (by rw[Array.toArray_toList];exact he) b1 (b2.trans q2) b3⟩;have q':=kp b o q;have g:=Zk q';rw[sortedHeap_old (Zr g) (by rw[ZO];exact eC g)];exact Zd _ q'
noncomputable def SetO (X:Cx) (a:Addr) (ks:Ad):HO:=.ext λh=>TS Xa X.w (!byT X.w) h a ks
section
theorem JgT:∀{ws:Ad}{f:Az},Vals Qci f->StrsAre f ws
 |[],_,.nil=>.nil
 |x::ws,_,.cons ⟨t,e⟩ r=>by subst e;exact .cons x t (JgT r)
theorem JgY:∀{ws:Ad}{f:Az},StrsAre f ws->Vals Qci f
 |_,_,.nil=>.nil
 |_,_,.cons x t r=>.cons ⟨t,rfl⟩ (JgY r)
def Jmn(I:BW)(d:Drawn):L2.Inv X Y Z H {s with drawn:=d}:=⟨I.ok,I.os,Xs,Yn,Xz,Yo,Xw,XT,I.pin,Xh,Ys⟩
def rSet (X:Cx):List V->Hp->VK->Prop:=λxs H Q=>∃p f,xs=Fj/\SqL X.K H p (f.map V.str)/\f.length<60/\∀l,H l=No->Q BS (upd H l (SetO X l (metS f)))
theorem Jvy(F:Cf):gA X HS (rSet X):=by intro Y s Z H xs us Q I r h;obtain⟨p,ws,rfl,hq,hl,q⟩:=h;obtain⟨u,rfl,rx⟩:=lA r;cases rx;obtain⟨its,B,pl,hz⟩:=I.list hq;have f:=B.length;rw[Ze]at f;refine JlP (items:=Ap) (ws:=ws) (I.ok.hd F) Yb (by simpa using JgT B) (by rw[Zn,<-f];show _<4096;lia) λh' tk g C=>?_;obtain⟨o,U⟩:=g.there;exact⟨.ref Aa,_,I.laid (t':=tk) (λb o e=>C b o (Zk e) e) (Zj _) (show ObjOk Xa X.w _ h' _ (SetO X Aa 'Ͻ')from⟨g,⟨o,U⟩,λh1 h2 z k=>TS.stay z k⟩),rfl,q _ Ft⟩
theorem Jni(hc:Cf):gA X NR (λxs H Q=>∃p ks,xs=Fj/\H p=So (SetO X p ks)/\ks.length<60/\∀(l:Addr)(f:Ad),H l=No->f.Perm ks->PyProof.Rows.sortedS f=To->Q BS TN):=by
 intro Y s Z H xs us Q I r h;obtain⟨p,ks,rfl,hq,hl,q⟩:=h;obtain⟨u,rfl,rx⟩:=lA r;cases rx;have hS:TS Xa X.w (!byT X.w) W6 p ks:=(I.hok p _ hq).1;refine JfO Lj hS hl λh' d F l vs f e U g hg C B q3=>?_;have hz:Bg=BJ:=by have:=B.length_eq;rw[<-C.strs,Ze]at this;exact this
 have I1:L2.Inv X Y Z TN {s with heap:=h',drawn:=d,toks:=F}:=
  (Jmn I d).laid (t':=F) U g ⟨by rw[Ze,B.length_eq,ZK];lia,vs,e,JgY C,hg⟩
 exact⟨.ref l,_,I1,rfl,q l f Qbw B q3⟩
theorem JvI:gA X Et (λxs H Q=>∃p ks,xs=Fj/\H p=So (SetO X p ks)/\ks.length<60/\Q (.int BJ) H):=by
 intro Y s Z H xs us Q I r h;obtain⟨p,ks,rfl,hq,hl,q⟩:=h;obtain⟨u,rfl,U⟩:=lA r;cases U;obtain⟨o,es,ep,t,⟨F,C,hd⟩,hel,⟨hf,hz⟩,_,_,B,_⟩:=(I.hok p _ hq).1;have f:es.size=BJ:=by have:=B.length_eq;simpa[vF]using this
 have g:((W8:Nat):Int)<2^63:=by
  have:((W8:Nat):Int)<60:=by lia
  exact Int.lt_trans this AO
 refine call_len_set F C hd hf g ?_;refine⟨.int BJ,H,I.kept (t':=W7+1+1) (λb o e=>e),⟨_,by rw[f]⟩,q⟩
theorem Jej:∀(p:Str)(l:Ad),risingS p l=To->(p::l).Nodup->(p::l).Pairwise LtS
 |p,[],_,_=>by simp
 |p,x::r,h,hn=>by
  simp only[risingS,Zc,rA]at h
  obtain⟨g,u⟩:=h
  rw[ltCps_eq]at g
  have B:¬LtS x p:=by simpa[LtS]using g
  obtain⟨C,F⟩:=lC.mp hn
  have q:=Jej x r u F
  have px:LtS p x:=LtS.total B λe=>C (by simp[e])
  refine jF.mpr ⟨λz f=>?_,q⟩
  rcases Zf.mp f with rfl|f
  ·exact px
  ·exact px.trans ((jF.mp q).1 z f)
def JlT{f ws:Ad}(h1:f.Perm ks)(r:PyProof.Rows.sortedS f=To)(u:ks.Nodup)(q:∀k,k∈ks↔k∈ws):f=Pu.jA ws:=by
 have g:f.Nodup:=h1.symm.nodup u;have B:f.Pairwise LtS:=by
  cases f with
  |nil=>exact List.Pairwise.nil
  |cons p l=>exact Jej p l r g
 exact JgP _ _ B (jS ws) λk=>(h1.mem_iff.trans (q k)).trans (wH ws k).symm
def JjX(ws:Ad):∀ks:List Str,ks.Nodup->'仌'.Nodup:=by
 induction ws with
 |nil=>intro ks h;exact h
 |cons x ws r=>
  intro ks h;rw[iI];refine r _ ?_;unfold addS;split
  ·exact h
  ·rename_i f;rw[gF];refine⟨h,by simp,λu q v g e=>?_⟩;rw[Zx]at g;subst g e;exact f q
def JeM(ws:Ad):'Ͻ'.Nodup:=JjX ws [] YZ
def Jnu(ws:Ad):'Ͻ'.length=(Pu.jA ws).length:=by have f:'Ͻ'.Perm (Pu.jA ws):=(List.perm_ext_iff_of_nodup (JeM ws) (Jkw _ (jS ws))).mpr λk=>(JiR ws k).trans (wH ws k).symm;exact f.length_eq
theorem yZ:∀{J:Ao}{ws:Ad},rD J=So ws->J=ws.map XD
 |[],ws,h=>by cases h;rfl
 |.str x::J,ws,h=>by
  simp only[rD]at h
  cases q:rD J with
  |none=>rw[q]at h;cases h
  |some vs=>rw[q]at h;cases h;rw[yZ q];rfl
 |.non::J,ws,h=>by cases h
 |.bl _::J,ws,h=>by cases h
 |.int _::J,ws,h=>by cases h
 |.tup _::J,ws,h=>by cases h
 |.lst _::J,ws,h=>by cases h
theorem rX:∀{ws:Ad}{xs:AA},Reps K H 'Ɂ' xs->xs=ws.map V.str
 |[],xs,h=>by cases h;rfl
 |w::ws,xs,h=>by
  obtain⟨x,r,rfl,f,g⟩:=h
  cases f
  rw[rX g];rfl
theorem JiK:∀f:List Str,Reps K H (f.map XD) (f.map V.str)
 |[]=>rfl
 |w::f=>⟨.str w,f.map V.str,rfl,rfl,JiK f⟩
variable{U:Ag}{a:Expr}{p3:Pos}
def JqQ(C:Am)(r:AH)(f:gloB nm "set"=To)(g:G.mg "set"=No)(q:Ra):PE X (.Call Uo [a] [] p3) (tCB (rSet X) (Jwz FH tNil)):=
 Jgt (Jvy Xp) (C.glo _ f) (by rw[C.mg];exact g) boot_set (JC r kB q) Ah Ah q rfl
def JsU(C:Am)(ha:AH)(hg:gloB nm "sorted"=To)(hm:G.mg "sorted"=No)(F:gloB nm "set"=To)(I:G.mg "set"=No)(hs:C4):PE X (.Call (.Name "sorted" p1) N2 [] pos) (tI X U (.un .sset pa)):=by
 refine PE.weak (rR (Jni Xp) FN (by rw[C.mg];exact hm) Ah (JC (JqQ C ha F I hs) kB rfl) Ah Ah rfl rfl) λZ H Q h=>?_;obtain⟨O,r,h⟩:=h;refine⟨O,r,'Ă'.imp λd f=>λv H1 s1 rv=>?_⟩;show∃p g,[v]=Fj/\_;cases d with
 |lst J=>
  obtain⟨p,xs,rfl,h1,h2⟩:=rv;simp only[op1]at f;cases q:rD J with
  |none=>rw[q]at f;exact f.elim
  |some g=>
   rw[q]at f;have e:=yZ q;subst e;have e2:=rX h2;subst e2;simp only at f;split at f
   ·rename_i u;refine⟨p,g,rfl,h1,u,λl hl=>?_⟩;show∃p' ks,Qdq=[.ref p']/\_;refine⟨l,metS g,rfl,Jg,uC (dY g) u,λl2 ss B a1 a2=>?_⟩;have e3:=JlT a1 a2 (JeM g) (JiR g);subst e3;have s2:Same H1 (upd H1 l NQ):=λb o e=>by rw[Je (Ji e hl)];exact e
    obtain⟨s3,r3⟩:=jM (K:=X.K) (H:=upd H1 l NQ) B (JiK (Pu.jA g));exact f _ _ (s1.trans (s2.trans s3)) r3
   ·exact f.elim
 |_=>exact f.elim
def JsP(C:Am)(ha:AH)(hg:gloB nm "len"=To)(hm:G.mg "len"=No)(B:gloB nm "set"=To)(F:G.mg "set"=No)(hs:C4):PE X (.Call (.Name "len" p1) N2 [] pos) (tI X U (.un .lset pa)):=by
 refine PE.weak (rR JvI FN (by rw[C.mg];exact hm) Y0 (JC (JqQ C ha B F hs) kB rfl) Ah Ah rfl rfl) λZ H Q h=>?_;obtain⟨O,r,h⟩:=h;refine⟨O,r,'Ă'.imp λd f=>λv H1 s1 rv=>?_⟩;show∃p u,[v]=Fj/\_;cases d with
 |lst J=>
  obtain⟨p,xs,rfl,h1,h2⟩:=rv;simp only[op1]at f;cases q:rD J with
  |none=>rw[q]at f;exact f.elim
  |some u=>
   rw[q]at f;have e:=yZ q;subst e;have I:=rX h2;subst I;simp only at f;split at f
   ·rename_i g;refine⟨p,u,rfl,h1,g,λl hl=>?_⟩;show∃p' ks,Qdq=[.ref p']/\_;refine⟨l,metS u,rfl,Jg,uC (dY u) g,?_⟩;have s2:Same H1 (upd H1 l (SetO X l (metS u))):=λb o e=>by rw[Je (Ji e hl)];exact e
    rw[Jnu];exact f _ _ F6 rfl
   ·exact f.elim
 |_=>exact f.elim
end
noncomputable def plainN (x:Str):Bool:=!(x==("__debug__":Str))&&!(x==("__classdict__":Str))
def chkV (N:Ad) (nm:Bf) (i:Nat) (x:Str):Bool:=(N[i]? ==So x)&&visB nm x&&plainN x
def chkS (N:Ad) (nm:Bf) (i:Nat) (x:Str):Bool:=(N[i]? ==So x)&&locB nm x&&plainN x
def chkG (nm:Bf) (x:Str):Bool:=gloB nm x&&plainN x
section
variable{X:Cx}{U:Ag}{G:Gw}{N:Ad}{nm:Bf}{e a b c:Expr}{es:C6}{p pa pb pc pl ph:Px}{pos p1 p2 p3:Pos}{x y:Str}
def plainN.d(h:plainN x=To):'@'=Fo/\(x==("__classdict__":Str))=Fo:=by simpa[plainN]using h
def vV(C:Am){i:Nat}(h:chkV N nm i x=To):PE X Ct Ia:=by simp only[chkV,Zc,ZD]at h;obtain⟨g,f⟩:=plainN.d h.2;exact Jvu (by rw[C.hN];exact h.1.1) (C.vis x h.1.2) g f
def zA(G:Gw)(x:Str)(d:D):Prop:=∃v u,G.mg x=So u/\RelV v u/\∀H,Rep G.K H d v
def vG(C:Am){d:D}(g:zA G x d)(h:chkG nm x=To):PE X Ct Qah:=by simp only[chkG,Zc]at h;obtain⟨r,F⟩:=plainN.d h.2;obtain⟨v,u,B,q,f⟩:=g;exact JrD (C.glo x h.1) ⟨v,u,by rw[C.mg];exact B,q,λH=>by rw[C.K];exact f H⟩ r
def cF(C:Am){g:Nat}(u:Callee G U g x)(h:chkG nm x=To)(r:Kj)(q:KJ)(f:'ĺ'.any (·.1)=Fo):
  PE X Pd (tI X U (.call g p)):=by simp only[chkG,Zc]at h;exact Jsy C u h.1 (plainN.d h.2).1 r q f
def cLen(C:Am)(q:G.mg "len"=No)(r:AH)(g:gloB nm "len"=To)(f:C4):PE X Uu (tI X U (.un .len pa)):=eQ C Jwy r g q Y0 Ah Ah f
def cAll(C:Am)(q:G.mg "all"=No)(r:AH)(g:gloB nm "all"=To)(f:C4):PE X (.Call (.Name "all" p1) [a] [] pos) (tI X U (.un .all pa)):=eQ C (JwE Xp) r g q boot_all Ah Ah f
def cAny(C:Am)(q:G.mg "any"=No)(r:AH)(g:gloB nm "any"=To)(f:C4):PE X (.Call (.Name "any" p1) [a] [] pos) (tI X U (.un .any pa)):=eQ C (JvW Xp) r g q boot_any Ah Ah f
def Jql(C:Am)(q:G.mg "tuple"=No)(r:AH)(g:gloB nm "tuple"=To)(f:C4):PE X (.Call (.Name "tuple" p1) [a] [] pos) (tI X U (.un .tuple pa)):=zL C Jpr r g q PyProof.Rows.boot_tuple Ah Ah f
def cInt(C:Am)(q:G.mg "int"=No)(r:AH)(g:gloB nm "int"=To)(f:C4):PE X (.Call (.Name "int" p1) [a] [] pos) (tI X U (.un .ints pa)):=zL C JuV r g q PyProof.Rows.boot_int Ah Ah f
def eEq(C:Am)(g:AH)(f:BZ):PE X SZ (tI X U QbI):=kJ (JqC C.un) g f CQ
def eNe(C:Am)(g:AH)(f:BZ):PE X Sn (tI X U Qk):=kJ cE g f CQ
def eLt(g:AH)(f:BZ):PE X SY (tI X U QbJ):=kJ zU g f CQ
def eGt(g:AH)(f:BZ):PE X P3 (tI X U QbK):=kJ oV g f CQ
def eGe(g:AH)(f:BZ):PE X Tc (tI X U QbL):=kJ mV g f CQ
def eIn(C:Am)(q:AH)(f:BZ)(g:behindInMarks .In b=Fo):PE X Sg (tI X U Qal):=kJ (Jqj C.un) q f g
def tEq(C:Am)(g:AH)(f:BZ):PT X SZ (tT X U QbI):=pH (JqC C.un) g f CQ
def tNe(C:Am)(g:AH)(f:BZ):PT X Sn (tT X U Qk):=pH cE g f CQ
def tLt(g:AH)(f:BZ):PT X SY (tT X U QbJ):=pH zU g f CQ
def tGt(g:AH)(f:BZ):PT X P3 (tT X U QbK):=pH oV g f CQ
def tGe(g:AH)(f:BZ):PT X Tc (tT X U QbL):=pH mV g f CQ
def tIn(C:Am)(q:AH)(f:BZ)(g:behindInMarks .In b=Fo):PT X Sg (tT X U Qal):=pH (Jqj C.un) q f g
def tNi(C:Am)(q:AH)(f:BZ)(g:behindInMarks .NotIn b=Fo):PT X Tu (tT X U (.bi .notin pa pb)):=pH (Jmf C.un) q f g
def eIx(q:AH)(g:BZ)(f:sQ b):PE X Ml (tI X U (.bi .idx pa pb)):=pI_ix Jxg q g f
def eAdd(g:AH)(f:BZ):PE X (.BinOp a .Add b pos) (tI X U (.bi .add pa pb)):=mJ JsN g f
def eSub(g:AH)(f:BZ):PE X (.BinOp a .Sub b pos) (tI X U (.bi .sub pa pb)):=mJ JsL g f
def eMul(g:AH)(f:BZ):PE X OQ (tI X U (.bi .mul pa pb)):=mJ JrU g f
def eMod(g:AH)(f:BZ):PE X (.BinOp a .Mod b pos) (tI X U (.bi .mod pa pb)):=mJ Jrt g f
def eDiv(g:AH)(f:BZ):PE X (.BinOp a .FloorDiv b pos) (tI X U (.bi .fdiv pa pb)):=mJ JpU g f
def gOne(C:Am)(h:chkS N nm 0 x=To):TgOk X Ct 0 1:=by simp only[chkS,Zc,ZD]at h;obtain⟨g,f⟩:=C.sto x h.1.2;exact Jve (by rw[C.hN];exact h.1.1) (by rw[C.hN];exact C.nd) g f
def gTwo(C:Am)(h:chkS N nm 0 x=To)(h':chkS N nm 1 y=To):TgOk X SI 2 2:=by simp only[chkS,Zc,ZD]at h h';obtain⟨g,r⟩:=C.sto x h.1.2;obtain⟨f,q⟩:=C.sto y h'.1.2;exact JuG (by rw[C.hN];exact h.1.1) (by rw[C.hN];exact h'.1.1) (by rw[C.hN];exact C.nd) g r f q Xp
def scB (N:Ad) (nm:Bf) (ls:Ad) (f:Ba):Bool:=(f.kind==.function)&&decide (ls++hidN ls N).Nodup&&Juw N nm ls f.names&&N.all (λn=>!ls.contains n||(f.names.lookup (dum n)).isNone)
def scO{ls:Ad}{f:Ba}(h:scB N nm ls f=To):ScOk N nm ls f:=by simp only[scB,Zc,ZD,Zp]at h;refine⟨h.1.1.1,h.1.1.2,h.1.2,λn q g=>?_⟩;have:=ZZ.mp h.2 n q;simp only[g,oA,jC,Option.isNone_iff_eq_none]at this;exact this
variable{M:AX}{H0:Hp}{i j l:Nat}{px:Pos}
def chkA (N:Ad) (nm:Bf) (M:AX) (i:Nat) (x:Str):Bool:=chkS N nm i x&&!M.contains i
def chkA.at(h:E0):N[i]? =So x/\locB nm x=To/\i∉M:=by simp only[chkA,chkS,Zc,ZD,rA,sL,ZP]at h;exact⟨h.1.1.1,h.1.1.2,h.2⟩
def chkO (N:Ad) (nm:Bf) (M:AX) (i:Nat) (x:Str):Bool:=chkS N nm i x&&M.contains i&&visB nm x
def chkO.at(h:Dn):N[i]? =So x/\locB nm x=To/\plainN x=To/\i∈M/\visB nm x=To:=by simp only[chkO,chkS,Zc,ZD,sL,Zp]at h;exact⟨h.1.1.1.1,h.1.1.1.2,h.1.1.2,h.1.2,h.2⟩
def aSet(C:Am)(h:E0)(r:BF)(f:Cu)(g:Ky):PS X E6 Nj:=by obtain⟨u,B,q⟩:=chkA.at h;exact JuS C u B q f r g
def aSetM(C:Am)(h:E0)(q:BF)(f:Ky):PS X E6 Te:=by obtain⟨r,u,g⟩:=chkA.at h;exact Jsh C r u g q f
def aOwn(C:Am)(h:Dn)(f:Qdn)(q:Ky):PS X E6 Pr:=by obtain⟨r,g,u,B,F⟩:=chkO.at h;exact JuJ C r g f q
section
variable{elt tg iter:Expr}{ifs:C6}{ps pe:Px}{nt:Nat}{ls:Ad}{sc:Ba}
def Jvo(h:PS X st (tAsg IE DY)):PS X st (tAsg (tFH X U p) DY):=by
 rintro Y s Z H D I⟨O,L,hL,r,g⟩;obtain⟨ps,e1,e2,I'⟩:=Inv.hide I hL.c;refine ZV (h (ps++Y) s Z Br ⟨λσ' H1=>Same Br H1/\((∀a∈L,H1 a=No)->D.nx σ' FM),λ_ _=>False,λ_ _=>False,λ_ _=>False⟩ I' ⟨O,r,g.mono (λd⟨J,ed,hd⟩=>⟨J,ed,λl xs H1 C h0 F rv=>⟨C,λB=>?_⟩⟩) λc z=>z⟩)
  (λf C q=>?_) λ_ _ z=>z
 ·have hl:l∉L:=λhm=>by rw[B l hm]at F;cases F
  exact hd l xs _ (nY C) Q8 (by rw[Jy hl]at h0;exact h0) (by rw[JM hl];exact F) (by rw[pQ B];exact rv)
 ·cases f with
  |next=>obtain⟨σ',H1,I1,sm,q⟩:=q;obtain⟨B,I2⟩:=Inv.unhide I hL.c e1 e2 RY I1;exact⟨σ',_,I2,q B⟩
  |brk=>obtain⟨_,_,_,q⟩:=q;exact q.elim
  |cont=>obtain⟨_,_,_,q⟩:=q;exact q.elim
  |ret u=>obtain⟨_,_,_,_,_,q⟩:=q;exact q.elim
def Jqc(C:i∉M)(r:Cu)(hl:isL p=To){D:Ends}(h:N5):tAsg (tFH X U p) DY D Z H:=by
 obtain⟨O,L,u,k2,f⟩:=JnB C r h;refine⟨O,L,u,k2,?_⟩;cases q:evD U p O with
 |ok d=>
  rw[q]at f;obtain⟨J,rfl⟩:=JnS hl q;refine⟨J,rfl,λl xs H1 I F h0 h1 rv=>f _ _ I F ?_⟩;have g:l∉L:=λhm=>by obtain⟨o,B,_⟩:=u l hm;rw[h0]at B;cases B
  exact⟨l,xs,rfl,SqL.of (by rw[Jy g];exact h1),rv⟩
 |ex c=>rw[q]at f;exact f
 |sk=>rw[q]at f;exact f.elim
noncomputable def tgN:Expr->List Str
 |.Name x _=>[x]
 |.Tuple es _ _=>es.filterMap λe=>match e with
  |.Name x _=>So x
  |_=>No
 |_=>[]
noncomputable abbrev cN (tg:Expr) (N:Ad):List Str:=tgN tg++hidN 'Ќ' N
def aSetC(C:Am)(h:E0)(F:scB N nm 'Ќ' sc=To)(r:GJ)(B:∀f,Ctx f G D4 sc.names->TgOk f tg nt 'Ќ'.length)(u:∀f,Ctx f G D4 sc.names->PIf f ifs aV)
  (g:∀f,Ctx f G D4 sc.names->PE f elt aW) (I:sepP M IW=To) (hs:∀x,foldedSetIterable iter WU x=pure x):PS X Wx (tS X U M H0 (.set Fo i IW)):=by obtain⟨h1,h2,h3⟩:=chkA.at h;exact PS.weak (Jvo (Jev C (scO F) (by rw[C.hN];exact h1) h2 r B u g hs)) λD Z H q=>Jqc h3 I rfl q
def aOwnC(C:Am)(h:Dn)(F:scB N nm 'Ќ' sc=To)(g:GJ)(B:∀f,Ctx f G D4 sc.names->TgOk f tg nt 'Ќ'.length)(u:∀f,Ctx f G D4 sc.names->PIf f ifs aV)
  (r:∀f,Ctx f G D4 sc.names->PE f elt aW) (hs:∀x,foldedSetIterable iter WU x=pure x):PS X Wx (tS X U M H0 (.own i IW)):=by obtain⟨I,h2,h3,h4,h5⟩:=chkO.at h;exact PS.weak (Jev C (scO F) (by rw[C.hN];exact I) h2 g B u r hs) λD Z H q=>JnF q
def Jwu(C:Am)(B:scB N nm 'Ќ' sc=To)(q:GJ)(u:∀f,Ctx f G D4 sc.names->TgOk f tg nt 'Ќ'.length)(r:∀f,Ctx f G D4 sc.names->PIf f ifs aV)
  (g:∀f,Ctx f G D4 sc.names->PE f elt aW) (I:∀x,foldedSetIterable iter WU x=pure x):PE X Ge HY:=JkU C (scO B) q u r (λf F _=>g f F) I
end
def aApp{f:Pos}(C:Am)(h:Dn)(r:BF)(hl:F7)(g:Cu)(hs:MG):
  PS X Ws Td:=by obtain⟨h1,h2,q,B,I⟩:=chkO.at h;obtain⟨F,u⟩:=plainN.d q;exact Jux C h1 I F u B g r hl hs
def aExt{f:Pos}(C:Am)(h:Dn)(r:BF)(hl:F7)(g:Cu)(hs:MG):
  PS X (.Expr V5 f) TQ:=by obtain⟨h1,h2,q,B,I⟩:=chkO.at h;obtain⟨F,u⟩:=plainN.d q;exact JuN C h1 I F u B g r hl hs
def lOne(C:Am)(h:E0):PG X Ct Qak:=by obtain⟨g,q,f⟩:=chkA.at h;exact JvN C g q f
def lTwo(C:Am)(h:E0)(h':chkA N nm M j y=To):PG X SI NS:=by obtain⟨B,q,f⟩:=chkA.at h;obtain⟨r,u,g⟩:=chkA.at h';exact JuE C B q f r u g
def JwF(C:Am)(h:E0)(h':chkA N nm M j y=To)(f:chkA N nm M l z=To):PG X V6 Oz:=by obtain⟨h1,r,g⟩:=chkA.at h;obtain⟨B,I,q⟩:=chkA.at h';obtain⟨F,k2,u⟩:=chkA.at f;exact Jpm C h1 r g B I q F k2 u
end
structure Landed(X:Cx)(H:Hp)(B h:Heap):Prop where
 tr:∀b u,H b=So u->∃o,B.get? b=So o
 kp:∀b o,X.s₀.heap.get? b=So o->b∉frs X.stack->(X.H₀ b=No->B.get? b=So o)/\∃o',B.get? b=So o'
 pn:∀p∈X.pn,B.get? p.1=So p.2
section
variable{ps:AQ}{B h1 h2:Heap}
def Inv.land(hst:X.stack=WU::X.outer)(hfm:X.env.frame=So AM)(hex:X.ex=[])(I:L2.Inv X ps Z H {s with heap:=h1})(L:Qd2)(k1:bG)(k2:B.StaysIn h2)(up:Qd3)(t:Nat):
  L2.Inv X [] (List.replicate X.N.length No) H {s with heap:=h2,toks:=t}:=by
 have hnx:∀b,b∉X.ex:=λb=>by rw[hex];simp
 have nst:∀b o,X.s₀.heap.get? b=So o->b∉X.fs->b∉frs Xc:=λb o f C U=>by
  rw[hst]at U
  unfold frs at U
  rw[ZW,hfm]at U
  rcases Zf.mp U with e|U
  ·have:=Zk f
   rw[e]at this
   exact absurd (Zw this Qbi) Cz
  ·exact C U
 have u:=Yn
 exact{
  ok:=I.ok,os:=I.os,bare:=Xs
  base:=⟨λb o f C r _=>k2 b o ((L.kp b o f QdE).1 C),λb o f C r _=>by
    obtain⟨sl,e1⟩:=u.slot b o f C r (hnx b)
    obtain⟨_,o1,g,F⟩:=(Qdr).mem r
    rw[f]at g
    cases g
    obtain⟨sl2,e2⟩:=up b _ e1 F
    exact⟨sl2,e2⟩,
   u.free,λb o f _=>by
    by_cases r:b∈X.fs
    ·obtain⟨_,o1,g,F⟩:=(Qdr).mem r
     rw[f]at g
     cases g
     obtain⟨sl,e1⟩:=u.slot b o f (I.ok.frf b r) r (hnx b)
     obtain⟨sl2,e2⟩:=up b _ e1 F
     exact⟨_,e2⟩
    ·obtain⟨o',e⟩:=(L.kp b o f QdE).2
     exact⟨o',k2 b o' e⟩,u.tups,u.frzs,u.tbls⟩
  loc:=by
   obtain⟨m,C,_⟩:=Xz
   exact⟨m,up.ns C,λi x v _ q _=>by
    rw[kP]at q
    split at q<;>cases q⟩
  cell:=λx c e=>by
   obtain⟨v,o,ho,F⟩:=I.cell x c e
   obtain⟨sl,e2⟩:=up c o ho λvs z=>by rw[F]at z;cases z
   exact⟨v,_,e2,F⟩
  free:=Xw,freeC:=XT
  pin:=λp hp=>by
   have hp':p∈X.pn:=by simpa using hp
   obtain⟨_,q2,q3⟩:=I.pin p (wL _ hp')
   exact⟨k2 _ _ (L.pn p hp'),q2,q3⟩
  hok:=HOk.onB Xh L.tr k1 k2
  len:=by simp}
end
inductive ExcCe(G:Gw)(x:Str):Prop where
 |mk C (h:PySem.W.nsIn G.K mainGlobals x=So (So (.ref C))/\G.mg x=So (.ref C)/\∃bs nid iid Bn,PySem.W.excIn G.K C bs nid=To/\ExcBaseFacts Bn nid iid bs):ExcCe G x
structure ExcC(G:Gw)(x:Str):Prop where
 ex:ExcCe G x
noncomputable abbrev Cx.mk1 (X:Cx) (E:AZ) (Y:AQ):Cx:={X with xe:=E,pn:=X.pn++Y}
noncomputable abbrev Cx.mk2 (X:Cx) (A:BX) (E:AZ) (Y:AQ):Cx:={X with xe:=E,pn:=X.pn++Y,A:=A,calm:=Fo}
def Cx.Ok.to1(ok:X.Ok):(Cx.mk1 X E Y).Ok:=WK
def Cx.Ok.of1(ok:(Cx.mk1 X E Y).Ok):X.Ok:=WK
def Cx.Ok.to2(ok:X.Ok)(f:A.frames=X.A.frames):(Cx.mk2 X A E Y).Ok:=⟨ok.mod,ok.kind,ok.glob,ok.blt,ok.above,ok.inj,ok.has,ok.cab,λh=>(by cases h),f.trans ok.frames,ok.stk,ok.exf,ok.bs,ok.bsz,ok.noex,ok.exfs,ok.funs,ok.frf⟩
def Inv.to1(I:BW):L2.Inv EZ [] Z H s:=⟨Cx.Ok.to1 I.ok,I.os,Xs,Yn,Xz,Yo,Xw,XT,λp f=>I.pin p (by simpa using f),Xh,Ys⟩
def Inv.of1(I:MV):L2.Inv X Y Z H s:=⟨Cx.Ok.of1 I.ok,I.os,Xs,Yn,Xz,Yo,Xw,XT,λp f=>I.pin p (by simpa using f),Xh,Ys⟩
def Inv.to2{g:AZ}(I:MV)(f:A.frames=X.A.frames):L2.Inv (Cx.mk2 X A g Y) [] Z H s:=⟨Cx.Ok.to2 (Cx.Ok.of1 I.ok) f,I.os,Xs,Yn,Xz,Yo,Xw,XT,λp q=>I.pin p q,Xh,Ys⟩
def Inv.of2{f:AZ}(I:L2.Inv (Cx.mk2 X A f Y) [] Z H s)(ok:X.Ok):L2.Inv X Y Z H s:=⟨ok,I.os,Xs,Yn,Xz,Yo,Xw,XT,λp g=>I.pin p (by simpa using g),Xh,Ys⟩
def Ctx.to1(C:Am):Ctx EZ G N nm:=⟨C.g,C.hN,C.nd,C.vis,C.cel,C.glo,C.sto,Xp,C.un,C.fr⟩
inductive Takese(G:Gw)(rn:Str)(cs:Ad):Prop where
 |mk CR (h:G.mg rn=So (.ref CR)/\∀c∈cs,∃C,PySem.W.nsIn G.K mainGlobals c=So (So (.ref C))/\G.mg c=So (.ref C)/\PySem.W.exmOne G.K (.ref C) (.ref CR)=So To):Takese G rn cs
structure Takes(G:Gw)(rn:Str)(cs:Ad):Prop where
 ex:Takese G rn cs
inductive tM(X:Cx)(call:Ag)(p:Px)(σ:Bp)(H:Hp)(Q:VK):Prop where
 |mk:∀env,ReadOk X.K H σ env->(((evD call p env).bind λd=>if iE d then .ok d else .sk).Good (λd=>∀v H',Same H H'->Q v H') AC)->tM X call p σ H Q
section
variable{U:Ag}{cpos:Pos}
def Jjo(C:Am)(hc:ExcC G x)(r:chkG nm x=To)(I:PE X e cG)(hs:Lx):
  PS X We (tS X U M H0 (.raise x p)):=by
 obtain⟨B,g1,g2,bs,nid,iid,Bn,hq,FB⟩:=hc.ex;simp only[chkG,Zc]at r;have f:X.mg x=So (.ref B):=by rw[C.mg];exact g2
 refine PS.weak (Jqf Xp (C.glo x r.1) (by rw[C.K];exact g1) f (by rw[C.K];exact hq) FB I (plainN.d r.2).1 hs) λD Z H⟨O,g,h⟩=>⟨O,g.readOk,?_⟩;simp only[exD]at h;cases q:evD U p O with
 |ok d=>
  rw[q]at h;simp only[Rs.bo]at h⊢;by_cases u:iE d=To
  ·rw[if_pos u]at h⊢;exactλv W s=>⟨rfl,λa s' F=>h B W f (g.same.trans s) a s' F⟩
  ·rw[if_neg u]at h;exact h.elim
 |ex c=>rw[q]at h;exact(show XW X H0 c from h).mono g.same
 |sk=>rw[q]at h;exact h.elim
def m_str{k}:PE X (.Constant Qc7 k pos) (tM X U .nil):=PE.weak Jrf λZ H Q⟨O,r,h⟩=>h _ H Ea
def PJ(X:Cx)(U:Ag)(vs:C6)(p:Px):Prop:=∀(Y:AQ)(s:Ak)(Z:Bp)(H:Hp)(O:Fm)(acc:Str)(Q:Str->Shared->Prop)(J:Ao),L2.Inv X Y Z H s->ReadOk X.K H Z O->evD U p O=.ok A2->J.all nF=To->
 acc.length+20000*Bg<=16000000->(∀out f H1,L2.Inv X Y Z H1 f->Same H H1->out.length<=Yh+20000*Bg->Q out f)->Joins Ay X.A X.xe NO acc Q s
def fK(x y:Str):(x++y).length=Xj+y.length:=PySem.strLen_append x y
def JrJ:∀c<256,(Nat.toDigits 16 c).length<=2:=by decide+kernel
theorem JgR(q c:Nat)(f:c<256):(Builtin.Str.reprChar q c).length<=10:=by
 have:=JrJ c f;unfold Builtin.Str.reprChar;repeat' split
 all_goals first|lia|(simp;done)|(simp;lia)
theorem JoG(x:Str)(q:∀c∈x.cps.toList,c<256):(reprText x).length<=10*x.length+2:=by
 have f:∀(l:AX)(acc:Array Nat),(∀c∈l,c<256)->(l.foldl (λout c=>out++(Builtin.Str.reprChar LK c).toArray) acc).size<=acc.size+10*l.length:=by
  intro l;induction l with
  |nil=>intro acc _;simp
  |cons c l B=>intro acc g;have u:=B (acc++(Builtin.Str.reprChar LK c).toArray) λc r=>g c (ZN _ r);have C:=JgR LK c (g c (mG ..));simp only[iI,Zl,Array.size_append,Zn]at u⊢;lia
 have h:=f Xx #[reprQuote x] q;show((x.cps.foldl _ #[reprQuote x]).push LK).size<=10*x.cps.size+2;rw[Array.size_push,<-Array.foldl_toList];simp only[kD,Zn,oO]at h⊢;lia
def Jvl:PJ X U [] .nil:=λY s Z H O acc Q J I r f q g k=>k acc s H I Ea Af
theorem Jvn(h:PJ X U vs p)(hz:z.length<=20000):PJ X U (.Constant Qc7 k pos::vs) p:=by
 intro Y s Z H O acc Q J I r q hd g F;refine Calls.Constant_str ⟨z,_,rfl,?_,?_⟩
 ·rw[fK];simp only[Zl]at g;show _<=16777216;lia
 ·refine h Y _ Z H O (acc++z) Q J DC r q hd (by rw[fK];simp only[Zl]at g;lia) λout C H1 B f u=>F out C H1 B f ?_;rw[fK]at u;simp only[Zl];lia
theorem JuK(he:PE X e Ia)(h:PJ X U vs p):PJ X U (.FormattedValue e 114 No pos::vs) (.cons G8 p):=by
 intro Y s Z H O acc Q J I r f hd hl kk;simp only[evD]at f;cases q:evD U (.var i) O with
 |ok d=>
  have g:=q;simp only[evD]at g;rw[g]at f;simp only[Rs.bo]at f;cases q2:evD U p O with
  |ok d2=>
   rw[q2]at f;cases d2 with
   |lst es=>
    simp only[Pu.D.asL,Rs.bo]at f;cases f;simp only[oG,Zc]at hd;cases d with
    |str z=>
     have C:z.length<=1000/\∀c∈z.cps.toList,c<256:=by have h0:=hd.1;simp only[nF,Zc,Zp,ZZ]at h0;exact h0
     have hz:=C.1;have hrl:=JoG z C.2;refine wpAny_FormattedValue_repr (ZV (he Y s Z H (λv W=>v=.str z/\Same H W) I ⟨O,r,by rw[q];exactλv W B rv=>⟨rv,B⟩⟩) (λu B⟨v,H1,I1,rv,hv,sm⟩=>?_) λ_ _ z=>z);subst hv;obtain⟨t,rfl⟩:=rv;refine wpAny_pyReprObj_gives c7 PySem.F.slot_str_repr PySem.F.entry_str_repr (PySem.F.args_str_repr_1 _) (gives_str_repr z t) ?_ rfl (by show _<=16777216;lia);have fin:∀t' F,∃y t,(Value.str (reprText z) t':Value)=.str y t/\(acc++y).length<=sizeLine/\Joins Ay X.A X.xe NO (acc++y) Q {B with toks:=F}:=λt' F=>by
      refine⟨reprText z,t',rfl,?_,?_⟩
      ·rw[fK];simp only[Zl]at hl;show _<=16777216;lia
      ·refine h Y _ Z H1 O (acc++reprText z) Q es (I1.tok F) (r.mono sm) q2 hd.2 (by rw[fK];simp only[Zl]at hl;lia) λout s2 H2 I2 s2' ho=>kk out s2 H2 I2 (sm.trans s2') ?_;rw[fK]at ho;simp only[Zl];lia
     exact formatField_str (s:={B with toks:=B.toks+1}) (λt' F=>fin t' F) (by show _<=16777216;lia)
    |_=>simp[nF]at hd
   |_=>cases f
  |ex c=>rw[q2]at f;cases f
  |sk=>rw[q2]at f;cases f
 |ex c=>have g:=q;simp only[evD]at g;rw[g]at f;cases f
 |sk=>have g:=q;simp only[evD]at g;rw[g]at f;cases f
theorem Jwn{B u:Expr}(h:PJ X U (B::u::vs) p)(F:lH p=To)(hl:20000*(B::u::vs).length<=16000000):PE X (.JoinedStr (B::u::vs) pos) cG:=by
 rintro Y s Z H Q I⟨O,r,g⟩;rcases xY U (O:=O) F with q|⟨J,q⟩
 ·rw[q]at g;exact g.elim
 rw[q]at g;simp only[Rs.bo]at g;by_cases f:iE A2=To
 ·rw[if_pos f]at g;refine wpAny_JoinedStr (h Y s Z H O Yw _ J I r q f (by show 0+_<=_;lia) λout s1 H1 C sm ho=>⟨?_,.str out,H1,C.tok _,Au,g _ _ sm⟩);have:Str.empty.length=0:=rfl;show _<=16777216;lia
 ·rw[if_neg f]at g;exact g.elim
end
section
variable{U:Ag}{a b:Expr}
theorem JjG:∀{J:Ao}{x:D}{n:Nat},idxD x J=So n->(∃d,J[n]? =So d/\d.eqv x=To)/\∀m d,m<n->J[m]? =So d->d.eqv x=Fo
 |[],x,n,h=>by simp[idxD]at h
 |d::J,x,n,h=>by
  unfold idxD at h
  split at h
  ·rename_i q
   cases h
   exact⟨⟨d,rfl,q⟩,λm r u=>absurd u Rv⟩
  ·rename_i q
   rw[yD]at h
   obtain⟨k,C,rfl⟩:=h
   obtain⟨⟨r,I,F⟩,B⟩:=JjG C
   refine⟨⟨r,by simpa using I,F⟩,λm g u f=>?_⟩
   cases m with
   |zero=>simp at f;subst f;simpa using q
   |succ m=>exact B m g Ae (by simpa using f)
end
section
open PySem.W PySem.Calls
variable{K:Frag}{x D:Addr}
structure ExKit(K:Frag)(D:Addr):Prop where
 g:findIn K Qc8 "__getattribute__"=So (So VP)
 n:findIn K Qc8 "__getattr__"=So No
 b:mroIn K D Pb=So To
 d:hasDictIn K D=To
 a:findIn K Qc8 "__class__"=So (So GL)
 s:specialIn K GL "__get__"=So (So UW)
 t:takesIn K GL=So To
 m:mroIn K D Qa1=So To
end
def lN(a b:XH):(keyV a).eqv (keyV b)=decide (a=b):=by cases a<;>cases b<;>first|exact(Zt nofun).symm|exact(Zs rfl).symm|exact(JqX _ _).symm|exact(JqZ _ _).symm
def JjC{d:D}(h:keyD Fo d=To):∃k,d=keyV k:=by
 cases d with
 |int i=>exact⟨.inl i,rfl⟩
 |str x=>exact⟨.inr x,rfl⟩
 |non=>exact⟨.non,rfl⟩
 |_=>simp[keyD,keyB]at h
def hX{k:XH}{y:V}(r:Rep K H (keyV k) y):y=kV k:=by cases k<;>cases r<;>rfl
noncomputable def fH (k:Mb):D:=.tup (JT k)
mutual
theorem Jpq:∀a b:KTr XH,(vB a).eqv (vB b)=decide (a=b)
 |.a k,.a j=>by rw[vB,vB,lN];exact zB.mpr ⟨λz=>by rw[z],λz=>by injection z⟩
 |.a k,.t js=>by rw[Zt (λz=>nomatch z)];cases k<;>rfl
 |.t ks,.a j=>by rw[Zt (λz=>nomatch z)];cases j<;>rfl
 |.t ks,.t js=>by rw[vB,vB,D.eqv,rY ks js];exact zB.mpr ⟨λz=>by rw[z],λz=>by injection z⟩
theorem rY:∀a b:List (KTr XH),eqvs (JT a) (JT b)=decide (a=b)
 |[],[]=>by simp[JT,eqvs]
 |[],_::_=>by simp[JT,eqvs]
 |_::_,[]=>by simp[JT,eqvs]
 |x::a,y::b=>by simp only[JT,eqvs,Jpq x y,rY a b,jG,Bool.decide_and]
end
def qR(a b:Mb):(fH a).eqv (fH b)=decide (a=b):=by show eqvs _ _=_;exact rY a b
mutual
theorem Jtx:∀{d:D},fA d=To->∃k,d=vB k/\kDep k=aO
 |.non,_=>⟨.a .non,rfl,rfl⟩
 |.bl _,h=>by simp[fA]at h
 |.int i,_=>⟨.a QcX,rfl,rfl⟩
 |.str x,_=>⟨.a QcY,rfl,rfl⟩
 |.tup J,h=>by
  simp only[fA,Zc]at h
  obtain⟨ks,e,q⟩:=oY h.2
  exact⟨.t ks,by rw[vB,e],by simp only[kDep,D.dep,q]⟩
 |.lst _,h=>by simp[fA]at h
 |.dct _ _ _ _,h=>by simp[fA]at h
 |.exc _,h=>by simp[fA]at h
 |.fn _ _,h=>by simp[fA]at h
 |.obj _ _ _,h=>by simp[fA]at h
 |.mls _ _,h=>by simp[fA]at h
 |.adr _,h=>by simp[fA]at h
theorem oY:∀{J:Ao},fB J=To->∃ks,J=JT ks/\nD ks=deps J
 |[],_=>⟨[],rfl,rfl⟩
 |d::J,h=>by
  simp only[fB,Zc]at h
  obtain⟨k,g,r⟩:=Jtx h.1
  obtain⟨ks,q,f⟩:=oY h.2
  exact⟨k::ks,by rw[JT,<-g,<-q],by simp only[nD,deps,r,f]⟩
end
mutual
theorem Jqw{K:Ai}{H:Hp}:∀(k:KTr XH){v:V},KH H k v->Rep K H (vB k) v
 |.a k,v,h=>by cases(show v=kV k from h);cases k<;>rfl
 |.t ks,v,⟨a,xs,e,h1,h2⟩=>⟨a,xs,e,.inl h1,JlC ks h2⟩
theorem JlC{K:Ai}{H:Hp}:∀(ks:Mb){xs:AA},KHs H ks xs->Reps K H (JT ks) xs
 |[],_,h=>h
 |k::ks,_,⟨v,r,e,h1,h2⟩=>⟨v,r,e,Jqw k h1,JlC ks h2⟩
end
def banV:Value->Nat
 |.str x _=>if banD x then 1 else 0
 |_=>0
def Ban2(K:Ai)(b:Addr):Prop:=∃(o:Obj)(f:BU)(n:Nat),K.lookup b=So o/\o.cls=.type "tuple"/\o.data=.seq f n/\2<='ϲ'.sum
def NoKT(K:Ai):Prop:=∀(y:Str)(b:Addr)(o:Obj)(f:BU)(n:Nat),ModT K y b->K.lookup b=So o->o.cls=.type "tuple"->Ym=.seq f n->2<='ϲ'.sum\/∃c,Value.ref c∈f.toList/\Ban2 K c
def Juj{d:D}{u:An}(h:fA d=To)(r:D7)(q:Fk):banC d=banV u:=by
 cases d with
 |non=>cases r;cases q;rfl
 |int i=>cases r;obtain⟨t,rfl⟩:=q;rfl
 |str x=>cases r;obtain⟨t,rfl⟩:=q;rfl
 |tup J=>obtain⟨a,xs,rfl,_⟩:=r;cases q;rfl
 |_=>simp[fA]at h
theorem fX:∀{J:Ao}{xs:AA}{us:Az},fB J=To->Reps K H J xs->Vals xs us->'Ҳ'.sum=(us.map banV).sum
 |[],_,_,_,r,q=>by cases r;cases q;rfl
 |d::J,_,_,h,⟨x,r,e,h1,h2⟩,q=>by
  subst e
  simp only[fB,Zc]at h
  cases q with
  |cons f g=>simp only[Zg,List.sum_cons,Juj h.1 h1 f,fX h.2 h2 g]
theorem JuP(F:Z5){d:D}{c:Addr}(h:fA d=To)(r:Rep K H d (.ref c))(z:Ban2 K c):False:=by
 obtain⟨o,its,n,B,z2,C,z4⟩:=z;cases d with
 |tup J=>
  obtain⟨a,xs,e,f,I⟩:=r;cases e;simp only[fA,Zc,Zp]at h;rcases f with f|⟨y,o',q,n',q0,g,q2,_,u,q4,U⟩
  ·rw[F _ _ B]at f;cases f
  ·rw[B]at g;cases g;rw[C]at u;cases u;have:=fX h.2 I U;lia
 |non=>cases r
 |int i=>cases r
 |str x=>cases r
 |_=>simp[fA]at h
theorem Jqn(u:Z5){c:Addr}(z:Ban2 K c):∀{J:Ao}{xs:AA}{us:Az},fB J=To->Reps K H J xs->Vals xs us->Value.ref c∈us->False
 |[],_,_,_,r,q,g=>by cases r;cases q;cases g
 |d::J,_,_,h,⟨x,r,e,h1,h2⟩,q,g=>by
  subst e
  simp only[fB,Zc]at h
  cases q with
  |cons f B=>
   rcases Zf.mp g with e|g
   ·subst e
    have:x=.ref c:=by
     cases x<;>first|exact(xB V.ref (Value.ref.inj f).symm)|(cases f;done)|(obtain⟨_,f⟩:=f;cases f)
    subst this;exact JuP u h.1 h1 z
   ·exact Jqn u z h.2 h2 B g
mutual
theorem Jqs{K:Ai}{H:Hp}(r:Z5)(q:NoKT K):∀(k:KTr XH){v:V},fA (vB k)=To->Rep K H (vB k) v->KH H k v
 |.a k,v,_,h=>hX h
 |.t ks,v,hk,⟨a,xs,e,f,h2⟩=>by
  simp only[vB,fA,Zc,Zp]at hk
  rcases f with f|⟨y,o,g,n,B,C,I,_,U,q4,u⟩
  ·exact⟨a,xs,e,f,JlQ r q ks hk.2 h2⟩
  ·rcases q y a o g n B C I U with z|⟨c,F,z⟩
   ·have:=fX hk.2 h2 u
    lia
   ·exact(Jqn r z hk.2 h2 u F).elim
theorem JlQ{K:Ai}{H:Hp}(g:Z5)(f:NoKT K):∀(ks:Mb){xs:AA},fB (JT ks)=To->Reps K H (JT ks) xs->KHs H ks xs
 |[],_,_,h=>h
 |k::ks,_,hk,⟨x,r,e,h1,h2⟩=>by
  simp only[JT,fB,Zc]at hk
  exact⟨x,r,e,Jqs g f k hk.1 h1,JlQ g f ks hk.2 h2⟩
end
def JsD{d:D}(h:keyD To d=To):∃J,d=.tup J/\fA d=To/\deps J<=7:=by
 cases d with
 |tup J=>
  refine⟨J,rfl,?_⟩;simp only[keyD,yH,nB,Zc,Zp]at h;rcases h with(h|h)|h
  ·have:∀J:List D,J.all keyI=To->'Ҳ'.sum=0/\fB J=To/\deps J=0:=λJ=>by
    induction J with
    |nil=>intro;exact Ma
    |cons d J r=>intro h;simp only[oG,Zc]at h;obtain⟨q,g,f⟩:=r h.2;cases d<;>first|(simp[keyI]at h;done)|simp[banC,q,fB,fA,g,deps,D.dep,f]
   obtain⟨q,g,f⟩:=this J h;simp[fA,q,g,f]
  ·have:∀J:List D,J.all keyS=To->'Ҳ'.sum=0/\fB J=To/\deps J=0:=λJ=>by
    induction J with
    |nil=>intro;exact Ma
    |cons d J r=>intro h;simp only[oG,Zc]at h;obtain⟨q,g,f⟩:=r h.2;cases d<;>first|(simp[keyS]at h;done)|(simp only[keyS,rA]at h;simp[banC,h.1,q,fB,fA,g,deps,D.dep,f])
   obtain⟨q,g,f⟩:=this J h;simp[fA,q,g,f]
  ·exact h
 |_=>simp[keyD,keyB]at h
def Jmi(h:Z5):NoH K Br:=λb o e=>by
 by_cases q:b∈L
 ·exact rE q
 ·rw[Jy q];exact h b o e
theorem zQ{d:D}{y:V}(u:NoKT K)(B:keyD To d=To)(r:Rep K H d y):∃b k,y=.ref b/\d=fH k/\(NoH K H->KB H k b):=by obtain⟨J,rfl,f,F⟩:=JsD B;have g:=f;simp only[fA,Zc]at g;obtain⟨ks,e,q⟩:=oY g.2;subst e;obtain⟨b,xs,rfl,_⟩:=id r;exact⟨b,ks,rfl,rfl,λC=>⟨Jqs C u (.t ks) f r,by lia⟩⟩
section
variable{κ:Type}[DecidableEq κ]{g:κ->D}
theorem lX(u:∀a b,(g a).eqv (g b)=decide (a=b)){k:κ}:∀{f:Cg}{vs:Ao},Reps K H vs (f.map (·.2))->match yA (g k) (f.map λp=>g p.1) vs with
  |some d=>∃v,valV f k=So v/\Rep K H d v
  |none=>valV f k=No
 |[],vs,h=>by
  cases vs with
  |nil=>rfl
  |cons _ _=>obtain⟨_,_,e,_⟩:=h;cases e
 |p::f,vs,h=>by
  cases vs with
  |nil=>cases h
  |cons d vs=>
   obtain⟨x,r,e,B,C⟩:=h
   simp only[Zg,jG]at e
   obtain⟨rfl,rfl⟩:=e
   simp only[Zg,yA,u]
   by_cases q:p.1=k
   ·simp only[q,decide_true,if_true]
    exact⟨p.2,oR q,B⟩
   ·simp only[q,decide_false,Zh,Zo]
    have F:=lX u (k:=k) C
    rw[iR q];exact F
def pV(q:∀a b,(g a).eqv (g b)=decide (a=b)){k:κ}(f:Cg):((f.map λp=>g p.1).any λd=>d.eqv (g k))=(valV f k).isSome:=by rw[<-kR,yF];simp only[xO,q]
def zV(F:∀a b,(g a).eqv (g b)=decide (a=b)){k:κ}{d:D}(C:D7){f:Cg}{vs:Ao}(h:Reps K H vs (f.map (·.2))):
  (putD (g k) d (f.map λp=>g p.1) vs).1=(putK f k v).map (λp=>g p.1)/\Reps K H (putD (g k) d (f.map λp=>g p.1) vs).2 ((putK f k v).map (·.2)):=by
 have B:=pV F (k:=k) f;rw[<-kR]at B;unfold putD putK;rw[B];by_cases q:(f.any λkv=>decide (kv.1=k))=To
 ·rw[if_pos q,if_pos q];refine FD
  ·show f.map _=_;rw[uD];refine List.map_congr_left λp _=>?_;show g p.1=g (if p.1=k then(p.1,v)else p).1;split<;>rfl
  ·clear q B;show Reps K H (setD _ _ _ _) _;induction f generalizing vs with
   |nil=>
    cases vs with
    |nil=>rfl
    |cons _ _=>obtain⟨_,_,e,_⟩:=h;cases e
   |cons p f ih=>
    cases vs with
    |nil=>cases h
    |cons u vs=>
     obtain⟨x,r,e,h1,U⟩:=h;simp only[Zg,jG]at e;obtain⟨rfl,rfl⟩:=e;simp only[Zg,setD,F];refine⟨_,_,rfl,?_,ih U⟩;by_cases I:p.1=k
     ·simp only[I,decide_true,if_true];exact C
     ·simp only[I,decide_false,Zh,Zo];exact h1
 ·rw[if_neg q,if_neg q];refine⟨by simp,?_⟩;simp only[lB,Zg,vD];exact h.append (Reps.one C)
end
def dk_k{z:Bool}{ks:Ao}(h:DK H a Fo z ks xs):∃kvs:List (L2.Key×V),Rd H a Bh/\ks=kvs.map (λp=>keyV p.1)/\xs=kvs.map (·.2):=by
 cases z<;>obtain⟨kvs,f,g⟩:=h
 ·exact Qbs
 ·exact Qbt
def dk_t{z:Bool}{ks:Ao}(h:DK H a To z ks xs):∃kvs:List (List (KTr XH)×V),Rd H a BL/\ks=kvs.map (λp=>fH p.1)/\xs=kvs.map (·.2):=by
 cases z<;>obtain⟨kvs,f,g⟩:=h
 ·exact Qbs
 ·exact Qbt
section
variable{κ:Type}[DecidableEq κ]{kd:Qbr}{d:Addr}{xs:List (κ×Addr×Value)}
def Jly(u:FW):MeetsIn prog w (Builtin.«dict.__len__» ⟨bR,[]⟩) (λ_ R s=>∃xs,s.heap.DictOfH kd d xs/\R (.ok (.ret (.int Ac W7))) {s with toks:=W7+1}):=
 .of_wp λA R s g=>by
  obtain⟨xs,⟨o,es,ep,r,B,f,q,_⟩,h⟩:=g
  (show wpAny _ _ (dictSize d>>=_) _ _ s);(unfold dictSize);(refine Za (Za (wO r f (Zb ?_))))
  (show wpAny _ _ (Builtin.Dict.pendingCount d>>=_) _ _ s);(refine Za (wpAny_pendingCount_other u ?_));(refine wpAny_ret_mkInt ?_)
  rw[Nat.add_zero,size_of_entries q];exact h
def JmW(u:FW)(f:N4)(hz:(Ac:Int)<2^63)(h:Q (.int Ac (W7+1)) {s with toks:=W7+1+1}):
  wpAny As A (Builtin.«len» ⟨bR,[]⟩) (λg q=>∃r,g=.done (.ret r)/\Q r q) E s:=by (unfold Builtin.«len»);(refine Za (m:=oneArg "len" _) (Zb ?_));refine Za (m:=callSpecial? D3 (oS "__len__")) (ZJ (name:=oS "__len__") f.typeIs Qeg (call_meetsIn Qeg f.typeIs F.entry_dict_len (F.args_dict_len_1 _) (Jly (kd:=kd) u) Hr));(show wpAny _ _ _ _ _ {s with toks:=W7+1});(refine Za (vA (Zb ?_)));(refine Za (wpAny_letGo ?_));(show wpAny _ _ (if((Ac:Nat):Int)<0 then _ else _) _ _ _);(rw[if_neg 'c']);(show wpAny _ _ (if((Ac:Nat):Int)≥2^63 then _ else _) _ _ _);(rw[if_neg 'c']);exact Za (wpAny_mkInt (Zb Dd))
def JmO(g:FW)(f:N4)(hz:(Ac:Int)<2^63)(h:Q (.int Ac (W7+1)) {s with toks:=W7+1+1}):wpAny As A (PySem.call Et bR) Q E s:=
 Calls.call_function_entry kind_len plain_len entry_len (args_len1 _) (JmW g f hz h)
end
section
variable{X:Cx}{U:Ag}{G:Gw}{N:Ad}{nm:Bf}{e a b:Expr}{p pa pb:Px}{pos p1:Pos}{x:Str}{i:Nat}{M:AX}{H0:Hp}{px:Pos}
def Jlt{z:Bool}{ks vs:Ao}{g:D}{x y:V}(I:t=To->NoKT X.K)(r1:Rep X.K H (.dct t z ks vs) x)(F:Rep X.K H g y)(u:keyD t g=To):∃l o,x=.ref l/\DGet X.K H l y o/\(ks.any λd=>d.eqv g)=bU/\∀d,yA g ks vs=So d->∃v,o=So v/\Rep X.K H d v:=by
 obtain⟨l,xs,rfl,B,C⟩:=r1;cases t with
 |false=>obtain⟨f,q,rfl,rfl⟩:=dk_k B;obtain⟨k,rfl⟩:=JjC u;have:=hX F;subst this;refine⟨l,valV f k,rfl,.inl ⟨f,k,q,rfl,rfl⟩,pV lN f,λd r=>?_⟩;have:=lX lN (k:=k) C;rw[r]at this;exact this
 |true=>obtain⟨f,q,rfl,rfl⟩:=dk_t B;obtain⟨b,k,rfl,rfl,hb⟩:=zQ (I rfl) u F;refine⟨l,valV f k,rfl,.inr ⟨f,k,b,q,rfl,hb,rfl⟩,pV qR f,λd r=>?_⟩;have:=lX qR (k:=k) C;rw[r]at this;exact this
def eDGet(C:Am){t':Bool}(hK:t'=To->NoKT G.K)(ha:AH)(hb:BZ)(hs:NoSl b):PE X Ml (tI X U (.bi (.dGet t') pa pb)):=by
 have hu:=C.un;refine PE.weak (JtG Ae ha hb hs) λZ H Q B=>?_;obtain⟨O,r,h⟩:=B;refine tI.then r h λdx x H1 s1 r1 q1 h1=>tI.then q1 h1 λdy y H2 s2 r2 q2 I=>?_;obtain⟨t,z,ks,vs,rfl,f⟩:=JiP I;split at f
 ·rename_i u;obtain⟨rfl,u⟩:=u;obtain⟨l,o,e1,g,_,hl⟩:=Jlt (by rw[C.K];exact hK) HA r2 u;cases q:yA dy ks vs with
  |none=>rw[q]at f;exact f.elim
  |some d=>rw[q]at f;obtain⟨v,F,rv⟩:=hl d q;subst F;exact⟨l,v,e1,g,Out.now f rv⟩
 ·exact f.elim
def Jre{g:Bool->Bool}{t':Bool}{r u:D}{x y:V}{P:D->Prop}{E:DL}(B:t'=To->NoKT X.K)(r1:Rep X.K H r x)(r2:Rep X.K H u y)
  (h:(onD u λt ks _=>if t=t'/\keyD t r=To then .ok (.bl (g (ks.any λd=>d.eqv r)))else .sk).Good P E):∃l o,y=.ref l/\DGet X.K H l x o/\P (.bl (g bU)):=by
 obtain⟨t,z,ks,vs,rfl,f⟩:=JiP h;split at f
 ·rename_i q;obtain⟨rfl,q⟩:=q;obtain⟨l,o,I,F,C,_⟩:=Jlt B r2 r1 q;rw[C]at f;exact⟨l,o,I,F,f⟩
 ·exact f.elim
def tDIn(C:Am){t':Bool}(u:t'=To->NoKT G.K)(B:AH)(hb:BZ)(hm:'в' (behindInMarks .In b=Fo) Al):PT X Sg (tT X U (.bi (.dIn t') pa pb)):=by have hu:=C.un;refine PT.weak (dQ (JvS Ae B hb) hm) λZ H Q f=>?_;obtain⟨O,r,h⟩:=f.asTest;refine tI.then r h λdx x H1 s1 r1 q1 F=>tI.then q1 F λdy y H2 s2 r2 q2 h2=>?_;obtain⟨l,o,I,g,q⟩:=Jre (g:=id) (by rw[C.K];exact u) HA r2 h2;exact PK
def tDNi(C:Am){t':Bool}(u:t'=To->NoKT G.K)(B:AH)(hb:BZ)(hm:behindInMarks .NotIn b=Fo):PT X Tu (tT X U (.bi (.dNi t') pa pb)):=by have hu:=C.un;refine PT.weak (dQ (JkZ Ae B hb) hm) λZ H Q f=>?_;obtain⟨O,r,h⟩:=f.asTest;refine tI.then r h λdx x H1 s1 r1 q1 F=>tI.then q1 F λdy y H2 s2 r2 q2 h2=>?_;obtain⟨l,o,I,g,q⟩:=Jre (g:=not) (by rw[C.K];exact u) HA r2 h2;exact PK
theorem JuW{a:Addr}{kvs:List (List (KTr XH)×V)}(I:AG)(e:Rd H a BL)(h:∀t g,Inv X Y Z H g->Q (.int Bb t) g):wpAny Ay A (PySem.call Et B9) Q E s:=by obtain⟨z,r,xs,f,q⟩:=gH Xh e;refine JmO r q (by rw[<-pG f];rw[ZK]at z;lia) ?_;rw[<-pG f];exact h _ _ DC
def JsB:gA X Et (λxs H Q=>∃x d,xs=[x]/\Rep X.K H d x/\(op1 .dLen d).Good B0 AC):=by
 rintro Y s Z H xs us Q I F⟨x,d,e,r,h⟩;subst e;obtain⟨u,rfl,C⟩:=lA F;cases d with
 |dct t z ks vs=>
  obtain⟨l,xs,rfl,q,h2⟩:=r;cases C;cases t with
  |false=>obtain⟨kvs,f,rfl,rfl⟩:=dk_k q;refine d_len I f λt B g=>TZ;simp only[op1,Ze]at h;exact Out.now h rfl
  |true=>obtain⟨kvs,f,rfl,rfl⟩:=dk_t q;refine JuW I f λt B g=>TZ;simp only[op1,Ze]at h;exact Out.now h rfl
 |_=>exact(show False from h).elim
def cDLen(C:Am)(q:G.mg "len"=No)(r:AH)(g:gloB nm "len"=To)(f:C4):PE X Uu (tI X U (.un .dLen pa)):=eQ C JsB r g q Y0 Ah Ah f
def Jvg(C:Am)(h:Dn)(hs:swapsWith Qa2 (So DU) Xi WU=pure Fo):PS X (.Assign [.Name x px] Qa2 pos) (tS X U M H0 (.ownD Fo i)):=by
 obtain⟨B,F,h3,h4,h5⟩:=chkO.at h;obtain⟨u,k2⟩:=C.sto x F;refine PS.weak (pF (by rw[C.hN];exact C.nd) (by rw[C.hN];exact B) u JpI hs k2) λD Z H f=>?_;obtain⟨O,e,h⟩:=f;intro l g;have s:Same H (upd H l Qc4):=λb o q=>by rw[Je 'Ћ'];exact q
 obtain⟨r,I⟩:=e.putOwn s (i:=i) (d:=.dct Fo Fo [] []) g λHh tp=>⟨rfl,[],QaB,rfl⟩;exact h _ _ r ⟨I,λ_=>s⟩
theorem aPut{b v:Expr}{pk pv:Px}{ps:Pos}(C:Am){t':Bool}(hK:t'=To->NoKT G.K)(h:Dn)(hb:Qdo)(hv:Qy)(h1:sepP M pk=To)(h2:sepP M pv=To)
  (hs:swapsWith v (So (.Subscript DU b ps)) Xi WU=pure Fo):PS X (.Assign [.Subscript DU b ps] v pos) (tS X U M H0 (.put Fo t' i pk pv)):=by
 obtain⟨g1,g2,g3,g4,g5⟩:=chkO.at h;obtain⟨d1,d2⟩:=plainN.d g3;have hu:=C.un;refine PS.weak (JmE Ae (qD (by rw[C.hN];exact g1) Lg d1 d2) (pE hb) (pE hv) hs) λD Z H zz0=>?_;obtain⟨O,e,h⟩:=zz0;simp only[exD]at h;cases q:O[i]? with
 |none=>rw[q]at h;exact h.elim
 |some o=>
  rw[q]at h;cases o with
  |none=>exact h.elim
  |some d=>
   cases d with
   |dct t z ks vs=>
    cases z with
    |true=>exact h.elim
    |false=>
     simp only at h;obtain⟨l,u,h0,hz,xs,hl,hr⟩:=e.own i _ g4 q;refine Kv;rw[Ju U O h2];refine(Rs.gB.mp h).mono (λdv hdv v H1 s1 k1 r1=>?_) λc z=>z.mono Yg;have I:=e.grow s1;refine⟨.ref l,u,JL M 0 O,Ow M O Z,I.ows,I.readHid,?_⟩;rw[Ju U O h1];refine(Rs.gB.mp hdv).mono (λdk r y f s2 k2 r2=>?_) λc z=>z.mono I.same0;split at r
     ·exact r.elim
     ·rename_i g;simp only[ZU,jC,nB,not_or,rA,rO,Bool.not_eq_false,ZP,Decidable.not_not,ZD,ZC,ne_eq]at g;obtain⟨⟨htt,hc1⟩,hc2⟩:=g;have g:=fG hc1 hc2;subst htt;have e2:=I.grow s2;have f2:Same DE cI:='ʑ'.hid;have f3:Same HB cI:=(Fz.sm s2).hid;have F:∀ob,OwnIs X.K cI (upd f l ob) l (.dct t Fo (putD dk dv ks vs).1 (putD dk dv ks vs).2)->D.nx Z (upd f l ob):=λob nw=>by obtain⟨e3,f4⟩:=e2.change (o:=ob) g4 q u nw;exact r _ _ e3 ⟨'ʑ'.trans f4,λz=>by cases z⟩
      cases t with
      |true=>
       obtain⟨b',k,rfl,rfl,hb'⟩:=zQ (by rw[C.K];exact hK rfl) g.1 r2;obtain⟨kvs,w1,rfl,rfl⟩:=hl;have w2:f l=So BL:=s2 _ _ (s1 _ _ w1);have B:Bb<1000000:=by simpa using g.2
       have hb2:NoH X.K f->KB f k b':=λz=>(hb' (Jmi z)).keep λ_ _ q=>hid_same _ _ q;refine⟨l,_,rfl,DPut.t (k:=k) w2 hb2 (by show _<16777216;lia),F _ ?_⟩;obtain⟨p1,p2⟩:=zV qR (k:=k) (r1.mono f3) (hr.mono f2);exact Qb1
      |false=>
       obtain⟨k,rfl⟩:=JjC g.1;have hy:=hX r2;subst hy;obtain⟨kvs,w1,rfl,rfl⟩:=hl;have w2:f l=So Bh:=s2 _ _ (s1 _ _ w1);have B:Bb<1000000:=by simpa using g.2
       refine⟨l,_,rfl,DPut.k (k:=k) w2 (by show _<16777216;lia),F _ ?_⟩;obtain⟨p1,p2⟩:=zV lN (k:=k) (r1.mono f3) (hr.mono f2);exact Qb1
   |_=>exact h.elim
end
def JsM(I:BW){kvs:List (L2.Key×V)}(e:H l=So Bh):∃o,L2.Inv X Y Z (upd H l (.frz o Bh)) s:=by obtain⟨z,u,vs,f,g⟩:=JwI Xh e;obtain⟨o,es,ep,r,_⟩:=id g;exact⟨o,I.write (t':=W7) (x:=l) (e:=l) (h':=W6) (by rw[e];exact iA) Bd Kh ⟨o,r⟩ ⟨r,z,u,vs,f,g⟩⟩
def Jrv(I:BW){kvs:List (List (KTr XH)×V)}(e:H l=So BL):∃o,L2.Inv X Y Z (upd H l (.frz o BL)) s:=by obtain⟨z,u,xs,g,o,es,ep,f,F,B,C,r⟩:=(show ObjOk Xa X.w H W6 l BL from I.hok l _ e);refine⟨o,I.write (t':=W7) (x:=l) (e:=l) (h':=W6) (by rw[e];exact iA) Bd Kh ⟨o,f⟩ ⟨f,z,u,xs,KT.keeps g λb U q=>?_,o,es,ep,f,F,B,C,r⟩⟩;rw[Je (tU q e (λz=>nomatch z))];exact q
section
variable{U:Ag}{a b:Expr}
def aRetF(C:Am)(h:Dn):PS X (.Return (So DU) pos) (tS X U M H0 (.retF i)):=by
 obtain⟨g1,g2,g3,g4,g5⟩:=chkO.at h;obtain⟨d1,d2⟩:=plainN.d g3;rintro Y s Z H D I⟨O,e,h⟩;simp only[exD]at h;cases q:O[i]? with
 |none=>rw[q]at h;exact h.elim
 |some o=>
  rw[q]at h;cases o with
  |none=>exact h.elim
  |some d=>
   cases d with
   |dct t z ks vs=>
    cases z with
    |true=>exact h.elim
    |false=>
     obtain⟨l,hσ,h0,hz,xs,hl,hr⟩:=e.own i _ g4 q;have hlo:l∈Ow M O Z:=mem_Ow.mpr ⟨i,g4,_,q,hσ⟩;have fin:∀F,Rep X.K aX QH BS->D.rt BS aX:=λF r=>h _ _ (λb o' B=>by rw[Je (Ji B h0)];exact e.same b o' B) r;have rr:∀F,Reps X.K aX vs xs:=λF=>hr.mono λb o' B=>by
      by_cases z:b∈Ow M O Z
      ·rw[rE z]at B;cases B
      ·rw[Jy z]at B;rw[Je (λk:b=l=>z (k▸hlo))];exact B
     refine ZV (jV (qD (by rw[C.hN];exact g1) Lg d1 d2) Y s Z H ⟨λ_ _=>False,λv W=>v=.ref l/\W=H,λ_ _=>False,λ_ _=>False⟩ I ⟨.ref l,hσ,rfl,rfl⟩) (λf s1 r=>?_) λ_ _ z=>z;cases f with
     |next=>obtain⟨_,_,_,z⟩:=r;exact z.elim
     |brk=>obtain⟨_,_,_,z⟩:=r;exact z.elim
     |cont=>obtain⟨_,_,_,z⟩:=r;exact z.elim
     |ret u=>
      obtain⟨v,σ',W,I',rv,rfl,rfl⟩:=r;cases t with
      |false=>obtain⟨g,w1,rfl,rfl⟩:=hl;obtain⟨o,I2⟩:=JsM I' w1;exact Wy
      |true=>obtain⟨g,w1,rfl,rfl⟩:=hl;obtain⟨o,I2⟩:=Jrv I' w1;exact Wy
   |_=>exact h.elim
def Jvq:gA X Ib (λxs H Q=>∃x d,xs=[x]/\Rep X.K H d x/\(op1 .strI d).Good B0 AC):=by
 rintro Y s Z H xs g Q I f⟨x,d,e,r,h⟩;subst e;cases d with
 |int i=>
  cases r;simp only[op1]at h;split at h
  ·rename_i C;have B:i.natAbs.log2<1920:=by
    by_cases q:i.natAbs=0
    ·rw[q];decide
    ·exact Zw ((Nat.log2_lt q).mpr C) AO
   exact JgC Y s Z H _ g Q I f ⟨i,rfl,B,Out.now h rfl⟩
  ·exact h.elim
 |str y=>
  cases r;simp only[op1]at h;split at h
  ·obtain⟨u,rfl,t,rfl⟩:=lA f;exact PySem.P.str_of_str ⟨.str y,H,I,Au,Out.now h rfl⟩
  ·exact h.elim
 |_=>exact(show False from h).elim
def cStr(C:Am)(q:G.mg "str"=No)(r:AH)(g:gloB nm "str"=To)(f:C4):PE X (.Call (.Name "str" p1) [a] [] pos) (tI X U (.un .strI pa)):=zL C Jvq r g q PyProof.Rows.boot_str Ah Ah f
end
section
variable{U:Ag}{M2 is:AX}{b:Sx}{rest:Cj}
def JuT(g:BF)(q:QL):PS X Ie (tS X U M H0 (.eff p)):=by refine PS.weak (nN g q) λD Z H f=>?_;obtain⟨O,e,h⟩:=f;refine EV;exact(Rs.gB.mp h).mono (λd u v W s r=>u Z W Hb (Chg.of s)) λc z=>z.mono XQ
end
end Rd
namespace Rd
open PySem PySem.Spec PyProof.Rows L2
open Sem (wp)
variable{A:BX}{prog:Bk}{a:Addr}
def Jfc:typeLookup G4 "keys"=pure No:=by rw[iO,nO];kernel_rfl
def Jec{w:AY}{E:AZ}{s:Ak}{o:Obj}{xs:BU}{k:Nat}{Q:Eg}
  (n:s.heap.get? a=So o) (r:o.cls=.type "tuple") (f:o.data=.seq xs k) (u:o.dict=No) (z:A8)
  (h:∀j m,(∀b o,s.heap.get? b=So o->j.get? b=So o)->Q No {s with heap:=j,toks:=m}):
  wpAny As A (getAttr? Aw "keys") Q E s:=by
 obtain⟨c,dct,v,sl⟩:=o;simp only at r f u;subst r f u;obtain⟨B,g,d,m,y⟩:=s;have q:∀l,(Qd6:Shared).TypeIs Aw "tuple":=λ_=>⟨_,n,rfl⟩;have M:=sub_AttributeError;have L:=F.slot_tuple_getattribute.lookup;have G:=F.slot_tuple_getattribute.bind Aw;have H:=am_tuple_getattr_none;unfold getAttr? getAttrBy? getAttrBy;repeat(any_goals(first|assumption|exact q _|((with_reducible show wpAny _ _ (call (Value.builtin "tuple.__getattribute__") _ _) _ _ _);refine sA F.slot_tuple_getattribute (q _) am_entry_tuple_getattribute (F.args_tuple_getattribute_2 _ _) (meets_getattribute_miss_tuple a xs k sl "keys" _ Jfc Ah (by size_fits)) O6)|wp_step))
 obtain⟨J,I,C⟩:=i.there;show wpAny _ _ Ur _ _ _;unfold getattributeRaised;repeat(any_goals(first|assumption|wp_step))
 exact h _ _ i.keeps
def Jhb:typeLookup LR "keys"=pure No:=by rw[iO,nO];kernel_rfl
def Jem{w:AY}{E:AZ}{s:Ak}{o:Obj}{xs:BU}{k:Nat}{Q:Eg}
  (n:s.heap.get? a=So o) (r:o.cls=.type "list") (f:o.data=.seq xs k) (u:o.dict=No) (z:A8)
  (h:∀j m,(∀b o,s.heap.get? b=So o->j.get? b=So o)->Q No {s with heap:=j,toks:=m}):
  wpAny As A (getAttr? Aw "keys") Q E s:=by
 obtain⟨c,dct,v,sl⟩:=o;simp only at r f u;subst r f u;obtain⟨B,g,d,m,y⟩:=s;have q:∀l,(Qd6:Shared).TypeIs Aw "list":=λ_=>⟨_,n,rfl⟩;have M:=sub_AttributeError;have L:=F.slot_list_getattribute.lookup;have G:=F.slot_list_getattribute.bind Aw;have H:=am_list_getattr_none;unfold getAttr? getAttrBy? getAttrBy;repeat(any_goals(first|assumption|exact q _|((with_reducible show wpAny _ _ (call (Value.builtin "list.__getattribute__") _ _) _ _ _);refine sA F.slot_list_getattribute (q _) am_entry_list_getattribute (F.args_list_getattribute_2 _ _) (meets_getattribute_miss_list a xs k sl "keys" _ Jhb Ah (by size_fits)) O6)|wp_step))
 obtain⟨J,I,C⟩:=i.there;show wpAny _ _ Ur _ _ _;unfold getattributeRaised;repeat(any_goals(first|assumption|wp_step))
 exact h _ _ i.keeps
def uS:plainId "dict.update.loop"=To:=by decide+kernel
def Jcw:entryFor table "dict.update.loop"=So Builtin.«dict.update.loop»:=entryFor_of_tree (by kernel_rfl)
section
variable{w:AY}{R:He}{I d:Addr}{fp wr:A3}{n:Nat}{P:Nat->Value->Prop}{St:Fn}{κ:Type}[DecidableEq κ]{knd:KeyKind prog w κ}
noncomputable def nC (rows:CK) (i:Nat):List (κ×Value):=(rows.take i).foldl (λa r=>stored a r.1 r.2) []
def JlY(a:CK)(k:κ)(v:An):(stored a k v).length<=Xe+1:=by unfold stored;split<;>simp
def nZ{rows:CK}{i:Nat}{r:κ×Value}(h:rows[i]? =So r):nC rows AE=stored '亁' r.1 r.2:=by unfold nC;rw[tK,h];simp[List.foldl_append]
def Jfu(rows:CK):∀i,'亁'.length<=i
 |0=>by simp[nC]
 |i+1=>by
  cases h:rows[i]? with
  |none=>
   have:nC rows AE=nC rows i:=by unfold nC;rw[tK,h];simp
   rw[this];exact Nat.le_succ_of_le Hy
  |some r=>rw[nZ h];exact ZM (JlY _ _ _) (Nat.succ_le_succ Hy)
theorem JoS(Z:Walks prog w Xk I fp wr n P St)(X:d∉fp)(W:Heap){Dk:Fn}(r:∀i h g,Dk i h->(∀b o,b∉wr->h.get? b=So o->g.get? b=So o)->Dk i g)
  (hit:∀i v,P i v->∃b L M,v=.ref b/\b∉wr/\b≠d/\IsTup W b #[L,M]/\∀(s:Ak)(Q:Do)(E:AZ),Dk i s.heap->(∀b o,b∉wr->b≠d->W.get? b=So o->s.heap.get? b=So o)->
   (∀g C,Dk AE g->(∀b,b≠d->g.get? b=s.heap.get? b)->Q () {s with heap:=g,toks:=C})->wpAny As Xk QbM Q E s):
  ∀(k i:Nat)(s:Ak)(t:Tok)(j:Int),n-i=k->i<=n->St i s.heap->Dk i s.heap->(∀b o,b∉wr->b≠d->W.get? b=So o->s.heap.get? b=So o)->
  (∀g C,Dk n g->(∀b o,b∉wr->b≠d->W.get? b=So o->g.get? b=So o)->R Q6 {s with heap:=g,toks:=C})->
  codeAny As A (.builtin "dict.update.loop" ⟨[.ref d,.ref I,.int j t,.none],[]⟩) R s:=by
 intro k;induction k with
 |zero=>
  intro i s t j hk hi B hD l hR;have hin:i=n:=by lia
  subst hin;refine tE Jcw ?_;rw[xG uS _];show wpAny _ Xk (pyNext (.ref I)>>=_) _ _ s;refine Za (Z.done s _ _ B λg C f=>?_);show wpAny _ _ (Builtin.Dict.addKeywords d []>>=_) _ _ _;refine Za (Zb (Zb ?_));exact hR g C Qcj λb o u F q=>f b o u HR
 |succ k ih=>
  intro i s t j hk hi B hD l hR;have H:i<n:=by lia
  refine tE Jcw ?_;rw[xG uS _];show wpAny _ Xk (pyNext (.ref I)>>=_) _ _ s;refine Za (Z.item i s _ _ H B λv g C hP J f=>?_);obtain⟨b,L,M,rfl,N,hb2,⟨Y,g1,g2,m,g3⟩,U⟩:=hit i v hP;have G:=f b Y N (l b Y N hb2 g1);have hT:({s with heap:=g,toks:=C}:Shared).TypeIs CU "tuple":=⟨Y,G,g2⟩;refine Za ?_;try with_reducible refine vA ?_
  refine Za (wpAny_tryCatch ?_);show wpAny _ _ (Builtin.Dict.pairItems CU) _ _ _;unfold Builtin.Dict.pairItems;refine Za (wD hT ?_);rw[if_pos (by rfl)];refine Za (uB G g3 (Zb ?_));show wpAny _ _ (holding [L,M] QbM) _ _ _;try with_reducible refine vA ?_
  refine U _ _ _ Qcj (λb o u F q=>f b o u HR) λh'' tk'' O y=>?_;refine Zb QcQ;refine ih AE _ _ _ Ae H (Z.frame _ _ _ J λb hb o e=>y b (λz=>X (by rw[<-z];exact hb))▸e) O (λb o u F q=>?_) λh3 tk3 q1 q2=>hR h3 tk3 q1 q2;exact(y b F).trans (f b o u HR)
def Jee{E:AZ}{s:Ak}{o:Obj}{f:BU}{m:Nat}(T:Bool)(ho:s.heap.get? a=So o)(N:o.cls=.type (if T then "tuple" else "list"))(hd:o.dict=No)(j:o.data=.seq f m)(hA:A8)
  {Dk:Fn} (d0:Dk 0 (s.heap.push {cls:=.type "dict",data:=.dict #[]})) (hkeep:∀i h h',Dk i h->(∀b o,(b=Aa\/∃q,s.heap.get? b=So q)->h.get? b=So o->h'.get? b=So o)->Dk i h')
  (hit:∀(i:Nat)(v:An),f[i]? =So v->∃b kv xv,v=Value.ref b/\IsTup W6 b #[kv,xv]/\∀(G:Ak)(Q:Do)(E:AZ),Dk i G.heap->(∀b o,s.heap.get? b=So o->G.heap.get? b=So o)->
   (∀h' r,Dk AE h'->(∀b,b≠Aa->h'.get? b=G.heap.get? b)->Q () {G with heap:=h',toks:=r})->wpAny As XY (dictSet Aa kv xv) Q E G) {Q:AZ}
  (h:∀h' r,Dk f.size h'->(∀b o,s.heap.get? b=So o->h'.get? b=So o)->Q (Value.ref Aa) {s with heap:=h',toks:=r}):
  wpAny As A (call Ke Ln) Q E s:=by
 refine callType_codes (Q₁:=λobj y=>obj=.ref Aa/\y={s with heap:=s.heap.push {cls:=.type "dict",data:=.dict #[]}}) F.kt_called_dict (F.kt_typeCall_dict_1 _) F.entry_dict_init (kt_code_dict_new _ Ce) ?_;rintro obj y⟨rfl,rfl⟩;have u:(s.heap.push {cls:=.type "dict",data:=.dict #[]}).DictOf 'ώ' Aa []:=Heap.DictOf.new W6;have l:(s.heap.push {cls:=.type "dict",data:=.dict #[]}).get? a=So o:=Zd _ ho;have hT1:({s with heap:=s.heap.push {cls:=.type "dict",data:=.dict #[]}}:Shared).TypeIs Aw (if T then "tuple" else "list"):=⟨o,l,N⟩;refine⟨u.typeIs,F.args_dict_init_2 _ _,?_⟩;unfold Builtin.«dict.__init__»;refine Za ?_;unfold Builtin.Dict.selfAndRest;refine Za (wpAny_notOrdered_dict u.typeIs ?_);show wpAny _ _ (pure (Aa,Ln)) _ _ _;refine Zb ?_;show wpAny _ _ (Builtin.Dict.updateFrom "dict.__init__" Aa Aw [] .none) _ _ _;unfold Builtin.Dict.updateFrom;refine Za (wD hT1 ?_);rw[if_pos (by cases T<;>rfl)];have J:∀h' r,(∀b o,(s.heap.push {cls:=.type "dict",data:=.dict #[]}).get? b=So o->h'.get? b=So o)->wpAny As XY HG (λit B=>∃I fp wr St,it=.ref I/\B.os=s.os/\B.gens=YF/\B.drawn=X9/\Walks prog w XY I fp wr f.size (λi v=>f[i]? =So v) St/\St 0 B.heap/\s.heap.objs.size∉fp/\(∀b o,s.heap.get? b=So o->b∉wr)/\∀b o,h'.get? b=So o->B.heap.get? b=So o) E {s with heap:=h',toks:=r}:=by
  intro h' r L;have hD':=L _ _ (Zi (o:={cls:=.type "dict",data:=.dict #[]}) W6 rfl);have H:Aa<Cs:=Zk hD';have M:=Zk ho;have U:a≠Cs:=λe=>by rw[e]at M;exact Nat.lt_asymm M H
  have O:Aa∉[Cs,a]:=by
   intro e;simp only[Zf,ZA,eA]at e;rcases e with e|e
   ·exact Zr H e
   ·exact iD M e
  have g:∀b o,s.heap.get? b=So o->b∉[Cs]:=λb o q e=>by have h1:=Zk q;simp only[Zf,ZA,eA]at e;rw[e]at h1;exact Nat.lt_asymm h1 H
  cases T with
  |true=>have W:h'.IsTuple a f:=Nx;refine xK W ?_;exact⟨Cs,[Cs,a],[Cs],(λi h=>h.IsTupleIter Cs a i/\h.IsTuple a f),rfl,rfl,rfl,rfl,Walks.tuple (A:=XY) hA _ a U f,Qb2,O,g,λb o q=>Zd _ q⟩
  |false=>have W:h'.IsList a f:=Nx;refine uI W ?_;exact⟨Cs,[Cs,a],[Cs],(λi h=>h.IsListIter Cs a i/\h.IsList a f),rfl,rfl,rfl,rfl,Walks.list (A:=XY) hA _ a U f,Qb2,O,g,λb o q=>Zd _ q⟩
 have C:∀{Q':Eg}{E':AZ},(∀h' r,(∀b o,(s.heap.push {cls:=.type "dict",data:=.dict #[]}).get? b=So o->h'.get? b=So o)->Q' No {s with heap:=h',toks:=r})->wpAny As XY (getAttr? Aw "keys") Q' E' {s with heap:=s.heap.push {cls:=.type "dict",data:=.dict #[]}}:=by
  intro Q' E' Z;cases T with
  |true=>exact Jec l N j hd hA Z
  |false=>exact Jem l N j hd hA Z
 refine Za (C λh' r L=>?_);simp only[Option.isNone_none,if_true];refine Za (uA (Za (thn (J h' r L) λit B zz0=>?_)));obtain⟨I,fp,wr,Sz,e1,e2,e3,e4,W9,st,hf,g,kp⟩:=zz0;subst e1;refine Zb QcQ;have hdw:Aa∉wr:=λz=>hf (W9.sub _ z);refine JoS W9 hf W6 (Dk:=Dk) (λi h1 h2 X Y=>hkeep i h1 h2 X λb o hb=>Y b o (by rcases hb with rfl|⟨q,Z⟩;exact hdw;exact g b q Z)) (λi v hv=>?_) f.size 0 B _ _ Ae WV st ?_ (λb o _ _ q=>kp _ _ (L _ _ (Zd _ q))) λh3 tk3 X Y=>?_
 ·obtain⟨b,kv,xv,h2,h3,h4⟩:=hit i v hv;obtain⟨ob,g1,g2⟩:=h3;exact⟨b,kv,xv,h2,g b ob g1,Zr (Zk g1),⟨ob,g1,g2⟩,λG Q E X Y q3=>h4 G Q E X (λb o q=>Y b o (g b o q) (Zr (Zk q)) q) q3⟩
 ·exact hkeep _ _ _ d0 λb o _ q=>kp _ _ (L _ _ q)
 ·refine IZ;have:=h h3 tk3 X λb o q=>Y b o (g b o q) (Zr (Zk q)) q;obtain⟨hp',g',d',t',os'⟩:=B;simp only at e2 e3 e4;subst e2 e3 e4;exact this
end
end Rd
namespace Rd
open PySem PySem.Spec PyProof.Rows L2 Pu
variable{X:Cx}{pos p1 p2 px p3 apos:Pos}{s:Ak}{G:Gw}{N:Ad}{nm:Bf}{A:BX}{H H0:Hp}{a v e b:Expr}{pa pv pk p:Px}{prog:Bk}{w:AY}{E:AZ}{Z:Bp}{i ep:Nat}{M:AX}{x:Str}{Y:AQ}{d:Addr}{od:Obj}{es:LY}{κ:Type}
def Jkn[DecidableEq κ]{a:CK}{k:κ}{v:An}(h:k∉a.map (·.1)):stored a k v=a++[(k,v)]:=by unfold stored;rw[if_neg];intro q;obtain⟨p,f,g⟩:=lG.mp q;exact h (ZE.mpr ⟨p,f,vK g⟩)
theorem dZ[DecidableEq κ]{rows:CK}(h:(rows.map (·.1)).Nodup):∀i,nC rows i=rows.take i
 |0=>by simp[nC]
 |i+1=>by
  cases q:rows[i]? with
  |none=>
   have:nC rows AE=nC rows i:=by unfold nC;rw[tK,q];simp
   rw[this,dZ h i,tK,q];simp
  |some r=>
   rw[nZ q,dZ h i,tK,q,Jkn]
   ·rfl
   ·intro n
    obtain⟨o,e⟩:=Zz.mp q
    obtain⟨p,m,l⟩:=ZE.mp n
    obtain⟨j,u,g⟩:=List.mem_take_iff_getElem.mp m
    have f:j<i:=by lia
    have:=(List.pairwise_iff_getElem.mp h) j i (by simp;lia) (by simpa using o) f
    simp[g,e,l]at this
def Jkd{f:D->Bool}{d:D}{J g vs:Ao}(h:mE f (d::J)=So (g,vs)):∃k v,∃p:List D×List D,d=.tup [k,v]/\f k=To/\mE f J=So (p.1,p.2)/\g=k::p.1/\vs=v::p.2:=by
 simp only[mE]at h;split at h
 ·split at h
  ·rename_i j;cases q:mE f J with
   |none=>rw[q]at h;cases h
   |some p=>rw[q]at h;cases h;exact⟨_,_,p,rfl,j,rfl,rfl,rfl⟩
  ·cases h
 ·cases h
def JtC{B:D->Bool}(I:BW):∀{J f vs:Ao}{xs:AA}{its:Az},mE B J=So (f,vs)->Reps X.K H J xs->Vals xs its->
  ∃(rs:List (V×V))(us:List (Value×Value)),Reps X.K H f (rs.map (·.1))/\Reps X.K H vs (rs.map (·.2))/\Paired (λr u=>RelV r.1 u.1/\RelV r.2 u.2) rs us/\us.length=AU/\(∀k∈f,B k=To)/\
   ∀(i:Nat)(v:An),its[i]? =So v->∃b u,us[i]? =So u/\v=Value.ref b/\IsTup W6 b #[u.1,u.2]:=by
 intro J;induction J with
 |nil=>intro f vs xs its h r y;cases h;cases r;cases y;exact⟨[],[],rfl,rfl,.nil,rfl,λk j=>by simp at j,λi v h=>by simp at h⟩
 |cons d J ih=>
  intro f vs xs its h r y;obtain⟨x,xr,rfl,r1,r2⟩:=r;cases y with
  |@cons _ u _ ur rx m=>
  obtain⟨k,v,p,rfl,j,q,rfl,rfl⟩:=Jkd h;obtain⟨rs,us,e1,U,e3,e4,e6,e5⟩:=ih q r2 m;obtain⟨a,ys,rfl,g1,g2⟩:=r1;obtain⟨y0,yr,rfl,O,y1,yr',rfl,g4,g5⟩:=g2;cases g5;obtain⟨L,rt,ht,_⟩:=I.tuple g1;cases rt with
  |@cons _ F _ P l rt=>
  cases rt with
  |@cons _ C _ W o rt=>
  cases rt;cases rx;refine⟨(y0,y1)::rs,(F,C)::us,⟨_,_,rfl,O,e1⟩,⟨_,_,rfl,g4,U⟩,.cons ⟨l,o⟩ e3,by simp[e4],λk' n=>by rcases Zf.mp n with rfl|z;exact j;exact e6 _ z,λi v g=>?_⟩;cases i with
  |zero=>simp only[jL,ZT]at g;subst g;exact⟨a,(F,C),rfl,rfl,ht⟩
  |succ i=>simp only[jP]at g⊢;exact e5 i v g
def Jvs:∀{g:Ao}{rs:List (V×V)}{us:List (Value×Value)},Reps X.K H g (rs.map (·.1))->Paired (λr u=>RelV r.1 u.1/\RelV r.2 u.2) rs us->(∀k∈g,keyN k=To)->
  ∃(f:List (L2.Key×V))(rows:List (L2.Key×Value)),g=f.map (λp=>keyV p.1)/\rs.map (·.2)=f.map (·.2)/\KV f rows/\rows.length=Qds/\∀(i:Nat)(u:Value×Value),us[i]? =So u->∃k,rows[i]? =So (k,u.2)/\(JH Xa X.w).is k u.1=To:=by
 intro g rs us r rv;induction rv generalizing g with
 |nil=>intro _;cases g with
  |nil=>exact⟨[],[],rfl,rfl,.nil,rfl,λi u h=>by simp at h⟩
  |cons k g=>obtain⟨_,_,e,_⟩:=r;cases e
 |@cons p q ps qs n t ih=>
  intro o;cases g with
  |nil=>cases r
  |cons k g=>
   obtain⟨x,xr,e,y,J⟩:=r;simp only[Zg,jG]at e;obtain⟨rfl,rfl⟩:=e;obtain⟨f,rows,L,C,F,e4,P⟩:=ih J λI B=>o I (ZN _ B);obtain⟨p1,p2⟩:=p;obtain⟨m,O⟩:=q;obtain⟨j,U,W⟩:∃j,k=keyV j/\(JH Xa X.w).is j m=To:=by
    have:=o k Af;cases k<;>first|(cases this;done)|skip
    ·have z:RelV p1 m:=n.1;rw[show p1=V.non from y]at z;cases z;exact⟨.non,rfl,rfl⟩
    ·have z:RelV p1 m:=n.1;rw[show p1=V.str _ from y]at z;obtain⟨t,rfl⟩:=z;exact⟨.inr _,rfl,JdD _ _ _ _⟩
   refine⟨(j,p2)::f,(j,O)::rows,by rw[U,L];rfl,by simp only[Zg];rw[C],.cons ⟨rfl,n.2⟩ F,by simp[e4],λi u l=>?_⟩;cases i with
   |zero=>simp only[jL,ZT]at l;subst l;exact⟨j,rfl,W⟩
   |succ i=>simp only[jP]at l⊢;exact P i u l
def Jkm{f:List (L2.Key×V)}(h:(f.map (λp=>keyV p.1)).Pairwise (λa b=>a.eqv b=Fo)):(f.map (·.1)).Nodup:=by rw[vO]at h;unfold List.Nodup;rw[vO];refine h.imp fun{a b}q e=>?_;rw[lN,ZP]at q;exact q e
noncomputable def frzO (fz:Bool) (o:Obj) (f:HO):HO:=if fz then .frz o f else f
def OutD(X:Cx)(H:Hp)(Q:VK)(d:D):Prop:=∀h g,d=.dct Fo To h g->∃f:Bool,∀l(kvs:List (L2.Key×V))o,H l=No->h=kvs.map (λp=>keyV p.1)->Reps X.K PR g (kvs.map (·.2))->Q BS PR
def OutD.of{Q:VK}{d:D}(h:cV):OutD X H Q d:=λr q e=>⟨To,λl f o j m g=>by
 subst e
 exact h _ _ (λb n e=>by rw[Je (Ji e j)];exact e) ⟨l,_,rfl,⟨f,⟨o,Jg⟩,m,rfl⟩,g⟩⟩
theorem Jhl(j:Cf)(I:BW){J:Ao}{a:Addr}{xs:AA}{its:Az}{o:Obj}{m:Nat}(T:Bool)(L:GU)(O:s.heap.get? a=So o)(hc:o.cls=.type (if T then "tuple" else "list"))(hd:o.dict=No)(B:o.data=.seq Ap m)(hz:Ac<=sizeLine)(r:FR)
  {Q:VK} (h:(yM J).Good (OutD X H Q) AC) {E:AZ}:wpAny Ay X.A (call Ke Ln) B3 E s:=by
 unfold yM at h;split at h
 ·rename_i ks vs q;split at h
  ·rename_i hk;obtain⟨rs,us,f1,f2,f3,f4,f6,f5⟩:=JtC I q r L;obtain⟨kvs,rows,e1,f7,F,P,e5⟩:=Jvs f1 f3 f6;have e4:DF=AU:=P.trans f4;have e2:Reps X.K H vs (kvs.map (·.2)):=by rw[<-f7];exact f2
   subst e1;have hn:=Jkm hk.1;have U:(rows.map (·.1)).Nodup:=by rw[<-F.keys];exact hn
   refine Jee (Dk:=λi h=>h.DictOf (JH Xa X.w) Aa '亁') T O hc hd B (I.ok.hd j) (Heap.DictOf.new W6) (λi h1 h2 W C=>?_) (λi v hv=>?_) λh' tk hD C=>?_
   ·obtain⟨o,es,ep,O,r⟩:=W;exact⟨o,es,ep,C _ _ Bd O,r⟩
   ·have y:its[i]? =So v:=by simpa using hv
    obtain⟨b,u,g1,g2,g3⟩:=f5 i v y;obtain⟨k,g4,g5⟩:=e5 i u g1;have hlt:i<AU:=(Zz.mp y).1;refine⟨b,u.1,u.2,g2,g3,λs1 Q E W q2 q3=>wpAny_dictSet_pairs (hsz:=ZM Hy (by rw[L.length]at hz;lia)) g5 W λh'' z n=>?_⟩;exact q3 _ _ (by rw[nZ g4];exact z) n.2
   have hsz:BK=DF:=by rw[Zn,e4]
   rw[dZ U,hsz,sO]at hD;obtain⟨l,es,ep,f,hr⟩:=hD;have hl:Bb<=sizeLine:=by rw[F.length,e4,<-L.length];exact hz
   have g:=I.hok.fresh (Zj Aa);have sm:∀ob,Same H (upd H Aa ob):=λob b ob' e=>by rw[Je (Ji e g)];exact e
   have big:=ZC.mpr (Ne.symm (Zr I.big));obtain⟨fz,h⟩:=h _ _ rfl;cases fz with
   |true=>exact⟨.ref Aa,upd H Aa (.frz l Bh),I.laid C (Zj _) ⟨f,hl,big,rows,F,l,es,ep,f,hr⟩,rfl,h _ kvs l g rfl Qa3⟩
   |false=>exact⟨.ref Aa,upd H Aa Bh,I.laid C (Zj _) ⟨hl,big,rows,F,l,es,ep,f,hr⟩,rfl,h _ kvs l g rfl Qa3⟩
  ·exact h.elim
 ·exact h.elim
def JpH(f:Cf):gA X Ke (λL H Q=>∃x d,L=[x]/\Rep X.K H d x/\(op1 .dictP d).Good (OutD X H Q) AC):=by
 rintro Y s Z H L U Q I O⟨x,d,e,r,h⟩;subst e;cases d with
 |tup J=>obtain⟨a,P,rfl,z,l⟩:=r;obtain⟨u,rfl,B⟩:=lA O;cases B;obtain⟨C,o,n,j,y,g,F,m,q⟩:=I.tupleD z;exact Jhl f I To j y g F m q l h
 |lst J=>obtain⟨a,P,rfl,z,l⟩:=r;obtain⟨u,rfl,B⟩:=lA O;cases B;obtain⟨C,j,⟨o,n,y,g,F,m⟩,q⟩:=I.list z;exact Jhl f I Fo j y g F m q l h
 |_=>exact(show False from h).elim
def JsG(f:Cf):gA X Ke (rC1 X .dictP):=λY s Z H l g Q I j⟨x,d,e,r,h⟩=>JpH f Y s Z H l g Q I j ⟨x,d,e,r,h.imp λ_ z=>OutD.of z⟩
section
variable{U:Ag}
def cDict(C:Am)(h:G.mg "dict"=No)(j:AH)(g:gloB nm "dict"=To)(f:C4):PE X (.Call (.Name "dict" p1) [a] [] pos) (tI X U (.un .dictP pa)):=zL C (JsG Xp) j g h PyProof.Rows.boot_dict Ah Ah f
end
section
variable{U:Ag}
theorem Jgl{g f:Type}{R:g->f->Prop}:∀{xs:List g}{us:List f},Ac=us.length->(∀(j:Nat)x u,xs[j]? =So x->us[j]? =So u->R x u)->Paired R xs us
 |[],[],_,_=>.nil
 |x::xs,u::us,h,k=>.cons (k 0 x u rfl rfl) (Jgl (by simpa using h) λj x u a b=>k (j+1) x u (by simpa using a) (by simpa using b))
end
def dk{p:Prop}(h:'в' p Rb):p:=h
section
variable{U:Ag}{tg:Expr}{ts:AX}{nt:Nat}
def Jva(O:Fm):evD U Rk O='ƴ'.bind λd=>.ok (.lst [d]):=by simp only[evD];cases evD U p O<;>rfl
def JtR(n:Cu){D:Ends}(h:tS X U M H0 SM D Z H):tAsg cB SR D Z H:=by
 obtain⟨O,e,h⟩:=h;have o:exD U SM O='ƴ'.bind λd=>'ԓ'.bind λf=>.ok QdW:=by
  show(evD U Rk O).bind _=_;rw[Jva];cases evD U p O with
  |ok d=>show(forL ts nt (exD U .skip) [d] O)='ԓ'.bind _;unfold forL;cases Jv nt d<;>rfl
  |sk=>rfl
  |ex c=>rfl
 rw[o]at h;refine Kv;rw[Ju U O n];refine(Rs.gB.mp h).mono (λd g v W s k r=>?_) λc z=>z.mono Yg;cases j:Jv nt d with
 |sk=>rw[j]at g;exact g.elim
 |ex c=>exact(rJ j).elim
 |ok f=>rw[j]at g;exact⟨O,d,f,e.grow s,r,j,λm q l=>g m W q (by rw[l];exact Chg.of s)⟩
def aTup(C:Am)(j:BF)(g:Lb)(f:'в' Cu Al)(hs:'в' (swapsWithSole [tg] e Xi WU=pure Fo) Al)(hw:'в' (swappedStores [tg] e WU=pure No) Al)
  (h1:'в' ('ʗ'.map (·.2)=Qo) Al):PS X Oj Ni:=
 PS.weak (Jrn (pE j) g hs hw h1) λD Z H h=>JtR f h
end
section
variable{U:Ag}{pt:Pos}{y:Str}{t:Nat}{cpos:Pos}
theorem Reps.erase{K:Ai}:∀{J:Ao}{xs:AA}(j:Nat),Reps K H J xs->Reps K H Qck QbN
 |[],_,_,h=>by cases h;exact rfl
 |a::J,_,0,⟨y,r,e1,h1,h2⟩=>by subst e1;exact h2
 |a::J,_,j+1,⟨y,r,e1,h1,h2⟩=>by subst e1;exact⟨y,r.eraseIdx j,rfl,h1,Reps.erase j h2⟩
theorem JtT:MtM X "list.pop" (λx f H Q=>∃l xs i k y,x=.ref l/\f=bP/\H l=So By/\ixN Ac i=So k/\xs[k]? =So y/\Q y Ug):=by rintro Y s Z H x f v o Q I r B⟨l,xs,i,k,y,u,j,g,h,m,q⟩;obtain⟨z,_⟩:=I.lstM g;obtain⟨n,C,J,F⟩:=JmH h;have L:=jH;exact Jou Y s Z H x f v o Q I r B ⟨l,xs,i,k,y,u,j,g,by lia,by lia,n,m,q⟩
def aPop(C:Am)(h:Dn)(h':chkA N nm M t y=To)(hb:Qdo)(u:GK=To)
  (hs:swapsWith VY (So (.Name y pt)) Xi WU=pure Fo) (g:Ly):
  PS X (.Assign [.Name y pt] VY pos) (tS X U M H0 (.popi t i pk)):=by
 obtain⟨g1,g2,g3,g4,g5⟩:=chkO.at h;obtain⟨f1,f2,f3⟩:=chkA.at h';obtain⟨d1,d2⟩:=plainN.d g3;obtain⟨k1,k2⟩:=C.sto y f2;refine PS.weak (pF (by rw[C.hN];exact C.nd) (by rw[C.hN];exact f1) k1 (iM iP PySem.F.slot_list_pop PySem.F.type_list_pop JtT (qD (by rw[C.hN];exact g1) Lg d1 d2) (JC hb kB g) rfl (by rw[g];rfl) u g rfl) hs k2) λD Z H P=>?_;obtain⟨O,e,h⟩:=P;simp only[exD]at h;cases q:O[i]? with
 |none=>rw[q]at h;exact h.elim
 |some o=>
  rw[q]at h;cases o with
  |none=>exact h.elim
  |some d=>
   cases d with
   |lst J=>
    simp only at h;obtain⟨l,m,h0,xs,u,L⟩:=e.own i _ g4 q;refine⟨.ref l,m,.inl ⟨rfl,xs,SqL.of u⟩,O,Yk,?_⟩;refine(Rs.gB.mp h).mono (λdk f w H1 r r1=>?_) λc z=>z.mono XQ;cases dk with
    |int n=>
     simp only at f;cases B:ixn Ab n with
     |none=>rw[B]at f;exact f.elim
     |some j=>
      rw[B]at f;simp only at f;cases I:J[j]? with
      |none=>rw[I]at f;exact f.elim
      |some d=>
       rw[I]at f;have hw:w=V.int n:=r1;subst hw;have e1:=e.grow r;have F:=r _ _ u;have hq:ixN Ac n=So j:=by rw[L.length];exact B
       obtain⟨z,hz,rz⟩:=L.get I;obtain⟨e3,f4⟩:=e1.change (o:=.lst QbN) (d':=.lst Qck) g4 q m ⟨_,Jg,Reps.erase j (L.mono (Fz.sm r).hid)⟩;have W:Fz Bz H _ _:=(Fz.sm r).trans f4;refine⟨l,xs,n,j,z,rfl,rfl,F,hq,hz,?_⟩;exact f _ _ (e3.put f3 (rz.mono W.hid)) (by rw[JD f3];exact⟨W,λz=>by cases z⟩)
    |_=>exact f.elim
   |_=>exact h.elim
theorem JjR:∀{xs:AA}{f:Az}(j:Nat),Vals xs f->Vals (xs.take j) (f.take j)
 |_,_,0,_=>by simp;exact .nil
 |_,_,j+1,.nil=>by simp;exact .nil
 |_,_,j+1,.cons p q=>.cons p (JjR j q)
theorem Jiy:∀{xs:AA}{f:Az}(j:Nat),Vals xs f->Vals (xs.drop j) (f.drop j)
 |_,_,0,h=>by simpa using h
 |_,_,j+1,.nil=>.nil
 |_,_,j+1,.cons p q=>Jiy j q
noncomputable def insP (n:Nat) (k:Int):Nat:=if k<0 then(k+(n:Int)).toNat else min Ye n
theorem Jmr:MtM X "list.insert" (λx j H Q=>∃l xs i y,x=.ref l/\j=[.int i,y]/\H l=So By/\ -(2^62)<=i/\i<2^62/\xs.length<1000/\Q .non (upd H l (.lst (xs.take (insP Ac i)++y::xs.drop (insP Ac i))))):=by
 rintro Y s Z H x j v O Q I P rv⟨l,xs,i,y,W,m,h,o,B,g,q⟩;subst W m;cases P;obtain⟨u,w,rfl,L,f⟩:∃u w,O=[u,w]/\RelV AS u/\RelV y w:=by
  cases rv with
  |cons p q=>cases q with
   |cons J C=>cases C;exact⟨_,_,rfl,p,J⟩
 obtain⟨t,rfl⟩:=L;obtain⟨z,its,n,r,hl,e⟩:=I.lstM h;have hb:Builtin.List.listFitsIndex i=To:=by simp only[Builtin.List.listFitsIndex,Zc,Zp];lia
 refine sA F.slot_list_insert CD F.entry_list_insert (F.args_list_insert_3 _ _ _) (AutoSeq1.list_insert_list_int_val_1 l Ap n i t w (by rw[hb];decide) (by rw[Zn];lia)) ⟨e,?_⟩;refine⟨.non,_,I.lset (its':=its.take (insP AU i)++w::its.drop (insP AU i)) (ys:=xs.take (insP Ac i)++y::xs.drop (insP Ac i)) h e ?_ ?_ ?_,rfl,q⟩
 ·apply Array.toList_inj.mp;simp[insP];exact ZY Af
 ·rw[<-hl];exact(JjR _ r).append (.cons f (Jiy _ r))
 ·rw[ZK];simp only[Zy,qK,Zl,uO];lia
theorem aIns{F:Pos}(C:Am)(h:Dn)(hb:Qdo)(hv:Qy)(L:GK=To)(h1:sepP M pk=To)(h2:sepP M pv=To)
  (g:starEach [b,v] WU=Rh::starEach [v] WU) (j:starEach [v] WU=(Fo,eval v WU)::starEach [] WU):
  PS X (.Expr (.Call (.Attribute DU "insert" apos) [b,v] [] cpos) F) (tS X U M H0 (.insi i pk pv)):=by
 obtain⟨g1,g2,g3,g4,g5⟩:=chkO.at h;obtain⟨d1,d2⟩:=plainN.d g3;refine PS.weak (nN (iM iP PySem.F.slot_list_insert PySem.F.type_list_insert Jmr (qD (by rw[C.hN];exact g1) Lg d1 d2) (JC (pE hb) (JC (pE hv) kB j) g) rfl (by rw[g,j];rfl) L g (by rw[j];rfl)) rfl) λD Z H W=>?_;obtain⟨O,e,h⟩:=W;simp only[exD]at h;cases q:O[i]? with
 |none=>rw[q]at h;exact h.elim
 |some o=>
  rw[q]at h;cases o with
  |none=>exact h.elim
  |some d=>
   cases d with
   |lst J=>
    simp only at h;obtain⟨l,u,h0,xs,L,hr⟩:=e.own i _ g4 q;refine⟨.ref l,u,.inl ⟨rfl,xs,SqL.of L⟩,JL M 0 O,Ow M O Z,e.ows,Z3,?_⟩;rw[Ju U O h1];refine(Rs.gB.mp h).mono (λdk P w H1 s1 k1 r1=>?_) λc z=>z.mono Yg;have I:=e.grow s1;refine⟨JL M 0 O,Ow M O Z,I.ows,I.readHid,?_⟩;rw[Ju U O h2];refine(Rs.gB.mp P).mono (λdv f y H2 s2 k2 r2=>?_) λc z=>z.mono I.same0;cases dk with
    |int n=>
     simp only at f;split at f
     ·rename_i hc;simp only[Zc,Zp,midI]at hc;have hw:w=V.int n:=r1;subst hw;have e2:=I.grow s2;have f2:Same DE (hid Bz H2):='ʑ'.hid;have w2:H2 l=So By:=s2 _ _ (s1 _ _ L);have r:=Z2;refine⟨l,xs,n,y,rfl,rfl,w2,by lia,by lia,by lia,?_⟩;have ec:∀{α:Type}(m:List α),Pu.cutD m No (So n)=m.take (insP Yj n)/\Pu.cutD m (So n) No=m.drop (insP Yj n):=λm=>by
       unfold Pu.cutD six insP;constructor
       ·simp
       ·simp only;exact ZY Af
      obtain⟨e3,f4⟩:=e2.change (o:=.lst (xs.take (insP Ac n)++y::xs.drop (insP Ac n))) (d':=.lst (Pu.cutD J No (So n)++dv::Pu.cutD J (So n) No)) g4 q u ⟨_,Jg,by
       rw[(ec J).1,(ec J).2,r];have B:=hr.mono f2;exact(Reps.take _ B).append ⟨y,_,rfl,r2,Reps.drop _ B⟩⟩
      exact f _ _ e3 ⟨'ʑ'.trans f4,λz=>by cases z⟩
     ·exact f.elim
    |_=>exact(show False from by
      rcases dv with _|_<;>exact f).elim
   |_=>exact h.elim
end
section
variable{U:Ag}{k:Expr}
def tD1(K:Ai)(tk j:TE):TE:=λZ H Q=>tk Z H λx f=>j Z f λy g=>Same H f/\Same f g/\∃b h,x=.ref b/\(NoH K f->KB f h b)/\∀l,g l=No->Q BS (upd g l (.dT [(h,y)]))
theorem pe_d1{tk tv:TE}(C:Am)(hk:PE X k tk)(hv:PE X v tv):PE X (.Dict [So k] [v] pos) (tD1 X.K tk tv):=by
 intro Y s Z H Q I h;have hn:=I.hok.fresh (Zj Aa);have I1:=I.laid (a:=Aa) (o:=.dT []) (h':=s.heap.push {cls:=.type "dict",data:=.dict #[]}) (t':=W7) Mh (Zj _) Nm;have eH:hid [Aa] MB=H:=by
  funext c;by_cases q:c=Aa
  ·rw[rE (by simp[q]),q,hn]
  ·rw[Jy (by simpa using q),Je q]
 have hL:Ows [Aa] MB:=λc hc=>by
  have:c=Aa:=by simpa using hc
  exact⟨.dT [],by rw[this];exact Jg,iA⟩
 obtain⟨ps,g1,g2,I2⟩:=Rd.Inv.hide I1 hL.c;rw[eH]at I2;refine wpAny_Dict_any rfl rfl Af Af ?_;refine pairTrees_cons_walk (thn (hk (ps++Y) _ Z H _ I2 h) λu s1 l=>?_);obtain⟨x,H1,J1,rx,h1⟩:=l;refine thn (hv (ps++Y) s1 Z H1 _ J1 h1) λJ s2 l=>?_;obtain⟨y,m,J2,ry,e1,f1,b,f,ex,hb,h2⟩:=l;subst ex;refine pairTrees_nil_walk ?_;obtain⟨u1,L⟩:=Rd.Inv.unhide I1 hL.c g1 g2 (λb P q=>(show Same _ _ by rw[eH];exact e1.trans f1) b _ q) J2;have j:=u1 Aa Af;have g:uni [Aa] MB m Aa=So aD:=by rw[sJ 'j'];exact Jg
 cases(show u=Value.ref b from rx);have n:=(hb J1.noH).keep λ_ _ q=>f1 _ _ q;have nb:b≠Aa:=let⟨_,q⟩:=n.tup;Ji q j;have B:KB Ru f b:=n.keep λc P q=>by rw[JM (by simpa using Ji q j)];exact q
 obtain⟨z,hd,P,W,dd⟩:=Jvk L.hok g;cases W;unfold storeAll;rw[eL];refine Za (Za (wpAny_dictSet_heap (hsz:=qA _) (show X.A.units+50<cLine by have:=C.un;lia) (L2.key_of L.hok B) dd λh' r hs=>Zb ?_));show wpAny _ _ (forIn [] PUnit.unit _) _ _ _;rw[gO];refine Zb ?_;have st:storedH [] f b J=[(f,b,J)]:=rfl;rw[st]at r;have eq2:upd Ru Aa LJ=upd m Aa LJ:=by
  funext c;by_cases q:c=Aa
  ·rw[q,Jg,Jg]
  ·rw[Je q,Je q,JM (by simpa using q)]
 obtain⟨q,es,ep,hq,O,h3,h4,_,h5⟩:=r;have F:ObjOk Xa X.w (upd Ru Aa LJ) h' Aa LJ:=
  ⟨by rw[ZK];show 1<=_;decide,hd,[(f,b,J)],.cons ⟨rfl,B.keep (λc P q=>by rw[Je (tU q g (λz=>nomatch z))];exact q),ry⟩ .nil,q,es,ep,hq,O,h3,h4,h5⟩
 have I3:=lW (t':=s2.toks+(Jie Xa X.w).draws f) L (by rw[g];exact iA) hs ⟨q,hq⟩ F;rw[eq2]at I3;exact⟨.ref Aa,_,I3,rfl,h2 _ j⟩
def JgO{o:Bl}(hi:i∈M):∀(O:Fm),JL M 0 aY=JL M 0 O:=λO=>by
 refine List.ext_getElem? λj=>?_
 rw[gK,gK,List.getElem?_set]
 by_cases q:i=j
 ·subst q
  by_cases z:i<bW
  ·rw[if_pos rfl,if_pos z];simp[hi,Zq z]
  ·rw[if_pos rfl,if_neg z];simp[uL (Nat.le_of_not_lt z)]
 ·rw[if_neg q]
def Jxe(C:Am)(hK:NoKT G.K)(h:Dn)(W:PE X k GW)(hv:Qy)(m:(noEx pk&&noEx pv)=To)(h1:sepP M pk=To)(r:sepP M pv=To)
  (hs:swapsWith Ov (So DU) Xi WU=pure Fo):PS X (.Assign [.Name x px] Ov pos) (tS X U M H0 (.seq (.ownD To i) (.put To To i pk pv))):=by
 obtain⟨g1,g2,g3,P,g5⟩:=chkO.at h;obtain⟨k1,k2⟩:=C.sto x g2;simp only[Zc]at m;refine PS.weak (pF (by rw[C.hN];exact C.nd) (by rw[C.hN];exact g1) k1 (pe_d1 C (pE W) (pE hv)) hs k2) λD Z H F=>?_;obtain⟨O,e,h⟩:=F;simp only[exD,Rs.bo]at h;have ek:∀o,evD U pk aY=evD U pk O:=λo=>by rw[<-Ju U _ h1,JgO P,Ju U _ h1]
 have ev:∀o,evD U pv aY=evD U pv O:=λo=>by rw[<-Ju U _ r,JgO P,Ju U _ r]
 rw[List.getElem?_set]at h;by_cases z:i<bW
 ·rw[if_pos rfl,if_pos z]at h;simp only[ek,ev]at h;cases f:evD U pv O with
  |ex c=>exact absurd f (xQ U pv O c m.2)
  |sk=>rw[f]at h;exact h.elim
  |ok I=>
   cases g:evD U pk O with
   |ex c=>exact absurd g (xQ U pk O c m.1)
   |sk=>rw[f,g]at h;exact h.elim
   |ok dk=>
    rw[f,g]at h;simp only[Rs.bo]at h;split at h
    ·exact h.elim
    ·rename_i n;simp only[yH,yE,nB,not_or,rA,rO,Bool.not_eq_false,ZP,Decidable.not_not,ZB,oA]at n;refine Kv;rw[Ju U O h1,g];intro y H1 s1 q1 r1;have B:=e.grow s1;refine⟨JL M 0 O,Ow M O Z,B.ows,B.readHid,?_⟩;rw[Ju U O r,f];intro u L s2 q2 r2;have e2:=B.grow s2;obtain⟨b,j,rfl,rfl,hb⟩:=zQ (by rw[C.K];exact hK) n.1.2 r1;refine⟨s1,s2,b,j,rfl,λz=>(hb (Jmi z)).keep (λ_ _ q=>hid_same _ _ q),λl J=>?_⟩;have s:Same L (upd L l (.dT [(j,u)])):=λb o q=>by rw[Je (Ji q J)];exact q
     obtain⟨e3,f3⟩:=e2.putOwn s (i:=i) (d:=.dct To Fo [fH j] [I]) J λHh tp=>⟨rfl,[u],⟨[(j,u)],Jg,rfl,rfl⟩,Reps.tups tp [I] (by simp[imms,n.1.1]) (Reps.one (r2.mono (hid_same.trans s)))⟩;rw[List.set_set]at h;exact h _ _ e3 ⟨'ʑ'.trans f3,λ_=>(s1.trans s2).trans s⟩
 ·rw[if_pos rfl,if_neg z]at h;exact h.elim
end
section
variable{it:Addr}
def JoA{Q:AZ}(l:FW)(h:s.heap.get? d=So od)(m:od.cls=.type "dict")(f:Fu)
  (j:Q Dr {s with heap:=s.heap.push {cls:=.type "dict_keyiterator",data:=.fields #[.ref d,.int 0 0,.int W8 0,.int ep 0]}}):
  wpAny As A (pyIter D3) Q E s:=by have g:s.TypeIs D3 "dict":=⟨_,h,m⟩;refine wpAny_pyIter_slot g QcW (ZI QcW g F.entry_dict_iter ?_ (F.args_dict_iter_1 _));unfold Builtin.«dict.__iter__»;refine Za ?_;unfold Builtin.Dict.dictSlotNone;refine Za (wpAny_notOrdered_dict g (show wpAny _ _ (pure (Value.ref d)) _ _ s from Zb ?_));show wpAny _ _ (Builtin.Dict.showsAll d>>=_) _ _ s;unfold Builtin.Dict.showsAll;rw[if_neg (by rw[l];exact ZH)];refine Za (Zb (Za (wO h f (Za (wpAny_dictEpoch h f ?_)))));refine Za (ZR (Zb ⟨_,rfl,"dict_keyiterator",_,Ko,F.slot_dict_keyiterator_next.lookup,?_⟩));simpa[rawInt]using j
theorem JoT{e:DictEntry}{Q:Eg}(hit:T4)(j:s.heap.get? d=So od)(g:Fu)(q:es[i]? =So e)
  (r:∀m,m.IsKeyIter it d AE W8 ep->Heap.SameBut it W6 m->Q (So aP) {s with heap:=m}):wpAny As A EK Q E s:=by
 obtain⟨o,n,u,l⟩:=id hit;have h:Builtin.Dict_items.ownsTuple "dict_keyiterator"=Fo:=by decide
 unfold pyNext;refine Za (xE (ZJ (name:=oS "__next__") XB eP (ZI eP XB aN ?_ Uq)));refine Za (Zb (Za (Za ?_)));refine Za (fP XB (Zb (Za (zH n l ?_))));simp only[h,Zh,Zo];show wpAny _ _ (if(Value.ref d==Xb)=To then _ else _) _ _ s;rw[if_neg (show¬((Value.ref d==Value.none)=To)from ZH)];refine Za (Zb (Za (wO j g ?_)));rw[if_neg 'j'];refine Za (Zb (Za (wpAny_dictEpoch j g ?_)));rw[if_neg 'j'];refine Zb ?_;simp only[show¬((i:Int)<0)from by lia,Zo,dC,q];refine Za (Za (fP XB (Zb (Za (wpAny_isOneOf_keyiter XB ?_)))));show wpAny _ _ (setField A7 1 (rawInt ((i:Int)+1))>>=_) _ _ s;refine Za (kC n l Af ?_);have f:(s.heap.update it (Obj.mapFields (·.setIfInBounds 1 (rawInt ((i:Int)+1))))).IsKeyIter it d AE W8 ep:=
  ⟨_,ZQ _ n (pT (lI l _)),(Obj.cls_mapFields ..).trans u,by rw[lI l];simp[rawInt]⟩
 refine Za (vA (Za (wpAny_isOneOf_keyiter (s:={s with heap:=s.heap.update it (Obj.mapFields (·.setIfInBounds 1 (rawInt ((i:Int)+1))))}) f.typeIs ?_)));show wpAny _ _ (pure aP) _ _ _;exact Zb (Zb ⟨_,rfl,Zb (r _ f (fE ..))⟩)
theorem JrO{Q:Eg}(u:A8)(hit:T4)(h:s.heap.get? d=So od)(f:Fu)(q:es[i]? =No)
  (r:∀j,Heap.ExtBut it W6 j->Q No {s with heap:=j}):wpAny As A EK Q E s:=by
 obtain⟨o,l,y,n⟩:=id hit;have g:Builtin.Dict_items.ownsTuple "dict_keyiterator"=Fo:=by decide
 unfold pyNext;refine Za (xE (ZJ (name:=oS "__next__") XB eP (ZI eP XB aN ?_ Uq)));refine Za (Zb (Za (Za ?_)));refine Za (fP XB (Zb (Za (zH l n ?_))));simp only[g,Zh,Zo];show wpAny _ _ (if(Value.ref d==Xb)=To then _ else _) _ _ s;rw[if_neg (show¬((Value.ref d==Value.none)=To)from ZH)];refine Za (Zb (Za (wO h f ?_)));rw[if_neg 'j'];refine Za (Zb (Za (wpAny_dictEpoch h f ?_)));rw[if_neg 'j'];refine Zb ?_;simp only[show¬((i:Int)<0)from by lia,Zo,dC,q];refine Za (Za (fP XB (Zb ?_)));show wpAny _ _ (setField A7 0 .none>>=_) _ _ s;refine Za (kC l n Af ?_);show wpAny _ _ (newExc R6 []>>=_) _ _ _;refine Za ?_;simp only[newExc,newTuple];refine Za (ZR (Za (m:=firstArgMember _ _) (wpAny_of_eq (a:=Xb) (by first|rfl|(simp only[firstArgMember];rfl)) (ZR ?_ (by size_fits)))) (by size_fits));delta raiseNew;refine Za (wpAny_handled ?_);rw[show A.in1.handled=No from u];refine Za (Zb (wpAny_throw ?_));refine Za (vE (T:="StopIteration") (b:=To) Ko fO ?_);exact Zb (r _ (((fE ..).extBut.push _).push _))
def Jnb(B:A8)(I d:Addr)(u:d≠I)(od:Obj)(es:LY)(ep:Nat)(l:Fu):
  Walks prog w A I [I,d] [I] W8 (λi v=>∃e,es[i]? =So e/\v=aP) (λi h=>h.IsKeyIter I d i W8 ep/\h.get? d=So od)where
 sub:=λb g=>by simp at g;simp[g]
 frame:=λ_ _ _ f y=>⟨f.1.at λo e=>y I Af o e,y d Af _ f.2⟩
 item:=λi s Q E z f m=>JoT f.1 f.2 l (e:=es[i]) (by simp[z]) λq j n=>m _ q W7 ⟨es[i],by simp[z],rfl⟩ ⟨j,n.extBut d od u f.2⟩ λb o g e=>n.extBut b o (λh=>g (by simp[h])) e
 done:=λs Q E f m=>JrO B f.1 f.2 l Af λq r=>m q W7 λb o g e=>r b o (λh=>g (by simp[h])) e
 self:=λ_ _ _ _ f m=>wpAny_pyIter_keyiter f.1 m
end
section
variable[DecidableEq κ]{kd:Qbr}{xs:List (κ×Addr×Value)}
def JpC{Q:E1}(g:s.TypeIs D3 "dict")(h:Q Fo s):wpAny As A (Builtin.List.listLengthHint D3) Q E s:=by unfold Builtin.List.listLengthHint;refine Za (nI g F.slot_dict_len.lookup ?_);generalize hid:("dict.__len__":String)=id0;wp_delta;rw[show splitId id0=So ("dict","__len__")from by subst hid;decide+kernel];subst hid;refine Za (vE (T:="dict") (b:=To) g (by rw[dO];kernel_rfl) ?_);refine sG Oy (λ_=>?_);refine sG (λ_=>?_) Ox;exact Za QdD
theorem JjZ{R:He}(hh:A8)(hd:FW)(J:s.heap.get? d=So od)(hc:od.cls=.type "dict")(n:Fu)(hlen:es.size<=2^24)
  (S:Addr) (u:An) (y:Nat) (P:s.heap.get? S=So {cls:=.type "list",data:=.seq #[] y})
  (hR:∀h' W l I,(∀b o,b≠S->s.heap.get? b=So o->h'.get? b=So o)->h'.get? S=So {cls:=.type "list",dict:=No,data:=.seq l I,slots:=#[]}->
   ItemsOf (λi v=>∃e,es[i]? =So e/\v=aP) l es.size->R (.ok (.ret u)) {s with heap:=h',toks:=W}):
  wpAny As Xk (Builtin.List.listExtendWith Gx D3 u)
   (λfin B=>match fin with|.done f=>R (.ok f) B|.again I=>I.quiet=To/\codeAny As A I R B) (λe B=>R cA B) s:=by
 have z:S≠d:=λe=>by rw[e,J]at P;cases P;cases n
 have F:S≠Aa:=Zr (Zk P);have hdI:d≠Aa:=Zr (Zk J);have hSf:S∉[Aa,d]:=λU=>by
  rcases Zf.mp U with e|e
  ·exact F e
  ·exact z (Zx.mp e)
 have W9:=(Jnb (prog:=prog) (w:=w) (A:=Xk) hh Aa d hdI od es ep n).toS;have L:∀(h:Heap)(r W:Nat),h.IsKeyIter Aa d 0 W8 ep->(∀b o,b≠S->s.heap.get? b=So o->h.get? b=So o)->
   h.get? S=So {cls:=.type "list",data:=.seq #[] r}->codeAny As A (.builtin "list.extend.loop" ⟨[.ref S,.ref Aa,u],[]⟩) R {s with heap:=h,toks:=W}:=by
  intro h r W hit hk g;refine codeAny_extend_loopS W9 (by rw[ZK];lia) S hSf u W8 0 _ #[] r rfl (qA _) ⟨hit,hk d _ z.symm J⟩ g (ItemsOf.nil _) λB l I U hS' O=>?_;rw[Moved.eq_with U];refine hR B.heap B.toks l I (λb o hb e=>U.heap b o (λm=>?_) (hk b o hb e)) hS' O;rcases Zf.mp m with e'|m
  ·exact hb e'
  ·exact absurd (Zk e) (by rw[Zx.mp m];exact nP _)
 unfold Builtin.List.listExtendWith;refine Za (wD (T:="dict") ⟨_,J,hc⟩ ?_);have h1:Builtin.List.listSameRef Gx D3=Fo:=by simp[Builtin.List.listSameRef,z]
 have h2:(Value.type "dict"==Value.type "list")=Fo:=by decide
 have h3:(Value.type "dict"==Value.type "tuple")=Fo:=by decide
 simp only[h1,h2,h3,yE,Zh,Zo];refine Za (JoA hd J hc n ?_);refine Za (vA (JpC (d:=d) ⟨_,Zd _ J,hc⟩ ?_));have j:(s.heap.push {cls:=.type "dict_keyiterator",data:=.fields #[.ref d,.int 0 0,.int W8 0,.int ep 0]}).IsKeyIter Aa d 0 W8 ep:=Dj;have g:=Zd {cls:=.type "dict_keyiterator",data:=.fields #[.ref d,.int 0 0,.int W8 0,.int ep 0]} P;refine sG (λ_=>?_) (λ_=>Zb ⟨xD mO _,L _ y _ j (λb o _ e=>Zd _ e) g⟩);refine Za (uA ?_);refine Za ?_;show wpAny _ _ (updateSeq S (·.push .none)>>=λ_=>updateSeq S (·.pop)) _ _ _;refine Za (rG g rfl ?_);have q:=ZQ (Obj.mapSeq (·.push Xb)) g rfl;refine rG (hz:=by seq_fits) q rfl ?_;have C:=ZQ (Obj.mapSeq (·.pop)) q rfl;refine Zb ⟨xD mO _,L _ _ _ (j.at λo e=>?_) (λb o hb e=>?_) C⟩
 ·exact(ZG _ _ F).trans ((ZG _ _ F).trans e)
 ·exact(ZG _ _ E4).trans ('ɦ'.trans Ex)
def JpV{R:He}(O:A8)(P:FW)(I:s.heap.get? d=So od)(L:od.cls=.type "dict")(h:Fu)(r:es.size<=2^24)
  (S:Addr) (n:s.heap.get? S=So {cls:=.type "list",data:=.seq #[]})
  (hR:∀m C g l,(∀b o,b≠S->s.heap.get? b=So o->m.get? b=So o)->m.get? S=So {cls:=.type "list",dict:=No,data:=.seq g l,slots:=#[]}->
   ItemsOf (λi v=>∃e,es[i]? =So e/\v=aP) g es.size->R Q6 {s with heap:=m,toks:=C}):
  wpAny As Xk (Builtin.«list.__init__» ⟨[.ref S,.ref d],[]⟩)
   (λF y=>match F with|.done f=>R (.ok f) y|.again l=>l.quiet=To/\codeAny As A l R y) (λe y=>R cA y) s:=by
 have B:S≠d:=λe=>by rw[e,I]at n;cases n;cases h
 show wpAny _ _ (do let old<-Builtin.List.listItems Gx;Builtin.List.listUpdate Gx (λ_=>#[]);letGo old.toList.reverse;Builtin.List.listExtendWith Gx D3 .none) _ _ s;refine Za ?_;unfold Builtin.List.listItems;refine Za (uB n rfl (Zb ?_));show wpAny _ _ (updateSeq S (λ_=>#[])>>=λ_=>letGo (#[]:Array Value).toList.reverse>>=λ_=>Builtin.List.listExtendWith Gx D3 .none) _ _ s;refine Za (rG n rfl ?_);have j:=ZQ (Obj.mapSeq (λ_=>(#[]:Array Value))) n rfl;have u:∀b o,b≠S->s.heap.get? b=So o->(s.heap.update S (Obj.mapSeq (λ_=>(#[]:Array Value)))).get? b=So o:=
  λb o hb e=>'ɦ'.trans e
 refine Za (wpAny_letGo ?_);refine JjZ O P (u d _ (Ne.symm B) I) L h r S .none _ j λm C g l J z q=>?_;exact hR m C g l (λb o hb e=>J b o hb (u b o hb e)) z q
def Jeo{Q:AZ}(J:A8)(L:FW)(B:s.heap.get? d=So od)(I:od.cls=.type "dict")(m:Fu)(l:es.size<=2^24)
  (C:∀h r f u,(∀b o,s.heap.get? b=So o->h.get? b=So o)->
   h.get? Aa=So {cls:=.type "list",dict:=No,data:=.seq f u,slots:=#[]}->ItemsOf (λi v=>∃e,es[i]? =So e/\v=aP) f es.size->Q Dr {s with heap:=h,toks:=r}):
  wpAny As A (PySem.call LR bR) Q E s:=by
 refine callType_codes (Q₁:=λobj g=>obj=.ref Aa/\g={s with heap:=s.heap.push {cls:=.type "list",data:=.seq #[]}}) F.called_list (F.typeCall_list_1 _) F.entry_list_init
  (code_list_new _ Ce) λobj g n=>?_
 obtain⟨rfl,rfl⟩:=n;have y:(s.heap.push {cls:=.type "list",data:=.seq #[]}).get? Aa=So {cls:=.type "list",data:=.seq #[]}:=Zi _ rfl;refine⟨⟨_,y,rfl⟩,F.args_list_init_2 _ _,JpV (A:=Xk) J L (Zd _ B) I m l _ y λh r f u z q j=>?_⟩;exact⟨rfl,C h r f u (λb o e=>z b o aR Ex) q j⟩
end
section
variable{U:Ag}
theorem Jjq{K:Ai}:∀{f:List (List (KTr XH)×V)}{xs:List (List (KTr XH)×Addr×Value)},KT H f xs->Reps K H (f.map λp=>fH p.1) (xs.map λq=>V.ref q.2.1)
 |[],_,h=>by cases h;rfl
 |p::f,_,h=>by
  cases h with
  |cons r t=>exact⟨_,_,rfl,Jqw (.t p.1) r.2.1.1,Jjq t⟩
theorem Jlm(g:Cf):gA X LR (λF H Q=>∃l kvs,F=Qdq/\L2.Rd H l BL/\Out X H Q (.lst (kvs.map λp=>fH p.1))):=by
 rintro Y s Z H F us Q I rv⟨l,kvs,e,P,h⟩;subst e;obtain⟨u,rfl,rx⟩:=lA rv;cases rx;obtain⟨z,hd,ys,n,o,es,ep,W,hc,r,C,_,_⟩:=gH Xh P;have hz:es.size=BD:=by rw[<-kD,C,Ze]
 have hl:Bb=BD:=pG n;have hb:BD<=2^24:=by rw[ZK]at z;lia
 refine Jeo (I.ok.hd g) hd W hc.1 r Ae λJ tk acc c' L hS f=>?_;have hit:Vals (ys.map λq=>V.ref q.2.1) acc.toList:=by
  refine Jgl (by have e1:=f.1;have e2:acc.toList.length=acc.size:=kD;rw[Ze];lia) λj x v m O=>?_;obtain⟨e,B,rfl⟩:=f.2 j v (by simpa using O);rw[<-yG,C,oB]at B;rw[oB]at m;cases q:ys[j]? with
  |none=>rw[q]at m;cases m
  |some y=>rw[q]at m B;cases m;cases B;rfl
 obtain⟨s1,q1⟩:=jM (K:=X.K) (I.hok.fresh (Zj Aa)) (Jjq n);exact⟨.ref Aa,_,I.laid (t':=tk) L (Zj _) (show ObjOk Xa X.w _ J _ (.lst (ys.map λq=>V.ref q.2.1))from⟨by rw[Ze,ZK];lia,acc.toList,c',hit,by simpa using hS⟩),rfl,h _ _ s1 q1⟩
def Jtv(f:Cf):gA X LR (rC1 X .dKeys):=by
 rintro Y s Z H q j Q I o⟨x,d,e,r,h⟩;subst e;cases d with
 |dct t z u C=>
  cases t with
  |false=>exact(show False from h).elim
  |true=>obtain⟨l,B,rfl,n,y⟩:=r;obtain⟨g,m,rfl,rfl⟩:=dk_t n;exact Jlm f Y s Z H _ j Q I o ⟨l,g,rfl,m,h⟩
 |_=>exact(show False from h).elim
def cKeys(C:Am)(h:G.mg "list"=No)(j:AH)(g:gloB nm "list"=To)(f:C4):PE X (.Call (.Name "list" p1) [a] [] pos) (tI X U (.un .dKeys pa)):=zL C (Jtv Xp) j g h PyProof.Rows.boot_list Ah Ah f
end
open PySem.SeqAt (EqAt)
section
variable{U:Ag}{pb:Px}
theorem Jkh{M:Model}{body:Nat->Option PySem.Fin×Unit->Sem (ForInStep (Option PySem.Fin×Unit))}{R:Option PySem.Fin×Unit->Shared->Prop}{j n:Nat}(z:j<n)
  (m:∀k,k<j->wpAny M A (body k (No,())) (λr g=>r=.yield (No,())/\g=s) E s) (l:wpAny M A (body j (No,())) (λr g=>∃f,r=.done (So f,())/\R (So f,()) g) E s):∀(r k:Nat),k+r=n->k<=j->wpAny M A (forIn (List.range' k r 1) (No,()) body) R E s:=by
 intro r;induction r with
 |zero=>intro k u o;lia
 |succ r y=>
  intro k u o;rw[List.range'_succ,eL];by_cases q:k=j
  ·subst q;refine Za (ZV l (λr g h=>?_) λ_ _ x=>x);obtain⟨f,rfl,h⟩:=h;exact Zb h
  ·refine Za (ZV (m k Ae) (λr g h=>?_) λ_ _ x=>x);obtain⟨rfl,rfl⟩:=h;exact y AV Ae Ae
def JpW{l:Addr}{o:Obj}{its:Az}{n:Nat}{u:An}{e:Value->Bool}{j:Nat}{Q:PySem.Fin->Shared->Prop}(z:s.heap.get? l=So o)(C:o.data=.seq Ap n)(f:∀y,y∈Ap->EqAt A s y u (e y))
  (q:j<AU) (h1:e its[j]=To) (F:∀m(I:m<AU),m<j->e its[m]=Fo) (B:Q (.done (.ret (.int j W7))) {s with toks:=W7+1}):wpAny As A (Builtin.«tuple.index» QaC) Q E s:=by
 unfold Builtin.«tuple.index»;refine Za (wpAny_of_eq (show selfAndSome "tuple.index" "index" 1 3 QaC=pure (.ref l,[u])from rfl) ?_);refine Za (dP z C ?_);refine Za (Zb ?_);refine Za (Zb ?_);show wpAny _ _ (forIn (Std.Legacy.Range.mk 0 (min BK BK) 1 AO) _ _>>=_) _ _ _;refine Za ?_;rw[Std.Legacy.Range.forIn_eq_forIn_range'];have h:(Std.Legacy.Range.size ⟨0,min BK BK,1,by decide⟩)=AU:=by simp[Std.Legacy.Range.size]
 show wpAny _ _ (forIn (List.range' 0 (Std.Legacy.Range.size ⟨0,min BK BK,1,by decide⟩) 1) _ _) _ _ _;rw[h];have r:∀k(g:k<AU),Ap[k]? =So its[k]:=λk g=>by simp[g]
 refine Jkh q (λk g=>?_) ?_ AU 0 Ae Ae
 ·simp only[r k 'c'];refine Za (f its[k] Af prog w _ _ ?_);rw[F k 'c' g,if_neg 'v'];exact Zb Ce
 ·simp only[r j q];refine Za (f its[j] Af prog w _ _ ?_);rw[h1,if_pos rfl];refine Za (Za (wpAny_mkInt (Zb ?_)));exact Zb ⟨_,rfl,Zb B⟩
theorem Jlv(hu:GD):MtR X "tuple.index" (λx P H Q=>∃y,P=[y]/\∃J f,Rep X.K H Bt x/\Rep X.K H f y/\(op2 .indexT Bt f).Good B0 AC):=by
 rintro Y s Z H x P v us Q I rx rv⟨y,e,J,f,r1,r2,h⟩;subst e;obtain⟨u,rfl,ru⟩:=lA rv;simp only[op2]at h;split at h
 ·rename_i B;simp only[Jw,Zc,Zp]at B;have O:deps J+1<=20:=B.1.1;cases q:idxD f J with
  |none=>rw[q]at h;exact h.elim
  |some j=>
   rw[q]at h;obtain⟨⟨d',C,g2⟩,g3⟩:=JjG q;obtain⟨l,zs,rfl,h1,h2⟩:=r1;cases rx;obtain⟨its,o,n,g,W,c1,_,k1,_⟩:=I.tupleD h1;have l1:=XZ;have l2:=Hc;have hj:j<Ab:=(Zz.mp C).1;have r:∀(m:Nat)(z:m<AU),eU J its f its[m]=(J[m]'(by lia)).eqv f:=λm z=>
    fU I h2 g Ae (d:=f) (j:=m) (Zq z) (Zq (by lia:m<Ab))
   refine ZI Qbv ⟨_,W,c1⟩ F.entry_tuple_index (JpW (e:=eU J its f) (j:=j) W k1 (fN hu I h2 g r2 ru Ae B.1.2) Ae ?_ ?_ ?_) (F.args_tuple_index_2 _ _)
   ·rw[r j 'c'];have:J[j]=d':=by rw[Zq hj]at C;simpa using C
    rw[this];exact g2
   ·intro m z L;rw[r m z];exact g3 m _ L (Zq Ae)
   ·exact⟨_,rfl,.int _,H,I.tok _,Au,Out.now h rfl⟩
 ·exact h.elim
def JvQ{o:Expr}{J:TE}{t:TA}{name:Str}{cpos:Pos}{id:A5}{r:IM}(j:Slot "tuple" name id)(q:QO)(hm:MtR X id r)(P:PE X o J)(ha:PA X [e] t)
  (f:attributeBase o name WU LS=eval o WU) (g:GK=To) (L:MG):
  PE X (.Call Py [e] [] cpos) (λZ H Q=>J Z H λx m=>(∃p l,x=.ref p/\SqT X.K m p l)/\t Z m λl u=>r x l u Q):=by intro Y s Z H Q I h;refine wpAny_Call_method_late f (by rw[L];rfl) g rfl (thn (P Y s Z H _ I h) λv W y=>?_);obtain⟨x,m,B,r1,ty,q1⟩:=y;obtain⟨p,l,rfl,hT⟩:=ty;cases r1;obtain⟨its,ob,n,_,C,c1,d1,_,_⟩:=B.tupleD hT;refine⟨"tuple",id,F.plainAttrs_tuple,j,q,⟨_,C,c1⟩,λa z=>by cases z;exact⟨ob,C,d1⟩,?_⟩;have O:=ha cpos Y W Z m _ B q1;rw[L]at O⊢;refine Calls.callWith_builtin rfl (lT ?_);exact thn O λus s2⟨vs,u,I2,r2,q2⟩=>hm Y s2 Z u Dz vs Dz us Q I2 rfl r2 q2
def cIdxT(C:Am)(z:AH)(hb:BZ)(hn:noEx pb=To)(W:F7)(g:attributeBase a "index" WU Kf=eval a WU)(n:Ly):
  PE X (.Call (.Attribute a "index" apos) [b] [] pos) (tI X U (.bi .indexT pa pb)):=by
 refine PE.weak (JvQ Qbv F.type_tuple_index (Jlv C.un) z (JC hb kB n) g W n) λZ H Q h=>?_;obtain⟨O,r,h⟩:=h;refine tI.then r h λP x H1 s1 u L j=>?_;cases f:evD U pb O with
 |ex c=>exact absurd f (xQ U pb O c hn)
 |sk=>rw[f]at j;exact j.elim
 |ok dy=>
  rw[f]at j;simp only[Rs.bo]at j;cases P with
  |tup J=>obtain⟨l,I,rfl,B,g2⟩:=(show _ from u);refine⟨⟨l,I,rfl,B⟩,O,L,?_⟩;rw[f];intro y H2 m r2;exact⟨y,rfl,J,dy,u.mono m,r2,j.mono (λ_ o=>o.mono m) λ_ q=>q.mono m⟩
  |_=>exact(show False from j).elim
end
def Jku(k:Int)(t:Tok)(l:Addr)(items:BU)(n:Nat)(dd:CF)(sl:CY)(h1:(decide (k< -(2^63))||decide (k≥2^63))=Fo)(y:(items.isEmpty||k==1)=Fo)(o:(decide (k<=0)||items.isEmpty)=To):
  Meets (Builtin.«tuple.__mul__» Pk) (λ_ R s=>s.heap.get? l=So {cls:=.type "tuple",dict:=dd,data:=.seq items n,slots:=sl}/\R Sr {s with heap:=s.heap.push {cls:=Value.type "tuple",data:=Data.seq #[]},toks:=W7}):=
 .of_wp λprog w A R s h=>by
  obtain⟨C,g,d,q,B⟩:=s;obtain⟨f,h⟩:=h
  have z:=pK;have u:=mL;have r:=iL;have j:=lL;have m:=kL
  wp_walk using zE f
  refine wpAny_ite_false (by rw[h1];rfl) ?_
  wp_walk using zE f
  exact Dd
def Jkt(t:Tok)(l:Addr)(items:BU)(n:Nat)(sl:CY):
  Meets (Builtin.«tuple.__mul__» ⟨[.ref l,.int 1 t],[]⟩) (λ_ R s=>s.heap.get? l=So {cls:=.type "tuple",dict:=No,data:=.seq items n,slots:=sl}/\R (.ok (.ret (Value.ref l))) s):=
 .of_wp λprog w A R s h=>by
  obtain⟨z,g,d,o,y⟩:=s;obtain⟨f,h⟩:=h
  have u:=pK;have r:=mL;have q:=iL;have j:=lL;have m:=kL
  wp_walk using zE f
  exact Dd
end Rd
namespace HT
open PySem PyProof.Rows
end HT
namespace Rd
open PySem PySem.Spec PyProof.Rows L2 Pu
variable{X:Cx}{a b:Expr}{pa pb:Px}{pos p1 apos:Pos}{N:Ad}{G:Gw}{K:Ai}{nm:Bf}{w:AY}{s:Ak}{k:Nat}{h:Heap}
section
variable{U:Ag}
theorem JpQ:OpR X L9 (rD2 X .repU):=by
 rintro Y s Z H x y v u Q I O P⟨dx,dy,i,E,h⟩;cases dx<;>first|exact(show False from h).elim|(cases dy<;>first|exact(show False from h).elim|skip)
 rename_i J k;by_cases W:2<=k
 ·refine Jor Y s Z H x y v u Q I O P ⟨.tup J,.int k,i,E,?_⟩;simp only[op2]at h⊢;split at h
  ·rename_i f;simp only[Zc,Zp]at f;rw[if_pos (by simp only[Zc,Zp];exact⟨⟨W,f.1.2⟩,f.2⟩)];exact h
  ·exact h.elim
 ·simp only[op2]at h;split at h
  ·rename_i f;simp only[Zc,Zp]at f;obtain⟨a,xs,rfl,h1,h2⟩:=id i;have e2:y=V.int k:=E;subst e2;cases O;obtain⟨t,rfl⟩:=P;obtain⟨its,B,n,q1,e,L,A,M,_⟩:=I.tupleD h1;obtain⟨cls,dd,m,sl⟩:=B;simp only at L A M;subst L A M;have l:its≠[]:=λz=>f.1.2 (h2.nil_iff.mp (q1.nil_iff.mp z));have C:its.toArray.isEmpty=Fo:=by
    cases its with
    |nil=>exact absurd rfl l
    |cons a r=>simp
   by_cases h0:k=0
   ·subst h0;refine zT (T:="tuple") (U:="int") AO CD (λg=>iG g 0 t) Jad YT eI rZ Yd
     (sA eI (iG s 0 t) YQ R5 (JaG 0 t a Ap n No sl)
      ⟨e,rfl,CD,sA YR CD YI Sa (Jku 0 t a Ap n No sl AO (by rw[C];decide) (by rw[C];decide)) ⟨e,?_⟩⟩)
    obtain⟨s1,w1⟩:=nE (K:=X.K) (J:=[]) (xs:=[]) I.fresh rfl;exact⟨.ref Aa,_,I.laid (t':=W7) (o:=.tup []) (λb B q=>Zd _ q) (Zj _) ⟨⟨qA _,nJ⟩,[],.nil,IsTup.new _ _⟩,rfl,h _ _ s1 w1⟩
   ·have j:k=1:=by lia
    subst j;refine zT (T:="tuple") (U:="int") AO CD (λg=>iG g 1 t) Jad YT eI rZ Yd
     (sA eI (iG s 1 t) YQ R5 (JaG 1 t a Ap n No sl)
      ⟨e,rfl,CD,sA YR CD YI Sa (Jkt t a Ap n sl) ⟨e,?_⟩⟩)
    have:(List.replicate (1:Int).toNat J).flatten=J:=by simp
    rw[this]at h;exact⟨.ref a,H,I,rfl,Out.now h i⟩
  ·exact h.elim
def eRepU(f:AH)(e:BZ):PE X OQ (tI X U (.bi .repU pa pb)):=mJ JpQ f e
end
section
variable{U:Ag}{c d:Expr}{pc pd:Px}
noncomputable def eR:Expr->Bool
 |.Starred _ _=>Fo
 |_=>To
def Jsu{x y:Str}{px g pt o:Pos}{H k2:Nat}{O:PySem.Env}(v:O.scope.kind=.function)(W:O.scope.names.lookup x=So .local)(E:O.scope.names.lookup y=So .local)(e:(x==y)=Fo)(i:(g.line==QcL)=To)(C:eR a=To)(J:eR b=To)(L:[a,b].all (foldedForSure 8)=Fo)(B:[a,b].all (constantsAlone 8)=Fo):
  swappedStores [.Tuple N1 H pt] (.Tuple [a,b] k2 o) O=pure b0:=by
 have P:O.blockKind=.function:=by unfold PySem.Env.blockKind;rw[v];rfl
 have n:(y==x)=Fo:=by rw[ZC]at e⊢;exactλz=>e z.symm
 have M:(O.kindOf x==So .local)=To:=by unfold PySem.Env.kindOf;rw[W];rfl
 have u:(O.kindOf y==So .local)=To:=by unfold PySem.Env.kindOf;rw[E];rfl
 have r:∀{a:Expr},eR a=To->(match a with|.Starred ..=>To|_=>Fo)=Fo:=fun{a}h=>by cases a<;>first|rfl|cases h
 have l:∀{p q:Bool},p=Fo->q=Fo->¬(p||(q||false))=To:=λj m=>by rw[j,m];decide
 have A:∀f:Expr->Option Str,f DU=So x->f (.Name y g)=So y->List.filterMap f N1=[x,y]:=λf j m=>by rw[List.filterMap_cons_some j,List.filterMap_cons_some m];rfl
 unfold swappedStores;dsimp only[List.length,List.head?,Option.map,Option.getD];generalize I:List.filterMap _ _=names;obtain rfl:names=[x,y]:=by rw[<-I];exact A _ (by show(if(O.kindOf x==So .local&&px.line==QcL)=To then So x else No)=So x;rw[M,BEq.rfl];rfl) (by show(if(O.kindOf y==So .local&&g.line==QcL)=To then So y else No)=So y;rw[u,i];rfl)
 have F:[x,y].eraseDups=[x,y]:=by rw[List.eraseDups_cons,List.filter,n];rfl
 rw[if_neg (by rw[P];decide)];refine(if_neg (l (r C) (r J))).trans ?_;rw[if_neg (by rw[F];exact ZH),if_neg (by rw[L];decide),if_neg (by rw[B];decide)]
end
open PySem.SeqAt (EqAt)
def mtSS{id:A5}{o:O2}{k:Str->Str->Rs D}(i:∀a b,op2 o a b=onSS a b k)
  (h:∀(Y:AQ)(s:Ak)(Z:Bp)(H:Hp)(Q:VK)(z w:Str)(t t':Tok),L2.Inv X Y Z H s->(k z w).Good B0 AC->wpAny Ay X.A (PySem.call DH [.str z t,.str w t']) B3 X.xe s):MtR X id (λx f H Q=>∃y,f=[y]/\rD2 X o x y H Q):=by rintro Y s Z H x f v r Q I n q⟨y,e,A,B,l,j,g⟩;subst e;obtain⟨u,rfl,m⟩:=lA q;rw[i]at g;obtain⟨z,w,rfl,rfl,g⟩:=Jga g;cases l;cases j;obtain⟨t,rfl⟩:=n;obtain⟨t',rfl⟩:=m;exact h Y s Z H Q z w t t' I g
def JtD:MtR X "str.startswith" (λx e H Q=>∃y,e=[y]/\rD2 X .strt x y H Q):=mtSS LQ λY s Z H Q z w t f I h=>
 sA c6 c7 F.entry_str_startswith (F.args_str_startswith_2 _ _) (gives_str_startswith z w t f).meets ⟨.bl _,H,I,rfl,Out.now h rfl⟩
section
variable{U:Ag}
def Juu{a b:D}{k:Str->Str->Rs D}{P:D->Prop}{E:DL}(h:(onSS a b k).Good P E):∃i,a=.str i:=let⟨i,_,e,_⟩:=Jga h;⟨i,e⟩
def pI_sm{id:A5}{name:Str}{o:O2}(g:Slot "str" name id)(n:QO)(J:∀{l m:D}{P:D->Prop}{E:DL},(op2 o l m).Good P E->∃z,l=.str z)
  (M:MtR X id (λx B H Q=>∃y,B=[y]/\rD2 X o x y H Q)) (L:AH) (W:BZ) (Y:∀O,(∃z,evD U pa O=.ok Qc7)\/noEx pb=To) (C:F7)
  (f:'в' (attributeBase a name WU Kf=eval a WU) Al) (hs:'в' Ly Al):PE X (.Call (.Attribute a name apos) [b] [] pos) LL:=by
 refine PE.weak (iM F.plainAttrs_str g n M L (JC W kB hs) f (by rw[hs];rfl) C hs rfl) λZ H Q h=>?_;obtain⟨O,r,h⟩:=h;simp only[evD]at h;refine FK;cases i:evD U pa O with
 |sk=>rw[i]at h;exact h.elim
 |ex c=>rw[i]at h;exact h
 |ok l=>
  rw[i]at h;simp only[Rs.bo]at h;intro x H1 s1 j;have v:=r.mono s1;cases e:evD U pb O with
  |sk=>rw[e]at h;exact h.elim
  |ex c=>
   rw[e]at h;rcases Y O with⟨z,u⟩|I
   ·rw[i]at u;cases u;refine⟨by rw[show x=V.str z from j];rfl,O,v,?_⟩;rw[e];exact XW.mono s1 h
   ·exact absurd e (xQ U pb O c I)
  |ok m=>rw[e]at h;simp only[Rs.bo]at h;obtain⟨z,rfl⟩:=J h;refine⟨by rw[show x=V.str z from j];rfl,O,v,?_⟩;rw[e];intro y H2 s2 A;exact⟨y,rfl,.str z,m,j.mono s2,A,h.mono (λ_ o=>o.mono F6) λ_ q=>q.mono F6⟩
def cStrt(l:AH)(g:BZ)(j:noEx pb=To)(i:F7)(e:attributeBase a "startswith" WU Kf=eval a WU)(f:Ly):
  PE X (.Call (.Attribute a "startswith" apos) [b] [] pos) (tI X U (.bi .strt pa pb)):=pI_sm c6 F.type_str_startswith Juu JtD l g (λ_=>.inr j) i e f
end
def sp0(K:Ai)(U:Ag)(e:Nat):Sp:=λf H Q _=>∃J,Reps K H J f/\(U e J).Good (λd=>∀v W,Same H W->Rep K W d v->Q v W) (λ_=>False)
def noCX{P:Bk}{H:Hp}{e:An}{f:Ak}(h:CXr P w [] H s Ri e f):False:=by obtain⟨_,_,_,_,_,_,_,_,_,_,_,_,_,z⟩:=h;exact z
def Jwj (K:Ai) (a:Addr):Bool:=match K.lookup a with
 |some ⟨.type t,_,.seq its _,_⟩=>t=="tuple"&&decide (2<='乬'.sum)
 |_=>Fo
def xM (K:Ai) (a:Addr):Bool:=match K.lookup a with
 |some ⟨.type t,_,.seq its _,_⟩=>!(t=="tuple")||decide (2<='乬'.sum)||its.toList.any λv=>match v with
  |.ref b=>Jwj K b
  |_=>Fo
 |_=>To
def uV (K:Ai) (a:Addr):Bool:=match K.lookup a with
 |some ⟨.type t,_,.seq its _,_⟩=>!(t=="tuple")||its.toList.all λv=>match v with
  |.ref b=>xM K b
  |_=>To
 |_=>To
def tP (K:Ai):Bool:=match K.lookup mainGlobals with
 |some ⟨_,_,.dict es _,_⟩=>es.toList.all λe=>match e.val with
  |.ref a=>xM K a&&uV K a
  |_=>To
 |_=>To
def Jhs(h:tP K=To){y:Str}{b:Addr}(f:PySem.W.nsIn K mainGlobals y=So (So CU)):xM K b=To/\uV K b=To:=by
 unfold tP at h;unfold PySem.W.nsIn at f;split at f
 ·rename_i j _ _ i;rw[i]at h;split at f
  ·rename_i e g;simp only[ZT]at f;have:=ZZ.mp h e (List.mem_of_find?_eq_some g);simp only[f,Zc]at this;exact this
  ·split at f<;>simp at f
 ·cases f
def JfW{b:Addr}(h:xM K b=To){o:Obj}{f:BU}{n:Nat}(h1:K.lookup b=So o)(l:o.cls=.type "tuple")(j:o.data=.seq f n):2<='ϲ'.sum\/∃c,Value.ref c∈f.toList/\Ban2 K c:=by
 unfold xM at h;obtain⟨u,y,i,r⟩:=o;simp only at l j;subst l j;simp only[h1,ZB,oA,jC,nB,Zp]at h;rcases h with h|h
 ·exact .inl h
 ·obtain⟨v,m,h⟩:=lG.mp h;split at h
  ·rename_i b;refine .inr ⟨b,m,?_⟩;unfold Jwj at h;split at h
   ·rename_i t d g q s e;simp only[Zc,Zp,ZD]at h;exact⟨_,g,q,e,by rw[<-h.1],rfl,h.2⟩
   ·cases h
  ·cases h
def Jnt(h:tP K=To):NoKT K:=λy b o B n e i r m=>by
 rcases e with e|⟨E,u,l,H,A,v,g,f,C⟩
 ·exact JfW (Jhs h e).1 i r m
 ·have q:=(Jhs h A).2
  unfold uV at q
  obtain⟨F,I,j,z⟩:=u
  simp only at g f
  subst g f
  simp only[v,ZB,oA,jC]at q
  exact JfW (ZZ.mp q _ C) i r m
noncomputable def gM (N P:Ad) (e:Ba):Bool:=(e.kind==.function)&&!e.isCoroutine&&!e.isGenerator&&decide N.Nodup&&(N.take P.length==P)&&P.all (λx=>e.names.lookup x==So .local||e.names.lookup x==So .cell)&&e.names.all λy=>!(y.2==.free)
def oP{P:Ad}{e:Ba}(h:gM N P e=To):FnScope N P e:=by simp only[gM,Zc,ZD,rA,Zp,ZZ,nB,ZC]at h;obtain⟨⟨⟨⟨⟨⟨m,i⟩,f⟩,g⟩,j⟩,l⟩,n⟩:=h;exact⟨m,i,f,g,j,l,n⟩
structure DefIn(K:Ai)(n:Str)(s:Stmt)(f:Addr)(fd:B2):Prop where
 a:PySem.W.nsIn K mainGlobals n=So EE
 F:Fun K n n s f fd
def def_mk{n:Str}{s:Stmt}{f:Addr}{o g:CF}{sl:CY}{m kV j i e ct:An}(a:PySem.W.nsIn K mainGlobals n=So EE)(l:K.lookup f=So ⟨m,o,.func Wt,sl⟩)(c:PySem.W.codeIn K e n=To)(k:PySem.W.keepIn K Bc=To):DefIn K n s f Wt:=⟨a,JqN l c k⟩
structure Def1(K:Ai)(mg:BY)(x:Str)(st:Stmt)(ps:Ad)(f:Addr)(fd:B2):Prop where
 F:Fun K x x st f fd
 b:Binds K fd ps []
 g:mg x=So Bc
noncomputable def exkB (K:Ai) (C:Addr):Bool:=PySem.W.findIn K Bm "__getattribute__"==So (So VP)&&PySem.W.findIn K Bm "__getattr__"==So No&&PySem.W.mroIn K C Pb==So To&&PySem.W.hasDictIn K C&&PySem.W.findIn K Bm "__class__"==So (So GL)&&PySem.W.mroIn K C Qa1==So To
def exB (K:Ai) (cs:BH):Bool:=PySem.W.specialIn K GL "__get__"==So (So UW)&&PySem.W.takesIn K GL==So To&&cs.all λc=>exkB K c.2&&PySem.W.nsIn K mainGlobals c.1==So (So (.ref c.2))
noncomputable def takB (K:Ai) (CR:Addr) (cs:BH):Bool:=cs.all λc=>PySem.W.exmOne K (.ref c.2) YW==So To
def JvL{cs:BH}(h:exB K cs=To){c:Str×Addr}(m:c∈cs):ExKit K c.2/\PySem.W.nsIn K mainGlobals c.1=So (So (.ref c.2)):=by simp only[exB,Zc,ZD,ZZ,exkB]at h;obtain⟨⟨n,l⟩,i⟩:=h;obtain⟨⟨⟨⟨⟨⟨a,b⟩,j⟩,d⟩,e⟩,f⟩,g⟩:=i c m;exact⟨⟨a,b,j,d,e,n,l,f⟩,g⟩
def JoK{g:Str}{CR:Addr}{cs:BH}(X:G.K.In h)(N:h.Ns mainGlobals G.mg)(i:exB G.K cs=To)(m:takB G.K CR cs=To)(l:G.mg g=So YW):Takes G g (cs.map (·.1)):=by refine⟨⟨CR,l,λc j=>?_⟩⟩;obtain⟨x,e,rfl⟩:=ZE.mp j;obtain⟨n,f⟩:=JvL i e;exact⟨x.2,f,Zv X N f,ZD.mp (ZZ.mp m _ e)⟩
noncomputable abbrev DefE:=Str×Stmt×List Str
section
variable{P:Bk}{mg:BY}{base:Heap}{defs:DB}
noncomputable def HasD (K:Ai) (mg:BY):List DefE->Prop
 |[]=>True
 |e::T=>(∃f g,Def1 K mg e.1 e.2.1 e.2.2 f g)/\HasD K mg T
noncomputable def OkD (P:Bk) (w:AY) (K:Ai) (mg:BY) (base:Heap) (defs:DB) (k:Nat):Nat->List DefE->Prop
 |_,[]=>True
 |i,e::T=>(∀f g,Def1 K mg e.1 e.2.1 e.2.2 f g->FnOk P w K mg base B1 (3*k) f g e.2.2 (spI K mg BQ i))/\OkD P w K mg base defs k AE T
theorem Jji:∀(T:GB)(i:Nat),OkD P w K mg base defs 0 i T
 |[],_=>trivial
 |e::T,i=>⟨λ_ _ _=>Jsa,Jji T AE⟩
theorem Jld{k:Nat}:∀{T:GB}{i j:Nat}{e:DefE},OkD P w K mg base defs k i T->T[j]? =So e->∀f g,Def1 K mg e.1 e.2.1 e.2.2 f g->FnOk P w K mg base B1 (3*k) f g e.2.2 (spI K mg BQ (i+j))
 |[],_,_,_,_,h=>by simp at h
 |d::T,i,0,e,ok,h=>by
  simp only[jL,ZT]at h
  subst h
  exact ok.1
 |d::T,i,j+1,e,ok,h=>by
  have:=Jld (j:=j) ok.2 (by simpa using h)
  rw[show i+1+j=i+(j+1) by lia]at this
  exact this
theorem Jjc:∀{T:GB}{j:Nat}{e:DefE},HasD K mg T->T[j]? =So e->∃f g,Def1 K mg e.1 e.2.1 e.2.2 f g
 |[],_,_,_,h=>by simp at h
 |d::T,0,e,ok,h=>by
  simp only[jL,ZT]at h
  subst h
  exact ok.1
 |d::T,j+1,e,ok,h=>Jjc ok.2 (by simpa using h)
def Jlq{T:GB}{A:BX}(i:HasD K mg T)(ok:PX)(l:Room (3*k+2) A)(j:Nat){e:DefE}(h:T[j]? =So e):Callee A9 BQ j e.1:=by obtain⟨f,g,D⟩:=Jjc i h;have F:=Jld ok h f g D;rw[jI]at F;exact⟨⟨3*k,f,g,_,F,l.in1.in1,D.g,D.F.kp,D.b⟩⟩
def fo{l:Gw->CallD->Prop}{ps:Ad}{M:AX}{x:Str}{st:Stmt}{i:Nat}{d:DefD}{b:Sx}(E:∀A,Room (3*k+2) A->l A9 BQ)(r:∀{X:Cx}{G:Gw}{U:Ag}{e:Hp},l G U->Ctx X G N 'Ʈ'.names->HX X 'Ʈ'.names->PSs X Yv (tS X U M e b))
  (u:'в' (defs[i]? =So d) Al) (hb:'в' (XO=b) Al) (h:'в' ((gM N ps (Jf st)&&d.slots==Xl&&d.params==Aj&&M.all (λi=>decide (Aj<=i))&&decide (Aj<=Xl))=To) Rb):
  ∀f g,Def1 K mg x st ps f g->FnOk P w K mg base B1 (3*AV) f g ps (spI K mg Qcg i):=λf g D=>by
 simp only[Zc,ZD,ZZ,Zp]at h
 obtain⟨⟨⟨⟨q,z⟩,v⟩,y⟩,o⟩:=h
 subst hb
 exact fn_ok (j:=3*k+2) D.F (oP q) u z v y o λX A e C n m=>r (E A n) C m
noncomputable def DsIn (K:Ai):List DefE->Prop
 |[]=>True
 |e::T=>(∃f g,DefIn K e.1 e.2.1 f g)/\DsIn K T
abbrev BsE(e:DefE):Prop:=∀(kV f l:An)(j:CF)(g ct:An)(i:Az),bV=e.2.2.length->bindArgs (PySem.W.fnOf e.1 e.1 (qE e.2.1) (Jx e.2.1) (Jf e.2.1) .none kV f l j g ct) ⟨i,[]⟩=pure (e.2.2.zip i)
noncomputable def BsOk:List DefE->Prop
 |[]=>True
 |e::T=>BsE e/\BsOk T
theorem Jme(X:K.In h)(G:QR):∀{T:GB},DsIn K T->BsOk T->HasD K mg T
 |[],_,_=>trivial
 |e::T,d,b=>⟨let⟨f,g,D⟩:=d.1;⟨f,g,D.F,D.F.binds b.1,Zv X G D.a⟩,Jme X G d.2 b.2⟩
noncomputable def BlIn (K:Ai):List Str->Prop
 |[]=>True
 |x::T=>PySem.W.nsIn K mainGlobals x=So No/\BlIn K T
noncomputable def BlN (mg:BY):List Str->Prop
 |[]=>True
 |x::T=>mg x=No/\BlN mg T
theorem nU(X:K.In h)(G:QR):∀{T:Ad},BlIn K T->BlN mg T
 |[],_=>trivial
 |x::T,d=>⟨PySem.W.mg_none_of X G d.1,nU X G d.2⟩
end
noncomputable abbrev NM:=List Str×List Nat
def DAll (X:Cx) (G:Gw) (U:Ag) (f:Hp):List DefE->List NM->List DefD->Prop
 |e::T,n::L,d::D=>(Ctx X G n.1 (Jf e.2.1).names->HX X (Jf e.2.1).names->PSs X (Jx e.2.1) (tS X U n.2 f XO))/\DAll X G U f T L D
 |[],_,_=>True
 |_,_,_=>False
def chkD:List DefE->List NM->List DefD->Bool
 |e::T,n::L,d::D=>(gM n.1 e.2.2 (Jf e.2.1)&&d.slots==n.1.length&&d.params==e.2.2.length&&n.2.all (λi=>decide (e.2.2.length<=i))&&decide (e.2.2.length<=n.1.length))&&chkD T L D
 |[],_,_=>To
 |_,_,_=>Fo
def foAll{P:Bk}{mg:BY}{base:Heap}{defs:DB}{j:Gw->CallD->Prop}(E:∀A,Room (3*k+2) A->j A9 BQ)(T:GB):∀(L:List NM)(i:Nat)(_:∀{X:Cx}{G:Gw}{U:Ag}{m:Hp},j G U->DAll X G U m T L QdF)(_:chkD T L QdF=To),OkD P w K mg base defs AV i T:=by
 induction T with
 |nil=>exactλ_ _ _ _=>trivial
 |cons e T o=>
  intro L i f h;cases L with
  |nil=>cases h
  |cons n L=>
   cases q:defs.drop i with
   |nil=>rw[q]at h;cases h
   |cons d D=>
    have l:defs[i]? =So d:=by rw[<-Nat.add_zero i,<-List.getElem?_drop,q];rfl
    have g:defs.drop AE=D:=by rw[<-List.drop_drop,q];rfl
    rw[q]at h;simp only[q]at f;simp only[chkD,Zc]at h;exact⟨fo E (λe=>(f e).1) l rfl (by simp only[Zc];exact h.1),o L AE (λe=>by rw[g];exact(f e).2) (by rw[g];exact h.2)⟩
section
variable{U:Ag}{p2 px cpos:Pos}{e:Expr}{p:Px}{M:AX}{H0:Hp}{i j:Nat}{x y:Str}{tg:Expr}
def lNest{l k2:Nat}{z:Str}{P f:Pos}(C:Am)(h:E0)(h':chkA N nm M j y=To)(A:chkA N nm M l z=To):PG X (.Tuple [.Name x p1,.Tuple [.Name y p2,.Name z P] k2 f] k pos) (gS X M H0 [i,j,l] 5):=by
 obtain⟨hi,hx,o⟩:=chkA.at h;obtain⟨hj,hy,g⟩:=chkA.at h';obtain⟨hl,hz,n⟩:=chkA.at A;obtain⟨h1,h2⟩:=C.sto x hx;obtain⟨h3,h4⟩:=C.sto y hy;obtain⟨h5,h6⟩:=C.sto z hz;rintro Y s Z H v u Q I r⟨O,d,new,e,rd,m,h⟩;refine rM (pos:=pos) Xp (JP (qC (i:=i) (pos:=p1) (by rw[C.hN];exact C.nd) (by rw[C.hN];exact hi) h1 h2) (JP (rM (pos:=f) Xp (JP (qC (i:=j) (pos:=p2) (by rw[C.hN];exact C.nd) (by rw[C.hN];exact hj) h3 h4) (JP (qC (i:=l) (pos:=P) (by rw[C.hN];exact C.nd) (by rw[C.hN];exact hl) h5 h6) kN)) rfl rfl) kN)) rfl rfl Y s Z H v u Q I r ?_;unfold Jv at m;rw[if_neg 'v']at m;cases d with
 |tup J=>
  dsimp only at m;rw[if_pos rfl]at m;rcases pX m with z|⟨d0,L,W,rfl,z⟩
  ·cases z
  ·cases z;obtain⟨a,xs,rfl,hq,hr⟩:=rd;obtain⟨x0,r0,e0,k0,x1,r1,e1,⟨q,ys,rfl,F,B⟩,e2⟩:=hr;obtain⟨x2,r2,e3,k1,E,r3,e4,k2,e5⟩:=B;subst e5;subst e4;subst e3;subst e2;subst e1;subst e0;exact⟨a,[x0,.ref q],rfl,SqT.same hid_same hq,rfl,x0,[.ref q],rfl,.ref q,[],rfl,⟨q,[x2,E],rfl,SqT.same hid_same F,rfl,x2,[E],rfl,E,[],rfl,rfl,rfl,h _ (((e.put o k0).put g (by rw[JD o];exact k1)).put n (by rw[JD g,JD o];exact k2))
    (by rw[show Jt [i,j,l] [So d0,So L,So W,No,No] O=('Ӂ'.set j (So L)).set l (So W)from rfl,JD n,JD g,JD o])⟩⟩
 |_=>cases m
end
end Rd
namespace Rd
open PySem PySem.Spec PyProof.Rows L2 Pu PySem.W
variable{X:Cx}{H:Hp}{s:Ak}{fi:Nat}{P:Bk}{w:AY}{K:Ai}{mg:BY}{base:Heap}{p:Px}{pos p1 p2:Pos}{cs:Ad}{en:Str}
end Rd
namespace Rd
open PySem PySem.Spec PyProof.Rows L2 Pu
variable{X:Cx}{N ns ps:Ad}{H0 H W H1:Hp}{pos px apos p1 py cpos pt pt2 np:Pos}{x f m y cn qual:Str}{G:Gw}{nm:Bf}{bc:A1}{K:Ai}{i fi k j kt k2 nt:Nat}{e a b ek c:Expr}{M ts:AX}{Z:Bp}{w:Bool}{O:Fm}{P:Bk}{mg:BY}{base:Heap}{v:V}{α:Type}{d:D}{pb:Bx}{es:C6}{L L1:A3}{st:Stmt}{pk:Px}{fd:B2}{xs:AA}
def JsS{O:PySem.Env}(h:O.kindOf x≠So .local):swappedStores Md FT O=pure No:=by
 have g:(O.kindOf x==So .local)=Fo:=by simpa using h
 unfold swappedStores;simp only[ZW,g,ZU,Zh,Zo,List.filterMap_nil];cases q:(O.kindOf y==So NameKind.local&&py.line==(Option.map (λx=>x.pos.line) [Expr.Name x px,Expr.Name y py].head?).getD 0)<;>simp only[q,Zh,Zo,if_true]<;>(split<;>first|rfl|(split<;>rfl))
section
variable{U:Ag}{p:Px}
def aTupC(C:Am)(n:celB nm x=To)(l:PE X FT El)(h:PG X NN SR)(g:Cu)(o:swapsWithSole Md FT Xi WU=pure Fo)
  (h1:(assignEach Md WU).map (·.2)=[assign NN WU]):PS X (.Assign Md FT pos) Ni:=
 aTup C l h g o (JsS λz=>by
  have:=C.cel x n
  rw[z]at this
  rcases this with w|w<;>cases w) h1
end
noncomputable def plK:HO->Bool
 |.lst _=>To
 |.tup _=>To
 |.frz _ _=>To
 |_=>Fo
def SameP(H W:Hp):Prop:=∀a o,H a=So o->plK o=To->W a=So o
def PlO(H:Hp):Prop:=∀a o,H a=So o->plK o=To
def pl (H:Hp):Hp:=λa=>match H a with
 |some o=>if plK o then So o else No
 |none=>No
section
variable{K:Ai}{H W H1 H2 H0:Hp}{L:A3}
def SameP.of(s:CS):SameP H W:=λa o h _=>s a o h
def SameP.refl:SameP H H:=λ_ _ h _=>h
def SameP.trans(a:Qbf)(b:SameP H1 H2):SameP H H2:=λx o h p=>b x o (a x o h p) p
def SameP.hid(s:DA):SameP Br Iq:=λa o h p=>by
 obtain⟨n,e⟩:=pN h
 rw[Jy n];exact s a o e p
def PlO.same(p:BA)(s:Same H0 H)(t:DA):Same H0 W:=λa o h=>t a o (s a o h) (p a o h)
def Jmw{a:Addr}{o:HO}(h:pl H a=So o):H a=So o/\plK o=To:=by
 unfold pl at h;split at h
 ·rename_i u e;split at h
  ·rename_i q;cases h;exact⟨e,q⟩
  ·cases h
 ·cases h
def JlS:Same (pl H) H:=λa o h=>(Jmw h).1
def JqS:PlO (pl H):=λa o h=>(Jmw h).2
def JtK(t:Same (pl H) W):SameP H W:=λa o h p=>t a o (by unfold pl;rw[h];simp[p])
def SameP.sqL{a:Addr}(s:DA)(h:bF):SqL K W a xs:=by
 rcases h with(h|⟨o,h⟩)|h
 ·exact .inl (.inl QdG)
 ·exact .inl (.inr ⟨o,s _ _ h rfl⟩)
 ·exact .inr h
def SameP.sqT{a:Addr}(s:DA)(h:bH):SqT K W a xs:=by
 rcases h with h|h
 ·exact .inl QdG
 ·exact .inr h
mutual
theorem Rep.plain(e:DA):∀(d:D){v:V},Jh d=To->Rep K H d v->Rep K W d v
 |.non,_,_,h=>h
 |.bl _,_,_,h=>h
 |.int _,_,_,h=>h
 |.str _,_,_,h=>h
 |.tup J,_,p,⟨a,xs,e1,h1,h2⟩=>⟨a,xs,e1,e.sqT h1,Reps.plain e J (by simpa[Jh]using p) h2⟩
 |.lst J,_,p,⟨a,xs,e1,h1,h2⟩=>⟨a,xs,e1,e.sqL h1,Reps.plain e J (by simpa[Jh]using p) h2⟩
 |.dct t z ks vs,_,p,⟨a,xs,e1,h1,h2⟩=>by
  simp only[Jh,Zc]at p
  obtain⟨rfl,p⟩:=p
  refine⟨a,xs,e1,?_,Reps.plain e vs p h2⟩
  cases t<;>obtain⟨g,⟨o,l⟩,n⟩:=h1
  ·exact S5
  ·exact S5
 |.obj _ _ _,_,p,_=>by simp[Jh]at p
 |.mls _ _,_,p,_=>by simp[Jh]at p
 |.adr _,_,_,h=>h
 |.exc c,_,_,⟨a,o,C,e1,h1,h2⟩=>⟨a,o,C,e1,e _ _ h1 rfl,h2⟩
 |.fn x _,_,_,h=>h
theorem Reps.plain(e:DA):∀(J:Ao){xs:AA},Jj J=To->Reps K H J xs->Reps K W J xs
 |[],_,_,h=>h
 |d::J,_,p,⟨x,r,e1,h1,h2⟩=>by
  simp only[Jj,Zc]at p
  exact⟨x,r,e1,Rep.plain e d p.1 h1,Reps.plain e J p.2 h2⟩
end
end
def JwS{s:Bl}(h:i∉M):Ow M K6 Z=Ow M O Z:=qX λj g=>by
 unfold owA
 rw[Zu (λz:i=j=>h (z▸g))]
def EnvOk.objN(e:Dm){r:D}(hi:i∉M)(C:plE J6=To)(s:DA)(s0:Same H0 W)(hr:Rep K cD r v):EnvOk K M H0 W W1 (O.set i (So r))where
 same:=s0
 len:=by rw[dE,dE];exact e.len
 read:=λj d n h=>by
  rw[JD hi]
  rcases rC h with⟨rfl,F,hl⟩|⟨o,h⟩
  ·cases F;exact⟨v,ZX (by rw[e.len];exact hl),hr⟩
  ·obtain⟨u,q,g⟩:=e.read j d n h
   rw[Zu (Ne.symm o)]
   exact⟨u,q,Rep.plain s.hid d (Jmh C h o) g⟩
 own:=λj d n h=>by
  rw[JD hi]
  rcases rC h with⟨rfl,_,_⟩|⟨o,h⟩
  ·exact absurd n hi
  ·obtain⟨l,q,h0,g⟩:=e.own j d n h
   have p:=Jmh C h o
   rw[Zu (Ne.symm o)]
   refine⟨l,q,h0,?_⟩
   cases d with
   |lst J=>obtain⟨xs,q1,q2⟩:=g;exact⟨xs,s _ _ q1 rfl,Reps.plain s.hid J (by simpa[Jh]using p) q2⟩
   |dct t z ks vs=>
    cases z with
    |true=>first|exact g.elim|(obtain⟨A,_⟩:=g;cases A)
    |false=>simp[Jh]at p
   |_=>exact g.elim
 apart:=λj k l E I n B o q g A=>by
  have U:j≠i:=λz=>hi (z▸n)
  have Y:k≠i:=λz=>hi (z▸B)
  rw[Zu 'Ԇ']at q A
  rw[Zu (Ne.symm Y)]at g⊢
  exact e.apart j k l E I n B o q g A
theorem JqM:∀{l:List α}{i:Nat}{a:α},l[i]? =So a->l.set i a=l
 |[],_,_,h=>by simp at h
 |b::l,0,a,h=>by simp at h;simp[h]
 |b::l,i+1,a,h=>by simp only[List.set_cons_succ];rw[JqM (by simpa using h)]
def EnvOk.obj(e:Dm){g:D}(hi:i∉M)(o:plE J6=To)(s:DA)(h:Same H0 W)(l:Z[i]? =So BO)(n:Rep K cD g v):EnvOk K M H0 W Z Qa4:=by have:=e.objN hi o s h n;rw[JqM l]at this;exact this
def OutX(X:Cx)(M:AX)(H0:Hp)(Z:Bp)(L:A3)(H:Hp)(Q:VK)(d:D)(O:Fm):Prop:=∀v W,EnvOk X.K M H0 W Z O->Ow M O Z=L->SameP H W->Rep X.K W d v->Q v W
def EX(X:Cx)(M:AX)(H0:Hp)(Z:Bp)(c:Str)(O:Fm):Prop:=∀C W,X.mg c=So Bm->EnvOk X.K M H0 W Z O->XE X C W
inductive tB(X:Cx)(call:Ag)(bc:A1)(M:AX)(H0:Hp)(p:Bx)(σ:Bp)(H:Hp)(Q:VK):Prop where
 |mk:∀env,EnvOk X.K M H0 H σ env->(evB call bc p env).Good (OutX X M H0 σ (Ow M env σ) H Q) (EX X M H0 σ)->tB X call bc M H0 p σ H Q
inductive tTB(X:Cx)(call:Ag)(bc:A1)(M:AX)(H0:Hp)(p:Bx)(σ:Bp)(H:Hp)(Q:LD):Prop where
 |mk:∀env,EnvOk X.K M H0 H σ env->((evB call bc p env).Good (λd env'=>∃b,d=.bl b/\∀H',EnvOk X.K M H0 H' σ env'->Ow M env' σ=Ow M env σ->SameP H H'->Q b H') (EX X M H0 σ))->tTB X call bc M H0 p σ H Q
def mX(e:EnvOk X.K M H0 H Z O){r:Rs D}{P:D->Fm->Prop}{g:D->Prop}(h:(Rx.of O r).Good P (EX X M H0 Z))(n:∀d,P d O->g d):r.Good g AC:=by
 cases r with
 |ok d=>exact n d h
 |ex c=>exactλC W l s=>h C W l Hb
 |sk=>exact h
section
variable{U:Ag}{p:Px}{pa:Bx}
def Jrj(g:BF):PE X e (tB X U bc M H0 Qc9):=
 PE.weak g λZ H Q⟨O,e,h⟩=>⟨O,Yk,mX e h λd l v W s r=>l v W Hb rfl 'ʒ' r⟩
def tTB.asTest{Q:DI}(h:tTB X U bc M H0 pa Z H Q):tB X U bc M H0 pa Z H λx W=>∃k,x=.bl k/\Q k W:=by obtain⟨O,e,h⟩:=h;refine⟨O,e,h.imp (λd g⟨b,l,q⟩v W n o s r=>?_) λ_ _ z=>z⟩;subst l;exact⟨b,r,q W n o s⟩
def tB.two{o:O2}{Q:VK}(h:tB X U bc M H0 Kn Z H Q):tOp J7 Rt Mf Z H Q:=by
 obtain⟨O,e,h⟩:=h;refine⟨O,e,(Rx.gB.mp h).imp (λA g E x H1 I q F r1=>?_) λ_ _ z=>z⟩;refine⟨g,I,(Rx.gB.mp E).imp (λdy C n y H2 u l B Y=>?_) λ_ _ z=>z⟩;split at n
 ·rename_i hp;exact⟨A,dy,Rep.plain B A hp r1,Y,mX u n λd J v W s r=>J v W (u.grow s) (l.trans q) ((F.trans B).trans 'ʒ') r⟩
 ·exact n.elim
def Jss{o:O2}{op:YB}(g:P6)(l:PE X a Rt)(n:PE X b Mf)(q:FZ):PT X FY (tTB X U bc M H0 Kn):=
 PT.weak (nW g l n q) λZ H Q h=>h.asTest.two
def fW{p:Px}(g:PT X a b8):PT X a (tTB X U bc M H0 Qc9):=
 PT.weak g λZ H Q⟨O,e,h⟩=>⟨O,Yk,mX e h λd⟨b,l,q⟩=>⟨b,l,λW s=>q W Hb rfl 'ʒ'⟩⟩
def tTB.or{Q:DI}(h:tTB X U bc M H0 IT Z H Q):tOr Mj RC Z H Q:=by
 obtain⟨O,e,h⟩:=h;refine⟨O,e,(Rx.gB.mp h).imp (λd l o=>?_) λ_ _ z=>z⟩;cases d with
 |bl k=>
  refine⟨k,rfl,λH1 s g s1=>?_⟩;cases k with
  |true=>obtain⟨b,r,q⟩:=o;cases r;exact iteT (q H1 s g s1)
  |false=>exact iteF ⟨l,s,o.imp (λd u⟨b,r,q⟩=>⟨b,r,λB A n s2=>q B A (n.trans g) F6⟩) λ_ _ z=>z⟩
 |_=>exact o.elim
def JnU{op}(g:PT X a Mj):PW X Mm Mj:=by
 cases op
 ·exact Jma g
 ·exact Jqq g
def JqE{rest:C6}(l:PT X a Mj)(g:PW X IK RC):PW X Km (tTB X U bc M H0 IT):=
 PW.weak (Jws l g) λZ H Q h=>h.or
end
def spB(K:Ai)(mg:BY)(bc:A1)(fi:Nat):Sp:=λl H Q E=>∃a h st J,l=.ref a::h/\Rep K H st Aw/\Reps K H J h/\Jj J=To/\
 (bc fi st J).Good (λd g=>∀v W,SameP H W->Rep K W g Aw->Rep K W d v->Q v W) (λc g=>∀C W,mg c=So Bm->SameP H W->Rep K W g Aw->E Bm No W)
inductive CalleeBe(G:Gw)(bc:A1)(fi:Nat)(c m:Str):Prop where
 |mk (C:Addr) (kk:Nat) (f:Addr) (fd:FuncData) (ps:List Str) (h:PySem.W.nsIn G.K mainGlobals c=So (So (.ref C))/\Cls G.K C/\Meth G.K C m f/\FnOk G.prog G.w G.K G.mg G.base (CXr G.prog G.w) kk f fd ps (spB G.K G.mg bc fi)/\Room kk G.A.in1.in1/\Binds G.K fd ps []):CalleeBe G bc fi c m
structure CalleeB(G:Gw)(bc:A1)(fi:Nat)(c m:Str):Prop where
 ex:CalleeBe G bc fi c m
inductive tC(X:Cx)(call:Ag)(bc:A1)(f i:Nat)(cn m:Str)(p:Px)(σ:Bp)(H:Hp)(Q:VK):Prop where
 |mk:∀env a ns fs,ReadOk X.K H σ env->env[i]? =So (So (.obj a ns fs))->clsN ns=cn->ns.contains m=Fo->((evD call p env).Good (λd=>∃ds,d=.lst ds/\Jj ds=To/\(bc f CG ds).Good (λd st'=>∀v H',SameP H H'->Rep X.K H' st' Aw->Rep X.K H' d v->Q v H') (λc st'=>∀C H',X.mg c=So Bm->SameP H H'->Rep X.K H' st' Aw->XE X C H')) AC)->tC X call bc f i cn m p σ H Q
theorem Jjl:∀{ns:Ad}{xs:List α},ns.contains m=Fo->'ɜ'.lookup m=No
 |[],_,_=>by simp
 |n::ns,[],_=>by simp
 |n::ns,x::xs,h=>by
  simp only[iF,ZF]at h
  simp only[nG,Zm,h.1]
  exact Jjl h.2
section
variable{U:Ag}{p:Px}
def JmY{C f:Addr}{kk:Nat}{fd:B2}{ps:Ad}{t:TA}(Cc:Am)(hC:PySem.W.nsIn G.K mainGlobals cn=So Ew){Z:Bp}{H:Hp}{Q:VK}(h:tC X U bc fi i cn m p Z H Q)
  (ht:∀O Q',ReadOk X.K H Z O->'ƴ'.Good (λd=>∃J,d=.lst J/\∀l W,Same H W->Reps X.K W J l->Q' l W) AC->t Z H Q'):
  gU C m (spB X.K X.mg bc fi) [] (λz _ W=>∀C,z=.ref C->XE X C W) (λZ H Q=>∃v,Z[i]? =So BO/\Q v H) t Z H Q:=by
 obtain⟨O,a,ns,fs,r,he,E,hm,h⟩:=h;obtain⟨v,hv,Y⟩:=r i _ he;obtain⟨e1,C',dx,xs,h1,I,h3,h4⟩:=id Y;subst e1;rw[E,Cc.K,hC]at I;cases I;refine⟨_,hv,a,dx,_,rfl,h1,Jjl hm,ht O _ r (h.imp λd⟨J,ed,u,g⟩=>⟨J,ed,λl W s rs=>?_⟩)⟩;refine⟨a,l++[],_,J,rfl,Y.mono s,by rw[uE];exact rs,u,?_⟩;cases q:bc fi CG J with
 |ok d o=>rw[q]at g;exactλv A B n rd=>g v A ('ʒ'.trans B) n rd
 |ex c o=>rw[q]at g;exactλC2 A F B n C3 e3=>by cases e3;exact g C2 A F ('ʒ'.trans B) n
 |sk=>rw[q]at g;exact g
def mU:Jdh (CXr Xa X.w) X (λg _ W=>∀C,g=.ref C->XE X C W):=λY Z H s e h I l=>by
 obtain⟨a,C,W,rfl,F,n⟩:=JjI I l
 exact n C rfl a h F
def Jnc{pl:D0}(l:Am)(u:MU)(z:visB nm x=To)(hi:N[i]? =So x)(o:CZ)(q:(x==("__classdict__":Str))=Fo)(s:Kj)
  (n:Dx) (hpl:'в' ('ĺ'.any (·.1)=Fo) Al)
  (ht:'в' (eval GF WU=(do
   let ov<-eval Ej WU
   standAt XI
   let(f,first)<-holding [ov] Fs
   callWith pos f first 'ѐ' Fq)) Al):PE X GF (tC X U bc fi i cn m p):=by obtain⟨C,kk,f,fd,ps,B,J,I,F,A,Y⟩:=u.ex;have E:=l.g;subst E;exact PE.weak (JsW (qD (by rw[l.hN];exact hi) (l.vis x z) o q) J I F (Room.out A) Y .nil mU s n hpl ht) λZ H Q h=>JmY (f:=f) (kk:=kk) (fd:=fd) (ps:=ps) l B h λO Q' r g=>⟨O,r,g⟩
def Jps {pl:D0} (l:Am) (q:MU) (s:HJ) (hi:N[i]? = So x) (n:CZ) (o:(x == ("__classdict__" : Str)) = Fo)
  (A:'в' (eval Mr WU = (do
   let ov <- eval Ej WU
   standAt XI
   let (f,first) <- holding [ov] Fs
   callWith pos f first 'Ȱ' Fq)) Al):PE X Mr (tC X U bc fi i cn m .nil):=by obtain ⟨C,kk,f,fd,ps,B,h2,Y,F,u,hb⟩:=q.ex;have E:=l.g;subst E;exact PE.weak (JpF (qD (by rw [l.hN]; exact hi) (l.vis x s) n o) h2 Y F (Room.out u) hb .nil mU A) λZ H Q h=>JmY (f:=f) (kk:=kk) (fd:=fd) (ps:=ps) l B h λO Q' r g=>by obtain ⟨J,z,I⟩:=g;cases z;exact I [] H Ea rfl
end
section
variable{U:Ag}{p:Px}
def JrE(E:TC)(I:BA)(hm:ns.contains m=Fo):PE X e UU:=by
 refine PE.weak E λZ H Q B=>?_;obtain⟨O,e,h⟩:=B;simp only[evB]at h;split at h
 ·rename_i a n fs q;split at h
  ·rename_i A;subst A;refine⟨O,a,n,fs,Yk,q,rfl,hm,?_⟩;obtain⟨v,hv,Y⟩:=e.read i _ Af q;obtain rfl:v=.ref a:=Y.1;have o:∀{g:D}{W:Hp},plE J6=To->SameP H W->Rep X.K W g Aw->EnvOk X.K [] H0 W Z Qa4:=λhp s r=>e.obj Af hp s (I.same XQ s) hv (by show Rep X.K cJ _ _;rw[JI];exact r);cases z:evD U p O with
   |sk=>rw[z]at h;exact h.elim
   |ex c=>rw[z]at h;simp only[if_true]at h;exactλC W l s=>h C W l Hb
   |ok d=>
    rw[z]at h;cases d with
    |lst J=>
     simp only at h;split at h
     ·rename_i u;simp only[Zc]at u;refine⟨J,rfl,u.2,?_⟩;cases y:bc fi (.obj a n fs) J with
      |sk=>rw[y]at h;exact h.elim
      |ok d g=>rw[y]at h;exactλv W s r F=>h v W (o u.1 s r) rfl s F
      |ex c g=>rw[y]at h;exactλC W l s r=>h C W l (o u.1 s r)
     ·exact h.elim
    |_=>exact h.elim
  ·exact h.elim
 ·exact h.elim
def JuQ(l:∀a∈L,H1 a=No):Same H1 FM:=λb o h=>by
 have:b∉L:=λg=>by rw[l b g]at h;cases h
 rw[JM this];exact h
def JiV(he:TC)(h0:BA)(hm:ns.contains m=Fo)(hi:i∉M)(C:Cu):PE X e UD:=by
 rintro Y s Z H Q I⟨O,e,h⟩;simp only[evB]at h;split at h
 ·rename_i a l fs q;split at h
  ·rename_i A;subst A;obtain⟨F,hv,hr⟩:=e.read i _ hi q;obtain rfl:F=.ref a:=hr.1;obtain⟨ps,e1,e2,I'⟩:=Inv.hide I e.ows.c;cases z:evD U p O with
   |sk=>rw[z]at h;exact h.elim
   |ex c=>rw[z]at h;exact h.elim
   |ok d=>
    rw[z]at h;cases d with
    |lst J=>
     simp only at h;split at h
     ·rename_i n;simp only[Zc]at n;cases y:bc fi (.obj a l fs) J with
      |sk=>rw[y]at h;exact h.elim
      |ex c g=>rw[y]at h;exact h.elim
      |ok d g=>
       rw[y]at h;refine ZV (he (ps++Y) s Z DE (λv H1=>SameP DE H1/\Rep X.K H1 g Aw/\Rep X.K H1 d v) I' ⟨JL M 0 O,a,l,fs,Z3,by rw[gK,q];simp[hi],rfl,hm,?_⟩) (λu s1⟨v,H1,I1,rv,sm,r1,r2⟩=>?_) λ_ _ z=>z
       ·rw[Ju U O C,z];refine⟨J,rfl,n.2,?_⟩;rw[y];exactλv W s r rd=>⟨s,r,rd⟩
       ·obtain⟨E,I2⟩:=Inv.unhide I e.ows.c e1 e2 (λb xs w=>sm b _ w rfl) I1;have sp:SameP H (uni Bz H H1):=λb o w pk=>by
         by_cases B:b∈Ow M O Z
         ·rw[sJ B];exact w
         ·rw[JM B];exact sm b o (by rw[Jy B];exact w) pk
        exact⟨v,_,I2,rv,h v _ (e.obj hi n.1 sp (h0.same XQ sp) hv (by rw[pQ E];exact r1)) (JwS hi) sp (r2.mono (JuQ E))⟩
     ·exact h.elim
    |_=>exact h.elim
  ·exact h.elim
 ·exact h.elim
end
structure FzB(L:A3)(H:Hp)(L':A3)(W:Hp):Prop where
 keep:∀a o,H a=So o->plK o=To->a∉L->W a=So o
 own:∀l∈L',l∈L\/∀o,H l=So o->plK o=Fo
def ChB(m:Bool)(L:A3)(H:Hp)(g:A3)(W:Hp):Prop:=FzB L H g W/\(m=Fo->SameP H W)
section
variable{m n:Bool}{L2:A3}{H2:Hp}
def ChB.of(h:LV):ChB m L H L1 H1:=⟨⟨λa o e _ g=>h.1.keep a o e g,λl q=>(h.1.own l q).imp id λz o w=>by rw[z]at w;cases w⟩,λz=>SameP.of (h.2 z)⟩
def ChB.sp(h:Qbf):ChB m L H L H1:=⟨⟨λa o e p _=>h a o e p,λl g=>.inl g⟩,λ_=>h⟩
def ChB.trans(a:P5)(b:ChB n L1 H1 L2 H2):ChB (m||n) L H L2 H2:=by
 refine⟨⟨λc o e p q=>b.1.keep c o (a.1.keep c o e p q) p λg=>?_,λl r=>?_⟩,λh=>?_⟩
 ·rcases a.1.own c g with h|h
  ·exact q h
  ·rw[h o e]at p;cases p
 ·rcases b.1.own l r with h|h
  ·exact a.1.own l h
  ·by_cases g:l∈L
   ·exact .inl g
   ·refine .inr λo e=>?_;cases p:plK o with
    |false=>rfl
    |true=>rw[<-h o (a.1.keep l o e p g),p]
 ·simp only[ZF]at h;exact(a.2 h.1).trans (b.2 h.2)
def ChB.weak(a:P5)(h:n=Fo->m=Fo):ChB n L H L1 H1:=⟨a.1,λq=>a.2 (h q)⟩
end
def OutQ(X:Cx)(w:Bool)(M:AX)(H0:Hp)(L:A3)(H:Hp)(m:Bool)(D:Ends)(f:Fw)(O:Fm):Prop:=match f with
 |.nx=>∀g W,EnvOk X.K M H0 W g O->ChB m L H cK W->D.nx g W
 |.rt d=>∀v W,Same H0 W->Rep X.K W d v->(w=To->∃g,EnvOk X.K M H0 W g O)->D.rt v W
 |.bk=>∀g W,EnvOk X.K M H0 W g O->ChB m L H cK W->D.bk g W
 |.ct=>∀g W,EnvOk X.K M H0 W g O->ChB m L H cK W->D.ct g W
def EQ(X:Cx)(M:AX)(H0:Hp)(c:Str)(O:Fm):Prop:=∀C W g,X.mg c=So Bm->EnvOk X.K M H0 W g O->XE X C W
inductive tSB(X:Cx)(w:Bool)(call:Ag)(bc:A1)(M:AX)(H0:Hp)(p:Bs)(D:Ends)(σ:Bp)(H:Hp):Prop where
 |mk:∀env,EnvOk X.K M H0 H σ env->(exO w call bc p env).Good (OutQ X w M H0 (Ow M env σ) H (mutB p) D) (EQ X M H0)->tSB X w call bc M H0 p D σ H
def OutQ.after{m n k:Bool}{D:Ends}{f:Fw}(h:OutQ X w M H0 L H k D f O)(c:P5)(u:k=Fo->m=Fo/\n=Fo):OutQ X w M H0 L1 H1 n D f O:=by
 have r:∀{s:A3}{W:Hp},ChB n L1 H1 s W->ChB k L H s W:=λz=>(c.trans z).weak λq=>by obtain⟨a,b⟩:=u q;rw[a,b];rfl
 cases f with
 |nx=>exactλg W l o=>h g W l (r o)
 |rt d=>exact h
 |bk=>exactλg W l o=>h g W l (r o)
 |ct=>exactλg W l o=>h g W l (r o)
section
variable{U:Ag}{p:Px}{a b:Bs}{q:Sx}{rest sa sb:Cj}
def rH(h:PS X st QbO):PS X st Tt:=by
 refine PS.weak h λD Z H⟨O,e,h⟩=>D8;simp only[exO]at h;cases z:exD U q O with
 |sk=>rw[z]at h;exact h.elim
 |ex c=>rw[z]at h;exact h.elim
 |ok r=>
  rw[z]at h;obtain⟨f,o⟩:=r;cases f with
  |nx=>exactλg W l n=>h g W l GR
  |bk=>exactλg W l n=>h g W l GR
  |ct=>exactλg W l n=>h g W l GR
  |rt d=>
   cases w with
   |true=>exact h.elim
   |false=>exactλv W s r=>h v W s r λz=>by cases z
def lY(h:PSs X rest QbO):PSs X rest Tt:=by
 refine PSs.weak h λD Z H⟨O,e,h⟩=>D8;simp only[exO]at h;cases z:exD U q O with
 |sk=>rw[z]at h;exact h.elim
 |ex c=>rw[z]at h;exact h.elim
 |ok r=>
  rw[z]at h;obtain⟨f,o⟩:=r;cases f with
  |nx=>exactλg W l n=>h g W l GR
  |bk=>exactλg W l n=>h g W l GR
  |ct=>exactλg W l n=>h g W l GR
  |rt d=>
   cases w with
   |true=>exact h.elim
   |false=>exactλv W s r=>h v W s r λz=>by cases z
def lJ(h:PS X st Mo):PSs X [st] Mo:=oN h
def JlW(h1:PS X st Mo)(s:PSs X rest Ou):PSs X (st::rest) (tSB X w U bc M H0 ID):=by
 refine PSs.weak (vJ h1 s) λD Z H⟨O,e,h⟩=>D8;refine(Rq.gB.mp h).imp (λf n r=>?_) λ_ _ z=>z;have u:mutB ID=Fo->mutB a=Fo:=λq=>(ZF.mp q).1;cases f with
 |nx=>intro g W l o;refine⟨n,l,r.imp (λB A s=>s.after o λq=>ZF.mp q) λ_ _ z=>z⟩
 |rt d=>exact r
 |bk=>exactλg W l o=>r g W l (o.weak u)
 |ct=>exactλg W l o=>r g W l (o.weak u)
def oU(A:PT X c RC)(u:PSs X sa Mo)(Y:PSs X sb Ou):PS X Qaj (tSB X w U bc M H0 HQ):=by
 refine PS.weak (Jxn A u Y) λD Z H⟨O,e,h⟩=>D8;refine(Rx.good_next.mp h).imp (λd g n=>?_) λc g z C W o F=>z C W Z o F;cases d with
 |bl k=>
  refine⟨k,rfl,λW E I s=>?_⟩;have l:∀{q:Bs},(mutB HQ=Fo->mutB q=Fo)->(exO w U bc q g).Good (OutQ X w M H0 Bz H (mutB HQ) D) (EQ X M H0)->tSB X w U bc M H0 q D Z W:=λo J=>
   ⟨g,E,J.imp (λf r B=>by rw[I];exact B.after (m:=Fo) (ChB.sp s) λz=>⟨rfl,o z⟩) λ_ _ z=>z⟩
  cases k with
  |true=>exact iteT (l (λz=>(ZF.mp z).1) n)
  |false=>exact iteF (l (λz=>(ZF.mp z).2) n)
 |_=>exact n.elim
def Jqr(l:PE X e Mf)(E:QL):PS X Ie (tSB X w U bc M H0 (.eff pb)):=by refine PS.weak (nN l E) λD Z H⟨O,e,h⟩=>D8;exact(Rx.good_next.mp h).imp (λd g u v W n B s r=>u Z W n (by rw[B];exact ChB.sp s)) λc g z C W A o=>z C W Z A o
def Jrh(g:BF):PS X RF (tSB X w U bc M H0 (.ret p)):=by
 refine PS.weak (jV g) λD Z H⟨O,e,h⟩=>EV;simp only[exO]at h;cases z:evD U p O with
 |sk=>rw[z]at h;exact h.elim
 |ex c=>rw[z]at h;exactλC W l s=>h C W Z l Hb
 |ok d=>rw[z]at h;exactλv W s r=>h v W Qa0 r λ_=>⟨Z,e.grow s⟩
def Jxp(C:Am)(hi:N[i]? =So x)(n:locB nm x=To)(o:PE X e Mi)(I:Lu):
  PS X E6 Uc:=by
 obtain⟨A,F⟩:=C.sto x n;refine PS.weak (pF (by rw[C.hN];exact C.nd) (by rw[C.hN];exact hi) A o I F) λD Z H⟨O,e,h⟩=>D8;refine(Rx.good_next.mp h).imp (λd g l v W u J s r=>?_) λc g z C W E B=>z C W Z E B;split at l
 ·exact l _ W (u.put Af (by show Rep X.K KN d v;rw[JI];exact r)) (ChB.sp s)
 ·exact l.elim
def Jpb{cx:Str}{ma:Expr}{l:Px}(o:∀H,PS X QW (tS X U [] H QdH)):PS X QW (tSB X w U bc [] H0 QdH):=by
 rintro Y s Z H D I⟨O,e,h⟩;refine o H Y s Z H D I ⟨O,⟨Same.refl H,e.len,e.read,λj d g=>by simp at g,λj _ _ _ _ g=>by simp at g⟩,?_⟩;simp only[exO]at h;simp only[exD];cases z:evD U l O with
 |sk=>rw[z]at h;exact h.elim
 |ex c=>rw[z]at h;exact h.elim
 |ok d=>
  rw[z]at h;simp only[Rs.bo];simp only at h;split at h
  ·rename_i r;rw[if_pos r];exactλC W n s=>h C W Z n Hb
  ·exact h.elim
end
def FzB.hid(a:FzB L H L1 H1):SameP Br (hid L1 H1):=λb o h p=>by
 obtain⟨n,e⟩:=pN h
 have:b∉L1:=λg=>by
  rcases a.own b g with z|z
  ·exact n z
  ·rw[z o e]at p;cases p
 rw[Jy this];exact a.keep b o e p n
section
variable{X:Cx}{w:Bool}{U:Ag}{bc:A1}{M:AX}{H0:Hp}{G:Gw}{N:Ad}{nm:Bf}{pos:Pos}
theorem Jgf{body:Bs}{D:Ends}{J:Ij}{C:It}(e:NB)(s1:Qbf)
  (wk:∀s W,ChB BR Bz H1 s W->(∀i,i<Ab->C.go i W)/\C.stop Ab W/\∀i x E,i<Ab->C.yld i W x E->E=W/\∃d,J[i]? =So d/\Rep X.K (hid s W) d x)
  (h:'乮'.Good Sl aZ):
  ∃W9:Nat->Nat->L2.St->Hp->Prop,(∃m,W9 0 m Z H1)/\∀i m Z H,W9 i m Z H->(C.stop i H/\D.nx Z H)\/(C.go i H/\∃Nn:L2.St->Hp->Prop,(∀l W,Nn l W->∃I,I<m/\W9 AE I l W)/\
   ∀x W,C.yld i H x W->gS X M H0 ts nt x Z W λn u=>tSB X w U bc M H0 body {D with nx:=Nn,ct:=Nn,bk:=D.nx} n u):=by
 refine⟨λi m l W=>∃g,EnvOk X.K M H0 W l g/\ChB BR Bz H1 (Ow M g l) W/\i<=Ab/\m=Ab-i/\(forB ts nt F3 cC g).Good Sl aZ,
  ⟨Ab,O,e,ChB.sp SameP.refl,qA _,rfl,by simpa using h⟩,?_⟩
 rintro i m l W⟨g,e',c',hi,rfl,r⟩;obtain⟨w1,w2,w3⟩:=wk _ W c';have cH:∀{s:A3}{F:Hp},ChB BR Bz H1 s F->ChB BR Bz H s F:=λz=>((ChB.sp (m:=Fo) s1).trans z).weak λq=>by rw[q];rfl
 by_cases Y:i<Ab
 ·refine .inr ⟨w1 i Y,λn u=>∃I,I<Ab-i/\∃g,EnvOk X.K M H0 u n g/\ChB BR Bz H1 (Ow M g n) u/\i+1<=Ab/\I=Ab- AE/\(forB ts nt F3 G7 g).Good Sl aZ,λn u q=>q,λx u hy=>?_⟩;obtain⟨rfl,d,hd,rd⟩:=w3 i x u Y hy;rw[eS hd]at r;simp only[forB]at r;cases hb:Jv nt d with
  |sk=>rw[hb]at r;exact r.elim
  |ex c=>exact(rJ hb).elim
  |ok A=>
   rw[hb]at r;refine⟨g,d,A,e',rd,hb,λσ3 e3 ow3=>⟨Jt ts A g,e3,(Rq.gB.mp r).imp (λf o hr=>?_) λ_ _ z=>z⟩⟩;have cc:∀{s:A3}{F:Hp},ChB BR (Ow M (Jt ts A g) σ3) u s F->ChB BR Bz H1 s F:=λz=>by rw[ow3]at z;exact(c'.trans z).weak λq=>by rw[q];rfl
   cases f with
   |nx=>exactλB H4 e4 c4=>⟨_,by lia,o,e4,cc c4,by lia,rfl,hr⟩
   |ct=>exactλB H4 e4 c4=>⟨_,by lia,o,e4,cc c4,by lia,rfl,hr⟩
   |bk=>exactλB H4 e4 c4=>hr B H4 e4 (cH (cc c4))
   |rt d=>exact hr
 ·have he:i=Ab:=by lia
  subst he;rw[qI]at r;exact .inl ⟨w2,r l W e' (cH c')⟩
variable{tg iter:Expr}{body:Cj}{p:Px}{sb:Bs}{ts:AX}{nt:Nat}
theorem JsV(C:Am)(hp:F4)(hi:PE X iter El)(hg:Lb)(hb:TV)
  (hs:∀x,foldedSetIterable iter WU x=pure x):PS X S1 (tSB X w U bc M H0 (.loop ts nt (.walk (.un .asT p)) sb)):=by
 refine PS.weak (gQ hp Xp (Jup hi) hg hb hs) λD Z H⟨O,e,h⟩=>EV;simp only[exO,evD]at h;cases z:evD U p O with
 |sk=>rw[z]at h;exact h.elim
 |ex c=>rw[z]at h;exactλC W u s=>h C W Z u Hb
 |ok d=>
  rw[z]at h;cases d with
  |tup J=>
   simp only[Rs.bo,op1,Pu.D.walk]at h;split at h
   ·rename_i g;simp only[Zc]at g;intro v H1 B r;obtain⟨a,xs,rfl,F,h2⟩:=r;have n:=e.grow B;have na:∀xs,H1 a=So A4->a∉Ow M O Z:=λxs q u=>by obtain⟨o,I,l⟩:=n.ows a u;rw[q]at I;cases I;exact l
    refine⟨a,rfl,⟨xs,F⟩,Jgf (w:=w) (U:=U) (bc:=bc) n (SameP.of B) (λL' W c=>?_) h⟩;have A:SqT X.K W a xs:=by
     rcases F with q|q
     ·exact .inl (c.1.keep a _ q rfl (na xs q))
     ·exact .inr q
    have E:Reps X.K (hid L' W) J xs:=Reps.plain c.1.hid J g.1 (Reps.tups n.ows.tup J g.2 h2);have hl:=E.length;refine⟨λi hi=>⟨xs,_,A,Zq (by rw[hl];exact hi)⟩,⟨xs,A,by lia⟩,λi x Y hi⟨he,hx⟩=>⟨he,?_⟩⟩;obtain⟨d,g1,g2⟩:=E.get' (hx xs A);exact⟨d,g1,g2⟩
   ·exact h.elim
  |_=>exact h.elim
def JsF{a:Expr}{p1:Pos}(C:Am)(hp:F4)(ha:PE X a El)(o:gloB nm "range"=To)(q:G.mg "range"=No)(hg:Lb)(hb:TV)
  {A:Pos} (g:LB) (I:∀x,foldedSetIterable Ot WU x=pure x):PS X (.For tg Ot body [] pos) (tSB X w U bc M H0 (.loop ts nt (.un .range p) sb)):=by
 refine PS.weak (gQ hp Xp (Jhg (C.glo _ o) (by rw[C.mg];exact q) (Jn (U:=U) ha JK (by exact g)) g) hg hb I) λD Z H⟨O,e,h⟩=>EV;simp only[exO,evD]at h;simp only[evD];cases z:evD U p O with
 |sk=>rw[z]at h;exact h.elim
 |ex c=>rw[z]at h;exactλC W q s=>h C W Z q Hb
 |ok d=>
  rw[z]at h;cases d with
  |int j=>
   simp only[Rs.bo,op1]at h;cases l:midI j with
   |false=>rw[l]at h;exact h.elim
   |true=>
    rw[l]at h;simp only[if_true]at h;refine⟨[.int j],rfl,λvs H1 u r=>?_⟩;obtain⟨v,r',rfl,Y,rfl⟩:=r;cases Y;simp only[midI,Zc,Zp]at l;refine⟨j,rfl,l.1,l.2,?_⟩;split at h
    ·have F:(Pu.upTo 0 j.toNat).length=j.toNat:=by simp[Pu.upTo]
     refine Jgf (w:=w) (U:=U) (bc:=bc) (J:=Pu.upTo 0 j.toNat) (e.grow u) (SameP.of u) (λL' W c=>?_) h;rw[F];refine⟨λi n=>n,Zj _,λi x B n⟨E,hx⟩=>⟨E,.int (0+(i:Int)),by simp[Pu.upTo,n],hx⟩⟩
    ·exact h.elim
  |_=>exact h.elim
end
def FldC(G:Gw)(f:Str):Prop:=∀ns C,PySem.W.nsIn G.K mainGlobals Kc=So (So Bm)->Cls G.K C/\NoAttr G.K C f
theorem nQ{g:Type}(P:α->g->Prop):∀{ns:Ad}{fs:List α}{xs:List g}{d:α},'Ԍ'.lookup f=So d->Z0=Ac->(∀(i:Nat)(d:α),fs[i]? =So d->∃x,xs[i]? =So x/\P d x)->∃x,'ɜ'.lookup f=So x/\P d x
 |[],_,_,_,h,_,_=>by simp at h
 |n::ns,[],_,_,h,_,_=>by simp at h
 |n::ns,a::fs,[],_,_,hl,_=>by simp at hl
 |n::ns,a::fs,x::xs,d,h,hl,hr=>by
  simp only[nG,Zm]at h⊢
  cases q:f==n with
  |true=>
   rw[q]at h
   cases h
   obtain⟨y,l,o⟩:=hr 0 _ rfl
   simp at l;subst l
   exact⟨_,rfl,o⟩
  |false=>
   rw[q]at h
   exact nQ P h (by simpa using hl) λi d r=>by simpa using hr AE d (by simpa using r)
section
variable{U:Ag}{p:Px}
def Jxl(C:Am)(F:DZ)(r:BF)(I:attributeBase e f WU LU=eval e WU):PE X RE (tI X U (.un (.fld f) p)):=by
 refine PE.weak (JqY r I) λZ H Q h=>h.un1 λd v W s J g=>?_;cases d with
 |obj a ns fs=>
  simp only[op1]at g;obtain⟨rfl,l,E,xs,B,o,Y,n⟩:=J;cases q:'Ԍ'.lookup f with
  |none=>rw[q]at g;exact g.elim
  |some d=>rw[q]at g;obtain⟨x,u,A⟩:=nQ (λd x=>Rep X.K W d x) q n.length.symm λi d g=>n.get g;rw[C.K]at o;obtain⟨z,k2⟩:=F ns l o;exact⟨a,l,E,_,x,rfl,B,by rw[C.K];exact z,by rw[C.K];exact k2,u,Out.now g A⟩
 |_=>exact(show False from g).elim
end
noncomputable def Jqy:HO->Prop
 |.ins _ _ _=>False
 |_=>True
def SameN(H W:Hp):Prop:=∀a o,H a=So o->Jqy o->W a=So o
def SameN.p(s:Qdp):SameP H W:=λa o h p=>s a o h (by cases o<;>first|trivial|cases p)
def DK.no{a:Addr}{t z:Bool}{n:Ao}(h:DK H a t z n xs):∃o,H a=So o/\Jqy o:=by
 cases t<;>cases z<;>obtain⟨l,g,q⟩:=h
 ·exact Ha
 ·obtain⟨o,g⟩:=g;exact Ha
 ·exact Ha
 ·obtain⟨o,g⟩:=g;exact Ha
def Rep.fld(s:Qdp)(n:mC d=To)(h:D7):Rep K W d v:=by
 cases d with
 |dct t z E B=>obtain⟨a,xs,l,g,r⟩:=h;obtain⟨o,u,A⟩:=g.no;exact⟨a,xs,l,g.mono λC q=>by rw[u]at q;cases q;exact s a _ u A,Reps.plain s.p B n r⟩
 |mls t J=>obtain⟨a,xs,l,g,r⟩:=h;exact⟨a,xs,l,s a _ g trivial,Reps.plain s.p J n r⟩
 |_=>exact Rep.plain s.p _ n h
theorem Reps.fld(s:Qdp):∀{J:Ao}{xs:AA},J.all mC=To->Reps K H J xs->Reps K W J xs
 |[],_,_,h=>h
 |d::J,_,p,⟨x,r,e1,h1,h2⟩=>by
  simp only[oG,Zc]at p
  exact⟨x,r,e1,Rep.fld s p.1 h1,Reps.fld s p.2 h2⟩
theorem JnX:∀{ns:Ad}{xs:AA},ns.contains f=To->AK=Ac->putF f v 'ɜ'=ns.zip (putN f v ns xs)
 |[],_,h,_=>by simp at h
 |n::ns,[],_,hl=>by simp at hl
 |n::ns,x::xs,h,hl=>by
  simp only[nG,putF,putN]
  by_cases q:n=f
  ·rw[if_pos q,if_pos q];rfl
  ·rw[if_neg q,if_neg q]
   simp only[iF,nB,ZD]at h
   rw[JnX 'Ӿ' (by simpa using hl)]
   rfl
theorem nX{v:α}:∀(ns:Ad)(xs:List α),(putN f v ns xs).length=Ac
 |[],xs=>by cases xs<;>rfl
 |n::ns,[]=>rfl
 |n::ns,x::xs=>by simp only[putN];split<;>simp[nX ns xs]
theorem Reps.putN(g:D7):∀{ns:Ad}{J:Ao}{xs:AA},Reps K H J xs->Reps K H (Pu.putN f d ns J) (Pu.putN f v ns xs)
 |[],J,xs,h=>by cases J<;>cases xs<;>exact h
 |n::ns,[],xs,h=>by cases h;exact rfl
 |n::ns,d'::J,_,⟨x,r,e1,h1,h2⟩=>by
  subst e1
  simp only[Pu.putN]
  by_cases q:n=f
  ·rw[if_pos q,if_pos q];exact⟨_,_,rfl,g,h2⟩
  ·rw[if_neg q,if_neg q];exact⟨_,_,rfl,h1,Reps.putN g h2⟩
section
variable{a:Addr}{fs:Ao}
def tX(F:BA)(e:EnvOk K [] H0 H Z (So CG::O))(hp:plE O=To)(J:fs.all mC=To)(Y:ns.contains f=To)(I:mC d=To)(E:D7):
  Z[0]? =So (So Aw)/\∃C dx xs,H a=So (.ins C dx 'ɜ')/\PySem.W.nsIn K mainGlobals Kc=So (So Bm)/\(ns.zip xs).length<=AK/\SameP H QM/\EnvOk K [] H0 QM Z (So Tn::O):=by
 obtain⟨u,B,h⟩:=e.read 0 _ Af rfl;replace h:Rep K H CG u:=by have z:Rep K cL CG u:=h;rw[JI]at z;exact z
 obtain⟨rfl,C,dx,xs,n,A,r,s⟩:=h;have g:SameN H QM:=λb o q l=>by rw[Je (λz=>by subst z;rw[n]at q;cases q;exact l)];exact q
 refine⟨B,C,dx,xs,n,A,by rw[List.length_zip];exact Nat.min_le_left _ _,g.p,?_⟩;refine e.obj (i:=0) Af hp g.p (F.same XQ g.p) B ?_;show Rep K cJ _ _;rw[JI];have U:AK=Ac:=r.trans s.length.symm;refine⟨rfl,C,dx,putN f v ns xs,by rw[Jg,JnX Y U],A,by rw[nX];exact r,?_⟩;exact Reps.putN (Rep.fld g I E) (Reps.fld g J s)
end
section
variable{U:Ag}{p:Px}{ipos:Pos}
structure Slf(N:Ad)(nm:Bf)(x:Str):Prop where
 at_:N[0]? =So x
 vis:visB nm x=To
 d1:'@'=Fo
 d2:(x==("__classdict__":Str))=Fo
def Slf.pe(S:Iw)(C:Am):PE X DU (λZ H Q=>∃v,Z[0]? =So BO/\Q v H):=qD (by rw[C.hN];exact S.at_) (C.vis x S.vis) S.d1 S.d2
def sW{P:Fw->Fm->Prop}{E:ET}(h:(chgF f d O).Good P E):∃a ns fs g,O=So CG::g/\ns.contains f=To/\fs.all mC=To/\plE g=To/\ns.length<1000/\P .nx (So Tn::g):=by
 unfold chgF at h;split at h
 ·rename_i a ns fs g;split at h
  ·rename_i l;simp only[Zc]at l;exact⟨a,ns,fs,g,rfl,l.1.1.1,l.1.1.2,l.1.2,by simpa using l.2,h⟩
  ·exact h.elim
 ·exact h.elim
def Jsg(C:Am)(h0:BA)(S:Iw)(J:DZ)(Y:BF)(hs:'в' (swapsWith e Qat Xi WU=pure Fo) Al):
  PS X Ob Ub:=by
 refine PS.weak (pM aI Y hs) λD Z H⟨O,e,h⟩=>EV;simp only[exO]at h;cases z:evD U p O with
 |sk=>rw[z]at h;exact h.elim
 |ex c=>rw[z]at h;exact h.elim
 |ok d=>
  rw[z]at h;simp only at h;split at h
  ·rename_i l;obtain⟨a,ns,fs,B,rfl,hn,n,o,s,hD⟩:=sW h;intro v H1 u r;have I:mC d=To:=by cases d<;>first|exact l|(simp[Jh]at l;done)|(simp only[Jh,Zc]at l;exact l.2)
   obtain⟨q,E,dx,xs,h1,A,g,sp,F⟩:=tX (f:=f) h0 (e.grow u) o n hn I r;rw[C.K]at A;obtain⟨k1,k2⟩:=J ns E A;refine⟨_,q,a,E,dx,_,rfl,h1,by rw[C.K];exact k1,by rw[C.K];exact k2,?_,hD Z _ F (ChB.sp ((SameP.of u).trans sp))⟩;exact uC g s
  ·exact h.elim
def JrP(C:Am)(h0:BA)(S:Iw)(Y:DZ){g:Pos}(hs:'в' (swapsWith QbP Qat Xi WU=pure Fo) Al):
  PS X (.Assign SE QbP pos) TK:=by
 refine PS.weak (pM aI Jjm hs) λD Z H A l hl=>?_;obtain⟨O,e,h⟩:=A;obtain⟨a,ns,fs,F,rfl,hn,r,s,z,hD⟩:=sW h;have B:Same H (upd H l aD):=λb o q=>by rw[Je (Ji q hl)];exact q
 obtain⟨u,I,dx,xs,h1,E,n,sp,J⟩:=tX (f:=f) (d:=.dct To Fo [] []) (v:=.ref l) h0 (e.grow B) s r hn rfl ⟨l,[],rfl,QaB,rfl⟩;rw[C.K]at E;obtain⟨k1,k2⟩:=Y ns I E;exact⟨_,u,a,I,dx,_,rfl,h1,by rw[C.K];exact k1,by rw[C.K];exact k2,uC n z,hD Z _ J (ChB.sp ((SameP.of B).trans sp))⟩
def Jru(C:Am)(h0:BA)(S:Iw)(hf:DZ){n:Int}{j}{vp:Pos}:PS X Wd Ua:=by
 refine PS.weak (JmT aI nV Jwk) λD Z H I=>?_;obtain⟨O,e,h⟩:=I;simp only[exO]at h;cases q:qU f O with
 |none=>rw[q]at h;exact h.elim
 |some d=>
  rw[q]at h;cases d with
  |int z=>
   simp only at h;obtain⟨a,ns,fs,Y,rfl,hn,o,r,A,hD⟩:=sW h;obtain⟨s,C',dx,xs,F,J,g,sp,e2⟩:=tX (f:=f) (d:=.int (z+n)) (v:=.int (z+n)) h0 e r o hn rfl rfl;obtain⟨u,hs,B⟩:=e.read 0 _ Af rfl;replace B:Rep X.K H CG u:=by have z:Rep X.K cL CG u:=B;rw[JI]at z;exact z
   obtain⟨rfl,C2,dx2,E,l,g2,g3,g4⟩:=B;rw[F]at l;obtain⟨x',g5,g6⟩:=nQ (λd x=>Rep X.K H d x) (show(ns.zip fs).lookup f=So (.int z)from q) g4.length.symm λi d hd=>g4.get hd;cases g6;have ez:ns.zip xs=ns.zip E:=by injection l with l;injection l
   rw[C.K]at J;obtain⟨k1,k2⟩:=hf ns C' J;exact⟨_,s,a,C',dx,_,.int z,rfl,F,by rw[C.K];exact k1,by rw[C.K];exact k2,by rw[ez];exact g5,z,n,rfl,rfl,dx,_,F,uC g A,hD Z _ e2 (ChB.sp sp)⟩
  |_=>exact h.elim
theorem Jge(s:DA){d':D}:∀{ns:Ad}{fs:Ao}{xs:AA},(∀x,'ɜ'.lookup f=So x->Rep K W d' x)->ns.contains f=To->Jj (putN f .non ns fs)=To->Reps K H fs xs->Reps K W Qag xs
 |[],fs,xs,_,hc,_,_=>by simp at hc
 |n::ns,[],xs,_,_,_,h=>by cases h;exact rfl
 |n::ns,d::fs,_,hx,hc,hp,⟨x,r,e1,h1,h2⟩=>by
  subst e1
  simp only[putN]at hp⊢
  by_cases q:n=f
  ·subst q
   rw[if_pos rfl]at hp⊢
   simp only[Jj,Zc]at hp
   exact⟨x,r,rfl,hx x (by simp[Zm]),Reps.plain s fs hp.2 h2⟩
  ·rw[if_neg q]at hp⊢
   simp only[Jj,Zc]at hp
   have g:(f==n)=Fo:=by simpa using λz=>q z.symm
   simp only[iF,g,jC]at hc
   exact⟨x,r,rfl,Rep.plain s d hp.1 h1,Jge s (λy l=>hx y (by simp only[nG,Zm,g];exact l)) hc hp.2 h2⟩
theorem Jrc{d:α}:∀{ns:Ad}{fs:List α},'Ԍ'.lookup f=So d->ns.contains f=To
 |[],_,h=>by simp at h
 |n::ns,[],h=>by simp at h
 |n::ns,y::fs,h=>by
  simp only[nG,Zm]at h
  simp only[iF,nB]
  cases q:f==n with
  |true=>exact .inl rfl
  |false=>rw[q]at h;exact .inr (Jrc h)
def Jka{k:D}(q:Jh d=To)(h vs:Ao)(g:Jj vs=To):Jj (putD k d h vs).2=To:=by
 have l:∀(h vs:Ao),Jj vs=To->Jj (setD k d h vs)=To:=λh=>by
  induction h with
  |nil=>intro vs g;cases vs<;>exact g
  |cons a h o=>
   intro vs g;cases vs with
   |nil=>rfl
   |cons u vs=>
    simp only[Jj,Zc]at g;simp only[setD,Jj,Zc];refine⟨?_,o vs g.2⟩;split
    ·exact q
    ·exact g.1
 have n:∀vs:List D,Jj vs=To->Jj (vs++[d])=To:=λvs=>by
  induction vs with
  |nil=>intro _;simp[Jj,q]
  |cons u vs o=>intro g;simp only[Jj,Zc]at g;simp only[yB,Jj,Zc];exact⟨g.1,o g.2⟩
 unfold putD;split
 ·exact l _ _ g
 ·exact n _ g
theorem Jrz{ev:Expr}{l:Pos}(C:Am)(h0:BA)(S:Iw)(hf:DZ)(hK:NoKT G.K)(hk:PE X ek GW)(hv:PE X ev Mi)
  (hb:'в' (attributeBase DU f WU (eval DU WU)=eval DU WU) Al) (hs:'в' (swapsWith ev (So (.Subscript Eh ek l)) Xi WU=pure Fo) Al):
  PS X (.Assign [.Subscript Eh ek l] ev pos) UA:=by
 have hu:=C.un;refine PS.weak (JmE Ae (JqY aI hb) hk hv hs) λD Z H⟨O,e,h⟩=>D8;refine(Rx.good_next.mp h).imp (λdy n g v H1 e1 ow1 s1 r1=>?_) λc n z C W hm e'=>z C W Z hm e';cases z:evD U pk n with
 |sk=>rw[z]at g;exact g.elim
 |ex c=>rw[z]at g;exact g.elim
 |ok dk=>
  rw[z]at g;simp only at g;split at g
  ·rename_i E;simp only[Zc]at E;unfold chgD at g;split at g
   ·rename_i a ns fs env';split at g
    ·rename_i ks vs q;split at g
     ·rename_i hz;simp only[Zc,Zp]at hz;obtain⟨⟨⟨J,Y⟩,B⟩,hz4⟩:=hz;obtain⟨u,A,hr⟩:=e1.read 0 _ Af rfl;replace hr:Rep X.K H1 CG u:=by have z:Rep X.K (hid [] H1) CG u:=hr;rw[JI]at z;exact z
      obtain⟨rfl,C',dx,xs,g1,g2,g3,g4⟩:=hr;obtain⟨xT,gT,T,xsT,rfl,⟨kvs,gk,rfl,rfl⟩,gv⟩:=nQ (λd x=>Rep X.K H1 d x) q g4.length.symm λi d hd=>g4.get hd;rw[C.K]at g2;obtain⟨k1,k2⟩:=hf ns C' g2;refine⟨_,A,a,C',dx,_,.ref T,rfl,g1,by rw[C.K];exact k1,by rw[C.K];exact k2,gT,_,e1.readOk,?_⟩;rw[z];intro y H2 r r2;obtain⟨b',k,rfl,rfl,I⟩:=zQ (by rw[C.K];exact hK) E.2 r2;have e2:=e1.grow r;have s:H2 T=So BL:=r _ _ gk;have hlen:Bb<1000:=by simpa using hz4
      refine⟨T,_,rfl,DPut.t (k:=k) s I (by show _<16777216;lia),?_⟩;obtain⟨p1,p2⟩:=zV qR (k:=k) (r1.mono r) (gv.mono r);have sp:SameP H2 (upd H2 T Qc3):=λb o w hw=>by rw[Je (λz=>by subst z;rw[s]at w;cases w;cases hw)];exact w
      have F:=Jka (k:=.tup (JT k)) E.1 (kvs.map λp=>.tup (JT p.1)) vs B;refine g Z _ (e2.obj (i:=0) Af J sp (h0.same e2.same sp) A ?_) (by
       refine ChB.sp ?_;exact s1.trans ((SameP.of r).trans sp))
      show Rep X.K cJ _ _;rw[JI];refine⟨rfl,C',dx,xs,by rw[Je (λz=>by subst z;rw[g1]at gk;cases gk)];exact r _ _ g1,by rw[C.K];exact g2,by rw[nX];exact g3,?_⟩;refine Jge sp (λx hx=>?_) (Jrc q) Y (g4.mono r);rw[gT]at hx;cases hx;exact⟨T,_,rfl,Qn,Reps.plain sp _ F p2⟩
     ·exact g.elim
    ·exact g.elim
   ·exact g.elim
  ·exact g.elim
end
section
variable{w:AY}{sc:Ba}{f:Addr}{cd:An}{A:BX}{outer:BG}{s:Ak}{E:XK}
def eV(S:FnScope N ps sc)(l:Room k (A.deeper P2)):Ctx (cxOf B1 P w K mg base N qual sc f cd A outer s H E) ⟨P,w,K,mg,base,A.deeper P2⟩ N Xo where
 g:=rfl
 hN:=rfl
 nd:=S.nd
 vis:=λy h=>by
  show Vis sc y
  unfold visB at h
  split at h
  ·rename_i z;exact .inl z
  ·rename_i z;exact .inr Yx
  ·rename_i z;exact .inr aH
  ·cases h
 cel:=λy h=>by
  show sc.names.lookup y=So .cell\/sc.names.lookup y=So .free
  unfold celB at h
  split at h
  ·rename_i z;exact .inl z
  ·rename_i z;exact .inr z
  ·cases h
 glo:=λy h=>by
  show sc.names.lookup y=So .globalImplicit
  unfold gloB at h
  split at h
  ·rename_i z;exact z
  ·cases h
 sto:=λy h=>by
  show Loc sc y/\(To=To\/_)
  unfold locB at h
  split at h
  ·rename_i z;exact Nz
  ·rename_i z;exact Ny
  ·cases h
 calm:=rfl
 un:=l.units
 fr:=Om
end
def Jti{r:Fm}{st0 g:D}{a:Addr}(e:EnvOk K [] H0 W Z (So g::r))(n:wA st0 g=To)(h:Rep K H st0 Aw):Rep K W g Aw:=by
 obtain⟨v,_,l⟩:=e.read 0 _ Af rfl;replace l:Rep K W g v:=by have z:Rep K KN g v:=l;rw[JI]at z;exact z
 cases g with
 |obj b ns fs=>
  cases st0 with
  |obj c o A=>
   have s:a=c:=by injection h.1
   have q:c=b:=by simpa[wA]using n
   subst s;subst q;have u:=l.1;subst u;exact l
  |_=>simp[wA]at n
 |_=>cases st0<;>simp[wA]at n
section
variable{w:AY}{defs:DB}{bdefs:Ik}{d:DefB}
theorem Jtf{Tb:Hp->Prop}{f:Addr}(F:GC)(S:Qp)(hd:bdefs[fi]? =So d)(hs:d.slots=Xl)(hp:d.params=Aj)(hpN:Aj<=Xl)
  (z:∀(X:Cx)(A:BX)(H0:Hp),Ctx X A9 N 'Ʈ'.names->Room j A->HX X 'Ʈ'.names->Tb X.H₀->X.env.code=fd.code->Qbm=qual++".<locals>."->PlO H0->PSs X Yv Ui):
  FnOk P w K mg base B1 (j+1) f fd ps (λvs H Q E=>Tb H/\spB K mg RV fi vs H Q E):=by
 have B:∀st J,runB defs bdefs AV fi st J=if Ab+1=YL then ansB st (exO To BQ Ef XO (JE XU (st::J)))else .sk:=λst J=>by simp only[runB,hd]
 obtain⟨oc,od,kV,doc,pm,an,cdv,ct,osl,rfl,lk,Y⟩:=F.ex;refine pP lk Y S (λvs H Q E h=>?_) (λA outer s H vs Q E hr h=>?_)
 ·obtain⟨_,a,ws,st0,J,rfl,C,r2,hpl,g⟩:=h;rw[B]at g;split at g
  ·rename_i q;rw[Zl,r2.length,q,hp]
  ·exact g.elim
 ·obtain⟨tb,a,ws,st0,J,rfl,C,r2,hpl,g⟩:=h;rw[B]at g;split at g
  ·rename_i q;have e0:EnvOk K [] H H (L2.fD N (.ref a::ws)) (JE XU (st0::J)):=by have:=pY (d:=⟨XU,YL,.skip⟩) (M:=[]) hs (J:=st0::J) (by simp only[Zl];lia) (λi U=>by simp at U) (show Reps K H (st0::J) (.ref a::ws)from⟨_,_,rfl,C,r2⟩);exact this
   refine⟨_,z _ _ (pl H) (eV S hr) hr SG tb rfl rfl JqS,JE XU (st0::J),⟨JlS,e0.len,e0.read,λ_ _ U=>by simp at U,λ_ _ _ _ _ U=>by simp at U⟩,?_⟩;cases q2:exO To BQ Ef XO (JE XU (st0::J))with
   |sk=>rw[q2]at g;exact g.elim
   |ok fl n=>
    rw[q2]at g;cases n with
    |nil=>cases fl<;>exact g.elim
    |cons o r=>
     cases o with
     |none=>cases fl<;>exact g.elim
     |some st'=>
      cases fl with
      |bk=>exact g.elim
      |ct=>exact g.elim
      |nx=>
       simp only[ansB]at g;split at g
       ·rename_i l;exactλI W u _=>g .non W Hx a7 rfl
       ·exact g.elim
      |rt dd=>
       simp only[ansB]at g;split at g
       ·rename_i l;exactλv W s' r' hw=>let⟨I,u⟩:=hw rfl;g v W Hx a7 r'
       ·exact g.elim
   |ex c n=>
    rw[q2]at g;cases n with
    |nil=>exact g.elim
    |cons o r=>
     cases o with
     |none=>exact g.elim
     |some st'=>
      simp only[ansB]at g;split at g
      ·rename_i l;exactλC2 H2 I hm u a' s' F'=>JiH F' (g C2 H2 hm Hx a7)
      ·exact g.elim
  ·exact g.elim
def JvZ{f:Addr}(F:GC)(S:Qp)(q:bdefs[fi]? =So d)(r:d.slots=Xl)(s:d.params=Aj)(h:Aj<=Xl)
  (g:∀(X:Cx)(A:BX)(H0:Hp),Ctx X A9 N 'Ʈ'.names->Room j A->HX X 'Ʈ'.names->PlO H0->PSs X Yv Ui):
  FnOk P w K mg base B1 (j+1) f fd ps (spB K mg RV fi):=(Jtf (Tb:=λ_=>True) F S q r s h λX A H0 C o l _ _ _ n=>g X A H0 C o l n).imp λu H Q E z=>⟨trivial,z⟩
def JoY{f:Addr}:FnOk P w K mg base B1 0 f fd ps (spB K mg (runB defs bdefs 0) fi):=
 ⟨λn H Q E⟨_,_,_,_,_,_,_,_,h⟩=>h.elim,λA g s H l o n Q E _ _ _ _⟨_,_,_,_,_,_,_,_,h⟩=>h.elim⟩
def spN(K:Ai):Sp:=λh H Q _=>∃x g C,h=[.ref x]/\H x=So (.ins C g [])/\PySem.W.nsIn K mainGlobals Hn=So (So Bm)/\∀W,SameP H W->Rep K W (obj0 x) (.ref x)->Q .non W
def Jxi(K:Ai):L2.TS:=tSeq (sFld K (λZ H Q=>∃v,Z[0]? =So BO/\Q v H) (tTup tNil) a8) (tSeq (sFld K (λZ H Q=>∃v,Z[0]? =So BO/\Q v H) tDNewT a9) (sFld K (λZ H Q=>∃v,Z[0]? =So BO/\Q v H) (λZ H Q=>Q aF H) GY))
def Jtc{f:Addr}(F:GC)(S:FnScope ps ps SU)(hps:Aj=1)(hf:∀A,∀g∈nsB,FldC A9 g)
  (r:∀(X:Cx)(A:BX),Ctx X A9 ps 'Ʈ'.names->PSs X Yv (Jxi K)):FnOk P w K mg base B1 1 f fd ps (spN K):=by
 obtain⟨oc,od,kV,doc,pm,an,cdv,ct,osl,rfl,lk,hcd⟩:=F.ex;refine pP lk hcd S (λvs H Q E h=>?_) (λA outer s H vs Q E hr h=>?_)
 ·obtain⟨y,J,C,rfl,_⟩:=h;exact hps.symm
 ·obtain⟨y,J,C,rfl,I,hC,k⟩:=h;refine⟨_,r _ _ (eV S hr),?_⟩;have cl:clsN nsB=oS "Board":=by decide+kernel
  have u:∀g∈nsB,Cls K C/\NoAttr K C g:=λg hg=>hf A g hg nsB C (by rw[cl];exact hC);have s0:(L2.fD ps [V.ref y])[0]? =So (So (.ref y)):=rfl;refine⟨by show 0<=sizeLine;exact qA _,λp U=>?_⟩;refine⟨_,s0,y,C,J,[],rfl,by rw[Je (Ji I U)];exact I,(u a8 (by simp[nsB])).1,(u a8 (by simp[nsB])).2,by decide,?_⟩;intro T B;have hTp:T≠p:=λz=>by subst z;rw[Je (Ji I U).symm,Jg]at B;cases B
  have n:T≠y:=λz=>by subst z;rw[Jg]at B;cases B
  refine⟨_,s0,y,C,J,_,rfl,by rw[Je (Ne.symm n),Jg],(u a9 (by simp[nsB])).1,(u a9 (by simp[nsB])).2,by show 1<1000;decide,?_⟩;refine⟨_,s0,y,C,J,_,rfl,Jg,(u GY (by simp[nsB])).1,(u GY (by simp[nsB])).2,uC (zY _ _ _) (by show 2<1000;decide),?_⟩;have l:p≠y:=(Ji I U).symm;refine k _ (λb o q hq=>?_) ⟨rfl,C,J,[.ref p,.ref T,.int 0],?_,by rw[cl];exact hC,rfl,?_⟩
  ·have Y:b≠y:=λz=>by subst z;rw[I]at q;cases q;cases hq
   have nT:b≠T:=λz=>by subst z;rw[Je Y,Je (Ji q U),q]at B;cases B
   rw[Je Y,Je Y,Je nT,Je Y,Je (Ji q U)];exact q
  ·rw[Jg];rfl
  ·refine⟨_,_,rfl,⟨p,[],rfl,SqT.of ?_,rfl⟩,_,_,rfl,⟨T,[],rfl,⟨[],?_,rfl,rfl⟩,rfl⟩,_,_,rfl,rfl,rfl⟩
   ·rw[Je l,Je l,Je (Ne.symm hTp),Je l,Jg]
   ·rw[Je n,Je n,Jg]
end
inductive MakeBe(G:Gw):Prop where
 |mk (C f:Addr) (fd:FuncData) (ps:List Str) (h:Mk G.K C f/\FnOk G.prog G.w G.K G.mg G.base (CXr G.prog G.w) 1 f fd ps (spN G.K)/\Room 2 G.A/\G.mg (oS "Board")=So (.ref C)/\PySem.W.nsIn G.K mainGlobals (oS "Board")=So (So (.ref C))/\Binds G.K fd ps []):MakeBe G
structure MakeB(G:Gw):Prop where
 ex:MakeBe G
def jU(K:Ai):Sp:=λg H Q _=>∃(a:Addr)(ns:Be),g=B9/\SqL K H a (ns.map V.int)/\ns.length<=63/\∀W,Q Cw W
section
variable{w:AY}{U:Ag}
theorem Jhd:∀ns:List Int,Reps K H Ec Qb
 |[]=>rfl
 |n::ns=>⟨.int n,ns.map V.int,rfl,rfl,Jhd ns⟩
def JsT{j:Nat}{x qual SP:Str}{st:Stmt}{f:Addr}{fd:B2}{N:Ad}{M:AX}{i:Nat}{b:Bs}{t:Cx->Hp->L2.TS}(F:GC)(S:FnScope N [SP] SU)(hM:∀i∈M,1<=i)(hN:1<=Xl)
  (g:∀(X:Cx)(A:BX)(H0:Hp),Ctx X A9 N 'Ʈ'.names->Room j A->HX X 'Ʈ'.names->PlO H0->PSs X Yv (t X H0))
  (B:∀(X:Cx)(H0 H:Hp)(Z:Bp)(D:Ends)(ns:Be),X.K=K->AK<=63->EnvOk K M H0 H Z (JE Xl [.lst LM])->(∀W,D.rt Cw W)->t X H0 D Z H):FnOk P w K mg base B1 (j+1) f fd [SP] (jU K):=by
 obtain⟨oc,od,kV,I,pm,an,Y,ct,osl,rfl,lk,o⟩:=F.ex;refine pP lk o S (λvs H Q E h=>?_) (λA r s H vs Q E u h=>?_)
 ·obtain⟨a,ns,rfl,_⟩:=h;rfl
 ·obtain⟨a,ns,rfl,hs,hl,k⟩:=h;refine⟨_,g _ _ (pl H) (eV S u) u SG JqS,B _ (pl H) H _ _ ns rfl hl ?_ k⟩;have n:=pY (K:=K) (d:=⟨Xl,1,.skip⟩) (M:=M) (H:=H) rfl (J:=[.lst LM]) (vs:=B9) hN hM ⟨_,_,rfl,⟨a,_,rfl,hs,Jhd ns⟩,rfl⟩;exact⟨JlS,n.len,n.read,λq d hq C=>by
   obtain⟨l,z,g0,g2⟩:=n.own q d hq C;refine⟨l,z,?_,g2⟩;unfold pl;rw[g0],n.apart⟩
end
noncomputable abbrev MethE:=Str×Str×Stmt×List Str
structure Met1(K:Ai)(C:Addr)(e:MethE)(f:Addr)(fd:B2):Prop where
 F:Fun K e.1 e.2.1 e.2.2.1 f fd
 m:Meth K C e.1 f
 b:Binds K fd e.2.2.2 []
section
variable{w:AY}{defs:DB}{bdefs:Ik}{C:Addr}
noncomputable def HasM (K:Ai) (C:Addr):List MethE->Prop
 |[]=>True
 |e::T=>(∃f g,Met1 K C e f g)/\HasM K C T
noncomputable def OkM (P:Bk) (w:AY) (K:Ai) (mg:BY) (base:Heap) (defs:DB) (bdefs:Ik) (C:Addr) (k:Nat):Nat->List MethE->Prop
 |_,[]=>True
 |i,e::T=>(∀f g,Met1 K C e f g->FnOk P w K mg base B1 (3*k) f g e.2.2.2 (spB K mg Ef i))/\OkM P w K mg base defs bdefs C k AE T
theorem JjK:∀(T:Qbg)(i:Nat),OkM P w K mg base defs bdefs C 0 i T
 |[],_=>trivial
 |e::T,i=>⟨λ_ _ _=>JoY,JjK T AE⟩
theorem Jeu{A:BX}(cl:QcB)(n:PySem.W.nsIn K mainGlobals Hn=So Ew)(l:Room (3*k+2) A):∀{T:Qbg}{i j:Nat}{e:MethE},HasM K C T->OkM P w K mg base defs bdefs C k i T->T[j]? =So e->CalleeB A9 Ef (i+j) Hn e.1
 |[],_,_,_,_,_,h=>by simp at h
 |d::T,i,0,e,hm,ok,h=>by
  simp only[jL,ZT]at h
  subst h
  obtain⟨⟨f,g,D⟩,_⟩:=hm
  exact⟨⟨C,3*k,f,g,_,n,cl,D.m,ok.1 f g D,l.in1.in1,D.b⟩⟩
 |d::T,i,j+1,e,hm,ok,h=>by
  have:=Jeu cl n l (j:=j) hm.2 ok.2 (by simpa using h)
  rw[show i+1+j=i+(j+1) by lia]at this
  exact this
def foB{l:Gw->CallD->CallB->Prop}{e:MethE}{d:DefB}{b:Bs}(E:∀A,Room (3*k+2) A->l A9 BQ Ef)(u:∀{X:Cx}{G:Gw}{U:Ag}{bc:A1}{H0:Hp},l G U bc->Ctx X G N (Jf e.2.2.1).names->HX X (Jf e.2.2.1).names->PlO H0->PSs X (Jx e.2.2.1) (tSB X To U bc [] H0 b))
  (z:'в' (bdefs[i]? =So d) Al) (hb:'в' (XO=b) Al) (h:'в' ((gM N e.2.2.2 (Jf e.2.2.1)&&d.slots==Xl&&d.params==e.2.2.2.length&&decide (e.2.2.2.length<=Xl))=To) Rb):
  ∀f g,Met1 K C e f g->FnOk P w K mg base B1 (3*AV) f g e.2.2.2 (spB K mg RV i):=λf g D=>by
 simp only[Zc,ZD,Zp]at h
 obtain⟨⟨⟨s,F⟩,B⟩,r⟩:=h
 subst hb
 exact JvZ (j:=3*k+2) D.F (oP s) z F B r λX A H0 C q n o=>u (E A q) C n o
def dW(g:PySem.W.nsIn K mainGlobals Hn=So Ew)(l:PySem.W.nsIn K mainGlobals (oS "Site")=So No)(cl:QcB)(n:NoAttr K C f)(A:BX):FldC A9 f:=λns o h=>by
 unfold clsN at h
 split at h
 ·rw[g]at h;cases h;exact⟨cl,n⟩
 ·rw[l]at h;cases h
noncomputable def MsIn (K:Ai) (C:Addr):List MethE->Prop
 |[]=>True
 |e::T=>(∃f g,Fun K e.1 e.2.1 e.2.2.1 f g/\Meth K C e.1 f)/\MsIn K C T
def meth_mk{n h:Str}{s:Stmt}{f:Addr}{A q:CF}{sl:CY}{z kV u r o ct:An}(a:PySem.W.findIn K Bm n=So EE)(i:PySem.W.isFn K Bc=To)(l:K.lookup f=So ⟨z,A,.func (PySem.W.fnOf n h (qE s) (Jx s) (Jf s) .none kV u r q o ct),sl⟩)(c:PySem.W.codeIn K o h=To)(k:PySem.W.keepIn K Bc=To):
  ∃f g,Fun K n h s f g/\Meth K C n f:=⟨f,_,JqN l c k,a,i,k⟩
abbrev BsM(e:MethE):Prop:=∀(kV g o:An)(n:CF)(h ct:An)(l:Az),Xn=e.2.2.2.length->bindArgs (PySem.W.fnOf e.1 e.2.1 (qE e.2.2.1) (Jx e.2.2.1) (Jf e.2.2.1) .none kV g o n h ct) ⟨l,[]⟩=pure (e.2.2.2.zip l)
noncomputable def BmOk:List MethE->Prop
 |[]=>True
 |e::T=>BsM e/\BmOk T
theorem Jog:∀{T:Qbg},MsIn K C T->BmOk T->HasM K C T
 |[],_,_=>trivial
 |e::T,d,b=>⟨let⟨f,g,F,m⟩:=d.1;⟨f,g,F,m,F.binds b.1⟩,Jog d.2 b.2⟩
end
section
variable{X:Cx}{w:Bool}{U:Ag}{bc:A1}{M:AX}{H0:Hp}{G:Gw}{N:Ad}{nm:Bf}{e a b ek ev:Expr}{es:C6}{p pk:Px}{pa pb:Bx}{x m f:Str}{fi i:Nat}{ns:Ad}{pos p1 px apos spos dpos:Pos}
def tbNe(C:Am)(h:PE X a Rt)(g:PE X b Mf):PT X Sn (tTB X U bc M H0 Qk):=Jss cE h g CQ
def cM{pl:D0}(C:Am)(s:BA)(r:RG)(g:chkV N nm i x=To)(z:ns.contains m=Fo)(q:Kj)
  (h:KJ) (l:'ĺ'.any (·.1)=Fo)
  (u:eval GF WU=(do
   let ov<-eval Ej WU
   standAt XI
   let(f,first)<-holding [ov] Fs
   callWith pos f first 'ѐ' Fq)):PE X GF UU:=by simp only[chkV,Zc,ZD]at g;obtain⟨o,n⟩:=plainN.d g.2;exact JrE (Jnc C r g.1.2 g.1.1 o n q h l u) s z
def cMH{pl:D0}(C:Am)(u:BA)(s:RG)(g:(chkV N nm i x&&!M.contains i)=To)(A:ns.contains m=Fo)(r:Kj)(n:Cu)
  (h:KJ) (l:'ĺ'.any (·.1)=Fo)
  (z:eval GF WU=(do
   let ov<-eval Ej WU
   standAt XI
   let(f,first)<-holding [ov] Fs
   callWith pos f first 'ѐ' Fq)):PE X GF UD:=by simp only[chkV,Zc,ZD,rA,sL,ZP]at g;obtain⟨q,o⟩:=plainN.d g.1.2;exact JiV (Jnc C s g.1.1.2 g.1.1.1 q o r h l z) u A g.2 n
def cMH0 {pl:D0} (C:Am) (o:BA) (n:RG) (g:(chkV N nm i x && !M.contains i) = To) (r:ns.contains m = Fo)
  (q:eval Mr WU = (do
   let ov <- eval Ej WU
   standAt XI
   let (f,first) <- holding [ov] Fs
   callWith pos f first 'Ȱ' Fq)):PE X Mr (tB X U bc M H0 (.call Fo fi i ns .nil)):=by simp only [chkV,Zc,ZD,rA,sL,ZP] at g;obtain ⟨l,h⟩:=plainN.d g.1.2;exact JiV (Jps C n g.1.1.2 g.1.1.1 l h q) o r g.2 (by unfold sepP; exact ZZ.mpr λ_ _=>rfl)
def iH(g:chkV N nm 0 x=To):Slf N nm x:=by simp only[chkV,Zc,ZD]at g;obtain⟨l,h⟩:=plainN.d g.2;exact⟨g.1.1,g.1.2,l,h⟩
def bSetF(C:Am)(o:BA)(l:chkV N nm 0 x=To)(h:DZ)(n:BF)(g:swapsWith e Qat Xi WU=pure Fo):
  PS X Ob Ub:=Jsg C o (iH l) h n g
def bSetD(C:Am)(n:BA)(l:chkV N nm 0 x=To)(h:DZ)(g:swapsWith Nh Qat Xi WU=pure Fo):
  PS X (.Assign SE Nh pos) TK:=JrP C n (iH l) h g
def bAug(C:Am)(l:BA)(h:chkV N nm 0 x=To)(g:DZ){n:Int}{j}{vp:Pos}:PS X Wd Ua:=Jru C l (iH h) g
def bPut(C:Am)(q:BA)(n:chkV N nm 0 x=To)(l:DZ)(h:NoKT G.K)(g:PE X ek GW)(o:PE X ev Mi)
  (s:attributeBase DU f WU (eval DU WU)=eval DU WU) (r:swapsWith ev (So (.Subscript Eh ek spos)) Xi WU=pure Fo):
  PS X (.Assign [.Subscript Eh ek spos] ev pos) UA:=Jrz C q (iH n) l h g o s r
def bSet(C:Am)(h:chkA N nm [] i x=To)(l:PE X e Mi)(g:Ky):PS X E6 Uc:=by obtain⟨n,o,q⟩:=chkA.at h;exact Jxp C n o l g
def JwX{cx:Str}{ma:Expr}(C:Am)(n:ExcC G cx)(h:chkG nm cx=To)(l:PE X ma cG)(g:starEach [ma] WU=(Fo,eval ma WU)::starEach [] WU):
  PS X QW (tSB X w U bc [] H0 (.raise cx p)):=Jpb λH=>Jjo C n h l g
end
section
variable{U:Ag}{b:Bs}{q:Px}{rest:Cj}{p pos':Pos}
def EnvOk.sp(e:Dm)(l:∀k∈M,∀d,O[k]? ≠So Bj)(u:plE O=To)(o:BA)(s:DA):EnvOk K M H0 W Z O:=
 ⟨o.same XQ s,e.len,λk d g h=>let⟨v,r,n⟩:=e.read k d g h;⟨v,r,Rep.plain s.hid d (vQ u h) n⟩,λk d g h=>absurd h (l k g d),λk _ _ d _ g _ _ h=>absurd h (l k g d)⟩
end
end Rd
namespace Rd
open PySem PySem.Spec PyProof.Rows L2 Pu PySem.W
variable{X:Cx}{G:Gw}{nm:Bf}{x y cn m dn:Str}{K:Ai}{N cs:Ad}{pos p1 px py apos lp pt pt2 pos':Pos}{P:Bk}{w:AY}{mg:BY}{base:Heap}{bc:A1}{H H0:Hp}{M:AX}{i j fi kt k2:Nat}{p:Px}{s:Ak}{Pt c f:Addr}{e body:Expr}{A:BX}{params:Arguments}{b:Bs}{st:Stmt}{sc:Ba}
section
variable{defs:DB}{bdefs:Ik}
def JwV (X:Cx) (G:Gw) (U:Ag) (bc:A1) (H0:Hp):List MethE->List (List Str)->List DefB->Prop
 |e::T,n::L,d::D=>(Ctx X G n (Jf e.2.2.1).names->HX X (Jf e.2.2.1).names->PSs X (Jx e.2.2.1) (tSB X To U bc [] H0 XO))/\JwV X G U bc H0 T L D
 |[],_,_=>True
 |_,_,_=>False
end
def tLaw(X:Cx)(H0:Hp)(R:Fm->Prop):L2.TS:=λD Z H=>∃O,EnvOk X.K [] H0 H Z O/\R O/\∀W,D.rt Cw W
section
variable{U:Ag}{rest body:Cj}{a:Bs}
def oJ{R:Fm->Prop}(h1:PS X st (tSB X Fo U bc [] H0 a))(q:OM):PSs X (st::rest) (tLaw X H0 λO=>∃g,exO Fo U bc a O=.ok .nx g/\R g):=by refine PSs.weak (vJ h1 q) λD Z H o=>?_;obtain⟨O,e,⟨g,h,r⟩,l⟩:=o;refine D8;rw[h];exactλu W n _=>⟨g,n,r,l⟩
def env0{Z:Bp}{O:Fm}(s:Same H0 H)(l:Z.length=bW)(r:ReadOk K H Z O):EnvOk K [] H0 H Z O:=
 ⟨s,l,λj d _ h=>by show∃v,_/\Rep K cL d v;rw[JI];exact r j d h,λj d g=>by simp at g,λj _ _ _ _ g=>by simp at g⟩
variable{is io ip ij ia:Nat}{pt pp pi:Px}{xo:Str}{pf pr pc:Pos}{e6 tg iter:Expr}{s7 s8:Stmt}{kc:Nat}
end
end Rd
namespace Pu
open PySem
variable{α:Type}{e a c as src:Px}{J:Ao}{p:Bool}{i:Nat}
section
variable(i j:Int)(x y:Str)(xs ys:Ao)(a b:D)(p q:Bool)
@[simp]def o_neg:op1 .neg AS=.ok (.int (-i)):=rfl
@[simp]def o_not:op1 .not CP=.ok (.bl !p):=rfl
@[simp]def Jxq:op1 .truth CP=.ok CP:=rfl
@[simp]def o_lenT:op1 .len A4=.ok (.int Ac):=rfl
@[simp]def o_lenL:op1 .len By=.ok (.int Ac):=rfl
@[simp]def o_tupL:op1 .tuple By=.ok A4:=rfl
@[simp]def o_tupT:op1 .tuple A4=.ok A4:=rfl
@[simp]def o_listL:op1 .list By=.ok By:=rfl
@[simp]def o_listT:op1 .list A4=.ok By:=rfl
@[simp]def o_enumT:op1 .enum A4=.ok Qa5:=rfl
@[simp]def o_enumL:op1 .enum By=.ok Qa5:=rfl
@[simp]def o_rowsL:op1 .rows By=.ok By:=rfl
@[simp]def JtI:op1 .rows A4=.ok A4:=rfl
@[simp]def Jvh:D.walk By=.ok xs:=rfl
@[simp]def JuX:D.walk A4=.ok xs:=rfl
@[simp]def Jwt:op1 .asI AS=.ok AS:=rfl
@[simp]def o_asT:op1 .asT A4=.ok A4:=rfl
@[simp]def o_isNn:op1 .isN .non=.ok Cw:=rfl
@[simp]def o_isNl:op1 .isN By=.ok C7:=rfl
@[simp]def o_notNn:op1 .notN .non=.ok C7:=rfl
@[simp]def o_notNl:op1 .notN By=.ok Cw:=rfl
theorem Jnx(n:Nat)(h:n<=1000):op1 .range aJ=.ok (.lst (upTo 0 n)):=by
 have:midI n=To:=by simp only[midI,Zc,Zp];lia
 show(if midI n=To then Rs.ok (D.lst (upTo 0 (n:Int).toNat))else .sk)=_;rw[if_pos this,dC]
@[simp]def JdY:op2 .add AS CT=.ok (.int (i+j)):=rfl
@[simp]def Jxr{i j:Int}{k:Int->Int->Rs D}:onII AS CT k=k i j:=rfl
@[simp]def JuI:op2 .sub AS CT=.ok (.int (i-j)):=rfl
@[simp]def lF(h:smallI i||smallI j):op2 .mul AS CT=.ok (.int (i*j)):=if_pos h
def JwN(h:Ac+BD<=lD):op2 .add A4 QaJ=.ok (.tup (xs++ys)):=if_pos h
@[simp]def o_lt:op2 .lt AS CT=.ok (.bl (decide (i<j))):=rfl
@[simp]def o_le:op2 .le AS CT=.ok (.bl (decide (i<=j))):=rfl
@[simp]def o_gt:op2 .gt AS CT=.ok (.bl (decide (j<i))):=rfl
@[simp]def o_ge:op2 .ge AS CT=.ok (.bl (decide (j<=i))):=rfl
def o_eq(h:a.dep<=20)(h':b.dep<=20):op2 .eq a b=.ok (.bl (a.eqv b)):=if_pos (by simp[Jw,h,h'])
def o_ne(h:a.dep<=20)(h':b.dep<=20):op2 .ne a b=.ok (.bl (!a.eqv b)):=if_pos (by simp[Jw,h,h'])
@[simp]def o_eqS:op2 .eq Cr Gy=.ok (.bl (x==y)):=rfl
@[simp]def o_neS:op2 .ne Cr Gy=.ok (.bl (!(x==y))):=rfl
@[simp]def o_eqI:op2 .eq AS CT=.ok (.bl (i==j)):=rfl
@[simp]def o_neI:op2 .ne AS CT=.ok (.bl (!(i==j))):=rfl
@[simp]def o_eqB:op2 .eq CP Qau=.ok (.bl (p==q)):=rfl
@[simp]def o_neB:op2 .ne CP Qau=.ok (.bl (!(p==q))):=rfl
@[simp]def gN:op2 .idx A4 AS=Rs.ofOpt (atD xs i):=rfl
@[simp]def zM:op2 .idx By AS=Rs.ofOpt (atD xs i):=rfl
@[simp]def JtL:op2 .zip A4 QaJ=.ok (.lst '乷'):=rfl
def o_inT(h:deps xs<=19)(h':a.dep<=20):op2 .isin a A4=.ok Ts:=by
 have:Jw A4=To:=by simp[Jw,D.dep,h]
 have f:Jw a=To:=by simp[Jw,h']
 cases a<;>exact if_pos (by rw[this,f];rfl)
def o_inL(h:deps xs<=19)(h':a.dep<=20):op2 .isin a By=.ok Ts:=by
 have:Jw By=To:=by simp[Jw,D.dep,h]
 have f:Jw a=To:=by simp[Jw,h']
 cases a<;>exact if_pos (by rw[this,f];rfl)
def Jrb(h:deps xs<=19)(h':a.dep<=20):op2 .notin a By=.ok (.bl (!xs.any λd=>d.eqv a)):=by
 have:Jw By=To:=by simp[Jw,D.dep,h]
 have f:Jw a=To:=by simp[Jw,h']
 cases a<;>exact if_pos (by rw[this,f];rfl)
theorem atN(n:Nat)(h:n<Ac):atD xs (n:Int)=So xs[n]:=by
 have g:(n:Int)<Ac:=by lia
 have f:(0:Int)<=n:=by lia
 simp[atD,ixn,g,f,h]
@[simp]def at0:atD (a::xs) 0=So a:=by have:=atN (a::xs) 0 Af;simpa using this
@[simp]def at1:atD (a::b::xs) 1=So b:=by have:=atN (a::b::xs) 1 Af;simpa using this
@[simp]def at2(c:D):atD (a::b::c::xs) 2=So c:=by have:=atN (a::b::c::xs) 2 Af;simpa using this
@[simp]def ofSome(a:α):Rs.ofOpt (So a)=.ok a:=rfl
end
section
variable(U:Ag)(O:Fm)
@[simp]def fJ(i:Nat):evD U G8 O=match O[i]? with
  |some (So d)=>.ok d
  |_=>.sk:=rfl
@[simp]def kU(d:D):evD U (.con d) O=.ok d:=rfl
@[simp]def e_un(o:O1)(a:Px):evD U (.un o a) O='ũ'.bind (op1 o):=rfl
@[simp]def e_bi(o:O2)(a b:Px):evD U (.bi o a b) O='ũ'.bind λx=>(evD U b O).bind λy=>op2 o x y:=rfl
@[simp]def e_and(a b:Px):evD U (.and a b) O='ũ'.bind λx=>match x with
  |.bl To=>evD U b O
  |.bl Fo=>.ok C7
  |_=>.sk:=rfl
@[simp]def e_or(a b:Px):evD U (.or a b) O='ũ'.bind λx=>match x with
  |.bl To=>.ok Cw
  |.bl Fo=>evD U b O
  |_=>.sk:=rfl
@[simp]def e_ite(c a b:Px):evD U (.ite c a b) O='ԉ'.bind λx=>match x with
  |.bl To=>evD U a O
  |.bl Fo=>evD U b O
  |_=>.sk:=rfl
@[simp]def e_nil:evD U .nil O=.ok GH:=rfl
@[simp]def fQ(a as:Px):evD U (.cons a as) O='ũ'.bind λx=>'ǎ'.bind λy=>y.asL.bind λJ=>.ok (.lst (x::J)):=rfl
@[simp]def JvH(as:Px):evD U (.tup as) O='ǎ'.bind λy=>y.asL.bind λJ=>if Ab<=lD then .ok Bt else .sk:=rfl
@[simp]def e_dis(as:Px):evD U (.dis as) O='ǎ'.bind λy=>y.asL.bind λJ=>if Ab<=lD then .ok A2 else .sk:=rfl
@[simp]def JqJ(f:Nat)(as:Px):evD U (.call f as) O='ǎ'.bind λy=>y.asL.bind λJ=>U f J:=rfl
@[simp]def e_sl(a lo hi:Px):evD U (.sl a lo hi) O='ũ'.bind λx=>(evD U lo O).bind λl=>l.bound.bind λl=>(evD U hi O).bind λh=>h.bound.bind λh=>match x with
  |.tup J=>.ok (.tup Li)
  |.lst J=>.ok (.lst Li)
  |.str x=>if x.length<=20000 then .ok (.str Tw)else .sk
  |_=>.sk:=rfl
@[simp]def nH(a:Px):evD U (.walk a) O='ũ'.bind λx=>x.walk.bind λJ=>.ok A2:=rfl
def kH(b:Nat)(src c e:Px):evD U (.comp b src c e) O='Ё'.bind λs=>s.asL.bind λJ=>if Ab<=lD then(JO b W0 'Ԕ' O J).bind λf=>.ok (.lst f)else .sk:=rfl
end
@[simp]def sC(J:Ao):D.asL A2=.ok J:=rfl
@[simp]def Jhe:D.bound .non=.ok No:=rfl
@[simp]def Jhn(i:Int):D.bound AS=.ok (So i):=rfl
section
variable(U:Ag)(O:Fm)
@[simp]def ans_nx:Jb (.ok En)=.ok .non:=rfl
@[simp]def ans_rt(d:D):Jb (.ok Io)=.ok d:=rfl
@[simp]def JwR:Jb .sk=.sk:=rfl
@[simp]def ans_ex(c:Str):Jb (.ex c)=.ex c:=rfl
@[simp]def x_skip:exD U .skip O=.ok En:=rfl
@[simp]def dA(a b:Sx):exD U ID O=(exD U a O).bind λr=>match r with
  |(.nx,env2)=>exD U b env2
  |r=>.ok r:=rfl
@[simp]def xC(m:Bool)(i:Nat)(e:Px):exD U (.set m i e) O='Ơ'.bind λd=>if m&&!d.imm then .sk else .ok QcM:=rfl
@[simp]def x_own(i:Nat)(e:Px):exD U (.own i e) O='Ơ'.bind λd=>match d with
  |.lst J=>if !imms J then .sk else .ok QcN
  |_=>.sk:=rfl
@[simp]def JvJ(m:Bool)(i:Nat)(e:Px):exD U (.app m i e) O=match O[i]? with
  |some (So (.lst J))=>'Ơ'.bind λd=>if(m&&!d.imm)||!decide (Ab<lD)then .sk else .ok Lv
  |_=>.sk:=rfl
@[simp]def x_ext(m:Bool)(i:Nat)(e:Px):exD U (.ext m i e) O=match O[i]? with
  |some (So (.lst J))=>'Ơ'.bind λy=>y.asL.bind λb=>if(m&&!imms b)||!decide (Ab+b.length<=lD)then .sk else .ok (.nx,O.set i (So (.lst (J++b))))
  |_=>.sk:=rfl
@[simp]def x_ownD(t:Bool)(i:Nat):exD U (.ownD t i) O=.ok Um:=rfl
@[simp]def x_retF(i:Nat):exD U (.retF i) O=match O[i]? with
  |some (So (.dct t Fo ks vs))=>.ok (.rt QH,O)
  |_=>.sk:=rfl
@[simp]def hU(m t':Bool)(i:Nat)(k v:Px):exD U (.put m t' i k v) O=match O[i]? with
  |some (So (.dct t Fo ks vs))=>'ԋ'.bind λy=>'ɛ'.bind λx=>if(m&&!y.imm)||!(t==t')||!keyD t x||!decide (BJ<1000000)then .sk else .ok (.nx,O.set i (So (.dct t Fo (putD x y ks vs).1 (putD x y ks vs).2)))
  |_=>.sk:=rfl
@[simp]def x_raise(c:Str)(p:Px):exD U (.raise c p) O='ƴ'.bind λd=>if iE d then .ex c else .sk:=rfl
def sM(e:Px)(g:AX)(f:Nat)(cs:Ad)(h:Sx):exD U (.tryK e g f cs h) O=match evD U e O with
  |.ok d=>(Jv f d).bind λb=>.ok (.nx,Jt g b O)
  |.ex c=>if cs.contains c then exD U h O else .sk
  |.sk=>.sk:=rfl
def Jwg(n:Nat)(c:Px)(b:Sx):exD U (.whl n c b) O=whlL W0 (exD U b) n O:=rfl
@[simp]def x_eff(e:Px):exD U (.eff e) O='Ơ'.bind λ_=>.ok En:=rfl
@[simp]def dM(e:Px):exD U Qda O='Ơ'.bind λd=>.ok Io:=rfl
@[simp]def gJ(c:Px)(a b:Sx):exD U (.ite c a b) O='ԉ'.bind λx=>match x with
  |.bl To=>exD U a O
  |.bl Fo=>exD U b O
  |_=>.sk:=rfl
@[simp]def dD(m:Bool)(f:AX)(b:Nat)(src:Px)(body:Sx):exD U (.loop m f b src body) O='Ё'.bind λs=>s.asL.bind λJ=>if m&&(mutS body||!imms J)then .sk else forL f b EH J O:=rfl
@[simp]def x_brk:exD U .brk O=.ok (.bk,O):=rfl
@[simp]def x_cnt:exD U .cnt O=.ok (.ct,O):=rfl
end
def JpP(ns:Be):deps Ec=0:=by
 induction ns with
 |nil=>rfl
 |cons a t b=>simp[deps,D.dep,b]
def xH(ns:Ad):deps (ns.map XD)=0:=by
 induction ns with
 |nil=>rfl
 |cons a t b=>simp[deps,D.dep,b]
def Jpx(ns:Be):imms Ec=To:=by
 induction ns with
 |nil=>rfl
 |cons a t b=>simp[imms,D.imm,b]
def JoC(ns:Ad):imms (ns.map XD)=To:=by
 induction ns with
 |nil=>rfl
 |cons a t b=>simp[imms,D.imm,b]
def JjH(a b:Ad):eqvs (a.map XD) (b.map XD)=(a==b):=by
 induction a generalizing b with
 |nil=>cases b<;>rfl
 |cons x t f=>cases b<;>first|rfl|simp[Jrd,eqv_S,f]
def Jms(b:Nat)(c e:Fm->Rs D)(O:Fm):JO b c e O []=.ok []:=rfl
def JN(b:Nat)(c e:Fm->Rs D)(O:Fm)(d:D)(J:Ao){new:Fm}(j:Jv b d=.ok new)(g:c (new++O)=.ok CP){y:D}(f:p=To->e (new++O)=.ok y)
  {ys:Ao} (h:JO b c e O J=.ok ys):JO b c e O (d::J)=.ok (if p then y::ys else ys):=by cases p<;>simp[JO,j,g,h,f]
theorem JdJ(c e:Fm->Rs D)(O:Fm)(f:Nat->D):∀(n lo:Nat),(∀k,lo<=k->k<lo+n->c (So DV::O)=.ok Cw/\e (So DV::O)=.ok (f k))->
  JO 0 c e O ('仏'.map λk:Nat=>D.int k)=.ok ('仏'.map f)
 |0,lo,h=>rfl
 |n+1,lo,h=>by
  obtain⟨g,b⟩:=h lo (Zj _) Ae
  have l:=JdJ c e O f n (lo+1) λk o m=>h k Ae Ae
  have j:Jv 0 (D.int lo)=.ok [So (.int lo)]:=rfl
  have:=JN 0 c e O (.int lo) _ j (p:=To) g (λ_=>b) l
  simpa[List.range'_succ]using this
def JlH(n:Nat):upTo 0 n=(List.range' 0 n).map λk:Nat=>D.int k:=by simp[upTo,List.range_eq_range']
def JpS(n:Nat)(b:n<=1000):(upTo 0 n).length<=lD:=by
 have h:(upTo 0 n).length=n:=by simp[upTo]
 rw[h];exact ZM b AO
def kW(U:Ag)(O:Fm)(ne e:Px)(n:Nat)(g:evD U ne O=.ok aJ)(b:n<=1000)(f:Nat->D)(h:∀k,k<n->evD U e (So DV::O)=.ok (f k)):
  evD U (.comp 0 (.un .range ne) BI e) O=.ok (.lst ('Ջ'.map f)):=by have:=JdJ cO 'Ԕ' O f n 0 λk l j=>⟨rfl,h k Ae⟩;rw[List.range_eq_range',kH,e_un,g,Rs.bo,Jnx n b,Rs.bo];show(if(upTo 0 n).length<=lD then _ else _)=_;rw[if_pos (JpS n b),JlH,this];rfl
section
variable(U:Ag)(O:Fm)
def JJ(e:Px):Jb (exD U Qda O)=evD U e O:=by rw[dM];cases evD U e O<;>rfl
def Jo(e:Px)(rest:Sx)(b:evD U c O=.ok CP):Jb (exD U Ut O)=if p then evD U e O else Jb Qcl:=by
 rw[dA,gJ,b];cases p with
 |true=>simp only[Rs.bo,dM,if_true];cases evD U e O<;>rfl
 |false=>simp
def nA{d:D}(rest:Sx)(b:FU):Jb (exD U PQ O)=Jb QbQ:=by rw[dA,xC,b];rfl
def yL(rest:Sx)(b:evD U e O=.ok A2)(hi:imms J=To):Jb (exD U (.seq (.own i e) rest) O)=Jb (exD U rest (O.set i D5)):=by rw[dA,x_own,b];simp[hi]
def eD{a:Sx}{env2:Fm}(rest:Sx)(h:exD U a O=.ok Iz):Jb (exD U QdI O)=Jb (exD U rest env2):=by rw[dA,h];rfl
def Jr{b:Px}{q:Bool}(g:evD U a O=.ok CP)(f:p=To->evD U b O=.ok Qau):evD U (.and a b) O=.ok (.bl (p&&q)):=by
 rw[e_and,g];cases p with
 |true=>simpa using f rfl
 |false=>rfl
def mD{b:Px}{q:Bool}(g:evD U a O=.ok CP)(f:p=Fo->evD U b O=.ok Qau):evD U (.or a b) O=.ok (.bl (p||q)):=by
 rw[e_or,g];cases p with
 |false=>simpa using f rfl
 |true=>rfl
def JF(b:evD U a O=.ok CP):evD U (.un .not a) O=.ok (.bl (!p)):=by rw[e_un,b];rfl
def JB(b:evD U a O=.ok CP):evD U (.un .truth a) O=.ok CP:=by rw[e_un,b];rfl
def Jd{o:O2}{b:Px}{x y z:D}(h:evD U a O=.ok x)(f:evD U b O=.ok y)(g:op2 o x y=.ok z):evD U (.bi o a b) O=.ok z:=by rw[e_bi,h,Rs.bo,f,Rs.bo,g]
def Jq{o:O1}{x z:D}(f:evD U a O=.ok x)(b:op1 o x=.ok z):evD U (.un o a) O=.ok z:=by rw[e_un,f,Rs.bo,b]
def Jp{f:Nat}{x:D}{r:Rs D}(g:evD U a O=.ok x)(b:U f [x]=r):evD U (.call f (.cons a .nil)) O=r:=by rw[JqJ,fQ,g];exact b
end
theorem JX(f:α->Bool):∀J:List α,xA (J.map λd=>.bl (f d))=So QaK
 |[]=>rfl
 |d::J=>by simp[xA,JX f J]
theorem Jgk(U:Ag)(e:Fm->Rs D)(O:Fm)(f:D->D):∀J:List D,(∀d∈J,e (So d::O)=.ok (f d))->JO 0 cO e O J=.ok QaK
 |[],_=>rfl
 |d::J,h=>by
  have:=JN 0 cO e O d J (new:=[So d]) rfl (p:=To) rfl (λ_=>h d Af) (Jgk U e O f J λx b=>h x (by simp[b]))
  simpa using this
def JtB(U:Ag)(O:Fm)(src e:Px)(J:Ao)(f:D->D)(b:evD U src O=.ok A2)(g:Ab<=lD)(h:∀d∈J,evD U e (So d::O)=.ok (f d)):
  evD U Rr O=.ok (.lst QaK):=by rw[kH,b,Rs.bo,sC,Rs.bo,if_pos g,Jgk U _ O f J h];rfl
def Jul(U:Ag)(O:Fm)(src e:Px)(J:Ao)(f:D->Bool)(b:evD U src O=.ok A2)(g:Ab<=lD)(h:∀d∈J,evD U e (So d::O)=.ok (.bl (f d))):
  evD U (.un .all Rr) O=.ok (.bl (J.all f)):=by rw[e_un,JtB U O src e J (λd=>.bl (f d)) b g h,Rs.bo];simp[op1,JX,kK]
theorem mQ:∀{J:Ao}{n:Nat},(∀d∈J,aO<=n)->deps J<=n
 |[],_,_=>qA _
 |x::xs,n,h=>by
  have f:=h x Af
  have g:=mQ (J:=xs) (n:=n) λd b=>h d (ZN _ b)
  simp only[deps]
  lia
def rF{n:Nat}(h:n<=1000):n<=lD:=ZM h AO
def pC(U:Ag)(O:Fm)(h:IH)(b:Ab<=1000):evD U (.tup as) O=.ok Bt:=by rw[JvH,h,Rs.bo,sC,Rs.bo,if_pos (rF b)]
def Jxh(U:Ag)(O:Fm)(h:IH)(b:Ab<=1000):evD U (.dis as) O=.ok A2:=by rw[e_dis,h,Rs.bo,sC,Rs.bo,if_pos (rF b)]
def Jc(U:Ag)(O:Fm){d:D}(h1:evD U a O=.ok d)(b:IH):evD U (.cons a as) O=.ok (.lst (d::J)):=by rw[fQ,h1,Rs.bo,b];rfl
def Ja(U:Ag)(O:Fm){f:Nat}{r:Rs D}(h:IH)(b:U f J=r):evD U (.call f as) O=r:=by rw[JqJ,h];exact b
def dR{xs ys:Ao}(h:Ac+BD<=1000):op2 .add A4 QaJ=.ok (.tup (xs++ys)):=JwN _ _ (rF h)
def Jlg(U:Ag)(O:Fm){es:Ao}(hi:O[i]? =So D5)(b:evD U e O=.ok (.lst es))(f:Ab+es.length<=1000):
  exD U (.ext Fo i e) O=.ok (.nx,O.set i (So (.lst (J++es)))):=by rw[x_ext,hi];simp only[b,Rs.bo,sC,ZU,jC,Zs (rF f),oA,Zh,Zo]
def qJ(U:Ag)(O:Fm){d:D}(hi:O[i]? =So D5)(b:FU)(f:Ab<=1000):
  exD U QdJ O=.ok Lv:=by have:Ab<lD:=uC f AO;rw[JvJ,hi];simp only[b,Rs.bo,ZU,jC,Zs this,oA,Zh,Zo]
theorem JjU(x:Str):∀l:List Str,x∉l->(insS x l).length=Xn+1
 |[],_=>rfl
 |y::ys,h=>by
  simp only[Zf,not_or]at h
  unfold insS
  split
  ·next e=>exact absurd (by simpa using e) h.1
  ·split
   ·rfl
   ·simp[JjU x ys h.2]
def fM (l:Ad):Bool:=decide ((jA l).length<Xn)
theorem Jjx:∀l:List Str,l.Nodup->(jA l).length=Xn
 |[],_=>rfl
 |x::xs,h=>by
  obtain⟨f,b⟩:=lC.mp h
  unfold jA
  rw[JjU x _ (λz=>f ((wH xs x).mp z)),Jjx xs b]
  rfl
def yS{l:Ad}(h:l.Nodup):fM l=Fo:=by simp[fM,Jjx l h]
def n25:((2:Nat)=5)=False:=eq_false AO
def n35:((3:Nat)=5)=False:=eq_false AO
theorem Jdc(c e:Fm->Rs D)(O:Fm)(f:α->D)(p:α->Bool)(g:α->D):∀b:List α,(∀r∈b,c (So (f r)::O)=.ok (.bl (p r))/\(p r=To->e (So (f r)::O)=.ok (g r)))->JO 0 c e O (b.map f)=.ok ((b.filter p).map g)
 |[],_=>rfl
 |r::b,h=>by
  have n:=Jdc c e O f p g b λx l=>h x (by simp[l])
  have j:=h r Af
  have:=JN 0 c e O (f r) (b.map f) (new:=[So (f r)]) rfl j.1 j.2 n
  rw[Zg,this]
  cases m:p r<;>simp[nK,m]
theorem Jci(c e:Fm->Rs D)(O:Fm)(f1 f2:α->D)(p:α->Bool)(g:α->D):∀b:List α,(∀r∈b,c IP=.ok (.bl (p r))/\(p r=To->e IP=.ok (g r)))->JO 2 c e O Pq=.ok ((b.filter p).map g)
 |[],_=>rfl
 |r::b,h=>by
  have m:=Jci c e O f1 f2 p g b λx j=>h x (by simp[j])
  have f:=h r Af
  have:=JN 2 c e O (.tup Rm) Pq (new:=[So (f1 r),So (f2 r)]) rfl f.1 f.2 m
  rw[Zg,this]
  cases l:p r<;>simp[nK,l]
def qF(U:Ag)(O:Fm){rs:List α}(f:α->D)(p:α->Bool)(g:α->D)(b:evD U src O=.ok Qam)(j:rs.length<=1000)
  (h:∀r∈rs,evD U c (So (f r)::O)=.ok (.bl (p r))/\(p r=To->evD U e (So (f r)::O)=.ok (g r))):evD U (.comp 0 src c e) O=.ok (.lst ((rs.filter p).map g)):=by rw[kH,b,Rs.bo,sC,Rs.bo,if_pos (by rw[Ze];exact rF j),Jdc _ _ O f p g rs h];rfl
def Jpz(U:Ag)(O:Fm){rs:List α}(f1 f2:α->D)(p:α->Bool)(g:α->D)(b:evD U src O=.ok T9)(f:rs.length<=1000)
  (h:∀r∈rs,evD U c IP=.ok (.bl (p r))/\(p r=To->evD U e IP=.ok (g r))):evD U (.comp 2 src c e) O=.ok (.lst ((rs.filter p).map g)):=by rw[kH,b,Rs.bo,sC,Rs.bo,if_pos (by rw[Ze];exact rF f),Jci _ _ O f1 f2 p g rs h];rfl
def JdV(rs:List α):rs.filter 'ϑ'=rs:=by simp
def uH(U:Ag)(O:Fm){rs:List α}(f:α->D)(g:α->D)(b:evD U src O=.ok Qam)(l:rs.length<=1000)
  (h:∀r∈rs,evD U e (So (f r)::O)=.ok (g r)):evD U Rr O=.ok Qan:=by rw[qF U O f 'ϑ' g b l λr j=>⟨rfl,λ_=>h r j⟩,JdV]
def Jpt(U:Ag)(O:Fm){rs:List α}(f1 f2:α->D)(g:α->D)(b:evD U src O=.ok T9)(j:rs.length<=1000)
  (h:∀r∈rs,evD U e IP=.ok (g r)):evD U (.comp 2 src BI e) O=.ok Qan:=by rw[Jpz U O f1 f2 'ϑ' g b j λr f=>⟨rfl,λ_=>h r f⟩,JdV]
def sE(d:D)(h:d.dep<=20):op2 .ne d d=.ok C7:=by rw[o_ne _ _ h h,oM d 'c'];rfl
section
variable(U:Ag)(O:Fm)
def dH{d:D}(rest:Sx)(b:FU):exD U PQ O=exD U rest F2:=by rw[dA,xC,b];rfl
def Jsj(a:Sx)(rest:Sx)(b:evD U c O=.ok C7):exD U (.seq (.ite c a .skip) rest) O=exD U rest O:=by rw[dA,gJ,b];rfl
def iN{a:Sx}{env2:Fm}(rest:Sx)(h:exD U a O=.ok Iz):exD U QdI O=exD U rest env2:=by rw[dA,h];rfl
def n_if{b:Bool}(A B:Sx)(f:evD U c O=.ok Cp):exD U (.ite c A B) O=if b then exD U A O else exD U B O:=by rw[gJ,f];cases b<;>rfl
def e_if{x y:Px}{b:Bool}(f:evD U c O=.ok Cp):evD U (.ite c x y) O=if b then evD U x O else evD U y O:=by rw[e_ite,f];cases b<;>rfl
end
def JaT(x y:Str):op2 .eq Cr Gy=.ok (.bl (x==y)):=by rw[o_eq _ _ (by simp[D.dep]) (by simp[D.dep])];rfl
def Jtq(x y:Str):op2 .ne Cr Gy=.ok (.bl (!(x==y))):=by rw[o_ne _ _ (by simp[D.dep]) (by simp[D.dep])];rfl
def rN(n:Nat)(h:n<=1000):op1 .range (.int (n:Int))=.ok (.lst ((List.range' 0 n).map λk:Nat=>D.int k)):=by rw[Jnx n h,JlH]
noncomputable def datD:D->Bool
 |.non=>To
 |.bl _=>To
 |.int _=>To
 |.str _=>To
 |.tup J=>dats J
 |_=>Fo
where dats:List D->Bool
 |[]=>To
 |d::J=>datD d&&dats J
def Inj(g:α->D):Prop:=∀a b,(g a).eqv (g b)=To↔a=b
section
variable(g:α->D)
noncomputable def bump (k:α) (c:Int):List (α×Int)->List (α×Int)
 |[]=>[(k,c)]
 |(a,n)::r=>if(g a).eqv (g k)then(a,n+c)::r else(a,n)::bump k c r
noncomputable def ksOf (dd:List (α×Int)):List D:=dd.map λp=>g p.1
noncomputable def vsOf (dd:List (α×Int)):List D:=dd.map λp=>.int p.2
noncomputable def getN (k:α):List (α×Int)->Int
 |[]=>0
 |(a,n)::r=>if(g a).eqv (g k)then n else getN k r
def Dst(dd:List (α×Int)):Prop:=(dd.map (·.1)).Nodup
variable{g}
theorem JjP(k:α):∀b:List (α×Int),(yA (g k) (ksOf g b) (vsOf b)).getD aF=.int (getN g k b)
 |[]=>rfl
 |(a,n)::r=>by
  have f:=JjP k r
  simp only[ksOf,vsOf,Zg,yA,getN]at f⊢
  split
  ·rfl
  ·exact f
def Jpv(s:Inj g)(k:α)(c:Int)(dd:List (α×Int))(h:Dst dd):putD (g k) (.int (getN g k dd+c)) W3 Ip=(ksOf g G3,vsOf G3):=by
 have A:∀dd:List (α×Int),('ǋ'.any λd=>d.eqv (g k))=Fo->bump g k c dd=dd++[(k,c)]/\getN g k dd=0/\∀v,setD (g k) v W3 Ip=vsOf dd:=λdd=>by
  induction dd with
  |nil=>intro;exact⟨rfl,rfl,λv=>rfl⟩
  |cons p r l=>obtain⟨a,n⟩:=p;intro h;simp only[ksOf,Zg,rB,ZF]at h;obtain⟨f,j,b⟩:=l h.2;simp only[ksOf,vsOf]at b;exact⟨by simp[bump,h.1,f],by simp[getN,h.1,j],λv=>by simp only[ksOf,vsOf,Zg,setD,h.1,b,Zh,Zo]⟩
 have B:∀dd:List (α×Int),Dst dd->('ǋ'.any λd=>d.eqv (g k))=To->ksOf g G3=ksOf g dd/\setD (g k) (.int (getN g k dd+c)) W3 Ip=vsOf G3:=λdd=>by
  induction dd with
  |nil=>intro _ h;simp[ksOf]at h
  |cons p r l=>
   obtain⟨a,n⟩:=p;intro F h;have m:a∉r.map (·.1)/\Dst r:=by simpa[Dst]using F
   by_cases e:(g a).eqv (g k)=To
   ·have:=(s _ _).mp e;subst this;have y:((ksOf g r).any λd=>d.eqv (g a))=Fo:=by rw[List.any_eq_false];intro x u G;obtain⟨q,H,rfl⟩:=ZE.mp u;exact m.1 (ZE.mpr ⟨q,H,(s _ _).mp G⟩)
    have b:=(A r y).2.2;simp only[ksOf,vsOf]at b;simp only[bump,getN,e,if_true,ksOf,vsOf,Zg,setD,b,and_self]
   ·have o:(g a).eqv (g k)=Fo:=by simpa using e
    simp only[ksOf,Zg,rB,o,jC]at h;obtain⟨f,j⟩:=l m.2 h;simp only[ksOf,vsOf]at f j;simp only[bump,getN,o,Zh,Zo,ksOf,vsOf,Zg,setD,f,j,and_self]
 unfold putD;cases q:'ǋ'.any λd=>d.eqv (g k)with
 |true=>obtain⟨z,E⟩:=B dd h q;rw[if_pos rfl,z,E]
 |false=>obtain⟨w,C,_⟩:=A dd q;rw[if_neg ZH,w,C];simp[ksOf,vsOf]
end
def put_run(U:Ag)(O:Fm){g:α->D}(o:Inj g){t:Bool}{b vp:Px}{k:α}{c:Int}{dd:List (α×Int)}(hi:O[i]? =So (So (.dct t Fo W3 Ip)))(h:evD U b O=.ok (g k))(m:evD U vp O=.ok (.int c))(n:Dst dd)(r:dd.length<1000)(j:keyD t (g k)=To):
  exD U (.put To t i b Ng) O=.ok (.nx,O.set i (So (.dct t Fo (ksOf g G3) (vsOf G3)))):=by
 have q:evD U V8 O=.ok (.int (getN g k dd)):=by refine Jd _ _ (x:=.dct t Fo W3 Ip) (y:=g k) (by rw[fJ,hi]) h ?_;simp only[op2,onD,j,and_self,if_true,JjP]
 have l:evD U Ng O=.ok (.int (getN g k dd+c)):=Jd _ _ q m rfl;rw[hU,hi];have f:'ǋ'.length<1000000:=uC (Nat.le_of_eq (by simp[ksOf])) (Nat.lt_trans r AO);simp only[l,h,Rs.bo,j,D.imm,ZB,f,decide_true,oA,dI,yE,Bool.or_self,Zh,Zo,Jpv o k c dd n]
noncomputable def ev (ws:Ad):Nat->List IF
 |0=>[[]]
 |n+1=>(ev ws n).flatMap λa=>ws.map λw=>a++[w]
end Pu
namespace Rd
open PySem PySem.Spec PyProof.Rows L2 Pu
end Rd
namespace Rd
open PySem PySem.Spec PyProof.Rows L2 Pu PySem.W
variable{X:Cx}{G:Gw}{N:Ad}{nm:Bf}{pos px pos' p1 p2:Pos}{bc:A1}{H0:Hp}{x:Str}{p:Px}{e:Expr}{es:C6}
section
variable{U:Ag}{y:Str}{io:Nat}{b:Bs}{rest:Cj}{R:List Pu.D->Nat->Rs Pu.D}{R':Fm->Prop}
def JsJ(h:PSs X rest (tSB X Fo U bc [] H0 b)):PSs X rest (tLaw X H0 λO=>∃a,exO Fo U bc b O=.ok (.rt Cw) a):=PSs.weak h λD Z H f=>by
 obtain⟨O,l,⟨a,g⟩,i⟩:=f
 refine⟨O,l,?_⟩
 rw[g]
 exactλv m n j _=>by cases j;exact i m
end
end Rd
namespace Pu
open PySem
def JwM(U:Ag)(i j:Nat)(q:Px)(R:Fm->Prop)(O:Fm):Prop:=
 plE O=To/\∃d,evD U q O=.ok d/\Jh d=To/\∀a,R ((O.set i Bj).set j (So (obj0 a)))
end Pu
namespace Rd
open PySem PySem.Spec PyProof.Rows L2 Pu
variable{X:Cx}{pos:Pos}{Z:Bp}{H:Hp}{nm:Bf}{e:Expr}{ts:AX}{nt:Nat}
section
variable{U:Ag}{H0:Hp}{G:Gw}{N:Ad}{x:Str}{i:Nat}{rest:Cj}{px:Pos}
def Jpn{R:Fm->Prop}{y:Str}{j:Nat}{q:Px}{m pt b p a:Pos}{J k2:Nat}(C:Am)(u:HX X nm)(h0:BA)(hc:chkA N nm [] i x=To)(B:chkA N nm [] j y=To)(hl:(nm.lookup x==So .local&&nm.lookup y==So .local&&decide (i≠j)&&!(x==y)&&(m.line==QcL)&&eR e)=To)(hM:MakeB G)(hg:gloB nm Hn=To)(he:PE X e (tI X U q))(g:OM)
  (hs:'в' (swapsWithSole SA Q5 a.line WU=pure Fo) Al)
  (hs1:'в' (starEach WI WU=SX::starEach N0 WU) Al) (hs2:'в' (starEach N0 WU=(Fo,eval 'Ή' WU)::starEach [] WU) Al):
  PSs X (.Assign SA Q5 a::rest) (tLaw X H0 (JwM U i j q R)):=by
 obtain⟨Cl,f,fd,ps,mk,F,hr,hm,hC,hb⟩:=hM.ex;have hG:=C.g;subst hG;obtain⟨g1,g2,g3⟩:=chkA.at hc;obtain⟨f1,f2,f3⟩:=chkA.at B;simp only[Zc,rA]at hl;obtain⟨⟨⟨⟨⟨w,n⟩,l3⟩,l4⟩,l5⟩,l6⟩:=hl;have w:=ZD.mp w;have n:=ZD.mp n;intro Y s Z H D I M;have hw:swappedStores SA Q5 WU=pure b0:=Jsu XX (by rw[u.sc];exact w) (by rw[u.sc];exact n) l4 l5 l6 rfl (by simp[show foldedForSure 8 'Ή'=Fo from rfl]) (by simp[show constantsAlone 8 'Ή'=Fo from rfl]);refine vJ (Jxb Xp (by rw[C.hN];exact C.nd) (by rw[C.hN];exact g1) (by rw[C.hN];exact f1) (vK l3) (by rw[u.sc];exact w) (by rw[u.sc];exact n) (JC he (JC (JoQ mk F hr FN hm hb .nil (mU (X:=X)) Ah) kB hs2) hs1) hw hs) g Y s Z H D I ?_;obtain⟨O,ee,⟨hp,d,hd,P,h⟩,hD⟩:=M;refine⟨O,ee.readOk,?_⟩;rw[hd];intro v L s1 r1;intro z A hz E hne;refine⟨z,A,Cl,rfl,Jg,hC,λW sp r=>IZ⟩;have s2:Same L (upd (upd L A (.own z)) z (.ins Cl A [])):=λc o q=>by rw[Je (Ji q hz),Je (Ji q E)];exact q
 have l:SameP L W:=(SameP.of s2).trans sp;have e1:=(ee.grow s1).sp Af hp h0 l;have r2:Rep X.K W d v:=Rep.plain l d P r1;exact⟨_,_,rfl,_,(e1.put Af (by show Rep X.K KN _ _;rw[JI];exact r2)).put Af (by show Rep X.K KN _ _;rw[JI];exact r),h z,hD⟩
end
section
variable{w:Bool}{U:Ag}{bc:A1}{H0:Hp}{G:Gw}{N:Ad}
theorem Joi{body:Bs}{D:Ends}{l:Hp}{O:Fm}{J:Ij}{v:It}(e:EnvOk X.K [] H0 l Z O)(s1:SameP H l)
  (wk:∀W,ChB BR Di l [] W->(∀i,i<Ab->v.go i W)/\v.stop Ab W/\∀i x r,i<Ab->v.yld i W x r->Same W r/\∃d,J[i]? =So d/\Rep X.K r d x)
  (h:'乮'.Good Sv Hw):
  ∃Y:Nat->Nat->L2.St->Hp->Prop,(∃m,Y 0 m Z l)/\∀i m Z H,Y i m Z H->(v.stop i H/\D.nx Z H)\/(v.go i H/\∃M:L2.St->Hp->Prop,(∀b W,M b W->∃A,A<m/\Y AE A b W)/\
   ∀x W,v.yld i H x W->gS X [] H0 ts nt x Z W λg j=>tSB X w U bc [] H0 body {D with nx:=M,ct:=M,bk:=D.nx} g j):=by
 refine⟨λi m b W=>∃a,EnvOk X.K [] H0 W b a/\ChB BR Di l (Ow [] a b) W/\i<=Ab/\m=Ab-i/\(forB ts nt F3 cC a).Good Sv Hw,
  ⟨Ab,O,e,ChB.sp SameP.refl,qA _,rfl,by simpa using h⟩,?_⟩
 rintro i m b W⟨a,e',c',hi,rfl,o⟩;have c0:ChB BR Di l [] W:=c';obtain⟨w1,w2,w3⟩:=wk W c0;have cH:∀{E:A3}{y:Hp},ChB BR Di l E y->ChB BR Di H E y:=λz=>((ChB.sp (m:=Fo) s1).trans z).weak λq=>by rw[q];rfl
 by_cases B:i<Ab
 ·refine .inr ⟨w1 i B,λg j=>∃A,A<Ab-i/\∃a,EnvOk X.K [] H0 j g a/\ChB BR Di l (Ow [] a g) j/\i+1<=Ab/\A=Ab- AE/\(forB ts nt F3 G7 a).Good Sv Hw,λg j q=>q,λx j hy=>?_⟩;obtain⟨sm,d,hd,rd⟩:=w3 i x j B hy;have rd:Rep X.K (hid (Ow [] a b) j) d x:=by rw[show Ow [] a b=[] by simp[Ow],JI];exact rd
  rw[eS hd]at o;simp only[forB]at o;cases L:Jv nt d with
  |sk=>rw[L]at o;exact o.elim
  |ex c=>exact(rJ L).elim
  |ok s=>
   rw[L]at o;refine⟨a,d,s,e'.grow sm,rd,L,λP e3 ow3=>⟨Jt ts s a,e3,(Rq.gB.mp o).imp (λf n I=>?_) λ_ _ z=>z⟩⟩;have cc:∀{E:A3}{y:Hp},ChB BR (Ow [] (Jt ts s a) P) j E y->ChB BR Di l E y:=λz=>by rw[ow3]at z;exact((c'.trans (ChB.sp (m:=Fo) (SameP.of sm))).trans z).weak λq=>by rw[q];rfl
   cases f with
   |nx=>exactλu H4 F C=>⟨_,by lia,n,F,cc C,by lia,rfl,I⟩
   |ct=>exactλu H4 F C=>⟨_,by lia,n,F,cc C,by lia,rfl,I⟩
   |bk=>exactλu H4 F C=>I u H4 F (cH (cc C))
   |rt d=>exact I
 ·have he:i=Ab:=by lia
  subst he;rw[qI]at o;exact .inl ⟨w2,o b W e' (cH c')⟩
theorem JnQ:∀(J:Ij)(k:Nat),Jj WW=Jj J
 |[],_=>rfl
 |d::J,k=>by simp[Jl,Jj,Jh,JnQ J 'é']
theorem Jmx:∀(J:Ij)(k:Nat),imms WW=imms J
 |[],_=>rfl
 |d::J,k=>by simp[Jl,imms,Pu.D.imm,Jmx J 'é']
theorem JsR{a:Expr}{f:C6}{k:Nat}{tp M y:Pos}{p:Px}{sb:Bs}{body:Cj}(C:Am)(hp:F4)(ha:PE X a El)(P:gloB nm "enumerate"=To)(hm:G.mg "enumerate"=No)(hg:PG X Qj (gS X [] H0 ts nt))(A:PSs X body (tSB X w U bc [] H0 sb))
  (j:Vs) (hs:∀x,foldedSetIterable SH WU x=pure x:=by intro _;rfl):
  PS X (.For Qj SH body [] pos) (tSB X w U bc [] H0 (.loop ts nt (.un .enum (.un .asT p)) sb)):=by
 have B:PI X Qj SH (λZ H R=>tI X U p Z H λv W=>∃l xs,v=.ref l/\SqT X.K W l xs/\R Qcm W):=by
  intro Y s Z H R I h;refine Call_ (mH I (C.glo _ P) (by rw[C.mg];exact hm) boot_enumerate (vL (thn (JC ha kB j y Y s Z H (λvs W=>∃l xs,vs=bQ/\SqT X.K W l xs/\R Qcm W) I (by obtain⟨O,r,hg⟩:=h;exact⟨O,r,hg.mono (λd o v W s rv=>by obtain⟨l,xs,rfl,q1,q2⟩:=o v W s rv;exact⟨l,xs,rfl,q1,q2⟩) λ_ z=>z⟩)) λus s1 zz=>?_) j rfl));obtain⟨vs,H1,n,F,l,xs,g,q1,hR⟩:=zz;subst g;obtain⟨u,rfl,ru⟩:=lA F;cases ru;obtain⟨its,rv,pt,hz⟩:=gD (t:=To) n q1;refine Jho pt λh' he hit kp=>wpAny_pyIter_enum he ⟨Aq+1,[Aq+1,Aq],_,_,H1,rfl,n.kept (t':=XA) kp,Jgg To l Aq (Aq+1) Od,MT,λb A=>?_,hR⟩;have m:Aq<=b:=by
   simp only[Zf,ZA,eA]at A;rcases A with rfl|rfl
   ·exact iC _
   ·exact Zj _
  exact n.fpOk m (n.hok.fresh m)
 refine PS.weak (gQ hp Xp B hg A hs) λD Z H⟨O,e,h⟩=>EV;simp only[exO,evD]at h;cases z:evD U p O with
 |sk=>rw[z]at h;exact h.elim
 |ex c=>rw[z]at h;exactλC W hm s=>h C W Z hm Hb
 |ok d=>
  rw[z]at h;cases d with
  |tup J=>
   simp only[Rs.bo,op1,onQ]at h;split at h
   ·rename_i E;simp only[Zc,JnQ,Jmx]at E;intro v H1 s1 r;obtain⟨a,xs,rfl,h1,h2⟩:=r;have g:=e.grow s1;refine⟨a,xs,rfl,h1,Joi (w:=w) (U:=U) (bc:=bc) g (SameP.of s1) (λW c=>?_) h⟩;have L:SqT X.K W a xs:=by
     rcases h1 with q|q
     ·exact .inl (c.1.keep a _ q rfl (by simp[Ow]))
     ·exact .inr q
    have hr:Reps X.K W J xs:=by have:=Reps.plain c.1.hid J E.1 (Reps.tups g.ows.tup J E.2 (by simpa[Ow,JI]using h2));rw[JI]at this;exact this
    have hl:=Z2;refine⟨λi B=>?_,⟨xs,L,by rw[JY];exact hl⟩,λi x H'' B⟨T,v,hT,g,e2,hv⟩=>?_⟩
    ·rw[JY]at B;exact⟨xs,xs[i]'(by lia),L,Zq Ae⟩
    ·subst g;subst e2;obtain⟨d,hd,rd⟩:=hr.get' (hv xs L);obtain⟨s1,F⟩:=nE (K:=X.K) (J:=[.int i,d]) (xs:=Qbh) hT ⟨_,_,rfl,rfl,_,_,rfl,rd,rfl⟩;refine⟨s1,_,by rw[wZ,hd];rfl,?_⟩;simpa using F
   ·exact h.elim
  |_=>exact h.elim
end
structure FlyS(X:Cx)(Y:AQ)(Z:Bp)(C a:Addr)(W:Hp)(s':Ak):Prop where
 I:L2.Inv X Y Z W s'
 B:∃B a0 fl,uP B Xc a Bm a0 fl Ya/\(∀b u,W b=So u->∃o,B.get? b=So o)/\(∀b o,X.s₀.heap.get? b=So o->b∉frs X.stack->b∉X.ex->(X.H₀ b=No->B.get? b=So o)/\∃o',B.get? b=So o')/\∀p∈X.pn,B.get? p.1=So p.2
def Joj{Y:AQ}{s j:Ak}{E:XK}{e:An}(I:BW)(h:CXr Xa X.w Xc H s E e j):∃a C W,e=.ref a/\FlyS X Y Z C a W j/\E Bm No W:=by
 obtain⟨a,C,W,B,P,rfl,y,J,u,n,N,tr,i,A⟩:=h;have I':L2.Inv X Y Z W j:=I.call' y u n J R7;have g:∀b,b∉X.fs->b≠AM->b∉frs Xc:=λb U L hm=>by
  rcases Zf.mp (I.stkSub b hm)with e|e
  ·exact L e
  ·exact U e
 refine⟨a,C,W,rfl,⟨I',B,P,.none,N,tr,λb o q r f=>?_,λp hp=>?_⟩,A⟩;rotate_left
 ·obtain⟨q1,q2,M,q4,_⟩:=I.pin p KO;exact(i p.1 p.2 q1 (g p.1 q4 M)).1 q2
 have l:b∉X.fs:=λz=>r (by
  rcases I.ok.stk with e|⟨e,_⟩
  ·rw[e];exact z
  ·rw[e];obtain⟨F,O,G⟩:=qB.mp z;exact qB.mpr ⟨F,.tail _ O,G⟩)
 constructor
 ·intro v;have m:=I.base.keep b o q v l f;exact(i b o m r).1 (I.base.free b o q v f)
 ·obtain⟨w,m⟩:=I.base.there b o q f;exact(i b w m r).2
section
variable{ps:AQ}{s:Ak}{B h1 h2:Heap}
def Inv.landS(h:X.stack=WU::X.outer)(f:X.env.frame=So AM)(g:X.ex=[])(I:L2.Inv X ps Z H {s with heap:=h1})(L:Qd2)(k1:bG)(k2:B.StaysIn h2)(up:Qd3)(t:Nat):
  L2.Inv X [] Z H {s with heap:=h2,toks:=t}:=by
 have a:=Inv.land h f g I L k1 k2 up t;refine{ok:=a.ok,os:=a.os,bare:=a.bare,base:=a.base,loc:=?_,cell:=a.cell,free:=a.free,freeC:=a.freeC,pin:=a.pin,hok:=a.hok,len:=Ys};obtain⟨m,E,w⟩:=Xz;refine⟨m,up.ns E,λi x v n b q=>?_⟩;obtain⟨u,r,C⟩:=w i x v n b q;refine⟨u,r,?_⟩;rcases C with z|⟨y,c,A,o,l,j⟩
 ·exact .inl z
 ·obtain⟨sl,b⟩:=up c o l λF z=>by rw[j]at z;cases z
  exact .inr ⟨y,c,A,_,b,j⟩
end
section
variable{Y ps:AQ}{s:Ak}{E:AZ}{C CR a:Addr}{rn:Str}{np hp:Pos}{D:Ends}{body:Stmt}
def JwK(ok:X.Ok)(f:X.stack=WU::X.outer)(h:X.env.frame=So AM)(i:X.ex=[])(F:FlyS EZ ps Z C a H s)(w:Gl X rn)(y:X.mg rn=So YW)(J:(rn==("__debug__":Str))=Fo)
  (m:PySem.W.exmOne X.K Bm YW=So To)
  (k:∀W E' M,L2.Inv EZ [] Z H M->W.frames=X.A.frames->wpAny Ay W (execs [body] WU) KP E' M):
  wpAny Ay X.A (noteFrame Aw WU) (λ_ s2=>wpAny Ay X.A (setFlight Aw No) (λ_ s3=>
   wpAny Ay X.A (handleBy Aw WU VU) KP X.xe s3) X.xe s2) X.xe s:=by
 have I:=F.I;obtain⟨B,a0,L,v,tr,kp,pn⟩:=F.B;have z:X.A.frames=So (WU::X.outer):=by rw[<-f];exact ok.frames
 have A:uP B (WU::X.outer) a Bm a0 L W6:=by rw[<-f];exact v
 refine vY z h A λh4 n O=>?_;have N:Landed EZ H B W6:=⟨tr,λb o hb hn=>kp b o hb hn (by show b∉X.ex;rw[i];simp),pn⟩;refine wpAny_landsW n λU g j=>?_;have P:L2.Inv EZ [] Z H {s with heap:=U,toks:=W7}:=Inv.landS (X:=Cx.mk1 X E Y) f h i I N v.1 g.1 (O.trans j) W7;obtain⟨ob,u,l⟩:=g.there;refine wpAny_handleBy_cons (codeAny_handlers_test ?_) (by intro q;cases q);refine pJ (X:=Cx.mk2 X (X.A.mark (So Aw)) (λ_ _=>True) Y) (Inv.to2 P rfl) w y ?_ J;have LT:PySem.W.Looks Ay U (typeOf Aw) Bm:=l▸(PySem.W.Looks.ld u).andThen .now;refine PySem.W.Looks.here (PySem.W.exm_one P.kIn LT m) ?_;rw[if_pos rfl];refine codeAny_handlers_suite ?_;refine lands_againW g λh6 r G=>?_;have I6:L2.Inv EZ [] Z H {s with heap:=h6,toks:=W7}:=Inv.landS (X:=Cx.mk1 X E Y) f h i I N v.1 r.1 ((O.trans j).trans G) W7;exact k _ _ _ I6 rfl
end
def JnI{CX:CXT}{k:Nat}{f:Addr}{fd:B2}{ps:Ad}{sp:Sp}{dvs:AA}{J:Az}{E:XK}{x:Str}{p:Pos}{es:C6}{t:TA}{σ0:Bp}
  (F:F8) (G:Iy) (A:C9) (L:X.mg x=So Bc) (y:PySem.W.keepIn X.K Bc=To) (N:Fl) (z:FA) (w:∀Y H s e i,L2.Inv X Y σ0 H s->CX Xc H s E e i->X.xe e i)
  (ha:GN) (m:CZ) (C:KJ) (l:'ĺ'.any (·.1)=Fo):
  PE X Mz (λZ H Q=>Z=σ0/\Jwx sp dvs E t Z H Q):=by
 rintro Y s Z H Q I⟨rfl,h⟩;refine wK (pJ I A L ?_ m);refine PySem.W.callWith_K (h₀:=XF) bK y (thn II λb j⟨v,o,a,r,q⟩=>⟨a.kIn,?_⟩) C l;have n:Vals (v++dvs) (b++J):=r.append z;have M:(b++J).length=Aj:=by rw[<-n.length];exact F.len _ _ _ _ q
 refine wpAny_call (dG (F.run X.A Xc j o ⟨b,[]⟩ (b++J) (v++dvs) Q E G a.env0 (N j b a.kIn M) n q) λr i g=>?_);cases r with
 |error e=>exact w Y o j e i a g
 |ok B=>
  cases B with
  |ret u=>exact a.after g
  |next=>exact False.elim g
  |brk=>exact False.elim g
  |cont=>exact False.elim g
section
variable{U:Ag}{G:Gw}{N:Ad}{tg:Expr}{es:C6}{body:Stmt}{p:Px}{hh:Sx}{x rn:Str}{fi:Nat}{H0:Hp}{cs:Ad}{p1 p2 p3 np hp:Pos}
def Jlz(C:Am)(hx:HX X nm)(y:chkG nm rn=To)(ht:Takes G rn cs)(hc:Qd1)(hg:chkG nm x=To)(hs0:lH p=To)(ha:∀g,Ctx g G N nm->PA g Fi (tA g U p))(hT:∀g,Ctx g G N nm->PG g tg (gS g [] H0 ts nt))
  (hb:∀g,PS g body (tS g U [] H0 hh)) (hn:∀O,∃r,exD U hh O=.ok r)
  (he:Dx) (hpl:'в' ((backTo p2 KF).any (·.1)=Fo) Al)
  (hs:'в' (swapsWithSole [tg] RU p3.line WU=pure Fo) Al) (hw:'в' (swappedStores [tg] RU WU=pure No) Al)
  (h1:'в' ('ʗ'.map (·.2)=Qo) Al) (hm:'в' (mutS hh=Fo) Al):
  PS X (.Try [.Assign [tg] RU p3] VU [] [] pos) (tS X U [] H0 Pp):=by
 rintro Y s Z H D I⟨O,L,h⟩;simp only[chkG,Zc]at y hg;obtain⟨kk,f,fd,ps,F,hr,M,hkf,hbf⟩:=hc.ex;have hr:=Room.out hr;obtain⟨CR,hmr,hcs⟩:=ht.ex;simp only[exD]at h;rcases xY U (O:=O) hs0 with w|⟨J,w⟩
 ·simp only[evD,w,Rs.bind_stuck]at h;exact h.elim
 have q1:evD U QJ O=U fi J:=by simp only[evD,w,Rs.bo,Pu.D.asL]
 rw[q1]at h;have hG:=C.g;subst hG;let W9:XK:=λcls _ W=>∀o,cls=.ref o->∃c,cs.contains c=To/\X.mg c=So (.ref o)/\Same H W/\(exD U hh O).Good (OutS X [] H0 Di H (mutS Pp) D) EC;refine wpAny_Try_except ?_;refine ZV (oN (Jrn (X:=Cx.mk1 X _ Y) (JnI (sp:=spI X.K X.mg U fi) (dvs:=[]) (J:=[]) (E:=W9) (σ0:=Z) F hr (C.glo x hg.1) M hkf hbf .nil (λpins' H1 s1 ee s' I1 hq=>?_) (ha _ C.to1) (plainN.d hg.2).1 he hpl) (hT _ C.to1) hs hw h1) [] s Z H ⟨D.nx,λ_ _=>False,λ_ _=>False,λ_ _=>False⟩ (Inv.to1 I) IZ) (λf s1 q=>?_) (λ_ _ z=>z)
 ·obtain⟨a,o,W,rfl,F',hE⟩:=Joj I1 hq;obtain⟨c,w1,w2,w3,w4⟩:=hE o rfl;obtain⟨CC,g1,g2,g3⟩:=hcs c (by simpa using w1);rw[show X.mg c=So (.ref CC)from g2]at w2;cases w2;refine JwK I.ok hx.stk hx.frm hx.ex F' (C.glo rn y.1) hmr (plainN.d y.2).1 g3 λA' E' s5 I5 hA=>?_;obtain⟨r,n⟩:=hn O;rw[n]at w4;have b1:=oN (hb Nf) [] s5 Z W ⟨D.nx,D.rt,D.bk,D.ct⟩ (Inv.to2 I5 hA) ⟨O,L.grow w3,by
   rw[n];have z:OutS X [] H0 Di H Fo D r:=w4;have:OutS Nf [] H0 Di W (mutS hh) ⟨D.nx,D.rt,D.bk,D.ct⟩ r:=by rw[hm];exact OutS.after (X:=X) z (Chg.of w3) (λ_=>Ce)
   exact this⟩
  refine ZV b1 (λf s9 q=>?_) λ_ _ z=>z;cases f with
  |next=>obtain⟨b,m,l,q⟩:=q;exact Sb
  |brk=>obtain⟨b,m,l,q⟩:=q;exact Sb
  |cont=>obtain⟨b,m,l,q⟩:=q;exact Sb
  |ret u=>obtain⟨v,b,m,l,r9,q⟩:=q;exact⟨v,b,m,Inv.of2 l I.ok,r9,q⟩
 ·refine⟨O,L.readOk,?_⟩;rw[w];refine⟨J,rfl,λvs H1 s1 rs=>?_⟩;rw[uE];refine⟨J,rs,?_⟩;cases q:U fi J with
  |sk=>rw[q]at h;exact h.elim
  |ok d=>
   rw[q]at h;intro v H2 s2 rv;show gS _ _ _ _ _ _ _ _ _;dsimp only at h;cases i:Jv nt d with
   |sk=>rw[i]at h;exact h.elim
   |ex c=>exact(rJ i).elim
   |ok B=>
    rw[i]at h;refine⟨O,d,B,L.grow F6,?_,i,λj e' P=>h j H2 e' ?_⟩
    ·show Rep X.K (hid [] H2) d v;rw[JI];exact rv
    ·rw[P];exact Chg.of F6
  |ex c=>
   rw[q]at h;dsimp only at h;split at h
   ·rename_i hcc;intro o H2 A s2 C2 e2;cases e2;exact⟨c,hcc,A,s1.trans s2,h⟩
   ·exact h.elim
 ·cases f with
  |brk=>obtain⟨_,_,_,q⟩:=q;exact q.elim
  |cont=>obtain⟨_,_,_,q⟩:=q;exact q.elim
  |ret u=>obtain⟨_,_,_,_,_,q⟩:=q;exact q.elim
  |next=>obtain⟨j,W,I',q⟩:=q;exact lK ⟨j,W,Inv.of1 I',q⟩
end
end Rd
namespace K76
open PySem Pu
variable{kv:Dv}{a W9:Ad}{α:Type}{J:Ao}{w n l:Str}{e:Px}{i:Nat}{bc:A1}{O env2:Fm}{y2:Bl}
noncomputable def Jdb:Sx:=(.seq (.ite (.un .not (.un .truth (.un .isStr Ar))) Em .skip)
  (.ret (.and (.and (.bi .le Cv B4) Nd) (.un .all (.comp 0 Ds BI (.bi .isin Ar A0))))))
noncomputable def Jgi:Sx:=(.ret (.call 0 (.cons Ar (.cons (.con QaL) QE))))
noncomputable def Jgs:Sx:=(.ret (.call 0 (.cons Ar (.cons (.con QaM) Fd))))
noncomputable def JaW:Sx:=(.ret (.and (.un .isTup Ar) (.and (.bi .le AD B4) Nd)))
noncomputable def JbS:Sx:=(.ret (.un .all (.comp 0 Ds BI (.call 1 C5))))
noncomputable def JbT:Sx:=(.ret (.bi .lt (.un .lset Ar) B4))
noncomputable def JQ:Sx:=(.seq (.ite U3 Em .skip)
  (.ret (.un .all (.comp 2 VO BI (.bi .lt Ar AD)))))
noncomputable def yN:Sx:=(.seq (.ite (.un .not (.un .truth (.call 3 (.cons Ar (.cons Fh Ek))))) Em .skip)
  (.seq (.ite Mx (.ret (.and (.bi .eq B4 MN) (.and (.call 2 Ki) (.call 6 QbR)))) .skip)
  (.seq (.ite (.bi .ne B4 Fh) Em .skip)
  (.seq (.ite Nc (.ret (.call 1 Ki)) .skip)
  (.ret (.and (.bi .isin DT (.con QaN)) (.call 2 Ki)))))))
noncomputable def gY:Sx:=(.ret Nb)
noncomputable def sS:Sx:=(.ret (.comp 0 Ds My Fb))
noncomputable def rS:Sx:=(.seq (.loop Fo [2] 0 Ds OP)
  IC)
noncomputable def xZ:Sx:=(.seq (.ite (.or UO (.un .not (.un .truth VQ))) Em .skip)
  (.seq (.ite (.un .truth Up) Em .skip)
  (.ret (.un .not (.call 5 (.cons Qa .nil))))))
noncomputable def qZ:Sx:=(.ret (.and (.bi .gt B4 CN) (.bi .eq (.bi .idx NK CN) E5)))
noncomputable def Jbe:Sx:=(.seq (.ite (.or (.bi .eq Ar (.con (.str (oS "")))) (.un .not (.un .truth (.un .all (.comp 0 Ds BI (.bi .isin Ar (.con QaO))))))) Em .skip)
  (.ret (.or (.bi .eq Ar Hk) (.un .not (.bi .strt Ar Hk)))))
noncomputable def sY:Sx:=(.seq (.ite Nc (.ret (.bi .eq AD Fb)) .skip)
  (.seq VT
  (.seq (.ite Q4 (.ret (.call 13 Dt)) .skip)
  Kd)))
noncomputable def JG:Sx:=(.seq (.ite Tj (.ret (.bi .ge AD NJ)) .skip)
  (.ret (.bi .eq AD B4)))
noncomputable def uZ:Sx:=(.seq (.ite (.un .not (.un .truth (.call 15 (.cons Ar (.cons Dp .nil))))) Em .skip)
  (.ret (.un .all (.comp 2 (.bi .zip Ar AD) BI L3))))
noncomputable def xJ:Sx:=(.seq (.ite Mw (.ret (.sl AD (.un .asI A0) Dw)) .skip)
  (.seq (.ite Q4 (.ret (.un .ints Na)) .skip)
  (.ret Na)))
noncomputable def fS:Sx:=(.seq (.ite (.un .not (.un .truth (.call 16 DN))) IC .skip)
  (.ret (.comp 2 (.un .enum Ar) Sf Q1)))
noncomputable def JW:Sx:=(.ret (.and (.un .isInt Ar) (.and (.un .not (.un .isBool Ar)) (.and (.bi .le CN Ar) (.bi .le Ar (.con Qi))))))
noncomputable def zJ:Sx:=(.seq (.ite Q4 (.ret (.call 19 Dt)) .skip)
  (.seq (.ite Mw (.ret (.and QbS (.call 4 Dt))) .skip)
  (.seq VT
  (.ret (.call 1 Dt)))))
noncomputable def Jah:Sx:=(.seq Qcn
  (.seq (.ownD Fo 3)
  (.seq (.loop Fo [4,5] 2 Pa (.seq US
  (.seq VF
  OO)))
  (.seq Wp
  (.retF 3)))))
noncomputable def JaC:Sx:=(.loop Fo [2] 0 Ds (.ite UX (.seq Qco
  M9) .skip))
noncomputable def vZ:Sx:=(.seq 'І'
  (.seq (.loop Fo [3] 0 Ds (.ite UR Qcp (.ite (.bi .eq M8 E5) Uz Ti)))
  Lo))
noncomputable def qW:Sx:=(.seq (.set Fo 2 (.call 21 DN))
  (.seq (.eff (.call 22 QdK))
  (.seq (.set Fo 3 (.call 23 QdK))
  (.seq (.ite (.bi .gt (.un .len B6) Hi) Sm .skip)
  R4))))
noncomputable def yR:Sx:=(.seq (.ite (.and Mx (.bi .eq Mv MH)) (.ret (.un .all (.comp 0 (.walk E3) BI (.bi .isin Ar M7)))) .skip)
  (.seq (.ite (.and Mx (.bi .eq Mv IU)) Kd .skip)
  (.ret (.bi .eq DT Mv))))
noncomputable def yJ:Sx:=(.seq (.set Fo 2 (.call 10 VN))
  (.ret (.and (.un .notN A0) (.call 25 (.cons A0 Dt)))))
noncomputable def wR:Sx:=(.seq (.ite (.or (.un .not (.un .truth (.call 3 (.cons Ar (.cons MN Ek))))) (.un .not (.un .truth (.call 2 (.cons DT .nil))))) Em .skip)
  (.seq (.ite (.or (.un .not (.un .truth (.call 11 Ki))) (.un .not (.un .truth (.call 11 QbR)))) Em .skip)
  (.ret (.un .all (.comp 0 (.walk E3) My (.call 26 (.cons (.bi .idx AD Cv) C5)))))))
noncomputable def JbW:Sx:=(.seq (.ite (.or UO (.un .not (.un .truth (.un .all (.comp 0 Ds BI (.call 27 C5)))))) Em .skip)
  (.ret (.un .not (.call 5 (.cons (.comp 0 Ds BI DT) .nil)))))
noncomputable def JaF:Sx:=(.seq (.set Fo 2 (.call 23 (.cons Ar (.cons (.un .dictP AD) .nil))))
  (.seq (.ite (.bi .gt QdL Hi) (.raise Ck .nil) .skip)
  R3))
noncomputable def nR:Sx:=(.seq (.loop Fo [2,3,4] 3 Wm (.seq Qcq
  Uh))
  IC)
noncomputable def sU:Sx:=(.seq 'Ѷ'
  (.seq LI
  (.seq Qcr
  (.seq (.whl 1000000 'Ǧ' (.seq TJ
  (.seq U2
  (.seq O9
  Wc))))
  QZ))))
noncomputable def qS:Sx:=(.seq (.set Fo 2 QdM)
  (.ret (.tup (.cons Q3 (.cons M7 .nil)))))
noncomputable def yY:Sx:=(.ret (.bi .idx QdM Cv))
noncomputable def vX:Sx:=(.seq (.set Fo 1 (.tup (.cons DT (.cons E3 Ki))))
  (.ret (.ite (.un .truth (.call 27 Dt)) AD Dw)))
noncomputable def eZ:Sx:=(.ret (.comp 0 Ds (.un .truth (.call 16 (.cons Fb Gf))) DT))
noncomputable def rQ:Sx:=(.seq (.set Fo 2 (.call 35 DN))
  (.ret (.ite (.bi .gt QdL CN) Q3 Dw)))
noncomputable def jZ:Sx:=(.seq (.set Fo 3 Wr)
  (.ret (.bi .add (.bi .add Sk (.tup Dt)) (.sl Ar (.un .asI B6) Dw))))
noncomputable def uX:Sx:=(.seq (.ite Tj (.ret (.tup (.cons NJ QE))) .skip)
  (.ret (.tup (.cons B4 (.cons B4 .nil)))))
noncomputable def JaV:Sx:=(.seq (.set Fo 2 (.call 10 DN))
  (.seq (.ite QdN (.raise Ka Dt) .skip)
  Lo))
noncomputable def Jai:Sx:=(.seq (.set Fo 3 (.bi .indexT Ar AD))
  (.ret (.bi .add (.bi .add Sk A0) VM)))
noncomputable def jT:Sx:=(.seq (.ite Mw (.ite (.and (.un .truth QbS) (.un .truth (.call 4 Dt))) (.ret AD) .skip) (.ite (.and (.un .truth (.call 1 Dt)) (.un .truth L3)) (.ret (.tup Dt)) .skip))
  Sm)
noncomputable def fZ:Sx:=(.seq (.set Fo 3 (.call 39 DN))
  (.seq (.set Fo 4 (.call 41 (.cons B6 Gf)))
  (.seq (.set Fo 5 (.call 40 (.cons Ar (.cons B6 (.cons (.un .tuple (.comp 0 (.walk C8) BI (.tup (.cons F9 C5)))) .nil)))))
  (.seq (.ite (.bi .gt (.un .len Gk) (.con Yy)) M6 .skip)
  (.ret Gk)))))
noncomputable def mS:Sx:=(.seq (.ite (.bi .lt AD B4) (.ret (.bi .idx Ar AD)) .skip)
  (.seq (.ite (.bi .eq Ar Gb) (.ret CN) .skip)
  (.ret (.bi .add (.bi .mul (.bi .idx Ar (.bi .mod AD B4)) (.con QaP)) AD))))
noncomputable def lZ:Sx:=(.seq (.set Fo 3 (.bi .mod (.bi .mul (.bi .add (.call 43 DN) (.bi .mul (.con (.int 6151)) LG)) (.con (.int 40692))) (.con Qao)))
  (.ret (.bi .mod (.bi .mod (.bi .add (.bi .mul B6 B6) (.bi .fdiv B6 (.con QaP))) (.con Qap)) A0)))
noncomputable def JU:Sx:=(.seq (.set Fo 3 (.dis (.cons LC (.cons RT (.cons Kx (.cons Hk .nil))))))
  (.seq (.set Fo 4 (.call 44 (.cons Ar (.cons AD QE))))
  (.seq (.ite (.bi .lt C8 L0) (.ret (.tup (.cons F9 (.cons (.bi .idx B6 VA) .nil)))) .skip)
  (.seq (.ite (.bi .eq C8 L0) (.seq (.set Fo 5 Vd)
  (.ret (.tup (.cons MH (.cons A0 (.cons (.un .tuple (.un .sset Gk)) .nil)))))) .skip)
  (.ret (.tup (.cons (.bi .idx (.dis (.cons IU (.cons LO (.cons IU .nil)))) (.bi .sub C8 (.con (.int 5)))) Gf)))))))
noncomputable def xS:Sx:=(.seq (.set Fo 3 (.dis (.cons (.con (.str (oS "y"))) (.cons (.con (.str (oS "id"))) (.cons (.con (.str (oS "z"))) (.cons (.con (.str (oS "x"))) .nil))))))
  (.seq (.own 4 Vg)
  (.seq (.ite (.bi .eq VA CN) (.app Fo 4 (.tup (.cons E5 (.cons (.con (.str (oS "r"))) .nil)))) .skip)
  R1)))
noncomputable def JaB:Sx:=(.ret (.bi .idx (.dis (.cons LC (.cons RT (.cons Kx (.cons Hk (.cons Po (.cons (.con (.str (oS "zz"))) (.cons (.con (.str (oS "55"))) (.cons (.con (.str (oS "01"))) (.cons (.con (.str (oS "-"))) .nil)))))))))) (.call 44 (.cons Ar (.cons AD Vv)))))
noncomputable def pZ:Sx:=(.seq LI
  (.seq (.loop Fo [4,5] 2 Qcs (.seq Qw
  Vf))
  R4))
noncomputable def kZ:Sx:=(.seq (.own 3 (.comp 0 (.walk A0) (.and Nb (.bi .ne DT E5)) Ar))
  (.seq (.own 4 Gb)
  (.seq (.whl 64 Wg (.seq (.popi 5 3 Wv)
  (.seq (.ite (.and (.bi .eq DO MH) Vx) (.set Fo 5 (.tup (.cons IU (.cons M5 .nil)))) .skip)
  UY)))
  (.seq U7
  (.seq (.loop Fo [7] 0 WC (.insi 4 Qdb (.tup (.cons F9 (.cons (.bi .idx (.dis (.cons LC (.cons RT (.cons Kx (.cons Po .nil))))) UP) .nil)))))
  (.seq (.ite (.and (.bi .ne A0 (.tup .nil)) (.and (.bi .eq (.bi .idx Me CN) E5) Vn)) Qct .skip)
  R1))))))
noncomputable def JbV:Sx:=(.seq 'І'
  (.seq (.loop Fo [3] 0 Wb (.seq Ww
  (.app Fo 2 (.tup (.cons (.bi .idx (.dis (.cons (.con (.str (oS "s"))) (.cons (.con (.str (oS "p"))) (.cons (.con (.str (oS "q"))) .nil)))) B6) U4)))))
  R3))
noncomputable def sZ:Sx:=(.seq V1
  (.seq TH
  (.seq UV
  (.seq T8
  (.seq Qcu
  (.seq WL
  (.seq U5
  (.seq UQ
  (.seq Ta
  (.seq Vc
  (.seq (.loop Fo [8,9] 2 O8 (.seq (.set Fo 10 (.ite Lp Oa Qdc))
  Vb))
  UM)))))))))))
def defs:List DefD:=[⟨3,3,Jdb⟩,⟨1,1,Jgi⟩,⟨1,1,Jgs⟩,⟨3,3,JaW⟩,⟨1,1,JbS⟩,⟨1,1,JbT⟩,⟨1,1,JQ⟩,⟨1,1,yN⟩,⟨1,1,gY⟩,⟨1,1,sS⟩,⟨3,2,rS⟩,⟨1,1,xZ⟩,⟨1,1,qZ⟩,⟨1,1,Jbe⟩,⟨2,2,sY⟩,⟨2,2,JG⟩,⟨2,2,uZ⟩,⟨3,3,xJ⟩,⟨2,2,fS⟩,⟨1,1,JW⟩,⟨2,2,zJ⟩,⟨6,2,Jah⟩,⟨4,2,JaC⟩,⟨4,2,vZ⟩,⟨4,2,qW⟩,⟨2,2,yR⟩,⟨3,2,yJ⟩,⟨1,1,wR⟩,⟨1,1,JbW⟩,⟨3,2,JaF⟩,⟨6,2,nR⟩,⟨5,2,sU⟩,⟨3,2,qS⟩,⟨2,2,yY⟩,⟨2,1,vX⟩,⟨2,2,eZ⟩,⟨3,2,rQ⟩,⟨4,3,jZ⟩,⟨1,1,uX⟩,⟨3,2,JaV⟩,⟨4,3,Jai⟩,⟨2,2,jT⟩,⟨6,3,fZ⟩,⟨2,2,mS⟩,⟨4,3,lZ⟩,⟨6,3,JU⟩,⟨5,3,xS⟩,⟨2,2,JaB⟩,⟨7,3,pZ⟩,⟨8,3,kZ⟩,⟨5,2,JbV⟩,⟨11,2,sZ⟩]
def Jrk(U:Nat)(b g f:D):runD defs AI 0 Da=Jb (exD AJ Jdb Qd):=rfl
def Jwl(U:Nat)(b:D):runD defs AI 1 [b]=Jb (exD AJ Jgi [So b]):=rfl
def Jur(U:Nat)(b:D):runD defs AI 2 [b]=Jb (exD AJ Jgs [So b]):=rfl
def JeP(U:Nat)(b g f:D):runD defs AI 3 Da=Jb (exD AJ JaW Qd):=rfl
def JhT(U:Nat)(b:D):runD defs AI 4 [b]=Jb (exD AJ JbS [So b]):=rfl
def JhG(U:Nat)(b:D):runD defs AI 5 [b]=Jb (exD AJ JbT [So b]):=rfl
def Jcg(U:Nat)(b:D):runD defs AI 6 [b]=Jb (exD AJ JQ [So b]):=rfl
def uY(U:Nat)(b:D):runD defs AI 7 [b]=Jb (exD AJ yN [So b]):=rfl
def Jok(U:Nat)(b:D):runD defs AI 8 [b]=Jb (exD AJ gY [So b]):=rfl
def Jdg(U:Nat)(b:D):runD defs AI 9 [b]=Jb (exD AJ sS [So b]):=rfl
def Jdj(U:Nat)(b f:D):runD defs AI 10 [b,f]=Jb (exD AJ rS G0):=rfl
def JgB(U:Nat)(b:D):runD defs AI 11 [b]=Jb (exD AJ xZ [So b]):=rfl
def JkE(U:Nat)(b:D):runD defs AI 12 [b]=Jb (exD AJ qZ [So b]):=rfl
def JmZ(U:Nat)(b:D):runD defs AI 13 [b]=Jb (exD AJ Jbe [So b]):=rfl
def Jmv(U:Nat)(b f:D):runD defs AI 14 [b,f]=Jb (exD AJ sY Dc):=rfl
def JbN(U:Nat)(b f:D):runD defs AI 15 [b,f]=Jb (exD AJ JG Dc):=rfl
def JgK(U:Nat)(b f:D):runD defs AI 16 [b,f]=Jb (exD AJ uZ Dc):=rfl
def pS(U:Nat)(b g f:D):runD defs AI 17 Da=Jb (exD AJ xJ Qd):=rfl
def Jht(U:Nat)(b f:D):runD defs AI 18 [b,f]=Jb (exD AJ fS Dc):=rfl
def JcS(U:Nat)(b:D):runD defs AI 19 [b]=Jb (exD AJ JW [So b]):=rfl
def lS(U:Nat)(b f:D):runD defs AI 20 [b,f]=Jb (exD AJ zJ Dc):=rfl
def Jdn(U:Nat)(b f:D):runD defs AI 21 [b,f]=Jb (exD AJ Jah Ol):=rfl
def Jes(U:Nat)(b f:D):runD defs AI 22 [b,f]=Jb (exD AJ JaC Qm):=rfl
def Jhp(U:Nat)(b f:D):runD defs AI 23 [b,f]=Jb (exD AJ vZ Qm):=rfl
def Jug(U:Nat)(b f:D):runD defs AI 24 [b,f]=Jb (exD AJ qW Qm):=rfl
def Jgo(U:Nat)(b f:D):runD defs AI 25 [b,f]=Jb (exD AJ yR Dc):=rfl
def nS(U:Nat)(b f:D):runD defs AI 26 [b,f]=Jb (exD AJ yJ G0):=rfl
def JgE(U:Nat)(b:D):runD defs AI 27 [b]=Jb (exD AJ wR [So b]):=rfl
def JhV(U:Nat)(b:D):runD defs AI 28 [b]=Jb (exD AJ JbW [So b]):=rfl
def Jep(U:Nat)(b f:D):runD defs AI 29 [b,f]=Jb (exD AJ JaF G0):=rfl
def JjL(U:Nat)(b f:D):runD defs AI 30 [b,f]=Jb (exD AJ nR Ol):=rfl
def r_way(U:Nat)(b f:D):runD defs AI 31 [b,f]=Jb (exD AJ sU MQ):=rfl
def JeD(U:Nat)(b f:D):runD defs AI 32 [b,f]=Jb (exD AJ qS G0):=rfl
def JhJ(U:Nat)(b f:D):runD defs AI 33 [b,f]=Jb (exD AJ yY Dc):=rfl
def Jpc(U:Nat)(b:D):runD defs AI 34 [b]=Jb (exD AJ vX [So b,No]):=rfl
def JkA(U:Nat)(b f:D):runD defs AI 35 [b,f]=Jb (exD AJ eZ Dc):=rfl
def JmR(U:Nat)(b f:D):runD defs AI 36 [b,f]=Jb (exD AJ rQ G0):=rfl
def JjV(U:Nat)(b g f:D):runD defs AI 37 Da=Jb (exD AJ jZ QQ):=rfl
def Jpp(U:Nat)(b:D):runD defs AI 38 [b]=Jb (exD AJ uX [So b]):=rfl
def Jfe(U:Nat)(b f:D):runD defs AI 39 [b,f]=Jb (exD AJ JaV G0):=rfl
def Jdm(U:Nat)(b g f:D):runD defs AI 40 Da=Jb (exD AJ Jai QQ):=rfl
def JdU(U:Nat)(b f:D):runD defs AI 41 [b,f]=Jb (exD AJ jT Dc):=rfl
def JjW(U:Nat)(b g f:D):runD defs AI 42 Da=Jb (exD AJ fZ O5):=rfl
def JeH(U:Nat)(b f:D):runD defs AI 43 [b,f]=Jb (exD AJ mS Dc):=rfl
def JkK(U:Nat)(b g f:D):runD defs AI 44 Da=Jb (exD AJ lZ QQ):=rfl
def zN(U:Nat)(b g f:D):runD defs AI 45 Da=Jb (exD AJ JU O5):=rfl
def Jcs(U:Nat)(b g f:D):runD defs AI 46 Da=Jb (exD AJ xS [So b,So g,So f,No,No]):=rfl
def Jen(U:Nat)(b f:D):runD defs AI 47 [b,f]=Jb (exD AJ JaB Dc):=rfl
def Jkb(U:Nat)(b g f:D):runD defs AI 48 Da=Jb (exD AJ pZ [So b,So g,So f,No,No,No,No]):=rfl
def Jki(U:Nat)(b g f:D):runD defs AI 49 Da=Jb (exD AJ kZ [So b,So g,So f,No,No,No,No,No]):=rfl
def Jhw(U:Nat)(b f:D):runD defs AI 50 [b,f]=Jb (exD AJ JbV MQ):=rfl
def JgG(U:Nat)(b f:D):runD defs AI 51 [b,f]=Jb (exD AJ sZ [So b,So f,No,No,No,No,No,No,No,No,No]):=rfl
noncomputable def fT:Bs:=(.seq (.setF E9 AD)
  (.setD FV))
def xP:Bs:=(.seq (.ite (.pur (.bi .isin AD (.comp 0 (.walk Kl) BI DT))) (.raise J4 Dt) G6)
  (.seq (.ite (.pur (.bi .ge (.un .len Kl) Hi)) M6 G6)
  (.eff (.call To 0 0 nsB (.cons (.call 37 (.cons Kl Uy)) .nil)))))
noncomputable def lR:Bs:=(.ret Kl)
noncomputable def yQ:Bs:=(.seq (.loop [2,3] 2 (.walk (.un .asT Kl)) (.seq (.augF GY 1)
  (.seq Pn
  Wf)))
  IC)
def iQ:Bs:=(.seq (.ite (.pur (.bi (.dNi To) AD Os)) (.putF FV AD (.call To 3 0 nsB Dt)) G6)
  (.ret (.bi (.dGet To) Os AD)))
def kQ:Bs:=(.seq (.set 2 (.call To 4 0 nsB Dt))
  (.ret (.ite QdN Dw Q3)))
def bdefs:List DefB:=[⟨2,2,fT⟩,⟨4,4,xP⟩,⟨1,1,lR⟩,⟨5,2,yQ⟩,⟨2,2,iQ⟩,⟨3,2,kQ⟩]
def Jir(U:Nat)(st:D)(b:D):runB defs bdefs AI 0 st [b]=ansB st (exO To AJ GE fT [So st,So b]):=rfl
def Jus(U:Nat)(st:D)(f g b:D):runB defs bdefs AI 1 st [f,g,b]=ansB st (exO To AJ GE xP [So st,So f,So g,So b]):=rfl
def Jon(U:Nat)(st:D):runB defs bdefs AI 2 st []=ansB st (exO To AJ GE lR [So st]):=rfl
def Jtg(U:Nat)(st:D)(b:D):runB defs bdefs AI 3 st [b]=ansB st (exO To AJ GE yQ [So st,So b,No,No,No]):=rfl
def JuH(U:Nat)(st:D)(b:D):runB defs bdefs AI 4 st [b]=ansB st (exO To AJ GE iQ [So st,So b]):=rfl
def Jui(U:Nat)(st:D)(b:D):runB defs bdefs AI 5 st [b]=ansB st (exO To AJ GE kQ [So st,So b,No]):=rfl
noncomputable def Jlb:Bs:=(.lift (.set Fo 1 (.call 50 (.cons Ar (.cons (.con (.int 10)) .nil)))))
noncomputable def rW:Bs:=(.lift (.loop Fo [2] 0 QbT Va))
def vW:Bs:=(.loop [5,6,7] 5 P1 VX)
def iW:Bs:=(.ite (.or (.pur (.un .notT QdO)) (.bi .ne (.call Fo 2 4 nsB .nil) (.pur B6))) (.lift Em) G6)
noncomputable def Jlx:Bs:=(.loop [2] 0 T7 (.seq (.lift Q7)
  Ve))
noncomputable def xW:Bs:=(.lift (.loop Fo [2] 0 QbU (.seq (.set Fo 8 Vh)
  (.seq Wn
  U6))))
noncomputable def JwG:Px:=(.un .tuple (.comp 0 (.walk AD) BI SN))
def RL(U:Ag)(bc:A1)(O:Fm):Prop:=(λO=>∃env2,exO Fo U bc Jlb O=.ok .nx env2/\(λO=>∃env2,exO Fo U bc rW O=.ok .nx env2/\(JwM U 3 4 JwG (λO=>∃env2,exO Fo U bc vW O=.ok .nx env2/\(λO=>∃env2,exO Fo U bc iW O=.ok .nx env2/\(λO=>∃env2,exO Fo U bc Jlx O=.ok .nx env2/\(λO=>∃env2,exO Fo U bc xW O=.ok .nx env2/\(λO=>∃env2,exO Fo U bc Kd O=.ok (.rt Cw) env2) env2) env2) env2) env2)) env2) env2) O
noncomputable abbrev S (x:A5):Str:=oS x
noncomputable abbrev ofN (ns:Be):D:=.lst LM
theorem cell(ns:Be)(k:Int)(o:0<=k):∃v:Int,∀c,runD defs Bo 43 Qd7=.ok (.int v):=by
 obtain⟨k,rfl⟩:=Int.eq_ofNat_of_zero_le o;by_cases h:k<AK
 ·refine⟨ns[k],λc=>?_⟩;have g:atD Ec k=So (.int ns[k]):=by have:=atN Ec k (by simpa using h);rw[this];simp
  rw[JeH,mS,Jo _ _ (p:=To) _ _ (Jd _ _ (x:=.int k) (y:=.int AK) rfl (Jq _ _ (x:=ofN ns) rfl Af) (by rw[o_lt,Zs 'c'])),if_pos rfl];exact Jd _ _ (x:=ofN ns) (y:=.int k) rfl rfl (by rw[zM,g];rfl)
 ·have s:¬((k:Int)<(AK:Int)):=by lia
  by_cases f:ns=[]
  ·subst f;have s:¬((k:Int)<0):=by lia
   have e:op2 .eq (ofN []) GH=.ok Cw:=rfl;refine⟨0,λc=>?_⟩;rfl
  ·have m:0<AK:=by
    cases ns with
    |nil=>exact absurd rfl f
    |cons a t=>simp
   have r:k % AK<AK:=Nat.mod_lt _ m;refine⟨ns[k % AK]*31+k,λc=>?_⟩;have u:((k:Int) % (AK:Int))=((k % AK:Nat):Int):=by lia
   have g:atD Ec ((k:Int) % (AK:Int))=So (.int ns[k % AK]):=by
    rw[u];have:=atN Ec (k % AK) (by simpa using r);rw[this];simp
   have q:D.eqv (.lst Ec) GH=Fo:=by
    cases ns with
    |nil=>exact absurd rfl f
    |cons a t=>rfl
   have j:op2 .eq (.lst Ec) GH=.ok C7:=by
    rw[o_eq _ _ (by simp[D.dep,JpP]) (by simp[D.dep,deps]),q]
   have b:op2 .mod DV (.int AK)=.ok (.int ((k:Int) % (AK:Int))):=by
    have:0<(AK:Int):=by lia
    simp[op2,m]
   rw[JeH,mS,Jo _ _ (p:=Fo) _ _ (Jd _ _ (x:=.int k) (y:=.int AK) rfl (Jq _ _ (x:=ofN ns) rfl Af) (by rw[o_lt,Zt 'c'])),if_neg 'v',Jo _ _ (p:=Fo) _ _ (Jd _ _ (x:=ofN ns) (y:=.lst []) rfl rfl j),if_neg 'v',JJ];exact Jd _ _ (Jd _ _ (y:=.int 31) (Jd _ _ (x:=ofN ns) rfl (Jd _ _ (x:=.int k) (y:=.int AK) rfl (Jq _ _ (x:=ofN ns) rfl Af) b) (by rw[zM,g];rfl)) rfl (lF _ _ (by rw[show smallI 31=To from by decide,Bool.or_true]))) rfl DD
theorem pick(ns:Be)(k m:Int)(g:0<=k)(b:0<m):∃r:Nat,(r:Int)<m/\∀c,runD defs AW 44 [ofN ns,.int k,.int m]=.ok Dl:=by
 obtain⟨v,h⟩:=cell ns k g;let d:Int:=(v+6151*AV)*40692 % 2147483399;have F:0<=d:=Int.emod_nonneg _ AO;have C:d<2147483399:=Int.emod_lt_of_pos _ AO;have f:0<=(d*d+d / 31) % 2147483629 % m:=Int.emod_nonneg _ (Int.ne_of_gt b);have q:(d*d+d / 31) % 2147483629 % m<m:=Int.emod_lt_of_pos _ b;refine⟨((d*d+d / 31) % 2147483629 % m).toNat,by rw[Int.toNat_of_nonneg f];exact q,λc=>?_⟩;have A:smallI d=To:=by simp only[smallI,Zc,Zp];lia
 rw[Int.toNat_of_nonneg f];have E:(v+6151*AV)*40692 % 2147483399=d:=rfl;have s:smallI 6151=To:=by decide
 have o:smallI 40692=To:=by decide
 have u:∀i:Int,op2 .mod AS Qao=.ok (.int (i % 2147483399)):=λi=>by simp[op2]
 have z:∀i:Int,op2 .mod AS Qap=.ok (.int (i % 2147483629)):=λi=>by simp[op2]
 have j:∀i:Int,op2 .mod AS (.int m)=.ok (.int (i % m)):=λi=>by simp[op2,b]
 have B:∀i:Int,op2 .fdiv AS QaP=.ok (.int (i / 31)):=λi=>by simp[op2]
 rw[JkK,lZ,nA _ _ (d:=.int d) _ (Jd _ _ (y:=.int 2147483399) (Jd _ _ (y:=.int 40692) (Jd _ _ (Ja _ _ (J:=Qd7) rfl (h c)) (Jd _ _ (x:=.int 6151) rfl (Jd _ _ (x:=.int k) (y:=.int 1) rfl rfl DD) (lF _ _ (by rw[s,zF]))) DD) rfl (lF _ _ (by rw[o,Bool.or_true]))) rfl (u _)),JJ];exact Jd _ _ (y:=.int m) (Jd _ _ (y:=.int 2147483629) (Jd _ _ (Jd _ _ (x:=.int d) (y:=.int d) rfl rfl (lF _ _ (by rw[A,zF]))) (Jd _ _ (x:=.int d) (y:=.int 31) rfl rfl (B d)) DD) rfl (z _)) rfl (j _)
def JgI(a b:A5):oS a=oS b↔a=b:=by
 constructor
 ·intro h;rw[Str.ofString_eq_toList,Str.ofString_eq_toList]at h;have j:=xB (λs:Str=>s.cps.toList) h;simp only[List.toList_toArray]at j;have m:a.toList=b.toList:=by refine List.map_inj_right (f:=Char.toNat) ?_|>.mp j;intro x y g;exact Char.ext (UInt32.toNat_inj.mp g)
  exact String.toList_inj.mp m
 ·rintro rfl;rfl
@[simp]def sb(a b:A5):(oS a==oS b)=decide (a=b):=by
 by_cases h:a=b
 ·subst h;simp
 ·have:oS a≠oS b:=λe=>h ((JgI a b).mp e);simp[h,this]
noncomputable def ws9:List Str:=[S "a",S "b",S "7",S "0",S "new",S "zz",S "55",S "01",S "-"]
noncomputable def pool:List Str:=[S "a",S "b",S "7",S "0"]
def JmF:∀w∈pool,w∈ws9:=by decide+kernel
inductive Part where
 |word (x:Str)|one (n:Str) (ws:List Str)|any (n:Str)|number (n:Str)|rest (n:Str)
variable{ps gs A made qs:AB}{p g:Part}
noncomputable def Part.d:Part->D
 |.word x=>.tup OK
 |.one n ws=>.tup Tz
 |.any n=>.tup [.str (S "any"),.str n]
 |.number n=>.tup [.str (S "number"),.str n]
 |.rest n=>.tup [.str KM,.str n]
def Part.ok:Part->Prop
 |.word x=>x∈ws9
 |.one _ b=>(∀w∈b,w∈ws9)/\b≠[]
 |_=>True
def Part.srt:Part->Prop
 |.word x=>x∈pool
 |.one _ b=>(b.Pairwise LtS/\∀w∈b,w∈pool)/\b.length<=3
 |_=>True
noncomputable def Part.name:Part->Str
 |.word x=>x
 |.one n _=>n
 |.any n=>n
 |.number n=>n
 |.rest n=>n
noncomputable def Part.isWord:Part->Bool
 |.word _=>To
 |_=>Fo
noncomputable def Part.hole (p:Part):List Str:=if p.isWord then[]else[p.name]
def Jk (ps:AB):List Str:=ps.flatMap Part.hole
noncomputable def Part.isRest:Part->Bool
 |.rest _=>To
 |_=>Fo
theorem mZ:∀ws:List Str,rD DS=So ws
 |[]=>rfl
 |w::ws=>by simp[rD,mZ ws]
def JvU(ws:Ad)(h:Cb<60):op1 .sset (.lst DS)=.ok (.lst ((jA ws).map .str)):=by simp[op1,mZ,h]
theorem Jny(r:Nat)(h:(r:Int)<4):∃w∈pool,atD SS (r:Int)=So Cq:=by
 match r,h with
 |0,_=>exact⟨S "a",by decide+kernel,rfl⟩
 |1,_=>exact⟨S "b",by decide+kernel,rfl⟩
 |2,_=>exact⟨S "7",by decide+kernel,rfl⟩
 |3,_=>exact⟨S "0",by decide+kernel,rfl⟩
 |n+4,h=>lia
theorem part(ns:Be)(at_:Int)(E:0<=at_)(name:Str):∃p:Part,p.ok/\p.isRest=Fo/\p.srt/\p.hole.Sublist [name]/\∀c,runD defs (c+3) 45 [ofN ns,.int at_,.str name]=.ok p.d:=by
 obtain⟨r,M,h⟩:=pick ns at_ 8 E AO;by_cases H:(r:Int)<4
 ·obtain⟨q,v,eq⟩:=pick ns (at_+1) 4 Ae AO;obtain⟨w,b,y⟩:=Jny q v;refine⟨.word w,JmF w b,rfl,b,by simp[Part.hole,Part.isWord],λc=>?_⟩;simp[zN,JU,h,H,eq,y,lD,Part.d]
 ·by_cases F:r=4
  ·subst F;obtain⟨m,N,I⟩:=pick ns (at_+1) 3 Ae AO;have z:∀k:Nat,∃w,w∈pool/\∃q:Nat,(∀c,runD defs AW 44 [ofN ns,.int (at_+2+k),.int 4]=.ok (.int q))/\atD SS (q:Int)=So Cq:=by intro k;obtain⟨q,v,eq⟩:=pick ns (at_+2+k) 4 Ae AO;obtain⟨w,b,y⟩:=Jny q v;exact⟨w,b,q,eq,y⟩
   obtain⟨f,u⟩:=qO.mp z;have s:∀c x,evD DG Vd
     [So Bq,So Cy,So (.str name),So (.lst SS),x,No]=.ok (.lst (((List.range (1+m)).map f).map .str)):=by
    intro c x;rw[uD];refine kW _ _ _ _ (1+m) ?_ Ae (λk=>.str (f k)) ?_
    ·simp[I,Int.natCast_add]
    ·intro k z
     obtain⟨_,q,G,C⟩:=u k;simp[G,C]
   have j:((List.range (1+m)).map f).length<60:=by simp;lia
   have B:=JvU _ j;refine⟨.one name (jA ((List.range (1+m)).map f)),FD,rfl,⟨⟨jS _,λw b=>by
    rw[wH,ZE]at b;obtain⟨k,_,rfl⟩:=b;exact(u k).1⟩,ZM (Jlj _) (by simp;lia)⟩,by simp[Part.hole,Part.isWord,Part.name],λc=>?_⟩
   ·intro w b;rw[wH,ZE]at b;obtain⟨k,_,rfl⟩:=b;exact JmF _ (u k).1
   ·intro L;have:f 0∈jA ((List.range (1+m)).map f):=by rw[wH,ZE];exact⟨0,by rw[List.mem_range];lia,rfl⟩
    rw[L]at this;simp at this
   ·have s:=s c;generalize (List.range (1+m)).map f=ws at B s⊢;simp[zN,JU,h,s,B,lD,Part.d]
  ·have o:r=5\/r=6\/r=7:=by lia
   rcases o with rfl|rfl|rfl
   ·exact⟨.any name,trivial,rfl,trivial,by simp[Part.hole,Part.isWord,Part.name],λc=>by simp[zN,JU,h,lD,Part.d]⟩
   ·exact⟨.number name,trivial,rfl,trivial,by simp[Part.hole,Part.isWord,Part.name],λc=>by simp[zN,JU,h,lD,Part.d]⟩
   ·exact⟨.any name,trivial,rfl,trivial,by simp[Part.hole,Part.isWord,Part.name],λc=>by simp[zN,JU,h,lD,Part.d]⟩
noncomputable def Jm:List Part->Prop
 |[]=>True
 |p::ps=>(Xf=To->ps=[])/\Jm ps
def Jpe(p:Part):p.d.imm=To:=by cases p<;>simp[Part.d,D.imm,imms,JoC]
def wN(ps:AB):imms CO=To:=by
 induction ps with
 |nil=>rfl
 |cons p ps b=>simp[imms,Jpe,b]
def kY(p:Part):p.d.dep<=2:=by cases p<;>simp[Part.d,D.dep,deps,xH]
theorem zR(ps:AB):deps CO<=2:=by
 induction ps with
 |nil=>simp[deps]
 |cons p ps b=>have:=kY p;simp only[Zg,deps];lia
def Jdf(l:AB)(h:∀p∈l,Xf=Fo)(n:Str):Jm (l++[.rest n]):=by
 induction l with
 |nil=>simp[Jm]
 |cons p l f=>refine⟨λb=>?_,f λp b=>h p (by simp[b])⟩;rw[h p 'j']at b;cases b
def JdN(l:AB)(h:∀p∈l,Xf=Fo):Jm l:=by
 induction l with
 |nil=>trivial
 |cons p l f=>refine⟨λb=>?_,f λp b=>h p (by simp[b])⟩;rw[h p 'j']at b;cases b
noncomputable def names4:List Str:=[S "y",S "id",S "z",S "x"]
noncomputable def nm4 (k:Nat):Str:=names4.getD k (S "")
theorem JoM(k:Nat)(h:k<4):atD Wi (k:Int)=So (.str (nm4 k)):=by
 match k,h with
 |0,_=>rfl
 |1,_=>rfl
 |2,_=>rfl
 |3,_=>rfl
 |n+4,h=>lia
theorem JfU(f:Nat->Part)(b:∀k,(f k).hole.Sublist [nm4 k]):∀m,m<=4->(Jk ('ǉ'.map f)).Sublist (names4.take m)
 |0,_=>by simp[Jk]
 |m+1,h=>by
  have e:names4.take (m+1)=names4.take m++[nm4 m]:=by
   match m,h with
   |0,_=>rfl
   |1,_=>rfl
   |2,_=>rfl
   |3,_=>rfl
   |n+4,h=>lia
  rw[e,List.range_succ,lB];simp only[Jk,List.flatMap_append,Zg,vD,vC,List.flatMap_nil,uE];exact(JfU f b m Ae).append (b m)
noncomputable def names5:List Str:=[S "y",S "id",S "z",S "x",S "r"]
theorem patQ(ns:Be)(at_:Int)(H:0<=at_)(M:Nat)(Z:M<=4):∃(qs:AB)(b:Bool),(∀p∈qs,p.ok/\p.isRest=Fo/\p.srt)/\(Jk qs).Sublist names4/\qs.length<=M/\∀c,runD defs A6 46 [ofN ns,.int at_,.int M]=.ok (.tup ((qs++if b then[Part.rest (S "r")]else[]).map Xd)):=by
 obtain⟨m,Y,F⟩:=pick ns at_ ((M:Int)+1) H Ae;have Y:m<=M:=by lia
 have r:∀k:Nat,∃p:Part,p.ok/\p.isRest=Fo/\p.srt/\p.hole.Sublist [nm4 k]/\(k<4->∀c,runD defs (c+3) 45 [ofN ns,.int (at_+2+5*k),.str (nm4 k)]=.ok p.d):=by intro k;obtain⟨p,N,P,C,U,L⟩:=part ns (at_+2+5*k) Ae (nm4 k);exact⟨p,N,P,C,U,λ_=>L⟩
 obtain⟨f,h⟩:=qO.mp r;have W:smallI 5=To:=by decide
 have j:∀c,evD B7 Vg
   [So Bq,So Cy,So (.int M),So (.lst Wi),No]=.ok (.lst (('ǉ'.map f).map Xd)):=by
  intro c;rw[uD];refine kW _ _ _ _ m ?_ Ae (λk=>(f k).d) ?_
  ·simp[F]
  ·intro k r
   obtain⟨_,_,_,_,E⟩:=h k;have G:=E Ae c;simp[JoM k 'c',G,W]
 have y:∀p∈(List.range m).map f,p.ok/\p.isRest=Fo/\p.srt:=by intro p B;rw[ZE]at B;obtain⟨k,_,rfl⟩:=B;exact⟨(h k).1,(h k).2.1,(h k).2.2.1⟩
 have s:(Jk ('ǉ'.map f)).Sublist names4:=(JfU f (λk=>(h k).2.2.2.1) m Ae).trans 'ʙ';have z:('ǉ'.map f).length<=M:=by simp;lia
 generalize 'ǉ'.map f=qs at j y z s;have o:qs.length<16777216:=by lia
 have v:=wN qs;have I:=Jpx ns;obtain⟨q,hq,eq⟩:=pick ns (at_+1) 4 Ae AO;refine⟨qs,decide (q=0),y,s,z,λc=>?_⟩;by_cases u:q=0
 ·subst u;simp[Jcs,xS,j,eq,v,I,lD,o,D.imm,imms,Part.d]
 ·have X:((q:Int)==0)=Fo:=by
   rw[ZC];lia
  simp[Jcs,xS,j,eq,v,X,u,lD]
theorem patS(ns:Be)(h:Int)(u:0<=h)(M:Nat)(s:M<=4):∃ps:List Part,(∀p∈ps,p.ok)/\Jm ps/\ps.length<=M+1/\(∀p∈ps,p.srt)/\(Jk ps).Sublist names5/\((∀p∈ps,Xf=Fo)->Aj<=M)/\∀c,runD defs A6 46 [ofN ns,.int h,.int M]=.ok FS:=by
 obtain⟨qs,b,j,m,o,r⟩:=patQ ns h u M s;refine⟨_,?_,?_,?_,?_,?_,?_,r⟩<;>cases b
 ·simpa using λp f=>(j p f).1
 ·simp only[if_true];intro p f;rcases ZS.mp f with f|f
  ·exact(j p f).1
  ·rw[Zx.mp f];trivial
 ·simpa using JdN _ λp f=>(j p f).2.1
 ·exact Jdf _ (λp f=>(j p f).2.1) _
 ·simp;lia
 ·simp;lia
 ·simpa using λp f=>(j p f).2.2
 ·simp only[if_true];intro p f;rcases ZS.mp f with f|f
  ·exact(j p f).2.2
  ·rw[Zx.mp f];trivial
 ·simp only[Zh,Zo,uE];exact m.trans (List.sublist_append_left names4 [S "r"])
 ·simp only[if_true,Jk,List.flatMap_append];exact m.append (List.Sublist.refl [S "r"])
 ·simpa using λ_=>o
 ·exactλq=>absurd (q (.rest (S "r")) Af) (by simp[Part.isRest])
def pat(ns:Be)(b:Int)(j:0<=b)(M:Nat)(f:M<=4):∃ps:List Part,(∀p∈ps,p.ok)/\Jm ps/\ps.length<=M+1/\(∀p∈ps,p.srt)/\(Jk ps).Sublist names5/\∀c,runD defs A6 46 [ofN ns,.int b,.int M]=.ok FS:=
 let⟨ps,o,s,q,r,h,_,m⟩:=patS ns b j M f
 ⟨ps,o,s,q,r,h,m⟩
theorem JjE(ns:Be)(b:Int)(m:0<=b):∃w:Str,w∈ws9/\∀c,runD defs (c+3) 47 Qd8=.ok Cq:=by
 obtain⟨r,j,f⟩:=pick ns b 9 m AO;have:∃w:Str,w∈ws9/\atD [D.str (S "a"),D.str (S "b"),D.str (S "7"),D.str (S "0"),D.str (S "new"),D.str (S "zz"),D.str (S "55"),D.str (S "01"),D.str (S "-")] (r:Int)=So Cq:=by
  match r,j with
  |0,_=>exact⟨S "a",by decide+kernel,rfl⟩
  |1,_=>exact⟨S "b",by decide+kernel,rfl⟩
  |2,_=>exact⟨S "7",by decide+kernel,rfl⟩
  |3,_=>exact⟨S "0",by decide+kernel,rfl⟩
  |4,_=>exact⟨S "new",by decide+kernel,rfl⟩
  |5,_=>exact⟨S "zz",by decide+kernel,rfl⟩
  |6,_=>exact⟨S "55",by decide+kernel,rfl⟩
  |7,_=>exact⟨S "01",by decide+kernel,rfl⟩
  |8,_=>exact⟨S "-",by decide+kernel,rfl⟩
  |n+9,h=>lia
 obtain⟨w,q,o⟩:=this;exact⟨w,q,λc=>by simp[Jen,JaB,f,o,lD]⟩
noncomputable def JnO:Px:=Vq
noncomputable def JkL:Px:=Vo
def uJ:Sx:=(.ite (.bi .eq DO F9) (.app Fo 3 M5) (.ite (.bi .eq DO LO) (.app Fo 3 JnO) (.app Fo 3 JkL)))
def nearTail:Sx:=(.ite (.bi .eq DO E5) Vm (.ite Vi Rg uJ))
noncomputable def tN:Sx:=(.seq Qw
  Vf)
def Jtj:tN=.seq Qw nearTail:=rfl
noncomputable def Part.kind:Part->Str
 |.word _=>S "word"
 |.one _ _=>S "one"
 |.any _=>S "any"
 |.number _=>S "number"
 |.rest _=>S "rest"
def eW(U:Ag)(O:Fm)(i:Nat)(p:Part)(h:O[i]? =So Yz)(s:Str):evD U NI O=.ok (.bl (Xq==s)):=by refine Jd _ _ (x:=.str Xq) (Jd _ _ (x:=p.d) (y:=.int 0) (by rw[fJ,h]) rfl ?_) rfl WA;cases p<;>rfl
def jK(p:Part):(Xq==S "rest")=p.isRest:=match p with
 |.word _=>(by decide+kernel:(S "word"==S "rest")=Fo)
 |.one _ _=>(by decide+kernel:(S "one"==S "rest")=Fo)
 |.any _=>(by decide+kernel:(S "any"==S "rest")=Fo)
 |.number _=>(by decide+kernel:(S "number"==S "rest")=Fo)
 |.rest _=>(by decide+kernel:(S "rest"==S "rest")=To)
theorem Jll(ns:Be)(at_:Int)(h0:0<=at_)(k:Nat)(p:Part)(X:p.ok):∃a:List Str,(∀w∈a,w∈ws9)/\a.length<=1+p.isRest.toNat/\∀c(made:Ad)P G,P.imm=To->AL<=1000-2->
  ∃y6,exD B7 tN [So Bq,So Cy,So P,So MK,So DV,So p.d,G]=
   .ok (.nx,[So Bq,So Cy,So P,So (.lst ((made++a).map .str)),So DV,So p.d,y6]):=by
 obtain⟨r,hr,er⟩:=pick ns (at_+3*k) 9 Ae AO;obtain⟨w,H,ew⟩:=JjE ns (at_+3*k+1) Ae;have B:op2 .mul (.int 3) DV=.ok (.int (3*k)):=by simp only[op2,show smallI 3=To by decide,zF,if_true]
 have I:∀(c:Nat)(P L o:Bl),evD B7 KI Sy=.ok (.int (at_+3*k)):=λc P L o=>Jd _ _ rfl (Jd _ _ rfl rfl B) rfl;have hE:∀(c:Nat)(P L o:Bl),evD B7 Vt Sy=.ok Dl:=λc P L o=>
  Ja _ _ (J:=[ofN ns,.int (at_+3*k),.int 9]) (Jc _ _ rfl (Jc _ _ (I c P L o) rfl)) (er Bo)
 have z:∀(c:Nat)(P L o:Bl)(s:Str),evD B7 (.bi .eq DO Ks) Sy=.ok (.bl (Xq==s)):=λc P L o s=>eW _ _ 5 p rfl s;have b:∀(c:Nat)(P:D)(made:Ad)(o:Bl),exD B7 tN [So Bq,So Cy,So P,So MK,So DV,So p.d,o]=exD B7 nearTail DQ:=λc P made o=>by rw[Jtj,dH _ _ _ (hE c _ _ _)];rfl
 have one:∀(c:Nat)(P:D)(made:Ad)(e:Px)(v:Str),AL<=1000-2->evD B7 e DQ=.ok (.str v)->exD B7 QdP DQ=.ok (.nx,[So Bq,So Cy,So P,So (.lst ((made++[v]).map .str)),So DV,So p.d,So Dl]):=λc P made e v C he=>by rw[qJ _ _ (i:=3) (J:=made.map .str) rfl he (by rw[Ze];lia),lB];rfl
 cases W:p.isRest with
 |true=>
  obtain⟨m,hm,em⟩:=pick ns (at_+39) 3 Ae AO;have hk:∀j:Nat,∃w:Str,w∈ws9/\∀c,runD defs (c+3) 47 [ofN ns,.int (at_+40+j)]=.ok Cq:=λj=>JjE ns _ Ae;obtain⟨f,Z⟩:=qO.mp hk;refine⟨'ǉ'.map f,?_,by rw[Ze,uK];show m<=2;lia,?_⟩
  ·intro w H;rw[ZE]at H;obtain⟨j,_,rfl⟩:=H;exact(Z j).1
  ·intro c made P G Y C;refine Qc;have hc:=kW B7 DQ Vw Vy m
    (Ja _ _ (J:=[ofN ns,.int (at_+39),.int 3]) rfl (em Bo)) Ae (λj=>.str (f j)) λj hj=>Ja _ _ (J:=[ofN ns,.int (at_+40+j)]) rfl ((Z j).2 c)
   rw[b,nearTail,n_if _ _ _ _ 'Ǡ',jK,W,if_pos rfl];rw[Jlg _ _ (i:=3) (J:=made.map .str) (es:='ǉ'.map λj=>.str (f j)) rfl (by rw[nH,e_un,hc];rfl) (by rw[Ze,Ze,uK];lia)];rw[lB,uD];rfl
 |false=>
  have U:(Xq==S "rest")=Fo:=by rw[jK,W]
  have F:∀(c:Nat)(P:D)(made:Ad),exD B7 nearTail DQ=if((r:Int)==0)||(Xq==S "any")then exD B7 Rg DQ else exD B7 uJ DQ:=λc P made=>by rw[nearTail,n_if _ _ _ _ 'Ǡ',U,if_neg ZH];exact n_if _ _ _ _ (mD _ _ N9 λ_=>z c _ _ _ _)
  cases M:(((r:Int)==0)||(Xq==S "any"))with
  |true=>refine⟨[w],by simpa using H,Nat.le_add_right 1 _,λc made P G Y C=>Qc⟩;rw[b,F,M,if_pos rfl];exact one c P made _ w C (Ja _ _ (J:=[ofN ns,.int (at_+3*k+1)]) TF (ew c))
  |false=>
   have u:∃(v:Str)(e:Px),v∈ws9/\∀(c:Nat)(P:D)(made:Ad),exD B7 uJ DQ=exD B7 QdP DQ/\evD B7 e DQ=.ok (.str v):=by
    obtain⟨q,E,eq⟩:=pick ns (at_+3*k+2) 3 Ae AO;cases p with
    |rest n=>cases W
    |any n=>rw[ZF]at M;exact absurd M.2 (by decide+kernel:¬((S "any"==S "any")=Fo))
    |word x=>refine⟨x,.bi .idx Gk Cv,X,λc P made=>⟨?_,rfl⟩⟩;rw[uJ,n_if _ _ _ _ 'Ǡ'];exact if_pos (by decide+kernel:(S "word"==S "word")=To)
    |number n=>
     have:∃w:Str,w∈ws9/\atD VH (q:Int)=So Cq:=by
      match q,E with
      |0,_=>exact⟨S "7",by decide+kernel,rfl⟩
      |1,_=>exact⟨S "0",by decide+kernel,rfl⟩
      |2,_=>exact⟨S "55",by decide+kernel,rfl⟩
      |n+3,h=>lia
     obtain⟨v,N,ev⟩:=this;refine⟨v,JnO,N,λc P made=>FD⟩
     ·rw[uJ,n_if _ _ _ _ 'Ǡ'];refine(if_neg (by decide+kernel:¬((S "number"==S "word")=To))).trans ?_;rw[n_if _ _ _ _ 'Ǡ'];exact if_pos (by decide+kernel:(S "number"==S "number")=To)
     ·exact Jd _ _ (x:=.lst VH) (y:=.int q) rfl (Ja _ _ (J:=[ofN ns,.int (at_+3*k+2),.int 3]) TF (eq Bo)) (by simp only[op2,ev];rfl)
    |one n ws=>
     have hn:0<Cb:=List.length_pos_iff.mpr X.2;obtain⟨q,E,eq⟩:=pick ns (at_+3*k+2) Cb Ae Ae;have E:q<Cb:=by lia
     have ev:atD 'Ɂ' (q:Int)=So (.str ws[q]):=by rw[atN 'Ɂ' q (by rw[Ze];exact E),List.getElem_map]
     have h2:∀(c:Nat)(P L o:Bl),evD B7 Rl [So Bq,So Cy,P,L,So DV,So (Part.d (.one n ws)),o]=.ok D6:=λ_ _ _ _=>rfl;refine⟨ws[q],JkL,X.1 _ (oK E),λc P made=>FD⟩
     ·rw[uJ,n_if _ _ _ _ 'Ǡ'];refine(if_neg (by decide+kernel:¬((S "one"==S "word")=To))).trans ?_;rw[n_if _ _ _ _ 'Ǡ'];exact if_neg (by decide+kernel:¬((S "one"==S "number")=To))
     ·exact Jd _ _ (x:=.tup DS) (y:=.int q) (h2 c _ _ _) (Ja _ _ (J:=[ofN ns,.int (at_+3*k+2),.int Cb]) (Jc _ _ rfl (Jc _ _ Wz (Jc _ _ (Jq _ _ (h2 c _ _ _) (by simp only[op1,Ze])) rfl))) (eq Bo)) (by simp only[op2,ev];rfl)
   obtain⟨v,e,N,u⟩:=u;refine⟨[v],by simpa using N,Nat.le_add_right 1 _,λc made P G Y C=>Qc⟩;rw[b,F,M,if_neg ZH,(u c P made).1];exact one c P made e v C (u c P made).2
theorem Jhq(ns:Be)(at_:Int)(z:0<=at_):∀(ps:AB)(q:∀p∈ps,p.ok)(k:Nat),∃a:List Str,(∀w∈a,w∈ws9)/\a.length<=Aj+ps.countP XM/\∀c(made:Ad)P o m f,P.imm=To->AL+2*Aj<=1000->
  ∃L N r,forL [4,5] 2 (exD B7 tN) (Jl k CO) [So Bq,So Cy,So P,So MK,o,m,f]=
   .ok (.nx,[So Bq,So Cy,So P,So (.lst ((made++a).map .str)),L,N,r])
 |[],q,k=>⟨[],by simp,by simp,λc made P o m f u h=>⟨o,m,f,by simp[Jl,forL]⟩⟩
 |p::ps,q,k=>by
  obtain⟨a,F,y,s⟩:=Jll ns at_ z k p (q p Af)
  obtain⟨b,U,W,j⟩:=Jhq ns at_ z ps (λp h=>q p (by simp[h])) AV
  refine⟨a++b,?_,by cases v:p.isRest<;>simp[v]at y⊢<;>lia,?_⟩
  ·intro w B
   rw[ZS]at B
   exact B.elim (F w) (U w)
  ·intro c made P o m f u I
   have M:a.length<=2:=by cases v:p.isRest<;>simp[v]at y<;>lia
   have G:AL+2*Aj+2<=1000:=by
    rw[Zl]at I;lia
   obtain⟨r,s⟩:=s c made P f u Ae;obtain⟨E,C,H,j⟩:=j c (made++a) P Bu Yz r u (by rw[Zy];lia);refine⟨E,C,H,?_⟩;rw[fC]at j;simp only[Zg,Jl,forL,Jv,n25,n35,Zo];simp only[Zl,jD,jI,Nat.reduceAdd,Nat.reduceEqDiff,Zo,if_true,Rs.bo,Zg,vD,Jt,List.set,s,j]
theorem Jjz:∀ps:List Part,Jm ps->ps.countP XM<=1
 |[],_=>by simp
 |p::ps,h=>by
  have f:=Jjz ps h.2
  cases b:p.isRest with
  |false=>simpa[b]using f
  |true=>rw[h.1 b];simp[b]
theorem near(ns:Be)(b:Int)(m:0<=b)(ps:AB)(r:∀p∈ps,p.ok)(y:Aj<=5)(o:Jm ps):∃a:List Str,(∀w∈a,w∈ws9)/\a.length<=6/\∀c,runD defs A6 48 [ofN ns,.int b,.tup CO]=.ok IB:=by
 obtain⟨a,j,v,e⟩:=Jhq ns b m ps r 0;have:=Jjz ps o;refine⟨a,j,by lia,λc=>?_⟩;obtain⟨z,B,u,e⟩:=e c [] FS No No No (by simpa[D.imm]using wN ps) (by simp;lia);have f:∀(J:Ao)(k:Nat),imms J=To->imms WW=To:=by
  intro J;induction J with
  |nil=>intro k h;rfl
  |cons d J s=>intro k h;simp only[imms,Zc]at h;simp[Jl,imms,D.imm,h.1,s _ h.2]
 have q:pZ=.seq LI (.seq (.loop Fo [4,5] 2 Qcs tN) R4):=rfl;rw[Jkb,q];have f:=f _ 0 (wN ps);simp only[vD,mB]at e;simp[f,lD,imms,e]
def wsA:List Str:=ws9++[S "x0",S "1",S "w"]
def ws_A(h:w∈ws9):w∈wsA:=wL _ h
noncomputable def numW (w:Str):Bool:=w==S "7"||w==S "0"||w==S "55"||w==S "1"
def num (w:Str):Int:=digs w.cps.toList
def wn(w:Str)(b:w∈wsA)(c:Nat):runD defs Bo 13 Gu=.ok (.bl (numW w)):=by simp only[wsA,ws9,yB,mB,Zf,ZA,eA]at b;rcases b with rfl|rfl|rfl|rfl|rfl|rfl|rfl|rfl|rfl|rfl|rfl|rfl<;>rfl
def intsW(w:Str)(b:w∈wsA)(h:numW w=To):op1 .ints Cq=.ok (.int Tq):=by simp only[wsA,ws9,yB,mB,Zf,ZA,eA]at b;rcases b with rfl|rfl|rfl|rfl|rfl|rfl|rfl|rfl|rfl|rfl|rfl|rfl<;>first|rfl|(exact absurd h (by decide+kernel))
def Part.fits (p:Part) (w:Str):Bool:=match p with
 |.word x=>w==x
 |.one _ b=>b.any (λv=>v==w)
 |.number _=>numW w
 |_=>To
def Part.valD (p:Part) (w:Str):D:=match p with
 |.number _=>.int Tq
 |_=>.str w
noncomputable def Part.val (p:Part) (w:Str):List D:=if p.isWord then[]else[.tup NZ]
noncomputable def lawM:List Part->List Str->Option aE
 |[],a=>if a.isEmpty then So []else No
 |p::ps,a=>if p.isRest then So [.tup [.str Xm,.tup Gr]]else match a with
  |[]=>No
  |w::a=>if p.fits w then(lawM ps a).map (p.val w++·)else No
noncomputable def opt:Option (List D)->D
 |none=>.non
 |some b=>.lst b
theorem pU(w:Str)(ws:Ad):op2 .isin Cq D6=.ok (.bl (ws.any λv=>v==w)):=by rw[o_inT _ _ (by rw[xH];lia) 'Ձ'];simp only[yF];rfl
def cut1(x:α)(xs:List α):cutD (x::xs) (So 1) No=xs:=by simp[cutD,six]
def JnM(p:Part):(Xq==S "word")=p.isWord:=match p with
 |.word _=>(by decide+kernel:(S "word"==S "word")=To)
 |.one _ _=>(by decide+kernel:(S "one"==S "word")=Fo)
 |.any _=>(by decide+kernel:(S "any"==S "word")=Fo)
 |.number _=>(by decide+kernel:(S "number"==S "word")=Fo)
 |.rest _=>(by decide+kernel:(S "rest"==S "word")=Fo)
noncomputable def zbl:List Part->List Str->List Bool
 |p::ps,w::a=>p.fits w::zbl ps a
 |_,_=>[]
def lets(p:Part)(w:Str)(b:w∈wsA)(c:Nat):runD defs AW 14 La=.ok (.bl (p.fits w)):=by
 have h:=wn w b c;have k:=λs=>eW CM [So p.d,So Cq] 0 p rfl s;rw[Jmv,sY,Jo _ _ _ _ (k _),Jo _ _ _ _ (k _),Jo _ _ _ _ (k _),JJ];cases p with
 |word x=>rw[if_pos (by simp[Part.kind])];exact Jd _ _ (x:=.str w) (y:=.str x) rfl rfl WA
 |one n ws=>rw[if_neg (by simp[Part.kind]),if_pos (by simp[Part.kind])];exact Jd _ _ (x:=.str w) (y:=.tup DS) rfl rfl (pU w ws)
 |number n=>rw[if_neg (by simp[Part.kind]),if_neg (by simp[Part.kind]),if_pos (by simp[Part.kind])];exact Jp _ _ (x:=.str w) rfl h
 |any n=>rw[if_neg (by simp[Part.kind]),if_neg (by simp[Part.kind]),if_neg (by simp[Part.kind])];rfl
 |rest n=>rw[if_neg (by simp[Part.kind]),if_neg (by simp[Part.kind]),if_neg (by simp[Part.kind])];rfl
noncomputable def Jz (ps:AB):Bool:=match ps.getLast? with
 |some p=>Xf
 |none=>Fo
theorem has_rest(ps:AB)(c:Nat):runD defs Bo 12 Gn=.ok (.bl (Jz ps)):=by
 by_cases b:ps=[]
 ·subst b;rfl
 ·have h:0<Aj:=by
   cases ps with
   |nil=>exact absurd rfl b
   |cons a t=>simp
  have s:atD CO (-1)=So 'Տ'.d:=by
   have r:¬((0:Int)<= -1):=by lia
   have o:-('ͱ'.length:Int)<= -1:=by rw[Ze];exact Int.neg_le_neg (Int.ofNat_le.mpr h)
   have j:(-1+('ͱ'.length:Int)).toNat=Aj-1:=by rw[Ze,Int.add_comm];exact Int.toNat_sub Aj 1
   simp only[atD,ixn,if_neg r,if_pos o,j,Option.bind_some];rw[oB,Zq 'c',List.getLast_eq_getElem];rfl
  have m:Jz ps='Տ'.isRest:=by
   simp only[Jz,List.getLast?_eq_some_getLast b]
  rw[m];have f:evD D9 NK Ii=.ok 'Տ'.d:=Jd _ _ (x:=.tup CO) (y:=.int (-1)) rfl rfl (by rw[gN,s];rfl);generalize ps.getLast b=p at f;rw[JkE,qZ,JJ];exact(Jr _ _ (p:=To) (q:=Xf) (Jd _ _ (x:=.int Aj) (y:=.int 0) (Jq _ _ (x:=.tup CO) rfl Af) rfl (by rw[o_gt,Zs (show(0:Int)<Aj from Int.ofNat_lt.mpr h)])) λ_=>Jd _ _ (x:=.str Xq) (y:=.str KM) (Jd _ _ (y:=.int 0) f rfl (by cases p<;>rfl)) rfl (by rw[JaT,jK])).trans rfl
def fit (ps:AB) (a:Ad):Bool:=if Jz ps then decide ((Aj:Int)-1<=Xe)else(Xe:Int)==Aj
def JsA(ps:AB)(a:Ad)(c:Nat):runD defs AW 15 [.tup CO,.int Xe]=.ok (.bl (fit ps a)):=by have h:=has_rest ps c;cases b:Jz ps<;>rw[b]at h<;>simp[JbN,JG,h,fit,b]
theorem Jjg(c:Nat)(O:Fm):∀(ps:AB)(a:Ad),(∀w∈a,w∈wsA)->
  JO 2 (evD DG BI) (evD DG L3) O 'Ր'=.ok ((zbl ps a).map .bl)
 |[],a,h=>by cases a<;>rfl
 |p::ps,[],h=>rfl
 |p::ps,w::a,h=>by
  have j:=Jjg c O ps a λw b=>h w (by simp[b])
  have f:=lets p w (h w Af) c
  have:=JN 2 (evD DG BI) (evD DG L3) O (.tup La) 'Ր' (new:=[So p.d,So Cq]) (by simp[Jv]) (p:=To) rfl (y:=.bl (p.fits w)) (λ_=>by simp[f]) j
  simpa[zipD,zbl]using this
theorem Joe:∀bs:List Bool,xA (bs.map .bl)=So bs
 |[]=>rfl
 |b::bs=>by simp[xA,Joe bs]
theorem JkO:∀(xs ys:Ao),'乷'.length<=Ac
 |[],ys=>by simp[zipD]
 |x::xs,[]=>by simp[zipD]
 |x::xs,y::ys=>by
  have:=JkO xs ys
  simp only[zipD,Zl]
  lia
theorem wX(ps:AB)(a:Ad)(c:Nat)(f:∀w∈a,w∈wsA)(q:Aj<=1000):runD defs (c+3) 16 Qb3=.ok (.bl (fit ps a&&(zbl ps a).all id)):=by
 have b:=JsA ps a c;have o:=Jjg c [So FS,So IB] ps a f;have h:'Ր'.length<=16777216:=by have:=JkO CO Gr;rw[Ze]at this;lia
 have m:op1 .all (.lst ((zbl ps a).map .bl))=.ok (.bl ((zbl ps a).all id)):=by simp[op1,Joe]
 cases j:fit ps a<;>rw[j]at b<;>simp[JgK,uZ,b,kH,lD,o,h,m]
def JgQ(p:Part)(ps:AB)(h:p.isRest=Fo):Jz (p::ps)=Jz ps:=by
 cases ps with
 |nil=>simp[Jz,h]
 |cons q qs=>simp[Jz,List.getLast?_cons_cons]
theorem uN:∀(ps:AB)(a:Ad),Jm ps->(lawM ps a).isSome=(fit ps a&&(zbl ps a).all id)
 |[],a,h=>by
  cases a with
  |nil=>rfl
  |cons w a=>
   have:¬((Xe:Int)+1=0):=by lia
   simp[lawM,fit,Jz,this]
 |p::ps,a,h=>by
  cases b:p.isRest with
  |true=>
   have m:=h.1 b
   subst m
   have j:p.fits=λ_=>To:=by
    cases p<;>simp_all [Part.isRest];rfl
   cases a<;>simp[lawM,fit,Jz,b,zbl,j]<;>lia
  |false=>
   cases a with
   |nil=>
    simp only[lawM,b,fit,JgQ p ps b];cases q:Jz ps with
    |true=>
     have:0<Aj:=by
      cases ps with
      |nil=>cases q
      |cons a t=>simp
     have o:¬((((p::ps).length:Nat):Int)-1<=((([]:List Str).length:Nat):Int)):=by simp only[Zl,jD];lia
     rw[if_pos rfl,Zt o];rfl
    |false=>simp;lia
   |cons w a=>
    have r:=uN ps a h.2;have f:fit (p::ps) (w::a)=fit ps a:=by
     simp only[fit,JgQ p ps b,Zl];cases Jz ps
     ·rw[kO];simp<;>lia
     ·rw[kO];simp;lia
    simp only[lawM,b,zbl,f];cases p.fits w
    ·simp
    ·simp[r]
def hole(p:Part)(c:Nat):runD defs Bo 8 [p.d]=.ok (.bl (!p.isWord)):=by cases p<;>simp[Jok,gY,Part.d,Part.isWord]
theorem Jxa(pre a:Ad):cutD ((pre++a).map XD) (So (CA:Int)) No=a.map .str:=by
 have b:¬((CA:Int)<0):=by lia
 simp[cutD,six,b,List.drop_append,zD,ZY]
def JvD(pre a:Ad)(w:Str):atD ((pre++w::a).map XD) (CA:Int)=So Cq:=by have:=atN ((pre++w::a).map XD) CA Af;rw[this];simp
def Jpo(n:Str)(pre a:Ad)(c:Nat):runD defs Bo 17 ['ɨ'.d,.tup ((pre++a).map .str),.int CA]=.ok IB:=by have:=Jxa pre a;generalize (pre++a).map XD=xs at*;simp[pS,xJ,Part.d,this]
def Jxc (p:Part) (f:p.isRest = Fo) (j:CW) (pre a:Ad) (w:Str) (h:w ∈ wsA) (b:p.fits w = To) (c:Nat) :
  runD defs Bo 17 [p.d,.tup ((pre ++ w :: a).map .str),.int CA] = .ok 'ѩ':=by
 have:=JvD pre a w;generalize (pre ++ w :: a).map XD = xs at *;cases p with
 | word x=>cases j
 | rest n=>cases f
 | one n m=>simp [pS,xJ,Part.d,this,Part.valD]
 | any n=>simp [pS,xJ,Part.d,this,Part.valD]
 | number n=>have:=intsW w h b;simp [pS,xJ,Part.d,this,Part.valD, *]
theorem Jgu(c:Nat):∀(ps:AB)(pre a:Ad)(P:D)(vs:Ao),Jm ps->(∀w∈a,w∈wsA)->lawM ps a=So vs->
  JO 2 (evD CM Sf) (evD CM Q1)
   [So P,So (.tup ((pre++a).map .str))] (Jl CA CO)=.ok vs
 |[],pre,a,P,vs,h,ha,hM=>by
  unfold lawM at hM
  split at hM
  ·cases hM
   rfl
  ·cases hM
 |p::ps,pre,a,P,vs,h,ha,hM=>by
  unfold lawM at hM
  have r:Jv 2 (.tup [.int (CA:Int),p.d])=.ok [So (.int CA),So p.d]:=by simp[Jv]
  have o:=hole p c
  have b:p.isWord=Fo->op2 .idx p.d (.int 1)=.ok LH:=by
   intro h;cases p<;>simp[Part.d,Part.name]
  split at hM
  ·next j=>
   have v:=h.1 j;subst v;cases hM;obtain⟨n,rfl⟩:∃n,p=.rest n:=by cases p<;>simp_all [Part.isRest]
   have f:=Jpo n pre a c;have b:=b rfl;refine(JN 2 _ _ _ (.tup [.int (CA:Int),'ɨ'.d]) [] r (p:=To) ?_ (y:=.tup [.str n,.tup Gr]) (λ_=>?_) (Jms ..)).trans rfl
   ·simp[o,Part.isWord]
   ·generalize (pre++a).map XD=xs at*;generalize 'ɨ'.d=pd at*;simp[b,f,lD,Part.name]
  ·next j=>
   have j:p.isRest=Fo:=by simpa using j
   split at hM
   ·cases hM
   ·next w a=>
    split at hM
    ·next hf=>
     rw[yD]at hM;obtain⟨u,e,rfl⟩:=hM;have q:=Jgu c ps (pre++[w]) a P u h.2 (λw m=>ha w (by simp[m])) e;rw[fC,Zy]at q;have s:CA+[w].length=CA+1:=rfl;rw[s]at q;have f:=λo=>Jxc p j o pre a w KL hf c;have:=JN 2 (evD CM Sf) (evD CM Q1)
      [So P,So (.tup ((pre++w::a).map .str))] (.tup [.int (CA:Int),p.d]) _ r (p:=!p.isWord) (by simp[o]) (y:=.tup NZ) (λz=>?_) q
     ·rw[Zg,Jl,this];unfold Part.val;cases p.isWord<;>rfl
     ·have m:p.isWord=Fo:=by simpa using z
      have f:=f m;have b:=b m;generalize (pre++w::a).map XD=xs at*;generalize p.d=pd at*;simp[b,f,lD]
    ·cases hM
theorem mt(ps:AB)(a:Ad)(c:Nat)(h:Jm ps)(m:∀w∈a,w∈wsA)(s:Aj<=1000):runD defs A6 18 Qb3=.ok (opt (lawM ps a)):=by
 have b:=wX ps a c m s;rw[<-uN ps a h]at b;have o:∀k,(Jl k CO).length<=16777216:=by
  have:∀(xs:Ao)(k:Nat),(Jl k xs).length=Ac:=by
   intro xs;induction xs with
   |nil=>intro k;rfl
   |cons x xs q=>intro k;simp[Jl,q]
  intro k;rw[this,Ze];lia
 cases f:lawM ps a with
 |none=>rw[f]at b;simp[Jht,fS,b,opt]
 |some r=>rw[f]at b;have j:=Jgu AW ps [] a FS r h m f;simp only[mB,jD]at j;simp[Jht,fS,b,kH,j,o,lD,opt]
structure Row where
 l:Str
 ps:List Part
def Row.pd (r:Row):D:=.tup (r.ps.map Xd)
noncomputable def Row.d (r:Row):D:=.tup Qd9
noncomputable def labs:List Str:=[S "t",S "p",S "v",S "q",S "u",S "s"]
def hit (a:Ad) (r:Row):Bool:='丕'.isSome
noncomputable def labD:Option Row->D
 |none=>.non
 |some r=>.str r.l
def row0(r:Row)(O:Fm)(U:Ag)(i:Nat)(h:O[i]? =So (So r.d)):evD U Sw O=.ok CH:=by simp[h,Row.d]
structure Row.Fine(r:Row):Prop where
 rl:Jm r.ps
 len:r.ps.length<=1000
def all_rows(rows:AR)(h:∀r∈rows,Y1)(m:DF<=1000)(a:Ad)(j:∀w∈a,w∈wsA)(c:Nat):runD defs A6 35 MP=.ok (.lst ((rows.filter Co).map λr=>.str r.l)):=by
 rw[JkA,eZ,JJ];refine qF _ _ Yt Co QdX ?_ m λr b=>⟨?_,λ_=>row0 r _ _ 0 rfl⟩
 ·simp[D.walk]
 ·have f:=wX r.ps a c j (h r b).len;rw[<-uN r.ps a (h r b).rl]at f;refine JB _ _ ?_;simp[Row.d,Row.pd,f,hit]
theorem first(rows:AR)(h:∀r∈rows,Y1)(j:DF<=1000)(a:Ad)(f:∀w∈a,w∈wsA)(c:Nat):runD defs (c+5) 36 MP=.ok (labD (rows.find? Co)):=by
 have b:=all_rows rows h j a f c;rw[<-List.head?_filter];generalize rows.filter Co=fs at b;cases fs with
 |nil=>simp[JmR,rQ,b,labD]
 |cons r fs=>
  have:(0:Int)<(Z0:Int)+1:=by lia
  simp[JmR,rQ,b,labD,this]
def Jvi(x y:Str):op2 .eq Cr Gy=.ok (.bl (x==y)):=by rw[o_eq _ _ (by simp[D.dep]) (by simp[D.dep])];rfl
def names9:List Str:=names5++[S "wy",S "wid",S "wz",S "wx",S "wr",S "w",S "n"]++labs++[S "tt",S "pp",S "vv",S "qq",S "uu",S "ss"]
def words9:List Str:=ws9++(names5++[S "w"])
def is_word(w:Str)(h:w∈words9)(c:Nat):runD defs AW 1 Gu=.ok Cw:=by simp only[words9,ws9,names5,yB,mB,Zf,ZA,eA]at h;rcases h with rfl|rfl|rfl|rfl|rfl|rfl|rfl|rfl|rfl|rfl|rfl|rfl|rfl|rfl|rfl<;>rfl
def is_name(w:Str)(h:w∈names9)(c:Nat):runD defs AW 2 Gu=.ok Cw:=by simp only[names9,names5,labs,yB,mB,Zf,ZA,eA]at h;rcases h with rfl|rfl|rfl|rfl|rfl|rfl|rfl|rfl|rfl|rfl|rfl|rfl|rfl|rfl|rfl|rfl|rfl|rfl|rfl|rfl|rfl|rfl|rfl|rfl<;>rfl
def Part.vp:Part->Prop
 |.word x=>x∈words9
 |.one n b=>n∈names9/\(∀w∈b,w∈words9)/\b≠[]/\b.length<=4/\b.Pairwise LtS
 |.any n=>n∈names9
 |.number n=>n∈names9
 |.rest n=>n∈names9
def wF(J:Ao)(lo hi:Int)(c:Nat):runD defs Bo 3 [.tup J,.int lo,.int hi]=.ok (.bl (decide (lo<=(Ab:Int))&&decide ((Ab:Int)<=hi))):=by rw[JeP,JaW,JJ];exact Jr _ _ (p:=To) rfl λ_=>Jr _ _ N9 λ_=>Jd _ _ rfl rfl rfl
def are_words(ws:Ad)(h:∀w∈ws,w∈words9)(f:Cb<=1000)(c:Nat):runD defs (c+3) 4 [.tup DS]=.ok Cw:=by rw[JhT,JbS,JJ];have:=uH DG QcF (src:=.walk Ar) (e:=.call 1 C5) XD (λ_=>D.bl To) rfl f λw b=>Jp _ _ rfl (is_word w (h w b) c);refine Jq _ _ this ?_;have:=JX (λ_:Str=>To) ws;simp[op1,this]
theorem Jnf:∀a b:List Str,zipD Gr Gg=(a.zip b).map λp=>.tup [.str p.1,.str p.2]
 |[],b=>by simp[zipD]
 |x::a,[]=>by simp[zipD]
 |x::a,y::b=>by simp[zipD,Jnf a b]
theorem JiX:∀f:List Str,f.Pairwise LtS->∀p∈f.zip (f.drop 1),LtS p.1 p.2
 |[],_,p,b=>by simp at b
 |[x],_,p,b=>by simp at b
 |x::y::f,h,p,b=>by
  simp only[List.drop_succ_cons,zK,nG,Zf]at b
  rw[jF]at h
  rcases b with rfl|b
  ·exact h.1 y Af
  ·exact JiX (y::f) h.2 p (by simpa using b)
theorem JwU(ws:Ad)(h:∀w∈ws,w∈words9)(b:ws≠[])(z:Cb<=4)(u:ws.Pairwise LtS)(c:Nat):runD defs A6 6 [.tup DS]=.ok Cw:=by
 have f:=wF DS 1 4 AW;have s:=are_words ws h Ae c;have j:1<=Cb:=by
  cases ws with
  |nil=>exact absurd rfl b
  |cons a t=>simp
 have m:(decide ((1:Int)<=('Ɂ'.length:Int))&&decide (('Ɂ'.length:Int)<=4))=To:=by rw[Ze,Zc,Zp,Zp];lia
 rw[m]at f;have o:evD B7 U3 QcF=.ok C7:=
  mD _ _ (p:=Fo) (q:=Fo) (JF _ _ (JB _ _ (Ja _ _ rfl f))) λ_=>JF _ _ (JB _ _ (Jp _ _ rfl s))
 rw[Jcg,JQ,Jo _ _ _ _ o,if_neg 'v',JJ];have r:evD B7 VO QcF=.ok (.lst ('互'.map λp=>.tup [.str p.1,.str p.2])):=by
  refine Jd _ _ (x:=.tup DS) (y:=.tup ((ws.drop 1).map .str)) rfl ?_ (by rw[JtL,Jnf]);cases ws with
  |nil=>exact absurd rfl b
  |cons w t=>simp[cut1,op1]
 have:=Jpt B7 QcF (e:=.bi .lt Ar AD) (λp:Str×Str=>.str p.1) (λp=>.str p.2) (λp=>.bl (ltS p.1 p.2)) r (by simp;lia) λp _=>rfl;refine Jq _ _ this ?_;rw[show(λp:Str×Str=>D.bl (ltS p.1 p.2))=λp=>D.bl ((λp:Str×Str=>ltS p.1 p.2) p)from rfl];have v:=JX (λp:Str×Str=>ltS p.1 p.2) '互';simp only[op1,v];congr 2;rw[kK,ZZ];intro p j;have:=JiX ws u p j;simp only[xO,id,ltS,Zp];exact this
def JqK(U:Ag)(O:Fm){c:Px}{A B rest:Sx}{d:D}{e:Fm}(b:evD U c O=.ok Cw)(f:exD U A O=.ok (.rt d,e)):Jb (exD U (.seq (.ite c A B) rest) O)=.ok d:=by rw[dA,gJ,b];simp[f]
def sR(U:Ag)(O:Fm){c:Px}{A rest:Sx}(b:evD U c O=.ok C7):Jb (exD U (.seq (.ite c A .skip) rest) O)=Jb Qcl:=by rw[dA,gJ,b];simp
def JqR(U:Ag)(O:Fm){d:D}(h:FU):exD U Qda O=.ok Io:=by simp[h]
def is_part(p:Part)(h:p.vp)(c:Nat):runD defs (c+5) 7 [p.d]=.ok Cw:=by
 have kind:∀(k:Str)(n:Str),(k=S "any"\/k=S "number"\/k=S "rest")->n∈names9->runD defs (c+5) 7 [.tup Qea]=.ok Cw:=λk n m o=>by have f:=is_name n o AW;have b:=wF Qea 2 3 (c+3);rw[uY,yN];rcases m with rfl|rfl|rfl<;>exact(sR _ _ (JF _ _ (p:=To) Mt)).trans ('ɩ'.trans ('ɩ'.trans ('ɩ'.trans ((JJ _ _ _).trans (Jr _ _ (p:=To) (q:=To) rfl λ_=>Jp _ _ rfl f)))))
 cases p with
 |word x=>have f:=is_word x h AW;have b:=wF OK 2 3 (c+3);rw[uY,yN];exact(sR _ _ (JF _ _ (p:=To) Mt)).trans ('ɩ'.trans ('ɩ'.trans (JqK _ _ (B:=.skip) rfl (JqR _ _ Qcv))))
 |one n ws=>have f:=is_name n h.1 AW;have b:=wF Tz 2 3 (c+3);have j:=JwU ws h.2.1 h.2.2.1 h.2.2.2.1 h.2.2.2.2 c;rw[uY,yN];exact(sR _ _ (JF _ _ (p:=To) Mt)).trans (JqK _ _ (B:=.skip) rfl (JqR _ _ (Jr _ _ (p:=To) (q:=To) rfl λ_=>Jr _ _ (p:=To) (q:=To) Qcv λ_=>Jp _ _ rfl j)))
 |any n=>exact kind _ n Bd h
 |number n=>exact kind _ n (.inr Bd) h
 |rest n=>exact kind _ n (.inr (.inr rfl)) h
def has_twice(xs:Ad)(h:Ac<60)(c:Nat):runD defs Bo 5 [.lst (xs.map .str)]=.ok (.bl (fM xs)):=by rw[JhG,JbT,JJ];refine Jd _ _ (x:=.int (jA xs).length) (y:=.int Ac) (Jq _ _ rfl (by simp[op1,mZ,h])) (Jq _ _ rfl (by simp[op1])) ?_;simp[op2,fM]
theorem JjB:∀ps:List Part,(ps.filter λp=>!p.isWord).map (λp=>D.str Xm)='Ư'.map .str
 |[]=>rfl
 |p::ps=>by
  have b:=JjB ps
  unfold Jk at b⊢
  rw[vC,lB,<-b]
  unfold Part.hole
  cases f:p.isWord<;>simp[nK,f]
def mF(p:Part)(O:Fm)(U:Ag)(i:Nat)(h:O[i]? =So Yz):evD U (.bi .idx G8 Cv) O=.ok LH:=by cases p<;>simp[h,Part.d,Part.name]
def hole_names(ps:AB)(b:Aj<=1000)(c:Nat):runD defs AW 9 Gn=.ok (.lst ('Ư'.map .str)):=by rw[Jdg,sS,JJ,<-JjB];exact qF _ _ Xd (λp=>!p.isWord) (λp=>.str Xm) rfl b λp f=>⟨JB _ _ (Jp _ _ rfl (hole p c)),λ_=>mF p _ _ 0 rfl⟩
def patB (ps:AB):Bool:=decide (Aj<=6)&&!(ps.dropLast.any XM)&&!(fM WN)
def iY(p:Part)(O:Fm)(U:Ag)(i:Nat)(h:O[i]? =So Yz):evD U (.bi .eq Sw LA) O=.ok (.bl Xf):=by cases p<;>simp[h,Part.d,Part.isRest,Jvi]
theorem Jqe(xs:List α):cutD xs No (So (-1))=xs.dropLast:=by
 have b:(-1+(Ac:Int)).toNat=Ac-1:=by lia
 simp[cutD,six,b,List.dropLast_eq_take]
theorem xN:∀ps:List Part,'Ư'.length<=Aj
 |[]=>by simp[Jk]
 |p::ps=>by
  have:=xN ps
  have b:p.hole.length<=1:=by
   unfold Part.hole;split<;>simp
  have e:Jk (p::ps)=p.hole++Jk ps:=by simp[Jk]
  rw[e,Zy,Zl];lia
theorem is_pattern(ps:AB)(h:∀p∈ps,p.vp)(u:Aj<60)(c:Nat):runD defs (c+6) 11 Gn=.ok (.bl (patB ps)):=by
 have b:=wF CO 0 6 A6;rw[show(decide ((0:Int)<=('ͱ'.length:Int))&&decide (('ͱ'.length:Int)<=6))=decide (Aj<=6)from by
  rw[Ze,Zs 'c',yH];exact zB.mpr Ae]at b
 have o:evD C1 VQ Ii=.ok Cw:=by refine Jq _ _ (uH _ _ Xd (λ_=>D.bl To) rfl Ae λp f=>Jp _ _ rfl (is_part p (h p f) c)) ?_;have:=JX (λ_:Part=>To) ps;simp[op1,this]
 have j:evD C1 Up Ii=.ok (.bl (ps.dropLast.any XM)):=by
  have s:evD C1 WG Ii=.ok (.lst (ps.dropLast.map Xd)):=by have:=Jqe CO;simp[op1,this,D.walk,List.map_dropLast]
  refine Jq _ _ (uH _ _ Xd (λp=>D.bl Xf) s (by simp;lia) λp f=>iY p _ _ 0 rfl) ?_;have:=JX XM ps.dropLast;simp only[op1,this,yF,xO];rfl
 have m:=hole_names ps Ae (c+3);have r:=has_twice WN (by have:=xN ps;lia) A6;rw[JgB,xZ];rw[Jo _ _ _ _ (mD _ _ (p:=!decide (Aj<=6)) (q:=Fo) (JF _ _ Mt) λ_=>JF _ _ (JB _ _ o))];rw[Jo _ _ _ _ (JB _ _ j),JJ,JF _ _ (Jp _ _ (Jp _ _ rfl m) r)];unfold patB;cases decide (Aj<=6)<;>cases ps.dropLast.any XM<;>simp
def ok_vp(p:Part)(h1:p.ok)(h:p.srt)(b:p.isWord=Fo->p.name∈names5):p.vp:=by
 have f:∀n∈names5,n∈names9:=by decide+kernel
 have j:∀n∈ws9,n∈words9:=by decide+kernel
 cases p with
 |word x=>exact j x h1
 |one n o=>exact⟨f n Qav,λw m=>j w (h1.1 w m),h1.2,ZM h.2 AO,h.1.1⟩
 |any n=>exact f n Qav
 |number n=>exact f n Qav
 |rest n=>exact f n Qav
def JS(ps:AB)(p:Part)(b:p∈ps)(f:CW):p.name∈Jk ps:=by unfold Jk;rw[kG];exact⟨p,b,by simp[Part.hole,f]⟩
theorem vS:∀ps:List Part,Jm ps->ps.dropLast.any XM=Fo
 |[],_=>rfl
 |[p],_=>rfl
 |p::q::ps,h=>by
  rw[List.dropLast_cons₂,rB]
  have b:Jm (q::ps)/\p.isRest=Fo:=by
   refine⟨h.2,?_⟩;cases f:p.isRest with
   |false=>rfl
   |true=>exact absurd (h.1 f) Af
  rw[b.2,vS (q::ps) b.1];rfl
def names5_nodup:names5.Nodup:=by decide+kernel
noncomputable abbrev patD (ps:AB):D:=.tup CO
noncomputable abbrev lsP (ps:AB):D:=.lst CO
def Fit(p g:Part):Prop:=g=p\/∃n b,p=.one n b/\g=.any n
def Fit.name(h:Z6):g.name=p.name:=by rcases h with rfl|⟨n,b,rfl,rfl⟩<;>rfl
def Fit.word(h:Z6):g.isWord=p.isWord:=by rcases h with rfl|⟨n,b,rfl,rfl⟩<;>rfl
def Fit.rest(h:Z6):g.isRest=p.isRest:=by rcases h with rfl|⟨n,b,rfl,rfl⟩<;>rfl
structure GI(ps made hs:AB):Prop where
 m:∀g∈made,∃p∈ps,Xg=Fo/\p.isRest=Fo/\Fit p g
 h:∀p∈hs,p∈ps/\p.isWord=Fo/\p.isRest=Fo
 nd:(made.map Xt++hs.map Xt).Nodup
 len:AL<=3
theorem GI.pop{B:AB}(h:GI ps made (A++p::B))(s:AL<3)(m:Z6):GI ps (made++[g]) (A++B)/\GI ps made (A++B):=by
 have j:=h.h p Af;have o:∀q∈A++B,q∈A++p::B:=λq b=>by rcases ZS.mp b with b|b<;>simp[b]
 have nd:=h.nd;rw[lB,Zg]at nd;have r:(made.map Xt++(A.map Xt++p.name::B.map Xt)).Perm ((made.map Xt++[p.name])++(A.map Xt++B.map Xt)):=by rw[fC];refine List.Perm.append_left _ ?_;exact List.perm_middle
 have f:=r.nodup_iff.mp nd;refine⟨⟨λq b=>?_,λq b=>h.h q (o q b),?_,by simp;lia⟩,⟨h.m,λq b=>h.h q (o q b),?_,X7⟩⟩
 ·rcases ZS.mp b with b|b
  ·exact h.m q b
  ·rw[Zx.mp b];exact⟨p,j.1,j.2.1,j.2.2,m⟩
 ·simpa[m.name]using f
 ·rw[lB];refine f.sublist ?_;rw[fC];exact List.Sublist.append (List.Sublist.refl _) (yT _ _)
noncomputable def K1:Px:=Wv
def wB:Sx:=(.seq (.popi 5 3 K1)
  (.seq U0
  UY))
noncomputable def wC:Px:=Wg
theorem Jwd(U:Ag)(O:Fm)(t i:Nat)(k:Px){j:Nat}{d:D}(hi:O[i]? =So D5)(h:evD U k O=.ok CT)(b:J[j]? =So d):exD U (.popi t i k) O=.ok (.nx,'ȓ'.set t Bj):=by
 have q:j<Ab:=(Zz.mp b).1;have f:ixn Ab (j:Int)=So j:=by
  have o:(0:Int)<=j:=by lia
  have m:(j:Int)<Ab:=by lia
  simp[ixn,o,m]
 show(match O[i]? with
  |some (So (.lst J))=>'ɛ'.bind λx=>match x with
   |.int n=>match ixn Ab n with
    |some j=>match J[j]? with
     |some d=>Rs.ok (Fw.nx,'ȓ'.set t Bj)
     |none=>.sk
    |none=>.sk
   |_=>.sk
  |_=>.sk)=_
 rw[hi];simp only[h,Rs.bo,f,b]
def vH(U:Ag)(O:Fm)(p:Part)(s:Str)(h:O[i]? =So Yz):evD U NI O=.ok (.bl (Xq==s)):=eW U O i p h s
theorem JvP(ns:Be)(at_:Int)(h0:0<=at_)(P:D){f:AB}(g:GI ps made f)(v:f≠[])(U:AL<3):∃s h M,GI ps h s/\s.length<XS/\∀c o,exD B7 wB [So Bq,So Cy,So P,So (lsP f),So FJ,o,No,No]=.ok (.nx,[So Bq,So Cy,So P,So (lsP s),So (lsP h),M,No,No]):=by
 have H:0<f.length:=List.length_pos_iff.mpr v;have L:smallI 3=To:=by decide
 obtain⟨j,hj,Z⟩:=pick ns (at_+3*AL) XS Ae Ae;obtain⟨r,hr,Y⟩:=pick ns (at_+3*AL+1) 2 Ae AO;obtain⟨t,ht,et⟩:=pick ns (at_+3*AL+2) 4 Ae AO;have N:j<f.length:=by lia
 obtain⟨A,p,B,rfl,X⟩:∃A p B,f=A++p::B/\A.length=j:=⟨f.take j,f[j],f.drop (j+1),by rw[<-dU,List.take_append_drop],by simp;lia⟩;subst X;have u:((A++p::B).map Xd).eraseIdx A.length=(A++B).map Xd:=by rw[lB,Zg,List.eraseIdx_append_of_length_le 'j'];simp
 let q:Part:=if(Xq==S "one")&&((r:Int)==0)then .any Xm else p;have hf:Fit p q:=by
  show Fit p (if(Xq==S "one")&&((r:Int)==0)then .any Xm else p);split
  ·next z=>
   simp only[Zc]at z;cases p with
   |one n W=>exact .inr ⟨n,W,rfl,rfl⟩
   |_=>exact absurd z.1 (by simp[Part.kind])
  ·exact .inl rfl
 obtain⟨q1,q2⟩:=g.pop U hf;have C:∀c o,exD B7 wB [So Bq,So Cy,So P,So (lsP (A++p::B)),So FJ,o,No,No]=.ok (.nx,[So Bq,So Cy,So P,So (lsP (A++B)),So (lsP (if decide ((0:Int)<t)then made++[q]else made)),So q.d,No,No]):=λc o=>by
  have m:∀G o E F,evD B7 MJ [So Bq,So Cy,So P,G,So FJ,o,E,F]=.ok (.int (at_+3*AL)):=λG o E F=>Jd _ _ rfl (Jd _ _ (x:=.int 3) (y:=.int AL) rfl (Jq _ _ (x:=lsP made) rfl Af) (lF _ _ (by simp[L]))) DD;rw[wB,iN _ _ _ (Jwd _ _ 5 3 K1 (J:=(A++p::B).map Xd) (j:=A.length) (d:=p.d) rfl (Ja _ _ (J:=[ofN ns,.int (at_+3*AL),.int (A++p::B).length]) (Jc _ _ rfl (Jc _ _ (m _ _ _ _) (Jc _ _ (Jq _ _ (x:=lsP (A++p::B)) rfl Af) rfl))) (Z Bo)) Af)];simp only[List.set,u];have I:evD B7 Vj [So Bq,So Cy,So P,So (lsP (A++B)),So FJ,So p.d,No,No]=.ok (.bl ((Xq==S "one")&&((r:Int)==0))):=
   Jr _ _ (vH _ _ p _ rfl) λ_=>Jd _ _ (x:=.int r) (y:=.int 0) (Ja _ _ (J:=[ofN ns,.int (at_+3*AL+1),.int 2]) Wj (Y Bo)) rfl (o_eqI _ _)
  have hm:exD B7 U0 [So Bq,So Cy,So P,So (lsP (A++B)),So FJ,So p.d,No,No]=.ok (.nx,[So Bq,So Cy,So P,So (lsP (A++B)),So FJ,So q.d,No,No]):=by
   rw[n_if _ _ _ _ I];show _=Rs.ok (Fw.nx,[_,_,_,_,_,So (Part.d (if(Xq==S "one")&&((r:Int)==0)then .any Xm else p)),_,_]);cases(Xq==S "one")&&((r:Int)==0)with
   |false=>rfl
   |true=>simp only[if_true];rw[xC,pC _ _ (Jc _ _ rfl (Jc _ _ (mF p _ _ 5 rfl) rfl)) 'j'];rfl
  rw[iN _ _ _ hm,n_if _ _ (b:=decide ((0:Int)<t)) _ _ (Jd _ _ (x:=.int t) (y:=.int 0) (Ja _ _ (J:=[ofN ns,.int (at_+3*AL+2),.int 4]) Wj (et Bo)) rfl 'Ѫ')];cases decide ((0:Int)<t)with
  |false=>rfl
  |true=>rw[if_pos rfl,if_pos rfl,qJ _ _ (i:=4) (e:=.var 5) (J:=made.map Xd) (d:=q.d) rfl rfl (by rw[Ze];lia)];show Rs.ok (Fw.nx,[_,_,_,_,So (D.lst (made.map Xd++[q.d])),_,_,_])=_;rw[show made.map Part.d++[q.d]=(made++[q]).map Part.d by simp]
 refine⟨A++B,_,So q.d,?_,by simp,λc o=>C c o⟩;split
 ·exact q1
 ·exact q2
theorem Jlp(ns:Be)(at_:Int)(v:0<=at_)(P:D):∀(n:Nat)(b made:AB),GI ps made b->YM<n->∃q f,GI ps f q/\∀c j,∃s,whlL (evD B7 wC) (exD B7 wB) n VS=.ok (.nx,[So Bq,So Cy,So P,So (lsP q),So (lsP f),s,No,No])
 |0,b,made,_,h=>absurd h Rv
 |n+1,b,made,g,hn=>by
  have B:∀c j,evD B7 wC VS=.ok (.bl (!b.isEmpty&&decide (AL<3))):=λc j=>by
   have L:deps (b.map Xd)<=19:=ZM (zR b) AO
   refine(Jr _ _ (Jd _ _ (x:=lsP b) (y:=.lst []) rfl rfl ((o_ne _ _ (by simp only[D.dep];lia) (by simp[D.dep,deps])).trans (show _=Rs.ok (D.bl (!b.isEmpty))from by cases b<;>simp[D.eqv,eqvs]))) λ_=>Jd _ _ (x:=.int AL) (y:=.int 3) (Jq _ _ (x:=lsP made) rfl Af) rfl cP).trans ?_
   rw[show decide ((AL:Int)<3)=decide (AL<3)from zB.mpr 'c']
  by_cases z:(!b.isEmpty&&decide (AL<3))=To
  ·simp only[Zc,rA,Zp]at z
   obtain⟨r,m,s,E,M,G⟩:=JvP ns at_ v P g (by intro e;subst e;simp at z) z.2
   obtain⟨u,o,F,C⟩:=Jlp ns at_ v P n r m E Ae
   refine⟨u,o,F,λc j=>?_⟩
   obtain⟨H,I⟩:=C c s
   refine⟨H,?_⟩
   unfold whlL
   rw[B c j]
   simp only[z.1,z.2,decide_true,qG,yK,Rs.bo]
   rw[G c j]
   exact I
  ·refine⟨b,made,g,λc j=>⟨j,?_⟩⟩
   unfold whlL
   rw[B c j,rK.mpr z]
   rfl
noncomputable def iB:Sx:=(.insi 4 Qdb (.tup (.cons R9 (.cons (.bi .idx (.dis (.cons (.con (.str (S "a"))) (.cons (.con (.str (S "b"))) (.cons (.con (.str (S "7"))) (.cons (.con (.str (S "new"))) .nil))))) UP) .nil))))
noncomputable def wg4:List Str:=[S "a",S "b",S "7",S "new"]
def wg_9:∀w∈wg4,w∈ws9:=by decide+kernel
structure Ins(made L:AB)(k:Nat):Prop where
 m:∀g∈L,(∃w∈wg4,g=.word w)\/g∈made
 h:Jk L=Jk made
 len:L.length=AL+k
def tR(a b:AB):Jk (a++b)=Jk a++Jk b:=by simp[Jk,List.flatMap_append]
theorem cut_s(xs:List α)(i:Nat):cutD xs No (So (i:Int))=xs.take i:=by
 have b:¬((i:Int)<0):=by lia
 simp only[cutD,six,b,Zo,dC,zK,Nat.sub_zero];by_cases f:i<=Ac
 ·rw[zD f]
 ·rw[oI (by lia:Ac<=i),ZY (Zj _),ZY 'c']
theorem cut_e(xs:List α)(i:Nat):cutD xs (So (i:Int)) No=xs.drop i:=by
 have b:¬((i:Int)<0):=by lia
 simp only[cutD,six,b,Zo,dC];by_cases f:i<=Ac
 ·rw[zD f,ZY 'j']
 ·rw[oI (by lia:Ac<=i),pO (Zj _),pO 'c'];simp
def Jub(r:Nat)(h:(r:Int)<4):∃w∈wg4,atD Wk (r:Int)=So Cq:=by
 match r,h with
 |0,_=>exact⟨S "a",by decide+kernel,rfl⟩
 |1,_=>exact⟨S "b",by decide+kernel,rfl⟩
 |2,_=>exact⟨S "7",by decide+kernel,rfl⟩
 |3,_=>exact⟨S "new",by decide+kernel,rfl⟩
 |k+4,h=>exact absurd h Ae
def insD (O:Fm) (i:Nat) (J:Ao) (y:D):D->Rs (Fw×Fm)
 |.int n=>if midI n&&decide (Ab<1000)then .ok Q0 else .sk
 |_=>.sk
def JpM(O:Fm)(i:Nat)(J:Ao)(y:D)(n:Int):insD O i J y aJ=if midI n&&decide (Ab<1000)then .ok Q0 else .sk:=rfl
noncomputable def Jvz (o:Option (Option D)) (F:List D->Rs (Fw×Fm)):Rs (Fw×Fm):=match o with
 |some (So (.lst J))=>F J
 |_=>.sk
def JoL(J:Ao)(F:List D->Rs (Fw×Fm)):Jvz (So D5) F=F J:=rfl
def bind2{a b:Rs D}{x y:D}(F:D->D->Rs (Fw×Fm))(h:a=.ok x)(f:b=.ok y):(a.bind λx=>b.bind λy=>F x y)=F x y:=by subst h f;rfl
def JrG(U:Ag)(O:Fm)(i:Nat)(k v:Px):exD U QdQ O=Jvz O[i]? λJ=>'ɛ'.bind λx=>'ԋ'.bind λy=>insD O i J y x:=rfl
theorem JwH(U:Ag)(O:Fm)(i:Nat)(k v:Px){r:Nat}{y:D}(hi:O[i]? =So D5)(b:evD U k O=.ok Dl)(j:evD U v O=.ok y)(q:r<=1000)(f:Ab<1000):exD U QdQ O=.ok (.nx,O.set i (So (.lst (J.take r++y::J.drop r)))):=by
 have m:(r:Int)<2^62:=by lia
 have h:-(2^62)<=(r:Int):=by lia
 have o:midI (r:Int)=To:=by unfold midI;rw[Zs m,Zs h];rfl
 rw[JrG,hi,JoL,bind2 (λx y=>insD O i J y x) b j,JpM,if_pos (Bool.and_eq_true_iff.mpr ⟨o,Zs f⟩),cut_s,cut_e]
theorem JiY(ns:Be)(at_:Int)(E:0<=at_)(P j:D)(made:AB)(q:AL<=100)(r:Nat)(v:r<=1000):∀(ks:AX)(L:AB)(k:Nat),Ins made L k->k+BJ<=100->∃o,Ins made o (k+BJ)/\∀c b m,∃u,forL [7] 0 (exD B7 iB) (ks.map λk:Nat=>D.int k) [So Bq,So Cy,So P,So j,So (lsP L),b,So Dl,m]=.ok (.nx,[So Bq,So Cy,So P,So j,So (lsP o),b,So Dl,u])
 |[],L,k,h,_=>⟨L,by simpa using h,λc b m=>⟨m,rfl⟩⟩
 |t::ks,L,k,h,hk=>by
  simp only[Zl]at hk
  obtain⟨s,I,G⟩:=pick ns (at_+22+t) 4 Ae AO
  obtain⟨w,F,M⟩:=Jub s I
  have C:Ins made (L.take r++.word w::L.drop r) AV:=by
   refine⟨λg f=>?_,?_,?_⟩
   ·rcases ZS.mp f with f|f
    ·exact h.m g (List.mem_of_mem_take f)
    ·rcases Zf.mp f with rfl|f
     ·exact .inl ⟨w,F,rfl⟩
     ·exact h.m g (List.mem_of_mem_drop f)
   ·rw[tR,show Jk (Part.word w::L.drop r)=Jk (L.drop r)from rfl,<-tR,List.take_append_drop];exact h.h
   ·have:=X7;simp;lia
  obtain⟨o,H,e⟩:=JiY ns at_ E P j made q r v ks _ AV C Ae;refine⟨o,by rw[Zl,show k+(BJ+1)=k+1+'Ƒ' by lia];exact H,λc b m=>?_⟩;obtain⟨u,B⟩:=e c b (So Qdd);refine⟨u,?_⟩;have N:exD B7 iB [So Bq,So Cy,So P,So j,So (lsP L),b,So Dl,So Qdd]=.ok (.nx,[So Bq,So Cy,So P,So j,So (lsP (L.take r++.word w::L.drop r)),b,So Dl,So Qdd]):=by
   have U:midI (r:Int)=To:=by simp only[midI,Zc,Zp];lia
   have z:=X7;rw[iB,JwH _ _ 4 (.var 6) _ (J:=L.map Xd) (r:=r) (y:='世'.d) rfl rfl (pC _ _ (J:=[.str (S "word"),.str w]) (Jc _ _ rfl (Jc _ _ (Jd _ _ (x:=.lst Wk) (y:=.int s) rfl (Ja _ _ (J:=[ofN ns,.int (at_+22+t),.int 4]) rfl (G Bo)) (by rw[zM,M];rfl)) rfl)) Af) v (by rw[Ze];lia)];simp[List.map_take,List.map_drop]
  rw[Zg];simp only[forL,Jv,n25,n35,Zo,if_true,Rs.bo,Jt,List.set];rw[N];exact B
structure PL(ps:AB):Prop where
 ok:∀p∈ps,p.ok
 rl:Jm ps
 len:Aj<=4
 srt:∀p∈ps,p.srt
 hol:'Ư'.Sublist names5
def PL.nd(h:Yr):'Ư'.Nodup:=names5_nodup.sublist h.hol
structure Goal(ps gs:AB):Prop where
 w:∀g∈gs,X5=To->∃x∈wg4,g=.word x
 h:∀g∈gs,X5=Fo->∃p∈ps,Xg=Fo/\Fit p g
 nd:(Jk gs).Nodup
 rl:Jm gs
 len:gs.length<=6
theorem wJ:∀{ps:AB},'Ư'.Nodup->∀{p q:Part},p∈ps->q∈ps->Xg=Fo->XG=Fo->Xm=q.name->p=q
 |[],_,_,_,h,_,_,_,_=>by cases h
 |r::ps,nd,p,q,hp,hq,wp,wq,e=>by
  have j:'Ư'.Nodup:=nd.sublist (by simp only[Jk,vC];exact yT ..)
  have out:∀s∈ps,s.isWord=Fo->r.isWord=Fo->s.name≠r.name:=λs u o m z=>by
   have:Jk (r::ps)=r.name::Jk ps:=by simp[Jk,Part.hole,m]
   rw[this]at nd
   exact(lC.mp nd).1 (z▸JS ps s u o)
  rcases Zf.mp hp with f|f
  ·rcases Zf.mp hq with b|b
   ·rw[f,b]
   ·subst f;exact absurd e.symm (out q b wq wp)
  ·rcases Zf.mp hq with b|b
   ·subst b;exact absurd e (out p f wp wq)
   ·exact wJ j f b wp wq e
theorem JfM:∀{l:AB},(∀p∈l,Xg=Fo)->Jk l=l.map Xt
 |[],_=>rfl
 |p::l,h=>by
  have j:=h p Af
  have b:=JfM (l:=l) λq f=>h q (by simp[f])
  simp only[Jk,vC,Part.hole,j,Zg]at b⊢
  simp[b]
noncomputable def hs0 (ps:AB):List Part:=ps.filter λp=>!p.isWord&&!p.isRest
theorem Jnn:∀ps:List Part,((hs0 ps).map Xt).Sublist WN
 |[]=>List.Sublist.refl _
 |p::ps=>by
  have b:=Jnn ps
  simp only[hs0,Jk,nK,vC,Part.hole]at b⊢
  cases h:p.isWord with
  |true=>simpa using b
  |false=>
   cases f:p.isRest with
   |true=>
    simp only[qG,oA,dI,Zh,Zo]
    exact b.trans (yT _ _)
   |false=>
    simp only[qG,yK,if_true,Zh,Zo,Zg]
    exact b.cons_cons _
def gi0(h:Yr):GI ps [] (hs0 ps):=by refine⟨λg f=>(by cases f),λp m=>?_,(by simpa using h.nd.sublist (Jnn ps)),by simp⟩;obtain⟨j,b⟩:=mK.mp m;simp only[Zc,rA]at b;exact⟨j,b.1,b.2⟩
noncomputable def RI:Sx:=(.ite UT Qct .skip)
def Jsi:kZ=(.seq (.own 3 (.comp 0 (.walk A0) (.and (.bi .ne DT R9) (.bi .ne DT LA)) Ar))
  (.seq (.own 4 Gb) (.seq (.whl 64 wC wB)
  (.seq U7
  (.seq (.loop Fo [7] 0 WC iB)
  (.seq RI R1)))))):=rfl
def Jnv(p:Part)(s:Str)(O:Fm)(U:Ag):evD U (.bi .ne DT Ks) (So p.d::O)=.ok (.bl (!(Xq==s))):=
 Jd _ _ (x:=.str Xq) (y:=.str s) (Jd _ _ (x:=p.d) (y:=.int 0) rfl rfl (by cases p<;>rfl)) rfl (Jtq _ _)
def Jvw(U:Ag)(O:Fm){d:D}(rest:Sx)(b:FU)(hi:d.imm=To):Jb (exD U (.seq (.set To i e) rest) O)=Jb QbQ:=by rw[dA,xC,b];simp[hi]
theorem JrF{xs:Ao}(h:xs≠[]):atD xs (-1)=xs.getLast?:=by
 have m:0<Ac:=List.length_pos_iff.mpr h;have j:¬((0:Int)<= -1):=by lia
 have f:-(Ac:Int)<= -1:=by lia
 have b:(-1+(Ac:Int)).toNat=Ac-1:=by lia
 simp only[atD,ixn,j,Zo,f,if_true,Option.bind_some,b];rw[List.getLast?_eq_getElem?]
theorem Jwi(ns:Be)(at_:Int)(I:0<=at_)(P:Yr)(L:AB)(N:L.length<=100):∃gs,(gs=L\/∃p∈ps,Xf=To/\gs=L++[p])/\∀c m j f h,exD B7 RI Vk=.ok (.nx,[So Bq,So Cy,So EM,m,So (lsP gs),j,f,h]):=by
 obtain⟨t,M,H⟩:=pick ns (at_+30) 3 Ae AO;have G:'Ƭ'.dep<=20:=by have:=zR ps;simp only[D.dep];lia
 have o:op2 .ne EM (.tup [])=.ok (.bl (!ps.isEmpty)):=by rw[o_ne _ _ G 'v'];cases ps<;>simp[D.eqv,eqvs]
 cases s:ps.getLast? with
 |none=>have:ps=[]:=List.getLast?_eq_none_iff.mp s;subst this;refine TY;rw[RI,n_if _ _ (b:=Fo) _ _ (Jr _ _ (p:=Fo) (q:=Fo) (Jd _ _ (x:=patD []) rfl rfl o) λz=>by cases z)];rfl
 |some p=>
  have u:ps≠[]:=λz=>by rw[z]at s;cases s
  have r:p∈ps:=List.mem_of_getLast? s;have v:atD CO (-1)=So p.d:=by rw[JrF (by simpa using u),List.getLast?_map,s];rfl
  have B:∀(U:Ag)F E O,evD U Me (F::E::So EM::O)=.ok p.d:=λU F E O=>Jd _ _ (x:=patD ps) (y:=.int (-1)) rfl rfl (by rw[gN,v];rfl);have C:∀c m j f h,evD B7 UT Vk=.ok (.bl (Xf&&decide ((0:Int)<t))):=λc m j f h=>by
   refine(Jr _ _ (p:=To) (Jd _ _ (x:=patD ps) rfl rfl (o.trans (by simp[u]))) λ_=>Jr _ _ (p:=Xf) (by
    rw[<-jK];exact Jd _ _ (x:=.str Xq) (y:=.str KM) (Jd _ _ (x:=p.d) (y:=.int 0) (B _ _ _ _) rfl (by cases p<;>rfl)) rfl WA) λ_=>Jd _ _ (x:=.int t) (y:=.int 0) (Ja _ _ (J:=[ofN ns,.int (at_+30),.int 3]) rfl (H Bo)) rfl 'Ѫ').trans Af
  by_cases z:(Xf&&decide ((0:Int)<t))=To
  ·refine⟨L++[p],.inr ⟨p,r,by simp only[Zc]at z;exact z.1,rfl⟩,λc m j f h=>?_⟩;rw[RI,n_if _ _ _ _ (C c m j f h),if_pos z,qJ _ _ (i:=4) (J:=L.map Xd) (d:=p.d) rfl (B _ _ _ _) (by rw[Ze];lia)];show Rs.ok (Fw.nx,[_,_,_,_,So (D.lst (L.map Xd++[p.d])),_,_,_])=_;rw[show L.map Part.d++[p.d]=(L++[p]).map Part.d by simp]
  ·refine TY;rw[RI,n_if _ _ _ _ (C c m j f h),if_neg z];rfl
theorem JsX{W L:AB}{k:Nat}(Z:Yr)(hk:k<=2)(g:GI ps made W)(i:Ins made L k)(h:gs=L\/∃p∈ps,Xf=To/\gs=L++[p]):Goal ps gs:=by
 have E:∀x∈made,x.isWord=Fo/\x.isRest=Fo:=λx f=>by obtain⟨p,_,C,B,F⟩:=g.m x f;exact⟨F.word.trans C,F.rest.trans B⟩
 have r:Jk L=made.map Xt:=by rw[i.h];exact JfM λx f=>(E x f).1
 have o:(Jk L).Nodup:=by rw[r];exact(gF.mp g.nd).1
 have I:∀x∈L,x.isRest=Fo:=λx f=>by
  rcases i.m x f with⟨w,_,rfl⟩|u
  ·rfl
  ·exact(E x u).2
 have v:∀x∈L,(x.isWord=To->∃w∈wg4,x=.word w)/\(x.isWord=Fo->∃p∈ps,Xg=Fo/\Fit p x):=λx f=>by
  rcases i.m x f with⟨w,y,rfl⟩|u
  ·exact⟨λ_=>⟨w,y,rfl⟩,λz=>by cases z⟩
  ·obtain⟨p,C,B,_,N⟩:=g.m x u;exact⟨λz=>(by rw[(E x u).1]at z;cases z),λ_=>⟨p,C,B,N⟩⟩
 have hl:=g.len;have M:=i.len;rcases h with rfl|⟨p,m,j,rfl⟩
 ·exact⟨λx f=>(v x f).1,λx f=>(v x f).2,o,JdN _ I,by lia⟩
 ·have s:p.isWord=Fo:=by cases p<;>first|rfl|cases j
  refine⟨λx f z=>?_,λx f z=>?_,?_,?_,by simp;lia⟩
  ·rcases ZS.mp f with f|f
   ·exact(v x f).1 z
   ·rw[Zx.mp f,s]at z;cases z
  ·rcases ZS.mp f with f|f
   ·exact(v x f).2 z
   ·rw[Zx.mp f];exact⟨p,m,s,.inl rfl⟩
  ·rw[tR,show Jk [p]=[p.name] by simp[Jk,Part.hole,s]];refine gF.mpr ⟨o,by simp,λa H b X e=>?_⟩;rw[Zx.mp X]at e;rw[r]at H;obtain⟨x,f,rfl⟩:=ZE.mp H;obtain⟨q,P,U,G,Y⟩:=g.m x f;have:=wJ Z.nd P m U s (Y.name.symm.trans e);rw[this,j]at G;cases G
  ·cases p with
   |rest n=>exact Jdf _ I n
   |_=>cases j
theorem goal_(ns:Be)(at_:Int)(h:0<=at_)(b:Yr):∃gs,Goal ps gs/\∀c,runD defs A6 49 [ofN ns,.int at_,patD ps]=.ok EA:=by
 have q:=b.len;have E:(hs0 ps).length<=Aj:=List.length_filter_le ..;obtain⟨s,made,g,j⟩:=Jlp ns at_ h EM 64 (hs0 ps) [] (gi0 b) Ae;obtain⟨r,M,z⟩:=pick ns (at_+20) (AL+1) Ae Ae;obtain⟨m,P,C⟩:=pick ns (at_+21) 3 Ae AO;have N:=g.len;obtain⟨L,o,f⟩:=JiY ns at_ h EM (lsP s) made Ae r Ae (List.range' 0 m) made 0 ⟨λx v=>.inr v,rfl,rfl⟩ (by simp;lia);rw[List.length_range',jI]at o;have I:=o.len;obtain⟨gs,H,F⟩:=Jwi ns at_ h b L Ae;refine⟨gs,JsX b Ae g o H,λc=>?_⟩;obtain⟨u,j⟩:=j c No;obtain⟨G,f⟩:=f c u No;have B:∀l:List Part,imms P9=To:=wN;rw[Jki,Jsi,yL _ _ (J:=(hs0 ps).map Xd) _ (qF _ _ (rs:=ps) Xd (λp=>!p.isWord&&!p.isRest) Xd rfl Ae λp _=>⟨by rw[<-JnM,<-jK];exact Jr _ _ (Jnv p _ _ _) λ_=>Jnv p _ _ _,λ_=>rfl⟩) (B _),yL _ _ (J:=[]) _ rfl rfl];simp only[List.set];rw[eD _ _ _ (by rw[Jwg];exact j),Jvw _ _ (d:=.int r) _ (Ja _ _ (J:=[ofN ns,.int (at_+20),.int (AL+1)]) (Jc _ _ rfl (Jc _ _ rfl (Jc _ _ (Jd _ _ (x:=.int AL) (y:=.int 1) (Jq _ _ (x:=lsP made) rfl Af) rfl DD) rfl))) (z Bo)) rfl];simp only[List.set];rw[eD _ _ _ (env2:=[So Bq,So Cy,So EM,So (lsP s),So (lsP L),u,So Dl,G]) (by
  rw[dD,Jq _ _ (Ja _ _ (J:=[ofN ns,.int (at_+21),.int 3]) rfl (C Bo)) (rN m Ae)];simp only[Rs.bo,sC,ZU,Zh,Zo];exact f),eD _ _ _ (F c _ _ _ _),JJ]
 exact Jq _ _ (x:=lsP gs) rfl rfl
structure Lead where
 l:Str
 ps:List Part
 gs:List Part
variable{ls:Cm}
noncomputable def Lead.d (x:Lead):D:=.tup Th
structure LOk(x:Lead):Prop where
 p:PL x.ps
 g:Goal x.ps x.gs
 l:x.l∈names9
noncomputable def labs3:List Str:=[S "s",S "p",S "q"]
noncomputable def qP:Sx:=(.seq Ww
  (.app Fo 2 (.tup (.cons (.bi .idx (.dis (.cons (.con (.str (S "s"))) (.cons (.con (.str (S "p"))) (.cons (.con (.str (S "q"))) .nil)))) B6) U4))))
def JtY(k:Nat)(b:k<3):∃l∈names9,labs3[k]? =So l/\atD VE (k:Int)=So Qde:=by
 match k,b with
 |0,_=>exact⟨S "s",by decide+kernel,rfl,rfl⟩
 |1,_=>exact⟨S "p",by decide+kernel,rfl,rfl⟩
 |2,_=>exact⟨S "q",by decide+kernel,rfl,rfl⟩
 |k+3,h=>exact absurd h Ae
def JtN(ns:Be)(b:Int)(I:0<=b)(k:Nat)(s:k<3):∃x:Lead,LOk x/\labs3[k]? =So x.l/\∀c acc m,Yh<=100->∃C,exD Es qP [So Bq,So YA,So (.lst acc),So DV,m]=.ok (.nx,[So Bq,So YA,So (.lst (acc++[x.d])),So DV,C]):=by
 have f:smallI 80=To:=by decide
 obtain⟨ps,H,r,z,u,B,_,h⟩:=patS ns (b+1+80*k) Ae 3 AO;have o:PL ps:=⟨H,r,z,u,B⟩;have h:∀c,runD defs A6 46 [ofN ns,.int (b+1+80*k),.int 3]=.ok EM:=h;obtain⟨gs,E,v⟩:=goal_ ns (b+41+80*k) Ae o;obtain⟨l,F,q,G⟩:=JtY k s;refine⟨⟨l,ps,gs⟩,⟨o,E,F⟩,q,λc acc m j=>⟨So EM,?_⟩⟩;rw[qP,dH _ _ (d:=patD ps) _ (Ja _ _ (J:=[ofN ns,.int (b+1+80*k),.int 3]) (Jc _ _ rfl (Jc _ _ (by simp[f]) rfl)) (h c))];simp only[List.set];exact qJ _ _ (i:=2) (J:=acc) (d:='Ć'.d) rfl (pC _ _ (J:=OJ) (Jc _ _ (Jd _ _ (x:=.lst VE) (y:=.int k) rfl rfl (by rw[zM,G];rfl)) (Jc _ _ rfl (Jc _ _ (Ja _ _ (J:=[ofN ns,.int (b+41+80*k),patD ps]) (Jc _ _ rfl (Jc _ _ (by simp[f]) rfl)) (v c)) rfl))) Af) Ae
theorem JgU(ns:Be)(b:Int)(s:0<=b):∀(n k:Nat),k+n<=3->∃ls:List Lead,Ax=n/\(∀x∈ls,LOk x)/\ls.map Lead.l=(labs3.drop k).take n/\∀c(acc:Ao)j f,Yh+n<=50->∃B q,forL [3] 0 (exD Es qP) ((List.range' k n).map λk:Nat=>D.int k) [So Bq,So YA,So (.lst acc),j,f]=.ok (.nx,[So Bq,So YA,So (.lst (acc++ls.map YG)),B,q])
 |0,k,_=>⟨[],rfl,by simp,by simp,λc acc j f _=>⟨j,f,by simp[forL]⟩⟩
 |n+1,k,h=>by
  obtain⟨x,u,o,ex⟩:=JtN ns b s k Ae
  obtain⟨ls,F,I,G,H⟩:=JgU ns b s n AV Ae
  refine⟨x::ls,by simp[F],λy m=>?_,?_,λc acc j f L=>?_⟩
  ·rcases Zf.mp m with rfl|m
   ·exact u
   ·exact I y m
  ·have r:k<labs3.length:=(Zz.mp o).1
   rw[Zg,G,dU r,List.take_succ_cons]
   congr 1
   rw[Zq r]at o
   exact(pA o).symm
  ·obtain⟨q,E⟩:=ex c acc f Ae
   obtain⟨C,v,z⟩:=H c (acc++[x.d]) Bu q (by simp;lia)
   refine⟨C,v,?_⟩
   rw[List.range'_succ,Zg]
   simp only[forL,Jv,n25,n35,Zo,if_true,Rs.bo,Jt,List.set,E]
   rw[z]
   simp
theorem Jqh(ns:Be)(b:Int)(f:0<=b):∃ls:List Lead,Ax<=3/\(∀x∈ls,LOk x)/\(ls.map Lead.l).Nodup/\∀c,runD defs (c+5) 50 Qd8=.ok BN:=by
 obtain⟨m,v,s⟩:=pick ns b 4 f AO;obtain⟨ls,u,q,h,o⟩:=JgU ns b f m 0 Ae;refine⟨ls,by lia,q,?_,λc=>?_⟩
 ·rw[h];exact(by decide+kernel:labs3.Nodup).sublist ('ʙ'.trans (List.drop_sublist _ _))
 ·obtain⟨r,j,e⟩:=o c [] No No (by simp;lia);rw[Jhw,show JbV=(.seq 'І' (.seq (.loop Fo [3] 0 Wb qP) R3))from rfl,yL _ _ (J:=[]) _ rfl rfl];simp only[List.set];rw[eD _ _ _ (env2:=[So Bq,So YA,So (.lst Gq),r,j]) (by
   rw[dD,Jq _ _ (Ja _ _ (J:=[ofN ns,.int b,.int 4]) rfl (s AW)) (rN m Ae)];simp only[Rs.bo,sC,ZU,Zh,Zo];exact e),JJ]
  exact Jq _ _ (x:=.lst Gq) rfl rfl
def PL.vp(h:Yr):∀p∈ps,p.vp:=λp b=>ok_vp p (h.ok p b) (h.srt p b) λf=>h.hol.subset (JS ps p b f)
theorem PL.pat(h:Yr):patB ps=To:=by have:=X7;unfold patB;rw[vS _ h.rl,yS h.nd,Zs (by lia:Aj<=6)];rfl
def Goal.vp(h:Goal ps gs)(m:Yr):∀g∈gs,g.vp:=λg b=>by
 cases j:g.isWord with
 |true=>
  obtain⟨x,q,rfl⟩:=h.w g b j
  exact wL _ (wg_9 _ q)
 |false=>
  obtain⟨p,f,r,o⟩:=h.h g b j
  rcases o with rfl|⟨n,s,rfl,rfl⟩
  ·exact m.vp _ f
  ·have:n∈names5:=m.hol.subset (JS ps _ f r)
   exact(by decide+kernel:∀n∈names5,n∈names9) n this
def Goal.pat(h:Goal ps gs):patB gs=To:=by unfold patB;rw[vS _ h.rl,yS h.nd,Zs h.len];rfl
noncomputable def hnB:Sx:=OP
theorem JkR(c:Nat)(P:D)(p:Part):∀(l:AB)(f:Bl),p∈l->Xg=Fo->(∀q∈l,XG=Fo->Yq=p.name->q=p)->∃O,forL [2] 0 (exD CM hnB) P9 [So P,So LH,f]=.ok (.rt p.d,O)
 |[],_,h,_,_=>by cases h
 |q::l,f,h,hw,hu=>by
  have m:evD CM SQ [So P,So LH,So q.d]=.ok (.bl (!q.isWord&&(Yq==Xm))):=
   Jr _ _ (JB _ _ (Jp _ _ (x:=q.d) rfl (hole q c))) λ_=>Jd _ _ (x:=.str Yq) (y:=.str Xm) Qa6 rfl WA
  rw[Zg]
  simp only[forL,Jv,n25,n35,Zo,if_true,Rs.bo,Jt,List.set]
  rw[hnB,n_if _ _ _ _ m]
  by_cases z:(!q.isWord&&(Yq==Xm))=To
  ·have b:=z
   simp only[Zc,rA,ZD]at b
   have:=hu q Af b.1 b.2
   subst this
   rw[if_pos z]
   exact Au
  ·rw[if_neg z]
   have o:p∈l:=by
    rcases Zf.mp h with rfl|h
    ·simp[hw]at z
    ·exact h
   exact JkR c P p l (So q.d) o hw λr j=>hu r (by simp[j])
def hole_named(nd:'Ư'.Nodup)(f:p∈ps)(b:CW)(c:Nat):runD defs AW 10 Ry=.ok p.d:=by obtain⟨O,e⟩:=JkR c EM p ps No f b λq h j m=>wJ nd h f j b m;rw[Jdj,show rS=.seq '东' (.ret Dw)from rfl,dA,dD,show evD 'Ö' 'Õ' _=.ok (.lst CO)from rfl];simp only[Rs.bo,sC,ZU,Zh,Zo,e];rfl
def fits_in(h:Z6)(r:p.srt)(c:Nat):runD defs Bo 25 [p.d,g.d]=.ok Cw:=by
 have f:∀s,evD D9 Q2 Qeb=.ok (.bl (Xq==s)):=λs=>vH _ _ p s rfl;have b:∀s,evD D9 NH Qeb=.ok (.bl (Y2==s)):=λs=>vH _ _ g s rfl;rw[Jgo,yR,Jo _ _ _ _ 'Ʋ'];rcases h with rfl|⟨n,ws,rfl,rfl⟩
 ·by_cases z:(Y2==S "one")=To
  ·rw[if_pos (by rw[show(g.kind==oS "one")=To from z];rfl)];cases g with
   |one n ws=>
    ·have o:Cb<=1000:=ZM r.2 AO;refine(Jul _ _ _ _ DS 'ϑ' rfl (by rw[Ze];exact rF o) λd q=>?_).trans Af;obtain⟨w,m,rfl⟩:=ZE.mp q;refine Jd _ _ (x:=.str w) (y:=.tup DS) rfl rfl ((pU w ws).trans ?_);rw[show ws.any (λv=>v==w)=To from lG.mpr ⟨w,m,by simp⟩]
   |_=>exact absurd z (by simp[Part.kind])
  ·have j:(Y2==oS "one")=Fo:=rK.mpr z;rw[j,if_neg 'j',Jo _ _ _ _ 'Ʋ',j,if_neg 'j',JJ];exact Jd _ _ (x:=.str Y2) (y:=.str Y2) (Jd _ _ (x:=g.d) (y:=.int 0) rfl rfl (by cases g<;>rfl)) (Jd _ _ (x:=g.d) (y:=.int 0) rfl rfl (by cases g<;>rfl)) ('ɏ'.trans Af)
 ·rw[if_neg (by simp[Part.kind]),Jo _ _ _ _ 'Ʋ',if_pos (by simp[Part.kind])];rfl
def can_fill(j:Yr)(m:∃p∈ps,Xg=Fo/\Fit p g)(c:Nat):runD defs (c+3) 26 Hq=.ok Cw:=by obtain⟨p,f,o,b⟩:=m;have h:=hole_named j.nd f o c;rw[<-b.name]at h;rw[nS,yJ,nA _ _ (d:=p.d) _ (Ja _ _ (J:=[patD ps,.str XN]) (Jc _ _ rfl (Jc _ _ (mF g _ _ 1 rfl) rfl)) h),JJ];simp only[List.set];exact Jr _ _ (p:=To) (q:=To) (Jq _ _ (x:=p.d) rfl (by cases p<;>rfl)) λ_=>Ja _ _ (J:=[p.d,g.d]) rfl (fits_in b (j.srt p f) Bo)
def is_lead{x:Lead}(h:LOk x)(c:Nat):runD defs (c+7) 27 [x.d]=.ok Cw:=by have B:=aA;have m:=h.g.len;have u:=is_name x.l h.l A6;have j:=is_pattern x.ps h.p.vp Ae c;have b:=is_pattern x.gs (h.g.vp h.p) Ae c;rw[h.p.pat]at j;rw[h.g.pat]at b;have o:=wF Th 3 3 (c+5);have v:∀U,evD U DT [So x.d]=.ok (.str x.l):=λU=>Jd _ _ (x:=x.d) (y:=.int 0) rfl rfl rfl;have s:∀U,evD U Fb [So x.d]=.ok (patD x.ps):=λU=>Jd _ _ (x:=x.d) (y:=.int 1) rfl rfl rfl;have f:∀U,evD U E3 [So x.d]=.ok (patD x.gs):=λU=>Jd _ _ (x:=x.d) (y:=.int 2) rfl rfl rfl;rw[JgE,wR,Jo _ _ (p:=Fo) _ _ (mD _ _ (p:=Fo) (q:=Fo) (JF _ _ (p:=To) (JB _ _ (Ja _ _ (J:=[x.d,.int 3,.int 3]) rfl o))) λ_=>JF _ _ (p:=To) (JB _ _ (Jp _ _ (v _) u)))];simp only[Zh,Zo];rw[Jo _ _ (p:=Fo) _ _ (mD _ _ (p:=Fo) (q:=Fo) (JF _ _ (p:=To) (JB _ _ (Jp _ _ (s _) j))) λ_=>JF _ _ (p:=To) (JB _ _ (Jp _ _ (f _) b)))];simp only[Zh,Zo];rw[JJ];refine Jq _ _ (qF _ _ (rs:=x.gs) Xd (λg=>!g.isWord) (λ_=>.bl To) (by rw[nH,f];rfl) Ae λg z=>⟨JB _ _ (Jp _ _ (x:=g.d) rfl (hole g (c+5))),λr=>Ja _ _ (J:=[patD x.ps,g.d]) (Jc _ _ (Jd _ _ (x:=x.d) (y:=.int 1) rfl rfl rfl) rfl) (can_fill h.p (h.g.h g z (by simpa using r)) (c+3))⟩) ?_;simp only[op1,JX];simp
theorem are_leads(h:∀x∈ls,LOk x)(r:Ax<=3)(nd:'ǧ'.Nodup)(c:Nat):runD defs (c+8) 28 [.tup Gq]=.ok Cw:=by
 have f:=wF Gq 0 6 (c+6);have b:=has_twice 'ǧ' (by simp;lia) (c+6);rw[yS nd]at b;have m:(decide ((0:Int)<=((ls.map YG).length:Int))&&decide (((ls.map YG).length:Int)<=6))=To:=by rw[Ze,Zc,Zp,Zp];lia
 rw[m]at f;rw[JhV,JbW,Jo _ _ (p:=Fo) _ _ (mD _ _ (p:=Fo) (q:=Fo) (JF _ _ (p:=To) (JB _ _ (Ja _ _ (J:=[.tup Gq,.int 0,.int 6]) rfl f))) λ_=>JF _ _ (p:=To) (JB _ _ ((Jul _ _ _ _ Gq 'ϑ' rfl (by rw[Ze];exact rF Ae) λd o=>by
  obtain⟨x,j,rfl⟩:=ZE.mp o;exact Jp _ _ (x:=x.d) rfl (is_lead (h x j) c)).trans Af)))]
 simp only[Zh,Zo];rw[JJ];exact JF _ _ (p:=Fo) (Jp _ _ (x:=.lst ('ǧ'.map .str)) ((uH _ _ (rs:=ls) YG (λx=>.str x.l) rfl Ae λx _=>Jd _ _ (x:=x.d) (y:=.int 0) rfl rfl rfl).trans (by rw[uD];rfl)) b)
noncomputable def rowD (x:Str×D):D:=.tup [.str x.1,x.2]
noncomputable abbrev ksD (kv:Dv):List D:=kv.map λx=>.str x.1
noncomputable abbrev vsD (kv:Dv):List D:=kv.map (·.2)
theorem Jja(k:Str):∀kv:List (Str×D),yA D2 Qdf aK=kv.lookup k
 |[]=>rfl
 |(a,v)::kv=>by
  have b:=Jja k kv
  simp only[ksD,vsD,Zg,yA,D.eqv,Zm]at b⊢
  by_cases e:a=k
  ·subst e;simp
  ·have h:(a==k)=Fo:=ZC.mpr e
   have f:(k==a)=Fo:=ZC.mpr (Ne.symm e)
   simp only[h,f,Zh,Zo]
   exact b
def Jqm{k:Str}{v:D}(b:kv.lookup k=So v):op2 (.dGet Fo) Dq D2=.ok v:=by have:keyD Fo D2=To:=rfl;simp only[op2,onD,this,and_self,if_true,Jja,b];rfl
theorem JjN:∀kv:List (Str×D),Jwv Fg=So (ksD kv,vsD kv)
 |[]=>rfl
 |x::kv=>by
  have b:=JjN kv
  show(mE keyN Fg).map _=_
  rw[show mE keyN '`'=_ from b]
  rfl
def Jrw(kv:Dv)(f:(kv.map (·.1)).Nodup)(j:kv.length<=1000):op1 .dictP IA=.ok Dq:=by
 have m:(ksD kv).Pairwise (λa b=>a.eqv b=Fo):=by rw[vO];rw[List.Nodup,vO]at f;refine f.imp fun{a b}h=>?_;simp[D.eqv,h]
 simp[op1,yM,JjN,m,j]
def VOk(p:Part)(v:D):Prop:=(Xf=To/\∃ws:List Str,Cb<=20/\v=.tup DS)\/(Xf=Fo/\∃x,op1 .strI v=.ok Cr)
def oQ(p:Part)(h:p.isRest=Fo)(b:w∈wsA):∃x,op1 .strI 'ѩ'=.ok Cr:=by
 have j:∀w∈wsA,YN<=1000:=by decide+kernel
 have f:∀w∈wsA,'Ղ'.natAbs<2^64:=by decide+kernel
 cases p with
 |number n=>exact⟨(toString Tq:String),by simp only[Part.valD,op1,if_pos (f w b)]⟩
 |rest n=>cases h
 |_=>exact⟨w,by simp only[Part.valD,op1,if_pos (j w b)]⟩
theorem uW:∀(ps:AB)(a:Ad)(vs:Ao),Jm ps->(∀w∈a,w∈wsA)->Xe<=20->lawM ps a=So vs->∃kv:List (Str×D),vs=kv.map rowD/\kv.map (·.1)=Jk ps/\∀e∈kv,∃p∈ps,Xg=Fo/\p.name=e.1/\VOk p e.2
 |[],a,vs,_,_,_,h=>by
  unfold lawM at h
  split at h
  ·cases h;exact⟨[],rfl,rfl,by simp⟩
  ·cases h
 |p::ps,a,vs,rl,ha,hl,h=>by
  unfold lawM at h
  cases f:p.isRest with
  |true=>
   rw[f,if_pos rfl]at h
   cases h
   have s:p.isWord=Fo:=by cases p<;>first|rfl|cases f
   refine⟨[(Xm,.tup Gr)],rfl,?_,λe b=>?_⟩
   ·rw[rl.1 f];simp[Jk,Part.hole,s]
   ·rw[Zx.mp b];exact⟨p,by simp,s,rfl,.inl ⟨f,a,hl,rfl⟩⟩
  |false=>
   rw[f,if_neg 'v']at h
   cases a with
   |nil=>cases h
   |cons w a=>
    simp only at h
    split at h
    ·rw[yD]at h
     obtain⟨v,e,rfl⟩:=h
     obtain⟨kv,rfl,m,u⟩:=uW ps a v rl.2 (λx y=>ha x (by simp[y])) (by simp at hl;lia) e
     cases j:p.isWord with
     |true=>exact⟨kv,by simp[Part.val,j],by simp[Jk,Part.hole,j]at m⊢;exact m,λe b=>let⟨q,o,r⟩:=u e b;⟨q,by simp[o],r⟩⟩
     |false=>
      refine⟨Qs::kv,by simp[Part.val,j,rowD],by simp[Jk,Part.hole,j]at m⊢;exact m,λe b=>?_⟩
      rcases Zf.mp b with rfl|b
      ·exact⟨p,by simp,j,rfl,.inr ⟨f,oQ p f KL⟩⟩
      ·obtain⟨q,o,r⟩:=u e b
       exact⟨q,by simp[o],r⟩
    ·cases h
structure LX(x:Lead):Prop where
 ok:∀p∈x.ps,p.ok
 rl:Jm x.ps
 len:x.ps.length<=4
 nd:(Jk x.ps).Nodup
 h:∀g∈x.gs,X5=Fo->∃p∈x.ps,Xg=Fo/\Fit p g
 gl:x.gs.length<=6
def LOk.x{x:Lead}(h:LOk x):LX x:=⟨h.p.ok,h.p.rl,aA,h.p.nd,h.g.h,h.g.len⟩
noncomputable def dN:D->List Str
 |.tup J=>J.filterMap λd=>match d with
  |.str x=>So x
  |_=>No
 |_=>[]
def strX (v:D):Str:=match op1 .strI v with
 |.ok (.str x)=>x
 |_=>Yw
def wG (kv:Dv) (g:Part):List Str:=if g.isWord then[g.name]else match kv.lookup XN with
 |some v=>if g.isRest then dN v else[strX v]
 |none=>[]
noncomputable def kvOf (vs:Ao):List (Str×D):=vs.filterMap λd=>match d with
 |.tup [.str k,v]=>So (k,v)
 |_=>No
theorem mR:∀kv:List (Str×D),kvOf Fg=kv
 |[]=>rfl
 |x::kv=>by
  have:=mR kv
  simp only[kvOf,Zg,rowD,ZW]at this⊢
  simp[this,rowD]
theorem JZ:∀ws:List Str,dN D6=ws
 |[]=>rfl
 |w::ws=>by
  have:=JZ ws
  simp only[dN,Zg,ZW]at this⊢
  simp[this]
def GV(kv:Dv)(g:Part):Prop:=X5=Fo->∃v,kv.lookup XN=So v/\((g.isRest=To/\∃ws:List Str,Cb<=20/\v=.tup DS)\/(g.isRest=Fo/\∃x,op1 .strI v=.ok Cr))
def Jew{k:Str}(h:k∈kv.map (·.1)):∃v,kv.lookup k=So v/\(k,v)∈kv:=by
 induction kv with
 |nil=>cases h
 |cons e kv j=>
  rw[Zm];by_cases q:k=e.1
  ·subst q;exact⟨e.2,by simp,by simp⟩
  ·have:(k==e.1)=Fo:=ZC.mpr q;simp only[this];simp only[Zg,Zf]at h;obtain⟨v,f,b⟩:=j (h.resolve_left q);exact⟨v,f,by simp[b]⟩
def JwD{x:Lead}(b:LX x)(k2:kv.map (·.1)=Jk x.ps)(k3:∀e∈kv,∃p∈x.ps,Xg=Fo/\p.name=e.1/\VOk p e.2):∀g∈x.gs,GV kv g:=λg u o=>by
 obtain⟨p,f,j,h⟩:=b.h g u o
 obtain⟨v,y,m⟩:=Jew (kv:=kv) (k:=Xm) (by rw[k2];exact JS _ p f j)
 obtain⟨q,r,s,z,B⟩:=k3 _ m
 have:=wJ b.nd r f s j z
 subst this
 refine⟨v,by rw[h.name];exact y,?_⟩
 rw[h.rest]
 exact B
noncomputable def wwB:Sx:=(.ite UR Qcp (.ite (.bi .eq M8 LA) Uz Ti))
def JvT(h:GV kv g):(wG kv g).length<=20:=by
 unfold wG;cases f:g.isWord with
 |true=>simp
 |false=>
  obtain⟨v,e,q|q⟩:=h f
  ·obtain⟨b,m,j,rfl⟩:=q;simp only[Zh,Zo,e,b,if_true,JZ];exact j
  ·simp[e,q.1]
theorem JmQ(c:Nat)(P:D)(kv:Dv):∀(gs:AB)(acc:Ad)(b:Bl),(∀g∈gs,GV kv g)->Yh+20*gs.length<=1000->∃f,forL [3] 0 (exD CM wwB) Kg [So P,So Dq,So V7,b]=.ok (.nx,[So P,So Dq,So (.lst ((acc++gs.flatMap DX).map .str)),f])
 |[],acc,b,_,_=>⟨b,by simp[forL]⟩
 |g::gs,acc,b,h,hl=>by
  simp only[Zl]at hl
  have r:=h g Af
  have z:=JvT r
  obtain⟨f,e⟩:=JmQ c P kv gs (acc++wG kv g) (So g.d) (λx u=>h x (by simp[u])) (by simp;lia)
  refine⟨f,?_⟩
  have B:exD CM wwB S4=.ok (.nx,[So P,So Dq,So (.lst ((acc++wG kv g).map .str)),So g.d]):=by
   have s:=mF g S4 CM 3 rfl;rw[wwB,n_if _ _ _ _ (JF _ _ (JB _ _ (Jp _ _ (x:=g.d) rfl (hole g c))))];unfold wG;cases C:g.isWord with
   |true=>simp only[oA,qG,if_true];rw[qJ _ _ (i:=2) (J:=acc.map .str) (d:=.str XN) rfl s (by rw[Ze];lia)];simp
   |false=>
    obtain⟨v,ev,q⟩:=r C;have m:=Jd _ _ (o:=.dGet Fo) (x:=.dct Fo To Qdf aK) (y:=.str XN) (a:=.var 1) rfl s (Jqm ev);simp only[qG,oA,Zh,Zo,ev];rw[n_if _ _ _ _ (vH _ _ g KM (i:=3) rfl),jK];rcases q with⟨j,E,F,rfl⟩|⟨j,x,ex⟩
    ·rw[j,if_pos rfl,if_pos rfl,JZ,Jlg _ _ (i:=2) (J:=acc.map .str) (es:=E.map .str) rfl (by rw[nH,Jq _ _ m (JtI _)];rfl) (by simp;lia)];simp
    ·rw[j,if_neg 'v',if_neg 'v',qJ _ _ (i:=2) (J:=acc.map .str) (d:=.str x) rfl (Jq _ _ m ex) (by rw[Ze];lia)];simp[strX,ex]
  rw[Zg];simp only[forL,Jv,n25,n35,Zo,if_true,Rs.bo,Jt,List.set];rw[B];refine e.trans ?_;simp
theorem words_with(h:∀g∈gs,GV kv g)(f:gs.length<=6)(c:Nat):runD defs AW 23 Uw=.ok (.lst ('Ģ'.map .str)):=by
 obtain⟨b,e⟩:=JmQ c EA kv gs [] No h (by simp;lia);rw[Jhp,show vZ=.seq 'І' (.seq (.loop Fo [3] 0 Ds wwB) Lo)from rfl,yL _ _ (J:=[]) _ rfl rfl];simp only[List.set];rw[eD _ _ _ (env2:=[So EA,So Dq,So (.lst ('Ģ'.map .str)),b]) (by
  rw[dD,show evD 'Ö' 'Õ' _=.ok (.lst Kg)from rfl];exact e),JJ]
 rfl
def goal_address(h:∀g∈gs,GV kv g)(m:gs.length<=6)(j:(kv.map (·.1)).Nodup)(f:kv.length<=1000)(c:Nat):runD defs (c+3) 29 Qb4=if(gs.flatMap DX).length<=8 then .ok (.tup ('Ģ'.map .str))else .ex EJ:=by
 rw[Jep,JaF,nA _ _ _ (Ja _ _ (J:=Uw) (Jc _ _ rfl (Jc _ _ (Jq _ _ (x:=.lst Fg) rfl (Jrw kv j f)) rfl)) (words_with h m c))];simp only[List.set];generalize gs.flatMap DX=W9;rw[dA,n_if _ _ (b:=decide (8<W9.length)) _ _ ((Jd _ _ (x:=.int W9.length) (y:=.int 8) (Jq _ _ (x:=.lst (W9.map .str)) rfl Af) rfl 'Ѫ').trans (by rw[show decide ((8:Int)<(W9.length:Int))=decide (8<W9.length)from zB.mpr 'c']))];by_cases z:8<W9.length
 ·rw[Zs z,if_pos rfl,if_neg 'c'];rfl
 ·rw[Zt z,if_neg 'v',if_pos 'c'];rfl
def ledF (a:Ad):List Lead->Option (Str×List Str)
 |[]=>No
 |x::ls=>match lawM x.ps a with
  |some b=>So (x.l,x.gs.flatMap QdR)
  |none=>ledF a ls
noncomputable def ledR:Option (Str×List Str)->Rs D
 |none=>.ok .non
 |some r=>if r.2.length<=8 then .ok (.tup [.str r.1,.tup (r.2.map .str)])else .ex EJ
noncomputable def loB:Sx:=(.seq Qcq
  Uh)
def JeC(U:Ag)(O:Fm)(h:AX)(b:Nat)(body:Sx)(J:Ao)(src:Px)(j:evD U src O=.ok A2):Jb (exD U (.seq (.loop Fo h b src body) IC) O)=match forL h b EH J O with
  |.ok (.nx,_)=>.ok .non
  |.ok (.rt d,_)=>.ok d
  |.ok _=>.sk
  |.ex c=>.ex c
  |.sk=>.sk:=by
 rw[dA,dD,j];simp only[Rs.bo,sC,ZU,Zh,Zo];cases forL h b EH J O with
 |ok r=>obtain⟨f,e⟩:=r;cases f<;>rfl
 |ex c=>rfl
 |sk=>rfl
theorem Jnw(c:Nat)(P:D)(a:Ad)(m:∀w∈a,w∈wsA)(E:a.length<=20):∀(ls:Cm)(v q u j:Bl),(∀x∈ls,LX x)->∃O,forL [2,3,4] 3 (exD C1 loB) Gq [So P,So IB,v,q,u,j]=match ledF a ls with
  |none=>.ok En
  |some r=>if r.2.length<=8 then .ok (.rt (.tup [.str r.1,.tup (r.2.map .str)]),O)else .ex EJ
 |[],v,q,u,j,_=>Au
 |x::ls,v,q,u,j,h=>by
  have f:=h x Af
  have I:=mt x.ps a Bo f.rl m (by have:=f.len;lia)
  rw[Zg]
  simp only[Lead.d,forL,Jv,n25,n35,Zo,Zl,jD,Nat.reduceAdd,Nat.reduceEqDiff,if_true,Zo,Zg,vD,Rs.bo,Jt,List.set]
  rw[loB,dH _ _ _ (Ja _ _ (J:=[patD x.ps,.tup Gr]) rfl I)]
  simp only[List.set]
  unfold ledF
  cases G:lawM x.ps a with
  |none=>
   rw[n_if _ _ (b:=Fo) _ _ (Jq _ _ (x:=.non) rfl rfl)]
   exact Jnw c P a m E ls _ _ _ _ λy H=>h y (by simp[H])
  |some M=>
   obtain⟨kv,rfl,B,F⟩:=uW x.ps a M f.rl m E G
   have C:(kv.map (·.1)).Nodup:=by rw[B];exact f.nd
   have o:kv.length<=1000:=by
    have:kv.length=(Jk x.ps).length:=by rw[<-B,Ze]
    have:=xN x.ps;have:=f.len;lia
   have s:=goal_address (JwD f B F) f.gl C o AW;have L:exD C1 'Ъ' 'œ'=if(x.gs.flatMap DX).length<=8 then .ok (.rt (.tup [.str x.l,.tup ('ŝ'.map .str)]),'œ')else .ex EJ:=by
    rw[dM,JvH,fQ,fQ,Ja _ _ (J:=[patD x.gs,.lst Fg]) rfl s];by_cases z:'ŝ'.length<=8
    ·rw[if_pos z,if_pos z];rfl
    ·rw[if_neg z,if_neg z];rfl
   rw[n_if _ _ (b:=To) _ _ (Jq _ _ (x:=.lst Fg) rfl rfl),if_pos rfl];simp only[opt];rw[show exD (runD defs (c+1+4)) 'Ъ' 'œ'=_ from L];rw[mR];refine⟨'œ',?_⟩;by_cases z:'ŝ'.length<=8
   ·simp only[if_pos z];rfl
   ·simp only[if_neg z];rfl
def led_on(h:∀x∈ls,LX x)(b:∀w∈a,w∈wsA)(f:a.length<=20)(c:Nat):runD defs (c+6) 30 [.tup Gq,.tup Gr]=ledR bA:=by
 obtain⟨O,e⟩:=Jnw c BN a b f ls No No No No h;rw[JjL,show nR=.seq 'Կ' (.ret Dw)from rfl,JeC _ _ _ _ _ 'L' _ rfl,e];cases ledF a ls with
 |none=>rfl
 |some r=>
  unfold ledR;by_cases z:r.2.length<=8
  ·simp only[if_pos z]
  ·simp only[if_neg z]
structure WS(W9:Ad):Prop where
 n:∀w∈W9,(Part.number (S "x")).fits w=To->strX (.int Tq)∈W9
 s:∀w∈W9,strX (.str w)∈W9
 g:∀w∈wg4,w∈W9
def Jxm:WS wsA:=⟨by decide+kernel,by decide+kernel,by decide+kernel⟩
def Juc(f:WS W9)(p:Part)(b:w∈W9)(h:p.fits w=To):strX (p.valD w)∈W9/\dN 'ѩ'=[]:=by
 cases p with
 |number n=>exact⟨f.n w b h,rfl⟩
 |_=>exact⟨f.s w b,rfl⟩
def VIn(W9:Ad)(v:D):Prop:=(∃ws:List Str,v=.tup DS/\∀w∈ws,w∈W9)\/(strX v∈W9/\dN v=[])
theorem JwJ(j:WS W9):∀(ps:AB)(a:Ad)(vs:Ao),(∀w∈a,w∈W9)->lawM ps a=So vs->∀e∈kvOf vs,VIn W9 e.2
 |[],a,vs,_,h=>by
  unfold lawM at h
  split at h
  ·cases h;intro e b;cases b
  ·cases h
 |p::ps,a,vs,ha,h=>by
  unfold lawM at h
  cases f:p.isRest with
  |true=>
   rw[f,if_pos rfl]at h
   cases h
   intro e b
   simp only[kvOf,ZW,List.filterMap_nil,Zx]at b
   subst b
   exact .inl ⟨a,rfl,ha⟩
  |false=>
   rw[f,if_neg 'v']at h
   cases a with
   |nil=>cases h
   |cons w a=>
    simp only at h
    split at h
    ·rename_i m
     rw[yD]at h
     obtain⟨o,e,rfl⟩:=h
     have r:=JwJ j ps a o (λx q=>ha x (by simp[q])) e
     intro e b
     rw[kvOf,List.filterMap_append,ZS]at b
     rcases b with b|b
     ·unfold Part.val at b
      split at b
      ·cases b
      ·simp only[ZW,List.filterMap_nil,Zx]at b
       subst b
       exact .inr (Juc j p KL m)
     ·exact r e b
    ·cases h
def JkV(h:∀e∈kv,VIn W9 e.2){k:Str}{v:D}(e:kv.lookup k=So v):VIn W9 v:=by
 induction kv with
 |nil=>cases e
 |cons x kv f=>
  rw[Zm]at e;split at e
  ·cases e;exact h x Af
  ·exact f (λy b=>h y (by simp[b])) e
def wG_in(E:WS W9)(h:∀e∈kv,VIn W9 e.2)(B:g.isWord=To->∃x∈wg4,g=.word x)(z:GV kv g):∀w∈wG kv g,w∈W9:=by
 intro w b;unfold wG at b;cases q:g.isWord with
 |true=>rw[q,if_pos rfl]at b;obtain⟨x,f,rfl⟩:=B q;rw[Zx.mp b];exact E.g _ f
 |false=>
  rw[q,if_neg 'v']at b;obtain⟨v,s,y⟩:=z q;have r:=JkV h s;rw[s]at b;simp only at b;rcases y with⟨j,u,o,rfl⟩|⟨j,x,f⟩
  ·rw[j,if_pos rfl,JZ]at b;rcases r with⟨m,e,C⟩|⟨_,e⟩
   ·have:u=m:=by rw[<-JZ u,e,JZ]
    subst this;exact C w b
   ·rw[JZ]at e;subst e;cases b
  ·rw[j,if_neg 'v']at b;rw[Zx.mp b];rcases r with⟨m,rfl,_⟩|⟨e,_⟩
   ·cases f
   ·exact e
theorem iX(m:WS W9)(o:∀w∈a,w∈wsA)(f:∀w∈a,w∈W9)(u:a.length<=20):∀{ls:Cm},(∀x∈ls,LOk x)->∀{r:Str×List Str},ledF a ls=So r->∀w∈r.2,w∈W9
 |[],_,r,e=>by cases e
 |x::ls,h,r,e=>by
  unfold ledF at e
  cases b:lawM x.ps a with
  |none=>
   rw[b]at e
   exact iX m o f u (λy v=>h y (by simp[v])) e
  |some F=>
   rw[b]at e
   cases e
   have j:=h x Af
   obtain⟨kv,rfl,C,E⟩:=uW x.ps a F j.x.rl o u b
   have s:=JwJ m x.ps a _ f b
   rw[mR]at s⊢
   have z:=JwD j.x C E
   intro w f
   obtain⟨g,q,B⟩:=kG.mp f
   exact wG_in m s (j.g.w g q) (z g q) w B
def Juq(b:∀w∈a,w∈wsA)(f:a.length<=20)(h:∀x∈ls,LOk x){r:Str×List Str}(e:ledF a ls=So r):∀w∈r.2,w∈wsA:=iX Jxm b b f h e
def wayF (ls:Cm):Nat->List (List Str)->List Str->List Str->Option (Option (List (List Str)×List Str×Bool))
 |0,_,_,_=>No
 |n+1,made,a,labs=>match ledF a ls with
  |none=>So (So (made,labs,Fo))
  |some (l,w)=>if 8<YN then So No else if made.contains w then So (So (made,labs++[l],To))else wayF ls n (made++[w]) w (labs++[l])
noncomputable def adD (a:Ad):D:=.tup Gr
def adL (m:Cn):D:=.lst W2
noncomputable def stL (l:Ad):D:=.lst (l.map .str)
def Jvj(a b:Ad):'ơ'.eqv (adD b)=(a==b):=by simp[adD,D.eqv,JjH]
theorem iV(w:Ad):∀m:List IF,('Ǯ'.any λd=>d.eqv YU)=m.contains w
 |[]=>rfl
 |x::m=>by
  rw[Zg,rB,iV w m,Jvj,iF]
  congr 1
  rw[kO,ZD,ZD]
  exact eq_comm
def n_out(U:Ag)(O:Fm){c:Px}{d:D}(rest:Sx)(f:evD U c O=.ok Cw)(b:FU):exD U Ut O=.ok Io:=by rw[dA,gJ,f];simp only[Rs.bo];rw[dM,b];rfl
def JsY(U:Ag)(O:Fm){d:D}(hi:O[i]? =So D5)(b:FU)(f:Ab<=1000000):
  exD U QdJ O=.ok Lv:=by have:Ab<lD:=uC f AO;rw[JvJ,hi];simp only[b,Rs.bo,ZU,jC,Zs this,oA,Zh,Zo]
noncomputable def pwB:Sx:=(.seq TJ
  (.seq U2
  (.seq O9
  Wc)))
def Jvf:∀w∈wsA,banD w=Fo:=by decide+kernel
def zP(h:∀w∈a,w∈wsA):keyD To BB=To:=by
 have:(a.map XD).all keyS=To:=by rw[kK,ZZ];intro w b;simp[keyS,Jvf w (h w b)]
 simp[keyD,adD,this]
def adK (m:Cn):D:=.dct To Fo W2 RJ
def put_run(U:Ag)(h f j b:Bl){k:Px}{m:Cn}{w:Ad}(s:∀x∈w,x∈wsA)(u:m.contains w=Fo)(r:m.length<1000000)(q:evD U k Kk=.ok YU):exD U (.put Fo To 2 k BI) Kk=.ok (.nx,[h,f,So (adK (m++[w])),j,b]):=by
 rw[hU];show(evD U BI Kk).bind (λy=>(evD U k Kk).bind λx=>if(Fo&&!y.imm)||!(To==To)||!keyD To x||!decide ('Ǯ'.length<1000000)then Rs.sk else Rs.ok (Fw.nx,List.set Kk 2 (So (.dct To Fo (putD x y W2 RJ).1 (putD x y W2 RJ).2))))=_;rw[q];have o:('Ǯ'.any λd=>d.eqv YU)=Fo:=by rw[iV,u]
 simp only[Rs.bo,kU,putD,o,zP s,Ze,Zs r];simp[adK]
def Jof{n:Nat}{made:Cn}{labs:Ad}{r:QK}(h:wayF ls n made a labs=So r):∀c,ledR bA=.ex c->r=No/\c=S "BadLead":=λc b=>by
 cases n with
 |zero=>cases h
 |succ n=>
  unfold wayF at h
  cases f:ledF a ls with
  |none=>rw[f]at b;cases b
  |some x=>
   rw[f]at b h
   unfold ledR at b
   simp only at h b
   by_cases z:x.2.length<=8
   ·rw[if_pos z]at b;cases b
   ·rw[if_neg z]at b
    rw[if_pos 'c']at h
    cases h
    cases b
    exact Ce
def wayR:Option (List (List Str)×List Str×Bool)->Rs D
 |none=>.ex EJ
 |some (m,l,b)=>.ok (.tup [adL m,stL l,.bl b])
theorem Jle(c:Nat)(h:∀x∈ls,LOk x)(m:Bl):∀(n k:Nat)(made:Cn)(a labs:Ad)(d:D)(r:QK),AL+n=900000->n<k->(∀w∈a,w∈wsA)->Xe<=20->labs.length+n<=900000->wayF ls n made a labs=So r->ledR bA=.ok d->Jb ((whlL (evD V3 'Ǧ') (exD V3 pwB) k [So BN,m,So cQ,So (stL labs),So d]).bind λr=>match r with
  |(.nx,env2)=>exD V3 QZ env2
  |r=>.ok r)=wayR r
 |0,k,made,a,labs,d,r,_,_,_,_,_,hw,_=>by cases hw
 |n+1,0,_,_,_,_,_,_,hk,_,_,_,_,_=>absurd hk Rv
 |n+1,k+1,made,a,labs,d,r,h1,hk,ha,hl,h2,hw,b=>by
  unfold wayF at hw
  unfold whlL
  cases s:ledF a ls with
  |none=>
   rw[s]at hw b
   cases hw
   cases b
   rfl
  |some x=>
   obtain⟨l,w⟩:=x
   rw[s]at hw b
   unfold ledR at b
   simp only at hw b
   by_cases z:w.length<=8
   ·rw[if_pos z]at b
    rw[if_neg (by lia:¬8<w.length)]at hw
    have b:d=.tup HI:=by cases b;rfl
    subst b
    rw[show evD 'ς' 'Ǧ' [So BN,m,So cQ,So (stL labs),So (.tup HI)]=.ok 'F' from rfl]
    simp only[Rs.bo]
    rw[pwB,iN _ _ _ (JsY _ _ (i:=3) (J:=labs.map .str) (d:=.str l) rfl rfl (by rw[Ze];lia))]
    simp only[List.set]
    have o:=Juq ha hl h s
    have j:∀u,evD V3 (.bi (.dIn To) Gj A0) [So BN,m,So cQ,u,So (.tup HI)]=.ok (.bl (made.contains w)):=λu=>Jd _ _ (x:=adD w) (y:=adK made) rfl rfl (by
     show(if To=To/\keyD To YU=To then Rs.ok (D.bl ((made.map adD).any λd=>d.eqv YU))else Rs.sk)=_
     rw[if_pos ⟨rfl,zP o⟩,iV])
    by_cases q:made.contains w=To
    ·rw[if_pos q]at hw
     cases hw
     rw[n_out _ _ (d:=.tup [adL made,stL (labs++[l]),.bl To]) _ ((j _).trans (by rw[q])) (by rw[stL,lB];rfl)]
     rfl
    ·rw[if_neg q]at hw
     rw[Jsj _ _ _ _ ((j _).trans (by rw[rK.mpr q])),iN _ _ _ (put_run _ _ _ _ _ o (rK.mpr q) Ae rfl),xC,Ja _ _ (J:=[.tup Gq,adD w]) rfl (led_on (a:=w) (λy v=>(h y v).x) o Ae c)]
     cases f:ledR (ledF w ls)with
     |ok B=>
      simp only[Rs.bo,List.set,ZU,Zh,Zo]
      rw[show labs.map D.str++[D.str l]=(labs++[l]).map D.str by simp]
      exact Jle c h m n k (made++[w]) w (labs++[l]) B r (by simp;lia) Ae o Ae (by simp;lia) hw f
     |ex e=>
      obtain⟨rfl,rfl⟩:=Jof hw e f
      rfl
     |sk=>
      exfalso
      unfold ledR at f
      split at f
      ·cases f
      ·split at f<;>cases f
   ·rw[if_neg z]at b
    cases b
def way_(h:∀x∈ls,LOk x)(m:∀w∈a,w∈wsA)(q:a.length<=20){r:QK}(o:wayF ls 899999 [a] a []=So r)(c:Nat):runD defs (c+7) 31 Bi=wayR r:=by
 have s:=led_on (a:=a) (λy u=>(h y u).x) m q c;have v:∀j f,exD V3 'Ѷ' [j,So BB,No,No,f]=.ok (.nx,[j,So BB,So (adK [a]),No,f]):=λj f=>by rw[dA];show exD V3 (.put To To 2 AD BI) [j,So BB,So Rf,No,f]=_;rw[hU];simp[putD,zP m,adK,D.imm]
 rw[r_way,show sU=.seq 'Ѷ' (.seq LI (.seq Qcr (.seq (.whl 1000000 'Ǧ' pwB) QZ)))from rfl,eD _ _ _ (v _ _),yL _ _ (J:=[]) _ rfl rfl];simp only[List.set];rw[dA,xC,Ja _ _ (J:=Bi) rfl s];cases b:ledR (ledF a ls)with
 |ok d=>simp only[Rs.bo,List.set,ZU,Zh,Zo];rw[dA,Jwg];exact Jle c h (So BB) 899999 1000000 [a] a [] d r rfl AO m q AO o b
 |ex e=>obtain⟨rfl,rfl⟩:=Jof o e b;rfl
 |sk=>
  exfalso;unfold ledR at b;split at b
  ·cases b
  ·split at b<;>cases b
theorem Jjk{α:Type}[DecidableEq α]:∀{xs ys:List α},xs.Nodup->(∀x∈xs,x∈ys)->Ac<=BD
 |[],_,_,_=>qA _
 |x::xs,ys,h,hs=>by
  have b:=hs x Af
  obtain⟨m,j⟩:=lC.mp h
  have o:=Jjk (ys:=ys.erase x) j λy f=>(List.mem_erase_of_ne (λe:y=x=>m (e▸f))).mpr (hs y (ZN _ f))
  rw[List.length_erase_of_mem b]at o
  have q:=List.length_pos_of_mem b
  simp only[Zl]
  lia
noncomputable def wU:List Str:=[S "a",S "b",S "7",S "0",S "new"]
def wU_ws:WS wU:=⟨by decide+kernel,by decide+kernel,by decide+kernel⟩
def wU_A:∀w∈wU,w∈wsA:=by decide+kernel
noncomputable def adsU:Nat->List IF
 |0=>[[]]
 |n+1=>[]::wU.flatMap λw=>(adsU n).map (w::·)
theorem JjF:∀(n:Nat)(a:Ad),Xe<=n->(∀w∈a,w∈wU)->a∈adsU n
 |0,a,h,_=>by rw[List.length_eq_zero_iff.mp (Nat.le_zero.mp h)];exact Zx.mpr rfl
 |n+1,[],_,_=>by simp[adsU]
 |n+1,w::a,h,hw=>by
  rw[adsU]
  refine ZN _ (kG.mpr ⟨w,hw w Af,ZE.mpr ⟨a,?_,rfl⟩⟩)
  exact JjF n a (by simpa using h) λx b=>hw x (by simp[b])
theorem xF(n:Nat):(adsU (n+1)).length=1+5*(adsU n).length:=by simp only[adsU,wU,vC,List.flatMap_nil,Zl,Zy,Ze,jD];lia
def Jxf:(adsU 8).length=488281:=by rw[xF,xF,xF,xF,xF,xF,xF,xF];rfl
def JtH{m:Cn}(nd:m.Nodup)(h:∀a∈m,Xe<=8/\∀w∈a,w∈wU):m.length<=488281:=by rw[<-Jxf];exact Jjk nd λa b=>JjF 8 a (h a b).1 (h a b).2
theorem JjJ(h:∀x∈ls,LOk x):∀(n:Nat)(made:Cn)(a labs:Ad),made.Nodup->(∀a∈made,Xe<=8/\∀w∈a,w∈wU)->a∈made->488282<=AL+n->∃r,wayF ls n made a labs=So r
 |0,made,a,labs,nd,hm,_,hn=>by have:=JtH nd hm;lia
 |n+1,made,a,labs,nd,hm,ha,hn=>by
  unfold wayF
  cases o:ledF a ls with
  |none=>exact Au
  |some x=>
   obtain⟨l,w⟩:=x
   simp only
   by_cases z:8<YN
   ·rw[if_pos z];exact Au
   ·rw[if_neg z]
    by_cases q:made.contains w=To
    ·rw[if_pos q];exact Au
    ·rw[if_neg q]
     have u:w∉made:=λz=>q (List.contains_iff_mem.mpr z)
     have j:=hm a ha
     have v:∀y∈w,y∈wU:=iX wU_ws (λy s=>wU_A y (j.2 y s)) j.2 Ae h o
     refine JjJ h n (made++[w]) w (labs++[l]) (gF.mpr ⟨nd,by simp,λb f c m e=>?_⟩) (λb f=>?_) Af (by simp;lia)
     ·rw[Zx.mp m]at e;exact u (e▸f)
     ·rcases ZS.mp f with f|f
      ·exact hm b f
      ·rw[Zx.mp f];exact⟨by lia,v⟩
theorem JmB:∀(n:Nat)(made:Cn)(a labs:Ad)(m:Cn)(l:Ad)(b:Bool),labs.length+1=AL->wayF ls n made a labs=So (So (m,l,b))->Xn+1=Yj+cond b 1 0/\made<+:m
 |0,_,_,_,_,_,_,_,h=>by cases h
 |n+1,made,a,labs,m,l,b,hl,h=>by
  unfold wayF at h
  cases f:ledF a ls with
  |none=>
   rw[f]at h
   cases h
   exact⟨by simpa using hl,List.prefix_refl _⟩
  |some x=>
   obtain⟨k,w⟩:=x
   rw[f]at h
   simp only at h
   by_cases z:8<YN
   ·rw[if_pos z]at h;cases h
   ·rw[if_neg z]at h
    by_cases q:made.contains w=To
    ·rw[if_pos q]at h
     cases h
     exact⟨by simp;lia,List.prefix_refl _⟩
    ·rw[if_neg q]at h
     obtain⟨o,j⟩:=JmB n (made++[w]) w (labs++[k]) m l b (by simp;lia) h
     exact⟨o,(List.prefix_append _ _).trans j⟩
def Jsk(h:∀x∈ls,LOk x)(j:∀w∈a,w∈wU)(v:a.length<=8):(∀c,runD defs (c+7) 31 Bi=.ex EJ)\/∃(m:Cn)(l:Ad)(b:Bool),Xn+1=(a::m).length+cond b 1 0/\∀c,runD defs (c+7) 31 Bi=.ok (.tup [adL (a::m),stL l,.bl b]):=by
 obtain⟨r,o⟩:=JjJ h 899999 [a] a [] Af (λb s=>by rw[Zx.mp s];exact⟨v,j⟩) Af (by show 488282<=1+899999;decide);have f:=way_ h (λw f=>wU_A w (j w f)) Ae o;cases r with
 |none=>exact .inl f
 |some x=>obtain⟨m,l,b⟩:=x;obtain⟨u,q,rfl⟩:=JmB 899999 [a] a [] m l b rfl o;exact .inr ⟨q,l,b,u,f⟩
structure TL(ps gs:AB):Prop where
 p:PL ps
 v:∀g∈gs,g.vp
 h:∀g∈gs,X5=Fo->∃p∈ps,Xg=Fo/\Fit p g
 nd:(Jk gs).Nodup
 len:gs.length<=6
 rl:Jm gs
 w:∀g∈gs,X5=To->g.name∈ws9
theorem Jmb(c:Nat)(P:D)(n:Str):∀(l:AB)(b:Bl),(∀q∈l,XG=Fo->q.name≠n)->∃y2,forL [2] 0 (exD CM hnB) P9 [So P,So aL,b]=.ok (.nx,[So P,So aL,y2])
 |[],b,_=>⟨b,rfl⟩
 |q::l,b,hu=>by
  have j:evD CM SQ [So P,So aL,So q.d]=.ok (.bl (!q.isWord&&(Yq==n))):=
   Jr _ _ (JB _ _ (Jp _ _ (x:=q.d) rfl (hole q c))) λ_=>Jd _ _ (x:=.str Yq) (y:=.str n) Qa6 rfl WA
  rw[Zg]
  simp only[forL,Jv,n25,n35,Zo,if_true,Rs.bo,Jt,List.set]
  have f:(!q.isWord&&(Yq==n))=Fo:=by
   cases m:q.isWord with
   |true=>rfl
   |false=>simpa using hu q Af m
  rw[hnB,n_if _ _ _ _ j,f];exact Jmb c P n l (So q.d) λr h=>hu r (by simp[h])
def Jli(h:∀q∈gs,XG=Fo->q.name≠n)(c:Nat):runD defs AW 10 [patD gs,.str n]=.ok .non:=by obtain⟨y2,e⟩:=Jmb c EA n gs No h;rw[Jdj,show rS=.seq '东' (.ret Dw)from rfl,dA,dD,show evD 'Ö' 'Õ' _=.ok (.lst Kg)from rfl];simp only[Rs.bo,sC,ZU,Zh,Zo,e];rfl
def JsC(n:Str)(ws:Ad)(c:Nat):runD defs Bo 25 ['Ǹ'.d,'Ͳ'.d]=.ok C7:=by have f:∀s,evD D9 Q2 [So 'Ǹ'.d,So 'Ͳ'.d]=.ok (.bl ('Ǹ'.kind==s)):=λs=>vH _ _ _ s rfl;have b:∀s,evD D9 NH [So 'Ǹ'.d,So 'Ͳ'.d]=.ok (.bl ('Ͳ'.kind==s)):=λs=>vH _ _ _ s rfl;rw[Jgo,yR,Jo _ _ _ _ 'Ʋ',if_neg (by simp[Part.kind]),Jo _ _ _ _ 'Ʋ',if_neg (by simp[Part.kind]),JJ];exact Jd _ _ (x:=.str (S "any")) (y:=.str (S "one")) rfl rfl ('ɏ'.trans Af)
def TL.cases(h:Ep)(v:p∈ps)(u:CW):(∀q∈gs,XG=Fo->q.name≠p.name)\/p∈gs\/∃n j,p=.one n j/\Part.any n∈gs:=by
 by_cases z:∃q∈gs,XG=Fo/\q.name=Xm
 ·obtain⟨q,b,m,f⟩:=z;obtain⟨s,y,r,o⟩:=h.h q b m;have:s=p:=wJ h.p.nd y v r u (by rw[<-o.name];exact f);subst this;rcases o with rfl|⟨n,j,rfl,rfl⟩
  ·exact .inr (.inl b)
  ·exact .inr (.inr ⟨n,j,rfl,b⟩)
 ·exact .inl λq b m f=>z ⟨q,b,m,f⟩
def TL.not(h:Ep){ws:Ad}(b:Part.any n∈gs):Part.one n ws∉gs:=λz=>by
 have:=wJ h.nd b z rfl rfl rfl
 cases this
def JlA(h:Ep)(o:p∈ps)(j:CW)(c:Nat):∃b:Bool,(b=To↔p∈gs)/\runD defs (c+3) 26 [patD gs,p.d]=.ok Cp:=by
 have f:∀U:CallD,evD U VN [So EA,So p.d,No]=.ok (.lst [patD gs,.str Xm]):=λU=>Jc _ _ rfl (Jc _ _ (mF p _ _ 1 rfl) rfl);rcases h.cases o j with z|z|⟨n,m,rfl,z⟩
 ·refine⟨Fo,⟨λq=>Bool.noConfusion q,λq=>absurd rfl (z p q j)⟩,?_⟩;rw[nS,yJ,nA _ _ (d:=.non) _ (Ja _ _ (f _) (Jli z c)),JJ];simp only[List.set];exact Jr _ _ (p:=Fo) (q:=Fo) (Jq _ _ (x:=.non) rfl rfl) λz=>by cases z
 ·refine⟨To,⟨λ_=>z,λ_=>rfl⟩,?_⟩;rw[nS,yJ,nA _ _ (d:=p.d) _ (Ja _ _ (f _) (hole_named h.nd z j c)),JJ];simp only[List.set];exact Jr _ _ (p:=To) (q:=To) (Jq _ _ (x:=p.d) rfl (by cases p<;>rfl)) λ_=>Ja _ _ (J:=[p.d,p.d]) rfl (fits_in Bd (h.p.srt p o) Bo)
 ·refine⟨Fo,⟨λq=>Bool.noConfusion q,λq=>absurd q (h.not z)⟩,?_⟩;rw[nS,yJ,nA _ _ (d:='Ǹ'.d) _ (Ja _ _ (f _) (hole_named h.nd (p:=Part.any n) z rfl c)),JJ];simp only[List.set];exact Jr _ _ (p:=To) (q:=Fo) (Jq _ _ (x:='Ǹ'.d) rfl rfl) λ_=>Ja _ _ (J:=['Ǹ'.d,(Part.one n m).d]) rfl (JsC n m Bo)
def JvB(E:l∈names9)(vp:∀p∈ps,p.vp)(r:∀p∈gs,p.vp)(H:Aj<60)(m:gs.length<60)(c:Nat)(f:Part->Bool)(j:patB ps=To->patB gs=To->∀g∈gs,X5=Fo->runD defs (c+6) 26 Hq=.ok (.bl (f g))):
  runD defs (c+7) 27 ['Ć'.d]=.ok (.bl (patB ps&&patB gs&&(gs.filter λg=>!g.isWord).all f)):=by
 have h:=is_name l E A6;have u:=is_pattern ps vp H c;have v:=is_pattern gs r m c;have z:=wF OJ 3 3 (c+5);have G:∀U,evD U DT [So 'Ć'.d]=.ok Qde:=λU=>Jd _ _ (x:='Ć'.d) (y:=.int 0) rfl rfl rfl;have F:∀U,evD U Fb [So 'Ć'.d]=.ok EM:=λU=>Jd _ _ (x:='Ć'.d) (y:=.int 1) rfl rfl rfl;have b:∀U,evD U E3 [So 'Ć'.d]=.ok EA:=λU=>Jd _ _ (x:='Ć'.d) (y:=.int 2) rfl rfl rfl;rw[JgE,wR,Jo _ _ (p:=Fo) _ _ (mD _ _ (p:=Fo) (q:=Fo) (JF _ _ (p:=To) (JB _ _ (Ja _ _ (J:=['Ć'.d,.int 3,.int 3]) rfl z))) λ_=>JF _ _ (p:=To) (JB _ _ (Jp _ _ (G _) h)))];simp only[Zh,Zo];rw[Jo _ _ _ _ (mD _ _ (p:=!patB ps) (q:=!patB gs) (JF _ _ (JB _ _ (Jp _ _ (F _) u))) λ_=>JF _ _ (JB _ _ (Jp _ _ (b _) v)))];cases C:patB ps with
 |false=>rfl
 |true=>
  cases s:patB gs with
  |false=>rfl
  |true=>simp only[oA,Bool.or_self,Zh,Zo,yH];rw[JJ];refine Jq _ _ (qF _ _ (rs:=gs) Xd (λg=>!g.isWord) (λg=>.bl (f g)) (by rw[nH,b];rfl) Ae λg o=>⟨JB _ _ (Jp _ _ (x:=g.d) rfl (hole g (c+5))),λB=>Ja _ _ (J:=Hq) (Jc _ _ (Jd _ _ (x:='Ć'.d) (y:=.int 1) rfl rfl rfl) rfl) (j C s g o (by simpa using B))⟩) ?_;simp only[op1,JX];simp
def TL.pb(h:Ep):patB gs=To:=by unfold patB;rw[vS gs h.rl,yS h.nd,Zs h.len];rfl
def JqP(ps gs:AB):Prop:=∀p∈ps,Xg=Fo->p∈gs
def TL.back(h:Ep)(v:l∈names9)(c:Nat):∃b:Bool,(b=To↔JqP ps gs)/\runD defs (c+7) 27 ['ǽ'.d]=.ok Cp:=by
 have C:=aA;have B:=X7;have q:∀p:Part,∃b:Bool,p∈ps->Xg=Fo->(b=To↔p∈gs)/\runD defs (c+6) 26 [patD gs,p.d]=.ok Cp:=λp=>by
  by_cases z:p∈ps/\p.isWord=Fo
  ·obtain⟨b,y⟩:=JlA h z.1 z.2 (c+3);exact⟨b,λ_ _=>y⟩
  ·exact⟨To,λu r=>absurd ⟨u,r⟩ z⟩
 obtain⟨f,o⟩:=qO.mp q;refine⟨(ps.filter λg=>!g.isWord).all f,?_,?_⟩
 ·rw[ZZ];constructor
  ·intro z p j m;exact(o p j m).1.mp (z p (mK.mpr ⟨j,by simpa using m⟩))
  ·intro z p j;rw[mK]at j;exact(o p j.1 (by simpa using j.2)).1.mpr (z p j.1 (by simpa using j.2))
 ·rw[JvB v h.v h.p.vp 'c' 'c' c f λ_ _ g s m=>(o g s m).2,h.p.pat,h.pb];rfl
def turned(l:Str)(ps gs:AB)(b:Bool)(c:Nat)(h:runD defs (c+7) 27 ['ǽ'.d]=.ok Cp):runD defs (c+8) 34 ['Ć'.d]=.ok (if b then(Lead.mk l gs ps).d else .non):=by rw[Jpc,vX,nA _ _ (d:='ǽ'.d) _ rfl,JJ];simp only[List.set];rw[e_if _ _ (JB _ _ (Jp _ _ (x:='ǽ'.d) rfl h))];cases b<;>rfl
noncomputable abbrev BV:Str:=S "BadValues"
def JpX(x:Str)(h:nF Cr=To):iE (.lst [.str x])=To:=by simp[iE,h]
theorem JlU(c:Nat)(O:Fm):∀ps:List Part,JO 0 (evD CM My) (evD CM Fb) O CO=.ok ('Ư'.map .str)
 |[]=>rfl
 |p::ps=>by
  have j:=JlU c O ps
  have f:=hole p c
  have:=JN 0 (evD CM My) (evD CM Fb) O p.d CO (new:=[So p.d]) rfl (p:=!p.isWord) (by simp[f]) (y:=.str Xm) (λh=>by
   cases p<;>first|(simp[Part.isWord]at h;done)|simp[Part.d,Part.name]) j
  rw[Zg,this]
  cases b:p.isWord<;>simp[Jk,Part.hole,b]
theorem JtF(c:Nat)(ps:AB)(f:Aj<=1000):runD defs AW 9 Gn=.ok (.lst ('Ư'.map .str)):=by
 have h:=JlU c Ii ps;have b:Aj<=16777216:=by lia
 simp[Jdg,sS,kH,h,lD,b]
noncomputable def good (names:Ad):List (Str×D)->List (Str×D)->Bool
 |_,[]=>To
 |acc,x::kv=>names.contains x.1&&!(acc.any λy=>y.1==x.1)&&good names (acc++[x]) kv
noncomputable def vM:Sx:=(.seq US
  (.seq VF
  OO))
theorem JnC(k:Str):∀b:List Str,((b.map XD).any λd=>d.eqv D2)=b.contains k
 |[]=>rfl
 |x::b=>by
  simp only[Zg,rB,JnC k b,iF,D.eqv]
  rw[Bool.beq_comm]
def Jmg(k:Str)(acc:Dv):((ksD acc).any λd=>d.eqv D2)=acc.any λy=>y.1==k:=by simp only[ksD,yF];rfl
theorem JmG(U:Ag)(b:Ad)(P Q:Bl):∀(kv acc:Dv)(s u:Bl),(∀x∈kv,nF (.str x.1)=To)->Yh+kv.length<1000->
  ∃h o,forL [4,5] 2 (exD U vM) Fg [P,Q,So NG,So T6,s,u]=
   if good b acc kv then .ok (.nx,[P,Q,So NG,So (.dct Fo Fo (ksD (acc++kv)) (vsD (acc++kv))),h,o])else .ex BV
 |[],acc,s,u,_,_=>⟨s,u,by simp[forL,good]⟩
 |x::kv,acc,s,u,ht,hl=>by
  obtain⟨k,v⟩:=x
  have f:=Jrb (a:=.str k) (xs:=b.map XD) (by rw[xH];lia) WV
  rw[JnC]at f
  have C:=JpX k (ht (k,v) Af)
  have r:op2 (.dIn Fo) D2 T6=.ok (.bl (acc.any λy=>y.1==k)):=by
   rw[<-Jmg];rfl
  rw[Zl]at hl;obtain⟨h,o,H⟩:=JmG U b P Q kv (acc++[(k,v)]) (So D2) BO (λx E=>ht x (by simp[E])) (by simp;lia);cases q:b.contains k with
  |false=>
   rw[q]at f;refine bJ;have j:good b acc ((k,v)::kv)=Fo:=by rw[good,q];rfl
   rw[j];simp[Zg,rowD,forL,Jv,n25,n35,Zo,Jt,vM,f,C]
  |true=>
   rw[q]at f;cases m:(acc.any λy=>y.1==k)with
   |true=>
    rw[m]at r;refine bJ;have j:good b acc ((k,v)::kv)=Fo:=by rw[good,q,m];rfl
    rw[j];simp[Zg,rowD,forL,Jv,n25,n35,Zo,Jt,vM,f,r,C]
   |false=>
    rw[m]at r;refine bJ;have j:good b acc ((k,v)::kv)=good b (acc++[(k,v)]) kv:=by rw[good,q,m];simp
    have G:putD D2 v (ksD acc) (vsD acc)=(ksD (acc++[(k,v)]),vsD (acc++[(k,v)])):=by unfold putD;rw[Jmg,m];simp[ksD,vsD]
    have F:(ksD acc).length<1000000:=by simp[ksD];lia
    rw[j,show acc++(k,v)::kv=(acc++[(k,v)])++kv by simp,<-H];have z:keyD Fo D2=To:=rfl;generalize ksD acc=A at*;generalize vsD acc=B at*;simp[Zg,rowD,forL,Jv,n25,n35,Zo,Jt,vM,f,r,G,Nat.not_le.mpr F,z]
theorem Jpl(c:Nat)(ps:AB)(kv:Dv)(B:Aj<=100)(r:∀x∈kv,nF (.str x.1)=To)(q:kv.length<1000):
  runD defs (c+3) 21 [.tup CO,.lst Fg]=if good WN [] kv&&decide ('Ư'.length<=Z4)then .ok Dq else .ex BV:=by
 have f:=JtF c ps Ae;obtain⟨v,y,b⟩:=JmG DG WN (So FS) (So IA) kv [] No No r (by simpa using q);have u:Jah=.seq Qcn (.seq (.ownD Fo 3) (.seq (.loop Fo [4,5] 2 Pa vM)
  (.seq Wp (.retF 3)))):=rfl
 have j:∀z:List D,op1 .dLen (.dct Fo Fo z aK)=.ok QbC:=λ_=>rfl;have s:iE GH=To:=rfl;rw[Jdn,u];simp only[mB,ksD,vsD,vD]at b;cases o:good WN [] kv with
 |false=>rw[o]at b;generalize Jk ps=H at*;generalize kv.map rowD=R at*;generalize ps.map Xd=PD at*;simp[f,b]
 |true=>
  rw[o]at b;by_cases m:'Ư'.length<=Z4
  ·have h:¬((Z4:Int)<('Ư'.length:Int)):=by lia
   generalize kv.map rowD=R at*;generalize ps.map Xd=PD at*;simp[f,b,j,m,h,op1]
  ·have h:((Z4:Int)<('Ư'.length:Int)):=by lia
   generalize kv.map rowD=R at*;generalize ps.map Xd=PD at*;simp[f,b,j,m,h,op1,s]
theorem Jod(b:Ad):∀(kv acc:Dv),(∀x∈kv,x.1∈b)->((acc++kv).map (·.1)).Nodup->good b acc kv=To
 |[],acc,_,_=>rfl
 |x::kv,acc,h,hn=>by
  have m:b.contains x.1=To:=by simpa using h x Af
  have j:(acc.any λy=>y.1==x.1)=Fo:=by
   rw[List.any_eq_false];intro y f e;have e:y.1=x.1:=by simpa using e
   rw[lB,gF]at hn;exact hn.2.2 y.1 (gC f) x.1 Af e
  rw[good,m,j,Jod b kv (acc++[x]) (λy f=>h y (by simp[f])) (by simpa using hn)];rfl
def JiJ(h:w∈wsA):strX Cq=w:=by
 have b:∀w∈wsA,YN<=1000:=by decide+kernel
 simp only[strX,op1,if_pos (b w h)]
def JoP:∀w∈wsA,numW w=To->strX (.int Tq)=w:=by decide+kernel
def valX(p:Part)(f:p.isRest=Fo)(j:CW)(h:w∈wsA)(b:p.fits w=To):strX 'ѩ'=w:=by
 cases p with
 |word x=>cases j
 |rest n=>cases f
 |number n=>exact JoP w h b
 |any n=>exact JiJ h
 |one n m=>exact JiJ h
def qQ(kv:Dv)(h:g.isWord=To):wG kv g=[g.name]:=by simp[wG,h]
def gR{v:D}(h:g.isWord=Fo)(b:g.isRest=Fo)(f:kv.lookup XN=So v):wG kv g=[strX v]:=by simp[wG,h,b,f]
def uQ{ws:Ad}(h:g.isWord=Fo)(b:g.isRest=To)(f:kv.lookup XN=So D6):wG kv g=ws:=by simp[wG,h,b,f,JZ]
def vN(h:p.isRest=To):p.isWord=Fo:=by cases p<;>first|rfl|cases h
theorem lawB:∀(ps:AB)(a:Ad)(vs:Ao),Jm ps->(∀w∈a,w∈ws9)->lawM ps a=So vs->∃kv:List (Str×D),vs=kv.map rowD/\kv.map (·.1)=Jk ps/\(∀f:List (Str×D),(∀e∈kv,f.lookup e.1=So e.2)->ps.flatMap (wG f)=a)/\
  (∀p∈ps,Xg=Fo->Xf=Fo->∃w∈a,p.fits w=To/\(Xm,p.valD w)∈kv)/\(∀p∈ps,Xf=To->∃ws:List Str,(∀w∈ws,w∈a)/\ws.length+Aj=Xe+1/\(Xm,.tup DS)∈kv)
 |[],a,vs,_,_,h=>by
  unfold lawM at h
  split at h
  ·rename_i z
   cases h
   exact⟨[],rfl,rfl,λ_ _=>by simpa using z.symm,by simp,by simp⟩
  ·cases h
 |p::ps,a,vs,rl,ha,h=>by
  unfold lawM at h
  cases s:p.isRest with
  |true=>
   rw[s,if_pos rfl]at h
   cases h
   have I:=vN s
   have P:=rl.1 s
   subst P
   refine⟨[(Xm,.tup Gr)],rfl,by simp[Jk,Part.hole,I],λf v=>?_,λq j m B=>?_,λq j _=>?_⟩
   ·have:=v _ (Zx.mpr rfl)
    simp[uQ I s this]
   ·rw[Zx.mp j,s]at B;cases B
   ·rw[Zx.mp j]
    exact⟨a,λw m=>m,by simp,by simp⟩
  |false=>
   rw[s,if_neg 'v']at h
   cases a with
   |nil=>cases h
   |cons w a=>
    simp only at h
    split at h
    ·rename_i o
     rw[yD]at h
     obtain⟨U,e,rfl⟩:=h
     obtain⟨kv,rfl,E,L,H,M⟩:=lawB ps a U rl.2 (λx y=>ha x (by simp[y])) e
     have C:∀u:List (Str×D),(∀e∈kv,e∈u)->∀q∈p::ps,bX=To->∃ws:List Str,(∀x∈ws,x∈w::a)/\ws.length+(p::ps).length=(w::a).length+1/\(Yq,.tup DS)∈u:=λu Z q j b=>by
      rcases Zf.mp j with rfl|j
      ·rw[s]at b;cases b
      ·obtain⟨ws,N,w2,X⟩:=M q j b
       exact⟨ws,λx y=>by simp[N x y],by simp only[Zl];lia,Z _ X⟩
     cases m:p.isWord with
     |true=>
      have y:[p.name]=[w]:=by
       cases p with
       |word x=>
        have:w=x:=by simpa[Part.fits]using o
        rw[this];rfl
       |_=>cases m
      refine⟨kv,by simp[Part.val,m],by simp[Jk,Part.hole,m]at E⊢;exact E,λf v=>?_,λq j r b=>?_,C kv λ_ h=>h⟩
      ·rw[vC,qQ _ m,L f v,y];rfl
      ·rcases Zf.mp j with rfl|j
       ·rw[m]at r;cases r
       ·obtain⟨x,G,F⟩:=H q j r b;exact⟨x,by simp[G],F⟩
     |false=>
      refine⟨Qs::kv,by simp[Part.val,m,rowD],by simp[Jk,Part.hole,m]at E⊢;exact E,λf v=>?_,λq j r b=>?_,C _ λ_ h=>ZN _ h⟩
      ·rw[vC,gR m s (v Qs mG),L f λe W=>v e (by simp[W]),valX p s m (ws_A KL) o];rfl
      ·rcases Zf.mp j with rfl|j
       ·exact⟨w,by simp,o,by simp⟩
       ·obtain⟨x,G,F,Y⟩:=H q j r b;exact⟨x,by simp[G],F,by simp[Y]⟩
    ·cases h
structure KG(kv:Dv)(g:Part):Prop where
 w:g.isWord=To->g.name∈ws9
 h:g.isWord=Fo->g.isRest=Fo->∃w∈ws9,kv.lookup XN=So (g.valD w)/\g.fits w=To
 r:g.isRest=To->∃ws:List Str,(∀w∈ws,w∈ws9)/\ws.length<=8/\kv.lookup XN=So D6
def vals2 (kv:Dv) (gs:AB):List (Str×D):=(Jk gs).map λn=>(n,'Љ'.getD .non)
def Jkr(kv:Dv)(g:Part)(gs:AB):vals2 kv (g::gs)=g.hole.map (λn=>(n,'Љ'.getD .non))++vals2 kv gs:=by simp[vals2,Jk]
theorem lawI(kv:Dv):∀gs:List Part,Jm gs->(∀g∈gs,KG kv g)->lawM gs 'Ģ'=So ('ƽ'.map rowD)/\∀w∈gs.flatMap DX,w∈ws9
 |[],_,_=>⟨rfl,by simp⟩
 |g::gs,rl,h=>by
  have s:=h g Af
  obtain⟨u,v⟩:=lawI kv gs rl.2 λq B=>h q (by simp[B])
  rw[vC,Jkr]
  cases j:g.isRest with
  |true=>
   have f:=vN j
   have z:=rl.1 j
   subst z
   obtain⟨C,o,r,m⟩:=s.r j
   rw[uQ f j m]
   refine⟨?_,by simpa using o⟩
   simp[lawM,j,vals2,Jk,Part.hole,f,m,rowD]
  |false=>
   cases f:g.isWord with
   |true=>
    rw[qQ _ f]
    have y:g.fits XN=To:=by
     cases g with
     |word x=>simp[Part.fits,Part.name]
     |_=>cases f
    refine FD
    ·simp[lawM,j,y,u,Part.val,f,Part.hole]
    ·intro x b
     rcases ZS.mp b with b|b
     ·rw[Zx.mp b];exact s.w f
     ·exact v x b
   |false=>
    obtain⟨w,o,r,m⟩:=s.h f j;rw[gR f j r,valX g j f (ws_A o) m];refine FD
    ·simp[lawM,j,m,u,Part.val,f,Part.hole,r,rowD]
    ·intro x b
     rcases ZS.mp b with b|b
     ·rw[Zx.mp b];exact o
     ·exact v x b
theorem Jjt(f:Str->D):∀(l:Ad)(n:Str),n∈l->(l.map λn=>(n,f n)).lookup n=So (f n)
 |[],_,h=>by cases h
 |x::l,n,h=>by
  rw[Zg,Zm]
  by_cases z:n=x
  ·simp[z]
  ·have:(n==x)=Fo:=by simpa using z
   rw[this]
   exact Jjt f l n (by simpa[z]using h)
theorem sF:∀{kv:Dv},(kv.map (·.1)).Nodup->∀e∈kv,kv.lookup e.1=So e.2
 |[],_,e,h=>by cases h
 |x::kv,nd,e,h=>by
  rw[Zg,lC]at nd
  rw[Zm]
  rcases Zf.mp h with rfl|h
  ·simp
  ·have:(e.1==x.1)=Fo:=by
    rw[ZC];exactλz=>nd.1 (by rw[<-z];exact gC h)
   rw[this];exact sF nd.2 e h
theorem KG.gv(h:QcE):GV kv g:=λq=>by
 cases b:g.isRest with
 |true=>
  obtain⟨o,j,m,f⟩:=h.r b
  exact⟨_,f,.inl ⟨rfl,o,by lia,rfl⟩⟩
 |false=>
  obtain⟨w,j,m,f⟩:=h.h q b
  exact⟨_,m,.inr ⟨rfl,oQ g b (ws_A j)⟩⟩
def led1(v:lawM ps a=So Fg)(u:Jm ps)(r:∀w∈a,w∈ws9)(B:Aj<=100)(z:(kv.map (·.1)).Nodup)(q:kv.length<=1000)(o:∀g∈gs,KG kv g)(j:gs.length<=6)(s:'Ģ'.length<=8)(c:Nat):runD defs (c+6) 30 [.tup ['Ć'.d],.tup Gr]=.ok (.tup [.str l,.tup ('Ģ'.map .str)]):=by
 have f:=mt ps a Bo u (λw y=>ws_A (r w y)) Ae;rw[v]at f;have h:=goal_address (λg m=>(o g m).gv) j z q AW;rw[if_pos s]at h;rw[JjL,show nR=.seq 'Կ' (.ret Dw)from rfl,JeC _ _ _ _ _ ['Ć'.d] _ rfl];have e:∃O,forL [2,3,4] 3 (exD C1 loB) ['Ć'.d] [So (.tup ['Ć'.d]),So IB,No,No,No,No]=.ok (.rt (.tup [.str l,.tup ('Ģ'.map .str)]),O):=by simp only[Lead.d,forL,Jv,n25,n35,Zo,Zl,jD,Nat.reduceAdd,Nat.reduceEqDiff,if_true,Zo,Zg,vD,Rs.bo,Jt,List.set];rw[loB,dH _ _ _ (Ja _ _ (J:=[patD ps,.tup Gr]) rfl f)];simp only[List.set,opt];rw[n_if _ _ (b:=To) _ _ (Jq _ _ (x:=.lst Fg) rfl rfl),if_pos rfl,dM,pC _ _ (J:=[.str l,.tup ('Ģ'.map .str)]) (Jc _ _ rfl (Jc _ _ (Ja _ _ (J:=Qb4) rfl h) rfl)) 'j'];exact Au
 obtain⟨O,e⟩:=e;rw[e]
structure LF(ps gs:AB)(a:Ad)(kv:Dv):Prop where
 nm:kv.map (·.1)=Jk ps
 nd:(kv.map (·.1)).Nodup
 len:kv.length<=10
 p:∀p∈ps,Xg=Fo->KG kv p
 g:∀g∈gs,KG kv g
 back:∀kv':List (Str×D),(∀e∈kv,kv'.lookup e.1=So e.2)->ps.flatMap (wG kv')=a
theorem lf_of(h:Ep)(s:∀w∈a,w∈ws9)(W:a.length<=8){vs:Ao}(N:lawM ps a=So vs):∃kv,vs=kv.map rowD/\LF ps gs a kv:=by
 have P:=aA;obtain⟨kv,rfl,v,H,I,L⟩:=lawB ps a vs h.p.rl s N;have f:(kv.map (·.1)).Nodup:=by rw[v];exact h.p.nd
 have m:=sF f;have G:kv.length<=10:=by have:=xB cY v;rw[Ze]at this;have:=xN ps;lia
 have B:∀p∈ps,Xg=Fo->KG kv p:=λp y b=>by
  refine⟨λz=>(by rw[b]at z;cases z),λ_ u=>?_,λu=>?_⟩
  ·obtain⟨w,j,r,o⟩:=I p y b u;exact⟨w,s w j,m _ o,r⟩
  ·obtain⟨E,j,r,o⟩:=L p y u;have:=List.length_pos_of_mem y;exact⟨E,λw b=>s w (j w b),by lia,m _ o⟩
 refine⟨kv,rfl,v,f,G,B,λg C=>?_,H⟩;cases b:g.isWord with
 |true=>exact⟨λ_=>h.w g C b,λz=>(by rw[b]at z;cases z),λz=>(by rw[vN z]at b;cases b)⟩
 |false=>
  obtain⟨p,U,F,M⟩:=h.h g C b;have q:=B p U F;rcases M with rfl|⟨n,E,rfl,rfl⟩
  ·exact q
  ·obtain⟨w,j,r,o⟩:=q.h rfl rfl;exact⟨λz=>(by cases z),λ_ _=>⟨w,j,r,rfl⟩,λz=>(by cases z)⟩
def gW(kv:Dv)(gs:AB):'ƽ'.map (·.1)=Jk gs:=by simp[vals2,xO]
def qN(kv:Dv)(b:n∈Jk gs):'ƽ'.lookup n=So ('Љ'.getD .non):=Jjt _ _ n b
theorem tY(kv:Dv)(gs:AB):'ƽ'.length<=gs.length:=by have:=xB cY (gW kv gs);rw[Ze]at this;have:=xN gs;lia
def JlI(h:QcE)(q:g.isWord=Fo->g.name∈Jk gs):KG Fc g:=by
 refine⟨h.w,λo b=>?_,λb=>?_⟩
 ·obtain⟨w,j,m,f⟩:=h.h o b;exact⟨w,j,by rw[qN kv (q o),m];rfl,f⟩
 ·obtain⟨r,j,m,f⟩:=h.r b;exact⟨r,j,m,by rw[qN kv (q (vN b)),f];rfl⟩
def JtZ(h:QcE)(o:g.isWord=Fo->g.name∈Jk gs):wG Fc g=wG kv g:=by
 cases b:g.isWord with
 |true=>rw[qQ _ b,qQ _ b]
 |false=>
  cases f:g.isRest with
  |true=>obtain⟨r,q,m,j⟩:=h.r f;rw[uQ b f j,uQ b f (by rw[qN kv (o b),j];rfl)]
  |false=>obtain⟨w,q,m,j⟩:=h.h b f;rw[gR b f m,gR b f (v:=g.valD w) (by rw[qN kv (o b),m];rfl)]
def Jlk(h:∀g∈gs,KG kv g):gs.flatMap (wG Fc)=gs.flatMap DX:=by
 have:∀l:List Part,(∀g∈l,g∈gs)->l.flatMap (wG Fc)=l.flatMap DX:=λl=>by
  induction l with
  |nil=>intro _;rfl
  |cons g l m=>intro z;have b:=z g Af;rw[vC,vC,m λq f=>z q (by simp[f]),JtZ (h g b) λj=>JS gs g b j]
 exact this gs λg b=>b
theorem JlO(h:Ep)(I:JqP ps gs)(L:a.length<=8)(f:J8)(c:Nat):runD defs (c+6) 30 [.tup ['ǽ'.d],.tup ('Ģ'.map .str)]=.ok (.tup [.str l,.tup Gr]):=by
 have B:=aA;have E:=X7;have q:=sF f.nd;obtain⟨G,H⟩:=lawI kv gs h.rl f.g;have F:=gW kv gs;have m:∀p∈ps,Xg=Fo->p.name∈Jk gs:=λp o b=>JS gs p (I p o b) b;have r:∀p∈ps,KG Fc p:=λp o=>by
  cases b:p.isWord with
  |true=>
   refine⟨λ_=>?_,λz=>(by rw[b]at z;cases z),λz=>(by rw[vN z]at b;cases b)⟩;have:=h.p.ok p o;cases p with
   |word x=>exact this
   |_=>cases b
  |false=>exact JlI (f.p p o b) λb=>m p o b
 have j:ps.flatMap (wG Fc)=a:=f.back _ λe u=>by
  have v:e.1∈Jk ps:=by rw[<-f.nm];exact gC u
  have y:e.1∈Jk gs:=by
   simp only[Jk,kG]at v;obtain⟨p,C,s⟩:=v;cases b:p.isWord with
   |true=>simp[Part.hole,b]at s
   |false=>simp[Part.hole,b]at s;rw[s];exact m p C b
  rw[qN kv y,q e u];rfl
 have:=tY kv gs;have:=led1 (l:=l) (gs:=ps) G h.rl H Ae (by rw[F];exact h.nd) Ae r Ae (by rw[j];lia) c;rw[j]at this;exact this
def isnum{k:Int}(b:0<=k)(h1:k<=99999999)(c:Nat):runD defs Bo 19 [.int k]=.ok Cw:=by rw[JcS,JW,JJ];refine(Jr _ _ (p:=To) (q:=decide (0<=k)&&decide (k<=99999999)) rfl λ_=>Jr _ _ (p:=To) (q:=decide (0<=k)&&decide (k<=99999999)) rfl λ_=>Jr _ _ (p:=decide (0<=k)) (q:=decide (k<=99999999)) rfl λ_=>rfl).trans ?_;rw[Zs b,Zs h1];rfl
def JmI:∀w∈ws9,numW w=To->0<=num w/\num w<=99999999:=by decide+kernel
def w9_9(h:w∈ws9):w∈words9:=(by decide+kernel:∀w∈ws9,w∈words9) w h
def Jtl(h:QcE)(o:g.isWord=Fo)(c:Nat):∃v,kv.lookup XN=So v/\runD defs (c+5) 20 [g.d,v]=.ok Cw:=by
 have b:∀(v:D)(s:Str),evD Es Q2 [So g.d,So v]=.ok (.bl (Y2==s)):=λv s=>vH _ _ g s rfl;cases j:g.isRest with
 |true=>
  obtain⟨ws,m,r,f⟩:=h.r j;refine⟨_,f,?_⟩;obtain⟨n,rfl⟩:∃n,g=.rest n:=by cases g<;>first|exact Au|cases j
  rw[lS,zJ,Jo _ _ _ _ 'ϩ',if_neg (by simp[Part.kind]),Jo _ _ _ _ 'ϩ',if_pos (by simp[Part.kind])];exact Jr _ _ (p:=To) (q:=To) rfl λ_=>Jp _ _ (x:=.tup DS) rfl (are_words ws (λw o=>w9_9 (m w o)) Ae Bo)
 |false=>
  obtain⟨w,m,r,f⟩:=h.h o j;refine⟨_,r,?_⟩;cases g with
  |word x=>cases o
  |rest n=>cases j
  |number n=>obtain⟨u,z⟩:=JmI w m f;rw[lS,zJ,Jo _ _ _ _ 'ϩ',if_pos (by simp[Part.kind])];exact Jp _ _ (x:=.int Tq) rfl (isnum u z (c+3))
  |any n=>rw[lS,zJ,Jo _ _ _ _ 'ϩ',if_neg (by simp[Part.kind]),Jo _ _ _ _ 'ϩ',if_neg (by simp[Part.kind]),Jo _ _ _ _ 'ϩ',if_neg (by simp[Part.kind]),JJ];exact Jp _ _ (x:=.str w) rfl (is_word w (w9_9 m) AW)
  |one n ws=>rw[lS,zJ,Jo _ _ _ _ 'ϩ',if_neg (by simp[Part.kind]),Jo _ _ _ _ 'ϩ',if_neg (by simp[Part.kind]),Jo _ _ _ _ 'ϩ',if_pos (by simp[Part.kind])];refine Jd _ _ (x:=.str w) (y:=.tup DS) rfl rfl ((pU w ws).trans ?_);rw[show ws.any (λv=>v==w)=To by simpa[Part.fits]using f]
noncomputable def cvB:Sx:=(.ite UX (.seq Qco
  M9) .skip)
theorem Jng(c:Nat)(P:Bl):∀(gs:AB)(f:Bl),(∀g∈gs,KG kv g)->∃y2,forL [2] 0 (exD C1 cvB) Kg [P,So Dq,f,No]=.ok (.nx,[P,So Dq,y2,No])
 |[],f,_=>⟨f,rfl⟩
 |g::gs,f,h=>by
  have u:exD C1 cvB Nw=.ok (.nx,Nw):=by
   rw[cvB,n_if _ _ (b:=Fo) _ _ ?_]
   ·rfl
   ·refine(Jr _ _ (p:=!g.isWord) (q:=Fo) (JB _ _ (Jp _ _ (x:=g.d) rfl (hole g A6))) λr=>?_).trans Af;obtain⟨v,s,m⟩:=Jtl (h g Af) (by simpa using r) c;exact JF _ _ (p:=To) (JB _ _ (Ja _ _ (J:=[g.d,v]) (Jc _ _ rfl (Jc _ _ (Jd _ _ (o:=.dGet Fo) (x:=.dct Fo To Qdf aK) (y:=.str XN) rfl (mF g _ _ 2 rfl) (Jqm s)) rfl)) m))
  rw[Zg];simp only[forL,Jv,n25,n35,Zo,if_true,Rs.bo,Jt,List.set];rw[u];exact Jng c P gs (So g.d) λq j=>h q (by simp[j])
def txt9:∀n∈names9,nF aL=To:=by decide+kernel
def JoI(h:∀g∈gs,KG kv g)(nd:(Jk gs).Nodup)(B:∀n∈Jk gs,n∈names9)(v:gs.length<=6)(z:'Ģ'.length<=8)(c:Nat):runD defs (c+7) 24 [patD gs,.lst ('ƽ'.map rowD)]=.ok (.tup ('Ģ'.map .str)):=by
 have q:∀g∈gs,KG Fc g:=λg j=>JlI (h g j) λu=>JS gs g j u;have nm:=gW kv gs;have C:=tY kv gs;have f:(Jk gs).length<='ƽ'.length:=by rw[<-nm,Ze];exact Zj _
 have r:=Jpl (c+3) gs Fc Ae (λx m=>txt9 _ (B _ (by rw[<-nm];exact gC m))) Ae;rw[Jod (Jk gs) 'û' [] (λx m=>by rw[<-nm];exact gC m) (by rw[mB,nm];exact nd),Zs f]at r;have s:runD defs (c+6) 22 SJ=.ok .non:=by obtain⟨y2,e⟩:=Jng c (So EA) gs No q;rw[Jes,show JaC=.loop Fo [2] 0 'Õ' cvB from rfl,dD,show evD 'Ý' 'Õ' _=.ok (.lst Kg)from rfl];simp only[Rs.bo,sC,ZU,Zh,Zo];rw[e];rfl
 have o:=words_with (gs:=gs) (λg j=>(q g j).gv) v A6;rw[Jlk h]at o;rw[Jug,qW,nA _ _ _ (Ja _ _ (J:=[patD gs,.lst ('ƽ'.map rowD)]) rfl r)];simp only[List.set];rw[eD _ _ _ (env2:=[So EA,So (.lst ('ƽ'.map rowD)),So (.dct Fo To (ksD Fc) (vsD Fc)),No]) (by rw[x_eff,Ja _ _ (J:=SJ) rfl s];rfl),nA _ _ _ (Ja _ _ (J:=SJ) rfl o)];simp only[List.set];generalize gs.flatMap DX=b at z;rw[dA,n_if _ _ (b:=Fo) _ _ ((Jd _ _ (x:=.int YM) (y:=.int 8) (Jq _ _ (x:=.lst Gg) rfl Af) rfl 'Ѫ').trans (by rw[Zt 'c']))];rfl
noncomputable def wp (a:Ad):List Part:=a.map Part.word
def JsK{q:Part}(f:CW)(h:q.isWord=Fo->q.name≠p.name):q.d.eqv p.d=Fo:=by
 have k:∀a b:Str,a≠b->(a==b)=Fo:=λa b z=>ZC.mpr z;cases q with
 |word x=>
  cases p with
  |word x=>cases f
  |one n m=>simp[Part.d,D.eqv,eqvs]
  |any n=>simp only[Part.d,D.eqv,eqvs];rw[show((S "word"==S "any"):Bool)=Fo by decide+kernel];rfl
  |number n=>simp only[Part.d,D.eqv,eqvs];rw[show((S "word"==S "number"):Bool)=Fo by decide+kernel];rfl
  |rest n=>simp only[Part.d,D.eqv,eqvs];rw[show((S "word"==S "rest"):Bool)=Fo by decide+kernel];rfl
 |_=>have j:=k _ _ (h rfl);cases p<;>first|(cases f;done)|(simp only[Part.name]at j;simp only[Part.d,D.eqv,eqvs];simp[j])
theorem Jlc(b:CW)(qs:AB):∀A:List Part,(∀q∈A,XG=Fo->q.name≠p.name)->idxD p.d ((A++p::qs).map Xd)=So A.length
 |[],_=>by
  have:=kY p
  simp only[mB,Zg,idxD]
  rw[oM p.d 'c',if_pos rfl]
  rfl
 |q::A,h=>by
  have:=Jlc b qs A λr f=>h r (by simp[f])
  simp only[Zg,yB,idxD]at this⊢
  rw[JsK b (h q Af),if_neg 'v',this]
  rfl
theorem Jwh(m:CW)(h:∀q∈A,XG=Fo->q.name≠p.name)(o:(A++p::qs).length<=6):op2 .indexT QaQ p.d=.ok Qh:=by
 have j:Jw (.tup ((A++p::qs).map Xd))=To:=by have:=zR Df;exact Zs (by simp only[D.dep];lia)
 have f:Jw p.d=To:=by have:=kY p;exact Zs Ae
 have b:((A++p::qs).map Xd).length<=1000:=by rw[Ze];lia
 simp only[op2,patD,j,f,Zs b,yK,if_true,Jlc m qs A h];rfl
theorem cutA(a:List α)(b:List α):cutD (a++b) No (So (Xe:Int))=a:=by
 have f:¬((Xe:Int)<0):=by lia
 simp only[cutD,six,f,Zo,dC,zK,Nat.sub_zero];rw[zD 'j',List.take_left]
theorem cutB(a:List α)(x:α)(b:List α):cutD (a++x::b) (So (Xe+1:Int)) No=b:=by
 have h:¬((Xe+1:Int)<0):=by lia
 have f:(Xe+1:Int).toNat=Xe+1:=by lia
 simp only[cutD,six,h,Zo,f];rw[zD 'j',ZY (by simp;lia)];rw[show a++x::b=(a++[x])++b by simp,show a.length+1=(a++[x]).length by simp,List.drop_left]
theorem Jke(s:CW)(h:∀q∈A,XG=Fo->q.name≠p.name)(m:(A++p::qs).length<=6)(z:Ad)(hz:z.length<=10)(c:Nat):runD defs Bo 40 PH=.ok (patD (A++wp z++qs)):=by
 have u:A.length+qs.length+1<=6:=by simp only[Zy,Zl]at m;lia
 rw[Jdm,Jai,nA _ _ _ (Jd _ _ (x:=patD Df) (y:=p.d) rfl rfl (Jwh s h m)),JJ];simp only[List.set];have j:(A++p::qs).map Xd=A.map Xd++p.d::qs.map Xd:=by simp
 have o:∀O:Fm,O[0]? =So (So QaQ)->O[3]? =So (So Qh)->evD D9 Sk O=.ok (patD A):=λO b f=>by have:=cutA (A.map Xd) (p.d::qs.map Xd);rw[Ze]at this;simp[b,f,op1,patD,j,this]
 have r:∀O:Fm,O[0]? =So (So QaQ)->O[3]? =So (So Qh)->evD D9 VM O=.ok (patD qs):=λO b f=>by have:=cutB (A.map Xd) p.d (qs.map Xd);rw[Ze]at this;simp[b,f,op1,patD,j,this]
 refine(Jd _ _ (x:=patD (A++wp z)) (y:=patD qs) (Jd _ _ (x:=patD A) (y:=patD (wp z)) (o _ rfl rfl) rfl ((dR (by simp[wp];lia)).trans (by simp[patD]))) (r _ rfl rfl) ((dR (by simp[wp];lia)).trans (by simp[patD])))
def JvM(nd:'Ư'.Nodup)(m:p∈ps)(f:CW)(c:Nat):runD defs (c+3) 39 Ry=.ok p.d:=by
 have h:=hole_named nd m f c;have j:op1 .isN p.d=.ok C7:=by cases p<;>rfl
 rw[Jfe,JaV,nA _ _ _ (Ja _ _ (J:=Ry) rfl h)];simp only[List.set];rw[dA,n_if _ _ (b:=Fo) _ _ (Jq _ _ (x:=p.d) rfl j)];rfl
def Jls(j:p.isRest=Fo)(h:w∈ws9)(m:p.fits w=To)(c:Nat):runD defs A6 41 La=.ok (.tup Gu):=by have o:=is_word w (w9_9 h) Bo;have f:=lets p w (ws_A h) Bo;rw[m]at f;rw[JdU,jT,dA,n_if _ _ _ _ (iY p _ _ 0 rfl),j,if_neg 'v',n_if _ _ (b:=To) _ _ ((Jr _ _ (p:=To) (q:=To) (JB _ _ (Jp _ _ (x:=.str w) rfl o)) λ_=>JB _ _ (Ja _ _ (J:=La) rfl f)).trans rfl)];rfl
def Jmk{x:Ad}(f:∀w∈x,w∈ws9)(m:x.length<=10)(c:Nat):runD defs A6 41 ['ɨ'.d,.tup Lf]=.ok (.tup Lf):=by have j:=are_words x (λw h=>w9_9 (f w h)) Ae c;rw[JdU,jT,dA,n_if _ _ (b:=To) _ _ (iY (.rest n) _ _ 0 rfl),if_pos rfl,n_if _ _ (b:=To) _ _ ((Jr _ _ (p:=To) (q:=To) (JB _ _ (Jq _ _ (x:=.tup Lf) rfl rfl)) λ_=>JB _ _ (Jp _ _ (x:=.tup Lf) rfl j)).trans rfl)];rfl
theorem JqO(nd:(Jk Df).Nodup)(j:CW)(s:(A++p::qs).length<=6)(z:Ad)(hz:(A++wp z++qs).length<=6){v:D}(c:Nat)(r:runD defs A6 41 [p.d,v]=.ok NF):runD defs (c+5) 42 [patD Df,.str Xm,v]=.ok (patD (A++wp z++qs)):=by
 have f:z.length<=10:=by simp only[Zy,wp,Ze]at hz;lia
 have m:∀q∈A,XG=Fo->q.name≠p.name:=λq u B e=>by rw[tR]at nd;exact(gF.mp nd).2.2 _ (JS A q u B) _ (JS (p::qs) p Af j) e
 rw[JjW,fZ,nA _ _ _ (Ja _ _ (J:=[patD Df,.str Xm]) rfl (JvM nd Af j Bo))];simp only[List.set];rw[nA _ _ _ (Ja _ _ (J:=[p.d,v]) rfl r)];simp only[List.set];have o:∀O:Fm,O[4]? =So (So NF)->evD Es (.un .tuple (.comp 0 (.walk C8) BI (.tup (.cons R9 C5)))) O=.ok (patD (wp z)):=λO h=>by refine Jq _ _ (x:=.lst ((wp z).map Xd)) ((uH _ _ (rs:=z) .str (λw=>'世'.d) (by simp[h,D.walk]) Ae λw _=>by rfl).trans (by simp[wp])) rfl
 rw[nA _ _ _ (Ja _ _ (J:=PH) (Jc _ _ rfl (Jc _ _ rfl (Jc _ _ (o _ rfl) rfl))) (Jke j m s z f (c+3)))];simp only[List.set];rw[dA,n_if _ _ (b:=Fo) _ _ (Jd _ _ (x:=.int (A++wp z++qs).length) (y:=.int 6) (Jq _ _ (x:=patD (A++wp z++qs)) rfl (by simp[patD])) rfl ('Ѫ'.trans (by rw[Zt 'c'])))];rfl
def JmN(z:Ad)(qs:AB)(y:Ad):lawM (wp z++qs) (z++y)=lawM qs y:=by
 induction z with
 |nil=>rfl
 |cons w z b=>
  have:'世'.fits w=To:=by simp[Part.fits]
  simp only[wp,Zg,yB,lawM,Part.isRest,Zh,Zo,this,if_true]at b⊢;rw[b];simp[Part.val,Part.isWord]
theorem Jjr:∀(A:AB){p:Part}{qs:AB}{a:Ad}{vs:Ao},Jm Df->lawM Df a=So vs->∃(y:Ad)(us:Ao),(∀w∈y,w∈a)/\y.length+A.length=Xe/\lawM (p::qs) y=So us/\(∀d∈us,d∈vs)/\∀b,(lawM b y).isSome=To->(lawM (A++b) a).isSome=To
 |[],p,qs,a,vs,_,h=>⟨a,vs,λ_ h=>h,rfl,h,λ_ h=>h,λ_ h=>h⟩
 |q::A,p,qs,a,vs,rl,h=>by
  rw[yB]at h rl
  unfold lawM at h
  cases f:q.isRest with
  |true=>
   have:=rl.1 f
   cases A<;>cases this
  |false=>
   rw[f,if_neg 'v']at h
   cases a with
   |nil=>cases h
   |cons w a=>
    simp only at h
    split at h
    ·rename_i s
     rw[yD]at h
     obtain⟨z,e,rfl⟩:=h
     obtain⟨y,us,o,C,u,B,m⟩:=Jjr A rl.2 e
     refine⟨y,us,λx j=>by simp[o x j],by simp only[Zl];lia,u,λd r=>ZL _ (B d r),λb v=>?_⟩
     rw[yB]
     unfold lawM
     rw[f,if_neg 'v']
     simp only[s,if_true]
     rw[zO]
     exact m b v
    ·cases h
noncomputable def Lead.row (x:Lead):Row:=⟨x.l,x.ps⟩
noncomputable abbrev tblD (ls:Cm):D:=.tup ('ǅ'.map Yt)
def JqI(U:Ag)(O:Fm){src:Px}(b:evD U src O=.ok (.lst Gq))(f:Ax<=1000):evD U (.un .tuple (.comp 0 src BI SN)) O=.ok G9:=
 Jq _ _ (x:=.lst ('ǅ'.map Yt)) ((uH _ _ (rs:=ls) YG (λx=>x.row.d) b f λx _=>by rfl).trans (by rw[uD];rfl)) rfl
def LOk.tl{x:Lead}(h:LOk x):TL x.ps x.gs:=⟨h.p,h.g.vp h.p,h.g.h,h.g.nd,h.g.len,h.g.rl,λg b j=>by
 obtain⟨w,f,rfl⟩:=h.g.w g b j
 exact wg_9 w f⟩
def TL.nm(h:Ep):∀n∈Jk gs,n∈names9:=λn j=>by
 simp only[Jk,kG]at j
 obtain⟨g,m,b⟩:=j
 have f:=h.v g m
 cases g with
 |word x=>cases b
 |one n o=>simp[Part.hole,Part.isWord,Part.name]at b;subst b;exact f.1
 |any n=>simp[Part.hole,Part.isWord,Part.name]at b;subst b;exact f
 |number n=>simp[Part.hole,Part.isWord,Part.name]at b;subst b;exact f
 |rest n=>simp[Part.hole,Part.isWord,Part.name]at b;subst b;exact f
theorem JiL:∀ls:List Lead,(ledF a ls=No/\(ls.map YO).find? Co=No)\/∃x∈ls,∃b,lawM x.ps a=So b/\ledF a ls=So (x.l,x.gs.flatMap QdR)/\(ls.map YO).find? Co=So x.row
 |[]=>.inl Ce
 |x::ls=>by
  unfold ledF
  rw[Zg]
  cases f:lawM x.ps a with
  |some b=>
   refine .inr ⟨x,by simp,b,f,rfl,?_⟩
   rw[eE,show hit a x.row=To by show(lawM x.ps a).isSome=To;rw[f];rfl]
  |none=>
   have e:List.find? Co (x.row::ls.map YO)='ǅ'.find? Co:=by
    rw[eE,show hit a x.row=Fo by show(lawM x.ps a).isSome=Fo;rw[f];rfl]
   rw[e];rcases JiL ls with h|⟨y,q,b,o,j,m⟩
   ·exact .inl h
   ·exact .inr ⟨y,by simp[q],b,o,j,m⟩
theorem Jqz:∀{ls:Cm},'ǧ'.Nodup->∀{x:Lead},x∈ls->ls.filter (λy=>y.l==x.l)=[x]
 |[],_,_,h=>by cases h
 |y::ls,nd,x,h=>by
  obtain⟨f,j⟩:=lC.mp nd
  rw[nK]
  rcases Zf.mp h with rfl|h
  ·have:ls.filter (λy=>y.l==x.l)=[]:=List.filter_eq_nil_iff.mpr λz m e=>f (by
    rw[<-gG e];exact gC m)
   simp[this]
  ·have b:(y.l==x.l)=Fo:=ZC.mpr λe=>f (by rw[e];exact gC h)
   rw[b,if_neg 'v']
   exact Jqz j h
def LF.val(f:J8){e:Str×D}(s:e∈kv):∃p∈ps,Xg=Fo/\p.name=e.1/\((Xf=Fo/\∃w∈ws9,e.2=p.valD w/\p.fits w=To)\/(Xf=To/\∃ws:List Str,(∀w∈ws,w∈ws9)/\ws.length<=8/\e.2=.tup DS)):=by
 have v:e.1∈Jk ps:=by rw[<-f.nm];exact gC s
 simp only[Jk,kG]at v;obtain⟨p,r,j⟩:=v;have b:=sF f.nd e s;cases h:p.isWord with
 |true=>simp[Part.hole,h]at j
 |false=>
  simp[Part.hole,h]at j;have k:=f.p p r h;refine⟨p,r,h,j.symm,?_⟩;rw[j]at b;cases u:p.isRest with
  |true=>obtain⟨ws,o,q,m⟩:=k.r u;rw[m]at b;exact .inr ⟨rfl,ws,o,q,(pA b).symm⟩
  |false=>obtain⟨w,o,q,m⟩:=k.h h u;rw[q]at b;exact .inl ⟨rfl,w,o,(pA b).symm,m⟩
def JsE(p:Part)(w:Str):'ѩ'.dep<=1:=by cases p<;>simp[Part.valD,D.dep]
theorem LF.dep(f:J8):∀e∈kv,(rowD e).dep<=3:=λe j=>by
 obtain⟨p,_,_,_,h⟩:=f.val j
 have:e.2.dep<=1:=by
  rcases h with⟨_,w,_,b,_⟩|⟨_,m,_,_,b⟩
  ·rw[b];exact JsE p w
  ·rw[b];simp[D.dep,xH]
 simp only[rowD,D.dep,deps];lia
def JoR(f:J8):∀e∈vals2 kv gs,e∈kv:=λe m=>by
 simp only[vals2,ZE]at m
 obtain⟨n,y,rfl⟩:=m
 simp only[Jk,kG]at y
 obtain⟨g,B,h⟩:=y
 have k:=f.g g B
 have b:∀v,kv.lookup n=So v->(n,'Љ'.getD .non)∈kv:=λv r=>by
  have:n∈kv.map (·.1):=by
   by_cases z:n∈kv.map (·.1)
   ·exact z
   ·exfalso;have:kv.lookup n=No:=by rw[List.lookup_eq_none_iff];intro p G;exact bne_iff_ne.mpr fun(q:n=p.1)=>z (by rw[q];exact gC G)
    rw[this]at r;cases r
  obtain⟨I,E,F⟩:=Jew this;rw[E];exact F
 cases j:g.isWord with
 |true=>simp[Part.hole,j]at h
 |false=>
  simp[Part.hole,j]at h;subst h;cases s:g.isRest with
  |true=>
   obtain⟨H,C,u,o⟩:=k.r s;exact b _ o
  |false=>
   obtain⟨w,C,u,o⟩:=k.h j s;exact b _ u
def JrZ(h:∀e∈kv,(rowD e).dep<=3){e:Str×D}(f:e∈kv):op2 .notin (rowD e) IA=.ok C7:=by
 have m:deps Fg<=3:=mQ λd b=>by obtain⟨x,j,rfl⟩:=ZE.mp b;exact h x j
 have o:=h e f;rw[Jrb _ _ 'c' 'c'];have:(kv.map rowD).any (λd=>d.eqv (rowD e))=To:=lG.mpr ⟨rowD e,gC f,oM _ Ae⟩;rw[this];rfl
theorem JiI{x:α}:∀{l:List α},x∈l->∃A B,l=A++x::B
 |[],h=>by cases h
 |y::l,h=>by
  rcases Zf.mp h with rfl|h
  ·exact⟨[],l,rfl⟩
  ·obtain⟨A,B,rfl⟩:=JiI h
   exact⟨y::A,B,rfl⟩
noncomputable def zC:Px:=.ite Lp Oa Qdc
theorem Jua(hp:Yr)(ha:∀w∈a,w∈ws9)(h6:a.length<7)(f:J8)(hm:lawM ps a=So Fg){e:Str×D}(he:e∈kv):∃(v':D)(qs:AB),(∀(U:Ag)(O:Fm),O[9]? =So (So e.2)->evD U zC O=.ok v')/\(∀c,runD defs (c+5) 42 [patD ps,.str e.1,v']=.ok (patD qs))/\∀c,runD defs (c+3) 16 Qec=.ok Cw:=by
 obtain⟨p,p1,M,Y,hv⟩:=f.val he
 obtain⟨A,qs,rfl⟩:=JiI p1
 have L:=hp.len
 have nd:=hp.nd
 have Z:=hp.rl
 have W:∀m:List Part,Jm m->Yj<=1000->(lawM m a).isSome=To->∀c,runD defs (c+3) 16 [patD m,adD a]=.ok Cw:=λm s o h3 c=>by
  rw[show adD a=.tup '=' from rfl,wX m a c (λw hw=>ws_A (ha w hw)) o,<-uN m a s,h3]
 obtain⟨y,us,y1,y2,u,y4,y5⟩:=Jjr A Z hm
 have hA:∀q∈A,bX=Fo:=λq F=>by
  cases z:q.isRest with
  |false=>rfl
  |true=>
   exfalso
   have:∀(B:AB),Jm (B++p::qs)->q∈B->False:=λB=>by
    induction B with
    |nil=>intro _ h;cases h
    |cons r B X=>
     intro s o
     rw[yB]at s
     rcases Zf.mp o with rfl|o
     ·have:=s.1 z
      cases B<;>cases this
     ·exact X s.2 o
   exact this A Z F
 have v:∀(B:AB)(m:AB),(∀q∈B,bX=Fo)->Jm m->Jm (B++m):=λB=>by
  induction B with
  |nil=>intro m _ h;exact h
  |cons r B X=>
   intro m s o
   exact⟨λz=>(by rw[s r 'j']at z;cases z),X m (λq F=>s q (by simp[F])) o⟩
 have N:Jm (p::qs):=by
  have:∀B:List Part,Jm (B++p::qs)->Jm (p::qs):=λB=>by
   induction B with
   |nil=>exactλh=>h
   |cons r B X=>exactλh=>X h.2
  exact this A Z
 have I:∀z:List Str,∀q∈wp z,bX=Fo:=λz q F=>by
  obtain⟨w,_,rfl⟩:=ZE.mp F
  rfl
 simp only[Zy,Zl]at L
 rcases hv with⟨E,w,w1,w2,w3⟩|⟨E,ws,w1,w2,w3⟩
 ·--a hole of one word
  unfold lawM at u
  rw[E,if_neg 'v']at u
  cases y with
  |nil=>cases u
  |cons x y=>
   simp only at u
   split at u
   ·rename_i hf
    rw[yD]at u
    obtain⟨us0,e0,rfl⟩:=u
    have H:(Xm,p.valD x)∈kv:=by
     have:=y4 (.tup [.str Xm,p.valD x]) (by simp[Part.val,M])
     obtain⟨e',s,o⟩:=ZE.mp this
     simp only[rowD,D.tup.injEq,jG,D.str.injEq,and_true]at o
     rw[<-o.1,<-o.2];exact s
    have j:e.2=p.valD x:=by
     have s:=sF f.nd _ H
     have o:=sF f.nd e he
     simp only[Y]at s
     rw[s]at o
     exact(pA o).symm
    have G:x∈ws9:=ha x (y1 x Af)
    have P:=valX p E M (ws_A G) hf
    refine⟨.str x,A++wp [x]++qs,λU O h=>?_,λc=>?_,?_⟩
    ·have hi:∀b:Bool,op1 .isInt e.2=.ok (.bl b)->evD U Lp O=.ok Cp:=λb hb=>JB _ _ (Jq _ _ (x:=e.2) (by rw[fJ,h]) hb)
     have C:evD U Qdc O=.ok e.2:=by rw[fJ,h]
     cases p with
     |word q=>cases M
     |rest n=>cases E
     |number n=>
      rw[zC,e_if _ _ (hi To (by rw[j];rfl)),if_pos rfl]
      obtain⟨z,hz⟩:=oQ (.number n) rfl (ws_A G)
      refine Jq _ _ C ?_
      rw[j,hz]
      simp only[strX,hz]at P
      rw[P]
     |any n=>
      rw[zC,e_if _ _ (hi Fo (by rw[j];rfl)),if_neg 'v',C,j];rfl
     |one n ws=>
      rw[zC,e_if _ _ (hi Fo (by rw[j];rfl)),if_neg 'v',C,j];rfl
    ·rw[<-Y]
     exact JqO nd M (by simp;lia) [x] (by simp[wp];lia) c (Jls E G hf c)
    ·refine W _ (by rw[fC];exact v A _ hA (v _ _ (I [x]) N.2)) (by simp[wp];lia) ?_
     rw[fC]
     refine y5 _ ?_
     have:=JmN [x] qs y
     simp only[yB,mB]at this
     rw[this,e0];rfl
   ·cases u
 ·--the rest
  have F:=N.1 E
  subst F
  obtain⟨n,rfl⟩:∃n,p=.rest n:=by cases p<;>first|exact Au|cases E
  simp only[lawM,Part.isRest,if_true,ZT]at u
  subst u
  have H:('ɨ'.name,D.tup J3)∈kv:=by
   have:=y4 (.tup [.str n,.tup J3]) (by simp[Part.name])
   obtain⟨e',s,o⟩:=ZE.mp this
   simp only[rowD,D.tup.injEq,jG,D.str.injEq,and_true]at o
   show(n,D.tup J3)∈kv
   rw[<-o.1,<-o.2];exact s
  have j:e.2=.tup J3:=by
   have s:=sF f.nd _ H
   have o:=sF f.nd e he
   simp only[Y]at s
   rw[s]at o
   exact(pA o).symm
  have hy9:∀x∈y,x∈ws9:=λx H=>ha x (y1 x H)
  refine⟨.tup J3,A++wp y++[],λU O h=>?_,λc=>?_,?_⟩
  ·rw[zC,e_if _ _ (b:=Fo) (JB _ _ (Jq _ _ (x:=e.2) (by rw[fJ,h]) (by rw[j];rfl))),if_neg 'v',fJ,h,j]
  ·rw[<-Y]
   exact JqO nd M (by simp at L⊢;lia) y (by simp[wp];lia) c (Jmk hy9 Ae c)
  ·refine W _ (by rw[fC];exact v A _ hA (v _ _ (I y) trivial)) (by simp[wp];lia) ?_
   rw[fC]
   refine y5 _ ?_
   have:=JmN y [] []
   simp only[uE]at this⊢
   rw[this];rfl
def lowB (ps:AB):Int:=if Jz ps then Aj-1 else Aj
def jQ (ps:AB):Int:=if Jz ps then 8 else Aj
def Jtk(ps:AB)(c:Nat):runD defs AW 38 [patD ps]=.ok (.tup [.int (lowB ps),.int (jQ ps)]):=by
 have f:=has_rest ps c;have b:evD CM B4 [So EM]=.ok (.int Aj):=Jq _ _ (x:=patD ps) rfl (by simp[patD]);rw[Jpp,uX,Jo _ _ _ _ (JB _ _ (Jp _ _ (x:=patD ps) rfl f))];unfold lowB jQ;cases Jz ps with
 |true=>exact pC _ _ (Jc _ _ (Jd _ _ b rfl (JuI _ _)) rfl) Af
 |false=>simp only[Zh,Zo];rw[JJ];exact pC _ _ (Jc _ _ b (Jc _ _ b rfl)) Af
theorem JmX(f:Jm ps)(h:a.length<=8)(b:(lawM ps a).isSome=To):lowB ps<=Xe/\(Xe:Int)<=jQ ps:=by
 rw[uN ps a f,Zc]at b;have:=b.1;unfold fit at this;unfold lowB jQ;cases z:Jz ps with
 |true=>rw[z,if_pos rfl]at this;simp only[if_true];have:=vK this;lia
 |false=>rw[z,if_neg 'v']at this;simp only[Zh,Zo];have:=gG this;lia
def nlB:Sx:=(.seq (.set Fo 10 zC)
  Vb)
theorem JlR(c:Nat){x:Lead}(hp:PL x.ps)(ha:∀w∈a,w∈ws9)(f:LF x.ps x.gs a kv)(hm:lawM x.ps a=So Fg)(E r B v s u:Bl):∀(l:Dv)(L G m:Bl),(∀e∈l,e∈kv)->∃M H j,forL [8,9] 2 (exD C1 nlB) (l.map rowD) [E,So BB,r,B,So x.d,v,s,u,L,G,m]=.ok (.nx,TX)
 |[],L,G,m,_=>⟨L,G,m,rfl⟩
 |e::l,L,G,m,h=>by
  have Y:=h e Af
  have o:∀M H j,evD C1 (.bi .lt Dp (.con (.int 7))) TX=.ok (.bl (decide (Xe<7))):=λM H j=>(Jd _ _ (x:=.int Xe) (y:=.int 7) (Jq _ _ (x:=adD a) rfl (by simp[adD])) rfl cP).trans (by rw[show decide ((a.length:Int)<7)=decide (a.length<7)from zB.mpr 'c'])
  have N:∃j,exD C1 nlB [E,So BB,r,B,So x.d,v,s,u,So (.str e.1),So e.2,m]=.ok (.nx,[E,So BB,r,B,So x.d,v,s,u,So (.str e.1),So e.2,j]):=by
   by_cases U:a.length<7
   ·obtain⟨C,qs,P,h2,h3⟩:=Jua hp ha U f hm Y;refine⟨So C,?_⟩;rw[nlB,dH _ _ (d:=C) _ (P _ _ rfl)];simp only[List.set];rw[n_if _ _ (b:=Fo) _ _ ((Jr _ _ (p:=To) (q:=Fo) ((o _ _ _).trans (by rw[Zs U])) λ_=>Jq _ _ (x:=.bl To) (Ja _ _ (J:=Qec) (Jc _ _ (Ja _ _ (J:=[patD x.ps,.str e.1,C]) (Jc _ _ (Jd _ _ (x:=x.d) (y:=.int 1) rfl rfl rfl) rfl) (h2 c)) rfl) (h3 AW)) rfl).trans rfl)];rfl
   ·have hc:∃C,evD C1 zC [E,So BB,r,B,So x.d,v,s,u,So (.str e.1),So e.2,m]=.ok C:=by
     obtain⟨p,_,pw,_,hv⟩:=f.val Y;have I:∀b:Bool,op1 .isInt e.2=.ok (.bl b)->evD C1 Lp [E,So BB,r,B,So x.d,v,s,u,So (.str e.1),So e.2,m]=.ok Cp:=λb hb=>JB _ _ (Jq _ _ (x:=e.2) rfl hb);rcases hv with⟨hr,w,X,F,Z⟩|⟨hr,ws,X,F,Z⟩
     ·cases p with
      |word q=>cases pw
      |rest n=>cases hr
      |number n=>obtain⟨z,hz⟩:=oQ (.number n) rfl (ws_A X);exact⟨.str z,by rw[zC,e_if _ _ (I To (by rw[F];rfl)),if_pos rfl];exact Jq _ _ (x:=e.2) rfl (by rw[F];exact hz)⟩
      |any n=>exact⟨e.2,by rw[zC,e_if _ _ (I Fo (by rw[F];rfl)),if_neg 'v'];rfl⟩
      |one n ws=>exact⟨e.2,by rw[zC,e_if _ _ (I Fo (by rw[F];rfl)),if_neg 'v'];rfl⟩
     ·exact⟨e.2,by rw[zC,e_if _ _ (I Fo (by rw[Z];rfl)),if_neg 'v'];rfl⟩
    obtain⟨C,P⟩:=hc;refine⟨So C,?_⟩;rw[nlB,dH _ _ (d:=C) _ P];simp only[List.set];rw[n_if _ _ (b:=Fo) _ _ ((Jr _ _ (p:=Fo) (q:=Fo) ((o _ _ _).trans (by rw[Zt U])) λz=>by cases z).trans rfl)];rfl
  obtain⟨j,N⟩:=N;obtain⟨z8,z9,W,ih⟩:=JlR c hp ha f hm E r B v s u l (So (.str e.1)) (So e.2) j λq hq=>h q (by simp[hq]);refine⟨z8,z9,W,?_⟩;rw[Zg];simp only[rowD,forL,Jv,n25,n35,Zo,Zl,jD,Nat.reduceAdd,Nat.reduceEqDiff,if_true,Zo,Zg,vD,Rs.bo,Jt,List.set];rw[N];exact ih
def lb_eq:sZ=(.seq V1
  (.seq TH
  (.seq UV
  (.seq T8
  (.seq Qcu
  (.seq WL
  (.seq U5
  (.seq UQ
  (.seq Ta
  (.seq Vc
  (.seq (.loop Fo [8,9] 2 O8 nlB)
  UM))))))))))):=rfl
theorem Jxk(h:∀x∈ls,LOk x)(hl:Ax<=3)(nd:'ǧ'.Nodup)(P:∀w∈a,w∈ws9)(W:a.length<=8)(c:Nat):runD defs (c+10) 51 Bi=.ok Cw:=by
 have m:∀w∈a,w∈wsA:=λw U=>ws_A (P w U);have j:=led_on (ls:=ls) (λy hy=>(h y hy).x) m Ae (c+3);have C:=first '|' (λr hr=>by
  obtain⟨x,s,rfl⟩:=ZE.mp hr;have:=(h x s).p.len;exact⟨(h x s).p.rl,by show x.ps.length<=1000;lia⟩) (by rw[Ze];lia) a m A6
 rw[JgG,lb_eq,nA _ _ (d:=tblD ls) _ (JqI _ _ (ls:=ls) rfl Ae)];simp only[List.set];rcases JiL (a:=a) ls with⟨G,L⟩|⟨x,s,vs,F,G,L⟩
 ·rw[G]at j;rw[L]at C;rw[eD _ _ _ (env2:=[So BN,So BB,So G9,So .non,No,No,No,No,No,No,No]) (by rw[sM,Ja _ _ (J:=Bi) rfl j];rfl),Jo _ _ (p:=Fo) _ _ (Jd _ _ (x:=.non) (y:=.non) ((e_if _ _ (b:=To) (Jq _ _ (x:=.non) rfl rfl)).trans rfl) (Ja _ _ (J:=Qed) rfl C) (sE _ AO)),if_neg 'v',Jo _ _ (p:=To) _ _ (Jq _ _ (x:=.non) rfl rfl),if_pos rfl];rfl
 ·have o:=h x s;have tl:=o.tl;obtain⟨kv,rfl,f⟩:=lf_of tl P W F;rw[mR]at G;rw[G]at j;rw[L]at C;by_cases z:'ŝ'.length<=8
  ·simp only[ledR,if_pos z]at j;obtain⟨i1,i2⟩:=lawI kv x.gs tl.rl f.g;have v:=mt x.ps a (c+5) o.p.rl m (by have:=o.p.len;lia);rw[F]at v;have B:=mt x.gs 'ŝ' (c+5) tl.rl (λw U=>ws_A (i2 w U)) (by have:=tl.len;lia);rw[i1]at B;have eB:=JoI f.g tl.nd tl.nm tl.len z AW;obtain⟨bk,hb,eK⟩:=tl.back o.l Bo;have eT:=turned x.l x.ps x.gs bk Bo eK;have eG:bk=To->runD defs (c+9) 30 [.tup ['ʠ'.d],.tup ('ŝ'.map .str)]=.ok (.tup Mc):=λq=>JlO tl (hb.mp q) W f (c+3);obtain⟨y8,y9,y10,eN⟩:=JlR A6 o.p P f F (So BN) (So G9) (So (.tup [.str x.l,.tup ('ŝ'.map .str)])) (So IA) (So (.lst ('Ƹ'.map rowD))) (So (if bk then(Lead.mk x.l x.gs x.ps).d else .non)) kv No No No λe M=>M;have I:=Jtk x.ps (c+7);obtain⟨b1,b2⟩:=JmX o.p.rl W (by rw[F];rfl);have Z:(D.tup ('ŝ'.map XD)).dep<=20:=by simp[D.dep,xH]
   have u:(D.tup Mc).dep<=20:=by simp[D.dep,deps,xH]
   have N:'Ƹ'.length<=1000:=by have:=tY kv x.gs;have:=tl.len;lia
   generalize hb':x.gs.flatMap DX=b at*;have H:∀O,evD (runD defs (c+9)) QX (So BN::So BB::So G9::So K2::O)=.ok x.d:=λO=>Jd _ _ (x:=.lst [x.d]) (y:=.int 0) ((qF _ _ (rs:=ls) YG (λy=>y.l==x.l) YG rfl Ae λy _=>⟨Jd _ _ (x:=.str y.l) (y:=.str x.l) rfl rfl WA,λ_=>rfl⟩).trans (by rw[Jqz nd s];rfl)) rfl rfl;rw[eD _ _ _ (env2:=[So BN,So BB,So G9,So K2,No,No,No,No,No,No,No]) (by rw[sM,Ja _ _ (J:=Bi) rfl j];rfl),Jo _ _ (p:=Fo) _ _ (Jd _ _ (x:=.str x.l) (y:=.str x.l) ((e_if _ _ (b:=Fo) (Jq _ _ (x:=.tup Gc) rfl rfl)).trans rfl) (Ja _ _ (J:=Qed) rfl C) (sE _ (by simp[D.dep]))),if_neg 'v',Jo _ _ (p:=Fo) _ _ (Jq _ _ (x:=.tup Gc) rfl rfl),if_neg 'v',nA _ _ (d:=x.d) _ (H _)];simp only[List.set];rw[eD _ _ _ (env2:=[So BN,So BB,So G9,So K2,So x.d,So IA,So (.lst ('Ƹ'.map rowD)),No,No,No,No]) (by
    rw[dD,Jxh _ _ (J:=[.tup [.lst Fg,.lst ('Ƹ'.map rowD)]]) (Jc _ _ (pC _ _ (J:=[.lst Fg,.lst ('Ƹ'.map rowD)]) (Jc _ _ (Ja _ _ (J:=[patD x.ps,adD a]) (Jc _ _ (Jd _ _ (x:=x.d) (y:=.int 1) rfl rfl rfl) rfl) v) (Jc _ _ (Ja _ _ (J:=[patD x.gs,.tup Gg]) (Jc _ _ (Jd _ _ (x:=x.d) (y:=.int 2) rfl rfl rfl) (Jc _ _ (Jd _ _ (x:=.tup Gc) (y:=.int 1) rfl rfl rfl) rfl)) B) rfl)) Af) rfl) 'j'];rfl)]
   rw[Jo _ _ (p:=Fo) _ _ ((mD _ _ (p:=Fo) (q:=Fo) (Jq _ _ (x:=.lst ('Ƹ'.map rowD)) rfl rfl) λ_=>Jd _ _ (x:=.tup Gg) (y:=.tup Gg) (Ja _ _ (J:=[patD x.gs,.lst ('Ƹ'.map rowD)]) (Jc _ _ (Jd _ _ (x:=x.d) (y:=.int 2) rfl rfl rfl) rfl) eB) (Jd _ _ (x:=.tup Gc) (y:=.int 1) rfl rfl rfl) (sE _ Z)).trans rfl),if_neg 'v'];rw[Jo _ _ (p:=Fo) _ _ (Jd _ _ (x:=.lst []) (y:=.lst []) ((qF _ _ (rs:=vals2 kv x.gs) rowD (λ_=>Fo) rowD rfl N λe M=>⟨Jd _ _ (x:=rowD e) (y:=.lst Fg) rfl rfl (JrZ f.dep (JoR f e M)),λz=>by cases z⟩).trans Af) rfl (sE _ (by simp[D.dep,deps]))),if_neg 'v'];rw[nA _ _ _ (Jp _ _ (x:=x.d) rfl eT)];simp only[List.set];rw[Jo _ _ (p:=Fo) _ _ (by
    cases bk with
    |false=>exact(Jr _ _ (p:=Fo) (q:=Fo) (Jq _ _ (x:=.non) rfl rfl) λz=>by cases z).trans rfl
    |true=>exact(Jr _ _ (p:=To) (q:=Fo) (Jq _ _ (x:='ʠ'.d) rfl rfl) λ_=>Jd _ _ (x:=.tup Mc) (y:=.tup Mc) (Ja _ _ (J:=[.tup ['ʠ'.d],.tup Gg]) (Jc _ _ (pC _ _ Qa7 Af) (Jc _ _ (Jd _ _ (x:=.tup Gc) (y:=.int 1) rfl rfl rfl) rfl)) (eG rfl)) (pC _ _ (Jc _ _ (Jd _ _ (x:=.tup Gc) (y:=.int 0) rfl rfl rfl) Qa7) Af) (sE _ u)).trans rfl),if_neg AO]
   rw[eD _ _ _ (by
    rw[dD,nH,Jq _ _ (x:=.lst Fg) (z:=.lst Fg) rfl rfl];exact eN),JJ]
   have Y:∀(i:Int)(d:D)(y:Bl)(E:Fm),atD [D.int bB,.int cR] i=So d->evD (runD defs (c+9)) (.bi .idx Re (.con AS)) (y::So BB::So G9::So K2::So x.d::E)=.ok d:=λi d y E hd=>Jd _ _ (x:=.tup [.int bB,.int cR]) (y:=.int i) (Jp _ _ (x:=patD x.ps) (Jd _ _ (x:=x.d) (y:=.int 1) rfl rfl rfl) I) rfl (by rw[gN,hd];rfl);have X:∀(y:Bl)(E:Fm),evD (runD defs (c+9)) Dp (y::So BB::E)=.ok (.int Xe):=λy E=>Jq _ _ (x:=adD a) rfl (by simp[adD]);exact(Jr _ _ (p:=To) (q:=To) (Jd _ _ (Y 0 (.int bB) _ _ rfl) (X _ _) ((o_le _ _).trans (by rw[Zs b1]))) λ_=>Jd _ _ (X _ _) (Y 1 (.int cR) _ _ rfl) ((o_le _ _).trans (by rw[Zs b2]))).trans rfl
  ·simp only[ledR,if_neg z]at j;rw[dA,sM,Ja _ _ (J:=Bi) rfl j];rfl
noncomputable abbrev adrD (a:Ad):D:=.tup Gr
theorem pD(f:α->D)(h:∀a,Jh (f a)=To):∀l:List α,Jj (l.map f)=To
 |[]=>rfl
 |a::l=>by simp only[Zg,Jj,h a,pD f h l,yK]
def jJ(ws:Ad):Jj DS=To:=pD _ FL ws
def Jqp(ws:Be):Jj (ws.map .int)=To:=pD _ FL ws
def JsI(p:Part):Jh p.d=To:=by cases p<;>simp[Part.d,Jh,Jj,jJ]
def tJ(ps:AB):Jj CO=To:=pD _ JsI ps
def JwP(r:Row):Jh r.d=To:=by simp[Row.d,Row.pd,Jh,Jj,tJ]
def tD(rs:AR):Jj LP=To:=pD _ JwP rs
def oH(a:Ad):Jh AF=To:=jJ a
theorem Jqo:∀f b:List D,Jj (f++b)=(Jj f&&Jj b)
 |[],b=>by simp[Jj]
 |x::f,b=>by simp only[yB,Jj,Jqo f b,Bool.and_assoc]
theorem JmV:∀(ps:AB)(a:Ad)(vs:Ao),lawM ps a=So vs->Jj vs=To
 |[],a,vs,h=>by
  unfold lawM at h
  split at h<;>cases h
  rfl
 |p::ps,a,vs,h=>by
  unfold lawM at h
  split at h
  ·cases h;simp[Jj,Jh,jJ]
  ·cases a with
   |nil=>cases h
   |cons w a=>
    simp only at h
    split at h
    ·cases q:lawM ps a with
     |none=>rw[q]at h;cases h
     |some b=>
      rw[q]at h
      cases h
      rw[Jqo,JmV ps a b q,Bool.and_true]
      unfold Part.val
      split
      ·rfl
      ·cases p<;>rfl
    ·cases h
def lkD (a:Ad):List Row->D
 |[]=>.non
 |r::rs=>match lawM r.ps a with
  |some b=>.tup [.str r.l,.lst b]
  |none=>lkD a rs
def lkN (a:Ad):List Row->Nat
 |[]=>0
 |r::rs=>match lawM r.ps a with
  |some _=>1
  |none=>lkN a rs+1
theorem zI(a:Ad):∀rows:List Row,Jh EG=To
 |[]=>rfl
 |r::rs=>by
  unfold lkD
  split
  ·rename_i b h;simp[Jh,Jj,JmV _ _ _ h]
  ·exact zI a rs
noncomputable abbrev brF (rows:AR) (as:Cn) (n:Int):List D:=[.tup DJ,.dct To Fo WM Kq,.int n]
noncomputable abbrev brD (b:Nat) (rows:AR) (as:Cn) (n:Int):D:=.obj b nsB (brF rows as n)
def JvX(rows:AR)(as:Cn)(n:Int):(brF rows as n).all mC=To:=by simp[mC,Jh,tD,pD _ λa=>zI a rows]
section
variable{U:Ag}{w:Bool}{b:Nat}{rows rows':AR}{as:Cn}{n:Int}
def lM(h:O[0]? =So Qaw):evD U Ku O=.ok (.tup DJ):=Jq _ _ (x:=brD b rows as n) (by simp[h]) (by kernel_rfl)
def Jqx(h:O[0]? =So Qaw):evD U SL O=.ok '乘':=Jq _ _ (x:=brD b rows as n) (by simp[h]) (by kernel_rfl)
def chg{f:Str}{d:D}{fs:Ao}(j:nsB.contains f=To)(h:fs.all mC=To)(m:plE O=To):chgF f d (So (.obj b nsB fs)::O)=.ok .nx (So (.obj b nsB (putN f d nsB fs))::O):=by show(if(nsB.contains f&&fs.all mC&&plE O&&decide (nsB.length<1000))=To then _ else _)=_;rw[j,h,m];rfl
def kE{x y:Bs}(h:exO w U bc x O=.ok .nx env2):exO w U bc (.seq x y) O=exO w U bc y env2:=by simp only[exO,h,Rq.bind]
def o_if{t:Bx}{x y:Bs}{k:Bool}(h:evB U bc t O=.ok Qaq env2):exO w U bc (.ite t x y) O=if k then exO w U bc x env2 else exO w U bc y env2:=by simp only[exO,h,Rx.next];cases k<;>rfl
def gE{p:Px}{d:D}(h:evD U p O=.ok d):evB U bc Qc9 O=.ok d O:=by simp only[evB,h,Rx.of]
def iJ{r:Bool}{f a:Nat}{ns:Ad}{fs:Ao}{as:Px}{d st:D}(h1:O[i]? =So (So CG))(m:IH)(h:plE J6=To)(j:Jj J=To)(o:bc f CG J=.ok d st):evB U bc (.call r f i ns as) O=.ok d (O.set i (So st)):=by simp only[evB,h1,m,if_true,h,j,yK,o,Rx.lay]
def Jri{j:AX}{f:Nat}{body:Fm->Rq}{d:D}{new:Fm}(m:Jv f d=.ok new)(h:body (Jt j new O)=.ok .nx env2):forB j f body (d::J) O=forB j f body J env2:=by simp only[forB,m,h,Rq.bind]
def o_eff{e:Bx}{d:D}(h:evB U bc e O=.ok d env2):exO w U bc (.eff e) O=.ok .nx env2:=by simp only[exO,h,Rx.next]
def o_skip:exO w U bc G6 O=.ok .nx O:=rfl
def wM{p:Sx}(h:exD U p O=.ok Iz):exO w U bc (.lift p) O=.ok .nx env2:=by simp only[exO,h,Juy]
end
def set_rows(b:Nat)(rows rows':AR)(as:Cn)(n:Int)(c:Nat):runB defs bdefs Bo 0 Du [.tup Qcw]=.ok .non (brD b rows' [] n):=by
 rw[Jir,fT];have f:exO To D9 (runB defs bdefs c) (.setF (S "rows") AD) [So Du,So IG]=.ok .nx [So (.obj b nsB [.tup Qcw,.dct To Fo WM Kq,.int n]),So IG]:=by show(if Jh IG then chgF (S "rows") IG [So Du,So IG]else .sk)=_;rw[if_pos (by simp[Jh,tD]),chg 'g' (JvX _ _ _) (by simp[plE,Jh,tD])];kernel_rfl
 rw[kE f];show ansB _ (chgF 'ջ' Rf _)=_;rw[chg 'g' (by simp[mC,Jh,tD,pD _ λa=>zI a rows]) (by simp[plE,Jh,tD])];simp only[ansB];rw[if_pos (by simp[wA])];kernel_rfl
noncomputable def uR:Bs:=(.seq Oq
  (.seq Pn
  Wf))
def aug(b:Nat)(rows:AR)(as:Cn)(n:Int)(U:Ag)(bc:A1)(O:Fm)(f:plE O=To):exO To U bc Oq (So Du::O)=.ok .nx (So (brD b rows as (n+1))::O):=by
 have:qU (S "looks") (So Du::O)=So aJ:=by kernel_rfl
 simp only[exO,this];rw[chg 'g' (JvX _ _ _) f];kernel_rfl
theorem Jha(b:Nat)(rows:AR)(as:Cn)(a:Ad)(u:∀w∈a,w∈wsA)(c:Nat):∀(rs:AR)(n:Int)(h j f:Bl),(∀r∈rs,Y1)->plE [h,j,f]=To->∃O,
  forB [2,3] 2 (exO To Es RS uR) LP [So Du,So AF,h,j,f]=.ok (if rs.any (hit a)then .rt (lkD a rs)else .nx) (So (brD b rows as (n+lkN a rs))::O)
 |[],n,h,j,f,_,_=>⟨[So AF,h,j,f],by simp[forB,lkN]⟩
 |r::rs,n,h,j,f,hf,hp=>by
  have v:=hf r Af
  have B:=mt r.ps a c v.rl u v.len
  rw[Zg]
  have o:plE [So AF,So CH,So r.pd,f]=To:=by
   have:plE [f]=To:=by cases h<;>cases j<;>cases f<;>simp_all [plE]
   simp only[plE]at this⊢;cases f<;>simp_all [plE,oH,Jh,Row.pd,tJ,jJ]
  have C:exO To Es RS uR [So Du,So AF,So CH,So r.pd,f]=.ok (match lawM r.ps a with|some m=>.rt (.tup [.str r.l,.lst m])|none=>.nx) [So (brD b rows as (n+1)),So AF,So CH,So r.pd,So (opt '丕')]:=by
   unfold uR;rw[kE (aug b rows as n _ _ _ o),kE (wM (p:=.set Fo 4 _) (env2:=[So (brD b rows as (n+1)),So AF,So CH,So r.pd,So (opt '丕')]) (by rw[xC,Ja _ _ (J:=[r.pd,adrD a]) rfl B];rfl))];cases q:lawM r.ps a with
   |none=>rw[o_if (k:=Fo) (gE rfl)];rfl
   |some m=>rw[o_if (k:=To) (gE rfl)];rfl
  simp only[forB,show Jv 2 r.d=.ok [So CH,So r.pd]from rfl,Jt,List.set,C,Rq.bind];cases q:lawM r.ps a with
  |some m=>
   have s:hit a r=To:=by simp[hit,q]
   exact⟨[So AF,So CH,So r.pd,So (opt (So m))],by simp[s,lkD,lkN,q]⟩
  |none=>
   have s:hit a r=Fo:=by simp[hit,q]
   obtain⟨O,y⟩:=Jha b rows as a u c rs (n+1) (So CH) QaR (So .non) (λx z=>hf x (by simp[z])) (by simp[plE,Jh,Row.pd,tJ]);refine⟨O,?_⟩;simp only[opt]at y⊢;rw[y];simp only[rB,s,jC,lkD,lkN,q];rw[show n+1+(lkN a rs:Int)=n+((lkN a rs+1:Nat):Int) by lia]
theorem JuF:∀{rs:AR},rs.any Co=Fo->lkD a rs=.non
 |[],_=>rfl
 |r::rs,h=>by
  simp only[rB,ZF]at h
  have:lawM r.ps a=No:=by simpa[hit]using h.1
  simp only[lkD,this]
  exact JuF h.2
def JiF(rs:AR):imms LP=To:=by
 induction rs with
 |nil=>rfl
 |cons r rs b=>simp[imms,b,Row.d,Row.pd,D.imm,wN]
def look(b:Nat)(rows:AR)(as:Cn)(n:Int)(a:Ad)(m:∀w∈a,w∈wsA)(j:∀r∈rows,Y1)(c:Nat):runB defs bdefs (c+5) 3 Du Gs=.ok EG RB:=by
 obtain⟨O,h⟩:=Jha b rows as a m c rows n No No No j rfl;rw[Jtg,show yQ=.seq '丱' (.ret Dw)from rfl];have f:exO To Es RS '丱' O4=.ok (if rows.any (hit a)then .rt (lkD a rows)else .nx) (So RB::O):=by
  have o:evD Es Wl O4=.ok (.lst DJ):=by rw[nH,Jq _ _ (x:=.tup DJ) (lM rfl) rfl];rfl
  simp only[exO,o];rw[if_pos (by rw[tD,JiF];rfl)];exact h
 simp only[exO]at f⊢;rw[f];cases q:rows.any (hit a)with
 |true=>simp only[if_true,Rq.bind,ansB];rw[if_pos (by simp[wA])]
 |false=>simp only[Zh,Zo,Rq.bind];show ansB _ (.ok (.rt .non) _)=_;simp only[ansB];rw[if_pos (by simp[wA]),JuF q]
def JrK(h:∀w∈a,w∈ws9):keyD To AF=To:=zP λw b=>ws_A (h w b)
def Jnr(x a:Ad):(adrD x).eqv AF=(x==a):=JjH x a
def JlK(as:Cn)(a:Ad):('ƾ'.any λd=>d.eqv AF)=as.contains a:=by
 rw[yF];induction as with
 |nil=>rfl
 |cons x as b=>rw[rB,iF,b,Function.comp_apply,Jnr];congr 1;exact Bool.beq_comm
theorem JjO(g:List Str->D):∀{as:Cn},as.contains a=To->yA AF WM (as.map g)=So (g a)
 |[],h=>by simp at h
 |x::as,h=>by
  simp only[Zg,yA,Jnr]
  by_cases q:x=a
  ·subst q;simp
  ·have b:(x==a)=Fo:=by simpa using q
   rw[b]
   simp only[iF,nB,ZD]at h
   exact JjO g 'Ӿ'
noncomputable def askS (b:Nat) (rows:AR) (as:Cn) (n:Int) (a:Ad):D:=if as.contains a then brD b rows as n else brD b rows (as++[a]) IY
def ask(b:Nat)(rows:AR)(as:Cn)(n:Int)(a:Ad)(v:∀w∈a,w∈ws9)(B:∀r∈rows,Y1)(E:as.length<1000)(c:Nat):runB defs bdefs (c+6) 4 Du Gs=.ok EG RA:=by
 have u:=JrK v;have get:∀(j:Cn)(s:Int),j.contains a=To->ansB Du (exO To C1 (runB defs bdefs (c+5)) (.ret PP) [So Qv,So AF])=.ok EG Qv:=λj s h=>by
  have:evD C1 PP [So Qv,So AF]=.ok EG:=by refine Jd _ _ (x:=.dct To Fo (j.map adrD) PN) (y:=adrD a) (Jqx rfl) rfl ?_;show(if To=To/\keyD To AF=To then Rs.ofOpt (yA AF (j.map adrD) PN)else .sk)=_;rw[if_pos ⟨rfl,u⟩,JjO _ h];rfl
  simp only[exO,this,ansB];rw[if_pos (by simp[wA])]
 have o:evB C1 (runB defs bdefs (c+5)) (.pur (.bi (.dNi To) AD SL)) L6=.ok (.bl (!as.contains a)) L6:=by refine gE (Jd _ _ (x:=adrD a) (y:=.dct To Fo WM Kq) rfl (Jqx rfl) ?_);show(if To=To/\keyD To AF=To then Rs.ok (D.bl (!(as.map adrD).any λd=>d.eqv AF))else .sk)=_;rw[if_pos ⟨rfl,u⟩,JlK]
 rw[JuH,iQ];unfold askS;cases q:as.contains a with
 |true=>rw[q]at o;rw[kE (env2:=L6) (by rw[o_if o];rfl)];exact get as n q
 |false=>
  rw[q]at o;rw[kE (env2:=[So (brD b rows (as++[a]) IY),So AF]) ?_]
  ·exact get _ _ Af
  ·rw[o_if o];simp only[qG,if_true];have z:=iJ (r:=To) (f:=3) (i:=0) (as:=.cons AD .nil) (O:=L6) (U:=runD defs (c+5)) (bc:=runB defs bdefs (c+5)) (J:=Gs) rfl rfl (by simp[plE,oH]) (by simp[Jj,oH]) (look b rows as n a (λw C=>ws_A (v w C)) B c);simp only[exO,z,Rx.next,List.set];show(if Jh (lkD a rows)&&keyD To AF then chgD 'ջ' AF EG [So RB,So AF]else .sk)=_;rw[if_pos (by rw[zI,u];rfl)];unfold chgD;simp only[show(nsB.zip M4).lookup 'ջ'=So '乘' by kernel_rfl];rw[if_pos (by
    have:putN 'ջ' D.non nsB M4=[.tup DJ,.non,.int IY]:=by kernel_rfl
    rw[this];simp[plE,oH,jJ,Jj,Jh,tD,pD _ λa=>zI a rows,E])]
   have m:putD AF EG WM Kq=((as++[a]).map adrD,(as++[a]).map λa=>lkD a rows):=by unfold putD;rw[JlK,q];simp
   rw[m];kernel_rfl
def labL (a:Ad) (rows:AR):D:=match lkD a rows with
 |.tup [l,_]=>l
 |_=>.non
theorem JiZ(a:Ad):∀rows:List Row,lkD a rows=.non\/∃l b,lkD a rows=.tup [.str l,.lst b]
 |[]=>.inl rfl
 |r::rs=>by
  unfold lkD
  split
  ·exact .inr Ho
  ·exact JiZ a rs
def JvK(b:Nat)(rows:AR)(as:Cn)(n:Int)(a:Ad):∃f h,askS b rows as n a=brD b rows f h:=by
 unfold askS;split
 ·exact Ho
 ·exact Ho
def find(b:Nat)(rows:AR)(as:Cn)(n:Int)(a:Ad)(o:∀w∈a,w∈ws9)(j:∀r∈rows,Y1)(u:as.length<1000)(c:Nat):runB defs bdefs (c+7) 5 Du Gs=.ok (labL a rows) RA:=by
 obtain⟨s,v,m⟩:=JvK b rows as n a;have q:=iJ (r:=To) (f:=4) (i:=0) (as:=.cons AD .nil) (O:=[So Du,So AF,No]) (U:=runD defs (c+6)) (bc:=runB defs bdefs (c+6)) (J:=Gs) rfl rfl (by simp[plE,oH]) (by simp[Jj,oH]) (ask b rows as n a o j u c);rw[Jui,kQ,kE (x:=.set 2 _) (env2:=[So RA,So AF,So EG]) (by
  simp only[exO,q,Rx.next];rw[if_pos (zI a rows)];rfl),m]
 unfold labL;rcases JiZ a rows with h|⟨l,y,h⟩<;>rw[h]<;>simp[exO,ansB,wA,evD,op1,op2,atD,ixn,Rs.ofOpt]
def JlX(b:Nat)(rows:AR)(as:Cn)(n:Int)(c:Nat):runB defs bdefs Bo 2 Du []=.ok (.tup DJ) Du:=by rw[Jon,lR];simp only[exO,lM (O:=[So Du]) rfl,ansB];rw[if_pos (by simp[wA])]
theorem JoD(xs:List α)(k:Nat):cutD xs No (So (k:Int))=xs.take k:=by
 have h:¬((k:Int)<0):=by lia
 simp only[cutD,six,h,Zo,dC,zK,Nat.sub_zero];rcases Nat.le_total k Ac with q|q
 ·rw[zD q]
 ·rw[oI q,sO,ZY q]
theorem Jpa(xs:List α)(k:Nat):cutD xs (So (k:Int)) No=xs.drop k:=by
 have h:¬((k:Int)<0):=by lia
 simp only[cutD,six,h,Zo,dC];rcases Nat.le_total k Ac with q|q
 ·rw[zD q,ZY 'j']
 ·rw[oI q,qI,pO q];simp
def JqB(U:Ag)(O:Fm){a lo:Px}{k:Nat}(h1:evD U a O=.ok Bt)(b:evD U lo O=.ok DV):evD U (.sl a Dw QdS) O=.ok (.tup (J.take k)):=by simp only[e_sl,h1,kU,e_un,b,Rs.bo,Jhe,Jwt,Jhn,JoD]
def Jwa(U:Ag)(O:Fm){a lo:Px}{k:Nat}(h1:evD U a O=.ok Bt)(b:evD U lo O=.ok DV):evD U (.sl a QdS Dw) O=.ok (.tup (J.drop k)):=by simp only[e_sl,h1,kU,e_un,b,Rs.bo,Jhe,Jwt,Jhn,Jpa]
noncomputable def insR  (k:Nat) (r:α) (l:List α):List α:=l.take k++r::l.drop k
theorem with_row(xs:Ao)(r:D)(k:Nat)(m:Ac<=500)(c:Nat):runD defs Bo 37 [.tup xs,r,.int k]=.ok (.tup (insR k r xs)):=by
 have h:evD D9 Wr [So A4,So r,So DV,No]=.ok (.int ((min k Ac:Nat):Int)):=by
  rw[e_if _ _ (b:=decide (k<Ac)) ((Jr _ _ (p:=To) (q:=decide (k<Ac)) (Jd _ _ (x:=.int 0) (y:=.int k) rfl rfl (by show Rs.ok (D.bl (decide ((0:Int)<=k)))=_;simp)) λ_=>Jd _ _ (x:=.int k) (y:=.int Ac) rfl rfl (by show Rs.ok (D.bl (decide ((k:Int)<Ac)))=_;simp)).trans Af)];by_cases q:k<Ac
  ·rw[if_pos (by simpa using q),zD 'c'];rfl
  ·rw[if_neg (by simpa using q),oI 'c'];rfl
 have f:insR k r xs=xs.take (min k Ac)++([r]++xs.drop Le):=by
  unfold insR;rcases Nat.le_total k Ac with q|q
  ·rw[zD q];rfl
  ·rw[oI q,sO,qI,ZY q,pO q];rfl
 rw[JjV,jZ,nA _ _ _ h,JJ,f];have j:=List.length_take_le Le xs;refine Jd _ _ (x:=.tup (xs.take (min k Ac)++[r])) (y:=.tup (xs.drop Le)) (Jd _ _ (x:=.tup (xs.take Le)) (y:=.tup [r]) (JqB _ _ rfl rfl) rfl (dR (by simp;lia))) (Jwa _ _ rfl rfl) ((dR ?_).trans (by rw[fC]));simp only[Zy,Zl,jD,qK,uO];lia
def Jry(x:Str)(rows:AR):op2 .isin Cr (.lst P0)=.ok (.bl (rows.any λr=>r.l==x)):=by
 have b:deps (rows.map λr=>D.str r.l)<=19:=mQ λd b=>by obtain⟨r,_,rfl⟩:=ZE.mp b;exact qA _
 rw[o_inL _ _ b 'Ձ',yF];rfl
def Jsw(U:Ag)(O:Fm)(b:Nat)(rows:AR)(as:Cn)(n:Int)(l:Str)(h:DF<=500)(f:O[0]? =So Qaw)(h1:O[1]? =So (So Qde)):
  evD U (.bi .isin AD (.comp 0 (.walk Ku) BI DT)) O=.ok (.bl (rows.any λr=>r.l==l)):=
 Jd _ _ (x:=.str l) (y:=.lst P0) (by simp[h1]) (uH _ _ Yt QdX (by rw[nH,lM f];rfl) Ae λr _=>row0 r _ _ 0 rfl) (Jry l rows)
theorem Jlu(U:Ag)(O:Fm)(b:Nat)(rows:AR)(as:Cn)(n:Int)(f:O[0]? =So Qaw):evD U (.bi .ge (.un .len Ku) Hi) O=.ok (.bl (decide (8<=DF))):=
 Jd _ _ (x:=.int DF) (y:=.int 8) (Jq _ _ (x:=.tup DJ) (lM f) (by show Rs.ok (D.int ((rows.map Yt).length:Nat))=_;rw[Ze])) rfl (by show Rs.ok (D.bl (decide ((DF:Int)≥8)))=_;congr 2;apply zB.mpr;lia)
def JrN{b:Type}(f:α->b)(k:Nat)(r:α)(l:List α):(insR k r l).map f=insR k (f r) (l.map f):=by simp[insR,List.map_take,List.map_drop]
theorem add(b:Nat)(rows:AR)(as:Cn)(n:Int)(r:Row)(k:Nat)(s:rows.any (λq=>q.l==r.l)=Fo)(u:DF<8)(c:Nat):runB defs bdefs (c+3) 1 Du [.str r.l,r.pd,.int k]=.ok .non (brD b 'Ԣ' [] n):=by
 rw[Jus,xP];have j:=Jsw DG Hg b rows as n r.l Ae rfl rfl;rw[s]at j;have h:=Jlu DG Hg b rows as n rfl;rw[show decide (8<=DF)=Fo by simp;lia]at h;rw[kE (env2:=Hg) (by rw[o_if (gE j)];rfl)];rw[kE (env2:=Hg) (by rw[o_if (gE h)];rfl)];have m:evD DG (.cons (.call 37 (.cons Ku Uy)) .nil) Hg=.ok (.lst [.tup ('Ԣ'.map Yt)]):=by refine Jc _ _ ((Ja _ _ (J:=[.tup DJ,r.d,.int k]) ?_ (with_row DJ r.d k (by rw[Ze];lia) Bo)).trans (by rw[JrN])) rfl;exact Jc _ _ (lM rfl) (Jc _ _ (pC _ _ (J:=Qd9) rfl Af) rfl)
 have o:=iJ (r:=To) (f:=0) (i:=0) (O:=Hg) (U:=runD defs AW) (bc:=runB defs bdefs AW) rfl m (by simp[plE,Jh,Row.pd,tJ]) (by simp[Jj,Jh,tD]) (set_rows b rows 'Ԣ' as n Bo);simp only[exO,o,Rx.next,List.set,ansB];rw[if_pos (by simp[wA])]
noncomputable abbrev R:CallD:=runD defs 11
noncomputable abbrev BC:CallB:=runB defs bdefs 11
structure LsOk(ls:Cm):Prop where
 len:Ax<=3
 ok:∀x∈ls,LOk x
 nd:'ǧ'.Nodup
noncomputable def p1B:Sx:=Va
noncomputable abbrev F1 (ns:Be) (ls:Cm) (b:Bl):Fm:=[So Bq,So BN,b,No,No,No,No,No,No,No,No]
theorem Jlw(ns:Be):∀(j:AX)(ls:Cm)(f:Bl),LsOk ls->plE [f]=To->∃b y2,LsOk b/\plE [y2]=To/\forL [2] 0 (exD R p1B) (j.map λk:Nat=>D.int k) (F1 ns ls f)=.ok QcO
 |[],ls,f,h,hx=>⟨ls,f,h,hx,rfl⟩
 |k::j,ls,f,h,hx=>by
  have F:∃b,LsOk b/\exD R p1B QdT=.ok (.nx,F1 ns b Bu):=by
   have u:evD R (.bi .lt Dp Fh) QdT=.ok (.bl (decide ((Ax:Int)<2))):=Jd _ _ (x:=.int Ax) (y:=.int 2) (Jq _ _ (x:=.tup Gq) rfl Af) rfl cP;by_cases z:(Ax:Int)<2
   ·obtain⟨b,q,m,C,E⟩:=Jqh ns (2000+400*k) Ae;refine⟨b,⟨q,m,C⟩,?_⟩;rw[p1B,n_if _ _ _ _ u,Zs z,if_pos rfl,xC,Ja _ _ (J:=[ofN ns,.int (2000+400*k)]) (Jc _ _ rfl (Jc _ _ (Jd _ _ (x:=.int 2000) (y:=.int (400*k)) rfl (Jd _ _ (x:=.int 400) (y:=.int k) rfl rfl (lF _ _ (by rw[show smallI 400=To from by decide,zF]))) DD) rfl)) (E 6)];rfl
   ·refine⟨ls,h,?_⟩;rw[p1B,n_if _ _ _ _ u,Zt z,if_neg 'v'];rfl
  obtain⟨o,q,v⟩:=F;obtain⟨r,y2,m,B,s⟩:=Jlw ns j o Bu q (by simp[plE,Jh]);refine⟨r,y2,m,B,?_⟩;rw[Zg];simp only[forL,Jv,n25,n35,Zo,if_true,Rs.bo,Jt,List.set,F1]at v s⊢;rw[v];exact s
def Jsc(x:Lead):Jh x.d=To:=by simp[Lead.d,Jh,Jj,tJ]
def Jiz(ls:Cm):Jj Gq=To:=pD _ Jsc ls
def yU(ls:Cm):Jh G9=To:=tD _
def plc(o:Bl)(e:Fm):plE (o::e)=(plE [o]&&plE e):=by cases o<;>simp[plE]
def JqA(b:AX):Jj (b.map λi:Nat=>D.int i)=To:=pD _ FL b
def Jlf(b:AX):imms (b.map λi:Nat=>D.int i)=To:=by
 induction b with
 |nil=>rfl
 |cons i t f=>simp[imms,D.imm,f]
def v_or{U:Ag}{x y:Bx}{b:Fm}(h1:evB U bc x O=.ok C7 b)(f:evB U bc y b=.ok C7 env2):evB U bc (.or x y) O=.ok C7 env2:=by simp only[evB,h1,Rx.bind,f]
def v_ne{U:Ag}{x y:Bx}{b:Fm}{d e:D}(h1:evB U bc x O=.ok d b)(f:evB U bc y b=.ok e env2)(j:Jh d=To)(h:op2 .ne d e=.ok C7):evB U bc (.bi .ne x y) O=.ok C7 env2:=by simp only[evB,h1,Rx.bind,f,j,if_true,h,Rx.of]
noncomputable abbrev lE (ns:Be) (ls:Cm) (o:Bl) (B:D) (m h j f q b:Bl):Fm:=[So Bq,So BN,o,So G9,So B,m,h,j,f,q,b]
def rV{ns:Be}{B:D}{f q m o j r b:Bl}(h:plE [f,q,m,o,j,r,b]=To):plE ((lE ns ls f B q m o j r b).set 4 No)=To:=by have u:Jh Bq=To:=Jqp ns;have s:Jh BN=To:=Jiz ls;rw[plc]at h;show(Jh Bq&&(Jh BN&&plE (f::So G9::No::[q,m,o,j,r,b])))=To;rw[u,s,plc f];show(To&&(To&&(plE [f]&&(Jh (tblD ls)&&plE [q,m,o,j,r,b]))))=To;rw[yU];simpa using h
def JrY(r:α)(l:List α):insR Xn r l=l++[r]:=by simp[insR]
theorem JiT(ns:Be)(ls:Cm)(b:Nat)(y:Bl)(F:plE [y]=To):∀(rs j:AR)(u o s:Bl),((j++rs).map Row.l).Nodup->(j++rs).length<=8->plE [u,o,s]=To->∃B C z,plE [B,C,z]=To/\forB [5,6,7] 5 (exO Fo R BC VX) (Jl YK LP) (lE ns ls y Qcx u o s No No No)=.ok .nx (lE ns ls y (brD b (j++rs) [] 0) B C z No No No)
 |[],j,u,o,s,_,_,h=>⟨u,o,s,h,by simp[forB,Jl]⟩
 |r::rs,j,u,o,s,hn,hl,h=>by
  have M:j.length+(rs.length+1)<=8:=by simpa using hl
  have E:j.any (λq=>q.l==r.l)=Fo:=by
   rw[rK];intro q;obtain⟨d,I,G⟩:=lG.mp q;rw[lB,Zg]at hn;have:=(gF.mp hn).2.2 d.l (gC I) r.l Af;exact this (by simpa using G)
  have m:Jh r.pd=To:=tJ r.ps;have N:plE [So LZ,So CH,So r.pd]=To:=by simp[plE,Jh,m]
  obtain⟨B,C,z,L,P⟩:=JiT ns ls b y F rs (j++[r]) (So LZ) (So CH) QaR (by simpa using hn) (by simpa using hl) N;refine⟨B,C,z,L,?_⟩;have H:=iJ (r:=Fo) (f:=1) (i:=4) (ns:=nsB) (as:=.cons Qdb WD) (O:=lE ns ls y Qcx (So LZ) (So CH) QaR No No No) (U:=R) (bc:=BC) (J:=[.str r.l,r.pd,.int YK]) rfl rfl (rV (by rw[plc,F];simp[plE,Jh,m])) (by simp[Jj,Jh,m]) (add b j [] 0 r YK E Ae 8);rw[Zg,Jl,Jri (new:=[So LZ,So CH,So r.pd,No,No]) rfl (o_eff H)];rw[JrY];have v:=P;rw[fC,Zy]at v;exact v
theorem JqV(a:Ad):∀rows:List Row,labL a rows=labD (rows.find? Co)
 |[]=>rfl
 |r::rs=>by
  have f:=JqV a rs
  rw[eE]
  cases h:lawM r.ps a with
  |some b=>
   rw[show hit a r=To by show(lawM r.ps a).isSome=To;rw[h];rfl]
   unfold labL
   rw[show lkD a (r::rs)=.tup [.str r.l,.lst b] by rw[lkD,h]]
   rfl
  |none=>
   rw[show hit a r=Fo by show(lawM r.ps a).isSome=Fo;rw[h];rfl]
   show labL a (r::rs)=labD (rs.find? Co)
   rw[<-f]
   unfold labL
   rw[show lkD a (r::rs)=lkD a rs by rw[lkD,h]]
def JqH(a:Ad)(rows:AR):Jh (labD (rows.find? Co))=To/\(labD (rows.find? Co)).dep<=20:=by
 cases rows.find? (hit a)with
 |none=>exact⟨rfl,by decide⟩
 |some r=>exact⟨rfl,by simp[labD,D.dep]⟩
theorem JtP(b:Nat)(rows:AR)(as:Cn)(n:Int)(a:Ad):∃f h,XS<=Z1+1/\askS b rows as n a=brD b rows f h:=by
 unfold askS;split
 ·exact⟨as,n,by lia,rfl⟩
 ·exact⟨as++[a],_,by simp,rfl⟩
def pl7{o f b m j:Bl}(h:plE [f,b,m]=To)(q:plE [o]=To)(r:plE [j]=To):plE [o,f,b,m,j,No,No]=To:=by rw[plc f,plc b]at h;rw[plc o,plc f,plc b,plc m,plc j,q,r];simp only[Zc]at h⊢;exact⟨trivial,h.1,h.2.1,h.2.2,trivial,rfl⟩
noncomputable def b2B:Bs:=(.seq (.lift Q7)
  Ve)
theorem JnE(ns:Be)(h:YC)(L:0<Ax)(b:Nat)(o j m:Bl)(N:plE [o,j,m]=To):∀(ks:AX)(as:Cn)(n:Int)(z u:Bl),Z1+BJ<1000->∃y2 s C E,forB [2] 0 (exO Fo R BC b2B) (ks.map λk:Nat=>D.int k) (lE ns ls z YJ o j m u No No)=.ok .nx (lE ns ls y2 Qcy o j m E No No)
 |[],as,n,z,u,_=>⟨z,as,n,u,by simp[forB]⟩
 |k::ks,as,n,z,u,hl=>by
  simp only[Zl]at hl
  have M:k % Ax<Ax:=Nat.mod_lt _ L
  have B:=h.ok _ (oK M)
  generalize hg:ls[k % Ax]=x at B
  have W:=B.p.len
  obtain⟨a,G,la,ea⟩:=near ns (400+60*k) Ae x.ps B.p.ok Ae B.p.rl
  have hls:=X7
  have q:∀r∈ls.map YO,r.Fine:=λr hr=>by
   obtain⟨y,I,rfl⟩:=ZE.mp hr
   have:=(h.ok y I).p.len
   exact⟨(h.ok y I).p.rl,by show y.ps.length<=1000;lia⟩
  have X:exD R Q7 Xr=.ok (.nx,lE ns ls Bu YJ o j m Qax No No):=by
   have v:evD R (.bi .mod A0 Dp) Xr=.ok (.int ((k % Ax:Nat):Int)):=Jd _ _ (x:=.int k) (y:=.int Ax) rfl (Jq _ _ (x:=.tup Gq) rfl Af) (by
    have:(0:Int)<Ax:=by lia
    show(if(0:Int)<(Ax:Int)then Rs.ok (D.int ((k:Int) % (Ax:Int)))else .sk)=_;rw[if_pos this];rfl)
   have H:evD R Vu Xr=.ok (patD x.ps):=Jd _ _ (x:=x.d) (y:=.int 1) (Jd _ _ (x:=.tup Gq) rfl v (by
    have:=atN Gq (k % Ax) (by simpa using M);rw[gN,this];simp[hg,Rs.ofOpt])) rfl rfl
   rw[xC,JqB _ _ (J:=a.map .str) (k:=8) (Ja _ _ (J:=[ofN ns,.int (400+60*k),patD x.ps]) (Jc _ _ rfl (Jc _ _ (Jd _ _ (x:=.int 400) (y:=.int (60*k)) rfl (Jd _ _ (x:=.int 60) (y:=.int k) rfl rfl (lF _ _ (by rw[show smallI 60=To from by decide,zF]))) DD) (Jc _ _ H rfl))) (ea 7)) rfl,ZY (by rw[Ze];lia)];rfl
  obtain⟨s,C,hl2,ek⟩:=JtP b Fe as n a;have P:=iJ (r:=Fo) (f:=5) (i:=4) (ns:=nsB) (as:=.cons (.var 8) .nil) (O:=lE ns ls Bu YJ o j m Qax No No) (U:=R) (bc:=BC) (J:=Gs) rfl rfl (rV (pl7 N (by simp[plE,Jh]) (by simp[plE,Jh,jJ]))) (by simp[Jj,oH]) ((find b Fe as n a G q Ae 4).trans (by rw[ek,JqV]));have hf:=first '|' q (by rw[Ze];lia) a (λw hw=>ws_A (G w hw)) 6
  have hd:=Jxk h.ok X7 h.nd G (by lia:a.length<=8) 1;have ht:=v_or (v_ne P (gE (p:=.call 36 (.cons B6 Gh)) (d:=labD ('ǅ'.find? Co)) (Ja _ _ (J:=[tblD ls,adrD a]) rfl hf)) (JqH a _).1 (sE _ (JqH a _).2)) (gE (p:=.un .not (.un .truth (.call 51 (.cons AD Gh)))) (d:=.bl Fo) (JF _ _ (p:=To) (JB _ _ (Ja _ _ (J:=[.tup Gq,adrD a]) rfl hd))));have st:exO Fo R BC b2B Xr=.ok .nx (lE ns ls Bu Qcy o j m Qax No No):=by
   rw[b2B,kE (wM X),o_if ht,if_neg 'v'];rfl
  obtain⟨y2,F,Y,E,Z⟩:=JnE ns h L b o j m N ks s C Bu Qax Ae;refine⟨y2,F,Y,E,?_⟩;rw[Zg,Jri (new:=[So DV]) rfl st];exact Z
noncomputable def wsX:Px:=Vh
def b3B:Sx:=(.seq (.set Fo 8 wsX)
  (.seq Wn
  U6))
def JpK(r:Nat)(h:(r:Int)<3):∃w∈wU,atD VD (r:Int)=So Cq:=by
 match r,h with
 |0,_=>exact⟨S "a",by decide+kernel,rfl⟩
 |1,_=>exact⟨S "7",by decide+kernel,rfl⟩
 |2,_=>exact⟨S "0",by decide+kernel,rfl⟩
 |k+3,h=>exact absurd h Ae
def rep_w(w:Str)(j:Nat)(h:(j:Int)<4):op2 .repU (.tup Gu) CT=.ok PZ:=by
 match j,h with
 |0,_=>rfl
 |1,_=>rfl
 |2,_=>rfl
 |3,_=>rfl
 |k+4,h=>exact absurd h Ae
def JhP{c:Nat}(h:runD defs (c+7) 31 Bi=.ex EJ):runD defs (c+8) 32 Bi=.ex EJ:=by rw[JeD,qS,dA,xC,Ja _ _ (J:=Bi) rfl h];rfl
def Jio{c:Nat}{x y z:D}(h:runD defs (c+7) 31 Bi=.ok (.tup Z7)):runD defs (c+8) 32 Bi=.ok (.tup [x,z]):=by rw[JeD,qS,nA _ _ _ (Ja _ _ (J:=Bi) rfl h),JJ];exact pC _ _ (Jc _ _ (Jd _ _ (x:=.tup Z7) (y:=.int 0) rfl rfl rfl) (Jc _ _ (Jd _ _ (x:=.tup Z7) (y:=.int 2) rfl rfl rfl) rfl)) Af
def Jnp{c:Nat}{x y z:D}(h:runD defs (c+7) 31 Bi=.ok (.tup Z7)):runD defs (c+8) 33 Bi=.ok y:=by rw[JhJ,yY,JJ];exact Jd _ _ (x:=.tup Z7) (y:=.int 1) (Ja _ _ (J:=Bi) rfl h) rfl rfl
def at_0(x:D)(xs:Ao):op2 .idx (.lst (x::xs)) aF=.ok x:=by have:=atN (x::xs) 0 Af;rw[show(.int 0:D)=.int ((0:Nat):Int)from rfl,zM,this];rfl
theorem JnD(ns:Be)(h:YC)(B:D)(z u v:Bl):∀(N:AX)(L E C o:Bl),∃y2 F H s,forL [2] 0 (exD R b3B) (N.map λk:Nat=>D.int k) (lE ns ls L B z u v E C o)=.ok (.nx,lE ns ls y2 B z u v F H s)
 |[],L,E,C,o=>⟨L,E,C,o,rfl⟩
 |k::N,L,E,C,o=>by
  obtain⟨r,hr,er⟩:=pick ns (700+k) 3 Ae AO
  obtain⟨j,hj,ej⟩:=pick ns (710+k) 4 Ae AO
  obtain⟨w,hw,ew⟩:=JpK r hr
  have W:∀y∈List.replicate j w,y∈wU:=λy Y=>by rw[List.eq_of_mem_replicate Y];exact hw
  have G:=Jsk h.ok W (by rw[zG];lia)
  have U:evD R wsX Tr=.ok PZ:=Jd _ _ (x:=.tup Gu) (y:=.int j) (pC _ _ (Jc _ _ (Jd _ _ (x:=.tup VD) (y:=.int r) rfl (Ja _ _ (J:=[ofN ns,.int (700+k),.int 3]) rfl (er 9)) (by rw[gN,ew];rfl)) rfl) Af) (Ja _ _ (J:=[ofN ns,.int (710+k),.int 4]) rfl (ej 9)) (rep_w w j hj)
  generalize List.replicate j w=a at W G U
  have P:∃f F H s,(f=Fw.nx\/f=Fw.ct)/\exD R b3B Tr=.ok (f,lE ns ls Bu B z u v F H s):=by
   rw[b3B,dH _ _ (d:=adD a) _ U];simp only[List.set];rcases G with hb|⟨m,l,b,hl,I⟩
   ·refine⟨.ct,So BB,C,o,.inr rfl,?_⟩;rw[dA,sM,Ja _ _ (J:=Bi) rfl (JhP (hb 3))];rfl
   ·refine⟨.nx,So BB,So (adL (a::m)),So Cp,.inl rfl,?_⟩;rw[iN _ _ _ (env2:=lE ns ls Bu B z u v (So BB) (So (adL (a::m))) (So Cp)) (by
     rw[sM,Ja _ _ (J:=Bi) rfl (Jio (I 3))];rfl)]
    have hs:evD R Vl (lE ns ls Bu B z u v (So BB) (So (adL (a::m))) (So Cp))=.ok (.int Xn):=by refine(Jd _ _ (x:=.int ((a::m).length-1)) (y:=.int (if b then 1 else 0)) (Jd _ _ (x:=.int (a::m).length) (y:=.int 1) (Jq _ _ (x:=adL (a::m)) rfl (by simp[adL])) rfl (JuI _ _)) (Jq _ _ (x:=.bl b) rfl rfl) DD).trans ?_;congr 2;cases b<;>simp only[cond_true,cond_false,Zh,Zo,if_true]at hl⊢<;>lia
    rw[n_if _ _ (b:=Fo) _ _ ((mD _ _ (p:=Fo) (q:=Fo) (Jd _ _ (x:=.int Xn) (y:=.int Xn) (Jq _ _ (x:=stL l) (Ja _ _ (J:=Bi) rfl (Jnp (I 3))) (by simp[stL])) hs (sE _ (by simp[D.dep]))) λ_=>Jd _ _ (x:=adD a) (y:=adD a) (Jd _ _ (x:=adL (a::m)) (y:=.int 0) rfl rfl (at_0 BB W2)) rfl (sE _ (by simp[adD,D.dep,xH]))).trans rfl)];rfl
  obtain⟨f,F,H,s,hf,P⟩:=P;obtain⟨X,Z,z9,M,ih⟩:=JnD ns h B z u v N Bu F H s;refine⟨X,Z,z9,M,?_⟩;rw[Zg];simp only[forL,Jv,n25,n35,Zo,if_true,Rs.bo,Jt,List.set];rw[P];rcases hf with rfl|rfl<;>exact ih
theorem JtX(ls:Cm):'ǖ'.dep<=20:=by
 have:deps ('ǅ'.map Yt)<=10:=mQ λd b=>by obtain⟨r,_,rfl⟩:=ZE.mp b;have:=zR r.ps;simp only[Row.d,Row.pd,D.dep,deps];lia
 simp only[D.dep];lia
def JqD{w:Bool}{U:Ag}{f:AX}{b:Nat}{src:Px}{body:Bs}{out:Rq}(j:evD U src O=.ok A2)(m:Jj J=To)(hi:imms J=To)(h:forB f b F3 J O=out):exO w U bc (.loop f b src body) O=out:=by simp only[exO,j];rw[if_pos (by rw[m,hi];rfl)];exact h
theorem st0(ns:Be)(h:YC)(a:Nat)(u:plE [y2]=To):∃m j f,plE [m,j,f]=To/\exO Fo R BC vW Vz=.ok .nx (lE ns ls y2 Xu m j f No No No):=by
 have y:=X7;have r:(([]++ls.map YO).map Row.l).Nodup:=by rw[mB,uD];exact h.nd
 obtain⟨m,j,f,v,b⟩:=JiT ns ls a y2 u Fe [] No No No r (by rw[mB,Ze];lia) rfl;have q:∀(J:Ao)(k:Nat),Jj J=To->imms J=To->Jj WW=To/\imms WW=To:=by
  intro J;induction J with
  |nil=>intro k _ _;exact Ce
  |cons d J G=>intro k s o;simp only[Jj,imms,Zc]at s o;obtain⟨C,E⟩:=G AV s.2 o.2;exact⟨by simp[Jl,Jj,Jh,s.1,C],by simp[Jl,imms,D.imm,o.1,E]⟩
 obtain⟨z,B⟩:=q _ 0 (tD Fe) (JiF _);refine⟨m,j,f,v,?_⟩;have F:evD R P1 Vz=.ok (.lst (Jl 0 ('ǅ'.map Yt))):=rfl;rw[vW];simp only[exO,F];rw[if_pos (by rw[z,B];rfl)];exact b
def st1(ns:Be)(h:YC)(a:Nat){j m b:Bl}(s:plE [y2]=To)(hz:plE [j,m,b]=To):exO Fo R BC iW YX=.ok .nx YX:=by have o:=are_leads h.ok X7 h.nd 3;have q:=iJ (r:=Fo) (f:=2) (i:=4) (ns:=nsB) (as:=.nil) (O:=lE ns ls y2 Xu j m b No No No) (U:=R) (bc:=BC) (J:=[]) rfl rfl (rV (pl7 hz s rfl)) rfl (JlX a Fe [] 0 10);have u:=v_or (gE (p:=.un .notT QdO) (d:=.bl Fo) (O:=lE ns ls y2 Xu j m b No No No) (U:=R) (bc:=BC) (Jq _ _ (x:=.bl To) (Jp _ _ (x:=.tup Gq) rfl o) rfl)) (v_ne q (gE (p:=.var 3) (d:=tblD ls) rfl) (yU ls) (sE _ (JtX ls)));rw[iW,o_if u,if_neg 'v'];rfl
theorem st2(ns:Be)(h:YC)(a:Nat){f j b:Bl}(hz:plE [f,j,b]=To):∃o m n r,exO Fo R BC Jlx YY=.ok .nx (lE ns ls o (brD a Fe m n) f j b r No No):=by
 have u:=X7;have q:evD R T7 YY=.ok (.lst ((List.range' 0 (3*Ax)).map λk:Nat=>D.int k)):=Jq _ _ (x:=.int ((3*Ax:Nat):Int)) ((Jd _ _ (x:=.int 3) (y:=.int Ax) rfl (Jq _ _ (x:=.tup Gq) rfl Af) (lF _ _ (by rw[show smallI 3=To from by decide,zF]))).trans (xB (λz=>Rs.ok (D.int z)) (by lia:(3:Int)*(Ax:Int)=((3*Ax:Nat):Int)))) (rN (3*Ax) Ae);by_cases z:0<Ax
 ·obtain⟨v,m,n,s,e⟩:=JnE ns h z a f j b hz (List.range' 0 (3*Ax)) [] 0 y2 No (by simp;lia);exact⟨v,m,n,s,JqD (body:=b2B) q (JqA _) (Jlf _) e⟩
 ·refine⟨y2,[],0,No,JqD (body:=b2B) q (JqA _) (Jlf _) ?_⟩;rw[show 3*'Ƌ'=0 by lia];rfl
def st3(ns:Be)(h:YC)(B:D)(y2 j q f s:Bl):∃r m o b,exO Fo R BC xW (lE ns ls y2 B j q f s No No)=.ok .nx (lE ns ls r B j q f m o b):=by obtain⟨r,m,o,b,u⟩:=JnD ns h B j q f (List.range' 0 3) y2 s No No;refine⟨r,m,o,b,?_⟩;rw[show xW=.lift (.loop Fo [2] 0 QbU b3B)from rfl];exact wM (by rw[dD,Jq _ _ (x:=.int (3:Nat)) rfl (rN 3 AO)];exact u)
def sp0(ns:Be)(e:R 50 QcR=.ok BN):exO Fo R BC Jlb Qa8=.ok .nx HP:=wM (by
 rw[xC,show JE 11 [ofN ns]=[So Bq,No,No,No,No,No,No,No,No,No,No]from rfl,Ja _ _ (J:=QcR) rfl e]
 rfl)
def sp1(ns:Be){b:Cm}(e:forL [2] 0 (exD R p1B) ((List.range' 0 4).map λk:Nat=>D.int k) HP=.ok QcO):exO Fo R BC rW HP=.ok .nx (F1 ns b y2):=by rw[show rW=.lift (.loop Fo [2] 0 QbT p1B)from rfl];exact wM (by rw[dD,Jq _ _ (x:=.int (4:Nat)) rfl (rN 4 AO)];exact e)
theorem Jow(ns:Be):RL R BC Qa8:=by
 obtain⟨b,H,o,G,q⟩:=Jqh ns 10 AO;obtain⟨ls,y2,h,f,y⟩:=Jlw ns (List.range' 0 4) b No ⟨H,o,G⟩ rfl;refine⟨F1 ns b No,sp0 ns (q 6),F1 ns ls y2,sp1 ns y,?_⟩;refine⟨?_,tblD ls,JqI _ _ (ls:=ls) rfl (by have:=X7;lia),yU ls,λa=>?_⟩
 ·have z:Jh Bq=To:=Jqp ns;have I:Jh BN=To:=Jiz ls;show(Jh Bq&&(Jh BN&&plE (y2::[No,No,No,No,No,No,No,No])))=To;rw[z,I,plc y2,f];rfl
 ·obtain⟨s,B,r,m,E⟩:=st0 ns h a f;obtain⟨j,F,n,L,v⟩:=st2 ns h a (y2:=y2) m;obtain⟨M,N,P,u,C⟩:=st3 ns h (brD a Fe F n) j s B r L;exact⟨_,E,_,st1 ns h a f m,_,v,_,C,_,rfl⟩
end K76
namespace K76
open PySem PySem.Spec PyProof.Rows L2 Pu Rd
variable{mg:BY}{e:DefE}
noncomputable abbrev row:Program:=PySem.Challenge.pw_routeboard_k76_whole_leads_and_tables
noncomputable def stAt (i:Nat):Stmt:=row.main.body.getD i OC
noncomputable abbrev JhY:Stmt:=qH Fy 1
noncomputable abbrev Jum:Stmt:=qH Fy 2
noncomputable abbrev Jqa:Stmt:=qH Fy 5
noncomputable abbrev Jtz:Stmt:=qH Fy 6
noncomputable abbrev JuC:Stmt:=qH Fy 7
noncomputable abbrev JtA:Stmt:=qH Fy 8
noncomputable abbrev yW:Stmt:=qH Fy 0
noncomputable abbrev rP:Stmt:=stAt 81
noncomputable abbrev JvA:List Str:=[Bw,RQ,EW,ON,(oS "_law_board"),CL,(oS "_law_label"),GM,Rp,(oS "_law_row"),(oS "_law_is_round")]
noncomputable abbrev T:List DefE:=[((oS "is_text_of"),stAt 19,OI),
 ((oS "is_word"),stAt 20,[DP]),
 ((oS "is_name"),stAt 21,[DP]),
 ((oS "is_tuple_of"),stAt 22,OH),
 ((oS "are_words"),stAt 23,[QdU]),
 ((oS "has_twice"),stAt 24,[Hv]),
 ((oS "are_rising_words"),stAt 25,[DP]),
 ((oS "is_part"),stAt 26,[DP]),
 ((oS "is_hole"),stAt 27,[Ee]),
 ((oS "hole_names"),stAt 28,[B8]),
 ((oS "hole_named"),stAt 29,[B8,EU]),
 ((oS "is_pattern"),stAt 30,[DP]),
 ((oS "has_rest"),stAt 33,[B8]),
 ((oS "writes_number"),stAt 34,[KA]),
 ((oS "lets_by"),stAt 35,[Ee,KA]),
 ((oS "has_fitting_length"),stAt 36,QcS),
 ((oS "does_match"),stAt 37,QcG),
 ((oS "value_at"),stAt 38,[Ee,Ff,GS]),
 ((oS "matched"),stAt 39,QcG),
 ((oS "is_number_value"),stAt 40,[Hj]),
 ((oS "can_hold"),stAt 41,KR),
 ((oS "values_by_name"),stAt 42,[B8,FF]),
 ((oS "check_values"),stAt 43,[B8,Fp]),
 ((oS "words_with"),stAt 44,[B8,Fp]),
 ((oS "built"),stAt 45,[B8,FF]),
 ((oS "fits_in"),stAt 48,Qb5),
 ((oS "can_fill"),stAt 49,[B8,Qa9]),
 ((oS "is_lead"),stAt 50,[DP]),
 ((oS "are_leads"),stAt 51,[DP]),
 ((oS "goal_address"),stAt 52,[bC,FF]),
 ((oS "led_on"),stAt 53,Iv),
 ((oS "way"),stAt 54,Iv),
 ((oS "followed"),stAt 55,Iv),
 ((oS "labels_of"),stAt 56,Iv),
 ((oS "turned"),stAt 57,[(oS "lead")]),
 ((oS "all_rows"),stAt 59,[GX,Ff]),
 ((oS "first"),stAt 60,[GX,Ff]),
 ((oS "with_row"),stAt 63,[E9,(oS "row"),GS]),
 ((oS "bounds"),stAt 65,[B8]),
 ((oS "sought_hole"),stAt 66,[B8,EU]),
 ((oS "with_parts_for"),stAt 67,[B8,E7,(oS "parts")]),
 ((oS "words_for"),stAt 68,KR),
 ((oS "narrowed"),stAt 69,[B8,EU,Hj]),
 ((oS "_law_cell"),stAt 71,[Bw,EW]),
 ((oS "_law_pick"),stAt 72,[Bw,EW,Qba]),
 ((oS "_law_part"),stAt 73,[Bw,CL,Qu]),
 ((oS "_law_pattern"),stAt 74,[Bw,CL,Qbb]),
 ((oS "_law_any_word"),stAt 76,[Bw,CL]),
 ((oS "_law_near"),stAt 77,[Bw,CL,GM]),
 ((oS "_law_goal"),stAt 78,[Bw,CL,GM]),
 ((oS "_law_leads"),stAt 79,[Bw,CL]),
 ((oS "_law_is_led"),stAt 80,[RQ,Rp])]
noncomputable abbrev B_:List Str:=[(oS "all"),KC,(oS "bool"),(oS "dict"),(oS "enumerate"),(oS "int"),(oS "isinstance"),(oS "len"),(oS "list"),(oS "range"),(oS "set"),(oS "sorted"),(oS "str"),(oS "tuple"),(oS "zip")]
structure Env(G:Gw)(U:Ag):Prop where
 f:∀i{n},T[i]?.map (·.1)=So n->Callee G U i n
 b:BlN G.mg B_
 c_FIGURES:zA G P8 QaO
 c_GREATEST_NUMBER:zA G RO Qi
 c_LETTERS:zA G P7 QaM
 c_MOST_CHOICES:zA G Ro aM
 c_MOST_LEADS:zA G QD Yy
 c_MOST_LETTERS:zA G Rn aM
 c_MOST_PARTS:zA G QC Yy
 c_MOST_ROWS:zA G Qt Gv
 c_MOST_SIGNS:zA G QB Gv
 c_MOST_WORDS:zA G QA Gv
 c_NAME_ONLY_HOLES:zA G RN QaN
 c_WORD_SIGNS:zA G Qz QaL
 k_T:NoKT G.K
 x_BadLead:ExcC G Ck
 x_BadValues:ExcC G Gi
 x_NoHole:ExcC G Ka
 x_Taken:ExcC G J4
 x_TooMany:ExcC G IL
 t_BadLead:Takes G Ck [Ck]
theorem blm{x:Str}:∀{T:Ad},BlN mg T->x∈T->mg x=No
 |_::_,b,.head _=>b.1
 |_::_,b,.tail _ h=>blm b.2 h
noncomputable abbrev NL:List NM:=[(OI,[]),
 FE,
 FE,
 (OH,[]),
 ([QdU],[]),
 ([Hv],[]),
 FE,
 FE,
 ([Ee],[]),
 Qdi,
 ([B8,EU,Ee],[]),
 FE,
 Qdi,
 ([KA],[]),
 ([Ee,KA],[]),
 (QcS,[]),
 (QcG,[]),
 ([Ee,Ff,GS],[]),
 (QcG,[]),
 ([Hj],[]),
 (KR,[]),
 ([B8,FF,Hv,Fp,EU,Hj],[3]),
 ([B8,Fp,Ee,EU],[]),
 ([B8,Fp,Ld,Ee],[2]),
 ([B8,FF,Fp,Ld],[]),
 (Qb5,[]),
 ([B8,Qa9,E7],[]),
 FE,
 FE,
 ([bC,FF,Ld],[]),
 ([MC,Ff,QI,B8,bC,FF],[]),
 ([MC,Ff,(oS "addresses"),QdV,(oS "step")],[2,3]),
 ([MC,Ff,(oS "gone")],[]),
 (Iv,[]),
 ([(oS "lead"),(oS "back")],[]),
 ([GX,Ff],[]),
 ([GX,Ff,QdV],[]),
 ([E9,(oS "row"),GS,(oS "place")],[]),
 Qdi,
 ([B8,EU,E7],[]),
 ([B8,E7,(oS "parts"),GS],[]),
 (KR,[]),
 ([B8,EU,Hj,E7,Ld,FV],[]),
 ([Bw,EW],[]),
 ([Bw,EW,Qba,(oS "_law_drawn")],[]),
 ([Bw,CL,Qu,(oS "_law_pool"),QbV,Qbc],[]),
 ([Bw,CL,Qbb,(oS "_law_names"),L7],[4]),
 ([Bw,CL],[]),
 ([Bw,CL,GM,L7,EW,Oo,QbV],[3]),
 ([Bw,CL,GM,(oS "_law_holes"),L7,Oo,(oS "_law_place"),EW],[3,4]),
 ([Bw,CL,L7,EW,GM],[2]),
 ([RQ,Rp,ON,(oS "_law_on"),(oS "_law_lead"),Qbc,(oS "_law_told"),(oS "_law_back"),Qu,(oS "_law_value"),(oS "_law_close")],[])]
structure EnvB(G:Gw)(U:Ag)(bc:A1):Prop extends Env G U where
 F_looks:FldC G GY
 F_rows:FldC G E9
 F_told:FldC G FV
 m_set_rows:CalleeB G bc 0 FC QbW
 m_add:CalleeB G bc 1 FC (oS "add")
 m_table:CalleeB G bc 2 FC GX
 m_look:CalleeB G bc 3 FC (oS "look")
 m_ask:CalleeB G bc 4 FC (oS "ask")
 m_find:CalleeB G bc 5 FC (oS "find")
structure EnvL(G:Gw)(U:Ag)(bc:A1):Prop extends EnvB G U bc where
 mkB:MakeB G
noncomputable abbrev TM:List MethE:=[(QbW,(oS "Board.set_rows"),JhY,[Ei,E9]),((oS "add"),(oS "Board.add"),Jum,MO),(GX,(oS "Board.table"),Jqa,[Ei]),((oS "look"),(oS "Board.look"),Jtz,Gm),((oS "ask"),(oS "Board.ask"),JuC,Gm),((oS "find"),(oS "Board.find"),JtA,Gm)]
noncomputable abbrev NM_:List IF:=[[Ei,E9],MO,[Ei],[Ei,Ff,QI,B8,Fp],Gm,[Ei,Ff,FV]]
def dAll{X:Cx}{G:Gw}{U:Ag}{a:Hp}:(∀E:Env G U,DAll X G U a T NL defs)/\∀{bc:A1}(E:EnvB G U bc)(f:PlO a),JwV X G U bc a TM NM_ bdefs:=by
 refine⟨λE=>?_,λE f=>?_⟩;all_goals repeat' (refine fG (λC b=>?_) ?_)
 all_goals try exact iA
 all_goals conv=>(arg 2;whnf)
 all_goals first|conv=>(arg 3;arg 7;whnf)|conv=>(arg 3;arg 5;whnf)
 repeat' (first
  |with_reducible assumption
  |((with_reducible show _=_);first|exact(by decide+kernel)|exact rfl|exact blm E.b (by decide+kernel))
  |((with_reducible show PE _ _ _);with_reducible (first|refine@vV _ _ _ _ _ _ _ C _ ?_|refine@JR _ _ _ _ _|refine@eIx _ _ _ _ _ _ _ ?_ ?_ ?_|refine@cF _ _ _ _ _ _ _ _ _ _ _ C _ ?_ ?_ ?_ ?_ ?_|refine@yP _ _ _ _ _|refine@eAdd _ _ _ _ _ _ _ ?_ ?_|refine@cLen _ _ _ _ _ _ _ _ _ C ?_ ?_ ?_ ?_|refine@eJ _ _ _ _ _|refine@yV _ _ _ _ _ _ ?_|refine@Jwu _ _ _ _ _ _ _ _ _ _ _ _ _ _ _ C ?_ ?_ ?_ ?_ ?_ ?_|refine@Jvd _ _ _ _ _ ?_|refine@vG _ _ _ _ _ _ _ C _ ?_ ?_|refine@eMul _ _ _ _ _ _ _ ?_ ?_|refine@Jxd _ _ _ _ _ _ _ _ ?_ ?_|refine@cAll _ _ _ _ _ _ _ _ _ C ?_ ?_ ?_ ?_|refine@Jql _ _ _ _ _ _ _ _ _ C ?_ ?_ ?_ ?_|refine@JvV _ _ _ _ _ _ ?_|refine@JuB _ _ _ _|refine@jY _ _ _ _ ?_ _ _ _ _ _ ?_ ?_ ?_|refine@Jxl _ _ _ _ _ _ _ _ _ C ?_ ?_ ?_|refine@cIsi _ _ _ _ _ _ _ _ _ _ _ _ _ JrH C ?_ ?_ PyProof.Rows.boot_str ?_ ?_ ?_ ?_ ?_ ?_|refine@cIsi _ _ _ _ _ _ _ _ _ _ _ _ _ Jsr C ?_ ?_ PyProof.Rows.boot_tuple ?_ ?_ ?_ ?_ ?_ ?_|refine@cIsi _ _ _ _ _ _ _ _ _ _ _ _ _ JrX C ?_ ?_ PyProof.Rows.boot_int ?_ ?_ ?_ ?_ ?_ ?_|refine@cIsi _ _ _ _ _ _ _ _ _ _ _ _ _ JpZ C ?_ ?_ PyProof.Rows.boot_bool ?_ ?_ ?_ ?_ ?_ ?_|refine@eEq _ _ _ _ _ _ _ _ _ _ C ?_ ?_|refine@eIn _ _ _ _ _ _ _ _ _ _ C ?_ ?_ ?_|refine@pI_if _ _ _ _ _ _ _ _ _ ?_ ?_ ?_|refine@m_str _ _ _ _ _|refine@Jwn _ _ _ _ _ _ _ ?_ ?_ ?_|refine@eMod _ _ _ _ _ _ _ ?_ ?_|refine@JpY _ _ _ _ _ _ _ _ _ _ _ _ _ ?_ ?_ ?_ ?_ ?_ ?_|refine@Jvr _ _ _ _ _ ?_|refine@Jun _ _ _ _ _ ?_|refine@eDGet _ _ _ _ _ _ _ _ _ _ C _ ?_ ?_ ?_ ?_|refine@eSub _ _ _ _ _ _ _ ?_ ?_|refine@cM _ _ _ _ _ _ _ _ _ _ _ _ _ _ _ _ _ _ ?_ C ?_ ?_ ?_ ?_ ?_ ?_ ?_ ?_|refine@cKeys _ _ _ _ _ _ _ _ _ C ?_ ?_ ?_ ?_|refine@eLt _ _ _ _ _ _ _ ?_ ?_|refine@cStr _ _ _ _ _ _ _ _ _ C ?_ ?_ ?_ ?_|refine@eDiv _ _ _ _ _ _ _ ?_ ?_|refine@cIdxT _ _ _ _ _ _ _ _ _ _ _ C ?_ ?_ ?_ ?_ ?_ ?_|refine@cStrt _ _ _ _ _ _ _ _ ?_ ?_ ?_ ?_ ?_ ?_|refine@cAny _ _ _ _ _ _ _ _ _ C ?_ ?_ ?_ ?_|refine@cInt _ _ _ _ _ _ _ _ _ C ?_ ?_ ?_ ?_|refine@eGe _ _ _ _ _ _ _ ?_ ?_|refine@eGt _ _ _ _ _ _ _ ?_ ?_|refine@eNe _ _ _ _ _ _ _ _ _ _ C ?_ ?_|refine@JsP _ _ _ _ _ _ _ _ _ _ _ C ?_ ?_ ?_ ?_ ?_ ?_|refine@JtU _ _ _ _ _ _ _ ?_|refine@pI_or _ _ _ _ _ _ _ _ ?_ ?_|refine@JsU _ _ _ _ _ _ _ _ _ _ _ C ?_ ?_ ?_ ?_ ?_ ?_|refine@cDLen _ _ _ _ _ _ _ _ _ C ?_ ?_ ?_ ?_|refine@cDict _ _ _ _ _ _ _ _ _ C ?_ ?_ ?_ ?_|refine@Jjp _ _ _ _ ?_ ?_))
  |((with_reducible show PA _ _ _);with_reducible (first|refine@Jn _ _ _ _ _ _ ?_ ?_ ?_|refine@JK _ _))
  |((with_reducible show PSs _ _ _);with_reducible (first|refine@qM _ _ _ _ _ _ ?_|refine@oX _ _ _ _ _ _ _ _ ?_ ?_|refine@nM _ _ _ _|refine@lJ _ _ _ _ _ _ _ _ ?_|refine@JlW _ _ _ _ _ _ _ _ _ _ ?_ ?_|refine@lY _ _ _ _ _ _ _ _ ?_))
  |((with_reducible show PS _ _ _);with_reducible (first|refine@jN _ _ _ _ _ _ _ ?_|refine@uU _ _ _ _ _ _ _ _ _ _ _ ?_ ?_ ?_|refine@aSetC _ _ _ _ _ _ _ _ _ _ _ _ _ _ _ _ _ _ _ _ _ C ?_ ?_ ?_ ?_ ?_ ?_ ?_ ?_|refine@aSet _ _ _ _ _ _ _ _ _ _ _ _ _ C ?_ ?_ ?_ ?_|refine@aApp _ _ _ _ _ _ _ _ _ _ _ _ _ _ _ C ?_ ?_ ?_ ?_ ?_|refine@hV _ _ _ _ _ _ _ _ _ _ _ _ _ _ _ C ?_ ?_ ?_ ?_ ?_ ?_|refine@Jjo _ _ _ _ _ _ _ _ _ _ _ _ _ C ?_ ?_ ?_ ?_|refine@Jrh _ _ _ _ _ _ _ _ _ ?_|refine@aOwnC _ _ _ _ _ _ _ _ _ _ _ _ _ _ _ _ _ _ _ _ _ C ?_ ?_ ?_ ?_ ?_ ?_ ?_|refine@aOwn _ _ _ _ _ _ _ _ _ _ _ _ _ C ?_ ?_ ?_|refine@oU _ _ _ _ _ _ _ _ _ _ _ _ _ ?_ ?_ ?_|refine@JwX _ _ _ _ _ _ _ _ _ _ _ _ _ _ C ?_ ?_ ?_ ?_|refine@aExt _ _ _ _ _ _ _ _ _ _ _ _ _ _ _ C ?_ ?_ ?_ ?_ ?_|refine@JoW _ _ _ _ _ _ _ _ _ _ ?_ ?_ ?_|refine@aPut _ _ _ _ _ _ _ _ _ _ _ _ _ _ _ _ C _ ?_ ?_ ?_ ?_ ?_ ?_ ?_|refine@bSet _ _ _ _ _ _ _ _ _ _ _ _ _ _ C ?_ ?_ ?_|refine@rH _ _ _ _ _ _ _ _ ?_|refine@Jqr _ _ _ _ _ _ _ _ _ ?_ ?_|refine@JsV _ _ _ _ _ _ _ _ _ _ _ _ _ _ _ _ _ C ?_ ?_ ?_ ?_ ?_|refine@aPop _ _ _ _ _ _ _ _ _ _ _ _ _ _ _ _ _ _ C ?_ ?_ ?_ ?_ ?_ ?_|refine@aIns _ _ _ _ _ _ _ _ _ _ _ _ _ _ _ _ _ C ?_ ?_ ?_ ?_ ?_ ?_ ?_ ?_|refine@Jxe _ _ _ _ _ _ _ _ _ _ _ _ _ _ _ _ C ?_ ?_ ?_ ?_ ?_ ?_ ?_ ?_|refine@aSetM _ _ _ _ _ _ _ _ _ _ _ _ _ C ?_ ?_ ?_|refine@Jvg _ _ _ _ _ _ _ _ _ _ _ _ C ?_ ?_|refine@aRetF _ _ _ _ _ _ _ _ _ _ _ C ?_|refine@JuT _ _ _ _ _ _ _ ?_ ?_|refine@aTupC _ _ _ _ _ _ _ _ _ _ _ _ _ _ _ _ _ _ _ _ _ C ?_ ?_ ?_ ?_ ?_ ?_))
  |((with_reducible show PT _ _ _);with_reducible (first|refine@tEq _ _ _ _ _ _ _ _ _ _ C ?_ ?_|refine@JqT _ _ _ _ _ ?_|refine@tNe _ _ _ _ _ _ _ _ _ _ C ?_ ?_|refine@tGt _ _ _ _ _ _ _ ?_ ?_|refine@Jwe _ _ _ _ _ _ _ ?_|refine@tLt _ _ _ _ _ _ _ ?_ ?_|refine@fW _ _ _ _ _ _ _ ?_|refine@JrC _ _ _ _ _ _ _ ?_|refine@tNi _ _ _ _ _ _ _ _ _ _ C ?_ ?_ ?_|refine@tDIn _ _ _ _ _ _ _ _ _ _ C _ ?_ ?_ ?_ ?_|refine@JoB _ _ _ _ _ _ _ _ _ _ _ _ _ ?_ ?_ ?_ ?_ ?_ ?_|refine@Jml _ _ _ _ _ _ _ ?_|refine@tGe _ _ _ _ _ _ _ ?_ ?_|refine@tIn _ _ _ _ _ _ _ _ _ _ C ?_ ?_ ?_|refine@tDNi _ _ _ _ _ _ _ _ _ _ C _ ?_ ?_ ?_ ?_|refine@Jrm _ _ _ _ ?_ ?_|refine@PW.pt _ _ _ ?_))
  |((with_reducible show PI _ _ _ _);with_reducible (first|refine@Jqk _ _ _ _ _ _ ?_|refine@fY _ _ _ _ _ _ _ _ _ _ C ?_ ?_ ?_ ?_|refine@JrV _ _ _ _ _ _ _ ?_|refine@JrM _ _ _ _ _ _ _ _ _ _ _ _ C ?_ ?_ ?_ ?_|refine@JvR _ _ _ _ _ _ _ _ _ _ _ _ _ _ C ?_ ?_ ?_ ?_ ?_ ?_))
  |((with_reducible show PW _ _ _);with_reducible (first|refine@Jro _ _ _ _ _ _ ?_|refine@Juo _ _ _ _ _ _ _ _ ?_ ?_|refine@Juz _ _ _ _ _ _ _ _ ?_ ?_))
  |((with_reducible show PS _ _ _);refine Jlz C b (by decide+kernel) E.t_BadLead (E.f 30 rfl) (by decide+kernel) rfl ?_ ?_ (λ_=>jN eJ) (λ_=>Au))
  |((with_reducible show True);exact iA)
  |((with_reducible show FldC _ _);first|exact E.F_looks|exact E.F_rows|exact E.F_told)
  |((with_reducible show CalleeB _ _ _ _ _);first|exact E.m_set_rows|exact E.m_add|exact E.m_table|exact E.m_look|exact E.m_ask|exact E.m_find)
  |((with_reducible show M1 _ _ _ _ _ _);exact⟨rfl,rfl,rfl,rfl⟩)
  |((with_reducible show _=To->NoKT _);first|(intro _;exact E.k_T)|(intro z;cases z))
  |((with_reducible show NoKT _);exact E.k_T)
  |((with_reducible show ExcC _ _);first|exact E.x_BadLead|exact E.x_BadValues|exact E.x_NoHole|exact E.x_Taken|exact E.x_TooMany)
  |((with_reducible show Takes _ _ _);first|exact E.t_BadLead)
  |with_reducible intro _ C
  |((with_reducible intro _);exact rfl)
  |((with_reducible show _≠_);exact(by decide+kernel))
  |((with_reducible show _<=_);exact(by decide+kernel))
  |((with_reducible show sQ _);intro _ _;exact rfl)
  |((with_reducible show NoSl _);intro _ _;exact rfl)
  |((with_reducible show M2 _ _ _ _ _ _ _);exact⟨rfl,rfl,rfl,rfl⟩)
  |((with_reducible show OpR _ _ _);first|exact JwQ|exact zU|exact mV|exact oV)
  |((with_reducible show Callee _ _ _ _);exact E.f _ rfl)
  |((with_reducible show zA _ _ _);first|exact E.c_FIGURES|exact E.c_GREATEST_NUMBER|exact E.c_LETTERS|exact E.c_MOST_CHOICES|exact E.c_MOST_LEADS|exact E.c_MOST_LETTERS|exact E.c_MOST_PARTS|exact E.c_MOST_ROWS|exact E.c_MOST_SIGNS|exact E.c_MOST_WORDS|exact E.c_NAME_ONLY_HOLES|exact E.c_WORD_SIGNS)
  |((with_reducible show TgOk _ _ _ _);first|exact gOne C (by decide+kernel)|exact gTwo C (by decide+kernel) (by decide+kernel))
  |((with_reducible show PG _ _ _);first|exact lOne C (by decide+kernel)|exact lTwo C (by decide+kernel) (by decide+kernel)|exact JwF C (by decide+kernel) (by decide+kernel) (by decide+kernel))
  |with_reducible exact b.pass|with_reducible (first|refine@bSetF _ _ _ _ _ _ _ _ _ _ _ _ _ _ _ C ?_ ?_ ?_ ?_ ?_|refine@bSetD _ _ _ _ _ _ _ _ _ _ _ _ _ _ C ?_ ?_ ?_ ?_|refine@bAug _ _ _ _ _ _ _ _ _ _ _ _ _ C ?_ ?_ ?_ _ _ _|refine@bPut _ _ _ _ _ _ _ _ _ _ _ _ _ _ _ _ _ _ C ?_ ?_ ?_ ?_ ?_ ?_ ?_ ?_|refine@KW _ _|refine@zW _ _ _ _ ?_|refine@JkM _ _|refine@Jtw _ _ _ _ ?_|refine@Jvl _ _|refine@Jvn _ _ _ _ _ _ _ ?_ ?_|refine@JuK _ _ _ _ _ _ _ ?_ ?_))
section
variable{X:Cx}{G:Gw}{U:Ag}{bc:A1}{H0:Hp}
def d_law(E:EnvL G U bc)(C:Ctx X G JvA (Jf rP).names)(b:HX X (Jf rP).names)(f:BA):PSs X (Jx rP) (tLaw X H0 (RL U bc)):=by refine oJ ?_ ?_;refine@rH _ _ _ _ _ _ _ _ ?_;refine@aSet _ _ _ _ _ _ _ _ _ _ _ _ _ C Ah ?_ rfl rfl;refine@cF _ _ _ _ _ _ _ _ _ _ _ C _ (E.f 50 rfl) Ah ?_ rfl rfl;refine@Jn _ _ _ _ _ _ ?_ (@Jn _ _ _ _ _ _ JR JK rfl) rfl;exact vV C Ah;refine oJ ?_ ?_;refine@rH _ _ _ _ _ _ _ _ ?_;refine@hV _ _ _ _ _ _ _ _ _ _ _ _ _ _ _ C b.pass ?_ ?_ ?_ rfl FL;exact@fY _ _ _ _ _ _ _ _ _ _ C JR Ah De rfl;exact@lOne _ _ _ _ _ _ _ _ _ C Ah;refine@qM _ _ _ _ _ _ ?_;refine@uU _ _ _ _ _ _ _ _ _ _ _ ?_ ?_ nM;refine@tLt _ _ _ _ _ _ _ ?_ JR;refine@cLen _ _ _ _ _ _ _ _ _ C De ?_ Ah rfl;exact vV C Ah;refine@qM _ _ _ _ _ _ ?_;refine@aSet _ _ _ _ _ _ _ _ _ _ _ _ _ C Ah ?_ rfl rfl;refine@cF _ _ _ _ _ _ _ _ _ _ _ C _ (E.f 50 rfl) Ah ?_ rfl rfl;refine@Jn _ _ _ _ _ _ ?_ ?_ rfl;exact vV C Ah;refine@Jn _ _ _ _ _ _ ?_ JK rfl;refine@eAdd _ _ _ _ _ _ _ JR ?_;refine@eMul _ _ _ _ _ _ _ JR ?_;exact vV C Ah;refine Jpn C b f Ah Ah Ah E.mkB Ah ?_ ?_;refine@Jql _ _ _ _ _ _ _ _ _ C De ?_ Ah rfl;refine@Jjp _ _ _ _ ?_ rfl;refine@Jwu _ _ _ _ _ _ _ _ _ _ _ _ _ _ _ C Ah ?_ ?_ (λ_ a=>JkM) ?_ FL;refine@Jqk _ _ _ _ _ _ ?_;exact vV C Ah;exact(λ_ a=>gOne a Ah);intro _ a;refine@jY _ _ _ _ _ _ _ _ _ _ ?_ KW (@zW _ _ _ _ JR);exact vV a Ah;refine oJ ?_ ?_;refine JsR C b.pass ?_ Ah De ?_ ?_;exact vV C Ah;exact@lNest _ _ _ _ _ _ _ _ _ _ _ _ _ _ _ _ _ _ _ C Ah Ah Ah;refine@lJ _ _ _ _ _ _ _ _ ?_;refine@Jqr _ _ _ _ _ _ _ _ _ ?_ rfl;refine@cMH _ _ _ _ _ _ _ _ _ _ _ _ _ _ _ _ _ _ _ _ C f E.m_add Ah Ah ?_ rfl rfl rfl rfl;refine@Jn _ _ _ _ _ _ ?_ ?_ rfl;exact vV C Ah;refine@Jn _ _ _ _ _ _ ?_ ?_ rfl;exact vV C Ah;refine@Jn _ _ _ _ _ _ ?_ JK rfl;exact vV C Ah;refine oJ ?_ ?_;refine@oU _ _ _ _ _ _ _ _ _ _ _ _ _ ?_ ?_ (@lY _ _ _ _ _ _ _ _ nM);refine@PW.pt _ _ _ ?_;refine@JqE _ _ _ _ _ _ _ _ _ _ _ ?_ ?_;refine@fW _ _ _ _ _ _ _ ?_;refine@Jml _ _ _ _ _ _ _ ?_;refine@cF _ _ _ _ _ _ _ _ _ _ _ C _ (E.f 28 rfl) Ah ?_ rfl rfl;refine@Jn _ _ _ _ _ _ ?_ JK rfl;exact vV C Ah;refine@JnU _ _ _ _ _ _ _ _ _ ?_;refine@tbNe _ _ _ _ _ _ _ _ _ _ _ _ _ C ?_ ?_;exact@cMH0 _ _ _ _ _ _ _ _ _ _ _ _ _ _ _ _ _ C f E.m_table Ah Ah rfl;refine@Jrj _ _ _ _ _ _ _ ?_;exact vV C Ah;refine@lJ _ _ _ _ _ _ _ _ ?_;exact@rH _ _ _ _ _ _ _ _ (@jN _ _ _ _ _ _ _ eJ);refine oJ ?_ ?_;refine@JsF _ _ _ _ _ _ _ _ _ _ _ _ _ _ _ _ _ _ C b.pass ?_ Ah De ?_ ?_ _ rfl (λ_=>rfl);refine@eMul _ _ _ _ _ _ _ JR ?_;refine@cLen _ _ _ _ _ _ _ _ _ C De ?_ Ah rfl;exact vV C Ah;exact@lOne _ _ _ _ _ _ _ _ _ C Ah;refine@JlW _ _ _ _ _ _ _ _ _ _ ?_ ?_;refine@rH _ _ _ _ _ _ _ _ ?_;refine@aSet _ _ _ _ _ _ _ _ _ _ _ _ _ C Ah ?_ rfl rfl;refine@jY _ _ _ _ _ _ _ _ _ _ ?_ KW (@zW _ _ _ _ JR);refine@cF _ _ _ _ _ _ _ _ _ _ _ C _ (E.f 48 rfl) Ah ?_ rfl rfl;refine@Jn _ _ _ _ _ _ ?_ ?_ rfl;exact vV C Ah;refine@Jn _ _ _ _ _ _ ?_ ?_ rfl;refine@eAdd _ _ _ _ _ _ _ JR ?_;refine@eMul _ _ _ _ _ _ _ JR ?_;exact vV C Ah;refine@Jn _ _ _ _ _ _ ?_ JK rfl;refine@eIx _ _ _ _ _ _ _ ?_ JR LQ;refine@eIx _ _ _ _ _ _ _ ?_ ?_ LQ;exact vV C Ah;refine@eMod _ _ _ _ _ _ _ ?_ ?_;exact vV C Ah;refine@cLen _ _ _ _ _ _ _ _ _ C De ?_ Ah rfl;exact vV C Ah;refine@lJ _ _ _ _ _ _ _ _ ?_;refine@oU _ _ _ _ _ _ _ _ _ _ _ _ _ ?_ ?_ (@lY _ _ _ _ _ _ _ _ nM);refine@PW.pt _ _ _ ?_;refine@JqE _ _ _ _ _ _ _ _ _ _ _ ?_ ?_;refine@tbNe _ _ _ _ _ _ _ _ _ _ _ _ _ C ?_ ?_;refine@cMH _ _ _ _ _ _ _ _ _ _ _ _ _ _ _ _ _ _ _ _ C f E.m_find Ah Ah ?_ rfl rfl rfl rfl;refine@Jn _ _ _ _ _ _ ?_ JK rfl;exact vV C Ah;refine@Jrj _ _ _ _ _ _ _ ?_;refine@cF _ _ _ _ _ _ _ _ _ _ _ C _ (E.f 36 rfl) Ah ?_ rfl rfl;refine@Jn _ _ _ _ _ _ ?_ ?_ rfl;exact vV C Ah;refine@Jn _ _ _ _ _ _ ?_ JK rfl;exact vV C Ah;refine@JnU _ _ _ _ _ _ _ _ _ ?_;refine@fW _ _ _ _ _ _ _ ?_;refine@JqT _ _ _ _ _ ?_;refine@Jrm _ _ _ _ ?_ FL;refine@cF _ _ _ _ _ _ _ _ _ _ _ C _ (E.f 51 rfl) Ah ?_ rfl rfl;refine@Jn _ _ _ _ _ _ ?_ ?_ rfl;exact vV C Ah;refine@Jn _ _ _ _ _ _ ?_ JK rfl;exact vV C Ah;refine@lJ _ _ _ _ _ _ _ _ ?_;exact@rH _ _ _ _ _ _ _ _ (@jN _ _ _ _ _ _ _ eJ);refine oJ ?_ ?_;refine@rH _ _ _ _ _ _ _ _ ?_;refine@hV _ _ _ _ _ _ _ _ _ _ _ _ _ _ _ C b.pass ?_ ?_ ?_ rfl FL;exact@fY _ _ _ _ _ _ _ _ _ _ C JR Ah De rfl;exact@lOne _ _ _ _ _ _ _ _ _ C Ah;refine@oX _ _ _ _ _ _ _ _ ?_ ?_;refine@aSet _ _ _ _ _ _ _ _ _ _ _ _ _ C Ah ?_ rfl rfl;refine@eRepU _ _ _ _ _ _ _ ?_ ?_;refine@yV _ _ _ _ _ _ ?_;refine@Jn _ _ _ _ _ _ ?_ JK rfl;refine@eIx _ _ _ _ _ _ _ ?_ ?_ LQ;refine@yV _ _ _ _ _ _ ?_;refine@Jn _ _ _ _ _ _ yP ?_ rfl;exact@Jn _ _ _ _ _ _ yP (@Jn _ _ _ _ _ _ yP JK rfl) rfl;refine@cF _ _ _ _ _ _ _ _ _ _ _ C _ (E.f 44 rfl) Ah ?_ rfl rfl;refine@Jn _ _ _ _ _ _ ?_ ?_ rfl;exact vV C Ah;refine@Jn _ _ _ _ _ _ ?_ (@Jn _ _ _ _ _ _ JR JK rfl) rfl;refine@eAdd _ _ _ _ _ _ _ JR ?_;exact vV C Ah;refine@cF _ _ _ _ _ _ _ _ _ _ _ C _ (E.f 44 rfl) Ah ?_ rfl rfl;refine@Jn _ _ _ _ _ _ ?_ ?_ rfl;exact vV C Ah;refine@Jn _ _ _ _ _ _ ?_ (@Jn _ _ _ _ _ _ JR JK rfl) rfl;refine@eAdd _ _ _ _ _ _ _ JR ?_;exact vV C Ah;refine@oX _ _ _ _ _ _ _ _ ?_ ?_;refine Jlz C b Ah E.t_BadLead (E.f 32 rfl) Ah rfl ?_ ?_ (λ_=>JuZ) (λ_=>Au);intro _ a;refine@Jn _ _ _ _ _ _ ?_ ?_ rfl;exact vV a Ah;refine@Jn _ _ _ _ _ _ ?_ JK rfl;exact vV a Ah;intro _ a;exact@lTwo _ _ _ _ _ _ _ _ _ _ _ _ _ _ a Ah Ah;refine@qM _ _ _ _ _ _ ?_;refine@uU _ _ _ _ _ _ _ _ _ _ _ ?_ ?_ nM;refine@PW.pt _ _ _ ?_;refine@Juz _ _ _ _ _ _ _ _ ?_ ?_;refine@tNe _ _ _ _ _ _ _ _ _ _ C ?_ ?_;refine@cLen _ _ _ _ _ _ _ _ _ C De ?_ Ah rfl;refine@cF _ _ _ _ _ _ _ _ _ _ _ C _ (E.f 33 rfl) Ah ?_ rfl rfl;refine@Jn _ _ _ _ _ _ ?_ ?_ rfl;exact vV C Ah;refine@Jn _ _ _ _ _ _ ?_ JK rfl;exact vV C Ah;refine@eAdd _ _ _ _ _ _ _ ?_ ?_;refine@eSub _ _ _ _ _ _ _ ?_ JR;refine@cLen _ _ _ _ _ _ _ _ _ C De ?_ Ah rfl;exact vV C Ah;refine@cInt _ _ _ _ _ _ _ _ _ C De ?_ Ah rfl;exact vV C Ah;refine@Jro _ _ _ _ _ _ ?_;refine@tNe _ _ _ _ _ _ _ _ _ _ C ?_ ?_;refine@eIx _ _ _ _ _ _ _ ?_ JR (λ_ _=>rfl);exact vV C Ah;exact vV C Ah;exact@qM _ _ _ _ _ _ (@jN _ _ _ _ _ _ _ eJ);refine JsJ ?_;exact@lJ _ _ _ _ _ _ _ _ (@Jrh _ _ _ _ _ _ _ _ _ eJ)
def JvF(C:Ctx X G [Ei] (Jf yW).names):PSs X (Jx yW) (Jxi X.K):=vJ (pM ((iH Ah).pe C) (Jqt kB) rfl) (vJ (pM ((iH Ah).pe C) Jjm rfl) (oN (pM ((iH Ah).pe C) nV rfl)))
end
def lu1{α}{u:List α}(h:u.length=1):∃a,u=[a]:=match u,h with|[a],_=>⟨a,rfl⟩
def lu2{α}{u:List α}(h:u.length=2):∃a b,u=[a,b]:=match u,h with|[a,b],_=>⟨a,b,rfl⟩
def lu3{α}{u:List α}(h:u.length=3):∃a b c,u=[a,b,c]:=match u,h with|[a,b,c],_=>⟨a,b,c,rfl⟩
def lu4{α}{u:List α}(h:u.length=4):∃a b c d,u=[a,b,c,d]:=match u,h with|[a,b,c,d],_=>⟨a,b,c,d,rfl⟩
def ent1(h:e.2.2.length=1)(q:∀kV b i j f ct a,bindArgs (PySem.W.fnOf e.1 e.1 (qE e.2.1) (Jx e.2.1) (Jf e.2.1) .none kV b i j f ct) bI=pure (e.2.2.zip [a])):BsE e:=by intro _ _ _ _ _ _ _ z;obtain⟨a,rfl⟩:=lu1 (z.trans h);exact q _ _ _ _ _ _ _
def ent2(h:e.2.2.length=2)(q:∀kV f j l g ct a b,bindArgs (PySem.W.fnOf e.1 e.1 (qE e.2.1) (Jx e.2.1) (Jf e.2.1) .none kV f j l g ct) ⟨[a,b],[]⟩=pure (e.2.2.zip [a,b])):BsE e:=by intro _ _ _ _ _ _ _ z;obtain⟨a,b,rfl⟩:=lu2 (z.trans h);exact q _ _ _ _ _ _ _ _
def ent3(h:e.2.2.length=3)(q:∀kV f j l g ct a b c,bindArgs (PySem.W.fnOf e.1 e.1 (qE e.2.1) (Jx e.2.1) (Jf e.2.1) .none kV f j l g ct) ⟨[a,b,c],[]⟩=pure (e.2.2.zip [a,b,c])):BsE e:=by intro _ _ _ _ _ _ _ z;obtain⟨a,b,c,rfl⟩:=lu3 (z.trans h);exact q _ _ _ _ _ _ _ _ _
def bnd:BsOk T:=by
 repeat' apply fG
 all_goals first|exact iA|exact ent1 rfl λ_ _ _ _ _ _ _=>rfl|exact ent2 rfl λ_ _ _ _ _ _ _ _=>rfl|exact ent3 rfl λ_ _ _ _ _ _ _ _ _=>rfl
section
variable{P:Bk}{w:AY}{K:Ai}{base:Heap}
noncomputable abbrev cl:List Str:=[Ck]
def bndM:BmOk TM:=by
 repeat' apply fG
 all_goals first|exact iA|(intro _ _ _ _ _ _ b a;obtain⟨_,rfl⟩:=lu1 a;rfl)|(intro _ _ _ _ _ _ b a;obtain⟨_,_,rfl⟩:=lu2 a;rfl)|(intro _ _ _ _ _ _ b a;obtain⟨_,_,_,_,rfl⟩:=lu4 a;rfl)
def clB:clsN nsB=oS "Board":=by decide+kernel
variable(hT:HasD K mg T)(hB:BlN mg B_)
 (y0:∃u,mg P8=So u/\∃v,RelV v u/\∀H,Rep K H QaO v)
 (y1:∃u,mg RO=So u/\∃v,RelV v u/\∀H,Rep K H Qi v)
 (y2:∃u,mg P7=So u/\∃v,RelV v u/\∀H,Rep K H QaM v)
 (y3:∃u,mg Ro=So u/\∃v,RelV v u/\∀H,Rep K H aM v)
 (y4:∃u,mg QD=So u/\∃v,RelV v u/\∀H,Rep K H Yy v)
 (y5:∃u,mg Rn=So u/\∃v,RelV v u/\∀H,Rep K H aM v)
 (y6:∃u,mg QC=So u/\∃v,RelV v u/\∀H,Rep K H Yy v)
 (y7:∃u,mg Qt=So u/\∃v,RelV v u/\∀H,Rep K H Gv v)
 (y8:∃u,mg QB=So u/\∃v,RelV v u/\∀H,Rep K H Gv v)
 (y9:∃u,mg QA=So u/\∃v,RelV v u/\∀H,Rep K H Gv v)
 (y10:∃u,mg RN=So u/\∃v,RelV v u/\∀H,Rep K H QaN v)
 (y11:∃u,mg Qz=So u/\∃v,RelV v u/\∀H,Rep K H QaL v)
 (xT:NoKT K)
 (xx0:∀A,ExcC A9 Ck)
 (xx1:∀A,ExcC A9 Gi)
 (xx2:∀A,ExcC A9 Ka)
 (xx3:∀A,ExcC A9 J4)
 (xx4:∀A,ExcC A9 IL)
 (xt0:∀A,Takes A9 Ck cl)
 {C:Addr} (cl:QcB) (hC:PySem.W.nsIn K mainGlobals (oS "Board")=So Ew) (hM:HasM K C TM) (hF:∀A,∀f∈nsB,FldC A9 f)
include hT hB y0 y1 y2 y3 y4 y5 y6 y7 y8 y9 y10 y11 xT xx0 xx1 xx2 xx3 xx4 xt0 cl hC hM hF
theorem Jqu{k:Nat}(b:PX)(l:OkM P w K mg base defs bdefs C k 0 TM)(A:BX)(a:Room (3*k+2) A):EnvB A9 BQ Ef:=by
 have E:Env ⟨P,w,K,mg,base,A⟩ BQ:=⟨λi _ h=>(by obtain⟨e,f,rfl⟩:=yD.mp h;exact Jlq hT b a i f),hB,(by obtain⟨u,e,v,r,g⟩:=y0;exact CV),(by obtain⟨u,e,v,r,g⟩:=y1;exact CV),(by obtain⟨u,e,v,r,g⟩:=y2;exact CV),(by obtain⟨u,e,v,r,g⟩:=y3;exact CV),(by obtain⟨u,e,v,r,g⟩:=y4;exact CV),(by obtain⟨u,e,v,r,g⟩:=y5;exact CV),(by obtain⟨u,e,v,r,g⟩:=y6;exact CV),(by obtain⟨u,e,v,r,g⟩:=y7;exact CV),(by obtain⟨u,e,v,r,g⟩:=y8;exact CV),(by obtain⟨u,e,v,r,g⟩:=y9;exact CV),(by obtain⟨u,e,v,r,g⟩:=y10;exact CV),(by obtain⟨u,e,v,r,g⟩:=y11;exact CV),xT,xx0 A,xx1 A,xx2 A,xx3 A,xx4 A,xt0 A⟩;have m:∀j e,TM[j]? =So e->CalleeB A9 Ef j FC e.1:=λj e h=>by have:=Jeu (i:=0) (j:=j) cl hC a hM l h;rw[jI,<-clB]at this;exact this
 exact⟨E,hF A _ (by simp[nsB]),hF A _ (by simp[nsB]),hF A _ (by simp[nsB]),m 0 _ rfl,m 1 _ rfl,m 2 _ rfl,m 3 _ rfl,m 4 _ rfl,m 5 _ rfl⟩
theorem JvG:∀k,OkD P w K mg base defs k 0 T/\OkM P w K mg base defs bdefs C k 0 TM:=by
 intro k;induction k with
 |zero=>exact⟨Jji _ _,JjK _ _⟩
 |succ k h=>have g:=Jqu hT hB y0 y1 y2 y3 y4 y5 y6 y7 y8 y9 y10 y11 xT xx0 xx1 xx2 xx3 xx4 xt0 cl hC hM hF h.1 h.2;have E:∀A,Room (3*k+2) A->Env A9 BQ:=λA i=>(g A i).toEnv;exact⟨foAll E T NL 0 (λe=>dAll.1 e) Ah,⟨foB (N:=NM_.getD 0 []) (b:=fT) g λe C a f=>(dAll.2 e f).1 C a,foB (N:=NM_.getD 1 []) (b:=xP) g λe C a f=>(dAll.2 e f).2.1 C a,foB (N:=NM_.getD 2 []) (b:=lR) g λe C a f=>(dAll.2 e f).2.2.1 C a,foB (N:=NM_.getD 3 []) (b:=yQ) g λe C a f=>(dAll.2 e f).2.2.2.1 C a,foB (N:=NM_.getD 4 []) (b:=iQ) g λe C a f=>(dAll.2 e f).2.2.2.2.1 C a,foB (N:=NM_.getD 5 []) (b:=kQ) g λe C a f=>(dAll.2 e f).2.2.2.2.2.1 C a,trivial⟩⟩
end
theorem Jvv{l:QdZ}{w:AY}{K:Ai}{h:Heap}{fa:Addr}(X:K.In h)(G:QR)(hfa:mg "law"=So (.ref fa))(dT:DsIn K T)(dB:BlIn K B_)
  {t0:Tok} (y0:PySem.W.nsIn K mainGlobals P8=So (So (.str IQ t0)))
  {t1:Tok} (y1:PySem.W.nsIn K mainGlobals RO=So (So (.int 99999999 t1)))
  {t2:Tok} (y2:PySem.W.nsIn K mainGlobals P7=So (So (.str Kt t2)))
  {t3:Tok} (y3:PySem.W.nsIn K mainGlobals Ro=So (So (.int 4 t3)))
  {t4:Tok} (y4:PySem.W.nsIn K mainGlobals QD=So (So (.int 6 t4)))
  {t5:Tok} (y5:PySem.W.nsIn K mainGlobals Rn=So (So (.int 4 t5)))
  {t6:Tok} (y6:PySem.W.nsIn K mainGlobals QC=So (So (.int 6 t6)))
  {t7:Tok} (y7:PySem.W.nsIn K mainGlobals Qt=So (So (.int 8 t7)))
  {t8:Tok} (y8:PySem.W.nsIn K mainGlobals QB=So (So (.int 8 t8)))
  {t9:Tok} (y9:PySem.W.nsIn K mainGlobals QA=So (So (.int 8 t9)))
  {W:Addr} {yn10:Nat} {ys10:CY} {t10_0 t10_1 t10_2:Tok} (y10:PySem.W.nsIn K mainGlobals RN=So (So (.ref W))) (v10:K.lookup W=So ⟨.type "tuple",No,.seq #[.str KC t10_0,.str ML t10_1,.str (oS "rest") t10_2] yn10,ys10⟩)
  {t11:Tok} (y11:PySem.W.nsIn K mainGlobals Qz=So (So (.str Kw t11)))
  (gT:tP K=To)
  {a m r z q:Addr}
  (n:PySem.W.nsIn K mainGlobals Ck=So (So (.ref a)))
  (o:PySem.W.nsIn K mainGlobals Gi=So (So (.ref m)))
  (y:PySem.W.nsIn K mainGlobals Ka=So (So (.ref r)))
  (E:PySem.W.nsIn K mainGlobals J4=So (So Eu))
  (u:PySem.W.nsIn K mainGlobals IL=So (So (.ref q)))
  (I:PySem.W.excIn K a Kz "ValueError.__new__"=To)
  (B:PySem.W.excIn K m Kz "ValueError.__new__"=To)
  (U:PySem.W.excIn K r Kz "ValueError.__new__"=To)
  (Y:PySem.W.excIn K z Kz "ValueError.__new__"=To)
  (O:PySem.W.excIn K q Kz "ValueError.__new__"=To)
  (gX:exB K [(Ck,a)]=To)
  (F:takB K a [(Ck,a)]=To)
  {C:Addr} (aC:PySem.W.nsIn K mainGlobals (oS "Board")=So Ew) (pg:PySem.W.plainGet K C Yw=To) (hd:PySem.W.hasDictIn K C=To) (po:PySem.W.plainOver K C=To) (sa:PySem.W.findIn K Bm "__setattr__"=So SD) (mk:PySem.W.makesIn K C=To) (kc:PySem.W.keepIn K Bm=To)
  (n1:PySem.W.findIn K Bm E9=So No) (n2:PySem.W.findIn K Bm FV=So No) (n3:PySem.W.findIn K Bm GY=So No) (zS:PySem.W.nsIn K mainGlobals (oS "Site")=So No)
  (mI:∃f g,Fun K QbX (oS "Board.__init__") yW f g/\Meth K C QbX f) (mM:MsIn K C TM) (dL:∃f g,DefIn K (oS "law") rP f g)
  :∃fd:FuncData,(∀(s:Ak)(v:An),BindsTo s fd ⟨[v],[]⟩ [(Bw,v)])/\∀base:Heap,K.In base->base.Ns mainGlobals mg->FnOk Yp w K mg base (CXr Yp w) 36 fa fd [Bw] (jU K):=by
 have X0:∀base A,ExcC E8 Ck:=λbase A=>⟨⟨a,n,Zv X G n,_,_,_,_,I,nL⟩⟩;have X1:∀base A,ExcC E8 Gi:=λbase A=>⟨⟨m,o,Zv X G o,_,_,_,_,B,nL⟩⟩;have X2:∀base A,ExcC E8 Ka:=λbase A=>⟨⟨r,y,Zv X G y,_,_,_,_,U,nL⟩⟩;have X3:∀base A,ExcC E8 J4:=λbase A=>⟨⟨z,E,Zv X G E,_,_,_,_,Y,nL⟩⟩;have X4:∀base A,ExcC E8 IL:=λbase A=>⟨⟨q,u,Zv X G u,_,_,_,_,O,nL⟩⟩;have T0:∀base A,Takes E8 Ck cl:=λbase A=>JoK (cs:=[(Ck,a)]) X G gX F (Zv X G n);have cl:Cls K C:=⟨pg,hd,po,sa⟩;have hF:∀base A,∀f∈nsB,FldC E8 f:=λbase A f hf=>by
  simp only[nsB,Zf,ZA,eA]at hf;rcases hf with rfl|rfl|rfl
  ·exact dW aC zS cl n1 A
  ·exact dW aC zS cl n2 A
  ·exact dW aC zS cl n3 A
 have hM:=Jog mM bndM;have hT:=Jme X G dT bnd;obtain⟨fL,gL,L⟩:=dL;have e:=hfa.symm.trans (Zv X G L.a);cases e;refine⟨gL,?_,λbase _ _=>?_⟩
 ·obtain⟨_,_,kV,doc,pm,an,cdv,ct,_,e,_⟩:=L.F.ex;subst e;exactλs v=>.of_eq rfl
 ·have ok:=JvG (P:=Yp) (w:=w) (base:=base) hT (nU X G dB) VC VR VB UL UK UJ UI UH UG UF ⟨_,Zv X G y10,.ref W,rfl,λH=>Rd.Jwp (.inl y10) (J:=Kp) (xs:=Uv) v10 Af VL Wu H⟩ VG (Jnt gT) (X0 base) (X1 base) (X2 base) (X3 base) (X4 base) (T0 base) cl aC hM QaS 11;have EB:=Jqu (P:=Yp) (w:=w) (base:=base) hT (nU X G dB) VC VR VB UL UK UJ UI UH UG UF ⟨_,Zv X G y10,.ref W,rfl,λH=>Rd.Jwp (.inl y10) (J:=Kp) (xs:=Uv) v10 Af VL Wu H⟩ VG (Jnt gT) (X0 base) (X1 base) (X2 base) (X3 base) (X4 base) (T0 base) cl aC hM QaS ok.1 ok.2;obtain⟨fI,gI_,FI,mt_⟩:=mI;have hi:FnOk Yp w K mg base (CXr Yp w) 1 fI gI_ [oS "self"] (spN K):=Jtc FI (oP Ah) rfl QaS λX A C=>by have:=JvF C;rw[C.K]at this;exact this
  have EL:∀A,Room (3*11+2) A->EnvL E8 Qcz N8:=λA hr=>⟨EB A hr,⟨⟨C,fI,gI_,_,⟨mk,mt_.at_,mt_.fn,kc⟩,hi,hr.mono Ae,Zv X G aC,aC,FI.binds λ_ _ _ _ _ _ us hl=>by obtain⟨_,rfl⟩:=lu1 hl;rfl⟩⟩⟩;exact JsT (j:=3*11+2) (i:=0) (b:=.lift .skip) (t:=λX H0=>tLaw X H0 (RL Qcz N8)) L.F (oP (N:=JvA) Ah) (M:=[]) AO AO (λX A H0 C hr hx h0=>d_law (EL A hr) C hx h0) λX H0 H Z D ns hK hl e hQ=>by subst hK;exact⟨_,e,Jow ns,hQ⟩
end K76
end _r
namespace PySem.W.Fast
theorem tw2769542603849949729:0=0:=rfl
theorem tw10915153904249314038:0=0:=rfl
theorem tw11788193953242494839:0=0:=rfl
theorem tw14565036017307416403:0=0:=rfl
theorem tw8654445848558116282:0=0:=rfl
theorem tw2510274051037342111:0=0:=rfl
theorem tw2456620690333788579:0=0:=rfl
theorem tw21781791695542618:0=0:=rfl
theorem tw16922551919392975097:0=0:=rfl
theorem tw16361051397156670047:0=0:=rfl
theorem tw16373732666044941286:0=0:=rfl
theorem tw11739890132955491570:0=0:=rfl
theorem tw12467757042172251128:0=0:=rfl
theorem tw4845323588751306261:0=0:=rfl
theorem tw5092368433450829427:0=0:=rfl
theorem tw9969084890699511066:0=0:=rfl
theorem tw14572242433145657590:0=0:=rfl
theorem tw3133639515745691526:0=0:=rfl
theorem tw5790958227289682028:0=0:=rfl
theorem tw3149764668847461397:0=0:=rfl
theorem tw8086524669855211840:0=0:=rfl
theorem tw13073834768075403024:0=0:=rfl
theorem tw5687023072571452500:0=0:=rfl
theorem tw6288972030570581806:0=0:=rfl
theorem tw14137672109378966570:0=0:=rfl
theorem tw18392957357238260121:0=0:=rfl
theorem tw12090020354969714185:0=0:=rfl
theorem tw10726571312699887517:0=0:=rfl
theorem tw5567230628666021261:0=0:=rfl
theorem tw16962434732635054957:0=0:=rfl
theorem tw2113221429875970515:0=0:=rfl
theorem tw4427945450340241994:0=0:=rfl
theorem tw2027249647992725888:0=0:=rfl
theorem tw1644807970254442989:0=0:=rfl
theorem tw16953264476471474219:0=0:=rfl
theorem tw4701886831434074251:0=0:=rfl
theorem tw11521514067555337475:0=0:=rfl
theorem tw8524386602427361624:0=0:=rfl
theorem tw10326551701455029096:0=0:=rfl
theorem tw3381902105826187530:0=0:=rfl
theorem tw1250922105213072490:0=0:=rfl
theorem tw17764148038771899047:0=0:=rfl
theorem tw8627786917307084102:0=0:=rfl
theorem tw12664325339103168755:0=0:=rfl
theorem tw12955020698220366538:0=0:=rfl
theorem tw12929335459610055269:0=0:=rfl
theorem tw2264623274940239055:0=0:=rfl
theorem tw17066518977903195078:0=0:=rfl
theorem tw9972707198775635436:0=0:=rfl
theorem tw17534595196582720239:0=0:=rfl
theorem tw17417759847253333798:0=0:=rfl
theorem tw12319879100498870542:0=0:=rfl
theorem tw7286305931944388439:0=0:=rfl
theorem tw5846767163880859520:0=0:=rfl
theorem tw4214186960199950792:0=0:=rfl
theorem tw17938523231100797251:0=0:=rfl
theorem tw1995992331717627420:0=0:=rfl
theorem tw10947183243454167417:0=0:=rfl
theorem tw7316857750936068983:0=0:=rfl
theorem tw4652411311842487412:0=0:=rfl
theorem tw18335250408207823644:0=0:=rfl
theorem tw15722428723613849018:0=0:=rfl
theorem tw17669867796152867128:0=0:=rfl
theorem tw7586571517756996119:0=0:=rfl
theorem tw13457826921189484307:0=0:=rfl
theorem tw9810792331147576486:0=0:=rfl
theorem tw1312637822573759889:0=0:=rfl
theorem tw15458772775900894671:0=0:=rfl
theorem tw6806815544460468636:0=0:=rfl
theorem tw1100066552202931876:0=0:=rfl
theorem tw9322669270427851088:0=0:=rfl
theorem tw7180133874366352778:0=0:=rfl
theorem tw8981189103933203586:0=0:=rfl
theorem tw17612291074413836038:0=0:=rfl
theorem tw2748466480642662588:0=0:=rfl
theorem tw12630888202441872311:0=0:=rfl
theorem tw3510179094111484136:0=0:=rfl
theorem tw5596680974120029424:0=0:=rfl
theorem tw6056423372858653549:0=0:=rfl
theorem tw11436503728228972026:0=0:=rfl
theorem tw2342190715979876379:0=0:=rfl
theorem tw5557808378315023872:0=0:=rfl
theorem tw9176770045023576881:0=0:=rfl
theorem tw2338216914325189891:0=0:=rfl
theorem tw15992450977381471057:0=0:=rfl
theorem tw1744729584284733021:0=0:=rfl
theorem tw11672332123657649297:0=0:=rfl
theorem tw17128070491770056433:0=0:=rfl
theorem tw15260307630685856869:0=0:=rfl
theorem tw17343653698365340656:0=0:=rfl
theorem tw14049272063235535540:0=0:=rfl
theorem tw1577718344075295457:0=0:=rfl
theorem tw9631993999762279553:0=0:=rfl
theorem tw4947780735305828407:0=0:=rfl
theorem tw5011243064594054601:0=0:=rfl
theorem tw11837192359820287496:0=0:=rfl
theorem tw6903487255262847221:0=0:=rfl
theorem tw10350336915202823138:0=0:=rfl
theorem tw15249286508774005388:0=0:=rfl
theorem tw8086179593247985253:0=0:=rfl
theorem tw3126905386285898796:0=0:=rfl
theorem tw14251698358549430798:0=0:=rfl
theorem tw5608438315353052930:0=0:=rfl
theorem tw12556987762841170909:0=0:=rfl
theorem tw17106859916812581305:0=0:=rfl
theorem tw16125301544136804530:0=0:=rfl
theorem tw13586416625242993915:0=0:=rfl
theorem tw9779874284251450837:0=0:=rfl
theorem tw13169627060954269778:0=0:=rfl
theorem tw14359534985895432596:0=0:=rfl
theorem tw998458459223031315:0=0:=rfl
theorem tw842207828559579080:0=0:=rfl
theorem tw16854812350976622524:0=0:=rfl
theorem tw18152141296707630721:0=0:=rfl
theorem tw16854976352282061720:0=0:=rfl
theorem tw6729604692900690652:0=0:=rfl
theorem tw12032159056917173729:0=0:=rfl
theorem tw2593265150581286945:0=0:=rfl
theorem tw371077472766339414:0=0:=rfl
theorem tw13536237133673317890:0=0:=rfl
theorem tw6693412829872786405:0=0:=rfl
theorem tw1702312001855359879:0=0:=rfl
theorem tw15202915961768544892:0=0:=rfl
theorem tw17841640361763994113:0=0:=rfl
theorem tw3514038413334465166:0=0:=rfl
theorem tw7419646891719472358:0=0:=rfl
theorem tw13203678438102958991:0=0:=rfl
theorem tw11695552817491324562:0=0:=rfl
theorem tw2421080294809854323:0=0:=rfl
theorem tw248253402595593180:0=0:=rfl
theorem tw5213627707147873260:0=0:=rfl
theorem tw1822006723370335955:0=0:=rfl
theorem tw4896813182727418623:0=0:=rfl
theorem tw9869474433317888145:0=0:=rfl
theorem tw920497631784191964:0=0:=rfl
theorem tw18412269696627846785:0=0:=rfl
theorem tw8956754845822266856:0=0:=rfl
theorem tw6599312494030979590:0=0:=rfl
theorem tw10524894087864427951:0=0:=rfl
theorem tw5804180808767600395:0=0:=rfl
theorem tw532429045163970819:0=0:=rfl
theorem tw8381692187289274904:0=0:=rfl
theorem tw5752590869465243175:0=0:=rfl
theorem tw2127542308323233260:0=0:=rfl
end PySem.W.Fast
open PySem PySem.W PyProof.Rows _r
theorem PySem.Challenge.cw_routeboard_k76_whole_leads_and_tables_holds : PySem.Challenge.rw_routeboard_k76_whole_leads_and_tables.Holds := by
 w_on;o_law;k_head;(case hw=>w_witness2)
 k_fill
 refine L2.JrW (l:=PySem.Challenge.rw_routeboard_k76_whole_leads_and_tables) (n:=63) (k:=36) (x:=(oS "_law_script")) (CX:=fun w=>Rd.CXr PySem.Challenge.rw_routeboard_k76_whole_leads_and_tables.prog w) (sp:=fun w=>Rd.jU _) rfl 'v' rfl ⟨rfl,by decide,by decide⟩ (fun w h Y=>PySem.W.kIn_of Y) ?F (fun w H a ns hl _ hS=>⟨a,ns,rfl,hS,hl,fun _=>rfl⟩) fun _ _ _ _ _ z=>Rd.noCX z
 case F=>
  intro w mg fa h KX G hmg
  refine' K76.Jvv KX G hmg ?dT ?dB ?y0 ?y1 ?y2 ?y3 ?y4 ?y5 ?y6 ?y7 ?y8 ?y9 ?y10 ?v10 ?y11 ?gT ?ec_BadLead ?ec_BadValues ?ec_NoHole ?ec_Taken ?ec_TooMany ?xc_BadLead ?xc_BadValues ?xc_NoHole ?xc_Taken ?xc_TooMany ?gX ?gR_BadLead ?aC ?pg ?hd ?po ?sa ?mk ?kc ?n1 ?n2 ?n3 ?zS ?mI ?mM ?dL
  (case dT=>(repeat' refine fG ⟨_,_,Rd.def_mk (by k_is) (by k_is) (by k_is) (by k_is)⟩ ?_);exact iA)
  (case dB=>(repeat' refine fG (by k_is) ?_);exact iA)
  (case y0=>k_is)
  (case y1=>k_is)
  (case y2=>k_is)
  (case y3=>k_is)
  (case y4=>k_is)
  (case y5=>k_is)
  (case y6=>k_is)
  (case y7=>k_is)
  (case y8=>k_is)
  (case y9=>k_is)
  (case y10=>k_is)
  (case v10=>k_is)
  (case y11=>k_is)
  (case gT=>kernel_rfl)
  (case ec_BadLead=>k_is)
  (case ec_BadValues=>k_is)
  (case ec_NoHole=>k_is)
  (case ec_Taken=>k_is)
  (case ec_TooMany=>k_is)
  (case xc_BadLead=>k_exc)
  (case xc_BadValues=>k_exc)
  (case xc_NoHole=>k_exc)
  (case xc_Taken=>k_exc)
  (case xc_TooMany=>k_exc)
  (case gX=>kernel_rfl)
  (case gR_BadLead=>kernel_rfl)
  (case aC=>k_is)
  (case pg=>k_is)
  (case hd=>k_is)
  (case po=>k_is)
  (case sa=>k_is)
  (case mk=>k_is)
  (case kc=>k_is)
  (case n1=>k_is)
  (case n2=>k_is)
  (case n3=>k_is)
  (case zS=>k_is)
  (case mI=>exact Rd.meth_mk (by k_is) (by k_is) (by k_is) (by k_is) (by k_is))
  (case mM=>(repeat' refine fG (Rd.meth_mk (by k_is) (by k_is) (by k_is) (by k_is) (by k_is)) ?_);exact iA)
  (case dL=>exact⟨_,_,Rd.def_mk (by k_is) (by k_is) (by k_is) (by k_is)⟩)
