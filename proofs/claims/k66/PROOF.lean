import PyProof.Rows.All
import Wide.All
import OpenK.AllK
import Wide.FinOn
import Lean
import PyProof.EqAt
import PyProof.EqKinds
import PyProof.TupleCall
import PyProof.DictRoadsH
import PyProof.NeKinds
import PyProof.StrBlockI
import PyProof.SliceStr2
import PyProof.StrLaws
import PyProof.ListMulRoad
import PyProof.FactsAll.tuple
import PyProof.SetKind
import PyProof.DictKinds
import PyProof.Rows.SetFrom
import PyProof.Rows.SortStr
import PyProof.FactsAll.set
import KE.KDictOf
import PyProof.AttrMissHeap
import PyProof.WalksMore
import PyProof.ListRange
import PyProof.TupleOfSeq
import PyProof.Rows.TupDisplay
import PyProof.DictItems
import KE.KMinBuiltin
import KE.KTupSum
import PyProof.DictWalks
import KE.KSortTup
import PyProof.StrLawsTight
import PyProof.StrLawsChain
import PyProof.StrLawsJoin
import PyProof.StrLawsFirst
import PyProof.StrBlockH
import PyProof.StrCalls2
import PyProof.MeetsStr2
import PyProof.Rows.StrNews2
import PyProof.Conv_int_bool
import PySem.Challenge.RW_routeboard_k66_whole_tallies
set_option Elab.async false
set_option linter.all false
set_option maxRecDepth 100000
set_option maxHeartbeats 0
noncomputable section
namespace L2
open PySem PySem.Spec PyProof.Rows
inductive Key where
 | inl (i:Int) | inr (x:Str) | non
 deriving DecidableEq
def keyIs:Key -> Value -> Bool
 | .inl k,v=>Value.isInt k v
 | .inr x,v=>Value.isStrOf x v
 | .non,.none=>true
 | .non,_=>false
def keyH (w:World):Key -> Int
 | .inl k=>hashInt k
 | .inr x=>hashStr w x
 | .non=>reduceHash 0xFCA86420
theorem Jh:∀ {k:Key} {v:Value},keyIs k v = true -> (∃ i t,k = .inl i /\ v = Value.int i t) \/ (∃ x t,k = .inr x /\ v = Value.str x t) \/ (k = .non /\ v = .none)
 | .inl i,v,h=>by
  obtain ⟨t,e⟩:=Value.isInt_shape (k:=i) (v:=v) h
  exact .inl ⟨i,t,rfl,e⟩
 | .inr x,v,h=>by
  obtain ⟨t,e⟩:=Value.isStrOf_shape (x:=x) (v:=v) h
  exact .inr (.inl ⟨x,t,rfl,e⟩)
 | .non,v,h=>by cases v <;> first | exact .inr (.inr ⟨rfl,rfl⟩) | cases h
theorem Jhm (i:Int) (t:Tok):keyIs (.inl i) (.int i t) = true:=by simp [keyIs,Value.isInt]
theorem Jgy (x:Str) (t:Tok):keyIs (.inr x) (.str x t) = true:=by simp [keyIs,Value.isStrOf]
theorem Joh (a b:Int):decide (Key.inl a = .inl b) = (a == b):=by
 by_cases e:a = b
 ·subst e; simp
 ·rw [decide_eq_false fun q=>e (by injection q)]
  exact (beq_eq_false_iff_ne.mpr e).symm
theorem JnF (a b:Str):decide (Key.inr a = .inr b) = decide (a = b):=decide_eq_decide.mpr ⟨fun q=>by injection q,fun q=>by rw [q]⟩
theorem Jjo {prog:Program} {w:World} {A:Around} {E:Value -> Shared -> Prop} {s:Shared} {Q:Int -> Shared -> Prop} (h:Q (reduceHash 0xFCA86420) { s with toks:=s.toks + 1 }):wpAny (model prog w) A (pyHash .none) Q E s:=
 PySem.W.pyHash_slot (T:="NoneType") rfl F.slot_NoneType_hash F.entry_NoneType_hash (F.args_NoneType_hash_1 _) (beq_builtin_none _) (.inl rfl) (wpAny_bind (wpAny_pure (wpAny_bind (wpAny_mkInt (wpAny_pure ⟨_,_,rfl,h⟩)))))
def mixKind (prog:Program) (w:World):PySem.KeyKind prog w Key where
 is:=keyIs
 hash:=keyH w
 inj:=fun v a b ha hb=>by
  rcases Jh ha with ⟨i,t,rfl,rfl⟩ | ⟨x,t,rfl,rfl⟩ | ⟨rfl,rfl⟩ <;> rcases Jh hb with ⟨j,u,rfl,e⟩ | ⟨y,u,rfl,e⟩ | ⟨rfl,e⟩ <;> first | rfl | (cases e; done) | (cases e; rfl)
 byValue:=fun k v h=>by
  rcases Jh h with ⟨i,t,rfl,rfl⟩ | ⟨x,t,rfl,rfl⟩ | ⟨rfl,rfl⟩ <;> rfl
 pyHash:=fun hv h=>by
  rcases Jh hv with ⟨i,t,rfl,rfl⟩ | ⟨x,t,rfl,rfl⟩ | ⟨rfl,rfl⟩
  ·exact wpAny_pyHash_int h
  ·exact wpAny_pyHash_str h
  ·exact Jjo h
 eqBool:=fun hu hv h=>by
  rcases Jh hu with ⟨i,t,rfl,rfl⟩ | ⟨x,t,rfl,rfl⟩ | ⟨rfl,rfl⟩
  ·rcases Jh hv with ⟨j,u,rfl,rfl⟩ | ⟨y,u,rfl,rfl⟩ | ⟨rfl,rfl⟩
   ·rw [Joh] at h; exact wpAny_eqBool_int h
   ·exact SeqAt.EqAt.int_str i t y u _ _ _ _ (by rw [decide_eq_false (fun q=>nomatch q)] at h; exact h)
   ·exact SeqAt.EqAt.int_none i t _ _ _ _ (by rw [decide_eq_false (fun q=>nomatch q)] at h; exact h)
  ·rcases Jh hv with ⟨j,u,rfl,rfl⟩ | ⟨y,u,rfl,rfl⟩ | ⟨rfl,rfl⟩
   ·exact SeqAt.EqAt.str_int x t j u _ _ _ _ (by rw [decide_eq_false (fun q=>nomatch q)] at h; exact h)
   ·rw [JnF] at h; exact wpAny_eqBool_str h
   ·exact SeqAt.EqAt.str_none x t _ _ _ _ (by rw [decide_eq_false (fun q=>nomatch q)] at h; exact h)
  ·rcases Jh hv with ⟨j,u,rfl,rfl⟩ | ⟨y,u,rfl,rfl⟩ | ⟨rfl,rfl⟩
   ·exact SeqAt.EqAt.none_int j u _ _ _ _ (by rw [decide_eq_false (fun q=>nomatch q)] at h; exact h)
   ·exact SeqAt.EqAt.none_str y u _ _ _ _ (by rw [decide_eq_false (fun q=>nomatch q)] at h; exact h)
   ·exact SeqAt.EqAt.same _ _ _ _ _ (by rw [decide_eq_true rfl] at h; exact h)
 «strs»:=fun k x t v h=>by
  rcases Jh h with ⟨i,u,rfl,e⟩ | ⟨y,u,rfl,e⟩ | ⟨rfl,e⟩
  ·exact nomatch e
  ·injection e with e1 _
   subst e1
   cases v <;> rfl
  ·exact nomatch e
theorem Jek (prog:Program) (w:World) (i:Int) (t:Tok):(mixKind prog w).is (.inl i) (.int i t) = true:=Jhm i t
theorem Jeh (prog:Program) (w:World) (x:Str) (t:Tok):(mixKind prog w).is (.inr x) (.str x t) = true:=Jgy x t
inductive KTr (κ:Type) where
 | a (k:κ) | t (ks:List (KTr κ))
noncomputable instance {κ:Type}:DecidableEq (KTr κ):=fun _ _=>Classical.propDecidable _
section
variable {P:Program} {w:World} {κ:Type} [DecidableEq κ] (kd:KeyKind P w κ)
mutual
def kDep:KTr κ -> Nat
 | .a _=>0
 | .t ks=>kDeps ks + 1
def kDeps:List (KTr κ) -> Nat
 | []=>0
 | k :: ks=>max (kDep k) (kDeps ks)
end
mutual
def kHash:KTr κ -> Int
 | .a k=>kd.hash k
 | .t ks=>reduceHash (Builtin.Tuple.tupleHashOf (kHashs ks))
def kHashs:List (KTr κ) -> List Int
 | []=>[]
 | k :: ks=>kHash k :: kHashs ks
end
mutual
def kDrw:KTr κ -> Nat
 | .a _=>1
 | .t ks=>kDrws ks + 1
def kDrws:List (KTr κ) -> Nat
 | []=>0
 | k :: ks=>kDrw k + kDrws ks
end
mutual
def KAt (h:Heap):KTr κ -> Value -> Prop
 | .a k,v=>kd.is k v = true
 | .t ks,v=>∃ a o its n,v = .ref a /\ h.get? a = some o /\ o.cls = .type "tuple" /\ o.data = .seq its n /\ KAts h ks its.toList
def KAts (h:Heap):List (KTr κ) -> List Value -> Prop
 | [],vs=>vs = []
 | k :: ks,vs=>∃ v r,vs = v :: r /\ KAt h k v /\ KAts h ks r
end
variable {kd}
theorem KAt.ref {h:Heap} {ks:List (KTr κ)} {a:Addr} (x:KAt kd h (.t ks) (.ref a)):∃ o its n,h.get? a = some o /\ o.cls = .type "tuple" /\ o.data = .seq its n /\ KAts kd h ks its.toList:=by
 obtain ⟨b,o,its,n,e,x⟩:=x
 cases e
 exact ⟨o,its,n,x⟩
mutual
theorem KAt.inj {h:Heap}:∀ (x:KTr κ) {y:KTr κ} {v:Value},KAt kd h x v -> KAt kd h y v -> x = y
 | .a k,.a j,v,hx,hy=>by rw [kd.inj _ _ _ hx hy]
 | .a k,.t js,v,hx,hy=>by
  obtain ⟨a,o,its,n,rfl,_⟩:=hy
  have:=kd.byValue _ _ hx
  simp [carriedByValue] at this
 | .t ks,.a j,v,hx,hy=>by
  obtain ⟨a,o,its,n,rfl,_⟩:=hx
  have:=kd.byValue _ _ hy
  simp [carriedByValue] at this
 | .t ks,.t js,v,hx,hy=>by
  obtain ⟨a,o,its,n,rfl,h1,h2,h3,h4⟩:=hx
  obtain ⟨o',its',n',g1,g2,g3,g4⟩:=hy.ref
  rw [h1] at g1; cases g1
  rw [h3] at g3
  cases g3
  rw [KAts.inj ks h4 g4]
theorem KAts.inj {h:Heap}:∀ (x:List (KTr κ)) {y:List (KTr κ)} {vs:List Value},KAts kd h x vs -> KAts kd h y vs -> x = y
 | [],[],_,_,_=>rfl
 | [],k :: ks,_,hx,⟨_,_,e,_⟩=>by cases hx; cases e
 | k :: ks,[],_,⟨_,_,e,_⟩,hy=>by cases hy; cases e
 | k :: ks,j :: js,vs,⟨v,r,e,h1,h2⟩,⟨u,q,e',g1,g2⟩=>by
  subst e
  injection e' with e1 e2
  subst e1; subst e2
  rw [KAt.inj k h1 g1,KAts.inj ks h2 g2]
end
mutual
theorem KAt.keep {h h':Heap} (kp:∀ a o its n,h.get? a = some o -> o.data = .seq its n -> h'.get? a = some o):∀ (x:KTr κ) {v:Value},KAt kd h x v -> KAt kd h' x v
 | .a k,_,x=>x
 | .t ks,_,⟨a,o,its,n,e,h1,h2,h3,h4⟩=>⟨a,o,its,n,e,kp _ _ _ _ h1 h3,h2,h3,KAts.keep kp ks h4⟩
theorem KAts.keep {h h':Heap} (kp:∀ a o its n,h.get? a = some o -> o.data = .seq its n -> h'.get? a = some o):∀ (x:List (KTr κ)) {vs:List Value},KAts kd h x vs -> KAts kd h' x vs
 | [],_,x=>x
 | k :: ks,_,⟨v,r,e,h1,h2⟩=>⟨v,r,e,KAt.keep kp k h1,KAts.keep kp ks h2⟩
end
theorem Jcz {h h':Heap} {d:Addr} {o:Obj} {es:Array DictEntry} {ep:Nat} (ho:h.get? d = some o) (hd:o.data = .dict es ep) (hs:Heap.SameBut d h h'):∀ a o its n,h.get? a = some o -> o.data = .seq its n -> h'.get? a = some o:=fun a q its n h1 h2=>by
 have:a ≠ d:=fun z=>by subst z; rw [ho] at h1; cases h1; rw [hd] at h2; cases h2
 exact (hs.2 a this).trans h1
section
variable {A:Around} {E:Value -> Shared -> Prop}
theorem JlE {ks:List (KTr κ)} {a:Addr} {s:Shared} {Q:Int -> Shared -> Prop} (hu:A.units < cLine) (x:KAt kd s.heap (.t ks) (.ref a)) (h:Q (kHash kd (.t ks)) { s with toks:=s.toks + kDrw (.t ks) })
  (ih:∀ k ∈ ks,∀ v s' Q',KAt kd s'.heap k v -> Q' (kHash kd k) { s' with toks:=s'.toks + kDrw k } -> wpAny (model P w) A.in1 (pyHash v) Q' E s'):wpAny (model P w) A (pyHash (.ref a)) Q E s:=by
 obtain ⟨o,its,n,ho,hc,hd,hi⟩:=x.ref
 have hT:s.TypeIs (.ref a) "tuple":=⟨o,ho,hc⟩
 (unfold pyHash); (first | unfold pyHashByItsType | skip); (first | refine wpAny_bind (wpAny_cRoomFor_or (.inr hu) ?_) | skip)
 (refine wpAny_bind (wpAny_specialOf hT F.slot_tuple_hash.lookup ?_)); (show wpAny _ _ (if (some (Value.builtin "tuple.__hash__") == some Value.none) = true then _ else _) Q E s)
 (rw [if_neg (by rw [beq_builtin_none]; exact Bool.false_ne_true)]); (refine wpAny_bind (wpAny_specialOf hT F.slot_tuple_hash.lookup ?_))
 (show wpAny _ _ (callSpecialIfBoundUnlessNone? (.ref a) "__hash__" _ >>= _) Q E s); (refine wpAny_bind (wpAny_callSpecialIfBoundUnlessNone?_slot hT F.slot_tuple_hash (wpAny_call_entry F.slot_tuple_hash hT F.entry_tuple_hash ?_ (F.args_tuple_hash_1 _))))
 (show wpAny _ _ (Builtin.Tuple.tupleItemsOf (.ref a) >>= _) _ _ s); (refine wpAny_bind (wpAny_tupleItemsOf ho hd (wpAny_bind ?_)))
 rw [<- Array.forIn_toList]
 refine wpAny_forIn_list _ (fun rest (b:Array Int) s'=>∃ done left,ks = done ++ left /\ KAts kd s.heap left rest /\ b.toList = kHashs kd done /\ s' = { s with toks:=s.toks + kDrws done }) _ ?_ ?_ _ _ ⟨[],ks,rfl,hi,rfl,rfl⟩
 ·rintro y rest b s' ⟨done,left,e,hl,hb,rfl⟩
  cases left with
  | nil=>cases hl
  | cons k left=>
   obtain ⟨v,r,e2,h1,h2⟩:=hl
   cases e2
   have eh:∀ l:List (KTr κ),kHashs kd (l ++ [k]) = kHashs kd l ++ [kHash kd k]:=fun l=>by induction l with
    | nil=>rfl
    | cons z l ih=>simp [kHashs,ih]
   have ed:∀ l:List (KTr κ),kDrws (l ++ [k]) = kDrws l + kDrw k:=fun l=>by induction l with
    | nil=>simp [kDrws]
    | cons z l ih=>simp [kDrws,ih,Nat.add_assoc]
   refine wpAny_bind (ih k (by rw [e]; simp) _ _ _ h1 ?_)
   have fin:∃ done' left',ks = done' ++ left' /\ KAts kd s.heap left' rest /\ (b.push (kHash kd k)).toList = kHashs kd done' /\ ({ s with toks:=s.toks + kDrws done + kDrw k }:Shared) = { s with toks:=s.toks + kDrws done' }:=⟨done ++ [k],left,by simp [e],h2,by simp [hb,eh],by rw [ed,Nat.add_assoc]⟩
   first
    | exact wpAny_pure fin
    | exact wpAny_bind (wpAny_pure (wpAny_pure fin))
 ·rintro b s' ⟨done,left,e,hl,hb,rfl⟩
  cases left with
  | cons k left=>obtain ⟨_,_,e2,_⟩:=hl; cases e2
  | nil=>
   rw [List.append_nil] at e
   subst e
   show wpAny _ _ (retInt (Builtin.Tuple.tupleHashOf b.toList)) _ _ _
   (rw [hb]); (refine wpAny_ret_mkInt ?_)
   show wpAny _ _ (if (decide (-(2:Int) ^ 63 <= Builtin.Tuple.tupleHashOf (kHashs kd ks)) && decide (Builtin.Tuple.tupleHashOf (kHashs kd ks) < 2 ^ 63)) = true then _ else _) Q E _
   simp only [kHash,kDrw] at h
   unfold reduceHash at h
   by_cases hr:(decide (-(2:Int) ^ 63 <= Builtin.Tuple.tupleHashOf (kHashs kd ks)) && decide (Builtin.Tuple.tupleHashOf (kHashs kd ks) < 2 ^ 63)) = true
   ·(rw [if_pos hr]); (rw [if_pos hr] at h); (exact wpAny_pure (by simpa [Nat.add_assoc] using h))
   ·(rw [if_neg hr]); (rw [if_neg hr] at h); (exact wpAny_bind (wpAny_rule (wpAny_pure (by simpa [Nat.add_assoc] using h))))
theorem JgR {ks:List (KTr κ)} {k:KTr κ} (h:k ∈ ks):kDep k <= kDeps ks:=by
 induction ks with
 | nil=>cases h
 | cons z ks ih=>
  simp only [kDeps]
  rcases List.mem_cons.mp h with rfl | h
  ·omega
  ·have:=ih h; omega
theorem Jkt:∀ (n:Nat) (k:KTr κ) (A:Around) (v:Value) (s:Shared) (Q:Int -> Shared -> Prop),kDep k <= n -> A.units + 4 * n < cLine -> KAt kd s.heap k v -> Q (kHash kd k) { s with toks:=s.toks + kDrw k } -> wpAny (model P w) A (pyHash v) Q E s
 | n,.a k,A,v,s,Q,_,_,x,h=>kd.pyHash x h
 | 0,.t ks,A,v,s,Q,hn,_,_,_=>by simp [kDep] at hn
 | n + 1,.t ks,A,v,s,Q,hn,hu,x,h=>by
  obtain ⟨a,_,_,_,rfl,_⟩:=id x
  simp only [kDep] at hn
  exact JlE (by omega) x h fun k hk v' s' Q' x' h'=>Jkt n k A.in1 v' s' Q' (by have:=JgR hk; omega) (by have:A.in1.units = A.units + 1:=rfl; omega) x' h'
theorem Jmi {xs ys:List (KTr κ)} {a b:Addr} {s:Shared} {Q:Bool -> Shared -> Prop} (hu:A.units < cLine) (hx:KAt kd s.heap (.t xs) (.ref a)) (hy:KAt kd s.heap (.t ys) (.ref b)) (h:Q (decide ((KTr.t xs:KTr κ) = .t ys)) s)
  (ih:∀ k ∈ xs,∀ j v u Q',KAt kd s.heap k v -> KAt kd s.heap j u -> Q' (decide (k = j)) s -> wpAny (model P w) A.in1 (eqBool v u) Q' E s):wpAny (model P w) A (eqBool (.ref a) (.ref b)) Q E s:=by
 have e0:decide ((KTr.t xs:KTr κ) = .t ys) = decide (xs = ys):=decide_eq_decide.mpr ⟨fun z=>by injection z,fun z=>by rw [z]⟩
 rw [e0] at h
 obtain ⟨oa,as,na,hoa,hca,hda,hia⟩:=hx.ref
 obtain ⟨ob,bs,nb,hob,hcb,hdb,hib⟩:=hy.ref
 have hTa:s.TypeIs (.ref a) "tuple":=⟨oa,hoa,hca⟩
 have hTb:s.TypeIs (.ref b) "tuple":=⟨ob,hob,hcb⟩
 (unfold eqBool); (try with_reducible refine wpAny_holding ?_); (show wpAny _ _ (if (Value.ref a == Value.ref b) = true then _ else _) Q E s)
 by_cases hab:(Value.ref a == Value.ref b) = true
 ·rw [if_pos hab]
  have e:a = b:=by have:=eq_of_beq hab; injection this
  subst e
  have:=KAt.inj _ hx hy
  injection this with e1
  rw [decide_eq_true e1] at h
  exact wpAny_bind (wpAny_rule (wpAny_pure (by simpa using h)))
 ·rw [if_neg hab]
  refine wpAny_bind (wpAny_richCompare_same_room (op:=.Eq) hTa hTb F.slot_tuple_eq (wpAny_call_entry F.slot_tuple_eq hTa F.entry_tuple_eq ?_ (F.args_tuple_eq_2 _ _)) hu)
  (show wpAny _ _ (isInstance (.ref b) (.type "tuple") >>= _) _ _ s); (refine wpAny_bind (wpAny_isInstance hTb isSubtype_tuple_tuple ?_)); (simp only [Bool.not_true,Bool.false_eq_true,if_false])
  (refine wpAny_bind (wpAny_tupleItemsOf hoa hda (wpAny_bind (wpAny_tupleItemsOf hob hdb (wpAny_bind ?_)))))
  refine wpAny_forIn_list _ (fun rest r s'=>r.1 = none /\ s' = s /\ ∃ x' y' as' bs',rest = List.zip as' bs' /\ (∀ k ∈ x',k ∈ xs) /\ KAts kd s.heap x' as' /\ KAts kd s.heap y' bs' /\ decide (x' = y') = decide (xs = ys) /\ (as'.length == bs'.length) = (as.size == bs.size)) _ ?_ ?_ _ _ ⟨rfl,rfl,xs,ys,as.toList,bs.toList,rfl,fun _ z=>z,hia,hib,rfl,by simp⟩
  ·rintro ⟨u,v⟩ rest r s' ⟨hr,rfl,x',y',as',bs',hz,hm,hx',hy',hdec,hlen⟩
   cases x' with
   | nil=>cases hx'; simp at hz
   | cons k1 x'=>
    obtain ⟨u',as2,rfl,p1,p2⟩:=hx'
    cases y' with
    | nil=>cases hy'; simp at hz
    | cons k2 y'=>
     obtain ⟨v',bs2,rfl,q1,q2⟩:=hy'
     simp only [List.zip_cons_cons,List.cons.injEq,Prod.mk.injEq] at hz
     obtain ⟨⟨rfl,rfl⟩,rfl⟩:=hz
     refine wpAny_bind (ih k1 (hm _ (by simp)) k2 _ _ _ p1 q1 ?_)
     by_cases hk:k1 = k2
     ·subst hk
      rw [decide_eq_true rfl]
      simp only [Bool.not_true,Bool.false_eq_true,if_false]
      refine wpAny_pure ⟨rfl,rfl,x',y',as2,bs2,rfl,fun k z=>hm k (by simp [z]),p2,q2,?_,by simpa using hlen⟩
      rw [<- hdec]
      exact decide_eq_decide.mpr ⟨fun z=>by rw [z],fun z=>by injection z⟩
     ·have hf:decide (xs = ys) = false:=by rw [<- hdec]; exact decide_eq_false fun z=>hk (by injection z)
      rw [hf] at h
      (rw [decide_eq_false hk]); (simp only [Bool.not_false,if_true])
      exact wpAny_bind (wpAny_pure (wpAny_pure (wpAny_pure ⟨_,rfl,(fun e=>nomatch e),wpAny_truthy_bool h⟩)))
  ·rintro ⟨r1,r2⟩ s' ⟨hr,rfl,x',y',as',bs',hz,hm,hx',hy',hdec,hlen⟩
   simp only at hr
   subst hr
   refine wpAny_pure ?_
   have hfin:(as.size == bs.size) = decide (xs = ys):=by
    rw [<- hdec,<- hlen]
    cases x' with
    | nil=>
     cases hx'
     cases y' with
     | nil=>cases hy'; simp
     | cons k2 y'=>obtain ⟨v',bs2,rfl,q1,q2⟩:=hy'; simp
    | cons k1 x'=>
     obtain ⟨u',as2,rfl,p1,p2⟩:=hx'
     cases y' with
     | nil=>cases hy'; simp
     | cons k2 y'=>obtain ⟨v',bs2,rfl,q1,q2⟩:=hy'; simp at hz
   refine ⟨.bool (as.size == bs.size),rfl,(fun e=>nomatch e),wpAny_truthy_bool ?_⟩
   rw [hfin]; exact h
def Apart (kd:KeyKind P w κ):Prop:=∀ (A:Around) (E:Value -> Shared -> Prop) (s:Shared) (k:κ) (v:Value) (a:Addr) (o:Obj) (its:Array Value) (n:Nat) (Q:Bool -> Shared -> Prop),A.units < cLine -> kd.is k v = true -> s.heap.get? a = some o -> o.cls = .type "tuple" -> o.data = .seq its n -> Q false s -> wpAny (model P w) A (eqBool v (.ref a)) Q E s /\ wpAny (model P w) A (eqBool (.ref a) v) Q E s
theorem Jkn (ap:Apart kd):∀ (n:Nat) (k j:KTr κ) (A:Around) (v u:Value) (s:Shared) (Q:Bool -> Shared -> Prop),kDep k <= n -> A.units + 4 * n + 1 < cLine -> KAt kd s.heap k v -> KAt kd s.heap j u -> Q (decide (k = j)) s -> wpAny (model P w) A (eqBool v u) Q E s
 | n,.a k,.a j,A,v,u,s,Q,_,_,x,y,h=>kd.eqBool x y (by rw [show decide ((KTr.a k:KTr κ) = .a j) = decide (k = j) from decide_eq_decide.mpr ⟨fun z=>by injection z,fun z=>by rw [z]⟩] at h; exact h)
 | n,.a k,.t js,A,v,u,s,Q,_,hu,x,y,h=>by
  obtain ⟨a,o,its,m,rfl,h1,h2,h3,_⟩:=y
  rw [decide_eq_false (fun z=>nomatch z)] at h
  exact (ap A E s k v a o its m Q (by omega) x h1 h2 h3 h).1
 | n,.t ks,.a j,A,v,u,s,Q,_,hu,x,y,h=>by
  obtain ⟨a,o,its,m,rfl,h1,h2,h3,_⟩:=x
  rw [decide_eq_false (fun z=>nomatch z)] at h
  exact (ap A E s j u a o its m Q (by omega) y h1 h2 h3 h).2
 | 0,.t ks,.t js,A,v,u,s,Q,hn,_,_,_,_=>by simp [kDep] at hn
 | n + 1,.t ks,.t js,A,v,u,s,Q,hn,hu,x,y,h=>by
  obtain ⟨a,_,_,_,rfl,_⟩:=id x
  obtain ⟨b,_,_,_,rfl,_⟩:=id y
  simp only [kDep] at hn
  exact Jmi (by omega) x y h fun k hk j v' u' Q' x' y' h'=>Jkn ap n k j A.in1 v' u' s Q' (by have:=JgR hk; omega) (by have:A.in1.units = A.units + 1:=rfl; omega) x' y' h'
theorem JjR:∀ (n:Nat) (k:KTr κ) (A:Around) (v:Value) (s:Shared) (Q:Bool -> Shared -> Prop),kDep k <= n -> KAt kd s.heap k v -> Q true s -> wpAny (model P w) A (eqIsQuiet n v) Q E s
 | n,.a k,A,v,s,Q,_,x,h=>by rw [eqIsQuiet_byValue n (kd.byValue _ _ x)]; exact wpAny_pure h
 | 0,.t ks,A,v,s,Q,hn,_,_=>by simp [kDep] at hn
 | n + 1,.t ks,A,v,s,Q,hn,x,h=>by
  obtain ⟨a,o,its,m,rfl,ho,hc,hd,hi⟩:=x
  simp only [kDep] at hn
  have hT:s.TypeIs (.ref a) "tuple":=⟨o,ho,hc⟩
  (unfold eqIsQuiet); (refine wpAny_bind (wpAny_specialOf hT F.slot_tuple_eq.lookup ?_)); (show wpAny _ _ (isInstance (.ref a) (.type "tuple") >>= _) _ _ s)
  (refine wpAny_bind (wpAny_isInstance hT isSubtype_tuple_tuple ?_)); (simp only [Bool.not_true,Bool.false_eq_true,if_false]); (refine wpAny_bind (wpAny_seqItems ho hd (wpAny_bind ?_)))
  (show wpAny _ _ (forIn its _ _) _ _ s); (rw [<- Array.forIn_toList])
  refine wpAny_forIn_list _ (fun rest r s'=>r.1 = none /\ s' = s /\ ∃ left,kDeps left <= n /\ KAts kd s.heap left rest) _ ?_ ?_ _ _ ⟨rfl,rfl,ks,by omega,hi⟩
  ·rintro v rest r s' ⟨hr,rfl,left,hl,hk⟩
   cases left with
   | nil=>cases hk
   | cons k left=>
    obtain ⟨v',r',e,h1,h2⟩:=hk
    cases e
    simp only [kDeps] at hl
    refine wpAny_bind (JjR n k _ _ _ _ (by omega) h1 ?_)
    (simp only [Bool.not_true,Bool.false_eq_true,if_false]); (exact wpAny_pure ⟨rfl,rfl,left,by omega,h2⟩)
  ·rintro ⟨r1,r2⟩ s' ⟨hr,rfl,_⟩
   simp only at hr
   subst hr
   exact wpAny_pure h
end
def treeKind (kd:KeyKind P w κ) (ap:Apart kd):HeapKind P w (List (KTr κ)) where
 is:=fun h ks a=>KAt kd h (.t ks) (.ref a) /\ kDeps ks <= 7
 hash:=fun ks=>kHash kd (.t ks)
 draws:=fun ks=>kDrw (.t ks)
 room:=fun A=>A.units + 50 < cLine
 inj:=fun hx hy=>by
  have:=KAt.inj _ hx.1 hy.1
  injection this
 keeps:=fun x ho hd hs=>⟨KAt.keep (Jcz ho hd hs) _ x.1,x.2⟩
 pyHash:=fun hu hk h=>Jkt 8 _ _ _ _ _ (by simp only [kDep]; have:=hk.2; omega) (by omega) hk.1 h
 eqBool:=fun hu hx hy h=>Jkn ap 8 _ _ _ _ _ _ _ (by simp only [kDep]; have:=hx.2; omega) (by omega) hx.1 hy.1 (by rw [show decide ((KTr.t _:KTr κ) = .t _) = decide (_ = _) from decide_eq_decide.mpr ⟨fun z=>by injection z,fun z=>by rw [z]⟩]; exact h)
 quiet:=fun hk h=>JjR 8 _ _ _ _ _ (by simp only [kDep]; have:=hk.2; omega) hk.1 h
end
theorem JjL (prog:Program) (w:World):Apart (mixKind prog w):=fun A E s k v a o its n Q hu hk h1 h2 h3 hq=>by
 have p:s.heap.IsTuple a its:=⟨o,h1,h2,n,h3⟩
 rcases Jh hk with ⟨i,t,rfl,rfl⟩ | ⟨x,t,rfl,rfl⟩ | ⟨rfl,rfl⟩
 ·exact ⟨SeqAt.EqAt.int_tuple i t p hu _ _ _ _ hq,SeqAt.EqAt.tuple_int i t p hu _ _ _ _ hq⟩
 ·exact ⟨SeqAt.EqAt.str_tuple x t p hu _ _ _ _ hq,SeqAt.EqAt.tuple_str x t p hu _ _ _ _ hq⟩
 ·exact ⟨SeqAt.EqAt.none_tuple p hu _ _ _ _ hq,SeqAt.EqAt.tuple_none p hu _ _ _ _ hq⟩
def tKind (prog:Program) (w:World):HeapKind prog w (List (KTr Key)):=treeKind (mixKind prog w) (JjL prog w)
end L2
namespace L2
open PySem PySem.Spec PyProof.Rows
inductive V where
 | non | bl (b:Bool) | int (i:Int) | str (x:Str) | byt (b:Array UInt8) | flt (b:UInt64) | ref (a:Addr) | ty (n:String)
 deriving DecidableEq
def RelV:V -> Value -> Prop
 | .non,u=>u = Value.none
 | .bl b,u=>u = Value.bool b
 | .int i,u=>∃ t,u = Value.int i t
 | .str x,u=>∃ t,u = Value.str x t
 | .byt b,u=>∃ t,u = Value.bytes b t
 | .flt b,u=>∃ t,u = Value.float b t
 | .ref a,u=>u = Value.ref a
 | .ty n,u=>u = Value.type n
abbrev Vals:List V -> List Value -> Prop:=Paired RelV
theorem Vals.length {xs:List V} {us:List Value} (r:Vals xs us):xs.length = us.length:=Paired.length r
theorem Vals.get:∀ {xs:List V} {us:List Value} {i:Nat} {x:V},Vals xs us -> xs[i]? = some x -> ∃ u,us[i]? = some u /\ RelV x u
 | _,_,_,_,.nil,e=>by simp at e
 | _,_,0,_,.cons r _,e=>by simp at e; subst e; exact ⟨_,rfl,r⟩
 | _,_,i + 1,x,.cons _ t,e=>by
  obtain ⟨u,h1,h2⟩:=Vals.get (i:=i) (x:=x) t (by simpa using e)
  exact ⟨u,by simpa using h1,h2⟩
theorem Vals.append:∀ {xs ys:List V} {us ws:List Value},Vals xs us -> Vals ys ws -> Vals (xs ++ ys) (us ++ ws)
 | _,_,_,_,.nil,s=>s
 | _,_,_,_,.cons r t,s=>.cons r (Vals.append t s)
theorem Vals.take:∀ {xs:List V} {us:List Value} (n:Nat),Vals xs us -> Vals (xs.take n) (us.take n)
 | _,_,0,_=>.nil
 | _,_,_ + 1,.nil=>.nil
 | _,_,n + 1,.cons r t=>.cons r (Vals.take n t)
theorem Vals.drop:∀ {xs:List V} {us:List Value} (n:Nat),Vals xs us -> Vals (xs.drop n) (us.drop n)
 | _,_,0,r=>r
 | _,_,_ + 1,.nil=>.nil
 | _,_,n + 1,.cons _ t=>Vals.drop n t
theorem Vals.none_of:∀ {xs:List V} {us:List Value} {i:Nat},Vals xs us -> xs[i]? = none -> us[i]? = none:=fun {xs us i} r e=>by
 have h1:=r.length
 have h2:xs.length <= i:=List.getElem?_eq_none_iff.mp e
 exact List.getElem?_eq_none_iff.mpr (by omega)
def RelO:Option V -> Option Value -> Prop
 | some v,some u=>RelV v u
 | none,none=>True
 | _,_=>False
def KV {κ:Type}:List (κ × V) -> List (κ × Value) -> Prop:=Paired fun (p:κ × V) (q:κ × Value)=>p.1 = q.1 /\ RelV p.2 q.2
def kV:Key -> V
 | .inl i=>.int i
 | .inr x=>.str x
 | .non=>.non
inductive HO where
 /-- a list -/
 | lst (xs:List V)
 /-- a tuple (never changes) -/
 | tup (xs:List V)
 /-- a dict whose keys are ints and texts; one whose keys are tuples of ints and texts (the empty one is both) -/
 | dK (kvs:List (Key × V)) | dT (kvs:List (List (KTr Key) × V))
 /-- a set of ints: its members,its size -/
 | set (S:Int -> Bool) (n:Nat)
 /-- an instance of the class at C,its dict at dx,its attributes -/
 | ins (C dx:Addr) (fs:List (Str × V))
 /-- the dict of the instance at x -/
 | own (x:Addr)
 /-- the dict of an exception -/
 | xd (fs:List (Str × V))
 /-- a bound method,f of x -/
 | met (f x:Addr)
 /-- a range object lo,lo + 1,.. below hi -/
 | rng (lo hi:Int)
 /-- a thing that is known to the object (the script; a dict while a loop walks it): read,never written while it is so -/
 | frz (o:Obj) (u:HO)
 /-- a code object's table; ps[0] is the name that all its codes bear (it may grow) -/
 | tbl (ps:Array Value)
 /-- any other thing,by what is true of its one object (a def of one's own: SetO a S n:=HO.ext fun h=>..) -/
 | ext (φ:Heap -> Prop)
abbrev Hp:=Addr -> Option HO
def upd (H:Hp) (a:Addr) (o:HO):Hp:=fun b=>if b = a then some o else H b
theorem Jd {H:Hp} {a:Addr} {o:HO}:upd H a o a = some o:=by unfold upd; rw [if_pos rfl]
theorem Jb {H:Hp} {a b:Addr} {o:HO} (h:b ≠ a):upd H a o b = H b:=by unfold upd; rw [if_neg h]
theorem Jld {H:Hp} {a:Addr} {o u:HO}:upd (upd H a o) a u = upd H a u:=by
 funext b; unfold upd; split <;> rfl
theorem JlT {H:Hp} {a b:Addr} {o u:HO} (h:H a = some o) (h':H b = some u) (d:o ≠ u):a ≠ b:=by
 intro e; subst e; rw [h] at h'; exact d (Option.some.inj h')
theorem Jc {H:Hp} {a b:Addr} {o:HO} (h:H a = some o) (h':H b = none):a ≠ b:=by
 intro e; subst e; rw [h] at h'; cases h'
mutual
def KH (H:Hp):KTr Key -> V -> Prop
 | .a k,v=>v = kV k
 | .t ks,v=>∃ a xs,v = .ref a /\ H a = some (.tup xs) /\ KHs H ks xs
def KHs (H:Hp):List (KTr Key) -> List V -> Prop
 | [],xs=>xs = []
 | k :: ks,xs=>∃ x r,xs = x :: r /\ KH H k x /\ KHs H ks r
end
mutual
theorem KH.keep {H H':Hp} (ht:∀ b xs,H b = some (.tup xs) -> H' b = some (.tup xs)):∀ (k:KTr Key) {v:V},KH H k v -> KH H' k v
 | .a _,_,x=>x
 | .t ks,_,⟨a,xs,e,h1,h2⟩=>⟨a,xs,e,ht _ _ h1,KHs.keep ht ks h2⟩
theorem KHs.keep {H H':Hp} (ht:∀ b xs,H b = some (.tup xs) -> H' b = some (.tup xs)):∀ (ks:List (KTr Key)) {xs:List V},KHs H ks xs -> KHs H' ks xs
 | [],_,x=>x
 | k :: ks,_,⟨v,r,e,h1,h2⟩=>⟨v,r,e,KH.keep ht k h1,KHs.keep ht ks h2⟩
end
def KB (H:Hp) (k:List (KTr Key)) (b:Addr):Prop:=KH H (.t k) (.ref b) /\ kDeps k <= 7
theorem KB.keep {H H':Hp} {k:List (KTr Key)} {b:Addr} (x:KB H k b) (ht:∀ b xs,H b = some (.tup xs) -> H' b = some (.tup xs)):KB H' k b:=⟨KH.keep ht _ x.1,x.2⟩
theorem KB.tup {H:Hp} {k:List (KTr Key)} {b:Addr} (x:KB H k b):∃ xs,H b = some (.tup xs):=by
 obtain ⟨⟨a,xs,e,h,_⟩,_⟩:=x
 cases e
 exact ⟨xs,h⟩
section
variable (P:Program) (w:World)
def ObjOk (H:Hp) (h:Heap) (a:Addr):HO -> Prop
 | .lst xs=>xs.length <= sizeLine /\ ∃ (its:List Value) (n:Nat),Vals xs its /\ h.get? a = some { cls:=.type "list",data:=.seq its.toArray n }
 | .tup xs=>(xs.length <= sizeLine /\ ∀ o,h.get? a = some o -> o.dict = none) /\ ∃ its:List Value,Vals xs its /\ IsTup h a its.toArray
 | .dK kvs=>kvs.length <= sizeLine /\ (a == sysModules) = false /\ ∃ vs,KV kvs vs /\ h.DictOf (mixKind P w) a vs
 | .dT kvs=>kvs.length <= sizeLine /\ (a == sysModules) = false /\ ∃ xs:List (List (KTr Key) × Addr × Value),
   Paired (fun (p:List (KTr Key) × V) (q:List (KTr Key) × Addr × Value)=>p.1 = q.1 /\ KB H p.1 q.2.1 /\ RelV p.2 q.2.2) kvs xs /\
   ∃ o es ep,h.get? a = some o /\ o.ExactDict /\ o.data = .dict es ep /\ es.toList = xs.map (entryOfKey (tKind P w)) /\ (xs.map (·.1)).Nodup
 | .set S n=>h.SetOf (intKind P w) a S n
 | .ins C dx fs=>H dx = some (.own a) /\ fs.length <= 1000 /\ dx ≠ a /\ h.get? a = some (PySem.W.instObj C dx) /\
   ∃ mA,h.Ns1 dx mA /\ (∀ f,RelO (fs.lookup f) (mA f)) /\ PySem.Within mA (fs.map (·.1))
 | .own _=>∃ o,h.get? a = some o
 | .xd fs=>∃ mA,h.Ns1 a mA /\ ∀ f,RelO (fs.lookup f) (mA f)
 | .rng lo hi=>∃ t u v,h.get? a = some { cls:=.type "range",data:=.fields #[.int lo t,.int hi u,.int 1 v] }
 | .frz o u=>h.get? a = some o /\ ObjOk H h a u
 | .tbl ps=>∃ q qt qs,ps[0]? = some (.str q qt) /\ h.get? a = some { cls:=.none,data:=.fields qs } /\ TriplesOk qs.toList /\ ∀ pos cv,codeAmong pos qs.toList = some cv -> ∃ (c:Addr) (oc:Obj) (vs:Array Value) (t:Tok),cv = .ref c /\ H c = some (.frz oc (.ext fun _=>True)) /\ oc.data = .fields vs /\ vs[1]? = some (.str q t)
 | .met f x=>h.get? a = some (PySem.W.methodObj (.ref f) (.ref x))
 | .ext φ=>φ h /\ (∃ o,h.get? a = some o) /\ ∀ h1 h2:Heap,φ h1 -> (∀ o,h1.get? a = some o -> h2.get? a = some o) -> φ h2
theorem Jfp {h:Heap} {z:Array Value} {n:Nat} (o:Obj) (q:(h.push { cls:=.type "tuple",data:=.seq z n }).get? h.objs.size = some o):o.dict = none:=by
 rw [Heap.get?_push_size _ rfl] at q; cases q; rfl
def HOk (H:Hp) (h:Heap):Prop:=∀ a o,H a = some o -> ObjOk P w H h a o
end
section
variable {P:Program} {w:World} {H H':Hp} {h h':Heap} {a:Addr} {o:HO}
theorem ObjOk.lt (x:ObjOk P w H h a o):a < h.objs.size:=by
 cases o with
 | lst xs=>obtain ⟨_,_,_,_,e⟩:=x; exact Heap.lt_size e
 | tup xs=>obtain ⟨_,_,_,p⟩:=x; exact p.lt
 | dK kvs=>obtain ⟨_,_,_,_,o,_,_,e,_⟩:=x; exact Heap.lt_size e
 | dT kvs=>obtain ⟨_,_,_,_,o,_,_,e,_⟩:=x; exact Heap.lt_size e
 | set S n=>obtain ⟨o,_,_,_,e,_⟩:=x; exact Heap.lt_size e
 | ins C dx fs=>obtain ⟨_,_,_,e,_⟩:=x; exact Heap.lt_size e
 | own y=>obtain ⟨_,e⟩:=x; exact Heap.lt_size e
 | xd fs=>obtain ⟨_,⟨_,_,_,e,_⟩,_⟩:=x; exact Heap.lt_size e
 | rng lo hi=>obtain ⟨_,_,_,e⟩:=x; exact Heap.lt_size e
 | frz ob u=>obtain ⟨e,_⟩:=x; exact Heap.lt_size e
 | tbl ps=>obtain ⟨_,_,_,_,e,_⟩:=x; exact Heap.lt_size e
 | met f y=>exact Heap.lt_size (show h.get? a = some _ from x)
 | ext φ=>obtain ⟨_,⟨_,e⟩,_⟩:=x; exact Heap.lt_size e
theorem Paired.mapP {α β:Type} {F G:α -> β -> Prop}:∀ {l₁:List α} {l₂:List β},Paired F l₁ l₂ -> (∀ a b,F a b -> G a b) -> Paired G l₁ l₂
 | _,_,.nil,_=>.nil
 | _,_,.cons r t,f=>.cons (f _ _ r) (Paired.mapP t f)
theorem ObjOk.stay (x:ObjOk P w H h a o) (k:∀ b u,(b = a \/ H b = some (.own a)) -> h.get? b = some u -> h'.get? b = some u)
  (ho:∀ b,H b = some (.own a) -> H' b = some (.own a)) (ht:∀ b xs,H b = some (.tup xs) -> H' b = some (.tup xs))
  (hf:∀ b o u,H b = some (.frz o u) -> H' b = some (.frz o u):=by exact fun _ _ _ q=>q):ObjOk P w H' h' a o:=by
 induction o with
 | lst xs=>obtain ⟨z,its,n,r,e⟩:=x; exact ⟨z,its,n,r,k _ _ (.inl rfl) e⟩
 | tup xs=>obtain ⟨⟨z,zd⟩,its,r,ob,e,c⟩:=x; exact ⟨⟨z,fun o q=>by rw [k _ _ (.inl rfl) e] at q; cases q; exact zd _ e⟩,its,r,ob,k _ _ (.inl rfl) e,c⟩
 | dK kvs=>obtain ⟨z,y,vs,r,ob,es,ep,e,c⟩:=x; exact ⟨z,y,vs,r,ob,es,ep,k _ _ (.inl rfl) e,c⟩
 | dT kvs=>
  obtain ⟨z,y,xs,r,ob,es,ep,e,c⟩:=x
  exact ⟨z,y,xs,Paired.mapP r fun p q z=>⟨z.1,z.2.1.keep ht,z.2.2⟩,ob,es,ep,k _ _ (.inl rfl) e,c⟩
 | set S n=>obtain ⟨ob,es,ep,t,e,c⟩:=x; exact ⟨ob,es,ep,t,k _ _ (.inl rfl) e,c⟩
 | ins C dx fs=>
  obtain ⟨d,z,ne,e,mA,⟨od,es,ep,e2,c⟩,r⟩:=x
  exact ⟨ho _ d,z,ne,k _ _ (.inl rfl) e,mA,⟨od,es,ep,k _ _ (.inr d) e2,c⟩,r⟩
 | own y=>obtain ⟨ob,e⟩:=x; exact ⟨ob,k _ _ (.inl rfl) e⟩
 | xd fs=>obtain ⟨mA,⟨od,es,ep,e,c⟩,r⟩:=x; exact ⟨mA,⟨od,es,ep,k _ _ (.inl rfl) e,c⟩,r⟩
 | rng lo hi=>obtain ⟨t,u,v,e⟩:=x; exact ⟨t,u,v,k _ _ (.inl rfl) e⟩
 | frz ob u ih=>obtain ⟨e,q⟩:=x; exact ⟨k _ _ (.inl rfl) e,ih q⟩
 | tbl ps=>obtain ⟨q,qt,qs,e0,e,t,c⟩:=x; exact ⟨q,qt,qs,e0,k _ _ (.inl rfl) e,t,fun pos cv z=>let ⟨b,oc,vs,tk,e1,e2,e3⟩:=c pos cv z; ⟨b,oc,vs,tk,e1,hf _ _ _ e2,e3⟩⟩
 | met f y=>
  have e:h.get? a = some (PySem.W.methodObj (.ref f) (.ref y)):=x
  show h'.get? a = some (PySem.W.methodObj (.ref f) (.ref y))
  exact k a _ (.inl rfl) e
 | ext φ=>obtain ⟨p,⟨o,e⟩,st⟩:=x; exact ⟨st _ _ p fun o q=>k _ _ (.inl rfl) q,⟨o,k _ _ (.inl rfl) e⟩,st⟩
theorem HOk.lt (x:HOk P w H h) (e:H a = some o):a < h.objs.size:=(x a o e).lt
theorem HOk.fresh (x:HOk P w H h) (e:h.objs.size <= a):H a = none:=by
 cases q:H a with
 | none=>rfl
 | some u=>exact absurd (Nat.lt_of_lt_of_le (x.lt q) e) (Nat.lt_irrefl _)
theorem HOk.kept (x:HOk P w H h) (k:∀ b u,h.get? b = some u -> h'.get? b = some u):HOk P w H h':=fun a o e=>
 (x a o e).stay (fun b u _ q=>k b u q) (fun _ q=>q) fun _ _ q=>q
theorem HOk.laid (x:HOk P w H h) (k:∀ b u,h.get? b = some u -> h'.get? b = some u) (hp:h.objs.size <= a) (new:ObjOk P w (upd H a o) h' a o):HOk P w (upd H a o) h':=fun b u e=>by
 have hn:=x.fresh hp
 by_cases hb:b = a
 ·subst hb; rw [Jd] at e; cases e; exact new
 ·rw [Jb hb] at e
  exact (x b u e).stay (fun c v _ q=>k c v q) (fun c q=>by rw [Jb (Jc q hn)]; exact q) (fun c xs q=>by rw [Jb (Jc q hn)]; exact q) fun c o' u' q=>by rw [Jb (Jc q hn)]; exact q
end
def Rd (H:Hp) (a:Addr) (u:HO):Prop:=H a = some u \/ ∃ o,H a = some (.frz o u)
theorem Rd.ok {P:Program} {w:World} {H:Hp} {h:Heap} {a:Addr} {u:HO} (r:Rd H a u) (x:HOk P w H h):ObjOk P w H h a u:=by
 rcases r with r | ⟨o,r⟩
 ·exact x a u r
 ·obtain ⟨_,q⟩:=x a _ r
  exact q
def Mut:Option HO -> Prop
 | some (.lst _)=>True
 | some (.dK _)=>True
 | some (.dT _)=>True
 | some (.set _ _)=>True
 | some (.ins _ _ _)=>True
 | some (.ext _)=>True
 | _=>False
section
variable {P:Program} {w:World} {H:Hp} {h h':Heap} {x e:Addr} {o':HO}
theorem HOk.write (ok:HOk P w H h) (mu:Mut (H x)) (he:e = x \/ H e = some (.own x)) (k:∀ b u,b ≠ e -> h.get? b = some u -> h'.get? b = some u) (heo:∃ u,h'.get? e = some u)
  (new:ObjOk P w (upd H x o') h' x o'):HOk P w (upd H x o') h':=fun b u q=>by
 have nown:∀ c y,H c = some (.own y) -> c ≠ x:=fun c y r z=>by subst z; rw [r] at mu; exact mu
 have ntup:∀ c xs,H c = some (.tup xs) -> c ≠ x:=fun c xs r z=>by subst z; rw [r] at mu; exact mu
 by_cases hb:b = x
 ·subst hb; rw [Jd] at q; cases q; exact new
 ·rw [Jb hb] at q
  by_cases hbe:b = e
  ·have q':H b = some (.own x):=by
    rcases he with z | z
    ·exact absurd (hbe.trans z) hb
    ·rw [hbe]; exact z
   rw [q] at q'; cases q'
   obtain ⟨v,hv⟩:=heo
   exact ⟨v,by rw [hbe]; exact hv⟩
  ·refine (ok b u q).stay (fun c v hc r=>k c v ?_ r) (fun c r=>by rw [Jb (nown c b r)]; exact r) (fun c xs r=>by rw [Jb (ntup c xs r)]; exact r) fun c o' u' r=>by rw [Jb (fun z=>by subst z; rw [r] at mu; exact mu)]; exact r
   rcases hc with rfl | hc
   ·exact hbe
   ·rintro rfl
    rcases he with z | z
    ·exact nown c b hc z
    ·rw [hc] at z; cases z; exact hb rfl
end
structure Un (fs ex:List Addr) (H H':Hp) (h h':Heap):Prop where
 keep:∀ b o,h.get? b = some o -> H b = none -> b ∉ fs -> b ∉ ex -> h'.get? b = some o
 slot:∀ b o,h.get? b = some o -> H b = none -> b ∈ fs -> b ∉ ex -> ∃ sl,h'.get? b = some { o with slots:=sl }
 free:∀ b o,h.get? b = some o -> H b = none -> b ∉ ex -> H' b = none
 there:∀ b o,h.get? b = some o -> b ∉ ex -> ∃ o',h'.get? b = some o'
 tups:∀ b xs,H b = some (.tup xs) -> H' b = some (.tup xs)
 frzs:∀ b o u,H b = some (.frz o u) -> H' b = some (.frz o u)
 tbls:∀ b ps,H b = some (.tbl ps) -> ∃ more,H' b = some (.tbl (ps ++ more))
section
variable {fs fs' ex ex':List Addr} {H H1 H2:Hp} {h h1 h2 h':Heap} {a x e:Addr} {o:HO}
theorem Un.any (u:Un fs ex H H1 h h1) {b:Addr} {ob:Obj} (q:h.get? b = some ob) (n:H b = none) (hx:b ∉ ex):∃ sl,h1.get? b = some { ob with slots:=sl }:=by
 by_cases hb:b ∈ fs
 ·exact u.slot b ob q n hb hx
 ·exact ⟨ob.slots,u.keep b ob q n hb hx⟩
theorem Un.kept (k:∀ b u,h.get? b = some u -> h'.get? b = some u):Un fs ex H H h h':=
 ⟨fun b ob q _ _ _=>k b ob q,fun b ob q _ _ _=>⟨ob.slots,k b ob q⟩,fun _ _ _ n _=>n,fun b ob q _=>⟨ob,k b ob q⟩,fun _ _ q=>q,fun _ _ _ q=>q,fun _ ps q=>⟨#[],by rw [q]; simp⟩⟩
theorem Un.refl:Un fs ex H H h h:=Un.kept fun _ _ q=>q
theorem Un.laid (k:∀ b u,h.get? b = some u -> h'.get? b = some u) (hp:h.objs.size <= a) (hn:H a = none):Un fs ex H (upd H a o) h h' where
 keep:=fun b u q _ _ _=>k b u q
 slot:=fun b u q _ _ _=>⟨u.slots,k b u q⟩
 free:=fun b u q n _=>by rw [Jb (Nat.ne_of_lt (Nat.lt_of_lt_of_le (Heap.lt_size q) hp))]; exact n
 there:=fun b u q _=>⟨u,k b u q⟩
 tups:=fun b xs q=>by rw [Jb (Jc q hn)]; exact q
 frzs:=fun b u xs q=>by rw [Jb (Jc q hn)]; exact q
 tbls:=fun b ps q=>⟨#[],by rw [Jb (Jc q hn),q]; simp⟩
theorem Un.write (mu:Mut (H x)) (he:e = x \/ H e = some (.own x)) (k:∀ b u,b ≠ e -> h.get? b = some u -> h'.get? b = some u) (heo:∃ u,h'.get? e = some u):Un fs ex H (upd H x o) h h':=by
 have hx:∀ b,H b = none -> b ≠ x:=fun b n z=>by subst z; rw [n] at mu; exact mu
 have hb:∀ b,H b = none -> b ≠ e:=fun b n z=>by
  subst z
  rcases he with r | r
  ·exact hx b n r
  ·rw [n] at r; cases r
 have hm:∀ b u,H b = some u -> ¬ Mut (some u) -> b ≠ x:=fun b u q nm z=>by subst z; rw [q] at mu; exact nm mu
 refine ⟨fun b u q n _ _=>k b u (hb b n) q,fun b u q n _ _=>⟨u.slots,k b u (hb b n) q⟩,fun b u q n _=>by rw [Jb (hx b n)]; exact n,fun b u q _=>?_,
  fun b xs q=>by rw [Jb (hm b _ q fun z=>z)]; exact q,fun b u xs q=>by rw [Jb (hm b _ q fun z=>z)]; exact q,fun b ps q=>⟨#[],by rw [Jb (hm b _ q fun z=>z),q]; simp⟩⟩
 by_cases hbe:b = e
 ·subst hbe; exact heo
 ·exact ⟨u,k b u hbe q⟩
end
def trk (h:Heap) (H:Hp):List Addr:=(List.range h.objs.size).filter fun a=>(H a).isSome
def hidT (h:Heap) (H:Hp):Heap:=PySem.W.hideAll h (trk h H)
theorem JgD (h:Heap) (H:Hp):(hidT h H).objs.size = h.objs.size:=PySem.W.hideAll_size _ _
theorem Jjt {h:Heap} {H:Hp} {b:Addr} {o:Obj} (e:h.get? b = some o) (n:H b = none):(hidT h H).get? b = some o:=
 PySem.W.hideAll_get _ e fun hm=>by
  have q:(H b).isSome = true:=(List.mem_filter.mp hm).2
  rw [n] at q; simp at q
theorem Jmd {h:Heap} {H:Hp} {b:Addr} {o:Obj} (e:(hidT h H).get? b = some o):h.get? b = some o /\ H b = none:=by
 have e':h.get? b = some o:=PySem.W.of_hideAll (trk h H) e
 refine ⟨e',?_⟩
 cases q:H b with
 | none=>rfl
 | some x=>
  have hm:b ∈ trk h H:=List.mem_filter.mpr ⟨List.mem_range.mpr (Heap.lt_size e'),by simp [q]⟩
  have z:(hidT h H).get? b = none:=PySem.W.hideAll_none (trk h H) hm
  rw [z] at e; cases e
def allNews (g h:Heap) (L:Addr):List (Addr × Obj):=(List.range h.objs.size).filterMap fun a=>if a = L \/ (g.get? a).isSome = true then none else (h.get? a).map fun o=>(a,o)
def rest (g h:Heap) (L d:Addr):List (Addr × Obj):=(allNews g h L).filter fun p=>decide (p.1 ≠ d)
end L2
namespace L2
open PySem PySem.Spec PyProof.Rows
structure Mod (K:PySem.W.Frag) (mg:Str -> Option Value) (base:Heap):Prop where
 kin:K.In base
 glob:base.Ns mainGlobals mg
 blt:∃ mb,base.Ns builtinsNs mb /\ ∀ x:Str,x ≠ "__name__" -> mb x = bootBuiltins x
 nolimit:base.NoLimit
structure Cx where
 prog:Program
 w:World
 K:PySem.W.Frag
 mg:Str -> Option Value
 base:Heap
 A:Around
 N:List Str
 s₀:Shared
 H₀:Hp
 env:Env
 outer:List Env
 stack:List Env
 ex:List Addr
 fn:Str -> Bool
 calm:Bool
 pn:List (Addr × Obj)
 xe:Value -> Shared -> Prop
def frs (l:List Env):List Addr:=l.filterMap (·.frame)
abbrev Cx.fs (X:Cx):List Addr:=frs X.outer
def Vis (sc:Scope) (x:Str):Prop:=sc.names.lookup x = some .local \/ sc.names.lookup x = some .cell \/ sc.names.lookup x = some .free
def Loc (sc:Scope) (x:Str):Prop:=sc.names.lookup x = some .local \/ sc.names.lookup x = some .cell
def Look (env:Env) (h:Heap) (m:Str -> Option Value) (x:Str) (u:Value):Prop:=
 (env.kindOf x = some .local /\ m x = some u) \/ ((env.kindOf x = some .cell \/ env.kindOf x = some .free) /\ ∃ c,env.cells.lookup x = some c /\ h.IsCell c (some u))
structure Cx.Ok (X:Cx):Prop where
 mod:Mod X.K X.mg X.base
 kind:X.env.scope.kind = .function
 glob:X.env.globals = mainGlobals
 blt:X.env.builtins = builtinsNs
 above:X.s₀.heap.objs.size <= X.env.locals
 inj:∀ x y c,X.env.cells.lookup x = some c -> X.env.cells.lookup y = some c -> x = y
 has:∀ x,(X.env.kindOf x = some .cell \/ X.env.kindOf x = some .free) -> ∃ c,X.env.cells.lookup x = some c
 cab:∀ x c,X.fn x = true -> X.env.cells.lookup x = some c -> X.s₀.heap.objs.size <= c
 hd:X.calm = true -> X.A.handled = none
 frames:X.A.frames = some X.stack
 stk:X.stack = X.outer \/ (X.stack = X.env :: X.outer /\ X.env.frame = some X.env.locals)
 exf:∀ b ∈ X.ex,b ≠ X.env.locals /\ ∀ x c,X.env.cells.lookup x = some c -> c ≠ b
 bs:∀ b o,X.base.get? b = some o -> X.s₀.heap.get? b = some o /\ X.H₀ b = none
 bsz:X.base.objs.size <= X.s₀.heap.objs.size
 noex:∀ b o,X.base.get? b = some o -> b ∉ X.ex
 exfs:∀ b ∈ X.ex,b ∉ X.fs
 funs:X.s₀.heap.FunFrames X.base X.outer
 frf:∀ b ∈ X.fs,X.H₀ b = none
structure Inv (X:Cx) (pins:List (Addr × Obj)) (σ:List (Option V)) (H:Hp) (s:Shared):Prop where
 ok:X.Ok
 os:s.os = X.s₀.os
 bare:AllBare s.gens
 base:Un X.fs X.ex X.H₀ H X.s₀.heap s.heap
 loc:∃ m,s.heap.Ns X.env.locals m /\ ∀ (i:Nat) (x:Str) (v:V),X.N[i]? = some x -> σ[i]? = some (some v) -> Vis X.env.scope x -> ∃ u,RelV v u /\ Look X.env s.heap m x u
 cell:∀ x c,X.env.cells.lookup x = some c -> ∃ v,s.heap.IsCell c v
 free:H X.env.locals = none
 freeC:∀ x c,X.env.cells.lookup x = some c -> H c = none
 pin:∀ p ∈ X.pn ++ pins,s.heap.get? p.1 = some p.2 /\ H p.1 = none /\ p.1 ≠ X.env.locals /\ p.1 ∉ X.fs /\ ∀ v,p.2.data ≠ .cell v
 hok:HOk X.prog X.w H s.heap
 len:σ.length = X.N.length
section
variable {X:Cx} {pins:List (Addr × Obj)} {σ:List (Option V)} {H H':Hp} {s:Shared} {h':Heap}
theorem Cx.Ok.nofr (ok:X.Ok) {b:Addr} {o:Obj} (e:X.base.get? b = some o):b ∉ X.fs:=fun hb=>by
 have:=(ok.funs.mem hb).1
 rw [e] at this; cases this
theorem Inv.bs (I:Inv X pins σ H s):∀ b o,X.base.get? b = some o -> s.heap.get? b = some o /\ H b = none:=fun b o e=>
 ⟨I.base.keep b o (I.ok.bs b o e).1 (I.ok.bs b o e).2 (I.ok.nofr e) (I.ok.noex b o e),I.base.free b o (I.ok.bs b o e).1 (I.ok.bs b o e).2 (I.ok.noex b o e)⟩
theorem Inv.bk (I:Inv X pins σ H s):∀ b o,X.base.get? b = some o -> s.heap.get? b = some o:=fun b o e=>(I.bs b o e).1
theorem Inv.mod (I:Inv X pins σ H s):Mod X.K X.mg X.base:=I.ok.mod
theorem Inv.kIn (I:Inv X pins σ H s):X.K.In s.heap:=I.ok.mod.kin.keeps I.bk
theorem Inv.lt (I:Inv X pins σ H s):X.env.locals < s.heap.objs.size:=let ⟨_,hn,_⟩:=I.loc; hn.lt
theorem Inv.sz (I:Inv X pins σ H s):X.s₀.heap.objs.size <= s.heap.objs.size:=Nat.le_trans I.ok.above (Nat.le_of_lt I.lt)
theorem Inv.nofs (I:Inv X pins σ H s) {a:Addr} (h:s.heap.objs.size <= a):a ∉ X.fs:=fun hb=>by
 obtain ⟨_,o,ho,_⟩:=I.ok.funs.mem hb
 exact absurd (Nat.lt_of_lt_of_le (Heap.lt_size ho) (Nat.le_trans I.sz h)) (Nat.lt_irrefl _)
theorem Inv.cne (I:Inv X pins σ H s):∀ x c,X.env.cells.lookup x = some c -> c ≠ X.env.locals:=fun x c e z=>by
 obtain ⟨v,o,ho,hd⟩:=I.cell x c e
 obtain ⟨m,⟨o',es,ep,ho',hd',_⟩,_⟩:=I.loc
 rw [z,ho'] at ho; cases ho; rw [hd'] at hd; cases hd
theorem Inv.funs (I:Inv X pins σ H s):s.heap.FunFrames X.base X.outer:=by
 have all:∀ (l:List Env),(∀ b ∈ frs l,b ∈ X.fs) -> X.s₀.heap.FunFrames X.base l -> s.heap.FunFrames X.base l:=by
  intro l
  induction l with
  | nil=>intro _ _; trivial
  | cons env r ih=>
   intro hs hl
   obtain ⟨hk,⟨L,o,hf,hn,ho,hd⟩,hr⟩:=hl
   have hL:L ∈ X.fs:=hs L (by unfold frs; rw [List.filterMap_cons,hf]; exact List.mem_cons_self)
   obtain ⟨sl,e⟩:=I.base.slot L o ho (I.ok.frf L hL) hL fun z=>I.ok.exfs L z hL
   exact ⟨hk,⟨L,_,hf,hn,e,hd⟩,ih (fun b hb=>hs b (by unfold frs; rw [List.filterMap_cons,hf]; exact List.mem_cons_of_mem _ hb)) hr⟩
 exact all X.outer (fun _ hb=>hb) I.ok.funs
theorem Inv.stack (I:Inv X pins σ H s):s.heap.FunFrames X.base X.stack:=by
 rcases I.ok.stk with e | ⟨e,hf⟩
 ·rw [e]; exact I.funs
 ·rw [e]
  obtain ⟨m,hn,_⟩:=I.loc
  refine .cons (by rw [I.ok.kind]; decide) hf hn ?_ I.funs
  exact Heap.get?_none_of_le (Nat.le_trans I.ok.bsz I.ok.above)
theorem Inv.stkSub (I:Inv X pins σ H s):∀ b ∈ frs X.stack,b ∈ X.env.locals :: X.fs:=fun b hb=>by
 rcases I.ok.stk with e | ⟨e,hf⟩
 ·rw [e] at hb; exact List.mem_cons_of_mem _ hb
 ·rw [e] at hb
  unfold frs at hb
  rw [List.filterMap_cons,hf] at hb
  exact hb
theorem Inv.stkFree (I:Inv X pins σ H s):∀ b ∈ frs X.stack,H b = none:=fun b hb=>by
 rcases List.mem_cons.mp (I.stkSub b hb) with e | hb
 ·rw [e]; exact I.free
 ·obtain ⟨_,o,ho,_⟩:=I.ok.funs.mem hb
  exact I.base.free b o ho (I.ok.frf b hb) fun z=>I.ok.exfs b z hb
theorem Inv.step {g':Array GenState} {t':Nat} {d':Drawn} {ch:List Addr} (I:Inv X pins σ H s)
  (hch:∀ b ∈ ch,(b ∈ X.ex \/ X.s₀.heap.objs.size <= b) /\ b ≠ X.env.locals /\ (∀ x c,X.env.cells.lookup x = some c -> c ≠ b) /\ ∀ p ∈ X.pn ++ pins,p.1 ≠ b)
  (keep:∀ b o,b ≠ X.env.locals -> b ∉ X.fs -> b ∉ ch -> s.heap.get? b = some o -> H b = none -> h'.get? b = some o)
  (slot:∀ b o,b ≠ X.env.locals -> b ∈ X.fs -> b ∉ ch -> s.heap.get? b = some o -> H b = none -> ∃ sl,h'.get? b = some { o with slots:=sl }) (free:∀ b o,b ∉ ch -> s.heap.get? b = some o -> H b = none -> H' b = none)
  (there:∀ b o,b ∉ ch -> s.heap.get? b = some o -> ∃ o',h'.get? b = some o')
  (tups:∀ b xs,H b = some (.tup xs) -> H' b = some (.tup xs)) (frzs:∀ b o u,H b = some (.frz o u) -> H' b = some (.frz o u)) (tbls:∀ b ps,H b = some (.tbl ps) -> ∃ more,H' b = some (.tbl (ps ++ more)))
  (ns:∀ m,s.heap.Ns X.env.locals m -> h'.Ns X.env.locals m) (hok:HOk X.prog X.w H' h') (hg:AllBare g') :
  Inv X pins σ H' { s with heap:=h',gens:=g',drawn:=d',toks:=t' }:=by
 have neL:∀ b o,X.s₀.heap.get? b = some o -> b ≠ X.env.locals:=fun b o e=>Nat.ne_of_lt (Nat.lt_of_lt_of_le (Heap.lt_size e) I.ok.above)
 have neC:∀ b o,X.s₀.heap.get? b = some o -> b ∉ X.ex -> b ∉ ch:=fun b o e hx hb=>by
  rcases (hch b hb).1 with z | z
  ·exact hx z
  ·exact absurd (Nat.lt_of_lt_of_le (Heap.lt_size e) z) (Nat.lt_irrefl _)
 have cellK:∀ x c,X.env.cells.lookup x = some c -> ∀ v,s.heap.IsCell c v -> h'.IsCell c v:=fun x c e v ⟨o,ho,hd⟩=>by
  have nch:c ∉ ch:=fun z=>(hch c z).2.2.1 x c e rfl
  by_cases hc:c ∈ X.fs
  ·obtain ⟨sl,q⟩:=slot c o (I.cne x c e) hc nch ho (I.freeC x c e)
   exact ⟨_,q,hd⟩
  ·exact ⟨o,keep c o (I.cne x c e) hc nch ho (I.freeC x c e),hd⟩
 refine ⟨I.ok,I.os,hg,⟨fun b o e n hb hx=>?_,fun b o e n hb hx=>?_,fun b o e n hx=>?_,fun b o e hx=>?_,fun b xs e=>tups b xs (I.base.tups b xs e),fun b o xs e=>frzs b o xs (I.base.frzs b o xs e),fun b ps e=>?_⟩,?_,fun x c e=>?_,?_,fun x c e=>?_,fun p hp=>?_,hok,I.len⟩
 ·exact keep b o (neL b o e) hb (neC b o e hx) (I.base.keep b o e n hb hx) (I.base.free b o e n hx)
 ·obtain ⟨sl,e1⟩:=I.base.slot b o e n hb hx
  obtain ⟨sl',e2⟩:=slot b _ (neL b o e) hb (neC b o e hx) e1 (I.base.free b o e n hx)
  exact ⟨sl',e2⟩
 ·obtain ⟨o',e1⟩:=I.base.there b o e hx
  exact free b o' (neC b o e hx) e1 (I.base.free b o e n hx)
 ·obtain ⟨o',e1⟩:=I.base.there b o e hx
  exact there b o' (neC b o e hx) e1
 ·obtain ⟨m1,e1⟩:=I.base.tbls b ps e
  obtain ⟨m2,e2⟩:=tbls b _ e1
  exact ⟨m1 ++ m2,by rw [e2,Array.append_assoc]⟩
 ·obtain ⟨m,hn,hl⟩:=I.loc
  refine ⟨m,ns m hn,fun i x v e1 e2 e3=>?_⟩
  obtain ⟨u,r,l⟩:=hl i x v e1 e2 e3
  refine ⟨u,r,?_⟩
  rcases l with l | ⟨k,c,e,z⟩
  ·exact .inl l
  ·exact .inr ⟨k,c,e,cellK x c e _ z⟩
 ·obtain ⟨v,z⟩:=I.cell x c e
  exact ⟨v,cellK x c e v z⟩
 ·obtain ⟨m,⟨o,_,_,ho,_⟩,_⟩:=I.loc
  exact free _ o (fun z=>(hch _ z).2.1 rfl) ho I.free
 ·obtain ⟨v,o,ho,hd⟩:=I.cell x c e
  exact free c o (fun z=>(hch c z).2.2.1 x c e rfl) ho (I.freeC x c e)
 ·obtain ⟨e,n,ne,nf,d⟩:=I.pin p hp
  have nch:p.1 ∉ ch:=fun z=>(hch p.1 z).2.2.2 p hp rfl
  exact ⟨keep p.1 p.2 ne nf nch e n,free p.1 p.2 nch e n,ne,nf,d⟩
theorem Inv.un {t':Nat} (I:Inv X pins σ H s) (u:Un X.fs [] H H' s.heap h') (hok:HOk X.prog X.w H' h'):Inv X pins σ H' { s with heap:=h',toks:=t' }:=by
 obtain ⟨m,⟨o,es,ep,ho,r⟩,_⟩:=id I.loc
 obtain ⟨sl,hL⟩:=u.any ho I.free (by simp)
 exact I.step (g':=s.gens) (d':=s.drawn) (ch:=[]) (fun _ z=>nomatch z) (fun b o _ hb _ e n=>u.keep b o e n hb (by simp)) (fun b o _ hb _ e n=>u.slot b o e n hb (by simp)) (fun b o _ e n=>u.free b o e n (by simp)) (fun b o _ e=>u.there b o e (by simp)) u.tups u.frzs u.tbls (fun m' hm=>by
  obtain ⟨o',es',ep',ho',r'⟩:=hm
  rw [ho] at ho'; cases ho'
  exact ⟨_,es',ep',hL,r'⟩) hok I.bare
theorem Inv.call {g':Array GenState} {t':Nat} {d':Drawn} {ch:List Addr} (I:Inv X pins σ H s) (u:Un (frs X.stack) ch H H' s.heap h') (hok:HOk X.prog X.w H' h') (hg:AllBare g')
  (hch:∀ b ∈ ch,(b ∈ X.ex \/ X.s₀.heap.objs.size <= b) /\ b ≠ X.env.locals /\ (∀ x c,X.env.cells.lookup x = some c -> c ≠ b) /\ ∀ p ∈ X.pn ++ pins,p.1 ≠ b) :
  Inv X pins σ H' { s with heap:=h',gens:=g',drawn:=d',toks:=t' }:=by
 obtain ⟨m,⟨o,es,ep,ho,r⟩,_⟩:=id I.loc
 obtain ⟨sl,hL⟩:=u.any ho I.free fun z=>(hch _ z).2.1 rfl
 exact I.step (ch:=ch) hch (fun b o hL hb hc e n=>u.keep b o e n (fun z=>(List.mem_cons.mp (I.stkSub b z)).elim hL hb) hc) (fun b o _ _ hc e n=>u.any e n hc) (fun b o hc e n=>u.free b o e n hc) (fun b o hc e=>u.there b o e hc) u.tups u.frzs u.tbls (fun m' hm=>by
  obtain ⟨o',es',ep',ho',r'⟩:=hm
  rw [ho] at ho'; cases ho'
  exact ⟨_,es',ep',hL,r'⟩) hok hg
theorem Inv.turned {t':Nat} {it:Addr} (I:Inv X pins σ H s) (k:∀ b o,b ≠ it -> s.heap.get? b = some o -> h'.get? b = some o) (hn:H it = none) (hL:it ≠ X.env.locals)
  (h1:it ∈ X.ex \/ X.s₀.heap.objs.size <= it) (h2:∀ x c,X.env.cells.lookup x = some c -> c ≠ it) (h3:∀ p ∈ X.pn ++ pins,p.1 ≠ it):Inv X pins σ H { s with heap:=h',toks:=t' }:=by
 have nit:∀ b u,H b = some u -> b ≠ it:=fun b u e z=>by rw [z,hn] at e; cases e
 refine I.step (g':=s.gens) (d':=s.drawn) (ch:=[it]) (fun b hb=>?_) (fun b o _ _ hc e _=>k b o (fun z=>hc (by simp [z])) e) (fun b o _ _ hc e _=>⟨o.slots,k b o (fun z=>hc (by simp [z])) e⟩) (fun _ _ _ _ n=>n)
  (fun b o hc e=>⟨o,k b o (fun z=>hc (by simp [z])) e⟩) (fun _ _ e=>e) (fun _ _ _ e=>e) (fun b ps e=>⟨#[],by rw [e]; simp⟩) (fun m hm=>?_) (fun b u e=>?_) I.bare
 ·have e:b = it:=by simpa using hb
  subst e
  exact ⟨h1,hL,h2,h3⟩
 ·obtain ⟨o,es,ep,ho,r⟩:=hm
  exact ⟨o,es,ep,k _ o (Ne.symm hL) ho,r⟩
 ·refine (I.hok b u e).stay (fun c v hc q=>k c v ?_ q) (fun _ q=>q) fun _ _ q=>q
  rcases hc with z | z
  ·rw [z]; exact nit b u e
  ·exact nit c _ z
theorem Inv.tok (I:Inv X pins σ H s) (t:Nat):Inv X pins σ H { s with toks:=t }:=I.un (h':=s.heap) (t':=t) Un.refl I.hok
theorem Inv.kept {t':Nat} (I:Inv X pins σ H s) (k:∀ b u,s.heap.get? b = some u -> h'.get? b = some u):Inv X pins σ H { s with heap:=h',toks:=t' }:=I.un (Un.kept k) (I.hok.kept k)
theorem Inv.laid {a:Addr} {o:HO} {t':Nat} (I:Inv X pins σ H s) (k:∀ b u,s.heap.get? b = some u -> h'.get? b = some u) (hp:s.heap.objs.size <= a) (new:ObjOk X.prog X.w (upd H a o) h' a o) :
  Inv X pins σ (upd H a o) { s with heap:=h',toks:=t' }:=I.un (Un.laid k hp (I.hok.fresh hp)) (I.hok.laid k hp new)
theorem Inv.write {x e:Addr} {o:HO} {t':Nat} (I:Inv X pins σ H s) (mu:Mut (H x)) (he:e = x \/ H e = some (.own x)) (k:∀ b u,b ≠ e -> s.heap.get? b = some u -> h'.get? b = some u) (heo:∃ u,h'.get? e = some u)
  (new:ObjOk X.prog X.w (upd H x o) h' x o):Inv X pins σ (upd H x o) { s with heap:=h',toks:=t' }:=I.un (Un.write mu he k heo) (I.hok.write mu he k heo new)
theorem Inv.pins_of {pins':List (Addr × Obj)} (I:Inv X pins σ H s) (h:∀ p ∈ pins',s.heap.get? p.1 = some p.2 /\ H p.1 = none /\ p.1 ≠ X.env.locals /\ p.1 ∉ X.fs /\ ∀ v,p.2.data ≠ .cell v):Inv X pins' σ H s:=
 ⟨I.ok,I.os,I.bare,I.base,I.loc,I.cell,I.free,I.freeC,fun p hp=>(List.mem_append.mp hp).elim (fun z=>I.pin p (List.mem_append_left _ z)) (h p),I.hok,I.len⟩
theorem Jeq {N:List Str} (hN:N.Nodup) {i j:Nat} {x:Str} (a:N[i]? = some x) (b:N[j]? = some x):i = j:=by
 obtain ⟨h1,e1⟩:=List.getElem?_eq_some_iff.mp a
 obtain ⟨h2,e2⟩:=List.getElem?_eq_some_iff.mp b
 exact (List.getElem_inj hN).mp (e1.trans e2.symm)
theorem JcO {M:Model} {A:Around} {E:Value -> Shared -> Prop} {i:Nat} {x:Str} {v:V} {u:Value} {Q:Unit -> Shared -> Prop} (I:Inv X pins σ H s) (hN:X.N.Nodup) (hi:X.N[i]? = some x) (hx:Loc X.env.scope x) (r:RelV v u)
  (h:∀ s',Inv X pins (σ.set i (some v)) H s' -> (∃ a,Heap.SameBut a s.heap s'.heap /\ (a = X.env.locals \/ X.env.cells.lookup x = some a)) -> Q () s') (hf:X.fn x = true \/ X.env.scope.names.lookup x = some .local:=by first | exact .inl rfl | exact .inr rfl | assumption):wpAny M A (storeName X.env x u) Q E s:=by
 obtain ⟨m,hn,hl⟩:=id I.loc
 have hcls:(X.env.scope.kind == .class || (X.env.scope.kind == .module && X.env.locals != X.env.globals)) = false:=by rw [I.ok.kind]; rfl
 have hiσ:i < σ.length:=by rw [I.len]; exact (List.getElem?_eq_some_iff.mp hi).1
 have cne:=I.cne
 have tracked:∀ {a:Addr} {h':Heap},(∃ o,s.heap.get? a = some o /\ H a = none) -> Heap.SameBut a s.heap h' -> HOk X.prog X.w H h':=fun {a h'} ha hs b ob e=>by
  obtain ⟨_,_,hfree⟩:=ha
  refine (I.hok b ob e).stay (fun c w' hc q=>(hs.2 c ?_).trans q) (fun _ q=>q) fun _ _ q=>q
  rintro rfl
  rcases hc with rfl | hc
  ·rw [hfree] at e; cases e
  ·rw [hfree] at hc; cases hc
 rcases hx with hk | hk
 ·refine wpAny_storeName_local hk hn (fun h' hn' hs=>?_) hcls
  obtain ⟨oL,_,_,hoL,_⟩:=id hn
  refine h _ ⟨I.ok,I.os,I.bare,⟨fun b o e n hb hx=>?_,fun b o e n hb hx=>?_,I.base.free,fun b o e hx=>?_,I.base.tups,I.base.frzs,I.base.tbls⟩,⟨_,hn',fun j y v' e1 e2 e3=>?_⟩,fun y c e=>?_,I.free,I.freeC,fun p hp=>?_,tracked ⟨oL,hoL,I.free⟩ hs,by simpa using I.len⟩ ⟨_,hs,.inl rfl⟩
  ·exact (hs.2 b (Nat.ne_of_lt (Nat.lt_of_lt_of_le (Heap.lt_size e) I.ok.above))).trans (I.base.keep b o e n hb hx)
  ·obtain ⟨sl,e1⟩:=I.base.slot b o e n hb hx
   exact ⟨sl,(hs.2 b (Nat.ne_of_lt (Nat.lt_of_lt_of_le (Heap.lt_size e) I.ok.above))).trans e1⟩
  ·obtain ⟨o',e1⟩:=I.base.there b o e hx
   exact ⟨o',(hs.2 b (Nat.ne_of_lt (Nat.lt_of_lt_of_le (Heap.lt_size e) I.ok.above))).trans e1⟩
  ·by_cases hj:j = i
   ·subst hj
    rw [hi] at e1; cases e1
    rw [List.getElem?_set_self hiσ] at e2
    cases e2
    exact ⟨u,r,.inl ⟨hk,by simp⟩⟩
   ·rw [List.getElem?_set_ne (Ne.symm hj)] at e2
    obtain ⟨u',r',q⟩:=hl j y v' e1 e2 e3
    refine ⟨u',r',?_⟩
    rcases q with ⟨k,e⟩ | ⟨k,c,e,z⟩
    ·refine .inl ⟨k,?_⟩
     have:y ≠ x:=fun e=>hj (Jeq hN e1 (e ▸ hi))
     simp [this,e]
    ·exact .inr ⟨k,c,e,z.sameBut hs (cne y c e)⟩
  ·obtain ⟨w',z⟩:=I.cell y c e
   exact ⟨w',z.sameBut hs (cne y c e)⟩
  ·obtain ⟨e,n,ne,nf,d⟩:=I.pin p hp
   exact ⟨(hs.2 p.1 ne).trans e,n,ne,nf,d⟩
 ·have hfn:X.fn x = true:=by
   rcases hf with z | z
   ·exact z
   ·rw [z] at hk; cases hk
  obtain ⟨c,hc⟩:=I.ok.has x (.inl hk)
  obtain ⟨w',z⟩:=I.cell x c hc
  refine wpAny_storeName_cell I.ok.kind hk hc z (fun h' hc' hs=>?_)
  obtain ⟨oc,hoc,hocd⟩:=id z
  refine h { s with heap:=h' } ⟨I.ok,I.os,I.bare,⟨fun b o e n hb hx=>?_,fun b o e n hb hx=>?_,I.base.free,fun b o e hx=>?_,I.base.tups,I.base.frzs,I.base.tbls⟩,⟨m,hn.sameBut hs (Ne.symm (cne x c hc)),fun j y v' e1 e2 e3=>?_⟩,fun y c' e=>?_,I.free,I.freeC,fun p hp=>?_,tracked ⟨oc,hoc,I.freeC x c hc⟩ hs,by simpa using I.len⟩ ⟨c,hs,.inr hc⟩
  ·exact (hs.2 b (Nat.ne_of_lt (Nat.lt_of_lt_of_le (Heap.lt_size e) (I.ok.cab x c hfn hc)))).trans (I.base.keep b o e n hb hx)
  ·obtain ⟨sl,e1⟩:=I.base.slot b o e n hb hx
   exact ⟨sl,(hs.2 b (Nat.ne_of_lt (Nat.lt_of_lt_of_le (Heap.lt_size e) (I.ok.cab x c hfn hc)))).trans e1⟩
  ·obtain ⟨o',e1⟩:=I.base.there b o e hx
   exact ⟨o',(hs.2 b (Nat.ne_of_lt (Nat.lt_of_lt_of_le (Heap.lt_size e) (I.ok.cab x c hfn hc)))).trans e1⟩
  ·by_cases hj:j = i
   ·subst hj
    rw [hi] at e1; cases e1
    rw [List.getElem?_set_self hiσ] at e2
    cases e2
    exact ⟨u,r,.inr ⟨.inl hk,c,hc,hc'⟩⟩
   ·rw [List.getElem?_set_ne (Ne.symm hj)] at e2
    obtain ⟨u',r',q⟩:=hl j y v' e1 e2 e3
    refine ⟨u',r',?_⟩
    rcases q with q | ⟨k,c',e,z'⟩
    ·exact .inl q
    ·refine .inr ⟨k,c',e,z'.sameBut hs ?_⟩
     rintro rfl
     exact hj (Jeq hN e1 (I.ok.inj _ _ _ e hc ▸ hi))
  ·by_cases hcc:c' = c
   ·subst hcc; exact ⟨_,hc'⟩
   ·obtain ⟨w2,z2⟩:=I.cell y c' e
    exact ⟨w2,z2.sameBut hs hcc⟩
  ·obtain ⟨e,n,ne,nf,d⟩:=I.pin p hp
   refine ⟨(hs.2 p.1 ?_).trans e,n,ne,nf,d⟩
   intro q
   rw [q,hoc] at e
   have q':oc = p.2:=Option.some.inj e
   exact d w' (by rw [<- q']; exact hocd)
theorem JR {M:Model} {A:Around} {E:Value -> Shared -> Prop} {i:Nat} {x:Str} {v:V} {u:Value} {Q:Unit -> Shared -> Prop} (I:Inv X pins σ H s) (hN:X.N.Nodup) (hi:X.N[i]? = some x) (hx:Loc X.env.scope x) (r:RelV v u)
  (h:∀ s',Inv X pins (σ.set i (some v)) H s' -> Q () s') (hf:X.fn x = true \/ X.env.scope.names.lookup x = some .local:=by first | exact .inl rfl | exact .inr rfl | assumption):wpAny M A (storeName X.env x u) Q E s:=
 JcO I hN hi hx r (fun s' I' _=>h s' I') hf
theorem Inv.call' {s':Shared} {ch:List Addr} (I:Inv X pins σ H s) (ho:s'.os = s.os) (u:Un (frs X.stack) ch H H' s.heap s'.heap) (hok:HOk X.prog X.w H' s'.heap) (hg:AllBare s'.gens)
  (hch:∀ b ∈ ch,(b ∈ X.ex \/ X.s₀.heap.objs.size <= b) /\ b ≠ X.env.locals /\ (∀ x c,X.env.cells.lookup x = some c -> c ≠ b) /\ ∀ p ∈ X.pn ++ pins,p.1 ≠ b):Inv X pins σ H' s':=by
 obtain ⟨h',g',d',t',o'⟩:=s'
 have e:o' = s.os:=ho
 subst e
 exact I.call (g':=g') (t':=t') (d':=d') u hok hg hch
end
abbrev XK:=Value -> Option Addr -> Hp -> Prop
abbrev St:=List (Option V)
abbrev VK:=V -> Hp -> Prop
abbrev TE:=St -> Hp -> VK -> Prop
abbrev TT:=St -> Hp -> (Bool -> Hp -> Prop) -> Prop
abbrev TA:=St -> Hp -> (List V -> Hp -> Prop) -> Prop
structure Ends where
 nx:St -> Hp -> Prop
 rt:VK
 bk:St -> Hp -> Prop:=fun _ _=>False
 ct:St -> Hp -> Prop:=fun _ _=>False
abbrev TS:=Ends -> St -> Hp -> Prop
def EP (X:Cx) (pins:List (Addr × Obj)) (σ:St) (Q:VK) (u:Value) (s':Shared):Prop:=∃ v H',Inv X pins σ H' s' /\ RelV v u /\ Q v H'
def TP (X:Cx) (pins:List (Addr × Obj)) (σ:St) (Q:Bool -> Hp -> Prop) (b:Bool) (s':Shared):Prop:=∃ H',Inv X pins σ H' s' /\ Q b H'
def AP (X:Cx) (pins:List (Addr × Obj)) (σ:St) (Q:List V -> Hp -> Prop) (us:List Value) (s':Shared):Prop:=∃ vs H',Inv X pins σ H' s' /\ Vals vs us /\ Q vs H'
def SP (X:Cx) (pins:List (Addr × Obj)) (D:Ends) (f:Flow) (s':Shared):Prop:=
 match f with
 | .next=>∃ σ' H',Inv X pins σ' H' s' /\ D.nx σ' H'
 | .brk=>∃ σ' H',Inv X pins σ' H' s' /\ D.bk σ' H'
 | .cont=>∃ σ' H',Inv X pins σ' H' s' /\ D.ct σ' H'
 | .ret u=>∃ v σ' H',Inv X pins σ' H' s' /\ RelV v u /\ D.rt v H'
def PE (X:Cx) (e:Expr) (t:TE):Prop:=
 ∀ (pins:List (Addr × Obj)) (s:Shared) (σ:St) (H:Hp) (Q:VK),Inv X pins σ H s -> t σ H Q -> wpAny (model X.prog X.w) X.A (eval e X.env) (EP X pins σ Q) X.xe s
def PT (X:Cx) (e:Expr) (t:TT):Prop:=
 ∀ (pins:List (Addr × Obj)) (s:Shared) (σ:St) (H:Hp) (Q:Bool -> Hp -> Prop),Inv X pins σ H s -> t σ H Q -> wpAny (model X.prog X.w) X.A (isTrue e X.env (eval e X.env)) (TP X pins σ Q) X.xe s
def PW (X:Cx) (e:Expr) (t:TT):Prop:=
 ∀ (whole:Sem Value) (pins:List (Addr × Obj)) (s:Shared) (σ:St) (H:Hp) (Q:Bool -> Hp -> Prop),Inv X pins σ H s -> t σ H Q -> wpAny (model X.prog X.w) X.A (isTrue e X.env whole) (TP X pins σ Q) X.xe s
theorem PW.pt {X:Cx} {e:Expr} {t:TT} (h:PW X e t):PT X e t:=h _
def PA (X:Cx) (es:List Expr) (t:TA):Prop:=
 ∀ (pos:Pos) (pins:List (Addr × Obj)) (s:Shared) (σ:St) (H:Hp) (Q:List V -> Hp -> Prop),Inv X pins σ H s -> t σ H Q -> wpAny (model X.prog X.w) X.A (spliced (backTo pos (starEach es X.env))) (AP X pins σ Q) X.xe s
def PS (X:Cx) (st:Stmt) (t:TS):Prop:=
 ∀ (pins:List (Addr × Obj)) (s:Shared) (σ:St) (H:Hp) (D:Ends),Inv X pins σ H s -> t D σ H -> wpAny (model X.prog X.w) X.A (exec st X.env) (SP X pins D) X.xe s
def PSs (X:Cx) (st:List Stmt) (t:TS):Prop:=
 ∀ (pins:List (Addr × Obj)) (s:Shared) (σ:St) (H:Hp) (D:Ends),Inv X pins σ H s -> t D σ H -> wpAny (model X.prog X.w) X.A (execs st X.env) (SP X pins D) X.xe s
theorem thn {α:Type} {t:Sem α} {Q Q':α -> Shared -> Prop} {M:Model} {A:Around} {E:Value -> Shared -> Prop} {s:Shared} (h:wpAny M A t Q E s) (hQ:∀ a s,Q a s -> Q' a s):wpAny M A t Q' E s:=wpAny_mono h hQ fun _ _ x=>x
end L2
namespace L2
open PySem PySem.Spec PyProof.Rows
section
variable {X:Cx}
theorem bin {a b:Expr} {ta tb:TE} (ha:PE X a ta) (hb:PE X b tb) {pins:List (Addr × Obj)} {s:Shared} {σ:St} {H:Hp} {R:V -> V -> Hp -> Prop} (I:Inv X pins σ H s) (h:ta σ H fun x H1=>tb σ H1 fun y H2=>R x y H2)
  {α:Type} {Q:α -> Shared -> Prop} {f:Value -> Value -> Sem α}
  (hf:∀ v u s2 x y H2,Inv X pins σ H2 s2 -> RelV x v -> RelV y u -> R x y H2 -> wpAny (model X.prog X.w) X.A (f v u) Q X.xe s2) :
  wpAny (model X.prog X.w) X.A (eval a X.env) (fun v s₁=>wpAny (model X.prog X.w) X.A (eval b X.env) (fun u s₂=>wpAny (model X.prog X.w) X.A (f v u) Q X.xe s₂) X.xe s₁) X.xe s:=by
 refine thn (ha pins s σ H _ I h) fun v s1 ⟨x,H1,I1,r1,q1⟩=>?_
 refine thn (hb pins s1 σ H1 _ I1 q1) fun u s2 ⟨y,H2,I2,r2,q2⟩=>?_
 exact hf v u s2 x y H2 I2 r1 r2 q2
def tVar (i:Nat):TE:=fun σ H Q=>∃ v,σ[i]? = some (some v) /\ Q v H
def tC (v:V):TE:=fun _ H Q=>Q v H
theorem JbF {i:Nat} {x:Str} {pos:Pos} (hN:X.N[i]? = some x) (hv:Vis X.env.scope x) (hd:(x == ("__debug__" : Str)) = false:=by decide) (hcd:(x == ("__classdict__" : Str)) = false:=by decide):PE X (.Name x pos) (tVar i):=by
 intro pins s σ H Q I h
 obtain ⟨v,e,h⟩:=h
 obtain ⟨m,hn,hl⟩:=I.loc
 obtain ⟨u,r,l⟩:=hl i x v hN e hv
 have fin:EP X pins σ Q u s:=⟨v,H,I,r,h⟩
 rcases l with ⟨hk,hm⟩ | ⟨hk,c,hc,hcell⟩
 ·exact wpAny_Name (wpAny_loadName_local I.ok.kind hk hn hm fin) hd
 ·rcases hk with hk | hk
  ·exact wpAny_Name (wpAny_loadName_cell I.ok.kind hk hc hcell fin) hd
  ·exact wpAny_Name (wpAny_loadName_free I.ok.kind hk hc hcell fin hcd) hd
theorem JjS {i j pos}:PE X (.Constant (.int i) j pos) (tC (.int i)):=fun _ _ _ H _ I h=>wpAny_Constant_int ⟨.int i,H,I.tok _,⟨_,rfl⟩,h⟩
theorem pe_bl {b j pos}:PE X (.Constant (.bool b) j pos) (tC (.bl b)):=fun _ _ _ H _ I h=>Constant_bool ⟨.bl b,H,I,rfl,h⟩
theorem Jmy {j pos}:PE X (.Constant .none j pos) (tC .non):=fun _ _ _ H _ I h=>Constant_none ⟨.non,H,I,rfl,h⟩
theorem Jmr {x j pos}:PE X (.Constant (.str x) j pos) (tC (.str x)):=fun _ _ _ H _ I h=>Calls.Constant_str ⟨.str x,H,I.tok _,⟨_,rfl⟩,h⟩
def Gl (X:Cx) (x:Str):Prop:=X.env.kindOf x = some .globalImplicit
theorem JhO {E:Value -> Shared -> Prop} {pins:List (Addr × Obj)} {s:Shared} {σ:St} {H:Hp} {x:Str} {u:Value} {pos:Pos} {Q:Value -> Shared -> Prop} (I:Inv X pins σ H s) (hg:Gl X x) (hm:X.mg x = some u) (h:Q u s)
  (hd:(x == ("__debug__" : Str)) = false:=by decide):wpAny (model X.prog X.w) X.A (eval (.Name x pos) X.env) Q E s:=
 Calls.Name_function_global I.ok.kind hg (Calls.loadGlobal_global (by rw [I.ok.glob]; exact I.mod.glob.keeps I.bk) hm h) hd
theorem JbG {E:Value -> Shared -> Prop} {pins:List (Addr × Obj)} {s:Shared} {σ:St} {H:Hp} {x:Str} {u:Value} {pos:Pos} {Q:Value -> Shared -> Prop} (I:Inv X pins σ H s) (hg:Gl X x) (hm:X.mg x = none) (hv:bootBuiltins x = some u) (h:Q u s)
  (hn:x ≠ "__name__":=by decide) (hd:(x == ("__debug__" : Str)) = false:=by decide):wpAny (model X.prog X.w) X.A (eval (.Name x pos) X.env) Q E s:=by
 obtain ⟨mb,h1,h2⟩:=I.mod.blt
 exact Calls.Name_function_global I.ok.kind hg (Calls.loadGlobal_builtin (by rw [I.ok.glob]; exact I.mod.glob.keeps I.bk) hm (by rw [I.ok.blt]; exact h1.keeps I.bk) ((h2 x hn).trans hv) h) hd
theorem JkS {x:Str} {v:V} {u:Value} {pos:Pos} (hg:Gl X x) (hm:X.mg x = some u) (r:RelV v u) (hd:(x == ("__debug__" : Str)) = false:=by decide):PE X (.Name x pos) (tC v):=
 fun _ _ _ H _ I h=>JhO I hg hm ⟨v,H,I,r,h⟩ hd
def t2I (ta tb:TE) (k:Int -> Int -> Hp -> Prop):St -> Hp -> Prop:=fun σ H=>ta σ H fun x H1=>tb σ H1 fun y H2=>∃ i j,x = .int i /\ y = .int j /\ k i j H2
variable {a b:Expr} {ta tb:TE} {pos:Pos}
def PC (X:Cx) (op:CmpOp) (a b:Expr) (t:TE):Prop:=
 ∀ (pins:List (Addr × Obj)) (s:Shared) (σ:St) (H:Hp) (Q:VK),Inv X pins σ H s -> t σ H Q ->
  wpAny (model X.prog X.w) X.A (eval a X.env) (fun v s₁=>wpAny (model X.prog X.w) X.A (eval b X.env) (fun u s₂=>wpAny (model X.prog X.w) X.A (compareOp op v u) (EP X pins σ Q) X.xe s₂) X.xe s₁) X.xe s
theorem JjH (b:Expr) {op:CmpOp} (h:op ≠ .In) (h2:op ≠ .NotIn):behindInMarks op b = false:=by
 have e1:(op == CmpOp.In) = false:=by cases op <;> first | rfl | exact absurd rfl h
 have e2:(op == CmpOp.NotIn) = false:=by cases op <;> first | rfl | exact absurd rfl h2
 cases b <;> simp [behindInMarks,e1,e2]
def tCmp (p:Int -> Int -> Bool) (ta tb:TE):TE:=fun σ H Q=>t2I ta tb (fun i j H2=>Q (.bl (p i j)) H2) σ H
abbrev tLt:TE -> TE -> TE:=tCmp fun i j=>decide (i < j)
abbrev tGt:TE -> TE -> TE:=tCmp fun i j=>decide (j < i)
abbrev tGe:TE -> TE -> TE:=tCmp fun i j=>decide (j <= i)
def tIsN (ta:TE):TE:=fun σ H Q=>ta σ H fun x H1=>Q (.bl (decide (x = .non))) H1
def tNotN (ta:TE):TE:=fun σ H Q=>ta σ H fun x H1=>Q (.bl (!decide (x = .non))) H1
theorem RelV.none_iff {x:V} {v:Value} (r:RelV x v):(v == Value.none) = decide (x = .non):=by
 cases x with
 | non=>cases r; rfl
 | bl _=>cases r; rfl
 | int _=>obtain ⟨t,rfl⟩:=r; rfl
 | str _=>obtain ⟨t,rfl⟩:=r; rfl
 | byt _=>obtain ⟨t,rfl⟩:=r; rfl
 | flt _=>obtain ⟨t,rfl⟩:=r; rfl
 | ref _=>cases r; rfl
 | ty _=>cases r; rfl
theorem Jom {j pos'} (ha:PE X a ta):PC X .Is a (.Constant .none j pos') (tIsN ta):=by
 intro pins s σ H Q I h
 refine thn (ha pins s σ H _ I h) fun v s1 ⟨x,H1,I1,r1,q1⟩=>?_
 exact Constant_none (is_none_gen ⟨.bl _,H1,I1,by rw [r1.none_iff]; rfl,q1⟩)
theorem JkP {j pos'} (ha:PE X a ta):PC X .IsNot a (.Constant .none j pos') (tNotN ta):=by
 intro pins s σ H Q I h
 refine thn (ha pins s σ H _ I h) fun v s1 ⟨x,H1,I1,r1,q1⟩=>?_
 exact Constant_none (isnot_none_gen ⟨.bl _,H1,I1,by rw [r1.none_iff]; rfl,q1⟩)
def tB (t:TE):TT:=fun σ H Q=>t σ H fun x H1=>∃ c,x = .bl c /\ Q c H1
theorem Jka {op:CmpOp} {t:TE} (h:PC X op a b t) (h1:behindInMarks op b = false:=by first | exact JjH _ (by decide) (by decide) | rfl):PT X (.Compare a [op] [b] pos) (tB t):=by
 intro pins s σ H Q I hw
 refine wpAny_isTrue_Compare1 (thn (h pins s σ H _ I hw) fun v s1 h1=>thn h1 fun u s2 h2=>thn h2 fun c s3 ⟨x,H1,I1,r1,q1⟩=>?_) h1
 obtain ⟨d,rfl,q⟩:=q1
 cases r1
 exact wpAny_truthy_bool ⟨H1,I1,q⟩
variable {tA tB':TT} {rest:List Expr}
def tAnd (t u:TT):TT:=fun σ H Q=>t σ H fun c H1=>if c = true then u σ H1 Q else Q false H1
def tOr (t u:TT):TT:=fun σ H Q=>t σ H fun c H1=>if c = true then Q true H1 else u σ H1 Q
def tNot (t:TT):TT:=fun σ H Q=>t σ H fun c H1=>Q (!c) H1
theorem Jky (ha:PT X a tA):PW X (.BoolOp .And [a] pos) tA:=by
 intro wh pins s σ H Q I h
 refine isTrue_and (thn (ha pins s σ H Q I h) fun c s1 e=>?_)
 cases c with
 | true=>exact isTrue_and_nil e
 | false=>exact e
theorem Jnf (ha:PT X a tA):PW X (.BoolOp .Or [a] pos) tA:=by
 intro wh pins s σ H Q I h
 refine isTrue_or (thn (ha pins s σ H Q I h) fun c s1 e=>?_)
 cases c with
 | false=>exact isTrue_or_nil e
 | true=>exact e
theorem Jmv (ha:PT X a tA) (hb:PW X (.BoolOp .And (b :: rest) pos) tB'):PW X (.BoolOp .And (a :: b :: rest) pos) (tAnd tA tB'):=by
 intro wh pins s σ H Q I h
 refine isTrue_and (thn (ha pins s σ H _ I h) fun c s1 ⟨H1,I1,q1⟩=>?_)
 cases c with
 | true=>exact hb wh pins s1 σ H1 Q I1 q1
 | false=>exact ⟨H1,I1,q1⟩
theorem pw_or (ha:PT X a tA) (hb:PW X (.BoolOp .Or (b :: rest) pos) tB'):PW X (.BoolOp .Or (a :: b :: rest) pos) (tOr tA tB'):=by
 intro wh pins s σ H Q I h
 refine isTrue_or (thn (ha pins s σ H _ I h) fun c s1 ⟨H1,I1,q1⟩=>?_)
 cases c with
 | true=>exact ⟨H1,I1,q1⟩
 | false=>exact hb wh pins s1 σ H1 Q I1 q1
theorem JnL (ha:PT X a tA):PT X (.UnaryOp .Not a pos) (tNot tA):=by
 intro pins s σ H Q I h
 exact isTrue_not (ha pins s σ H (fun c H1=>Q (!c) H1) I h)
def tAndV (ta tb:TE):TE:=fun σ H Q=>ta σ H fun x H1=>∃ c,x = .bl c /\ if c = true then tb σ H1 Q else Q (.bl false) H1
def tOrV (ta tb:TE):TE:=fun σ H Q=>ta σ H fun x H1=>∃ c,x = .bl c /\ if c = true then Q (.bl true) H1 else tb σ H1 Q
def tNotV (ta:TE):TE:=fun σ H Q=>ta σ H fun x H1=>∃ c,x = .bl c /\ Q (.bl (!c)) H1
theorem JmG {op} {t:TE} (h:PE X a t):PE X (.BoolOp op [a] pos) t:=fun pins s σ H Q I hw=>BoolOp_one (h pins s σ H Q I hw)
theorem Jnq (ha:PE X a ta) (hb:PE X (.BoolOp .And (b :: rest) pos) tb):PE X (.BoolOp .And (a :: b :: rest) pos) (tAndV ta tb):=by
 intro pins s σ H Q I h
 refine BoolOp_and (thn (ha pins s σ H _ I h) fun v s1 ⟨x,H1,I1,r1,q1⟩=>?_)
 obtain ⟨c,rfl,q1⟩:=q1
 cases r1
 refine wpAny_truthy_bool ?_
 cases c with
 | true=>exact hb pins s1 σ H1 Q I1 q1
 | false=>exact ⟨.bl false,H1,I1,rfl,q1⟩
theorem pe_or (ha:PE X a ta) (hb:PE X (.BoolOp .Or (b :: rest) pos) tb):PE X (.BoolOp .Or (a :: b :: rest) pos) (tOrV ta tb):=by
 intro pins s σ H Q I h
 refine BoolOp_or (thn (ha pins s σ H _ I h) fun v s1 ⟨x,H1,I1,r1,q1⟩=>?_)
 obtain ⟨c,rfl,q1⟩:=q1
 cases r1
 refine wpAny_truthy_bool ?_
 cases c with
 | false=>exact hb pins s1 σ H1 Q I1 q1
 | true=>exact ⟨.bl true,H1,I1,rfl,q1⟩
theorem Jnw (ha:PE X a ta):PE X (.UnaryOp .Not a pos) (tNotV ta):=by
 intro pins s σ H Q I h
 refine UnaryOp_ (thn (ha pins s σ H _ I h) fun v s1 ⟨x,H1,I1,r1,q1⟩=>?_)
 obtain ⟨c,rfl,q1⟩:=q1
 cases r1
 exact not_of (wpAny_truthy_bool ⟨.bl (!c),H1,I1,rfl,q1⟩)
def tIf (t:TT) (ta tb:TE):TE:=fun σ H Q=>t σ H fun c H1=>if c = true then ta σ H1 Q else tb σ H1 Q
theorem Jji {c:Expr} (hc:PT X c tA) (ha:PE X a ta) (hb:PE X b tb):PE X (.IfExp c a b pos) (tIf tA ta tb):=by
 intro pins s σ H Q I h
 refine wpAny_IfExp (thn (hc pins s σ H _ I h) fun d s1 ⟨H1,I1,q1⟩=>?_)
 cases d with
 | true=>exact ha pins s1 σ H1 Q I1 q1
 | false=>exact hb pins s1 σ H1 Q I1 q1
end
end L2
namespace L2
open PySem PySem.Spec PyProof.Rows
def SqL (K:PySem.W.Frag) (H:Hp) (a:Addr) (xs:List V):Prop:=
 Rd H a (.lst xs) \/
  ∃ (o:Obj) (its:Array Value) (n:Nat),K.lookup a = some o /\ o.cls = .type "list" /\ o.dict = none /\ o.data = .seq its n /\ its.size <= sizeLine /\ Vals xs its.toList
def ModT (K:PySem.W.Frag) (y:Str) (a:Addr):Prop:=PySem.W.nsIn K mainGlobals y = some (some (.ref a)) \/
 ∃ (b:Addr) (o:Obj) (its:Array Value) (n:Nat),PySem.W.nsIn K mainGlobals y = some (some (.ref b)) /\ K.lookup b = some o /\ o.cls = .type "tuple" /\ o.data = .seq its n /\ Value.ref a ∈ its.toList
def SqT (K:PySem.W.Frag) (H:Hp) (a:Addr) (xs:List V):Prop:=
 H a = some (.tup xs) \/
  ∃ (y:Str) (o:Obj) (its:Array Value) (n:Nat),ModT K y a /\ K.lookup a = some o /\ o.cls = .type "tuple" /\ o.dict = none /\ o.data = .seq its n /\ its.size <= sizeLine /\ Vals xs its.toList
def absV:Value -> Option V
 | .none=>some .non
 | .bool b=>some (.bl b)
 | .int i _=>some (.int i)
 | .str x _=>some (.str x)
 | .bytes b _=>some (.byt b)
 | .float b _=>some (.flt b)
 | .ref a=>some (.ref a)
 | .type n=>some (.ty n)
 | _=>none
theorem RelV.abs {x:V} {u:Value} (r:RelV x u):absV u = some x:=by
 cases x with
 | non=>cases r; rfl
 | bl _=>cases r; rfl
 | int _=>obtain ⟨t,rfl⟩:=r; rfl
 | str _=>obtain ⟨t,rfl⟩:=r; rfl
 | byt _=>obtain ⟨t,rfl⟩:=r; rfl
 | flt _=>obtain ⟨t,rfl⟩:=r; rfl
 | ref _=>cases r; rfl
 | ty _=>cases r; rfl
theorem RelV.inj {x y:V} {u:Value} (r:RelV x u) (q:RelV y u):x = y:=Option.some.inj (r.abs.symm.trans q.abs)
theorem Vals.inj:∀ {xs ys:List V} {us:List Value},Vals xs us -> Vals ys us -> xs = ys
 | _,_,_,.nil,.nil=>rfl
 | _,_,_,.cons r t,.cons r' t'=>by rw [r.inj r',Vals.inj t t']
section
variable {X:Cx} {pins:List (Addr × Obj)} {σ:St} {H:Hp} {s:Shared} {a:Addr} {xs ys:List V}
theorem SqL.of {K:PySem.W.Frag} (h:H a = some (.lst xs)):SqL K H a xs:=.inl (.inl h)
theorem SqT.of {K:PySem.W.Frag} (h:H a = some (.tup xs)):SqT K H a xs:=.inl h
theorem Inv.list (I:Inv X pins σ H s) (h:SqL X.K H a xs):∃ its:List Value,Vals xs its /\ PlainL s.heap a its.toArray /\ xs.length <= sizeLine:=by
 rcases h with h | ⟨o,its,n,hk,hc,hd,hs,hz,r⟩
 ·obtain ⟨z,its,n,r,e⟩:=h.ok I.hok
  exact ⟨its,r,⟨_,n,e,rfl,rfl,rfl⟩,z⟩
 ·refine ⟨its.toList,r,⟨o,n,I.kIn a o hk,hc,hd,by simpa using hs⟩,?_⟩
  have e:=r.length
  simp only [Array.length_toList] at e
  omega
theorem Inv.tuple (I:Inv X pins σ H s) (h:SqT X.K H a xs):∃ its:List Value,Vals xs its /\ IsTup s.heap a its.toArray /\ xs.length <= sizeLine:=by
 rcases h with h | ⟨_,o,its,n,_,hk,hc,_,hs,hz,r⟩
 ·obtain ⟨⟨z,_⟩,its,r,p⟩:=I.hok a _ h
  exact ⟨its,r,p,z⟩
 ·refine ⟨its.toList,r,⟨o,I.kIn a o hk,hc,n,by simpa using hs⟩,?_⟩
  have e:=r.length
  simp only [Array.length_toList] at e
  omega
theorem Inv.list_inj (I:Inv X pins σ H s) (h:SqL X.K H a xs) (h':SqL X.K H a ys):xs = ys:=by
 obtain ⟨its,r,⟨o,n,e,_,_,d⟩,_⟩:=I.list h
 obtain ⟨its',r',⟨o',n',e',_,_,d'⟩,_⟩:=I.list h'
 rw [e] at e'; cases e'
 rw [d] at d'
 injection d' with d1 _
 have:its = its':=by simpa using congrArg Array.toList d1
 subst this
 exact r.inj r'
theorem Inv.tuple_inj (I:Inv X pins σ H s) (h:SqT X.K H a xs) (h':SqT X.K H a ys):xs = ys:=by
 obtain ⟨its,r,⟨o,e,_,n,d⟩,_⟩:=I.tuple h
 obtain ⟨its',r',⟨o',e',_,n',d'⟩,_⟩:=I.tuple h'
 rw [e] at e'; cases e'
 rw [d] at d'
 injection d' with d1 _
 have:its = its':=by simpa using congrArg Array.toList d1
 subst this
 exact r.inj r'
end
section
variable {X:Cx} {pins:List (Addr × Obj)} {σ:St} {H:Hp} {s:Shared} {E:Value -> Shared -> Prop}
end
section
variable {X:Cx} {st:Stmt} {rest:List Stmt} {t u:TS} {e:Expr} {te:TE} {pos:Pos}
def tNext:TS:=fun D σ H=>D.nx σ H
def tSeq (t u:TS):TS:=fun D σ H=>t { D with nx:=u D } σ H
theorem JkR:PSs X [] tNext:=fun _ _ σ H _ I h=>wpAny_execs_nil ⟨σ,H,I,h⟩
theorem Jjz (h1:PS X st t) (h2:PSs X rest u):PSs X (st :: rest) (tSeq t u):=by
 intro pins s σ H D I h
 refine wpAny_execs_cons (thn (h1 pins s σ H { D with nx:=u D } I h) fun f s1 q=>?_)
 cases f with
 | next=>
  obtain ⟨σ',H',I',q⟩:=q
  exact h2 pins s1 σ' H' D I' q
 | ret v=>exact q
 | brk=>exact q
 | cont=>exact q
theorem Jml (h1:PS X st t):PSs X [st] t:=by
 intro pins s σ H D I h
 refine wpAny_execs_cons (thn (h1 pins s σ H D I h) fun f s1 q=>?_)
 cases f with
 | next=>exact wpAny_execs_nil q
 | ret v=>exact q
 | brk=>exact q
 | cont=>exact q
theorem Inv.quiet {pins:List (Addr × Obj)} {σ:St} {H:Hp} {s:Shared} (I:Inv X pins σ H s):interactive X.env = false:=by simp [interactive,I.ok.kind]
def tDrop (te:TE):TS:=fun D σ H=>te σ H fun _ H1=>D.nx σ H1
theorem JgF (he:PE X e te) (hs:swapsWith e none pos.line X.env = pure false:=by rfl):PS X (.Expr e pos) (tDrop te):=by
 intro pins s σ H D I h
 exact wpAny_Expr_any (thn (he pins s σ H _ I h) fun v s1 ⟨x,H1,I1,r1,q1⟩=>⟨σ,H1,I1,q1⟩) I.quiet hs
def tRet (te:TE):TS:=fun D σ H=>te σ H D.rt
theorem Jnr (he:PE X e te):PS X (.Return (some e) pos) (tRet te):=by
 intro pins s σ H D I h
 exact wpAny_Return_some (thn (he pins s σ H _ I h) fun v s1 ⟨x,H1,I1,r1,q1⟩=>⟨x,σ,H1,I1,r1,q1⟩)
def tIfS (c:TT) (t u:TS):TS:=fun D σ H=>c σ H fun b H1=>if b = true then t D σ H1 else u D σ H1
theorem ps_if {c:Expr} {a b:List Stmt} {tc:TT} (hc:PT X c tc) (ha:PSs X a t) (hb:PSs X b u):PS X (.If c a b pos) (tIfS tc t u):=by
 intro pins s σ H D I h
 refine wpAny_If (thn (hc pins s σ H _ I h) fun d s1 ⟨H1,I1,q1⟩=>?_)
 cases d with
 | true=>exact ha pins s1 σ H1 D I1 q1
 | false=>exact hb pins s1 σ H1 D I1 q1
end
abbrev TG:=V -> St -> Hp -> (St -> Hp -> Prop) -> Prop
abbrev TGs:=List V -> St -> Hp -> (St -> Hp -> Prop) -> Prop
def PG (X:Cx) (target:Expr) (t:TG):Prop:=
 ∀ (pins:List (Addr × Obj)) (s:Shared) (σ:St) (H:Hp) (v:V) (u:Value) (Q:St -> Hp -> Prop),Inv X pins σ H s -> RelV v u -> t v σ H Q ->
  wpAny (model X.prog X.w) X.A (assign target X.env u) (fun _ s'=>∃ σ' H',Inv X pins σ' H' s' /\ Q σ' H') X.xe s
def PGs (X:Cx) (ts:List Expr) (t:TGs):Prop:=
 ∀ (pins:List (Addr × Obj)) (s:Shared) (σ:St) (H:Hp) (vs:List V) (us:List Value) (Q:St -> Hp -> Prop),Inv X pins σ H s -> Vals vs us -> t vs σ H Q ->
  wpAny (model X.prog X.w) X.A (assignInOrder ((assignEach ts X.env).map (·.2)) us) (fun _ s'=>∃ σ' H',Inv X pins σ' H' s' /\ Q σ' H') X.xe s
abbrev TIp:=V -> V -> Hp -> VK -> Prop
def PIp (X:Cx) (op:Operator) (t:TIp):Prop:=
 ∀ (pins:List (Addr × Obj)) (s:Shared) (σ:St) (H:Hp) (x y:V) (v u:Value) (Q:VK),Inv X pins σ H s -> RelV x v -> RelV y u -> t x y H Q ->
  wpAny (model X.prog X.w) X.A (inplaceOp op v u) (EP X pins σ Q) X.xe s
section
variable {X:Cx} {pos:Pos}
def gName (i:Nat):TG:=fun v σ H Q=>Q (σ.set i (some v)) H
theorem JI {i:Nat} {x:Str} (hN:X.N.Nodup) (hi:X.N[i]? = some x) (hx:Loc X.env.scope x) (hf:X.fn x = true \/ X.env.scope.names.lookup x = some .local:=by first | exact .inl rfl | exact .inr rfl | assumption):PG X (.Name x pos) (gName i):=by
 intro pins s σ H v u Q I r h
 exact wpAny_assign_Name (JR I hN hi hx r (fun s' I'=>⟨_,H,I',h⟩) hf)
def gNil:TGs:=fun vs σ H Q=>vs = [] /\ Q σ H
def gCons (t:TG) (u:TGs):TGs:=fun vs σ H Q=>∃ v r,vs = v :: r /\ t v σ H fun σ' H'=>u r σ' H' Q
theorem Jec:PGs X [] gNil:=by
 intro pins s σ H vs us Q I r h
 obtain ⟨e,h⟩:=h
 subst e
 cases r
 exact assignInOrder_nil ⟨σ,H,I,h⟩
theorem JJ {e:Expr} {es:List Expr} {t:TG} {u:TGs} (h1:PG X e t) (h2:PGs X es u)
  (hs:(assignEach (e :: es) X.env).map (·.2) = assign e X.env :: (assignEach es X.env).map (·.2):=by rfl):PGs X (e :: es) (gCons t u):=by
 intro pins s σ H vs us Q I r h
 obtain ⟨v,vr,e1,h⟩:=h
 subst e1
 cases r with
 | cons r rr=>
  rw [hs]
  refine assignInOrder_cons (thn (h1 pins s σ H _ _ _ I r h) fun _ s1 ⟨σ1,H1,I1,q1⟩=>?_)
  exact h2 pins s1 σ1 H1 _ _ Q I1 rr q1
def gTup (K:PySem.W.Frag) (n:Nat) (t:TGs):TG:=fun v σ H Q=>∃ a xs,v = .ref a /\ SqT K H a xs /\ xs.length = n /\ t xs σ H Q
theorem Jhp {es:List Expr} {k:Nat} {t:TGs} {n:Nat} (hc:X.calm = true) (h:PGs X es t)
  (hn:(assignEach es X.env).length = n:=by rfl) (hst:(assignEach es X.env).findIdx? (·.1) = none:=by rfl):PG X (.Tuple es k pos) (gTup X.K n t):=by
 intro pins s σ H v u Q I r hw
 obtain ⟨a,xs,e1,hq,hl,hw⟩:=hw
 subst e1
 cases r
 obtain ⟨its,rv,ht,hz⟩:=I.tuple hq
 refine assign_Tuple_tuple (I.ok.hd hc) ht (by simp [hn,<- hl,rv.length]) hst fun h' hx=>?_
 have I1:Inv X pins σ H { s with heap:=h' }:=I.kept (t':=s.toks) fun b o e=>hx b o (Nat.ne_of_lt (Heap.lt_size e)) e
 exact h pins _ σ H xs _ Q I1 (by simpa using rv) hw
def tAsg (te:TE) (g:TG):TS:=fun D σ H=>te σ H fun x H1=>g x σ H1 D.nx
theorem JmN {tg e:Expr} {te:TE} {g:TG} (he:PE X e te) (hg:PG X tg g) (hs:swapsWithSole [tg] e pos.line X.env = pure false:=by rfl) (hw:swappedStores [tg] e X.env = pure none:=by rfl)
  (h1:(assignEach [tg] X.env).map (·.2) = [assign tg X.env]:=by rfl):PS X (.Assign [tg] e pos) (tAsg te g):=by
 intro pins s σ H D I h
 refine wpAny_Assign_stores (thn (he pins s σ H _ I h) fun v s1 ⟨x,H1,I1,r1,q1⟩=>?_) hs hw
 rw [h1]
 exact thn (hg pins s1 σ H1 x v _ I1 r1 q1) fun _ s2 q=>q
theorem Jbd {i:Nat} {x:Str} {e:Expr} {te:TE} {pos':Pos} (hN:X.N.Nodup) (hi:X.N[i]? = some x) (hx:Loc X.env.scope x) (he:PE X e te) (hs:swapsWith e (some (.Name x pos')) pos.line X.env = pure false:=by rfl) (hf:X.fn x = true \/ X.env.scope.names.lookup x = some .local:=by first | exact .inl rfl | exact .inr rfl | assumption) :
  PS X (.Assign [.Name x pos'] e pos) (tAsg te (gName i)):=by
 intro pins s σ H D I h
 refine wpAny_Assign_Name (thn (he pins s σ H _ I h) fun v s1 ⟨y,H1,I1,r1,q1⟩=>?_) hs
 exact JR I1 hN hi hx r1 (fun s2 I2=>⟨_,H1,I2,q1⟩) hf
def tAug (i:Nat) (te:TE) (ti:TIp):TS:=fun D σ H=>∃ x,σ[i]? = some (some x) /\ te σ H fun y H1=>ti x y H1 fun z H2=>D.nx (σ.set i (some z)) H2
theorem Jmo {i:Nat} {x:Str} {e:Expr} {te:TE} {op:Operator} {ti:TIp} {pos':Pos} (hN:X.N.Nodup) (hi:X.N[i]? = some x) (hx:Loc X.env.scope x) (he:PE X e te) (ho:PIp X op ti) (hf:X.fn x = true \/ X.env.scope.names.lookup x = some .local:=by first | exact .inl rfl | exact .inr rfl | assumption) :
  PS X (.AugAssign (.Name x pos') op e pos) (tAug i te ti):=by
 intro pins s σ H D I h
 obtain ⟨v,e1,h⟩:=h
 obtain ⟨m,hn,hl⟩:=I.loc
 have vis:Vis X.env.scope x:=by rcases hx with k | k; exact .inl k; exact .inr (.inl k)
 obtain ⟨u,r,l⟩:=hl i x v hi e1 vis
 refine wpAny_AugAssign_Name ?_
 have go:wpAny (model X.prog X.w) X.A (eval e X.env) (fun w s₂=>wpAny (model X.prog X.w) X.A (inplaceOp op u w) (fun r s₃=>wpAny (model X.prog X.w) X.A (storeName X.env x r) (fun _=>SP X pins D .next) X.xe s₃) X.xe s₂) X.xe s:=by
  refine thn (he pins s σ H _ I h) fun w s1 ⟨y,H1,I1,r1,q1⟩=>?_
  refine thn (ho pins s1 σ H1 v y u w _ I1 r r1 q1) fun z s2 ⟨zv,H2,I2,r2,q2⟩=>?_
  exact JR I2 hN hi hx r2 (fun s3 I3=>⟨_,H2,I3,q2⟩) hf
 rcases l with ⟨hk,hm⟩ | ⟨hk,c,hc,hcell⟩
 ·exact wpAny_loadName_local I.ok.kind hk hn hm go
 ·rcases hk with hk | hk
  ·exact wpAny_loadName_cell I.ok.kind hk hc hcell go
  ·rcases hx with k | k
   ·have:X.env.scope.names.lookup x = some .free:=hk
    rw [k] at this; cases this
   ·have:X.env.scope.names.lookup x = some .free:=hk
    rw [k] at this; cases this
end
section
variable {X:Cx} {pos:Pos}
end
structure It where
 go:Nat -> Hp -> Prop
 yld:Nat -> Hp -> V -> Hp -> Prop
 stop:Nat -> Hp -> Prop
def FpOk (X:Cx) (pins:List (Addr × Obj)) (H:Hp) (b:Addr):Prop:=
 H b = none /\ b ≠ X.env.locals /\ b ∉ X.fs /\ (b ∈ X.ex \/ X.s₀.heap.objs.size <= b) /\ (∀ x c,X.env.cells.lookup x = some c -> c ≠ b) /\ ∀ p ∈ X.pn ++ pins,p.1 ≠ b
theorem Inv.fpOk {X:Cx} {pins:List (Addr × Obj)} {σ:St} {H H':Hp} {s:Shared} {b:Addr} (I:Inv X pins σ H s) (hb:s.heap.objs.size <= b) (hn:H' b = none):FpOk X pins H' b:=by
 refine ⟨hn,Nat.ne_of_gt (Nat.lt_of_lt_of_le I.lt hb),I.nofs hb,.inr (Nat.le_trans I.sz hb),fun x c e z=>?_,fun p hp z=>?_⟩
 ·obtain ⟨v,q⟩:=I.cell x c e
  exact absurd (Nat.lt_of_lt_of_le q.lt (by rw [z]; exact hb)) (Nat.lt_irrefl _)
 ·exact absurd (Nat.lt_of_lt_of_le (Heap.lt_size (I.pin p hp).1) (by rw [z]; exact hb)) (Nat.lt_irrefl _)
structure Turn (P:Program) (w:World) (K:PySem.W.Frag) (tg:Expr) (J:It) (fp:List Addr) (it:Addr) (tn:Nat -> Heap -> Prop):Prop where
 mem:it ∈ fp
 obj:∀ i h,tn i h -> ∀ b ∈ fp,∃ o,h.get? b = some o /\ ∀ v,o.data ≠ .cell v
 keep:∀ i h h',tn i h -> (∀ b ∈ fp,∀ o,h.get? b = some o -> h'.get? b = some o) -> tn i h'
 item:∀ (X:Cx),X.prog = P -> X.w = w -> X.K = K -> X.calm = true -> ∀ (i:Nat) (pins:List (Addr × Obj)) (s:Shared) (σ:St) (H:Hp) (E:Value -> Shared -> Prop),Inv X pins σ H s -> (∀ b ∈ fp,FpOk X pins H b) -> tn i s.heap -> J.go i H ->
  wpAny (model P w) X.A (pyNext (.ref it)) (fun r s1=>∃ u,r = some u /\
   wpAny (model P w) X.A (letOwnedTupleGo tg (.ref it) u) (fun _ s2=>∃ x H',Inv X pins σ H' s2 /\ RelV x u /\ J.yld i H x H' /\ tn (i + 1) s2.heap /\ ∀ b ∈ fp,H' b = none) E s1) E s
 done:∀ (X:Cx),X.prog = P -> X.w = w -> X.K = K -> X.calm = true -> ∀ (i:Nat) (pins:List (Addr × Obj)) (s:Shared) (σ:St) (H:Hp) (E:Value -> Shared -> Prop),Inv X pins σ H s -> (∀ b ∈ fp,FpOk X pins H b) -> tn i s.heap -> J.stop i H ->
  wpAny (model P w) X.A (pyNext (.ref it)) (fun r s1=>r = none /\ Inv X pins σ H s1) E s
 self:∀ (A:Around) (i:Nat) (s:Shared) (Q:Value -> Shared -> Prop) (E:Value -> Shared -> Prop),tn i s.heap -> Q (.ref it) s -> wpAny (model P w) A (pyIter (.ref it)) Q E s
abbrev TI:=St -> Hp -> (It -> Hp -> Prop) -> Prop
def PIE (X:Cx) (pins:List (Addr × Obj)) (σ:St) (tg:Expr) (R:It -> Hp -> Prop) (itv:Value) (s2:Shared):Prop:=
 ∃ (it:Addr) (fp:List Addr) (tn:Nat -> Heap -> Prop) (J:It) (H':Hp),itv = .ref it /\ Inv X pins σ H' s2 /\ Turn X.prog X.w X.K tg J fp it tn /\ tn 0 s2.heap /\ (∀ b ∈ fp,FpOk X pins H' b) /\ R J H'
def PI (X:Cx) (tg iter:Expr) (wi:TI):Prop:=
 ∀ (pins:List (Addr × Obj)) (s:Shared) (σ:St) (H:Hp) (R:It -> Hp -> Prop),Inv X pins σ H s -> wi σ H R ->
  wpAny (model X.prog X.w) X.A (eval iter X.env) (fun v s1=>wpAny (model X.prog X.w) X.A (pyIter v) (PIE X pins σ tg R) X.xe s1) X.xe s
theorem Jlp {M:Model} {A:Around} {E:Value -> Shared -> Prop} {s:Shared} {tg:Expr} {it:Addr} {u:Value} {o:Obj} {n:String} {vs:Array Value} {Q:Unit -> Shared -> Prop} (ho:s.heap.get? it = some o) (hc:o.cls = .type n) (hd:o.data = .fields vs)
  (hn:["enumerate","zip","dict_itemiterator","dict_reverseitemiterator","odict_iterator","itertools.zip_longest","itertools.pairwise"].contains n = false) (hQ:Q () s):wpAny M A (letOwnedTupleGo tg (.ref it) u) Q E s:=by
 unfold letOwnedTupleGo
 cases tg <;> first
  | exact wpAny_pure hQ
  | (cases u <;> first
    | exact wpAny_pure hQ
    | (refine wpAny_bind (wpAny_load ho ?_); rw [hc,hd]; show wpAny M A (if (["enumerate","zip","dict_itemiterator","dict_reverseitemiterator","odict_iterator","itertools.zip_longest","itertools.pairwise"].contains n && vs[0]? == some (rawInt _)) = true then _ else _) Q E s; rw [if_neg (by intro h; rw [hn,Bool.false_and] at h; cases h)]; exact wpAny_pure hQ))
def Itl (K:PySem.W.Frag) (a:Addr):It:=
 ⟨fun i H=>∃ xs x,SqL K H a xs /\ xs[i]? = some x,fun i H x H'=>H' = H /\ ∀ xs,SqL K H a xs -> xs[i]? = some x,fun i H=>∃ xs,SqL K H a xs /\ xs.length <= i⟩
def Itt (K:PySem.W.Frag) (a:Addr):It:=
 ⟨fun i H=>∃ xs x,SqT K H a xs /\ xs[i]? = some x,fun i H x H'=>H' = H /\ ∀ xs,SqT K H a xs -> xs[i]? = some x,fun i H=>∃ xs,SqT K H a xs /\ xs.length <= i⟩
def Itr (lo:Int) (n:Nat):It:=⟨fun i _=>i < n,fun i H x H'=>H' = H /\ x = .int (lo + i),fun i _=>n <= i⟩
theorem Jda {P:Program} {w:World} {K:PySem.W.Frag} {tg:Expr} (a it:Addr):Turn P w K tg (Itl K a) [it] it (fun i h=>h.IsListIter it a i) where
 mem:=by simp
 obj:=fun i h st b hb=>by
  have e:b = it:=by simpa using hb
  subst e
  obtain ⟨o,e,c,d⟩:=st
  exact ⟨o,e,fun v z=>by rw [d] at z; cases z⟩
 keep:=fun i h h' st k=>st.at fun o e=>k it (by simp) o e
 item:=by
  intro X hP hw hK hc i pins s σ H E I hf st hg
  subst hP hw hK
  obtain ⟨xs,x,hq,hx⟩:=hg
  obtain ⟨its,rv,p,hz⟩:=I.list hq
  obtain ⟨u,hu,ru⟩:=rv.get hx
  obtain ⟨f0,f1,f2,f3,f4,f5⟩:=hf it (by simp)
  refine wpAny_pyNext_list_item st p.isList (x:=u) (by simpa using hu) fun h' st' sb=>?_
  have I1:Inv X pins σ H { s with heap:=h' }:=I.turned (t':=s.toks) (fun b o hb e=>(sb.2 b hb).trans e) f0 f1 f3 f4 f5
  obtain ⟨o,e,c,d⟩:=id st'
  exact ⟨u,rfl,Jlp (s:={ s with heap:=h' }) e c d (by decide) ⟨x,H,I1,ru,⟨rfl,fun ys hy=>by rw [I.list_inj hy hq]; exact hx⟩,st',fun b hb=>(hf b hb).1⟩⟩
 done:=by
  intro X hP hw hK hc i pins s σ H E I hf st hg
  subst hP hw hK
  obtain ⟨xs,hq,hx⟩:=hg
  obtain ⟨its,rv,p,hz⟩:=I.list hq
  obtain ⟨f0,f1,f2,f3,f4,f5⟩:=hf it (by simp)
  have hl:=rv.length
  exact wpAny_pyNext_list_end (I.ok.hd hc) st p.isList (by simp; omega) fun h' eb=>⟨rfl,I.turned (t':=s.toks) (fun b o hb e=>eb b o hb e) f0 f1 f3 f4 f5⟩
 self:=fun _ _ _ _ _ st h=>wpAny_pyIter_listiter st h
theorem JbO {P:Program} {w:World} {K:PySem.W.Frag} {tg:Expr} (a it:Addr):Turn P w K tg (Itt K a) [it] it (fun i h=>h.IsTupleIter it a i) where
 mem:=by simp
 obj:=fun i h st b hb=>by
  have e:b = it:=by simpa using hb
  subst e
  obtain ⟨o,e,c,d⟩:=st
  exact ⟨o,e,fun v z=>by rw [d] at z; cases z⟩
 keep:=fun i h h' st k=>st.at fun o e=>k it (by simp) o e
 item:=by
  intro X hP hw hK hc i pins s σ H E I hf st hg
  subst hP hw hK
  obtain ⟨xs,x,hq,hx⟩:=hg
  obtain ⟨its,rv,p,hz⟩:=I.tuple hq
  obtain ⟨u,hu,ru⟩:=rv.get hx
  obtain ⟨f0,f1,f2,f3,f4,f5⟩:=hf it (by simp)
  refine wpAny_pyNext_tuple_item st (show s.heap.IsTuple a its.toArray from p) (x:=u) (by simpa using hu) fun h' st' sb=>?_
  have I1:Inv X pins σ H { s with heap:=h' }:=I.turned (t':=s.toks) (fun b o hb e=>(sb.2 b hb).trans e) f0 f1 f3 f4 f5
  obtain ⟨o,e,c,d⟩:=id st'
  exact ⟨u,rfl,Jlp (s:={ s with heap:=h' }) e c d (by decide) ⟨x,H,I1,ru,⟨rfl,fun ys hy=>by rw [I.tuple_inj hy hq]; exact hx⟩,st',fun b hb=>(hf b hb).1⟩⟩
 done:=by
  intro X hP hw hK hc i pins s σ H E I hf st hg
  subst hP hw hK
  obtain ⟨xs,hq,hx⟩:=hg
  obtain ⟨its,rv,p,hz⟩:=I.tuple hq
  obtain ⟨f0,f1,f2,f3,f4,f5⟩:=hf it (by simp)
  have hl:=rv.length
  exact wpAny_pyNext_tuple_end (I.ok.hd hc) st (show s.heap.IsTuple a its.toArray from p) (by simp; omega) fun h' eb=>⟨rfl,I.turned (t':=s.toks) (fun b o hb e=>eb b o hb e) f0 f1 f3 f4 f5⟩
 self:=fun _ _ _ _ _ st h=>wpAny_pyIter_tupleiter st h
theorem JfL {P:Program} {w:World} {K:PySem.W.Frag} {tg:Expr} (it:Addr) (lo:Int) (n:Nat):Turn P w K tg (Itr lo n) [it] it (fun i h=>IsRangeIter h it (lo + (i:Nat) * 1) ((n:Int) - (i:Nat)) 1) where
 mem:=by simp
 obj:=fun i h st b hb=>by
  have e:b = it:=by simpa using hb
  subst e
  exact ⟨_,st,fun v z=>by
   have z':Data.fields _ = Data.cell v:=z
   cases z'⟩
 keep:=fun i h h' st k=>k it (by simp) _ st
 item:=by
  intro X hP hw hK hc i pins s σ H E I hf st hg
  subst hP hw hK
  obtain ⟨f0,f1,f2,f3,f4,f5⟩:=hf it (by simp)
  have W:=Walks.range (prog:=X.prog) (w:=X.w) (I.ok.hd hc) it lo 1 n
  refine W.item i s _ _ hg st fun v h' tk hv st' kk=>?_
  obtain ⟨t,rfl⟩:=hv
  have I1:Inv X pins σ H { s with heap:=h',toks:=tk }:=I.turned (fun b o hb e=>kk b o (by simpa using hb) e) f0 f1 f3 f4 f5
  refine ⟨_,rfl,Jlp (s:={ s with heap:=h',toks:=tk }) (n:="range_iterator") st' rfl rfl (by decide) ⟨.int (lo + i),H,I1,⟨t,?_⟩,⟨rfl,rfl⟩,st',fun b hb=>(hf b hb).1⟩⟩
  rw [Int.mul_one]
 done:=by
  intro X hP hw hK hc i pins s σ H E I hf st hg
  subst hP hw hK
  obtain ⟨f0,f1,f2,f3,f4,f5⟩:=hf it (by simp)
  exact wpAny_pyNext_range_end (I.ok.hd hc) st (by have:n <= i:=hg; omega) fun h' eb=>⟨rfl,I.turned (t':=s.toks) (fun b o hb e=>eb b o hb e) f0 f1 f3 f4 f5⟩
 self:=fun _ _ _ _ _ st h=>wpAny_pyIter_rangeiter st h
end L2
namespace L2
open PySem PySem.Spec PyProof.Rows
section
variable {X:Cx} {tg:Expr}
theorem Jfu {pins:List (Addr × Obj)} {σ:St} {H:Hp} {s:Shared} {R:It -> Hp -> Prop} {E:Value -> Shared -> Prop} {lo hi:Int} {t u v:Tok} {tk:Nat} (I:Inv X pins σ H s) (h1:-(2 ^ 62) <= lo) (h2:lo < 2 ^ 62) (h3:-(2 ^ 62) <= hi) (h4:hi < 2 ^ 62)
  (q:R (Itr lo (hi - lo).toNat) H):wpAny (model X.prog X.w) X.A (pyIter (.ref s.heap.objs.size)) (PIE X pins σ tg R) E { s with heap:=s.heap.push { cls:=.type "range",data:=.fields #[.int lo t,.int hi u,.int 1 v] },toks:=tk }:=by
 refine wpAny_pyIter_range (IsRange.new ..) (small_one h1 h2 h3 h4) ?_
 have I1:Inv X pins σ H { s with heap:=s.heap.push { cls:=.type "range",data:=.fields #[.int lo t,.int hi u,.int 1 v] },toks:=tk }:=I.kept fun b o e=>Heap.get?_push_of_some _ e
 refine ⟨(s.heap.push { cls:=.type "range",data:=.fields #[.int lo t,.int hi u,.int 1 v] }).objs.size,[(s.heap.push { cls:=.type "range",data:=.fields #[.int lo t,.int hi u,.int 1 v] }).objs.size],_,_,H,rfl,
  I1.kept (t':=tk) fun b o e=>Heap.get?_push_of_some _ e,JfL _ lo (hi - lo).toNat,?_,fun b hb=>?_,q⟩
 ·have e1:lo + ((0:Nat):Int) * 1 = lo:=by simp
  have e2:(((hi - lo).toNat:Nat):Int) - ((0:Nat):Int) = Builtin.Range.rangeSize lo hi 1:=by rw [rangeSize_one]; split <;> omega
  show IsRangeIter _ _ (lo + ((0:Nat):Int) * 1) ((((hi - lo).toNat:Nat):Int) - ((0:Nat):Int)) 1
  rw [e1,e2]
  exact Heap.get?_push_size _ rfl
 ·have e:b = (s.heap.push { cls:=.type "range",data:=.fields #[.int lo t,.int hi u,.int 1 v] }).objs.size:=by simpa using hb
  subst e
  exact I1.fpOk (Nat.le_refl _) (I1.hok.fresh (Nat.le_refl _))
def iRng1 (ta:TA):TI:=fun σ H R=>ta σ H fun vs H1=>∃ j:Int,vs = [.int j] /\ -(2 ^ 62) <= j /\ j < 2 ^ 62 /\ R (Itr 0 j.toNat) H1
def iRng2 (ta:TA):TI:=fun σ H R=>ta σ H fun vs H1=>∃ i j:Int,vs = [.int i,.int j] /\ (-(2 ^ 62) <= i /\ i < 2 ^ 62 /\ -(2 ^ 62) <= j /\ j < 2 ^ 62) /\ R (Itr i (j - i).toNat) H1
theorem JhY {a:Expr} {ta:TA} {p pos:Pos} (hg:Gl X "range") (hm:X.mg "range" = none) (ha:PA X [a] ta) (hs:starEach [a] X.env = [(false,eval a X.env)]:=by rfl):PI X tg (.Call (.Name "range" p) [a] [] pos) (iRng1 ta):=by
 intro pins s σ H R I h
 refine Call_ (JbG I hg hm boot_range (PyProof.Rows.callWith_type1 (thn (ha pos pins s σ H _ I h) fun us s1 ⟨vs,H1,I1,r1,q1⟩=>?_) hs rfl))
 obtain ⟨j,e,q1,q2,q⟩:=q1
 subst e
 cases r1 with
 | cons r rr=>
  cases rr
  obtain ⟨t,rfl⟩:=r
  exact call_range_1 (Jfu I1 (by omega) (by omega) q1 q2 (by simpa using q))
theorem Jhi {a b:Expr} {ta:TA} {p pos:Pos} (hg:Gl X "range") (hm:X.mg "range" = none) (ha:PA X [a,b] ta) (hs:starEach [a,b] X.env = [(false,eval a X.env),(false,eval b X.env)]:=by rfl) (hs2:starEach [b] X.env = [(false,eval b X.env)]:=by rfl) :
  PI X tg (.Call (.Name "range" p) [a,b] [] pos) (iRng2 ta):=by
 intro pins s σ H R I h
 refine Call_ (JbG I hg hm boot_range (PyProof.Rows.callWith_type1 (thn (ha pos pins s σ H _ I h) fun us s1 ⟨vs,H1,I1,r1,q1⟩=>?_) (by rw [hs,hs2]) (by rw [hs2]; rfl)))
 obtain ⟨i,j,e,⟨q1,q2,q3,q4⟩,q⟩:=q1
 subst e
 cases r1 with
 | cons r rr=>
  cases rr with
  | cons r' rr=>
   cases rr
   obtain ⟨t,rfl⟩:=r
   obtain ⟨t',rfl⟩:=r'
   exact call_range_2 (Jfu I1 q1 q2 q3 q4 q)
def tFor (wi:TI) (g:TG) (tb:TS):TS:=fun D σ H=>wi σ H fun J H1=>∃ W:Nat -> Nat -> St -> Hp -> Prop,(∃ m,W 0 m σ H1) /\ ∀ i m σ H,W i m σ H ->
 (J.stop i H /\ D.nx σ H) \/ (J.go i H /\ ∃ N:St -> Hp -> Prop,(∀ σ' H',N σ' H' -> ∃ m',m' < m /\ W (i + 1) m' σ' H') /\ ∀ x H',J.yld i H x H' -> g x σ H' fun σ2 H2=>tb { D with nx:=N,ct:=N,bk:=D.nx } σ2 H2)
def pinsAt (fp:List Addr) (h:Heap):List (Addr × Obj):=fp.filterMap fun b=>(h.get? b).map fun o=>(b,o)
theorem JU {fp:List Addr} {h:Heap} {b:Addr} {o:Obj} (hb:b ∈ fp) (e:h.get? b = some o):(b,o) ∈ pinsAt fp h:=List.mem_filterMap.mpr ⟨b,hb,by rw [e]; rfl⟩
theorem Jdr {fp:List Addr} {h:Heap} {p:Addr × Obj} (hp:p ∈ pinsAt fp h):p.1 ∈ fp /\ h.get? p.1 = some p.2:=by
 obtain ⟨b,hb,e⟩:=List.mem_filterMap.mp hp
 cases q:h.get? b with
 | none=>rw [q] at e; cases e
 | some o=>
  rw [q] at e
  have e':(b,o) = p:=Option.some.inj e
  subst e'
  exact ⟨hb,q⟩
theorem Inv.pinned {pins:List (Addr × Obj)} {σ:St} {H:Hp} {s:Shared} {fp:List Addr} (I:Inv X pins σ H s) (hf:∀ b ∈ fp,FpOk X pins H b) (ho:∀ b ∈ fp,∃ o,s.heap.get? b = some o /\ ∀ v,o.data ≠ .cell v):Inv X (pins ++ pinsAt fp s.heap) σ H s:=
 I.pins_of fun p hp=>(List.mem_append.mp hp).elim (fun z=>I.pin p (List.mem_append_right _ z)) fun z=>by
  obtain ⟨hb,e⟩:=Jdr z
  obtain ⟨f0,f1,f2,_⟩:=hf p.1 hb
  obtain ⟨o,e',d⟩:=ho p.1 hb
  rw [e] at e'; cases e'
  exact ⟨e,f0,f1,f2,d⟩
theorem Inv.unpinned {pins pl:List (Addr × Obj)} {σ:St} {H:Hp} {s:Shared} (I:Inv X (pins ++ pl) σ H s):Inv X pins σ H s:=I.pins_of fun p hp=>I.pin p (List.mem_append_right _ (List.mem_append_left _ hp))
theorem Jna {iter:Expr} {body:List Stmt} {wi:TI} {g:TG} {tb:TS} {pos:Pos} (hp:PassesOwn (model X.prog X.w) X.A X.env X.xe) (hc:X.calm = true) (hi:PI X tg iter wi) (hg:PG X tg g) (hb:PSs X body tb)
  (hs:∀ x,foldedSetIterable iter X.env x = pure x:=by intro _; rfl):PS X (.For tg iter body [] pos) (tFor wi g tb):=by
 intro pins s σ H D I h
 refine wpAny_For (thn (hi pins s σ H _ I h) fun v s1 h1=>thn h1 fun itv s2 h2=>?_) hs
 obtain ⟨it,fp,tn,J,H2,e,I2,T,st2,f2,W,⟨m0,w0⟩,turn⟩:=h2
 subst e
 have stat:∀ {H':Hp},(∀ b ∈ fp,H' b = none) -> ∀ b ∈ fp,FpOk X pins H' b:=fun hn b hb=>⟨hn b hb,(f2 b hb).2⟩
 refine codeAny_forLoop_any (fun n s'=>∃ i σ' H',Inv X pins σ' H' s' /\ tn i s'.heap /\ (∀ b ∈ fp,H' b = none) /\ W i n σ' H') ?_ m0 ⟨0,σ,H2,I2,st2,fun b hb=>(f2 b hb).1,w0⟩
 rintro n s3 ⟨i,σ3,H3,I3,st3,fr3,w3⟩
 rcases turn i n σ3 H3 w3 with ⟨stop,qn⟩ | ⟨go,N,hN,step⟩
 ·refine wpAny_passesOwn hp (thn (T.done X rfl rfl rfl hc i pins s3 σ3 H3 X.xe I3 (stat fr3) st3 stop) fun r s4 ⟨hr,I4⟩=>?_)
  subst hr
  exact wpAny_execs_nil ⟨σ3,H3,I4,qn⟩
 ·refine wpAny_passesOwn hp (thn (T.item X rfl rfl rfl hc i pins s3 σ3 H3 X.xe I3 (stat fr3) st3 go) fun r s4 ⟨u,hr,h4⟩=>?_)
  subst hr
  refine wpAny_passesOwn hp (thn h4 fun _ s5 ⟨x,H5,I5,r5,y5,st5,fr5⟩=>?_)
  have I5':=I5.pinned (stat fr5) (T.obj _ _ st5)
  refine wpAny_passesOwn hp (thn (hg _ s5 σ3 H5 x u _ I5' r5 (step x H5 y5)) fun _ s6 ⟨σ6,H6,I6,q6⟩=>?_)
  refine wpAny_passesOwn hp (thn (hb _ s6 σ6 H6 _ I6 q6) fun f s7 q7=>?_)
  have again:∀ {σ7:St} {H7:Hp},Inv X (pins ++ pinsAt fp s5.heap) σ7 H7 s7 -> N σ7 H7 -> ∃ m,m < n /\ ∃ i σ' H',Inv X pins σ' H' s7 /\ tn i s7.heap /\ (∀ b ∈ fp,H' b = none) /\ W i m σ' H':=fun {σ7 H7} I7 n7=>by
   obtain ⟨m',hm,w7⟩:=hN σ7 H7 n7
   refine ⟨m',hm,i + 1,σ7,H7,I7.unpinned,T.keep _ _ _ st5 fun b hb o e=>(I7.pin (b,o) (List.mem_append_right _ (List.mem_append_right _ (JU hb e)))).1,fun b hb=>?_,w7⟩
   obtain ⟨o,e,d⟩:=T.obj _ _ st5 b hb
   exact (I7.pin (b,o) (List.mem_append_right _ (List.mem_append_right _ (JU hb e)))).2.1
  cases f with
  | next=>obtain ⟨σ7,H7,I7,n7⟩:=q7; exact again I7 n7
  | cont=>obtain ⟨σ7,H7,I7,n7⟩:=q7; exact again I7 n7
  | brk=>obtain ⟨σ7,H7,I7,q7⟩:=q7; exact ⟨σ7,H7,I7.unpinned,q7⟩
  | ret v=>obtain ⟨x7,σ7,H7,I7,r7,q7⟩:=q7; exact ⟨x7,σ7,H7,I7.unpinned,r7,q7⟩
end
end L2
namespace L2
open PySem PySem.Spec PyProof.Rows
abbrev R2:=V -> V -> Hp -> VK -> Prop
def OpR (X:Cx) (f:Value -> Value -> Sem Value) (r:R2):Prop:=
 ∀ (pins:List (Addr × Obj)) (s:Shared) (σ:St) (H:Hp) (x y:V) (v u:Value) (Q:VK),Inv X pins σ H s -> RelV x v -> RelV y u -> r x y H Q ->
  wpAny (model X.prog X.w) X.A (f v u) (EP X pins σ Q) X.xe s
def UnR (X:Cx) (f:Value -> Sem Value) (r:V -> Hp -> VK -> Prop):Prop:=
 ∀ (pins:List (Addr × Obj)) (s:Shared) (σ:St) (H:Hp) (x:V) (v:Value) (Q:VK),Inv X pins σ H s -> RelV x v -> r x H Q ->
  wpAny (model X.prog X.w) X.A (f v) (EP X pins σ Q) X.xe s
def CallR (X:Cx) (f:Value) (r:List V -> Hp -> VK -> Prop):Prop:=
 ∀ (pins:List (Addr × Obj)) (s:Shared) (σ:St) (H:Hp) (xs:List V) (us:List Value) (Q:VK),Inv X pins σ H s -> Vals xs us -> r xs H Q ->
  wpAny (model X.prog X.w) X.A (call f us) (EP X pins σ Q) X.xe s
def TruR (X:Cx) (r:V -> Hp -> (Bool -> Hp -> Prop) -> Prop):Prop:=
 ∀ (pins:List (Addr × Obj)) (s:Shared) (σ:St) (H:Hp) (x:V) (v:Value) (Q:Bool -> Hp -> Prop),Inv X pins σ H s -> RelV x v -> r x H Q ->
  wpAny (model X.prog X.w) X.A (truthy v) (TP X pins σ Q) X.xe s
def tOp (r:R2) (ta tb:TE):TE:=fun σ H Q=>ta σ H fun x H1=>tb σ H1 fun y H2=>r x y H2 Q
def tUn (r:V -> Hp -> VK -> Prop) (ta:TE):TE:=fun σ H Q=>ta σ H fun x H1=>r x H1 Q
def rI (C:Int -> Int -> Prop) (g:Int -> Int -> V):R2:=fun x y H Q=>∃ i j,x = .int i /\ y = .int j /\ C i j /\ Q (g i j) H
def rI0 (g:Int -> Int -> V):R2:=fun x y H Q=>∃ i j,x = .int i /\ y = .int j /\ Q (g i j) H
def rU (g:Int -> V):V -> Hp -> VK -> Prop:=fun x H Q=>∃ i,x = .int i /\ Q (g i) H
section
variable {X:Cx} {a b c:Expr} {ta tb tc:TE} {pos:Pos}
theorem binT (ha:PE X a ta) (hb:PE X b tb) {pins:List (Addr × Obj)} {s:Shared} {σ:St} {H:Hp} {R:V -> V -> Hp -> Prop} (I:Inv X pins σ H s)
  (h:ta σ H fun x H1=>tb σ H1 fun y H2=>R x y H2) {Q:Value -> Shared -> Prop} {f:Value -> Value -> Sem Value}
  (hf:∀ v u s2 x y H2,Inv X pins σ H2 s2 -> RelV x v -> RelV y u -> R x y H2 -> wpAny (model X.prog X.w) X.A (f v u) Q X.xe s2) :
  wpAny (model X.prog X.w) X.A (eval a X.env) (fun v s₁=>wpAny (model X.prog X.w) X.A (eval b X.env) (fun u s₂=>wpAny (model X.prog X.w) X.A (f v u) Q X.xe s₂) X.xe s₁) X.xe s:=by
 refine thn (ha pins s σ H _ I h) fun v s1 ⟨x,H1,I1,r1,q1⟩=>?_
 refine thn (hb pins s1 σ H1 _ I1 q1) fun u s2 ⟨y,H2,I2,r2,q2⟩=>?_
 exact hf v u s2 x y H2 I2 r1 r2 q2
theorem JnM {op:Operator} {r:R2} (ho:OpR X (binaryOp op) r) (ha:PE X a ta) (hb:PE X b tb):PE X (.BinOp a op b pos) (tOp r ta tb):=by
 intro pins s σ H Q I h
 exact wpAny_BinOp (binT ha hb I h fun v u s2 x y H2 I2 rx ry q=>ho pins s2 σ H2 x y v u Q I2 rx ry q)
theorem pe_un {op:UnaryOp} {r:V -> Hp -> VK -> Prop} (ho:UnR X (unaryOp op) r) (ha:PE X a ta):PE X (.UnaryOp op a pos) (tUn r ta):=by
 intro pins s σ H Q I h
 exact UnaryOp_ (thn (ha pins s σ H _ I h) fun v s1 ⟨x,H1,I1,r1,q1⟩=>ho pins s1 σ H1 x v Q I1 r1 q1)
theorem opI {f:Value -> Value -> Sem Value} {C:Int -> Int -> Prop} {g:Int -> Int -> Int}
  (rule:∀ (i j:Int) (t u:Tok) (s:Shared) (Q:Value -> Shared -> Prop) (E:Value -> Shared -> Prop),C i j -> Q (.int (g i j) s.toks) { s with toks:=s.toks + 1 } -> wpAny (model X.prog X.w) X.A (f (.int i t) (.int j u)) Q E s) :
  OpR X f (rI C fun i j=>.int (g i j)):=by
 intro pins s σ H x y v u Q I rx ry h
 obtain ⟨i,j,rfl,rfl,hc,q⟩:=h
 obtain ⟨t,rfl⟩:=rx
 obtain ⟨t',rfl⟩:=ry
 exact rule i j t t' s _ _ hc ⟨.int (g i j),H,I.tok _,⟨_,rfl⟩,q⟩
theorem opI0 {f:Value -> Value -> Sem Value} {g:Int -> Int -> Int}
  (rule:∀ (i j:Int) (t u:Tok) (s:Shared) (Q:Value -> Shared -> Prop) (E:Value -> Shared -> Prop),Q (.int (g i j) s.toks) { s with toks:=s.toks + 1 } -> wpAny (model X.prog X.w) X.A (f (.int i t) (.int j u)) Q E s) :
  OpR X f (rI0 fun i j=>.int (g i j)):=by
 intro pins s σ H x y v u Q I rx ry h
 obtain ⟨i,j,rfl,rfl,q⟩:=h
 obtain ⟨t,rfl⟩:=rx
 obtain ⟨t',rfl⟩:=ry
 exact rule i j t t' s _ _ ⟨.int (g i j),H,I.tok _,⟨_,rfl⟩,q⟩
theorem opB0 {f:Value -> Value -> Sem Value} {g:Int -> Int -> Bool}
  (rule:∀ (i j:Int) (t u:Tok) (s:Shared) (Q:Value -> Shared -> Prop) (E:Value -> Shared -> Prop),Q (.bool (g i j)) s -> wpAny (model X.prog X.w) X.A (f (.int i t) (.int j u)) Q E s) :
  OpR X f (rI0 fun i j=>.bl (g i j)):=by
 intro pins s σ H x y v u Q I rx ry h
 obtain ⟨i,j,rfl,rfl,q⟩:=h
 obtain ⟨t,rfl⟩:=rx
 obtain ⟨t',rfl⟩:=ry
 exact rule i j t t' s _ _ ⟨.bl (g i j),H,I,rfl,q⟩
def CDiv (i j:Int):Prop:=0 < j /\ j < 1073741824
def CMul (i j:Int):Prop:=(-(2 ^ 64) < i /\ i < 2 ^ 64) \/ (-(2 ^ 64) < j /\ j < 2 ^ 64)
theorem CMul.ok {i j:Int} (h:CMul i j):IntMulOk i j:=by
 rcases h with ⟨h1,h2⟩ | ⟨h1,h2⟩
 ·exact .of_left (intBits_le_64 h1 h2)
 ·exact .of_right (intBits_le_64 h1 h2)
theorem Jno:OpR X (binaryOp .Add) (rI0 fun i j=>.int (i + j)):=opI0 fun _ _ _ _ _ _ _ q=>add_int q
theorem JnU:OpR X (binaryOp .Sub) (rI0 fun i j=>.int (i - j)):=opI0 fun _ _ _ _ _ _ _ q=>sub_int q
theorem Joa:OpR X (binaryOp .Mult) (rI CMul fun i j=>.int (i * j)):=opI fun _ _ _ _ _ _ _ hc q=>mul_int q hc.ok
theorem JkN:OpR X (binaryOp .FloorDiv) (rI CDiv fun i j=>.int (i / j)):=opI fun i j _ _ _ _ _ hc q=>by
 have h1:(0:Int) < j:=hc.1
 have h2:j < 1073741824:=hc.2
 exact floordiv_int (by omega) (by rw [Int.fdiv_eq_ediv_of_nonneg i (by omega)]; exact q) (.inl (PyProof.noPylong_small (by omega)))
theorem JmC:OpR X (binaryOp .Mod) (rI (fun _ j=>0 < j) fun i j=>.int (i % j)):=opI fun i j _ _ _ _ _ hc q=>by
 have h1:(0:Int) < j:=hc
 exact mod_int' (by omega) (by rw [Int.fmod_eq_emod_of_nonneg i (by omega)]; exact q)
theorem unI {f:Value -> Sem Value} {g:Int -> Int}
  (rule:∀ (i:Int) (t:Tok) (s:Shared) (Q:Value -> Shared -> Prop) (E:Value -> Shared -> Prop),Q (.int (g i) s.toks) { s with toks:=s.toks + 1 } -> wpAny (model X.prog X.w) X.A (f (.int i t)) Q E s) :
  UnR X f (rU fun i=>.int (g i)):=by
 intro pins s σ H x v Q I rx h
 obtain ⟨i,rfl,q⟩:=h
 obtain ⟨t,rfl⟩:=rx
 exact rule i t s _ _ ⟨.int (g i),H,I.tok _,⟨_,rfl⟩,q⟩
theorem Jnu:UnR X (unaryOp .USub) (rU fun i=>.int (-i)):=unI fun _ _ _ _ _ q=>neg_int q
end
section
variable {X:Cx} {a b c:Expr} {ta tb tc:TE} {pos:Pos}
theorem Jgh {pins:List (Addr × Obj)} {σ:St} {H:Hp} {s:Shared} {Q:VK} {k k':Bool} (I:Inv X pins σ H s) (q:Q (.bl k) H) (e:k = k'):EP X pins σ Q (.bool k') s:=by
 subst e
 exact ⟨.bl k,H,I,rfl,q⟩
theorem op_lt:OpR X (compareOp .Lt) (rI0 fun i j=>.bl (decide (i < j))):=opB0 fun _ _ _ _ _ _ _ q=>lt_int q
theorem op_le:OpR X (compareOp .LtE) (rI0 fun i j=>.bl (decide (i <= j))):=opB0 fun _ _ _ _ _ _ _ q=>le_int q
theorem op_gt:OpR X (compareOp .Gt) (rI0 fun i j=>.bl (decide (j < i))):=opB0 fun _ _ _ _ _ _ _ q=>gt_int q
theorem op_ge:OpR X (compareOp .GtE) (rI0 fun i j=>.bl (decide (j <= i))):=opB0 fun _ _ _ _ _ _ _ q=>ge_int q
theorem JhG:OpR X (compareOp .Lt) (fun x y H Q=>∃ i j,x = .str i /\ y = .str j /\ Q (.bl (decide (i.cps.toList < j.cps.toList))) H):=by
 intro pins s σ H x y v u Q I rx ry h
 obtain ⟨i,j,rfl,rfl,q⟩:=h
 obtain ⟨t,rfl⟩:=rx
 obtain ⟨t',rfl⟩:=ry
 exact lt_str (Jgh I q rfl)
theorem Jhl:OpR X (compareOp .In) (fun x y H Q=>∃ i j,x = .str i /\ y = .str j /\ Q (.bl (!(Builtin.Str.occurrences j i 0 j.length 1).isEmpty)) H):=by
 intro pins s σ H x y v u Q I rx ry h
 obtain ⟨i,j,rfl,rfl,q⟩:=h
 obtain ⟨t,rfl⟩:=rx
 obtain ⟨t',rfl⟩:=ry
 exact in_str (Jgh I q rfl)
theorem JcQ:OpR X (compareOp .NotIn) (fun x y H Q=>∃ i j,x = .str i /\ y = .str j /\ Q (.bl (!(!(Builtin.Str.occurrences j i 0 j.length 1).isEmpty))) H):=by
 intro pins s σ H x y v u Q I rx ry h
 obtain ⟨i,j,rfl,rfl,q⟩:=h
 obtain ⟨t,rfl⟩:=rx
 obtain ⟨t',rfl⟩:=ry
 exact notIn_str (Jgh I q rfl)
theorem Jat (b:Expr) {op:CmpOp} (h:op ≠ .In:=by decide) (h2:op ≠ .NotIn:=by decide):behindInMarks op b = false:=by
 have e1:(op == CmpOp.In) = false:=by cases op <;> first | rfl | exact absurd rfl h
 have e2:(op == CmpOp.NotIn) = false:=by cases op <;> first | rfl | exact absurd rfl h2
 cases b <;> simp [behindInMarks,e1,e2]
theorem JkY {op:CmpOp} {r:R2} (ho:OpR X (compareOp op) r) (ha:PE X a ta) (hb:PE X b tb) (hm:behindInMarks op b = false):PE X (.Compare a [op] [b] pos) (tOp r ta tb):=by
 intro pins s σ H Q I h
 exact wpAny_Compare1 (binT ha hb I h fun v u s2 x y H2 I2 rx ry q=>ho pins s2 σ H2 x y v u Q I2 rx ry q) hm
def tTest (t:TE):TT:=fun σ H Q=>t σ H fun x H'=>∃ k,x = .bl k /\ Q k H'
theorem JlX {op:CmpOp} {r:R2} (ho:OpR X (compareOp op) r) (ha:PE X a ta) (hb:PE X b tb) (hm:behindInMarks op b = false):PT X (.Compare a [op] [b] pos) (tTest (tOp r ta tb)):=by
 intro pins s σ H Q I h
 refine wpAny_isTrue_Compare1 (thn (ha pins s σ H _ I h) fun v s1 ⟨x,H1,I1,r1,q1⟩=>thn (hb pins s1 σ H1 _ I1 q1) fun u s2 ⟨y,H2,I2,r2,q2⟩=>
  thn (ho pins s2 σ H2 x y v u _ I2 r1 r2 q2) fun c s3 ⟨z,H3,I3,r3,k,e,q3⟩=>?_) hm
 subst e
 cases r3
 exact wpAny_truthy_bool ⟨H3,I3,q3⟩
def TruV (K:PySem.W.Frag) (x:V) (H:Hp) (k:Bool):Prop:=
 match x with
 | .non=>k = false
 | .bl b=>k = b
 | .int i=>k = (i != 0)
 | .str y=>y.length <= sizeLine /\ k = ((y.length:Int) != 0)
 | .byt y=>y.size <= sizeLine /\ k = ((y.size:Int) != 0)
 | .ref p=>(∃ xs,SqL K H p xs /\ k = !xs.isEmpty) \/ (∃ xs,SqT K H p xs /\ k = !xs.isEmpty) \/ ∃ kvs,H p = some (.dK kvs) /\ k = !kvs.isEmpty
 | _=>False
theorem Jfx {κ:Type} {kvs:List (κ × V)} {vs:List (κ × Value)} (r:KV kvs vs):(!vs.isEmpty) = !kvs.isEmpty:=by
 cases r <;> rfl
theorem JbK {xs:List V} {its:List Value} (r:Vals xs its):(!its.toArray.isEmpty) = !xs.isEmpty:=by
 cases r <;> simp
theorem JbP:(sizeLine:Nat) < 2 ^ 63:=by rw [sizeLine_eq]; decide
theorem Jny:TruR X (fun x H Q=>∃ k,TruV X.K x H k /\ Q k H):=by
 intro pins s σ H x v Q I rx h
 obtain ⟨k,e,q⟩:=h
 have hl:=JbP
 have hs:sizeLine = 16777216:=sizeLine_eq
 cases x with
 | non=>
  cases rx
  have e':k = false:=e
  subst e'
  exact truthy_none ⟨H,I,q⟩
 | bl b=>
  cases rx
  have e':k = b:=e
  subst e'
  exact wpAny_truthy_bool ⟨H,I,q⟩
 | int i=>
  obtain ⟨t,rfl⟩:=rx
  have e':k = (i != 0):=e
  subst e'
  exact PySem.P.truthy_int ⟨H,I,q⟩
 | str y=>
  obtain ⟨t,rfl⟩:=rx
  obtain ⟨hy,e'⟩:y.length <= sizeLine /\ k = ((y.length:Int) != 0):=e
  subst e'
  exact PySem.P.truthy_str (by omega) ⟨H,I.tok _,q⟩
 | byt y=>
  obtain ⟨t,rfl⟩:=rx
  obtain ⟨hy,e'⟩:y.size <= sizeLine /\ k = ((y.size:Int) != 0):=e
  subst e'
  exact PySem.W.truthy_bytes (by omega) ⟨H,I.tok _,q⟩
 | ref p=>
  cases rx
  have e':(∃ xs,SqL X.K H p xs /\ k = !xs.isEmpty) \/ (∃ xs,SqT X.K H p xs /\ k = !xs.isEmpty) \/ ∃ kvs,H p = some (.dK kvs) /\ k = !kvs.isEmpty:=e
  rcases e' with ⟨xs,hx,e'⟩ | ⟨xs,hx,e'⟩ | ⟨kvs,hx,e'⟩
  ·subst e'
   obtain ⟨its,r,pl,hz⟩:=I.list hx
   have hlen:=r.length
   exact wpAny_truthy_list pl.isList (by simp only [List.size_toArray]; omega) ⟨H,I.tok _,by rw [JbK r]; exact q⟩
  ·subst e'
   obtain ⟨its,r,pl,hz⟩:=I.tuple hx
   have hlen:=r.length
   exact truthy_tuple pl (by simp only [List.size_toArray]; omega) ⟨H,I.tok _,by rw [JbK r]; exact q⟩
  ·subst e'
   obtain ⟨hz,hS,vs,r,m⟩:kvs.length <= sizeLine /\ (p == sysModules) = false /\ ∃ vs,KV kvs vs /\ s.heap.DictOf (mixKind X.prog X.w) p vs:=I.hok p _ hx
   have hlen:kvs.length = vs.length:=Paired.length r
   exact wpAny_truthy_dict hS m (by omega) ⟨H,I.tok _,by rw [Jfx r]; exact q⟩
 | _=>exact (show False from e).elim
theorem JjD (ha:PE X a ta) (he:∀ whole,isTrue a X.env whole = (do let v <- whole; standAt a.pos; holding [v] (truthy v))) :
  PT X a (fun σ H Q=>ta σ H fun x H'=>∃ k,TruV X.K x H' k /\ Q k H'):=by
 intro pins s σ H Q I h
 exact isTrue_plain (thn (ha pins s σ H _ I h) fun v s1 ⟨x,H1,I1,r1,q1⟩=>Jny pins s1 σ H1 x v Q I1 r1 q1) (he _)
theorem JfC:OpR X (binaryOp .Add) (fun x y H Q=>∃ i j,x = .str i /\ y = .str j /\ i.length + j.length <= sizeLine /\ Q (.str (i ++ j)) H):=by
 intro pins s σ H x y v u Q I rx ry h
 obtain ⟨i,j,rfl,rfl,hz,q⟩:=h
 obtain ⟨t,rfl⟩:=rx
 obtain ⟨t',rfl⟩:=ry
 exact add_str (fun t' tk=>⟨.str (i ++ j),H,I.tok _,⟨_,rfl⟩,q⟩) hz
theorem JaP {x:V} {us:List Value} (r:Vals [x] us):∃ u,us = [u] /\ RelV x u:=by
 cases r with
 | cons r1 r2=>cases r2; exact ⟨_,rfl,r1⟩
theorem vals2 {x y:V} {us:List Value} (r:Vals [x,y] us):∃ u w',us = [u,w'] /\ RelV x u /\ RelV y w':=by
 cases r with
 | cons r1 r2=>
  cases r2 with
  | cons r3 r4=>cases r4; exact ⟨_,_,rfl,r1,r3⟩
end
end L2
namespace L2
open PySem PySem.Spec PyProof.Rows
section
variable {prog:Program} {w:World} {A:Around} {E:Value -> Shared -> Prop} {s:Shared} {K:PySem.W.Frag} {x dx C f:Addr} {mA:Str -> Option Value} {name:Str} {v:Value}
end
section
variable {P:Program} {w:World} {H H':Hp} {h h':Heap} {a C dx:Addr} {fs fs':List (Str × V)}
end
structure Cls (K:PySem.W.Frag) (C:Addr):Prop where
 pg:PySem.W.plainGet K C Str.empty = true
 hd:PySem.W.hasDictIn K C = true
 po:PySem.W.plainOver K C = true
 sa:PySem.W.findIn K (.ref C) "__setattr__" = some (some (.builtin "object.__setattr__"))
theorem Cls.get {K:PySem.W.Frag} {C:Addr} (c:Cls K C) (f:Str):PySem.W.plainGet K C f = true:=c.pg
section
variable {X:Cx} {pins:List (Addr × Obj)} {σ:St} {H:Hp} {s:Shared} {a C dx:Addr} {fs:List (Str × V)} {f:Str} {v:V} {A:Around} {E:Value -> Shared -> Prop}
end
section
variable {X:Cx} {o e value:Expr} {f:Str} {pos pos' tpos:Pos} {ta tv:TE}
end
section
variable {X:Cx} {pins:List (Addr × Obj)} {σ:St} {H:Hp} {s:Shared} {A:Around} {E:Value -> Shared -> Prop} {Q:Value -> Shared -> Prop} {c:Value} {b:Bool}
end
end L2
namespace L2
open PySem PySem.Spec PyProof.Rows
structure Room (k:Nat) (A:Around):Prop where
 hd:A.handled = none
 dp:A.depth + 3 * k + 5 < recursionLimit
 un:A.units + 16 * k + 200 < cLine
theorem Room.deeper {k:Nat} {A:Around} (r:Room (k + 1) A) (env:Env):Room k (A.deeper env):=
 ⟨r.hd,by have:=r.dp; show A.depth + 1 + 3 * k + 5 < _; omega,by have:=r.un; show A.units + 3 + 16 * k + 200 < _; omega⟩
theorem Room.in1 {k:Nat} {A:Around} (r:Room (k + 1) A):Room k A.in1:=
 ⟨r.hd,by have:=r.dp; show A.depth + 3 * k + 5 < _; omega,by have:=r.un; show A.units + 1 + 16 * k + 200 < _; omega⟩
theorem Room.depth {k:Nat} {A:Around} (r:Room k A):A.depth < recursionLimit:=by have:=r.dp; omega
theorem Room.units {k:Nat} {A:Around} (r:Room k A):A.units + 64 < cLine:=by have:=r.un; omega
def tNil:TA:=fun _ H Q=>Q [] H
def tCons (ta:TE) (tr:TA):TA:=fun σ H Q=>ta σ H fun x H1=>tr σ H1 fun xs H2=>Q (x :: xs) H2
section
variable {X:Cx} {e:Expr} {es:List Expr} {te:TE} {t:TA} {pos:Pos}
theorem JaN:PA X [] tNil:=fun _ _ _ _ H Q I h=>Calls.spliced_nil ⟨[],H,I,.nil,h⟩
theorem Jt (ha:PE X e te) (hr:PA X es t) (hs:starEach (e :: es) X.env = (false,eval e X.env) :: starEach es X.env:=by rfl):PA X (e :: es) (tCons te t):=by
 intro pos pins s σ H Q I h
 rw [hs]
 show wpAny _ _ (spliced ((false,eval e X.env) :: backTo pos (starEach es X.env))) _ _ s
 refine Calls.spliced_cons (thn (ha pins s σ H _ I h) fun u s1 ⟨x,H1,I1,r1,q1⟩=>?_)
 exact thn (hr pos pins s1 σ H1 _ I1 q1) fun us s2 ⟨xs,H2,I2,r2,q2⟩=>⟨x :: xs,H2,I2,.cons r1 r2,q2⟩
def tTup (t:TA):TE:=fun σ H Q=>t σ H fun xs H1=>xs.length <= sizeLine /\ ∀ p,H1 p = none -> Q (.ref p) (upd H1 p (.tup xs))
def tLst (t:TA):TE:=fun σ H Q=>t σ H fun xs H1=>xs.length <= sizeLine /\ ∀ p,H1 p = none -> Q (.ref p) (upd H1 p (.lst xs))
theorem Jkb {x1} (h:PA X es t):PE X (.Tuple es x1 pos) (tTup t):=by
 intro pins s σ H Q I hq
 refine wpAny_Tuple_spliced (thn (h pos pins s σ H _ I hq) fun us s1 ⟨xs,H1,I1,r,z,q⟩=>⟨by rw [<- r.length]; exact z,?_⟩)
 have hf:H1 s1.heap.objs.size = none:=I1.hok.fresh (Nat.le_refl _)
 refine ⟨.ref s1.heap.objs.size,upd H1 s1.heap.objs.size (.tup xs),I1.laid (t':=s1.toks) (fun b u e=>Heap.get?_push_of_some _ e) (Nat.le_refl _) ?_,rfl,q _ hf⟩
 exact ⟨⟨z,Jfp⟩,us,r,⟨_,Heap.get?_push_size _ rfl,rfl,_,rfl⟩⟩
theorem JmD (h:PA X es t):PE X (.List es pos) (tLst t):=by
 intro pins s σ H Q I hq
 refine wpAny_List_spliced (thn (h pos pins s σ H _ I hq) fun us s1 ⟨xs,H1,I1,r,z,q⟩=>⟨by rw [<- r.length]; exact z,?_⟩)
 have hf:H1 s1.heap.objs.size = none:=I1.hok.fresh (Nat.le_refl _)
 refine ⟨.ref s1.heap.objs.size,upd H1 s1.heap.objs.size (.lst xs),I1.laid (t':=s1.toks) (fun b u e=>Heap.get?_push_of_some _ e) (Nat.le_refl _) ?_,rfl,q _ hf⟩
 exact ⟨z,us,0,r,Heap.get?_push_size _ rfl⟩
end
abbrev Sp:=List V -> Hp -> VK -> XK -> Prop
abbrev CXT:=List Env -> Hp -> Shared -> XK -> Value -> Shared -> Prop
structure Env0 (P:Program) (w:World) (K:PySem.W.Frag) (mg:Str -> Option Value) (base:Heap) (A:Around) (outer:List Env) (s:Shared) (H:Hp):Prop where
 frames:A.frames = some outer
 mod:Mod K mg base
 bs:∀ b o,base.get? b = some o -> s.heap.get? b = some o /\ H b = none
 bsz:base.objs.size <= s.heap.objs.size
 funs:s.heap.FunFrames base outer
 frf:∀ b ∈ frs outer,H b = none
 hok:HOk P w H s.heap
 bare:AllBare s.gens
def CE (outer:List Env) (P:Program) (w:World) (H:Hp) (s:Shared) (Q:VK) (u:Value) (s':Shared):Prop:=
 ∃ v H',s'.os = s.os /\ AllBare s'.gens /\ Un (frs outer) [] H H' s.heap s'.heap /\ HOk P w H' s'.heap /\ RelV v u /\ Q v H'
def CR (CX:CXT) (outer:List Env) (P:Program) (w:World) (H:Hp) (s:Shared) (Q:VK) (E:XK) (r:Result) (s':Shared):Prop:=
 match r with
 | .ok (.ret u)=>CE outer P w H s Q u s'
 | .ok _=>False
 | .error e=>CX outer H s E e s'
structure FnOk (P:Program) (w:World) (K:PySem.W.Frag) (mg:Str -> Option Value) (base:Heap) (CX:CXT) (k:Nat) (f:Addr) (fd:FuncData) (ps:List Str) (sp:Sp):Prop where
 len:∀ vs H Q E,sp vs H Q E -> vs.length = ps.length
 run:∀ (A:Around) (outer:List Env) (s:Shared) (H:Hp) (args:Args) (us:List Value) (vs:List V) (Q:VK) (E:XK),Room k A -> Env0 P w K mg base A outer s H -> BindsTo s fd args (ps.zip us) -> Vals vs us -> sp vs H Q E ->
  codeAny (model P w) A (.call (.ref f) args) (CR CX outer P w H s Q E) s
theorem FnOk.imp {P:Program} {w:World} {K:PySem.W.Frag} {mg:Str -> Option Value} {base:Heap} {CX:CXT} {k:Nat} {f:Addr} {fd:FuncData} {ps:List Str} {sp sp':Sp} (F:FnOk P w K mg base CX k f fd ps sp)
  (h:∀ vs H Q E,sp' vs H Q E -> sp vs H Q E):FnOk P w K mg base CX k f fd ps sp':=
 ⟨fun vs H Q E q=>F.len vs H Q E (h _ _ _ _ q),fun A outer s H args us vs Q E hr he hb hv hs=>F.run A outer s H args us vs Q E hr he hb hv (h _ _ _ _ hs)⟩
section
variable {X:Cx} {pins:List (Addr × Obj)} {σ:St} {H:Hp} {s s':Shared}
theorem Inv.env0 (I:Inv X pins σ H s):Env0 X.prog X.w X.K X.mg X.base X.A X.stack s H:=
 ⟨I.ok.frames,I.ok.mod,I.bs,Nat.le_trans I.ok.bsz I.sz,I.stack,I.stkFree,I.hok,I.bare⟩
theorem Inv.after {Q:VK} {u:Value} (I:Inv X pins σ H s) (h:CE X.stack X.prog X.w H s Q u s'):EP X pins σ Q u s':=by
 obtain ⟨v,H',os,bare,un,hok,r,q⟩:=h
 obtain ⟨hh,g,d,t,os'⟩:=s'
 obtain rfl:os' = s.os:=os
 exact ⟨v,H',I.call (h':=hh) (g':=g) (d':=d) (t':=t) (ch:=[]) un hok bare (fun b z=>absurd z (by simp)),r,q⟩
end
def tCall (sp:Sp) (dvs:List V) (E:XK) (t:TA):TE:=fun σ H Q=>t σ H fun vs H1=>sp (vs ++ dvs) H1 Q E
def Binds (K:PySem.W.Frag) (fd:FuncData) (ps:List Str) (ds:List Value):Prop:=
 ∀ (s:Shared) (us:List Value),K.In s.heap -> (us ++ ds).length = ps.length -> BindsTo s fd ⟨us,[]⟩ (ps.zip (us ++ ds))
theorem Binds.all {K:PySem.W.Frag} {fd:FuncData} {ps:List Str} (h:∀ us:List Value,us.length = ps.length -> bindArgs fd ⟨us,[]⟩ = pure (ps.zip us)):Binds K fd ps []:=fun s us _ hl=>by
 rw [List.append_nil] at hl ⊢
 exact .of_eq (h us hl)
def Passes (CX:CXT) (X:Cx) (E:XK):Prop:=∀ (pins:List (Addr × Obj)) (σ:St) (H:Hp) (s:Shared) (e:Value) (s':Shared),Inv X pins σ H s -> CX X.stack H s E e s' -> X.xe e s'
section
variable {X:Cx} {CX:CXT} {k:Nat} {f C:Addr} {fd:FuncData} {ps:List Str} {sp:Sp} {dvs:List V} {ds:List Value} {E:XK} {x m:Str} {p pos apos:Pos} {e o:Expr} {es:List Expr} {ta:TE} {t:TA}
theorem Jne {pins:List (Addr × Obj)} {σ:St} {H:Hp} {s:Shared} {Q:VK} {us:List Value} {vs:List V} (F:FnOk X.prog X.w X.K X.mg X.base CX k f fd ps sp) (hr:Room k X.A) (hb:Binds X.K fd ps ds) (hd:Vals dvs ds) (hx:Passes CX X E)
  (I:Inv X pins σ H s) (r:Vals vs us) (h:sp (vs ++ dvs) H Q E):wpAny (model X.prog X.w) X.A (call (.ref f) us) (EP X pins σ Q) X.xe s:=by
 have r2:Vals (vs ++ dvs) (us ++ ds):=r.append hd
 have hl:(us ++ ds).length = ps.length:=by rw [<- r2.length]; exact F.len _ _ _ _ h
 refine wpAny_call (codeAny_mono (F.run X.A X.stack s H ⟨us,[]⟩ (us ++ ds) (vs ++ dvs) Q E hr I.env0 (hb s us I.kIn hl) r2 h) fun r s' hq=>?_)
 cases r with
 | error e=>exact hx pins σ H s e s' I hq
 | ok fl=>
  cases fl with
  | ret u=>exact I.after hq
  | next=>exact False.elim hq
  | brk=>exact False.elim hq
  | cont=>exact False.elim hq
theorem JkK (F:FnOk X.prog X.w X.K X.mg X.base CX k f fd ps sp) (hr:Room k X.A) (hg:Gl X x) (hm:X.mg x = some (.ref f)) (hk:PySem.W.keepIn X.K (.ref f) = true) (hb:Binds X.K fd ps ds) (hd:Vals dvs ds) (hx:Passes CX X E)
  (ha:PA X (e :: es) t) (hdb:(x == ("__debug__" : Str)) = false:=by decide) (he:starEach (e :: es) X.env = (false,eval e X.env) :: starEach es X.env:=by rfl) (hpl:(backTo pos (starEach es X.env)).any (·.1) = false:=by rfl) :
  PE X (.Call (.Name x p) (e :: es) [] pos) (tCall sp dvs E t):=by
 intro pins s σ H Q I h
 refine wpAny_Call_Name_kw (JhO I hg hm ?_ hdb)
 refine PySem.W.callWith_K (h₀:=X.base) I.ok.mod.kin hk (thn (ha pos pins s σ H _ I h) fun us s1 ⟨vs,H1,I1,r,q⟩=>⟨I1.kIn,?_⟩) he hpl
 exact Jne F hr hb hd hx I1 r q
end
section
variable {X:Cx} {CX:CXT} {k:Nat} {f C:Addr} {fd:FuncData} {ps ks:List Str} {sp:Sp} {E:XK} {x m:Str} {p pos apos kpos:Pos} {e o:Expr} {es:List Expr} {kws:List Keyword} {te ta:TE} {t tk:TA} {nm:Option Str}
variable {g:List Value -> List Value -> List Value} {gV:List V -> List V -> List V}
end
structure FnScope (N P:List Str) (sc:Scope):Prop where
 kind:sc.kind = .function
 co:sc.isCoroutine = false
 gen:sc.isGenerator = false
 nd:N.Nodup
 pre:N.take P.length = P
 par:∀ x ∈ P,sc.names.lookup x = some .local \/ sc.names.lookup x = some .cell
 nofree:∀ y ∈ sc.names,y.2 ≠ .free
theorem JcS {kindOf:Str -> Option NameKind} {x:Str}:∀ {binds:List (Str × Value)} {m:Str -> Option Value},(∀ v,(x,v) ∉ binds) -> bindL kindOf binds m x = m x
 | [],_,_=>rfl
 | (n,v) :: r,m,h=>by
  unfold bindL
  rw [JcS fun w hw=>h w (List.mem_cons_of_mem _ hw)]
  split
  ·have:x ≠ n:=by rintro rfl; exact h v List.mem_cons_self
   simp [this]
  ·rfl
theorem JcP {kindOf:Str -> Option NameKind} {x:Str}:∀ {binds:List (Str × Value)} {m:Str -> Option Value},(∀ v,(x,v) ∉ binds) -> bindC kindOf binds m x = m x
 | [],_,_=>rfl
 | (n,v) :: r,m,h=>by
  unfold bindC
  rw [JcP fun w hw=>h w (List.mem_cons_of_mem _ hw)]
  split
  ·rfl
  ·have:x ≠ n:=by rintro rfl; exact h v List.mem_cons_self
   simp [this]
theorem Jdb {kindOf:Str -> Option NameKind} {x:Str} {v:Value}:∀ {P:List Str} {vs:List Value} {i:Nat} {m:Str -> Option Value},P.Nodup -> P[i]? = some x -> vs[i]? = some v -> kindOf x = some .local ->
  bindL kindOf (P.zip vs) m x = some v
 | [],_,_,_,_,h,_,_=>by simp at h
 | _ :: _,[],_,_,_,_,h,_=>by simp at h
 | p :: P,w :: vs,0,m,nd,h1,h2,hk=>by
  simp at h1 h2; subst h1; subst h2
  show bindL kindOf ((p,w) :: P.zip vs) m p = _
  unfold bindL
  rw [JcS fun v hv=>(List.nodup_cons.mp nd).1 (List.of_mem_zip hv).1,if_pos hk]
  simp
 | p :: P,w :: vs,i + 1,m,nd,h1,h2,hk=>by
  show bindL kindOf ((p,w) :: P.zip vs) m x = _
  unfold bindL
  exact Jdb (i:=i) (List.nodup_cons.mp nd).2 (by simpa using h1) (by simpa using h2) hk
theorem Jdv {kindOf:Str -> Option NameKind} {x:Str} {v:Value}:∀ {P:List Str} {vs:List Value} {i:Nat} {m:Str -> Option Value},P.Nodup -> P[i]? = some x -> vs[i]? = some v -> kindOf x ≠ some .local ->
  bindC kindOf (P.zip vs) m x = some v
 | [],_,_,_,_,h,_,_=>by simp at h
 | _ :: _,[],_,_,_,_,h,_=>by simp at h
 | p :: P,w :: vs,0,m,nd,h1,h2,hk=>by
  simp at h1 h2; subst h1; subst h2
  show bindC kindOf ((p,w) :: P.zip vs) m p = _
  unfold bindC
  rw [JcP fun v hv=>(List.nodup_cons.mp nd).1 (List.of_mem_zip hv).1,if_neg hk]
  simp
 | p :: P,w :: vs,i + 1,m,nd,h1,h2,hk=>by
  show bindC kindOf ((p,w) :: P.zip vs) m x = _
  unfold bindC
  exact Jdv (i:=i) (List.nodup_cons.mp nd).2 (by simpa using h1) (by simpa using h2) hk
def start (N:List Str) (vs:List V):St:=vs.map some ++ List.replicate (N.length - vs.length) none
def cxOf (CX:CXT) (P:Program) (w:World) (K:PySem.W.Frag) (mg:Str -> Option Value) (base:Heap) (N:List Str) (qual:Str) (scope:Scope) (f:Addr) (cd:Value) (A:Around) (outer:List Env) (s:Shared) (H:Hp) (E:XK):Cx where
 prog:=P
 w:=w
 K:=K
 mg:=mg
 base:=base
 A:=A.deeper (envOfC qual scope s.heap.objs.size f cd)
 N:=N
 s₀:=s
 H₀:=H
 env:=envOfC qual scope s.heap.objs.size f cd
 outer:=outer
 stack:=envOfC qual scope s.heap.objs.size f cd :: outer
 ex:=[]
 calm:=true
 fn:=fun _=>true
 pn:=[]
 xe:=fun e s'=>wpAny (model P w) (A.deeper (envOfC qual scope s.heap.objs.size f cd)) (leaving (envOfC qual scope s.heap.objs.size f cd) e) (fun _ s''=>CX outer H s E e s'') (fun e' s''=>CX outer H s E e' s'') s'
theorem JeA {sc:Scope} {n:Nat} {x:Str} (h:sc.names.lookup x = some .cell):∃ c,(cellsFrom n sc.names []).lookup x = some c:=by
 have q:=PySem.W.cellsFrom_some sc.names n [] (.inl h)
 exact Option.isSome_iff_exists.mp q
theorem Jic {CX:CXT} {P:Program} {w:World} {K:PySem.W.Frag} {mg:Str -> Option Value} {base:Heap} {N ps:List Str} {qual:Str} {scope:Scope} {f:Addr} {cd:Value} {A:Around} {outer:List Env} {s s1:Shared} {H:Hp} {E:XK} {us:List Value} {vs:List V}
  (S:FnScope N ps scope) (hd:A.handled = none) (e0:Env0 P w K mg base A outer s H) (hl:vs.length = ps.length) (r:Vals vs us)
  (x:InCallC s s.heap.objs.size (bindL (envOfC qual scope s.heap.objs.size f cd).kindOf (ps.zip us) fun _=>none) (cellsFrom (s.heap.objs.size + 1) scope.names []) (bindC (envOfC qual scope s.heap.objs.size f cd).kindOf (ps.zip us) fun _=>none) s1) :
  Inv (cxOf CX P w K mg base N qual scope f cd A outer s H E) [] (start N vs) H s1:=by
 have hpl:ps.length <= N.length:=by have:=congrArg List.length S.pre; rw [List.length_take] at this; omega
 obtain ⟨h1,tk,rfl,hk⟩:=x.done
 have noA:∀ b:Addr,b ∉ (cxOf CX P w K mg base N qual scope f cd A outer s H E).ex:=fun b z=>absurd (show b ∈ ([]:List Addr) from z) (by simp)
 refine ⟨⟨e0.mod,S.kind,rfl,rfl,Nat.le_refl _,fun y z c h1 h2=>?_,fun y hy=>?_,fun y c _ h=>?_,fun _=>hd,Around.frames_deeper e0.frames,.inr ⟨rfl,rfl⟩,fun b z=>absurd z (noA b),e0.bs,e0.bsz,fun b _ _=>noA b,fun b z=>absurd z (noA b),e0.funs,e0.frf⟩,
  rfl,e0.bare,Un.kept hk,⟨_,x.toInCall.ns,fun i y v h1 h2 h3=>?_⟩,fun y c h=>⟨_,x.cell y c h⟩,e0.hok.fresh (Nat.le_refl _),fun y c h=>?_,fun p hp=>absurd (show p ∈ ([]:List (Addr × Obj)) from hp) (by simp),e0.hok.kept hk,?_⟩
 ·exact name_of_addr x.apart (PySem.mem_of_lookup h1) (PySem.mem_of_lookup h2)
 ·have hy:scope.names.lookup y = some .cell \/ scope.names.lookup y = some .free:=hy
  rcases hy with hy | hy
  ·exact JeA hy
  ·exact absurd rfl (S.nofree _ (PySem.mem_of_lookup hy))
 ·exact Nat.le_of_lt (x.above y c (PySem.mem_of_lookup h))
 ·have hi:i < vs.length:=by
   unfold start at h2
   by_cases hi:i < vs.length
   ·exact hi
   ·rw [List.getElem?_append_right (by simpa using hi)] at h2
    rw [List.getElem?_replicate] at h2
    split at h2 <;> cases h2
  have ha:vs[i]? = some v:=by
   unfold start at h2
   rw [List.getElem?_append_left (by simpa using hi),List.getElem?_map] at h2
   cases e:vs[i]? with
   | none=>rw [e] at h2; cases h2
   | some a=>rw [e] at h2; cases h2; rfl
  obtain ⟨u,hu,rv⟩:=r.get ha
  have hp:ps[i]? = some y:=by
   rw [<- S.pre,List.getElem?_take_of_lt (by omega)]; exact h1
  have ndP:ps.Nodup:=by rw [<- S.pre]; exact S.nd.sublist (List.take_sublist _ _)
  refine ⟨u,rv,?_⟩
  rcases S.par y (List.mem_of_getElem? hp) with k | k
  ·exact .inl ⟨k,Jdb ndP hp hu k⟩
  ·obtain ⟨c,e⟩:=JeA (n:=s.heap.objs.size + 1) k
   refine .inr ⟨.inl k,c,e,?_⟩
   have q:=x.cell y c e
   rw [Jdv ndP hp hu (by show scope.names.lookup y ≠ _; rw [k]; decide)] at q
   exact q
 ·exact e0.hok.fresh (Nat.le_of_lt (x.above y c (PySem.mem_of_lookup h)))
 ·unfold start
  show _ = N.length
  rw [List.length_append,List.length_map,List.length_replicate]
  omega
theorem fn_of {CX:CXT} {P:Program} {w:World} {K:PySem.W.Frag} {mg:Str -> Option Value} {base:Heap} {k:Nat} {f:Addr} {name qual:Str} {params:Arguments} {body:List Stmt} {scope:Scope} {dV kV doc pm cdv ct oc:Value} {an od:Option Addr}
  {osl:Array (Option Value)} {N ps:List Str} {sp:Sp} (lk:K.lookup f = some ⟨oc,od,.func (PySem.W.fnOf name qual params body scope dV kV doc pm an cdv ct),osl⟩) (hcd:PySem.W.codeIn K cdv qual = true) (S:FnScope N ps scope)
  (len:∀ vs H Q E,sp vs H Q E -> vs.length = ps.length)
  (hbody:∀ (A:Around) (outer:List Env) (s:Shared) (H:Hp) (vs:List V) (Q:VK) (E:XK),Room k (A.deeper (envOfC qual scope s.heap.objs.size f cdv)) -> sp vs H Q E ->
   ∃ t,PSs (cxOf CX P w K mg base N qual scope f cdv A outer s H E) body t /\ t { nx:=fun _ H'=>Q .non H',rt:=Q } (start N vs) H) :
  FnOk P w K mg base CX (k + 1) f (PySem.W.fnOf name qual params body scope dV kV doc pm an cdv ct) ps sp:=by
 refine ⟨len,fun A outer s H args us vs Q E hr e0 hb r hsp=>?_⟩
 have hl:=len _ _ _ _ hsp
 have KX:K.In s.heap:=e0.mod.kin.keeps fun b o e=>(e0.bs b o e).1
 have lim:s.heap.NoLimit:=e0.mod.nolimit.keeps fun b o e=>(e0.bs b o e).1
 have hkind:∀ y ∈ ps.zip us,scope.names.lookup y.1 = some .local \/ (scope.names.lookup y.1 = some .cell /\ ((cellsFrom (s.heap.objs.size + 1) scope.names []).lookup y.1).isSome = true):=fun ⟨n,v⟩ hy=>by
  rcases S.par n (List.of_mem_zip hy).1 with q | q
  ·exact .inl q
  ·exact .inr ⟨q,PySem.W.cellsFrom_some _ _ _ (.inl q)⟩
 refine codeAny_call_function hr.depth (KX _ _ lk) rfl S.co S.gen rfl (PySem.W.codeRec_of KX hcd) (hb _ _ _ _ ?_)
 refine wpAny_newFunctionEnv_cells S.kind hkind fun env he s1 x=>?_
 subst he
 refine ⟨lim.keeps x.toInCall.keep,codeAny_func ?_⟩
 obtain ⟨t,ht,hq⟩:=hbody A outer s H vs Q E (hr.deeper _) hsp
 have I:Inv (cxOf CX P w K mg base N qual scope f cdv A outer s H E) [] (start N vs) H s1:=Jic S hr.hd e0 hl r x
 refine wpAny_mono (ht [] s1 (start N vs) H _ I hq) (fun fl s' hs=>?_) fun e s' hs=>hs
 have fin:∀ {σ':St} {H':Hp} {v:V} {u:Value},Inv (cxOf CX P w K mg base N qual scope f cdv A outer s H E) [] σ' H' s' -> RelV v u -> Q v H' -> CE outer P w H s Q u s':=
  fun {σ' H' v u} J rv q=>⟨v,H',J.os,J.bare,J.base,J.hok,rv,q⟩
 cases fl with
 | ret u=>
  obtain ⟨v,σ',H',J,rv,q⟩:=hs
  exact fin J rv q
 | next=>
  obtain ⟨σ',H',J,q⟩:=hs
  exact fin (v:=V.non) (u:=Value.none) J rfl q
 | brk=>
  obtain ⟨_,_,_,q⟩:=hs
  exact False.elim q
 | cont=>
  obtain ⟨_,_,_,q⟩:=hs
  exact False.elim q
end L2
namespace L2
open PySem PySem.Spec PyProof.Rows
section
variable {X:Cx} {x:Str} {p pos:Pos} {e:Expr} {es:List Expr} {t:TA} {id T:String} {r:List V -> Hp -> VK -> Prop}
def tCB (r:List V -> Hp -> VK -> Prop) (t:TA):TE:=fun σ H Q=>t σ H fun vs H1=>r vs H1 Q
theorem JeC (hc:CallR X (.builtin id) r) (hg:Gl X x) (hm:X.mg x = none) (hv:bootBuiltins x = some (.builtin id)) (ha:PA X (e :: es) t) (hn:x ≠ "__name__":=by decide) (hdb:(x == ("__debug__" : Str)) = false:=by decide)
  (he:starEach (e :: es) X.env = (false,eval e X.env) :: starEach es X.env:=by rfl) (hpl:(backTo pos (starEach es X.env)).any (·.1) = false:=by rfl):PE X (.Call (.Name x p) (e :: es) [] pos) (tCB r t):=by
 intro pins s σ H Q I h
 refine wpAny_Call_Name_kw (JbG I hg hm hv ?_ hn hdb)
 exact PyProof.Rows.callWith_builtin1 (thn (ha pos pins s σ H _ I h) fun us s1 ⟨vs,H1,I1,r1,q1⟩=>hc pins s1 σ H1 vs us Q I1 r1 q1) he hpl
theorem JcN (hc:CallR X (.type T) r) (hg:Gl X x) (hm:X.mg x = none) (hv:bootBuiltins x = some (.type T)) (ha:PA X (e :: es) t) (hn:x ≠ "__name__":=by decide) (hdb:(x == ("__debug__" : Str)) = false:=by decide)
  (he:starEach (e :: es) X.env = (false,eval e X.env) :: starEach es X.env:=by rfl) (hpl:(backTo pos (starEach es X.env)).any (·.1) = false:=by rfl):PE X (.Call (.Name x p) (e :: es) [] pos) (tCB r t):=by
 intro pins s σ H Q I h
 refine wpAny_Call_Name_kw (JbG I hg hm hv ?_ hn hdb)
 exact PyProof.Rows.callWith_type1 (thn (ha pos pins s σ H _ I h) fun us s1 ⟨vs,H1,I1,r1,q1⟩=>hc pins s1 σ H1 vs us Q I1 r1 q1) he hpl
end
end L2
namespace HT
open PySem PyProof.Rows
section
open PySem.SeqAt
open PySem.AutoSeq1 (wpAny_loadPart')
open PySem.MeetsSeq PySem.MeetsSeq2 PySem.MeetsSeq3
end
section
variable {prog:Program} {w:World} {A:Around} {E:Value -> Shared -> Prop} {s:Shared}
theorem JlB {t b:Addr} {vs ws:List Value} {Q:Value -> Shared -> Prop} (ht:IsTup s.heap t vs.toArray) (hb:IsTup s.heap b ws.toArray) (hv:vs ≠ [])
  (h1:ws = [] -> Q (.ref t) s) (h2:ws ≠ [] -> Q (.ref s.heap.objs.size) { s with heap:=s.heap.push { cls:=.type "tuple",data:=.seq (vs ++ ws).toArray } })
  (hsz:vs.length + ws.length <= sizeLine):wpAny (model prog w) A (binaryOp .Add (.ref t) (.ref b)) Q E s:=by
 obtain ⟨⟨cls,dd,data,sl⟩,ho,hc,n,hd⟩:=id ht
 obtain ⟨⟨cls2,dd2,data2,sl2⟩,ho2,hc2,n2,hd2⟩:=id hb
 simp only at hc hd hc2 hd2
 subst hc hd hc2 hd2
 have e:vs.toArray ++ ws.toArray = (vs ++ ws).toArray:=by simp
 by_cases hw:ws = []
 ·exact concat_meets ⟨_,ho,rfl⟩ ⟨_,ho2,rfl⟩ noFill_tuple_add seq_tuple_add PySem.F.slot_tuple_add PySem.F.entry_tuple_add (PySem.F.args_tuple_add_2 _ _)
   (tuple_addW1 t b vs.toArray ws.toArray n n2 dd dd2 sl sl2 (by simpa using hv) (by simp [hw])) ⟨ho,ho2,h1 hw⟩
 ·refine concat_meets ⟨_,ho,rfl⟩ ⟨_,ho2,rfl⟩ noFill_tuple_add seq_tuple_add PySem.F.slot_tuple_add PySem.F.entry_tuple_add (PySem.F.args_tuple_add_2 _ _)
   (tuple_addW2 t b vs.toArray ws.toArray n n2 dd dd2 sl sl2 (by simpa using hv) (by simpa using hw) (by rw [List.size_toArray,List.size_toArray]; exact hsz)) ⟨ho,ho2,?_⟩
  rw [e]
  exact h2 hw
def sIx (n d:Nat):Option Int -> Nat
 | none=>d
 | some v=>if v < 0 then (v + (n:Int)).toNat else min v.toNat n
theorem JmM (n d:Nat) (hd:d <= n) (o:Option Int):sIx n d o <= n:=by
 cases o with
 | none=>exact hd
 | some v=>
  show (if v < 0 then (v + (n:Int)).toNat else min v.toNat n) <= n
  by_cases hv:v < 0
  ·rw [if_pos hv]; omega
  ·rw [if_neg hv]; exact Nat.min_le_right _ _
theorem JgW (v:Int) (n d:Nat):(if v < 0 then max (v + (n:Int)) 0 else min v (n:Int)) = ((sIx n d (some v):Nat):Int):=by
 show (if v < 0 then max (v + (n:Int)) 0 else min v (n:Int)) = (((if v < 0 then (v + (n:Int)).toNat else min v.toNat n):Nat):Int)
 by_cases hv:v < 0
 ·simp only [if_pos hv]; omega
 ·simp only [if_neg hv]; omega
theorem JfR (lo hi:Option Int) (n:Nat):Builtin.Slice.sliceAdjust lo hi 1 (n:Int) = (((sIx n 0 lo:Nat):Int),((sIx n n hi:Nat):Int)):=by
 have h1:¬ ((1:Int) < 0):=by omega
 unfold Builtin.Slice.sliceAdjust
 simp only [h1,if_false]
 refine Prod.ext ?_ ?_
 ·cases lo with
  | none=>rfl
  | some v=>exact JgW v n 0
 ·cases hi with
  | none=>rfl
  | some v=>exact JgW v n n
theorem JfG (i j:Nat):Builtin.Slice.slicePlaces (i:Int) (j:Int) 1 = j - i:=by
 unfold Builtin.Slice.slicePlaces
 have h1:(1:Int) > 0:=by omega
 simp only [h1,if_true,Int.ediv_one]
 split <;> omega
theorem JbQ {v:Value} {o:Option Int} {Q:Option Int -> Shared -> Prop} (p:IsPart v o) (h:Q o s):wpAny (model prog w) A (Builtin.Slice.slicePartIndex v) Q E s:=by
 cases p with
 | none=>exact slicePart_none h
 | int i t=>exact slicePart_int h
theorem JL {sl:Addr} {vl vu:Value} {lo hi:Option Int} {n:Nat} {Q:Int × Int × Nat -> Shared -> Prop} (hs:s.heap.IsSliceOf sl vl vu .none) (pl:IsPart vl lo) (pu:IsPart vu hi)
  (h:Q (((sIx n 0 lo:Nat):Int),1,sIx n n hi - sIx n 0 lo) s):wpAny (model prog w) A (Builtin.Slice.sliceApplied (.ref sl) (pure (n:Int))) Q E s:=by
 obtain ⟨os,hos,hcs,hds⟩:=id hs
 unfold Builtin.Slice.sliceApplied Builtin.Slice.sliceFields
 refine wpAny_bind (wpAny_bind (wpAny_field hos hds (x:=vl) rfl (wpAny_bind (wpAny_field hos hds (x:=vu) rfl (wpAny_bind (wpAny_field hos hds (x:=.none) rfl (wpAny_pure ?_)))))))
 refine wpAny_bind (slicePart_none ?_)
 show wpAny _ _ (if ((1:Int) == 0) = true then _ else _) _ _ s
 rw [if_neg (by decide)]
 refine wpAny_bind (JbQ pl (wpAny_bind (JbQ pu (wpAny_bind (wpAny_pure ?_)))))
 show wpAny _ _ (match Builtin.Slice.sliceAdjust lo hi 1 (n:Int) with | (lo,hi)=>pure (lo,(1:Int),Builtin.Slice.slicePlaces lo hi 1)) _ _ s
 rw [JfR lo hi n]
 show wpAny _ _ (pure (((sIx n 0 lo:Nat):Int),(1:Int),Builtin.Slice.slicePlaces ((sIx n 0 lo:Nat):Int) ((sIx n n hi:Nat):Int) 1)) _ _ s
 rw [JfG]
 exact wpAny_pure h
theorem JiV (xs:Array Value) (i k:Nat):((List.range k).filterMap fun (m:Nat)=>xs[((i:Int) + (m:Int) * 1).toNat]?).toArray = ((xs.toList.drop i).take k).toArray:=by
 have e:(fun (m:Nat)=>xs[((i:Int) + (m:Int) * 1).toNat]?) = fun m=>xs[i + m]?:=by
  funext m
  have:((i:Int) + (m:Int) * 1).toNat = i + m:=by omega
  rw [this]
 rw [e]
 have:=pick_run xs i k
 rw [List.filterMap_map] at this
 have e2:((fun x=>xs[x]?) ∘ fun x=>i + x) = fun m=>xs[i + m]?:=rfl
 rw [e2] at this
 rw [this]
theorem Jax {t sl:Addr} {items:Array Value} {vl vu:Value} {lo hi:Option Int} {Q:Value -> Shared -> Prop} (ht:IsTup s.heap t items) (hs:s.heap.IsSliceOf sl vl vu .none) (pl:IsPart vl lo) (pu:IsPart vu hi)
  (hw:¬ (sIx items.size 0 lo = 0 /\ sIx items.size items.size hi = items.size))
  (h:Q (.ref s.heap.objs.size) { s with heap:=s.heap.push { cls:=.type "tuple",data:=.seq ((items.toList.drop (sIx items.size 0 lo)).take (sIx items.size items.size hi - sIx items.size 0 lo)).toArray } })
  (hsz:items.size <= sizeLine):wpAny (model prog w) A (getItem (.ref t) (.ref sl)) Q E s:=by
 have htake:sizeOk (.seq ((items.toList.drop (sIx items.size 0 lo)).take (sIx items.size items.size hi - sIx items.size 0 lo)).toArray):=by
  show ((items.toList.drop (sIx items.size 0 lo)).take (sIx items.size items.size hi - sIx items.size 0 lo)).toArray.size <= sizeLine
  rw [List.size_toArray,List.length_take,List.length_drop,Array.length_toList]
  omega
 have hj:sIx items.size items.size hi <= items.size:=JmM _ _ (Nat.le_refl _) hi
 obtain ⟨os,hos,hcs,hds⟩:=id hs
 have hTs:s.TypeIs (.ref sl) "slice":=⟨os,hos,hcs⟩
 unfold getItem
 try with_reducible refine wpAny_holding ?_
 first | refine wpAny_bind (wpAny_pure ?_) | skip
 refine wpAny_bind (wpAny_sequenceKey ht.typeIs (by decide) ?_)
 refine wpAny_bind (wpAny_callSpecial?_slot (name:=Str.ofString "__getitem__") ht.typeIs PyProof.Rows.slot_tuple_getitem
  (wpAny_call_entry PyProof.Rows.slot_tuple_getitem ht.typeIs entry_tuple_getitem ?_ (args_tuple_getitem _ _)))
 show wpAny _ _ (Builtin.Tuple.tupleItemsOf (.ref t) >>= _) _ _ s
 refine wpAny_bind (tupleItemsOf_ ht ?_)
 refine wpAny_bind (wpAny_typeOf hTs ?_)
 rw [if_pos (by decide)]
 refine wpAny_bind (JL hs pl pu ?_)
 have hno:¬ ((((sIx items.size 0 lo:Nat):Int) == 0 && (1:Int) == 1 && (sIx items.size items.size hi - sIx items.size 0 lo) == items.size) = true):=by
  intro q
  rw [Bool.and_eq_true,Bool.and_eq_true] at q
  have q1:((sIx items.size 0 lo:Nat):Int) = 0:=eq_of_beq q.1.1
  have q2:sIx items.size items.size hi - sIx items.size 0 lo = items.size:=eq_of_beq q.2
  exact hw ⟨by omega,by omega⟩
 show wpAny _ _ (if (((sIx items.size 0 lo:Nat):Int) == 0 && (1:Int) == 1 && (sIx items.size items.size hi - sIx items.size 0 lo) == items.size) = true then _ else _) _ _ s
 rw [if_neg hno,JiV]
 first
  | exact wpAny_bind (m:=Builtin.Tuple.tupleExact _) (wpAny_newObj_type (wpAny_pure ⟨_,rfl,wpAny_pure h⟩) htake)
  | exact wpAny_bind (m:=Builtin.Tuple.tupleExact _) (wpAny_newObj_type (wpAny_bind (wpAny_pure (wpAny_pure ⟨_,rfl,wpAny_pure h⟩))) htake)
  | exact wpAny_bind (wpAny_bind (m:=Builtin.Tuple.tupleExact _) (wpAny_newObj_type (wpAny_pure (wpAny_pure ⟨_,rfl,wpAny_pure h⟩)) htake))
  | exact wpAny_bind (wpAny_bind (m:=Builtin.Tuple.tupleExact _) (wpAny_newObj_type (wpAny_pure ⟨_,rfl,wpAny_pure h⟩) htake))
end
end HT
namespace L2
open PySem PySem.Spec PyProof.Rows
abbrev TO:=St -> Hp -> (Option Int -> Hp -> Prop) -> Prop
def PO (X:Cx) (e:Option Expr) (t:TO):Prop:=
 ∀ (pins:List (Addr × Obj)) (s:Shared) (σ:St) (H:Hp) (Q:Option Int -> Hp -> Prop),Inv X pins σ H s -> t σ H Q ->
  wpAny (model X.prog X.w) X.A (evalPart e X.env) (fun u s'=>∃ o H',Inv X pins σ H' s' /\ IsPart u o /\ Q o H') X.xe s
def tNoPart:TO:=fun _ H Q=>Q none H
def tPart (t:TE):TO:=fun σ H Q=>t σ H fun x H1=>∃ i,x = .int i /\ Q (some i) H1
theorem JfN {ns:List Int}:∀ {us:List Value},Vals (ns.map V.int) us -> IntsAre us ns:=by
 induction ns with
 | nil=>intro us r; rw [List.map_nil] at r; cases r; exact .nil
 | cons n ns ih=>
  intro us r
  rw [List.map_cons] at r
  cases r with
  | cons r1 r2=>
   obtain ⟨t,e⟩:=r1
   subst e
   exact .cons n t (ih r2)
section
variable {X:Cx} {e:Expr} {te:TE} {lo hi:Option Expr} {tl th:TO} {pos p2:Pos}
theorem JlR:PO X none tNoPart:=by
 intro pins s σ H Q I h
 rw [evalPart_none]
 exact wpAny_pure ⟨none,H,I,.none,h⟩
theorem Jmb (h:PE X e te):PO X (some e) (tPart te):=by
 intro pins s σ H Q I hw
 rw [evalPart_some]
 refine thn (h pins s σ H _ I hw) fun u s1 ⟨x,H1,I1,r1,q1⟩=>?_
 obtain ⟨i,rfl,q⟩:=q1
 obtain ⟨t,rfl⟩:=r1
 exact ⟨some i,H1,I1,.int i t,q⟩
def SlR (X:Cx) (r:V -> Option Int -> Option Int -> Hp -> VK -> Prop):Prop:=
 ∀ (pins:List (Addr × Obj)) (s:Shared) (σ:St) (H:Hp) (x:V) (v vl vu:Value) (lo hi:Option Int) (sl:Addr) (Q:VK),Inv X pins σ H s -> RelV x v -> s.heap.IsSliceOf sl vl vu .none -> IsPart vl lo -> IsPart vu hi -> r x lo hi H Q ->
  ∃ T id,typeLookup (.type T) "__getitem__" = pure (some (.builtin id)) /\ s.TypeIs v T /\ wpAny (model X.prog X.w) X.A (getItem v (.ref sl)) (EP X pins σ Q) X.xe s
def tSl (r:V -> Option Int -> Option Int -> Hp -> VK -> Prop) (te:TE) (tl th:TO):TE:=fun σ H Q=>te σ H fun x H1=>tl σ H1 fun l H2=>th σ H2 fun u H3=>r x l u H3 Q
theorem JiL {r:V -> Option Int -> Option Int -> Hp -> VK -> Prop} (hr:SlR X r) (he:PE X e te) (hl:PO X lo tl) (hu:PO X hi th):PE X (.Subscript e (.Slice lo hi none p2) pos) (tSl r te tl th):=by
 intro pins s σ H Q I h
 refine Subscript_ (thn (he pins s σ H _ I h) fun v s1 ⟨x,H1,I1,r1,q1⟩=>?_)
 refine wpAny_Slice (thn (hl pins s1 σ H1 _ I1 q1) fun vl s2 ⟨l,H2,I2,pl,q2⟩=>thn (hu pins s2 σ H2 _ I2 q2) fun vu s3 ⟨u,H3,I3,pu,q3⟩=>?_)
 rw [evalPart_none]
 refine wpAny_pure ?_
 have I4:Inv X pins σ H3 { s3 with heap:=s3.heap.push { cls:=.type "slice",data:=.fields #[vl,vu,.none] } }:=I3.kept (t':=s3.toks) fun b ob q=>Heap.get?_push_of_some _ q
 obtain ⟨T,id,hT,ht,hg⟩:=hr pins { s3 with heap:=s3.heap.push { cls:=.type "slice",data:=.fields #[vl,vu,.none] } } σ H3 x v vl vu l u s3.heap.objs.size Q I4 r1 (Heap.IsSliceOf.new ..) pl pu q3
 show wpAny (model X.prog X.w) X.A (subscriptTail e (.Slice lo hi none p2) v (.ref s3.heap.objs.size)) (EP X pins σ Q) X.xe { s3 with heap:=s3.heap.push { cls:=.type "slice",data:=.fields #[vl,vu,.none] } }
 exact tail_any (ops:=[.ref s3.heap.objs.size,v]) ht hT hg (by with_unfolding_all rfl)
def cutV (xs:List V) (lo hi:Option Int):List V:=(xs.drop (HT.sIx xs.length 0 lo)).take (HT.sIx xs.length xs.length hi - HT.sIx xs.length 0 lo)
theorem Jby (xs:List V) (lo hi:Option Int):(cutV xs lo hi).length <= xs.length:=by
 unfold cutV
 rw [List.length_take,List.length_drop]
 omega
def rSlT (K:PySem.W.Frag):V -> Option Int -> Option Int -> Hp -> VK -> Prop:=fun x lo hi H Q=>∃ a xs,x = .ref a /\ SqT K H a xs /\
 ¬ (HT.sIx xs.length 0 lo = 0 /\ HT.sIx xs.length xs.length hi = xs.length) /\ ∀ p,H p = none -> Q (.ref p) (upd H p (.tup (cutV xs lo hi)))
theorem JnN:SlR X (rSlT X.K):=by
 intro pins s σ H x v vl vu lo hi sl Q I rx hs pl pu h
 obtain ⟨a,xs,rfl,hx,hw,q⟩:=h
 cases rx
 obtain ⟨its,r,ht,hz⟩:=I.tuple hx
 have hlen:its.toArray.size = xs.length:=by rw [List.size_toArray]; exact r.length.symm
 refine ⟨"tuple",_,PyProof.Rows.slot_tuple_getitem.lookup,ht.typeIs,?_⟩
 refine HT.Jax ht hs pl pu (by rw [hlen]; exact hw) ?_ (by rw [hlen]; exact hz)
 rw [hlen]
 refine ⟨.ref s.heap.objs.size,_,I.laid (t':=s.toks) (o:=.tup (cutV xs lo hi)) (fun b ob q=>Heap.get?_push_of_some _ q) (Nat.le_refl _) ?_,rfl,q _ (I.hok.fresh (Nat.le_refl _))⟩
 exact ⟨⟨Nat.le_trans (Jby xs lo hi) hz,Jfp⟩,_,(r.drop (HT.sIx xs.length 0 lo)).take (HT.sIx xs.length xs.length hi - HT.sIx xs.length 0 lo),IsTup.new _ _⟩
def rCatT (K:PySem.W.Frag):R2:=fun x y H Q=>∃ a b xs ys,x = .ref a /\ y = .ref b /\ SqT K H a xs /\ SqT K H b ys /\ xs ≠ [] /\ xs.length + ys.length <= sizeLine /\
 (ys = [] -> Q (.ref a) H) /\ (ys ≠ [] -> ∀ p,H p = none -> Q (.ref p) (upd H p (.tup (xs ++ ys))))
theorem Vals.nil_iff {xs:List V} {us:List Value} (r:Vals xs us):us = [] ↔ xs = []:=by
 cases r with
 | nil=>simp
 | cons _ _=>simp
theorem Jlh:OpR X (binaryOp .Add) (rCatT X.K):=by
 intro pins s σ H x y v u Q I rx ry h
 obtain ⟨a,b,xs,ys,rfl,rfl,ha,hb,hx,hz,q1,q2⟩:=h
 cases rx
 cases ry
 obtain ⟨its,r1,p1,_⟩:=I.tuple ha
 obtain ⟨its2,r2,p2,_⟩:=I.tuple hb
 refine HT.JlB p1 p2 (fun z=>hx (r1.nil_iff.mp z)) (fun z=>⟨.ref a,H,I,rfl,q1 (r2.nil_iff.mp z)⟩) (fun z=>?_) (by rw [<- r1.length,<- r2.length]; exact hz)
 refine ⟨.ref s.heap.objs.size,_,I.laid (t':=s.toks) (o:=.tup (xs ++ ys)) (fun b ob q=>Heap.get?_push_of_some _ q) (Nat.le_refl _) ?_,rfl,q2 (fun w=>z (r2.nil_iff.mpr w)) _ (I.hok.fresh (Nat.le_refl _))⟩
 exact ⟨⟨by rw [List.length_append]; exact hz,Jfp⟩,_,r1.append r2,IsTup.new _ _⟩
end
end L2
namespace L2
open PySem PySem.Spec PyProof.Rows
def ixN (n:Nat) (i:Int):Option Nat:=if 0 <= i then (if i < n then some i.toNat else none) else if -(n:Int) <= i then some (i + n).toNat else none
def atI {α:Type} (xs:List α) (i:Int):Option α:=(ixN xs.length i).bind fun j=>xs[j]?
theorem Jma {n:Nat} {i:Int} {j:Nat} (h:ixN n i = some j):seqIndex? i n = some j /\ j < n /\ -(n:Int) <= i /\ i < n:=by
 unfold ixN at h
 by_cases h0:0 <= i
 ·rw [if_pos h0] at h
  by_cases h1:i < n
  ·rw [if_pos h1] at h
   have e:i.toNat = j:=Option.some.inj h
   exact ⟨by rw [seqIndex_of h0 h1,e],by omega,by omega,h1⟩
  ·rw [if_neg h1] at h; cases h
 ·rw [if_neg h0] at h
  by_cases h1:-(n:Int) <= i
  ·rw [if_pos h1] at h
   have e:(i + n).toNat = j:=Option.some.inj h
   exact ⟨by rw [seqIndex_neg (by omega) h1,e],by omega,h1,by omega⟩
  ·rw [if_neg h1] at h; cases h
theorem JdY {α:Type} {xs:List α} {i:Int} {v:α} (h:atI xs i = some v):∃ j,seqIndex? i xs.length = some j /\ xs[j]? = some v /\ j < xs.length /\ -(xs.length:Int) <= i /\ i < xs.length:=by
 unfold atI at h
 cases e:ixN xs.length i with
 | none=>rw [e] at h; cases h
 | some j=>
  rw [e] at h
  obtain ⟨h1,h2,h3,h4⟩:=Jma e
  exact ⟨j,h1,h,h2,h3,h4⟩
def PlainIx (b:Expr):Prop:=∀ o i,subscripted b false o i = operate [o,i] (getItem o i)
def IxR (X:Cx) (r:R2):Prop:=
 ∀ (value slice:Expr) (pins:List (Addr × Obj)) (s:Shared) (σ:St) (H:Hp) (x y:V) (v u:Value) (Q:VK),Inv X pins σ H s -> RelV x v -> RelV y u -> r x y H Q ->
  subscripted slice false v u = operate [v,u] (getItem v u) -> wpAny (model X.prog X.w) X.A (subscriptTail value slice v u) (EP X pins σ Q) X.xe s
def MtR (X:Cx) (id:String) (r:V -> List V -> Hp -> VK -> Prop):Prop:=
 ∀ (pins:List (Addr × Obj)) (s:Shared) (σ:St) (H:Hp) (x:V) (xs:List V) (v:Value) (us:List Value) (Q:VK),Inv X pins σ H s -> RelV x v -> Vals xs us -> r x xs H Q ->
  wpAny (model X.prog X.w) X.A (call (.builtin id) (v :: us)) (EP X pins σ Q) X.xe s
section
variable {X:Cx} {a b:Expr} {ta tb:TE} {pos:Pos}
theorem pe_ix {r:R2} (hr:IxR X r) (ha:PE X a ta) (hb:PE X b tb) (hs:PlainIx b):PE X (.Subscript a b pos) (tOp r ta tb):=by
 intro pins s σ H Q I h
 exact Subscript_ (binT ha hb I h fun v u s2 x y H2 I2 rx ry q=>hr a b pins s2 σ H2 x y v u Q I2 rx ry q (hs _ _))
def rIxL (K:PySem.W.Frag):R2:=fun x y H Q=>∃ p xs i v,x = .ref p /\ y = .int i /\ SqL K H p xs /\ atI xs i = some v /\ Q v H
def rIxT (K:PySem.W.Frag):R2:=fun x y H Q=>∃ p xs i v,x = .ref p /\ y = .int i /\ SqT K H p xs /\ atI xs i = some v /\ Q v H
def rIxS:R2:=fun x y H Q=>∃ z i c,x = .str z /\ y = .int i /\ z.length <= sizeLine /\ atI z.cps.toList i = some c /\ Q (.str ⟨#[c]⟩) H
theorem JkG:IxR X (rIxL X.K):=by
 intro value slice pins s σ H x y v u Q I rx ry h hs
 obtain ⟨p,xs,i,z,rfl,rfl,hq,he,q⟩:=h
 cases rx
 obtain ⟨t,rfl⟩:=ry
 obtain ⟨its,r,pl,hz⟩:=I.list hq
 obtain ⟨j,h1,h2,h3,h4,h5⟩:=JdY he
 obtain ⟨w,ew,rw'⟩:=r.get h2
 have hl:=r.length
 have hn:=JbP
 have fin:EP X pins σ Q w s:=⟨z,H,I,rw',q⟩
 by_cases h0:0 <= i
 ·have hj:i.toNat = j:=by
   rw [seqIndex_of h0 h5] at h1
   exact Option.some.inj h1
  exact item_listR pl.isList h0 (by omega) (by rw [hj]; simpa using ew) fin hs
 ·have hj:(i + (its.toArray.size:Int)).toNat = j:=by
   rw [seqIndex_neg (by omega) h4] at h1
   rw [List.size_toArray,<- hl]
   exact Option.some.inj h1
  exact subscriptTail_builtinR (x:=w) pl.isList.typeIs slot_list_getitem.lookup
   (wpAny_getItem_list_neg (Q:=fun r s'=>r = w /\ EP X pins σ Q r s') pl.isList (by omega) (by rw [List.size_toArray] <;> omega) (by omega) (by rw [hj]; simpa using ew) ⟨rfl,fin⟩) hs
theorem Jnm:IxR X (rIxT X.K):=by
 intro value slice pins s σ H x y v u Q I rx ry h hs
 obtain ⟨p,xs,i,z,rfl,rfl,hq,he,q⟩:=h
 cases rx
 obtain ⟨t,rfl⟩:=ry
 obtain ⟨its,r,pl,hz⟩:=I.tuple hq
 obtain ⟨j,h1,h2,h3,h4,h5⟩:=JdY he
 obtain ⟨w,ew,rw'⟩:=r.get h2
 have hl:=r.length
 have hn:=JbP
 have fin:EP X pins σ Q w s:=⟨z,H,I,rw',q⟩
 exact subscriptTail_builtinR (x:=w) pl.typeIs slot_tuple_getitem.lookup
  (getItem_tuple (j:=j) (Q:=fun r s'=>r = w /\ EP X pins σ Q r s') pl (by omega) (by omega) (by rw [List.size_toArray,<- hl]; exact h1) (by simpa using ew) ⟨rfl,fin⟩) hs
theorem Jnx:IxR X rIxS:=by
 intro value slice pins s σ H x y v u Q I rx ry h hs
 obtain ⟨z,i,c,rfl,rfl,hz,he,q⟩:=h
 obtain ⟨t,rfl⟩:=rx
 obtain ⟨t',rfl⟩:=ry
 obtain ⟨j,h1,h2,h3,h4,h5⟩:=JdY he
 have hl:z.cps.toList.length = z.length:=by simp [Str.length]
 rw [hl] at h1 h4 h5
 have hn:=JbP
 exact tail_any (typeIs_str s z t) slot_str_getitem.lookup (getItem_str (c:=c) (by
  have e1:decide (i < -(2 ^ 63:Int)) = false:=decide_eq_false (by omega)
  have e2:decide (i ≥ 2 ^ 63) = false:=decide_eq_false (by omega)
  rw [e1,e2,Bool.or_false]) (by rw [h1]; simpa using h2) ⟨.str ⟨#[c]⟩,H,I.tok _,⟨_,rfl⟩,q⟩) hs
theorem Jdo (lo hi:Option Int) (n:Nat):(sliceBounds lo hi none n).1 = ((HT.sIx n 0 lo:Nat):Int) /\ (sliceBounds lo hi none n).2.1 = ((HT.sIx n n hi:Nat):Int) /\ (sliceBounds lo hi none n).2.2 = 1:=by
 refine ⟨?_,?_,rfl⟩
 ·cases lo with
  | none=>simp [sliceBounds,HT.sIx]
  | some i=>
   simp only [sliceBounds,HT.sIx,Option.getD_none,show (1:Int) > 0 by decide,if_true]
   by_cases h:i < 0
   ·simp only [h,if_true] <;> omega
   ·simp only [h,if_false] <;> omega
 ·cases hi with
  | none=>simp [sliceBounds,HT.sIx]
  | some i=>
   simp only [sliceBounds,HT.sIx,Option.getD_none,show (1:Int) > 0 by decide,if_true]
   by_cases h:i < 0
   ·simp only [h,if_true] <;> omega
   ·simp only [h,if_false] <;> omega
theorem Jcg (its:List Value) (lo hi:Option Int):slicePick its.toArray lo hi none = ((its.drop (HT.sIx its.length 0 lo)).take (HT.sIx its.length its.length hi - HT.sIx its.length 0 lo)).toArray:=by
 obtain ⟨h1,h2,h3⟩:=Jdo lo hi its.toArray.size
 unfold slicePick
 rw [h1,h2,h3]
 simp only [sliceRange_one,pick_run,List.size_toArray] <;> rfl
def rSlL (K:PySem.W.Frag):V -> Option Int -> Option Int -> Hp -> VK -> Prop:=fun x lo hi H Q=>∃ a xs,x = .ref a /\ SqL K H a xs /\ ∀ p,H p = none -> Q (.ref p) (upd H p (.lst (cutV xs lo hi)))
theorem JlD:SlR X (rSlL X.K):=by
 intro pins s σ H x v vl vu lo hi sl Q I rx hs pl pu h
 obtain ⟨a,xs,rfl,hx,q⟩:=h
 cases rx
 obtain ⟨its,r,ht,hz⟩:=I.list hx
 have hlen:=r.length
 refine ⟨"list",_,slot_list_getitem.lookup,ht.isList.typeIs,?_⟩
 refine wpAny_getItem_list_slice ht.isList hs pl pu .none (by simp) ?_ (by rw [List.size_toArray] <;> omega)
 rw [Jcg,<- hlen]
 refine ⟨.ref s.heap.objs.size,_,I.laid (t':=s.toks) (o:=.lst (cutV xs lo hi)) (fun b ob q=>Heap.get?_push_of_some _ q) (Nat.le_refl _) ?_,rfl,q _ (I.hok.fresh (Nat.le_refl _))⟩
 exact ⟨Nat.le_trans (Jby xs lo hi) hz,_,0,(r.drop (HT.sIx xs.length 0 lo)).take (HT.sIx xs.length xs.length hi - HT.sIx xs.length 0 lo),Heap.get?_push_size _ rfl⟩
theorem JaJ:CallR X (.builtin "len") (fun xs H Q=>∃ p ys,xs = [.ref p] /\ (SqL X.K H p ys \/ SqT X.K H p ys) /\ Q (.int ys.length) H):=by
 intro pins s σ H xs us Q I r h
 obtain ⟨p,ys,rfl,hq,q⟩:=h
 obtain ⟨u,rfl,rx⟩:=JaP r
 cases rx
 have hn:=JbP
 rcases hq with hq | hq
 ·obtain ⟨its,r',pl,hz⟩:=I.list hq
  have hlen:=r'.length
  exact Calls.call_len_list pl.isList (by simp only [List.size_toArray] <;> omega) ⟨.int ys.length,H,I.tok _,⟨s.toks + 1,by rw [List.size_toArray,hlen]⟩,q⟩
 ·obtain ⟨its,r',pl,hz⟩:=I.tuple hq
  have hlen:=r'.length
  exact len_tuple pl (by simp only [List.size_toArray] <;> omega) ⟨.int ys.length,H,I.tok _,⟨s.toks + 1,by rw [List.size_toArray,hlen]⟩,q⟩
theorem Jdn:CallR X (.builtin "len") (fun xs H Q=>∃ z,xs = [.str z] /\ z.length <= sizeLine /\ Q (.int z.length) H):=by
 intro pins s σ H xs us Q I r h
 obtain ⟨z,rfl,hz,q⟩:=h
 obtain ⟨u,rfl,t,rfl⟩:=JaP r
 have hn:=JbP
 exact len_str (by omega) ⟨.int z.length,H,I.tok _,⟨_,rfl⟩,q⟩
theorem Jav:CallR X (.type "tuple") (fun xs H Q=>∃ p ys,xs = [.ref p] /\ ((SqL X.K H p ys /\ ∀ l,H l = none -> Q (.ref l) (upd H l (.tup ys))) \/ (SqT X.K H p ys /\ Q (.ref p) H))):=by
 intro pins s σ H xs us Q I r h
 obtain ⟨p,ys,rfl,h⟩:=h
 obtain ⟨u,rfl,rx⟩:=JaP r
 cases rx
 rcases h with ⟨hq,q⟩ | ⟨hq,q⟩
 ·obtain ⟨its,r',pl,hz⟩:=I.list hq
  have hlen:=r'.length
  refine call_tuple_list pl.isList (fun h' kp=>?_) (by simp only [List.size_toArray] <;> omega)
  have I1:Inv X pins σ H { s with heap:=h' }:=I.kept (t':=s.toks) kp
  have I2:Inv X pins σ (upd H h'.objs.size (.tup ys)) { s with heap:=h'.push { cls:=.type "tuple",data:=.seq its.toArray } }:=
   I1.laid (t':=s.toks) (fun b o e=>Heap.get?_push_of_some _ e) (Nat.le_refl _) (show ObjOk X.prog X.w _ _ _ (.tup ys) from ⟨⟨hz,Jfp⟩,its,r',IsTup.new _ _⟩)
  exact ⟨.ref h'.objs.size,_,I2,rfl,q _ (I1.hok.fresh (Nat.le_refl _))⟩
 ·obtain ⟨its,r',pl,hz⟩:=I.tuple hq
  exact call_tuple_same pl ⟨.ref p,H,I,rfl,q⟩
def tyV (K:PySem.W.Frag) (T:String) (x:V) (H:Hp):Prop:=match x with
 | .str _=>T = "str"
 | .int _=>T = "int"
 | .ref p=>(T = "list" /\ ∃ xs,SqL K H p xs) \/ (T = "tuple" /\ ∃ o,K.lookup p = some o /\ o.cls = .type "tuple" /\ o.dict = none) \/
   (T = "dict" /\ ((∃ kvs,H p = some (.dK kvs)) \/ ∃ kvs,H p = some (.dT kvs))) \/ (T = "set" /\ ∃ S n,H p = some (.set S n))
 | _=>False
theorem Job {pins:List (Addr × Obj)} {σ:St} {H:Hp} {s:Shared} {T:String} {x:V} {v:Value} (I:Inv X pins σ H s) (r:RelV x v) (ty:tyV X.K T x H) :
  s.TypeIs v T /\ ∀ a,v = .ref a -> ∃ ob,s.heap.get? a = some ob /\ ob.dict = none:=by
 cases x with
 | str z=>
  obtain ⟨t,rfl⟩:=r
  cases (show T = "str" from ty)
  exact ⟨typeIs_str s z t,fun _ e=>nomatch e⟩
 | int i=>
  obtain ⟨t,rfl⟩:=r
  cases (show T = "int" from ty)
  exact ⟨typeIs_int s i t,fun _ e=>nomatch e⟩
 | ref p=>
  cases r
  rcases ty with ⟨rfl,xs,hq⟩ | ⟨rfl,o,hk,hc,hd⟩ | ⟨rfl,hk⟩ | ⟨rfl,S,n,hk⟩
  ·obtain ⟨its,_,pl,_⟩:=I.list hq
   refine ⟨pl.isList.typeIs,fun a e=>?_⟩
   cases e
   obtain ⟨o,n,e,c,hd,_⟩:=pl
   exact ⟨o,e,hd⟩
  ·refine ⟨⟨o,I.kIn p o hk,hc⟩,fun a e=>?_⟩
   cases e
   exact ⟨o,I.kIn _ o hk,hd⟩
  ·have z:∃ o,s.heap.get? p = some o /\ o.ExactDict:=by
    rcases hk with ⟨kvs,hk⟩ | ⟨kvs,hk⟩
    ·obtain ⟨_,_,_,_,o,_,_,e,ex,_⟩:=I.hok p _ hk
     exact ⟨o,e,ex⟩
    ·obtain ⟨_,_,_,_,o,_,_,e,ex,_⟩:=I.hok p _ hk
     exact ⟨o,e,ex⟩
   obtain ⟨o,e,ex⟩:=z
   refine ⟨⟨o,e,ex.1⟩,fun a e2=>?_⟩
   cases e2
   exact ⟨o,e,ex.2.1⟩
  ·obtain ⟨o,_,_,_,e,ex,_⟩:=I.hok p _ hk
   refine ⟨⟨o,e,ex.1⟩,fun a e2=>?_⟩
   cases e2
   exact ⟨o,e,ex.2.1⟩
 | _=>exact False.elim ty
def tBM (K:PySem.W.Frag) (T:String) (r:V -> List V -> Hp -> VK -> Prop) (to:TE) (t:TA):TE:=fun σ H Q=>to σ H fun x H1=>tyV K T x H1 /\ t σ H1 fun xs H2=>r x xs H2 Q
variable {o e:Expr} {es:List Expr} {to:TE} {t:TA} {name:Str} {apos cpos:Pos} {T id:String} {r:V -> List V -> Hp -> VK -> Prop}
theorem Jlq (pa:PlainAttrs T) (slot:Slot T name id) (hty:typeOf (.builtin id) = pure (.type "method_descriptor")) (hm:MtR X id r) (ho:PE X o to) (ha:PA X (e :: es) t)
  (hbase:attributeBase o name X.env (eval o X.env) = eval o X.env:=by rfl)
  (hfew:((backTo cpos (starEach (e :: es) X.env)).all (fun x=>!x.1) && (backToKw cpos (keywordEach [] X.env)).all (fun x=>x.1.isSome)
   && decide ((e :: es).length + ([]:List Keyword).length + (if ([]:List Keyword).isEmpty then 0 else 1) < 30)) = true:=by rfl)
  (hline:(apos.endLine == cpos.line) = true:=by rfl) (hs:starEach (e :: es) X.env = (false,eval e X.env) :: starEach es X.env:=by rfl) (hplain:(backTo cpos (starEach es X.env)).any (·.1) = false:=by rfl) :
  PE X (.Call (.Attribute o name apos) (e :: es) [] cpos) (tBM X.K T r to t):=by
 intro pins s σ H Q I h
 refine wpAny_Call_method_late hbase hfew hline rfl (thn (ho pins s σ H _ I h) fun v s1 ⟨x,H1,I1,r1,ty,q1⟩=>?_)
 obtain ⟨h1,h2⟩:=Job I1 r1 ty
 refine ⟨T,id,pa,slot,hty,h1,h2,?_⟩
 have hA:=ha cpos pins s1 σ H1 _ I1 q1
 rw [hs] at hA ⊢
 refine Calls.callWith_builtin (by show (false || (backTo cpos (starEach es X.env)).any (·.1)) = false; rw [hplain] <;> rfl) (Calls.evalArgs_plain ?_)
 exact thn hA fun us s2 ⟨vs,H2,I2,r2,q2⟩=>hm pins s2 σ H2 x vs v us Q I2 r1 r2 q2
end
end L2
namespace L2
open PySem PySem.Spec PyProof.Rows
def MtM (X:Cx) (id:String) (r:V -> List V -> Hp -> VK -> Prop):Prop:=
 ∀ (pins:List (Addr × Obj)) (s:Shared) (σ:St) (H:Hp) (x:V) (xs:List V) (v:Value) (us:List Value) (Q:VK),Inv X pins σ H s -> RelV x v -> Vals xs us -> r x xs H Q ->
  wpAny (model X.prog X.w) X.A (call (.builtin id) (v :: us)) (EP X pins σ Q) X.xe s
theorem Vals.one:∀ {x:V} {us:List Value},Vals [x] us -> ∃ u,us = [u] /\ RelV x u
 | _,_,.cons r .nil=>⟨_,rfl,r⟩
theorem Vals.reverse {xs:List V} {us:List Value} (h:Vals xs us):Vals xs.reverse us.reverse:=by
 induction h with
 | nil=>exact .nil
 | cons r t ih=>rw [List.reverse_cons,List.reverse_cons]; exact Vals.append ih (.cons r .nil)
theorem Vals.rep {xs:List V} {us:List Value} (h:Vals xs us):∀ k:Nat,Vals (List.replicate k xs).flatten (List.replicate k us).flatten
 | 0=>.nil
 | k + 1=>by
  rw [List.replicate_succ,List.replicate_succ,List.flatten_cons,List.flatten_cons]
  exact Vals.append h (Vals.rep h k)
theorem Jdd (its:List Value):∀ (k:Nat) (acc:List Value),
  List.foldl (fun x1 x2=>x1 ++ x2) acc.toArray (List.replicate k its.toArray) = (acc ++ (List.replicate k its).flatten).toArray
 | 0,acc=>by simp
 | k + 1,acc=>by
  have e:acc.toArray ++ its.toArray = (acc ++ its).toArray:=by simp
  have e2:(acc ++ its) ++ (List.replicate k its).flatten = acc ++ (List.replicate (k + 1) its).flatten:=by
   rw [List.replicate_succ,List.flatten_cons,List.append_assoc]
  rw [<- e2,<- Jdd its k (acc ++ its),<- e,List.replicate_succ,List.foldl_cons]
section
variable {X:Cx} {pins:List (Addr × Obj)} {σ:St} {H:Hp} {s:Shared} {l b:Addr} {xs ys zs:List V}
theorem Inv.lset {its its':List Value} {n:Nat} {f:Array Value -> Array Value} {t':Nat} (I:Inv X pins σ H s) (hH:H l = some (.lst xs))
  (e:s.heap.get? l = some { cls:=.type "list",data:=.seq its.toArray n }) (hf:f its.toArray = its'.toArray) (hv:Vals ys its') (hz:ys.length <= sizeLine) :
  Inv X pins σ (upd H l (.lst ys)) { s with heap:=s.heap.update l (Obj.mapSeq f),toks:=t' }:=by
 have q:=PySem.IsL.update e f
 rw [hf] at q
 refine I.write (x:=l) (e:=l) (by rw [hH]; exact trivial) (.inl rfl) (fun b' u hb hu=>(Heap.get?_update_other s.heap (Obj.mapSeq f) (Ne.symm hb)).trans hu) ⟨_,q⟩ ?_
 exact ⟨hz,its',_,hv,q⟩
theorem Inv.lnew {its:List Value} {t':Nat} (I:Inv X pins σ H s) (hv:Vals ys its) (hz:ys.length <= sizeLine) :
  Inv X pins σ (upd H s.heap.objs.size (.lst ys)) { s with heap:=s.heap.push { cls:=.type "list",data:=.seq its.toArray },toks:=t' }:=
 I.laid (fun _ _ q=>Heap.get?_push_of_some _ q) (Nat.le_refl _) ⟨hz,its,0,hv,Heap.get?_push_size _ rfl⟩
theorem Inv.fresh (I:Inv X pins σ H s):H s.heap.objs.size = none:=I.hok.fresh (Nat.le_refl _)
theorem Inv.lstM (I:Inv X pins σ H s) (hH:H l = some (.lst xs)):xs.length <= sizeLine /\ ∃ (its:List Value) (n:Nat),Vals xs its /\ xs.length = its.length /\ s.heap.get? l = some { cls:=.type "list",data:=.seq its.toArray n }:=by
 obtain ⟨z,its,n,r,e⟩:=I.hok l _ hH
 exact ⟨z,its,n,r,r.length,e⟩
theorem Jfw {n:Nat} (h:n <= sizeLine):Builtin.List.listTooLong n = false:=by
 unfold Builtin.List.listTooLong
 exact decide_eq_false (by omega)
end
section
variable {X:Cx}
def rAppend:V -> List V -> Hp -> VK -> Prop:=fun x vs H Q=>∃ l xs y,x = .ref l /\ vs = [y] /\ H l = some (.lst xs) /\ xs.length < sizeLine /\ Q .non (upd H l (.lst (xs ++ [y])))
theorem Jge:MtM X "list.append" rAppend:=by
 intro pins s σ H x vs v us Q I rx rv h
 obtain ⟨l,xs,y,rfl,rfl,hH,hz,q⟩:=h
 cases rx
 obtain ⟨u,rfl,ru⟩:=rv.one
 obtain ⟨z,its,n,r,hl,e⟩:=I.lstM hH
 refine call_meets F.slot_list_append ⟨_,e,rfl⟩ F.entry_list_append (F.args_list_append_2 _ _) (PySem.list_append l its.toArray n u (by rw [List.size_toArray]; omega)) ⟨e,?_⟩
 refine ⟨.non,_,I.lset (its':=its ++ [u]) hH e (by simp) (r.append (.cons ru .nil)) ?_,rfl,q⟩
 rw [List.length_append,List.length_singleton]
 omega
def rRep:R2:=fun x y H Q=>∃ l k xs,x = .ref l /\ y = .int k /\ H l = some (.lst xs) /\ -(2 ^ 63) <= k /\ k < 2 ^ 63 /\ xs.length * k.toNat <= sizeLine /\
 ∀ p,H p = none -> Q (.ref p) (upd H p (.lst (List.replicate k.toNat xs).flatten))
theorem JkC {α:Type} (xs:List α) (k:Nat):(List.replicate k xs).flatten.length = k * xs.length:=by
 induction k with
 | zero=>simp
 | succ k ih=>rw [List.replicate_succ,List.flatten_cons,List.length_append,ih,Nat.succ_mul,Nat.add_comm]
theorem Jmn:OpR X (binaryOp .Mult) rRep:=by
 intro pins s σ H x y v u Q I rx ry h
 obtain ⟨l,k,xs,rfl,rfl,hH,h1,h2,hz,q⟩:=h
 cases rx
 obtain ⟨t,rfl⟩:=ry
 obtain ⟨z,its,n,r,hl,e⟩:=I.lstM hH
 have hlen:its.toArray.size * k.toNat <= sizeLine:=by rw [List.size_toArray,<- hl]; exact hz
 have hcap:¬ its.toArray.size * k.toNat > (2 ^ 63 - 1) / 8:=by
  have:(sizeLine:Nat) <= (2 ^ 63 - 1) / 8:=by decide
  omega
 have hfit:¬ (!Builtin.List.listFitsIndex k) = true:=by
  rw [fitsIndex_both h1 h2]
  exact Bool.false_ne_true
 have hlong:¬ Builtin.List.listTooLong (its.toArray.size * k.toNat) = true:=by
  rw [Jfw hlen]
  exact Bool.false_ne_true
 have hnew:List.foldl (fun x1 x2=>x1 ++ x2) #[] (List.replicate (if its.toArray.isEmpty = true then 0 else k.toNat) its.toArray) = (List.replicate k.toNat its).flatten.toArray:=by
  have f0:∀ m:Nat,List.foldl (fun x1 x2=>x1 ++ x2) #[] (List.replicate m its.toArray) = (List.replicate m its).flatten.toArray:=fun m=>by
   have:=Jdd its m []
   rw [List.nil_append] at this
   exact this
  rw [f0]
  cases its with
  | nil=>simp
  | cons a r'=>rw [if_neg (by simp)]
 refine wpAny_binaryOp_repeat_ref (T:="list") (U:="int") (by decide) ⟨_,e,rfl⟩ (fun s'=>typeIs_int s' k t) noFill_list_mul F.fills_int_mul F.slot_int_rmul repeat_list F.slot_int_index.lookup
  (call_meets F.slot_int_rmul (typeIs_int s k t) F.entry_int_rmul (F.args_int_rmul_2 _ _) (int___rmul___int_list k t l its.toArray n)
   ⟨e,rfl,⟨_,e,rfl⟩,call_meets F.slot_list_mul ⟨_,e,rfl⟩ F.entry_list_mul (F.args_list_mul_2 _ _) (AutoListH.list___mul___list_int_3 l its.toArray n k t hfit hcap hlong) ⟨e,?_⟩⟩)
 rw [hnew]
 exact ⟨.ref _,_,I.lnew (t':=s.toks) (r.rep k.toNat) (by rw [JkC,Nat.mul_comm]; exact hz),rfl,q _ I.fresh⟩
end
section
variable {prog:Program} {w:World} {A:Around} {E:Value -> Shared -> Prop} {s:Shared}
end
section
variable {X:Cx}
end
end L2
namespace Att
open PySem PySem.W PySem.Calls PyProof.Rows
theorem Jbk {P:Params} {h:Heap}:∀ (ns:List Int) (vs:List Value),WellAll P h vs (ns.map WData.int) -> IntsAre vs ns:=by
 intro ns
 induction ns with
 | nil=>
  intro vs w
  rw [List.map_nil] at w
  cases w
  exact .nil
 | cons n ns ih=>
  intro vs w
  rw [List.map_cons] at w
  cases w with
  | cons a b=>
   cases a
   exact .cons _ _ (ih _ b)
theorem Jhr {l:OpenLaw} {n:Nat} (hn:l.most = some n) {P:Params} {h:Heap} {args:List WData} {vals:List Value}
  (hpre:l.row.toRowW.claim.pre args = true) (hwl:WellAll P h vals args) :
  ∃ a vs ns,vals = [Value.ref a] /\ args = [WData.list (ns.map WData.int)] /\ h.get? a = some { cls:=.type "list",data:=.seq vs.toArray } /\ IntsAre vs ns /\ ns.length <= n:=by
 have hsh:WShape.hasAll [] args [.list .int] = true:=(pre_splitW hpre).1
 have hc:l.pre.holds [] { args:=args } = true:=(pre_splitW hpre).2
 obtain ⟨d,r,rfl,h1,h2⟩:=hasAllW_cons hsh
 obtain rfl:=hasAllW_nil h2
 obtain ⟨xs,rfl,h3⟩:=hasW_list h1
 obtain ⟨ns,rfl⟩:=items_int h3
 have hlen:ns.length <= n:=by
  unfold OpenLaw.pre at hc
  have h4:(WTm.not (.lt (.lit (.int (n:Int))) (.len (.arg 0)))).holds [] { args:=[.list (ns.map .int)] } = true:=by
   have h4:=(holds_andW hc).1
   rw [hn] at h4
   exact h4
  have h5:=condW_of h4 (w_not (w_lt w_lit (w_len_list (w_arg rfl))))
  rw [List.length_map] at h5
  refine Nat.le_of_not_lt fun q=>?_
  have q':(n:Int) < ((ns.length:Nat):Int):=by omega
  first
   | (rw [decide_eq_true q'] at h5; exact absurd h5 (by decide))
   | (simp at h5; omega)
 cases hwl with
 | cons w1 w2=>
  cases w2
  cases w1 with
  | list ho hall=>exact ⟨_,_,ns,rfl,rfl,ho,Jbk ns _ hall,hlen⟩
theorem JhR (l:OpenLaw) (args:List WData):l.row.toRowW.claim.post args (.bool true) args = true:=
 postW_of (r:=l.row.toRowW) (X:=(true == true))
  (show WShape.has [] (.bool true) .bool = true by first | rfl | decide | simp [WShape.has,WShape.arms,WShape.armsAll])
  (show (WTm.eq .res (.lit (.bool true))).value [] { args:=args,res:=some (.bool true),after:=args } = some (.bool (true == true)) from w_eq_bool (w_res rfl) w_lit) rfl
theorem JdE {l:OpenLaw} {n:Nat} {q:Program} {loose:List Str} {XP:(Str -> Option Value) -> Heap -> Prop} {YP:World -> Heap -> Prop} {d:DefRec}
  (hn:l.most = some n) (hdf:d.params.defaults = [])
  (call:∀ (w:World) (s₀ s₁:Shared) (mg mb:Str -> Option Value) (fa:Addr) (o:Obj) (pm cd doc:Value) (a:Addr) (vs:List Value) (ns:List Int),
   Ground q loose [] XP w s₀ mg mb s₁.heap -> YP w s₁.heap ->
   s₁.heap.get? fa = some o -> o.data = .func (docDef d.name d.params d.body d.scope pm cd doc) -> s₁.heap.CodeRec cd d.name -> mg d.name = some (.ref fa) ->
   s₁.heap.get? a = some { cls:=.type "list",data:=.seq vs.toArray } -> IntsAre vs ns -> ns.length <= n -> s₁.gens = #[] ->
   codeAny (model l.prog w) callerA (.call (.ref fa) ⟨[.ref a],[]⟩) (fun r s'=>r = .ok (.ret (.bool true)) /\ OldK s₁.heap s'.heap /\ s'.os = s₁.os /\ AllBare s'.gens) s₁) :
  WalkO q loose XP YP l.row.toRowW d [] (fun f vs=>PySem.call f vs):=by
 intro w s₀ s₁ mg mb G Y fa o pm cd doc dV kV ho hd hcd hD hmg hg args vals as hpre hlay hrd hwl hlo
 obtain rfl:dV = .none:=Dflts.none hD hdf
 obtain rfl:kV = .none:=Dflts.noKw hD
 obtain ⟨a,vs,ns,rfl,rfl,hobj,hints,hlen⟩:=Jhr hn hpre hwl
 refine enter_call (codeAny_mono (call w s₀ s₁ mg mb fa o pm cd doc a vs ns G Y ho (fd_plain hd) hcd hmg hobj hints hlen hg) fun r s' hq=>?_)
 obtain ⟨rfl,h2,h3,h4⟩:=hq
 exact ⟨.inl ⟨.bool true,.bool true,[],rfl,fun _=>rfl,.bool true,JhR l _,fun _=>⟨List.Pairwise.nil,fun _ hm=>(nomatch hm)⟩⟩,h2,h3,h4⟩
section
variable {prog:Program} {w:World} {A:Around} {E:Value -> Shared -> Prop} {s:Shared} {K:Frag}
end
end Att
namespace L2
open PySem PySem.Spec PyProof.Rows
theorem JcC:∀ {vs:List Value} {ns:List Int},IntsAre vs ns -> Vals (ns.map V.int) vs
 | _,_,.nil=>.nil
 | _,_,.cons n t h=>.cons ⟨t,rfl⟩ (JcC h)
def Only (H:Hp):Prop:=∀ b,H b = none \/ ∃ o xs,H b = some (.frz o (.lst xs))
theorem Jjn {P:Program} {w:World} {K:PySem.W.Frag} {mg mb:Str -> Option Value} {CX:CXT} {k:Nat} {fa a:Addr} {fd:FuncData} {x:Str} {sp:Sp} {s₁:Shared} {vs:List Value} {ns:List Int}
  (KX:K.In s₁.heap) (hns:s₁.heap.Ns mainGlobals mg) (hb:s₁.heap.Ns builtinsNs mb) (hbb:∀ x:Str,x ≠ "__name__" -> mb x = bootBuiltins x) (hlim:s₁.heap.NoLimit) (hg:s₁.gens = #[])
  (ha:s₁.heap.get? a = some { cls:=.type "list",data:=.seq vs.toArray }) (hi:IntsAre vs ns) (hl:ns.length <= sizeLine) (hr:Room k callerA)
  (F:∀ base:Heap,K.In base -> base.Ns mainGlobals mg -> FnOk P w K mg base CX k fa fd [x] sp) (hbind:∀ (s:Shared) (u:Value),BindsTo s fd ⟨[u],[]⟩ [(x,u)])
  (hsp:∀ H:Hp,Only H -> SqL K H a (ns.map V.int) -> sp [.ref a] H (fun v _=>v = .bl true) fun _ _ _=>False)
  (hCX:∀ H e s',CX [] H s₁ (fun _ _ _=>False) e s' -> False) :
  codeAny (model P w) callerA (.call (.ref fa) ⟨[.ref a],[]⟩) (fun r s'=>r = .ok (.ret (.bool true)) /\ OldK s₁.heap s'.heap /\ s'.os = s₁.os /\ AllBare s'.gens) s₁:=by
 have rv:=JcC hi
 have lenV:=hi.length
 have core:∀ H:Hp,Only H -> SqL K H a (ns.map V.int) -> HOk P w H s₁.heap -> (∀ b,H b ≠ none -> b = a) -> (H a ≠ none -> K.lookup a = none) ->
   codeAny (model P w) callerA (.call (.ref fa) ⟨[.ref a],[]⟩) (fun r s'=>r = .ok (.ret (.bool true)) /\ OldK s₁.heap s'.heap /\ s'.os = s₁.os /\ AllBare s'.gens) s₁:=by
  intro H hO hS hok hA hK
  have base_of:∀ {b:Addr} {o:Obj},s₁.heap.get? b = some o -> H b = none -> (hidT s₁.heap H).get? b = some o:=fun e n=>Jjt e n
  have noA:∀ {b:Addr} {o:Obj} {es:Array DictEntry} {ep:Nat},s₁.heap.get? b = some o -> o.data = .dict es ep -> H b = none:=fun {b o es ep} e d=>by
   cases q:H b with
   | none=>rfl
   | some u=>
    have e':b = a:=hA b (by rw [q]; simp)
    subst e'
    rw [ha] at e; cases e
    have d':Data.seq vs.toArray _ = Data.dict es ep:=d
    cases d'
  have nsK:∀ {b:Addr} {m:Str -> Option Value},s₁.heap.Ns b m -> (hidT s₁.heap H).Ns b m:=fun {b m} ⟨o,es,ep,e,d,r⟩=>⟨o,es,ep,base_of e (noA e d),d,r⟩
  have hKb:K.In (hidT s₁.heap H):=fun b o e=>base_of (KX b o e) (by
   cases q:H b with
   | none=>rfl
   | some u=>
    have e':b = a:=hA b (by rw [q]; simp)
    subst e'
    rw [hK (by rw [q]; simp)] at e; cases e)
  have hM:Mod K mg (hidT s₁.heap H):=⟨hKb,nsK hns,⟨mb,nsK hb,hbb⟩,let ⟨mc,h1,h2⟩:=hlim; ⟨mc,nsK h1,h2⟩⟩
  have e0:Env0 P w K mg (hidT s₁.heap H) callerA [] s₁ H:=⟨rfl,hM,fun b o e=>Jmd e,Nat.le_of_eq (JgD _ _),trivial,fun b hb=>absurd (show b ∈ ([]:List Addr) from hb) (by simp),hok,.of_eq hg⟩
  refine codeAny_mono ((F _ hKb (nsK hns)).run callerA [] s₁ H ⟨[.ref a],[]⟩ [.ref a] [.ref a] _ _ hr e0 (hbind s₁ (.ref a)) (.cons rfl .nil) (hsp H hO hS)) fun r s' h=>?_
  cases r with
  | error e=>exact (hCX H e s' h).elim
  | ok fl=>
   cases fl with
   | next=>exact False.elim h
   | brk=>exact False.elim h
   | cont=>exact False.elim h
   | ret u=>
    obtain ⟨v,H',os,bare,un,hok',r',q⟩:=h
    have q':v = .bl true:=q
    subst q'
    obtain rfl:u = Value.bool true:=r'
    refine ⟨rfl,OldK.of_keep fun b o e=>?_,os,bare⟩
    cases q:H b with
    | none=>exact un.keep b o e q (by intro z; exact absurd (show b ∈ ([]:List Addr) from z) (by simp)) (by simp)
    | some u=>
     rcases hO b with z | ⟨ob,xs,z⟩
     ·rw [q] at z; cases z
     ·have z2:=un.frzs b ob _ z
      obtain ⟨e1,_⟩:=hok b _ z
      obtain ⟨e2,_⟩:=hok' b _ z2
      rw [e] at e1; cases e1
      exact e2
 cases hk:K.lookup a with
 | some o=>
  have e:=KX a o hk
  rw [ha] at e
  cases e
  refine core (fun _=>none) (fun _=>.inl rfl) (.inr ⟨_,vs.toArray,_,hk,rfl,rfl,rfl,by rw [List.size_toArray,lenV]; exact hl,by simpa using rv⟩) (fun b u z=>by have z':(none:Option HO) = some u:=z; cases z') (fun b z=>absurd rfl z) fun z=>absurd rfl z
 | none=>
  refine core (fun b=>if b = a then some (.frz { cls:=.type "list",data:=.seq vs.toArray } (.lst (ns.map V.int))) else none) (fun b=>?_) (.inl (.inr ⟨{ cls:=.type "list",data:=.seq vs.toArray },if_pos rfl⟩)) (fun b u z=>?_) (fun b z=>?_) fun _=>hk
  ·by_cases hb:b = a
   ·exact .inr ⟨_,_,if_pos hb⟩
   ·exact .inl (if_neg hb)
  ·by_cases hb:b = a
   ·have z':=(if_pos hb).symm.trans z
    cases z'
    subst hb
    exact ⟨ha,by rw [List.length_map]; exact hl,vs,_,rv,ha⟩
   ·have z':=(if_neg hb).symm.trans z
    cases z'
  ·by_cases hb:b = a
   ·exact hb
   ·exact absurd (if_neg hb) z
end L2
namespace L2
open PySem PySem.Spec PyProof.Rows
abbrev KOf {K:PySem.W.Frag} {h:Heap} (_:K.In h):PySem.W.Frag:=K
theorem Jls {l:PySem.W.OpenLaw} {n k:Nat} {q:Program} {loose:List Str} {XP:(Str -> Option Value) -> Heap -> Prop} {YP:World -> Heap -> Prop} {d:DefRec} {K:Params -> PySem.W.Frag} {CX:World -> CXT} {sp:World -> Sp} {x:Str}
  (hn:l.most = some n) (hn2:n <= sizeLine) (hdf:d.params.defaults = []) (hr:Room k callerA)
  (hY:∀ (w:World) (h:Heap),YP w h -> (K w.params).In h)
  (F:∀ (w:World) (mg:Str -> Option Value) (fa:Addr) (h:Heap),(K w.params).In h -> h.Ns mainGlobals mg -> mg d.name = some (.ref fa) ->
   ∃ fd:FuncData,(∀ (s:Shared) (u:Value),BindsTo s fd ⟨[u],[]⟩ [(x,u)]) /\
    ∀ base:Heap,(K w.params).In base -> base.Ns mainGlobals mg -> FnOk l.prog w (K w.params) mg base (CX w) k fa fd [x] (sp w))
  (hsp:∀ (w:World) (H:Hp) (a:Addr) (ns:List Int),ns.length <= n -> Only H -> SqL (K w.params) H a (ns.map V.int) -> sp w [.ref a] H (fun v _=>v = .bl true) fun _ _ _=>False)
  (hCX:∀ (w:World) (H:Hp) (s:Shared) (e:Value) (s':Shared),CX w [] H s (fun _ _ _=>False) e s' -> False) :
  PySem.W.WalkO q loose XP YP l.row.toRowW d [] (fun f vs=>PySem.call f vs):=by
 refine Att.JdE hn hdf fun w s₀ s₁ mg mb fa o pm cd doc a vs ns G Y ho hd hcd hmg hobj hints hlen hg=>?_
 have KX:=hY w _ Y
 obtain ⟨fd,hb,hF⟩:=F w mg fa _ KX G.T.g hmg
 exact Jjn KX G.T.g G.T.b G.T.builtins G.T.nolimit hg hobj hints (Nat.le_trans hlen hn2) hr hF hb (fun H hO hS=>hsp w H a ns hlen hO hS) fun H e s'=>hCX w H s₁ e s'
end L2
namespace L2
open PySem PySem.Spec PyProof.Rows
def defArgs (s:Stmt):Arguments:=match s with
 | .FunctionDef _ a _ _ _ _ _ _ _ _=>a
 | _=>{ posonlyargs:=[],args:=[],vararg:=none,kwonlyargs:=[],kw_defaults:=[],kwarg:=none,defaults:=[] }
def defBody (s:Stmt):List Stmt:=match s with
 | .FunctionDef _ _ b _ _ _ _ _ _ _=>b
 | _=>[]
def defScope (s:Stmt):Scope:=match s with
 | .FunctionDef _ _ _ _ _ _ sc _ _ _=>sc
 | _=>{ kind:=.function,names:=[],isGenerator:=false,isCoroutine:=false }
structure Fun (K:PySem.W.Frag) (x qual:Str) (st:Stmt) (f:Addr) (fd:FuncData):Prop where
 ex:∃ (oc:Value) (od:Option Addr) (kV doc pm:Value) (an:Option Addr) (cdv ct:Value) (osl:Array (Option Value)),
  fd = PySem.W.fnOf x qual (defArgs st) (defBody st) (defScope st) .none kV doc pm an cdv ct /\ K.lookup f = some ⟨oc,od,.func fd,osl⟩ /\ PySem.W.codeIn K cdv qual = true
 kp:PySem.W.keepIn K (.ref f) = true
section
variable {P:Program} {w:World} {K:PySem.W.Frag} {mg:Str -> Option Value} {base:Heap}
theorem Fun.binds {x qual:Str} {st:Stmt} {f:Addr} {fd:FuncData} {ps:List Str} (F:Fun K x qual st f fd)
  (h:∀ (kV doc pm:Value) (an:Option Addr) (cdv ct:Value) (us:List Value),us.length = ps.length -> bindArgs (PySem.W.fnOf x qual (defArgs st) (defBody st) (defScope st) .none kV doc pm an cdv ct) ⟨us,[]⟩ = pure (ps.zip us)):Binds K fd ps []:=by
 obtain ⟨oc,od,kV,doc,pm,an,cdv,ct,osl,rfl,lk,hcd⟩:=F.ex
 exact .all (h kV doc pm an cdv ct)
theorem Jot {x qual:Str} {st:Stmt} {f:Addr} {oc:Value} {od an:Option Addr} {osl:Array (Option Value)} {kV doc pm cdv ct:Value} (l:K.lookup f = some ⟨oc,od,.func (PySem.W.fnOf x qual (defArgs st) (defBody st) (defScope st) .none kV doc pm an cdv ct),osl⟩)
  (c:PySem.W.codeIn K cdv qual = true) (k:PySem.W.keepIn K (.ref f) = true):Fun K x qual st f (PySem.W.fnOf x qual (defArgs st) (defBody st) (defScope st) .none kV doc pm an cdv ct):=⟨⟨oc,od,kV,doc,pm,an,cdv,ct,osl,rfl,l,c⟩,k⟩
end
section
variable {X:Cx}
end
theorem iteF {A B:Prop} (h:B):if false = true then A else B:=by
 rw [if_neg Bool.false_ne_true]
 exact h
theorem iteT {A B:Prop} (h:A):if true = true then A else B:=by
 rw [if_pos rfl]
 exact h
def Same (H H':Hp):Prop:=∀ b o,H b = some o -> H' b = some o
theorem Same.refl (H:Hp):Same H H:=fun _ _ h=>h
theorem Same.trans {H H1 H2:Hp} (a:Same H H1) (b:Same H1 H2):Same H H2:=fun c o h=>b c o (a c o h)
theorem Same.free {H H':Hp} (e:Same H H') {l:Addr} (h:H' l = Option.none):H l = Option.none:=by
 cases q:H l with
 | none=>rfl
 | some o=>
  rw [e l o q] at h
  cases h
theorem Same.seq {K:PySem.W.Frag} {H H':Hp} {a:Addr} {xs:List V} (e:Same H H') (h:SqL K H a xs):SqL K H' a xs:=by
 rcases h with (h | ⟨o,h⟩) | h
 ·exact .inl (.inl (e _ _ h))
 ·exact .inl (.inr ⟨o,e _ _ h⟩)
 ·exact .inr h
end L2
namespace L2
open PySem PySem.Spec PyProof.Rows
section
variable {κ:Type} [DecidableEq κ]
def valV (kvs:List (κ × V)) (k:κ):Option V:=(kvs.find? fun kv=>decide (kv.1 = k)).map (·.2)
def putK (kvs:List (κ × V)) (k:κ) (v:V):List (κ × V):=
 if (kvs.any fun kv=>decide (kv.1 = k)) = true then kvs.map (fun kv=>if kv.1 = k then (kv.1,v) else kv) else kvs ++ [(k,v)]
theorem JaX {p:κ × V} {r:List (κ × V)} {k:κ} (e:p.1 = k):valV (p :: r) k = some p.2:=by simp [valV,List.find?_cons,e]
theorem JaU {p:κ × V} {r:List (κ × V)} {k:κ} (e:¬ p.1 = k):valV (p :: r) k = valV r k:=by simp [valV,List.find?_cons,e]
theorem JaS (k:κ):∀ kvs:List (κ × V),(kvs.any fun kv=>decide (kv.1 = k)) = (valV kvs k).isSome
 | []=>rfl
 | p :: r=>by
  rw [List.any_cons]
  by_cases e:p.1 = k
  ·simp only [JaX e,decide_eq_true e,Bool.true_or,Option.isSome_some]
  ·rw [JaU e,decide_eq_false e,Bool.false_or]; exact JaS k r
theorem Jba (kvs:List (κ × V)) (k:κ) (v:V):(putK kvs k v).length <= kvs.length + 1:=by
 unfold putK
 split
 ·rw [List.length_map]; omega
 ·rw [List.length_append,List.length_cons,List.length_nil]; omega
theorem RelO.isSome_eq {o:Option V} {u:Option Value} (r:RelO o u):o.isSome = u.isSome:=by
 cases o with
 | none=>cases u with
  | none=>rfl
  | some _=>exact (show False from r).elim
 | some _=>cases u with
  | none=>exact (show False from r).elim
  | some _=>rfl
theorem RelO.getD {o:Option V} {u:Option Value} {d:V} {d':Value} (r:RelO o u) (rd:RelV d d'):RelV (o.getD d) (u.getD d'):=by
 cases o with
 | none=>cases u with
  | none=>exact rd
  | some _=>exact (show False from r).elim
 | some _=>cases u with
  | none=>exact (show False from r).elim
  | some _=>exact r
theorem KV.val {kvs:List (κ × V)} {vs:List (κ × Value)} (r:KV kvs vs) (k:κ):RelO (valV kvs k) (valueAt vs k):=by
 unfold KV at r
 induction r with
 | nil=>exact True.intro
 | @cons p q ps qs h t ih=>
  obtain ⟨h1,h2⟩:=h
  by_cases e:p.1 = k
  ·have e':q.1 = k:=h1.symm.trans e
   have b:valueAt (q :: qs) k = some q.2:=by simp [valueAt,List.find?_cons,e']
   rw [JaX e,b]; exact h2
  ·have e':¬ q.1 = k:=fun z=>e (h1.trans z)
   have b:valueAt (q :: qs) k = valueAt qs k:=by simp [valueAt,List.find?_cons,e']
   rw [JaU e,b]; exact ih
theorem KV.any {kvs:List (κ × V)} {vs:List (κ × Value)} (r:KV kvs vs) (k:κ):(kvs.any fun kv=>decide (kv.1 = k)) = vs.any fun kv=>decide (kv.1 = k):=by
 unfold KV at r
 induction r with
 | nil=>rfl
 | cons h t ih=>rw [List.any_cons,List.any_cons,ih,h.1]
theorem KV.repl {kvs:List (κ × V)} {vs:List (κ × Value)} (r:KV kvs vs) (k:κ) {y:V} {u:Value} (ry:RelV y u) :
  KV (kvs.map fun kv=>if kv.1 = k then (kv.1,y) else kv) (vs.map fun kv=>if kv.1 = k then (kv.1,u) else kv):=by
 unfold KV at r ⊢
 induction r with
 | nil=>exact .nil
 | @cons p q ps qs h t ih=>
  rw [List.map_cons,List.map_cons]
  refine .cons ?_ ih
  obtain ⟨h1,h2⟩:=h
  by_cases e:p.1 = k
  ·rw [if_pos e,if_pos (h1.symm.trans e)]; exact ⟨h1,ry⟩
  ·rw [if_neg e,if_neg (fun z=>e (h1.trans z))]; exact ⟨h1,h2⟩
theorem KV.put {kvs:List (κ × V)} {vs:List (κ × Value)} (r:KV kvs vs) (k:κ) {y:V} {u:Value} (ry:RelV y u):KV (putK kvs k y) (stored vs k u):=by
 unfold putK stored
 rw [r.any k]
 by_cases e:(vs.any fun kv=>decide (kv.1 = k)) = true
 ·rw [if_pos e,if_pos e]; exact r.repl k ry
 ·rw [if_neg e,if_neg e]; exact Paired.snoc r ⟨rfl,ry⟩
theorem KV.length {kvs:List (κ × V)} {vs:List (κ × Value)} (r:KV kvs vs):kvs.length = vs.length:=Paired.length r
end
theorem Jlk {P:Program} {w:World} {k:Key} {u:Value} (r:RelV (kV k) u):(mixKind P w).is k u = true:=by
 cases k with
 | inl i=>obtain ⟨t,e⟩:=(show ∃ t,u = Value.int i t from r); subst e; exact Jek P w i t
 | inr x=>obtain ⟨t,e⟩:=(show ∃ t,u = Value.str x t from r); subst e; exact Jeh P w x t
 | non=>cases (show u = Value.none from r); rfl
mutual
theorem JmL {P:Program} {w:World} {H:Hp} {h:Heap} (ok:HOk P w H h):∀ (k:KTr Key) {v:V} {u:Value},KH H k v -> RelV v u -> KAt (mixKind P w) h k u
 | .a k,v,u,x,r=>by cases (show v = kV k from x); exact Jlk r
 | .t ks,v,u,⟨a,xs,e,h1,h2⟩,r=>by
  subst e
  cases (show u = Value.ref a from r)
  obtain ⟨_,its,rs,o,g1,g2,n,g3⟩:=(show ObjOk P w H h a (.tup xs) from ok a _ h1)
  exact ⟨a,o,_,n,rfl,g1,g2,g3,by simpa using Jkd ok ks h2 rs⟩
theorem Jkd {P:Program} {w:World} {H:Hp} {h:Heap} (ok:HOk P w H h):∀ (ks:List (KTr Key)) {xs:List V} {us:List Value},KHs H ks xs -> Vals xs us -> KAts (mixKind P w) h ks us
 | [],_,_,x,r=>by cases x; cases r; rfl
 | k :: ks,_,_,⟨v,q,e,h1,h2⟩,r=>by
  subst e
  cases r with
  | cons r1 r2=>exact ⟨_,_,rfl,JmL ok k h1 r1,Jkd ok ks h2 r2⟩
end
abbrev KT (H:Hp):List (List (KTr Key) × V) -> List (List (KTr Key) × Addr × Value) -> Prop:=Paired fun p q=>p.1 = q.1 /\ KB H p.1 q.2.1 /\ RelV p.2 q.2.2
theorem KT.val {H:Hp} {kvs:List (List (KTr Key) × V)} {xs:List (List (KTr Key) × Addr × Value)} (r:KT H kvs xs) (k:List (KTr Key)):RelO (valV kvs k) ((atKey xs k).map (·.2)):=by
 induction r with
 | nil=>exact True.intro
 | @cons p q ps qs h t ih=>
  obtain ⟨h1,_,h2⟩:=h
  by_cases e:p.1 = k
  ·have e':q.1 = k:=h1.symm.trans e
   have b:atKey (q :: qs) k = some q.2:=by simp [atKey,List.find?_cons,e']
   rw [JaX e,b]; exact h2
  ·have e':¬ q.1 = k:=fun z=>e (h1.trans z)
   have b:atKey (q :: qs) k = atKey qs k:=by simp [atKey,List.find?_cons,e']
   rw [JaU e,b]; exact ih
theorem KT.repl {H:Hp} {kvs:List (List (KTr Key) × V)} {xs:List (List (KTr Key) × Addr × Value)} (r:KT H kvs xs) (k:List (KTr Key)) {y:V} {u:Value} (ry:RelV y u) :
  KT H (kvs.map fun kv=>if kv.1 = k then (kv.1,y) else kv) (xs.map (putAt k u)):=by
 induction r with
 | nil=>exact .nil
 | @cons p q ps qs h t ih=>
  rw [List.map_cons,List.map_cons]
  refine .cons ?_ ih
  obtain ⟨h1,h2,h3⟩:=h
  unfold putAt
  by_cases e:p.1 = k
  ·rw [if_pos e,if_pos (h1.symm.trans e)]; exact ⟨h1,h2,ry⟩
  ·rw [if_neg e,if_neg (fun z=>e (h1.trans z))]; exact ⟨h1,h2,h3⟩
theorem KT.put {H:Hp} {kvs:List (List (KTr Key) × V)} {xs:List (List (KTr Key) × Addr × Value)} (r:KT H kvs xs) (k:List (KTr Key)) {b:Addr} {y:V} {u:Value} (hb:KB H k b) (ry:RelV y u) :
  KT H (putK kvs k y) (storedH xs k b u):=by
 have e:(kvs.any fun kv=>decide (kv.1 = k)) = (atKey xs k).isSome:=by
  rw [JaS,(r.val k).isSome_eq,Option.isSome_map]
 unfold putK storedH
 rw [e]
 by_cases q:(atKey xs k).isSome = true
 ·rw [if_pos q,if_pos q]; exact r.repl k ry
 ·rw [if_neg q,if_neg q]; exact Paired.snoc r ⟨rfl,hb,ry⟩
theorem KT.keeps {H H':Hp} {kvs:List (List (KTr Key) × V)} {xs:List (List (KTr Key) × Addr × Value)} (r:KT H kvs xs) (ht:∀ b ys,H b = some (.tup ys) -> H' b = some (.tup ys)):KT H' kvs xs:=
 Paired.mapP r fun _ _ z=>⟨z.1,z.2.1.keep ht,z.2.2⟩
section
variable {P:Program} {w:World} {H:Hp} {h:Heap} {a:Addr}
theorem Jof {u:HO} (ok:HOk P w H h) (e:Rd H a u):ObjOk P w H h a u:=e.ok ok
theorem Jle {kvs:List (Key × V)} (ok:HOk P w H h) (e:Rd H a (.dK kvs)):kvs.length <= sizeLine /\ (a == sysModules) = false /\ ∃ vs,KV kvs vs /\ h.DictOf (mixKind P w) a vs:=
 show ObjOk P w H h a (.dK kvs) from Jof ok e
theorem Jms {kvs:List (Key × V)} (ok:HOk P w H h) (e:H a = some (.dK kvs)):kvs.length <= sizeLine /\ (a == sysModules) = false /\ ∃ vs,KV kvs vs /\ h.DictOf (mixKind P w) a vs:=Jle ok (.inl e)
theorem key_of {ks:List (KTr Key)} (ok:HOk P w H h) (e:KB H ks a):(tKind P w).is h ks a:=⟨JmL ok _ e.1 rfl,e.2⟩
theorem Jlz {kvs:List (List (KTr Key) × V)} (ok:HOk P w H h) (e:Rd H a (.dT kvs)):kvs.length <= sizeLine /\ (a == sysModules) = false /\
  ∃ xs,KT H kvs xs /\ h.DictOfH (tKind P w) a xs:=by
 obtain ⟨z,y,xs,r,o,es,ep,h1,h2,h3,h4,h5⟩:=(show ObjOk P w H h a (.dT kvs) from Jof ok e)
 refine ⟨z,y,xs,r,o,es,ep,h1,h2,h3,h4,fun x hx=>?_,h5⟩
 have all:∀ {l:List (List (KTr Key) × V)} {m:List (List (KTr Key) × Addr × Value)},KT H l m -> ∀ x ∈ m,(tKind P w).is h x.1 x.2.1:=by
  intro l m q
  induction q with
  | nil=>intro x hx; exact nomatch hx
  | @cons p q ps qs hq t ih=>
   intro x hx
   rcases List.mem_cons.mp hx with e | hx
   ·subst e
    exact key_of ok (by rw [<- hq.1]; exact hq.2.1)
   ·exact ih x hx
 exact all r x hx
theorem JmF {kvs:List (List (KTr Key) × V)} (ok:HOk P w H h) (e:H a = some (.dT kvs)):kvs.length <= sizeLine /\ (a == sysModules) = false /\
  ∃ xs,KT H kvs xs /\ h.DictOfH (tKind P w) a xs:=Jlz ok (.inl e)
end
theorem Jng {P:Program} {w:World} {A:Around} (hu:A.units + 60 < cLine):(tKind P w).room A.in1:=show A.units + 1 + 50 < cLine by omega
def DGet (H:Hp) (a:Addr) (y:V) (r:Option V):Prop:=
 (∃ kvs k,Rd H a (.dK kvs) /\ y = kV k /\ r = valV kvs k) \/ ∃ kvs k b,Rd H a (.dT kvs) /\ y = .ref b /\ KB H k b /\ r = valV kvs k
def DPut (H:Hp) (a:Addr) (y v:V) (H':Hp):Prop:=
 (∃ kvs k,H a = some (.dK kvs) /\ y = kV k /\ kvs.length < sizeLine /\ H' = upd H a (.dK (putK kvs k v))) \/
 ∃ kvs k b,H a = some (.dT kvs) /\ y = .ref b /\ KB H k b /\ kvs.length < sizeLine /\ H' = upd H a (.dT (putK kvs k v))
theorem DPut.k {H:Hp} {a:Addr} {kvs:List (Key × V)} {k:Key} {v:V} (e:H a = some (.dK kvs)) (hl:kvs.length < sizeLine):DPut H a (kV k) v (upd H a (.dK (putK kvs k v))):=.inl ⟨kvs,k,e,rfl,hl,rfl⟩
theorem DPut.t {H:Hp} {a b:Addr} {kvs:List (List (KTr Key) × V)} {k:List (KTr Key)} {v:V} (e:H a = some (.dT kvs)) (eb:KB H k b) (hl:kvs.length < sizeLine) :
  DPut H a (.ref b) v (upd H a (.dT (putK kvs k v))):=.inr ⟨kvs,k,b,e,rfl,eb,hl,rfl⟩
section
variable {X:Cx} {pins:List (Addr × Obj)} {σ:St} {H:Hp} {s:Shared} {a:Addr} {y v:V} {u r:Value} {o:Option V} {A:Around} {E:Value -> Shared -> Prop}
theorem Inv.big (I:Inv X pins σ H s):sysModules < s.heap.objs.size:=by
 have h:mainGlobals < s.heap.objs.size:=(I.mod.glob.keeps I.bk).lt
 exact Nat.lt_trans (by decide) h
theorem JdA {h':Heap} {t':Nat} {ob:HO} (I:Inv X pins σ H s) (mu:Mut (H a)) (hs:Heap.SameBut a s.heap h') (he:∃ q,h'.get? a = some q) (new:ObjOk X.prog X.w (upd H a ob) h' a ob) :
  Inv X pins σ (upd H a ob) { s with heap:=h',toks:=t' }:=
 I.write (x:=a) (e:=a) mu (.inl rfl) (fun b q hb z=>(hs.2 b hb).trans z) he new
theorem JmT {P:Program} {w:World} {H':Hp} {h':Heap} {kvs:List (Key × V)} {vs:List (Key × Value)} (z:kvs.length <= sizeLine) (hd:(a == sysModules) = false) (rel:KV kvs vs) (dd:h'.DictOf (mixKind P w) a vs) :
  ObjOk P w H' h' a (.dK kvs):=⟨z,hd,vs,rel,dd⟩
theorem JhN {H':Hp} {Q:Unit -> Shared -> Prop} (hu:A.units + 60 < cLine) (I:Inv X pins σ H s) (g:DPut H a y v H') (ry:RelV y u) (rv:RelV v r) (h:∀ s',Inv X pins σ H' s' -> Q () s') :
  wpAny (model X.prog X.w) A (setItem (.ref a) u r) Q E s:=by
 rcases g with ⟨kvs,k,e,ey,l,eH⟩ | ⟨kvs,k,b,e,ey,eb,l,eH⟩
 ·subst ey eH
  obtain ⟨z,hd,vs,rel,dd⟩:=Jms I.hok e
  have hz:vs.length <= sizeLine:=by rw [<- rel.length]; exact z
  have hl:(putK kvs k v).length <= sizeLine:=by have:=Jba kvs k v; omega
  refine wpAny_setItem_pairs (hsz:=hz) (Jlk ry) dd fun h' dd' hs=>h _ ?_
  have he:∃ q,h'.get? a = some q:=let ⟨q,_,_,hq,_⟩:=dd'; ⟨q,hq⟩
  exact JdA I (by rw [e]; exact True.intro) hs he (JmT hl hd (rel.put k rv) dd')
 ·subst ey eH
  cases (show u = Value.ref b from ry)
  obtain ⟨z,hd,xs,rel,dd⟩:=JmF I.hok e
  have hz:xs.length <= sizeLine:=by rw [<- Paired.length rel]; exact z
  have hl:(putK kvs k v).length <= sizeLine:=by have:=Jba kvs k v; omega
  refine wpAny_setItem_heap (hsz:=hz) (Jng hu) (key_of I.hok eb) dd fun h' dd' hs=>h _ ?_
  obtain ⟨q,es,ep,hq,h2,h3,h4,_,h5⟩:=dd'
  refine JdA I (by rw [e]; exact True.intro) hs ⟨q,hq⟩ ⟨hl,hd,_,(rel.put k eb rv).keeps fun c ys ec=>?_,q,es,ep,hq,h2,h3,h4,h5⟩
  rw [Jb (JlT ec e (fun z=>nomatch z))]
  exact ec
end
section
variable {X:Cx} {pins:List (Addr × Obj)} {σ:St} {H:Hp} {s:Shared} {a:Addr} {kvs:List (Key × V)} {k:Key} {u:Value} {A:Around} {E:Value -> Shared -> Prop}
end
def NoSl (i:Expr):Prop:=∀ ov iv,subscripted i false ov iv = operate [ov,iv] (getItem ov iv)
def sDPut (td ty tv:TE):TS:=fun D σ H=>tv σ H fun v H1=>td σ H1 fun x H2=>ty σ H2 fun y H3=>∃ a H4,x = .ref a /\ DPut H3 a y v H4 /\ D.nx σ H4
section
variable {X:Cx} {o i e value:Expr} {pos pos' tpos:Pos} {td ty tv:TE}
theorem Jlb (hu:X.A.units + 60 < cLine) (ho:PE X o td) (hi:PE X i ty) (hv:PE X value tv) (hs:swapsWith value (some (.Subscript o i pos')) pos.line X.env = pure false) :
  PS X (.Assign [.Subscript o i pos'] value pos) (sDPut td ty tv):=by
 intro pins s σ H D I h
 refine wpAny_Assign_Subscript (thn (hv pins s σ H _ I h) fun r s1 ⟨v,H1,I1,rv,q1⟩=>thn (ho pins s1 σ H1 _ I1 q1) fun u s2 ⟨x,H2,I2,rx,q2⟩=>thn (hi pins s2 σ H2 _ I2 q2) fun iv s3 ⟨y,H3,I3,ry,a,H4,ex,g,q3⟩=>?_) hs
 subst ex
 obtain rfl:u = Value.ref a:=rx
 exact JhN hu I3 g ry rv fun s4 I4=>⟨σ,H4,I4,q3⟩
end
theorem JiY {P:Program} {w:World} {H:Hp} (h:Heap) (hb:sysModules < h.objs.size):ObjOk P w H (h.push { cls:=.type "dict",data:=.dict #[] }) h.objs.size (.dK []):=
 ⟨Nat.zero_le _,beq_eq_false_iff_ne.mpr (Ne.symm (Nat.ne_of_lt hb)),[],.nil,Heap.DictOf.new h⟩
theorem Jfj {P:Program} {w:World} {H:Hp} (h:Heap) (hb:sysModules < h.objs.size):ObjOk P w H (h.push { cls:=.type "dict",data:=.dict #[] }) h.objs.size (.dT []):=
 ⟨Nat.zero_le _,beq_eq_false_iff_ne.mpr (Ne.symm (Nat.ne_of_lt hb)),[],.nil,_,#[],0,Heap.get?_push_size _ rfl,⟨rfl,rfl,rfl⟩,rfl,rfl,List.nodup_nil⟩
def tDNewK:TE:=fun _ H Q=>∀ p,H p = none -> Q (.ref p) (upd H p (.dK []))
def tDNewT:TE:=fun _ H Q=>∀ p,H p = none -> Q (.ref p) (upd H p (.dT []))
section
variable {X:Cx} {pos:Pos}
theorem JbU:PE X (.Dict [] [] pos) tDNewK:=fun pins s σ H Q I h=>
 wpAny_Dict_empty ⟨.ref s.heap.objs.size,_,I.laid (a:=s.heap.objs.size) (o:=.dK []) (t':=s.toks) (fun _ _ q=>Heap.get?_push_of_some _ q) (Nat.le_refl _) (JiY s.heap I.big),rfl,h _ (I.hok.fresh (Nat.le_refl _))⟩
theorem Jfn:PE X (.Dict [] [] pos) tDNewT:=fun pins s σ H Q I h=>
 wpAny_Dict_empty ⟨.ref s.heap.objs.size,_,I.laid (a:=s.heap.objs.size) (o:=.dT []) (t':=s.toks) (fun _ _ q=>Heap.get?_push_of_some _ q) (Nat.le_refl _) (Jfj s.heap I.big),rfl,h _ (I.hok.fresh (Nat.le_refl _))⟩
end
structure M2 (X:Cx) (o:Expr) (m:Str) (apos:Pos) (e f:Expr) (cpos:Pos):Prop where
 base:attributeBase o m X.env (eval o X.env) = eval o X.env
 few:((backTo cpos (starEach [e,f] X.env)).all (fun x=>!x.1) && (backToKw cpos (keywordEach [] X.env)).all (fun x=>x.1.isSome)
  && decide (([e,f]:List Expr).length + ([]:List Keyword).length + (if ([]:List Keyword).isEmpty then 0 else 1) < 30)) = true
 line:(apos.endLine == cpos.line) = true
 trees:backTo cpos (starEach [e,f] X.env) = [(false,eval e X.env),(false,eval f X.env)]
def IsD (H:Hp) (a:Addr):Prop:=(∃ kvs,Rd H a (.dK kvs)) \/ ∃ kvs,Rd H a (.dT kvs)
theorem Jnt {X:Cx} {pins:List (Addr × Obj)} {σ:St} {H:Hp} {s:Shared} {a:Addr} (I:Inv X pins σ H s) (d:IsD H a) :
  s.TypeIs (.ref a) "dict" /\ (∀ b,Value.ref a = .ref b -> ∃ ob,s.heap.get? b = some ob /\ ob.dict = none) /\ (a == sysModules) = false:=by
 rcases d with ⟨kvs,e⟩ | ⟨kvs,e⟩
 ·obtain ⟨_,hd,vs,_,dd⟩:=Jle I.hok e
  refine ⟨dd.typeIs,fun b q=>?_,hd⟩
  cases q
  obtain ⟨ob,_,_,h1,h2,_⟩:=dd
  exact ⟨ob,h1,h2.2.1⟩
 ·obtain ⟨_,hd,xs,_,dd⟩:=Jlz I.hok e
  refine ⟨dd.typeIs,fun b q=>?_,hd⟩
  cases q
  obtain ⟨ob,_,_,h1,h2,_⟩:=dd
  exact ⟨ob,h1,h2.2.1⟩
section
variable {X:Cx} {pins:List (Addr × Obj)} {σ:St} {H:Hp} {s:Shared} {a:Addr} {y d:V} {u r:Value} {o:Option V} {A:Around} {E:Value -> Shared -> Prop}
theorem Jol {Q:Value -> Shared -> Prop} (hu:A.units + 60 < cLine) (I:Inv X pins σ H s) (g:DGet H a y o) (ry:RelV y u) (rd:RelV d r) (h:∀ w' s',Inv X pins σ H s' -> RelV (o.getD d) w' -> Q w' s') :
  wpAny (model X.prog X.w) A (call (.builtin "dict.get") [.ref a,u,r]) Q E s:=by
 rcases g with ⟨kvs,k,e,ey,l⟩ | ⟨kvs,k,b,e,ey,eb,l⟩
 ·subst ey
  obtain ⟨z,hd,vs,rel,dd⟩:=Jle I.hok e
  refine call_meetsIn PySem.F.slot_dict_get dd.typeIs PySem.F.entry_dict_get (PySem.F.args_dict_get_3 _ _ _) (meets_dict_get_default (mixKind X.prog X.w) a (Jlk ry) hd r) ⟨_,dd.mapOf,h _ _ (I.tok _) ?_⟩
  rw [l]
  exact (rel.val k).getD rd
 ·subst ey
  cases (show u = Value.ref b from ry)
  obtain ⟨z,hd,xs,rel,dd⟩:=Jlz I.hok e
  refine call_meetsIn PySem.F.slot_dict_get dd.typeIs PySem.F.entry_dict_get (PySem.F.args_dict_get_3 _ _ _) (meetsH_dict_get_default (tKind X.prog X.w) a b hd r) ⟨Jng hu,k,xs,key_of I.hok eb,dd,h _ _ (I.tok _) ?_⟩
  rw [l]
  exact (rel.val k).getD rd
end
def tDGet2 (td ty tx:TE):TE:=fun σ H Q=>td σ H fun x H1=>∃ a,x = .ref a /\ IsD H1 a /\ ty σ H1 fun y H2=>tx σ H2 fun z H3=>∃ o,DGet H3 a y o /\ Q (o.getD z) H3
section
variable {X:Cx} {o e f:Expr} {apos cpos:Pos} {td ty tx:TE}
theorem Jjv (hu:X.A.units + 60 < cLine) (ho:PE X o td) (he:PE X e ty) (hf:PE X f tx) (m:M2 X o "get" apos e f cpos):PE X (.Call (.Attribute o "get" apos) [e,f] [] cpos) (tDGet2 td ty tx):=by
 intro pins s σ H Q I h
 refine wpAny_Call_method m.base m.few m.line PySem.F.plainAttrs_dict PySem.F.slot_dict_get PySem.F.type_dict_get (thn (ho pins s σ H _ I h) fun u s1 ⟨x,H1,I1,rx,a,ex,d,q1⟩=>?_)
 subst ex
 obtain rfl:u = Value.ref a:=rx
 obtain ⟨t1,t2,_⟩:=Jnt I1 d
 refine ⟨t1,t2,?_⟩
 rw [m.trees]
 refine Calls.callWith_builtin rfl (Calls.evalArgs_plain (Calls.spliced_cons (thn (he pins s1 σ H1 _ I1 q1) fun iv s2 ⟨y,H2,I2,ry,q2⟩=>
  Calls.spliced_cons (thn (hf pins s2 σ H2 _ I2 q2) fun fv s3 ⟨z,H3,I3,rz,ov,g,q3⟩=>Calls.spliced_nil ?_))))
 exact Jol hu I3 g ry rz fun w' s4 I4 rw'=>⟨_,H3,I4,rw',q3⟩
end
section
variable {X:Cx} {pins:List (Addr × Obj)} {σ:St} {H:Hp} {s:Shared} {a:Addr} {kvs:List (Key × V)} {A:Around} {E:Value -> Shared -> Prop}
end
section
variable {X:Cx} {pins:List (Addr × Obj)} {σ:St} {H:Hp} {s:Shared} {a:Addr} {y:V} {u:Value} {A:Around} {E:Value -> Shared -> Prop}
end
end L2
namespace L2
open PySem PySem.Spec PyProof.Rows
section
variable {X:Cx}
end
end L2
namespace Pu
open PySem
inductive D where
 | non | bl (b:Bool) | int (i:Int) | str (x:Str) | tup (ds:List D) | lst (ds:List D)
 /-- a dict,whose keys are tuples (t) or ints and texts,that no one changes any more (z) or not; a refusal that was taken; a def -/
 | dct (t z:Bool) (ks vs:List D) | exc (c:Str) | fn (x:Str) (i:Nat)
 /-- an object: where it stands,its attributes -/
 | obj (a:Nat) (ns:List Str) (fs:List D)
 deriving Inhabited
inductive Rs (α:Type) where
 | ok (a:α) | ex (c:Str) | stuck
def Rs.bind {α β:Type}:Rs α -> (α -> Rs β) -> Rs β
 | .ok a,f=>f a
 | .ex c,_=>.ex c
 | .stuck,_=>.stuck
def Rs.calm {α:Type}:Rs α -> Rs α
 | .ok a=>.ok a
 | .ex _=>.stuck
 | .stuck=>.stuck
@[simp] theorem Rs.calm_ok {α:Type} (a:α):(Rs.ok a).calm = .ok a:=rfl
def Rs.Good {α:Type} (r:Rs α) (P:α -> Prop) (E:Str -> Prop):Prop:=
 match r with
 | .ok a=>P a
 | .ex c=>E c
 | .stuck=>False
@[simp] theorem Rs.bind_ok {α β:Type} (a:α) (f:α -> Rs β):(Rs.ok a).bind f = f a:=rfl
@[simp] theorem Rs.bind_ex {α β:Type} (c:Str) (f:α -> Rs β):(Rs.ex c:Rs α).bind f = .ex c:=rfl
@[simp] theorem Rs.bind_stuck {α β:Type} (f:α -> Rs β):(Rs.stuck:Rs α).bind f = .stuck:=rfl
theorem Rs.bind_assoc {α β γ:Type} (r:Rs α) (f:α -> Rs β) (g:β -> Rs γ):(r.bind f).bind g = r.bind fun a=>(f a).bind g:=by
 cases r <;> rfl
theorem Rs.good_bind {α β:Type} {r:Rs α} {f:α -> Rs β} {P:β -> Prop} {E:Str -> Prop}:(r.bind f).Good P E ↔ r.Good (fun a=>(f a).Good P E) E:=by
 cases r <;> rfl
theorem Rs.good_calm {α:Type} {r:Rs α} {P:α -> Prop} {E E':Str -> Prop} (h:r.calm.Good P E):r.Good P E':=by
 cases r with
 | ok a=>exact h
 | ex c=>exact h.elim
 | stuck=>exact h
theorem Rs.Good.mono {α:Type} {r:Rs α} {P P':α -> Prop} {E E':Str -> Prop} (h:r.Good P E) (hp:∀ a,P a -> P' a) (he:∀ c,E c -> E' c):r.Good P' E':=by
 cases r with
 | ok a=>exact hp a h
 | ex c=>exact he c h
 | stuck=>exact h
theorem Rs.Good.imp {α:Type} {r:Rs α} {P P':α -> Prop} {E:Str -> Prop} (h:r.Good P E) (hp:∀ a,P a -> P' a):r.Good P' E:=h.mono hp fun _ x=>x
mutual
def D.eqv:D -> D -> Bool
 | .non,.non=>true
 | .bl a,.bl b=>a == b
 | .bl a,.int b=>(if a then 1 else 0) == b
 | .int a,.bl b=>a == (if b then 1 else 0)
 | .int a,.int b=>a == b
 | .str a,.str b=>a == b
 | .tup as,.tup bs=>eqvs as bs
 | .lst as,.lst bs=>eqvs as bs
 | _,_=>false
def eqvs:List D -> List D -> Bool
 | [],[]=>true
 | a :: as,b :: bs=>D.eqv a b && eqvs as bs
 | _,_=>false
end
mutual
def D.imm:D -> Bool
 | .tup ds=>imms ds
 | .lst _=>false
 | .dct _ z _ vs=>z && imms vs
 | .obj _ _ _=>false
 | _=>true
def imms:List D -> Bool
 | []=>true
 | d :: ds=>D.imm d && imms ds
end
mutual
def D.dep:D -> Nat
 | .tup ds=>deps ds + 1
 | .lst ds=>deps ds + 1
 | .dct _ _ _ _=>1000
 | .exc _=>1000
 | .fn _ _=>1000
 | .obj _ _ _=>1000
 | _=>0
def deps:List D -> Nat
 | []=>0
 | d :: ds=>max (D.dep d) (deps ds)
end
def ixn (n:Nat) (i:Int):Option Nat:=if 0 <= i then (if i < n then some i.toNat else none) else if -(n:Int) <= i then some (i + n).toNat else none
def atD {α:Type} (xs:List α) (i:Int):Option α:=(ixn xs.length i).bind fun j=>xs[j]?
def six (n d:Nat):Option Int -> Nat
 | none=>d
 | some v=>if v < 0 then (v + (n:Int)).toNat else min v.toNat n
def cutD {α:Type} (xs:List α) (lo hi:Option Int):List α:=(xs.drop (six xs.length 0 lo)).take (six xs.length xs.length hi - six xs.length 0 lo)
def lineD:Nat:=16777216
def Rs.ofOpt {α:Type}:Option α -> Rs α
 | some a=>.ok a
 | none=>.stuck
def chars (x:Str):List D:=x.cps.toList.map fun c=>.str ⟨#[c]⟩
def D.walk:D -> Rs (List D)
 | .tup ds=>.ok ds
 | .lst ds=>.ok ds
 | .str x=>.ok (chars x)
 | _=>.stuck
def D.truth:D -> Rs Bool
 | .non=>.ok false
 | .bl b=>.ok b
 | .int i=>.ok (i != 0)
 | .str x=>if x.length <= lineD then .ok ((x.length:Int) != 0) else .stuck
 | .tup ds=>.ok (!ds.isEmpty)
 | .lst ds=>.ok (!ds.isEmpty)
 | _=>.stuck
def D.bound:D -> Rs (Option Int)
 | .non=>.ok none
 | .int i=>.ok (some i)
 | _=>.stuck
def ltS (a b:Str):Bool:=decide (a.cps.toList < b.cps.toList)
def insS (x:Str):List Str -> List Str
 | []=>[x]
 | y :: ys=>if x == y then y :: ys else if ltS x y then x :: y :: ys else y :: insS x ys
def sortS:List Str -> List Str
 | []=>[]
 | x :: xs=>insS x (sortS xs)
def mkS (l:List Nat):Str:=⟨l.toArray⟩
def joinL (sep:List Nat):List (List Nat) -> List Nat
 | []=>[]
 | [x]=>x
 | x :: y :: r=>x ++ (sep ++ joinL sep (y :: r))
def consL (x:Nat):List (List Nat) -> List (List Nat)
 | []=>[[x]]
 | p :: r=>(x :: p) :: r
def splitL (c:Nat):List Nat -> List (List Nat)
 | []=>[[]]
 | x :: l=>if x = c then [] :: splitL c l else consL x (splitL c l)
def cutL (c:Nat):List Nat -> List Nat × Option (List Nat)
 | []=>([],none)
 | x :: l=>if x = c then ([],some l) else (x :: (cutL c l).1,(cutL c l).2)
def partD (x:List Nat) (c:Nat):D:=match cutL c x with
 | (a,some b)=>.tup [.str (mkS a),.str (mkS [c]),.str (mkS b)]
 | (_,none)=>.tup [.str (mkS x),.str (mkS []),.str (mkS [])]
def strsOf:List D -> Option (List Str)
 | []=>some []
 | .str x :: ds=>(strsOf ds).map (x :: ·)
 | _ :: _=>none
inductive O1 where
 | neg | not | isN | notN | isT | notT | isF | notF | len | all | any | tuple | list | sset | lset | truth | isStr | isTup | isLst | isInt | isBool | range | enum | ints | asI | rows | asT
 | isC (cs:List Str) (c:Str) | items | dictP | rev | strI | join | rngT | dLen | minL | sortT | sumI | revT | dKeys | dKeyW | tupL | fld (f:Str) | intB | sortX
 deriving DecidableEq
inductive O2 where
 | add | sub | mul | fdiv | mod | pow | eq | ne | lt | le | gt | ge | isin | notin | idx | zip | starts | range2 | rep | repT | repU | repS | index | count | addI | dIn (t:Bool) | dNi (t:Bool) | dGet (t:Bool) | ltL | gtT | indexT | mulI | joinS | splitS | partS | ends | strt | dGz (t:Bool)
 deriving DecidableEq
def smallI (i:Int):Bool:=decide (-(2 ^ 64) < i) && decide (i < 2 ^ 64)
def midI (i:Int):Bool:=decide (-(2 ^ 62) <= i) && decide (i < 2 ^ 62)
def okDep (a:D):Bool:=decide (a.dep <= 20)
def upTo (lo:Int) (n:Nat):List D:=(List.range n).map fun (k:Nat)=>D.int (lo + (k:Int))
def enumFrom (k:Nat):List D -> List D
 | []=>[]
 | d :: ds=>.tup [.int k,d] :: enumFrom (k + 1) ds
def zipD:List D -> List D -> List D
 | a :: as,b :: bs=>.tup [a,b] :: zipD as bs
 | _,_=>[]
def blsOf:List D -> Option (List Bool)
 | []=>some []
 | .bl b :: ds=>(blsOf ds).map (b :: ·)
 | _ :: _=>none
def digs (cs:List Nat):Nat:=cs.foldl (fun acc c=>acc * 10 + (c - 48)) 0
def isFig (c:Nat):Bool:=decide (48 <= c) && decide (c <= 57)
def pieceD:D -> Option Str
 | .str x=>if x.length <= 1000 then some x else none
 | .int i=>if i.natAbs < 2 ^ 64 then some (toString i:String) else none
 | _=>none
def joinD:List D -> Option Str
 | []=>some Str.empty
 | d :: ds=>match pieceD d,joinD ds with
  | some x,some y=>if x.length + y.length <= 2000 then some (x ++ y) else none
  | _,_=>none
def rowsD:List D -> Option (List D × List D)
 | []=>some ([],[])
 | .tup [.str k,v] :: ds=>match rowsD ds with
  | some (ks,vs)=>some (.str k :: ks,v :: vs)
  | none=>none
 | _ :: _=>none
def banD (x:Str):Bool:=x == Str.ofString "any" || x == Str.ofString "number" || x == Str.ofString "one" || x == Str.ofString "rest" || x == Str.ofString "word"
def keyB:D -> Bool
 | .int _=>true
 | .str _=>true
 | .non=>true
 | _=>false
def keyI:D -> Bool
 | .int _=>true
 | _=>false
def keyS:D -> Bool
 | .str x=>!banD x
 | _=>false
def banC:D -> Nat
 | .str x=>if banD x then 1 else 0
 | _=>0
mutual
def keyTr:D -> Bool
 | .int _=>true
 | .str _=>true
 | .non=>true
 | .tup ds=>decide ((ds.map banC).sum <= 1) && keyTrs ds
 | _=>false
def keyTrs:List D -> Bool
 | []=>true
 | d :: ds=>keyTr d && keyTrs ds
end
def keyD (t:Bool):D -> Bool
 | .tup ds=>t && (ds.all keyI || ds.all keyS || (keyTr (.tup ds) && decide (deps ds <= 7)))
 | d=>!t && keyB d
def lookD (k:D):List D -> List D -> Option D
 | a :: ks,v :: vs=>if a.eqv k then some v else lookD k ks vs
 | _,_=>none
def setD (k v:D):List D -> List D -> List D
 | a :: ks,u :: vs=>(if a.eqv k then v else u) :: setD k v ks vs
 | _,vs=>vs
def putD (k v:D) (ks vs:List D):List D × List D:=if ks.any fun a=>a.eqv k then (ks,setD k v ks vs) else (ks ++ [k],vs ++ [v])
def idxD (x:D):List D -> Option Nat
 | []=>none
 | d :: ds=>if d.eqv x then some 0 else (idxD x ds).map (· + 1)
def minLen:List D -> Option (List D)
 | []=>none
 | .tup xs :: ds=>match minLen ds with
  | some ys=>if ys.length < xs.length then some ys else some xs
  | none=>if ds.isEmpty then some xs else none
 | _ :: _=>none
def rpS (x:Str) (k:Int):Str:=if k < 1 then Str.empty else if (k == 1 || x.length == 0) = true then x else ⟨List.foldl (fun a b=>a ++ b) #[] (List.replicate k.toNat x.cps)⟩
def intsOf:List D -> Option (List Int)
 | []=>some []
 | .int i :: ds=>(intsOf ds).map (i :: ·)
 | _ :: _=>none
def lexI:List Int -> List Int -> Bool
 | [],[]=>false
 | [],_ :: _=>true
 | _ :: _,[]=>false
 | i :: is,j :: js=>if i = j then lexI is js else decide (i < j)
def insK (x:List Int × D):List (List Int × D) -> List (List Int × D)
 | []=>[x]
 | y :: ys=>if lexI y.1 x.1 then y :: insK x ys else x :: y :: ys
def sortK:List (List Int × D) -> List (List Int × D)
 | []=>[]
 | x :: xs=>insK x (sortK xs)
def keysOf:List D -> Option (List (List Int))
 | []=>some []
 | .tup ks :: ds=>match intsOf ks,keysOf ds with
  | some k,some r=>some (k :: r)
  | _,_=>none
 | _ :: _=>none
def headsOf:List D -> Option (List Str)
 | []=>some []
 | .tup (.str x :: _) :: ds=>(headsOf ds).map (x :: ·)
 | _ :: _=>none
def insT (x:Str × D):List (Str × D) -> List (Str × D)
 | []=>[x]
 | y :: ys=>if ltS y.1 x.1 then y :: insT x ys else x :: y :: ys
def sortT:List (Str × D) -> List (Str × D)
 | []=>[]
 | x :: xs=>insT x (sortT xs)
def dictPD (ds:List D):Rs D:=match rowsD ds with
 | some (ks,vs)=>if ks.Pairwise (fun a b=>a.eqv b = false) /\ ks.length <= 1000 then .ok (.dct false true ks vs) else .stuck
 | none=>.stuck
def dspD (t:Bool) (ks vs:List D):Rs D:=match t with
 | true=>match ks,vs with
  | [],[]=>.ok (.dct true true [] [])
  | [k],[v]=>if keyD true k then .ok (.dct true true [k] [v]) else .stuck
  | _,_=>.stuck
 | false=>if ks.all keyB && decide (ks.Pairwise fun a b=>a.eqv b = false) && decide (ks.length = vs.length) && decide (ks.length <= 15) then .ok (.dct false true ks vs) else .stuck
def isiD (f:D -> Bool):D -> Rs D
 | .dct _ _ _ _=>.stuck
 | .exc _=>.stuck
 | .fn _ _=>.stuck
 | .obj _ _ _=>.stuck
 | d=>.ok (.bl (f d))
def op1 (o:O1) (d:D):Rs D:=
 match o with
 | .neg=>match d with
  | .int i=>.ok (.int (-i))
  | _=>.stuck
 | .not=>match d with
  | .bl b=>.ok (.bl !b)
  | _=>.stuck
 | .isN=>match d with
  | .non=>.ok (.bl true)
  | _=>.ok (.bl false)
 | .notN=>match d with
  | .non=>.ok (.bl false)
  | _=>.ok (.bl true)
 | .isT=>match d with
  | .bl b=>.ok (.bl b)
  | _=>.stuck
 | .notT=>match d with
  | .bl b=>.ok (.bl !b)
  | _=>.stuck
 | .isF=>match d with
  | .bl b=>.ok (.bl !b)
  | _=>.stuck
 | .notF=>match d with
  | .bl b=>.ok (.bl b)
  | _=>.stuck
 | .len=>match d with
  | .tup ds=>.ok (.int ds.length)
  | .lst ds=>.ok (.int ds.length)
  | .str x=>if x.length <= lineD then .ok (.int x.length) else .stuck
  | _=>.stuck
 | .all=>match d with
  | .lst ds=>match blsOf ds with
   | some bs=>.ok (.bl (bs.all id))
   | none=>.stuck
  | _=>.stuck
 | .any=>match d with
  | .lst ds=>match blsOf ds with
   | some bs=>.ok (.bl (bs.any id))
   | none=>.stuck
  | _=>.stuck
 | .tuple=>match d with
  | .tup ds=>.ok (.tup ds)
  | .lst ds=>.ok (.tup ds)
  | _=>.stuck
 | .list=>match d with
  | .tup ds=>.ok (.lst ds)
  | .lst ds=>.ok (.lst ds)
  | _=>.stuck
 | .sset=>match d with
  | .lst ds=>match strsOf ds with
   | some ss=>if ss.length < 60 then .ok (.lst ((sortS ss).map .str)) else .stuck
   | none=>.stuck
  | _=>.stuck
 | .lset=>match d with
  | .lst ds=>match strsOf ds with
   | some ss=>if ss.length < 60 then .ok (.int (sortS ss).length) else .stuck
   | none=>.stuck
  | _=>.stuck
 | .truth=>d.truth.bind fun b=>.ok (.bl b)
 | .isStr=>isiD (fun d=>match d with
   | .str _=>true
   | _=>false) d
 | .isTup=>isiD (fun d=>match d with
   | .tup _=>true
   | _=>false) d
 | .isLst=>isiD (fun d=>match d with
   | .lst _=>true
   | _=>false) d
 | .isInt=>isiD (fun d=>match d with
   | .int _=>true
   | .bl _=>true
   | _=>false) d
 | .isBool=>isiD (fun d=>match d with
   | .bl _=>true
   | _=>false) d
 | .range=>match d with
  | .int i=>if midI i then .ok (.lst (upTo 0 i.toNat)) else .stuck
  | _=>.stuck
 | .enum=>match d with
  | .tup ds=>.ok (.lst (enumFrom 0 ds))
  | .lst ds=>.ok (.lst (enumFrom 0 ds))
  | _=>.stuck
 | .ints=>match d with
  | .str x=>if x.cps.toList.all isFig && decide (x.cps.toList ≠ []) && decide (x.cps.toList.length <= 640) then .ok (.int (digs x.cps.toList)) else .stuck
  | _=>.stuck
 | .asI=>match d with
  | .int i=>.ok (.int i)
  | _=>.stuck
 | .rows=>match d with
  | .tup ds=>.ok (.tup ds)
  | .lst ds=>.ok (.lst ds)
  | _=>.stuck
 | .asT=>match d with
  | .tup ds=>.ok (.tup ds)
  | _=>.stuck
 | .dKeys=>match d with
  | .dct true _ ks _=>.ok (.lst ks)
  | _=>.stuck
 | .dKeyW=>match d with
  | .dct _ true ks _=>.ok (.lst ks)
  | _=>.stuck
 | .fld f=>match d with
  | .obj _ ns fs=>match (ns.zip fs).lookup f with
   | some v=>.ok v
   | none=>.stuck
  | _=>.stuck
 | .tupL=>match d with
  | .lst ds=>.ok (.tup ds)
  | _=>.stuck
 | .dLen=>match d with
  | .dct _ _ ks _=>.ok (.int ks.length)
  | _=>.stuck
 | .isC cs c=>match d with
  | .exc c'=>if cs.contains c' then .ok (.bl (c == Str.ofString "ValueError" || c' == c)) else .stuck
  | _=>.stuck
 | .items=>match d with
  | .dct _ true ks vs=>.ok (.lst (zipD ks vs))
  | _=>.stuck
 | .dictP=>match d with
  | .tup ds=>dictPD ds
  | .lst ds=>dictPD ds
  | _=>.stuck
 | .rev=>match d with
  | .lst ds=>.ok (.lst ds.reverse)
  | _=>.stuck
 | .strI=>match d with
  | .str x=>if x.length <= 1000 then .ok (.str x) else .stuck
  | .int i=>if i.natAbs < 2 ^ 64 then .ok (.str (toString i:String)) else .stuck
  | _=>.stuck
 | .join=>match d with
  | .lst ds=>match joinD ds with
   | some x=>.ok (.str x)
   | none=>.stuck
  | _=>.stuck
 | .minL=>match d with
  | .lst []=>.ok .non
  | .lst (d :: ds)=>match minLen (d :: ds) with
   | some xs=>.ok (.tup xs)
   | none=>.stuck
  | _=>.stuck
 | .sortT=>match d with
  | .lst ds=>match headsOf ds with
   | some xs=>if xs.Nodup /\ ds.length <= 6 then .ok (.lst ((sortT (xs.zip ds)).map (·.2))) else .stuck
   | none=>.stuck
  | _=>.stuck
 | .revT=>match d with
  | .tup ds=>.ok (.tup ds.reverse)
  | _=>.stuck
 | .intB=>match d with
  | .bl b=>.ok (.int (if b then 1 else 0))
  | _=>.stuck
 | .sortX=>match d with
  | .lst ds=>match strsOf ds with
   | some ss=>if ss.Nodup /\ ss.length < 60 then .ok (.lst ((sortS ss).map .str)) else .stuck
   | none=>.stuck
  | _=>.stuck
 | .sumI=>match d with
  | .lst ds=>match intsOf ds with
   | some is=>if is.all (fun i=>decide (0 <= i /\ i <= 1000000)) && decide (is.length <= 1000) then .ok (.int is.sum) else .stuck
   | none=>.stuck
  | _=>.stuck
 | .rngT=>match d with
  | .int i=>if 0 <= i /\ i <= 1000 then .ok (.tup (upTo 0 i.toNat)) else .stuck
  | _=>.stuck
def repS (x:Str) (k:Int):Str:=⟨(List.replicate k.toNat x.cps).foldl (· ++ ·) #[]⟩
def hasSign (x:Str) (c:Nat):Bool:=decide (c ∈ x.cps.toList)
def op2 (o:O2) (a b:D):Rs D:=
 match o with
 | .add=>match a,b with
  | .int i,.int j=>.ok (.int (i + j))
  | .str x,.str y=>if x.length + y.length <= lineD then .ok (.str (x ++ y)) else .stuck
  | .tup xs,.tup ys=>if xs.length + ys.length <= lineD then .ok (.tup (xs ++ ys)) else .stuck
  | .lst xs,.lst ys=>if xs.length + ys.length <= lineD then .ok (.lst (xs ++ ys)) else .stuck
  | _,_=>.stuck
 | .addI=>match a,b with
  | .int i,.int j=>.ok (.int (i + j))
  | _,_=>.stuck
 | .sub=>match a,b with
  | .int i,.int j=>.ok (.int (i - j))
  | _,_=>.stuck
 | .mul=>match a,b with
  | .int i,.int j=>if smallI i || smallI j then .ok (.int (i * j)) else .stuck
  | .str x,.int k=>if 2 <= k /\ k <= 1000 /\ 1 <= x.length /\ x.length <= 1000 then .ok (.str (repS x k)) else .stuck
  | _,_=>.stuck
 | .fdiv=>match a,b with
  | .int i,.int j=>if 0 < j /\ j < 1073741824 then .ok (.int (i / j)) else .stuck
  | _,_=>.stuck
 | .mod=>match a,b with
  | .int i,.int j=>if 0 < j then .ok (.int (i % j)) else .stuck
  | _,_=>.stuck
 | .pow=>match a,b with
  | .int i,.int j=>if 0 <= j /\ j <= 1000000 /\ i.natAbs < 2 ^ 64 then .ok (.int (i ^ j.toNat)) else .stuck
  | _,_=>.stuck
 | .eq=>if okDep a && okDep b then .ok (.bl (a.eqv b)) else .stuck
 | .ne=>if okDep a && okDep b then .ok (.bl (!a.eqv b)) else .stuck
 | .lt=>match a,b with
  | .int i,.int j=>.ok (.bl (decide (i < j)))
  | .str x,.str y=>.ok (.bl (ltS x y))
  | _,_=>.stuck
 | .ltL=>match a,b with
  | .lst xs,.lst ys=>match intsOf xs,intsOf ys with
   | some is,some js=>if is.length <= 1000 /\ js.length <= 1000 then .ok (.bl (lexI is js)) else .stuck
   | _,_=>.stuck
  | _,_=>.stuck
 | .gtT=>match a,b with
  | .tup [.lst xs,.int i],.tup [.lst ys,.int j]=>match intsOf xs,intsOf ys with
   | some is,some js=>if is.length <= 1000 /\ js.length <= 1000 then .ok (.bl (if is = js then decide (j < i) else lexI js is)) else .stuck
   | _,_=>.stuck
  | _,_=>.stuck
 | .le=>match a,b with
  | .int i,.int j=>.ok (.bl (decide (i <= j)))
  | _,_=>.stuck
 | .gt=>match a,b with
  | .int i,.int j=>.ok (.bl (decide (j < i)))
  | _,_=>.stuck
 | .ge=>match a,b with
  | .int i,.int j=>.ok (.bl (decide (j <= i)))
  | _,_=>.stuck
 | .isin=>match a,b with
  | .str x,.str y=>if x.cps = #[x.cps.getD 0 0] then .ok (.bl (hasSign y (x.cps.getD 0 0))) else .stuck
  | a,.tup ds=>if okDep (.tup ds) && okDep a then .ok (.bl (ds.any fun d=>d.eqv a)) else .stuck
  | a,.lst ds=>if okDep (.lst ds) && okDep a then .ok (.bl (ds.any fun d=>d.eqv a)) else .stuck
  | _,_=>.stuck
 | .notin=>match a,b with
  | .str x,.str y=>if x.cps = #[x.cps.getD 0 0] then .ok (.bl (!hasSign y (x.cps.getD 0 0))) else .stuck
  | a,.tup ds=>if okDep (.tup ds) && okDep a then .ok (.bl (!ds.any fun d=>d.eqv a)) else .stuck
  | a,.lst ds=>if okDep (.lst ds) && okDep a then .ok (.bl (!ds.any fun d=>d.eqv a)) else .stuck
  | _,_=>.stuck
 | .idx=>match a,b with
  | .tup ds,.int i=>Rs.ofOpt (atD ds i)
  | .lst ds,.int i=>Rs.ofOpt (atD ds i)
  | .str x,.int i=>if x.length <= lineD then Rs.ofOpt ((atD x.cps.toList i).map fun c=>.str ⟨#[c]⟩) else .stuck
  | _,_=>.stuck
 | .zip=>match a,b with
  | .tup xs,.tup ys=>.ok (.lst (zipD xs ys))
  | .lst xs,.lst ys=>.ok (.lst (zipD xs ys))
  | .tup xs,.lst ys=>.ok (.lst (zipD xs ys))
  | .lst xs,.tup ys=>.ok (.lst (zipD xs ys))
  | _,_=>.stuck
 | .starts=>match a,b with
  | .str x,.str y=>.ok (.bl (decide (0 + y.length <= x.length) && (x.cps.extract 0 (0 + y.length) == y.cps)))
  | _,_=>.stuck
 | .rep=>match a,b with
  | .lst ds,.int k=>if midI k && decide (ds.length * k.toNat <= lineD) then .ok (.lst (List.replicate k.toNat ds).flatten) else .stuck
  | _,_=>.stuck
 | .repT=>match a,b with
  | .tup ds,.int k=>if decide (2 <= k) && decide (ds ≠ []) && decide (ds.length * k.toNat <= lineD) then .ok (.tup (List.replicate k.toNat ds).flatten) else .stuck
  | _,_=>.stuck
 | .repU=>match a,b with
  | .tup ds,.int k=>if decide (0 <= k) && decide (ds ≠ []) && decide (ds.length * k.toNat <= lineD) then .ok (.tup (List.replicate k.toNat ds).flatten) else .stuck
  | _,_=>.stuck
 | .repS=>match a,b with
  | .str x,.int k=>if decide (0 <= k) && decide (k <= 100) && decide (x.length <= 100) then .ok (.str (rpS x k)) else .stuck
  | _,_=>.stuck
 | .dIn t'=>match a,b with
  | k,.dct t _ ks _=>if t = t' /\ keyD t k = true then .ok (.bl (ks.any fun d=>d.eqv k)) else .stuck
  | _,_=>.stuck
 | .dNi t'=>match a,b with
  | k,.dct t _ ks _=>if t = t' /\ keyD t k = true then .ok (.bl (!ks.any fun d=>d.eqv k)) else .stuck
  | _,_=>.stuck
 | .dGet t'=>match a,b with
  | .dct t _ ks vs,k=>if t = t' /\ keyD t k = true then Rs.ofOpt (lookD k ks vs) else .stuck
  | _,_=>.stuck
 | .dGz t'=>match a,b with
  | .dct t _ ks vs,k=>if t = t' /\ keyD t k = true then .ok ((lookD k ks vs).getD (.int 0)) else .stuck
  | _,_=>.stuck
 | .mulI=>match a,b with
  | .int i,.int j=>if smallI i || smallI j then .ok (.int (i * j)) else .stuck
  | _,_=>.stuck
 | .indexT=>match a,b with
  | .tup ds,x=>if okDep (.tup ds) && okDep x && decide (ds.length <= 1000) then Rs.ofOpt ((idxD x ds).map fun n=>.int n) else .stuck
  | _,_=>.stuck
 | .index=>match a,b with
  | .lst ds,x=>if okDep (.lst ds) && okDep x && decide (ds.length <= 1000) then Rs.ofOpt ((idxD x ds).map fun n=>.int n) else .stuck
  | _,_=>.stuck
 | .count=>match a,b with
  | .lst ds,x=>if okDep (.lst ds) && okDep x && decide (ds.length <= 1000) then .ok (.int (ds.countP fun d=>d.eqv x)) else .stuck
  | _,_=>.stuck
 | .joinS=>match a,b with
  | .str s,.lst ds=>match strsOf ds with
   | some xs=>if s.length <= 1000 /\ (joinL s.cps.toList (xs.map (·.cps.toList))).length <= 1000 then .ok (.str (mkS (joinL s.cps.toList (xs.map (·.cps.toList))))) else .stuck
   | none=>.stuck
  | .str s,.tup ds=>match strsOf ds with
   | some xs=>if s.length <= 1000 /\ (joinL s.cps.toList (xs.map (·.cps.toList))).length <= 1000 then .ok (.str (mkS (joinL s.cps.toList (xs.map (·.cps.toList))))) else .stuck
   | none=>.stuck
  | _,_=>.stuck
 | .splitS=>match a,b with
  | .str x,.str y=>if x.length <= 1000 /\ y.cps = #[y.cps.getD 0 0] then .ok (.lst ((splitL (y.cps.getD 0 0) x.cps.toList).map fun l=>.str (mkS l))) else .stuck
  | _,_=>.stuck
 | .partS=>match a,b with
  | .str x,.str y=>if x.length <= 1000 /\ y.cps = #[y.cps.getD 0 0] then .ok (partD x.cps.toList (y.cps.getD 0 0)) else .stuck
  | _,_=>.stuck
 | .ends=>match a,b with
  | .str x,.str y=>.ok (.bl (decide (0 + y.length <= x.length) && (x.cps.extract (x.length - y.length) (x.length - y.length + y.length) == y.cps)))
  | _,_=>.stuck
 | .strt=>match a,b with
  | .str x,.str y=>.ok (.bl (decide (0 + y.length <= x.length) && (x.cps.extract 0 (0 + y.length) == y.cps)))
  | _,_=>.stuck
 | .range2=>match a,b with
  | .int i,.int j=>if midI i && midI j then .ok (.lst (upTo i (j - i).toNat)) else .stuck
  | _,_=>.stuck
inductive Px where
 | var (i:Nat) | con (d:D)
 | un (o:O1) (a:Px) | bi (o:O2) (a b:Px)
 | and (a b:Px) | or (a b:Px) | ite (c a b:Px)
 | nil | cons (a as:Px) | tup (as:Px) | dis (as:Px)
 | call (f:Nat) (as:Px)
 | sl (a lo hi:Px)
 | walk (a:Px)
 | comp (nt:Nat) (src c e:Px)
 | dsp (t:Bool) (ks vs:Px)
 /-- a call of what is in a name; sorted by a def -/
 | callv (fs:List (Str × Nat)) (a as:Px) | sortK (f:Nat) (a:Px)
 /-- a deed told: its value,or what f says of its refusal -/
 | told (f:Nat) (cs:List Str) (a:Px)
 deriving Inhabited
def usesP:Px -> Nat -> Bool
 | .var j,i=>j == i
 | .con _,_=>false
 | .un _ a,i=>usesP a i
 | .bi _ a b,i=>usesP a i || usesP b i
 | .and a b,i=>usesP a i || usesP b i
 | .or a b,i=>usesP a i || usesP b i
 | .ite c a b,i=>usesP c i || usesP a i || usesP b i
 | .nil,_=>false
 | .cons a b,i=>usesP a i || usesP b i
 | .tup a,i=>usesP a i
 | .dis a,i=>usesP a i
 | .call _ a,i=>usesP a i
 | .sl a b c,i=>usesP a i || usesP b i || usesP c i
 | .walk a,i=>usesP a i
 | .comp nt s c e,i=>usesP s i || usesP c (i + (if nt = 0 then 1 else nt)) || usesP e (i + (if nt = 0 then 1 else nt))
 | .dsp _ a b,i=>usesP a i || usesP b i
 | .callv _ a b,i=>usesP a i || usesP b i
 | .sortK _ a,i=>usesP a i
 | .told _ _ a,i=>usesP a i
def sepP (M:List Nat) (p:Px):Bool:=M.all fun i=>!usesP p i
abbrev Fm:=List (Option D)
def bindT (nt:Nat) (d:D):Rs Fm:=
 if nt = 0 then .ok [some d] else match d with
  | .tup ds=>if ds.length = nt then .ok (ds.map some) else .stuck
  | _=>.stuck
theorem JeI {nt:Nat} {d:D} {c:Str} (h:bindT nt d = .ex c):False:=by
 unfold bindT at h
 split at h
 ·cases h
 ·split at h
  ·split at h <;> cases h
  ·cases h
def compL (nt:Nat) (c e:Fm -> Rs D) (env:Fm):List D -> Rs (List D)
 | []=>.ok []
 | d :: ds=>(bindT nt d).bind fun new=>(c (new ++ env)).calm.bind fun b=>match b with
  | .bl true=>(e (new ++ env)).bind fun y=>(compL nt c e env ds).bind fun ys=>.ok (y :: ys)
  | .bl false=>compL nt c e env ds
  | _=>.stuck
abbrev CallD:=Nat -> List D -> Rs D
def D.asL:D -> Rs (List D)
 | .lst ds=>.ok ds
 | _=>.stuck
def mapR (f:D -> Rs D):List D -> Rs (List D)
 | []=>.ok []
 | d :: ds=>(f d).bind fun y=>(mapR f ds).bind fun ys=>.ok (y :: ys)
def evD (call:CallD):Px -> Fm -> Rs D
 | .var i,env=>match env[i]? with
  | some (some d)=>.ok d
  | _=>.stuck
 | .con d,_=>.ok d
 | .un o a,env=>(evD call a env).bind (op1 o)
 | .bi o a b,env=>(evD call a env).bind fun x=>(evD call b env).bind fun y=>op2 o x y
 | .and a b,env=>(evD call a env).bind fun x=>match x with
  | .bl true=>evD call b env
  | .bl false=>.ok (.bl false)
  | _=>.stuck
 | .or a b,env=>(evD call a env).bind fun x=>match x with
  | .bl true=>.ok (.bl true)
  | .bl false=>evD call b env
  | _=>.stuck
 | .ite c a b,env=>(evD call c env).bind fun x=>match x with
  | .bl true=>evD call a env
  | .bl false=>evD call b env
  | _=>.stuck
 | .nil,_=>.ok (.lst [])
 | .cons a as,env=>(evD call a env).bind fun x=>(evD call as env).bind fun y=>y.asL.bind fun ds=>.ok (.lst (x :: ds))
 | .tup as,env=>(evD call as env).bind fun y=>y.asL.bind fun ds=>if ds.length <= lineD then .ok (.tup ds) else .stuck
 | .dis as,env=>(evD call as env).bind fun y=>y.asL.bind fun ds=>if ds.length <= lineD then .ok (.lst ds) else .stuck
 | .call f as,env=>(evD call as env).bind fun y=>y.asL.bind fun ds=>call f ds
 | .sl a lo hi,env=>(evD call a env).bind fun x=>(evD call lo env).bind fun l=>l.bound.bind fun l=>(evD call hi env).bind fun h=>h.bound.bind fun h=>match x with
  | .tup ds=>.ok (.tup (cutD ds l h))
  | .lst ds=>.ok (.lst (cutD ds l h))
  | .str x=>if x.length <= 1000 then .ok (.str (mkS (cutD x.cps.toList l h))) else .stuck
  | _=>.stuck
 | .walk a,env=>(evD call a env).bind fun x=>x.walk.bind fun ds=>.ok (.lst ds)
 | .comp nt src c e,env=>(evD call src env).bind fun s=>s.asL.bind fun ds=>if ds.length <= lineD then (compL nt (evD call c) (evD call e) env ds).bind fun ys=>.ok (.lst ys) else .stuck
 | .dsp t k v,env=>(evD call k env).bind fun x=>(evD call v env).bind fun y=>x.asL.bind fun ks=>y.asL.bind fun vs=>dspD t ks vs
 | .callv fs a as,env=>(evD call a env).bind fun x=>match x with
  | .fn n i=>if fs.contains (n,i) then (evD call as env).bind fun y=>y.asL.bind fun ds=>call i ds else .stuck
  | _=>.stuck
 | .sortK f a,env=>(evD call a env).bind fun x=>x.walk.bind fun ds=>(mapR (fun d=>call f [d]) ds).calm.bind fun ks=>match keysOf ks with
  | some is=>if ds.length <= 6 then .ok (.lst ((sortK (is.zip ds)).map (·.2))) else .stuck
  | none=>.stuck
 | .told f cs a,env=>match evD call a env with
  | .ok d=>.ok d
  | .ex c=>if cs.contains c then (match call f [.exc c] with
   | .ok d=>.ok d
   | _=>.stuck) else .stuck
  | .stuck=>.stuck
inductive Sx where
 | skip | seq (a b:Sx)
 /-- m: the expression reads what is changed here; then nothing that can be changed comes out of it -/
 | set (m:Bool) (i:Nat) (e:Px) | own (i:Nat) (e:Px)
 | app (m:Bool) (i:Nat) (e:Px) | ext (m:Bool) (i:Nat) (e:Px)
 | eff (e:Px) | ret (e:Px) | retN
 | ite (c:Px) (a b:Sx)
 | loop (m:Bool) (ts:List Nat) (nt:Nat) (src:Px) (body:Sx)
 | brk | cnt | raise (c:Str) (p:Px)
 | whl (n:Nat) (c:Px) (body:Sx)
 | put (m t:Bool) (i:Nat) (k v:Px) | ownD (t:Bool) (i:Nat) | retF (i:Nat)
 | tryC (i:Nat) (e:Px) (j:Nat) (cs:List Str)
 | mov (i j:Nat) | movF (i j:Nat)
 /-- a list's item set,taken out,put in -/
 | seti (i:Nat) (k v:Px) | popi (t i:Nat) (k:Px) | insi (i:Nat) (k v:Px)
 /-- from here on other places are own ones; those in is are forgotten -/
 | sw (is:List Nat) (b:Sx)
 deriving Inhabited
inductive Fw where
 | nx | rt (d:D) | bk | ct
def setAll:List Nat -> List (Option D) -> Fm -> Fm
 | i :: is,s :: ss,env=>setAll is ss (env.set i s)
 | _,_,env=>env
def forL (ts:List Nat) (nt:Nat) (body:Fm -> Rs (Fw × Fm)):List D -> Fm -> Rs (Fw × Fm)
 | [],env=>.ok (.nx,env)
 | d :: ds,env=>(bindT nt d).bind fun new=>(body (setAll ts new env)).bind fun r=>match r with
  | (.nx,env2)=>forL ts nt body ds env2
  | (.ct,env2)=>forL ts nt body ds env2
  | (.bk,env2)=>.ok (.nx,env2)
  | (.rt d,env2)=>.ok (.rt d,env2)
def whlL (c:Fm -> Rs D) (body:Fm -> Rs (Fw × Fm)):Nat -> Fm -> Rs (Fw × Fm)
 | 0,_=>.stuck
 | n + 1,env=>(c env).bind fun b=>match b with
  | .bl true=>(body env).bind fun r=>match r with
   | (.nx,env2)=>whlL c body n env2
   | (.ct,env2)=>whlL c body n env2
   | (.bk,env2)=>.ok (.nx,env2)
   | (.rt d,env2)=>.ok (.rt d,env2)
  | .bl false=>.ok (.nx,env)
  | _=>.stuck
def txtOk:D -> Bool
 | .str x=>decide (x.length <= 1000) && x.cps.toList.all fun c=>decide (c < 256)
 | _=>false
def msgOk:D -> Bool
 | .lst ds=>ds.all txtOk
 | _=>false
def catchC (j:Nat) (cs:List Str) (env:Fm):Rs (Fw × Fm) -> Rs (Fw × Fm)
 | .ex c=>if cs.contains c then .ok (.nx,(env.map fun _=>none).set j (some (.exc c))) else .stuck
 | r=>r
def mutS:Sx -> Bool
 | .seq a b=>mutS a || mutS b
 | .app _ _ _=>true
 | .ext _ _ _=>true
 | .ite _ a b=>mutS a || mutS b
 | .loop _ _ _ _ b=>mutS b
 | .whl _ _ b=>mutS b
 | .put _ _ _ _ _=>true
 | .seti _ _ _=>true
 | .popi _ _ _=>true
 | .insi _ _ _=>true
 | .movF _ _=>true
 | _=>false
def blankD (M:List Nat):Nat -> Fm -> Fm
 | _,[]=>[]
 | j,s :: env=>(if j ∈ M then none else s) :: blankD M (j + 1) env
def swOut:Rs (Fw × Fm) -> Rs (Fw × Fm)
 | .ok (.rt d,env)=>.ok (.rt d,env)
 | .ok _=>.stuck
 | .ex c=>.ex c
 | .stuck=>.stuck
def exD (call:CallD):Sx -> Fm -> Rs (Fw × Fm)
 | .skip,env=>.ok (.nx,env)
 | .seq a b,env=>(exD call a env).bind fun r=>match r with
  | (.nx,env2)=>exD call b env2
  | r=>.ok r
 | .set m i e,env=>(evD call e env).bind fun d=>if m && !d.imm then .stuck else .ok (.nx,env.set i (some d))
 | .own i e,env=>(evD call e env).bind fun d=>match d with
  | .lst ds=>if !imms ds then .stuck else .ok (.nx,env.set i (some (.lst ds)))
  | _=>.stuck
 | .ownD t i,env=>.ok (.nx,env.set i (some (.dct t false [] [])))
 | .retF i,env=>match env[i]? with
  | some (some (.dct t false ks vs))=>.ok (.rt (.dct t true ks vs),env)
  | _=>.stuck
 | .app m i e,env=>match env[i]? with
  | some (some (.lst ds))=>(evD call e env).bind fun d=>if (m && !d.imm) || !decide (ds.length < lineD) then .stuck else .ok (.nx,env.set i (some (.lst (ds ++ [d]))))
  | _=>.stuck
 | .ext m i e,env=>match env[i]? with
  | some (some (.lst ds))=>(evD call e env).bind fun y=>y.asL.bind fun es=>if (m && !imms es) || !decide (ds.length + es.length <= lineD) then .stuck else .ok (.nx,env.set i (some (.lst (ds ++ es))))
  | _=>.stuck
 | .eff e,env=>(evD call e env).bind fun _=>.ok (.nx,env)
 | .ret e,env=>(evD call e env).bind fun d=>.ok (.rt d,env)
 | .retN,env=>.ok (.rt .non,env)
 | .ite c a b,env=>(evD call c env).bind fun x=>match x with
  | .bl true=>exD call a env
  | .bl false=>exD call b env
  | _=>.stuck
 | .loop m ts nt src body,env=>(evD call src env).bind fun s=>s.asL.bind fun ds=>if m && (mutS body || !imms ds) then .stuck else forL ts nt (exD call body) ds env
 | .brk,env=>.ok (.bk,env)
 | .cnt,env=>.ok (.ct,env)
 | .raise c p,env=>(evD call p env).bind fun d=>if msgOk d then .ex c else .stuck
 | .whl n c body,env=>whlL (evD call c) (exD call body) n env
 | .put m t' i k v,env=>match env[i]? with
  | some (some (.dct t false ks vs))=>(evD call v env).bind fun y=>(evD call k env).bind fun x=>if (m && !y.imm) || !(t == t') || !keyD t x || !decide (ks.length < 1000) then .stuck else .ok (.nx,env.set i (some (.dct t false (putD x y ks vs).1 (putD x y ks vs).2)))
  | _=>.stuck
 | .tryC i e j cs,env=>catchC j cs env ((evD call e env).bind fun d=>.ok (.nx,env.set i (some d)))
 | .mov i j,env=>match env[j]? with
  | some (some (.lst ds))=>.ok (.nx,(env.set i (some (.lst ds))).set j none)
  | _=>.stuck
 | .movF i j,env=>match env[j]? with
  | some (some (.dct t false ks vs))=>.ok (.nx,(env.set i (some (.dct t true ks vs))).set j none)
  | _=>.stuck
 | .sw is b,env=>swOut (exD call b (blankD is 0 env))
 | .seti i k v,env=>match env[i]? with
  | some (some (.lst ds))=>(evD call v env).bind fun y=>(evD call k env).bind fun x=>match x with
   | .int n=>match ixn ds.length n with
    | some j=>.ok (.nx,env.set i (some (.lst (ds.set j y))))
    | none=>.stuck
   | _=>.stuck
  | _=>.stuck
 | .popi t i k,env=>match env[i]? with
  | some (some (.lst ds))=>(evD call k env).bind fun x=>match x with
   | .int n=>match ixn ds.length n with
    | some j=>match ds[j]? with
     | some d=>.ok (.nx,(env.set i (some (.lst (ds.eraseIdx j)))).set t (some d))
     | none=>.stuck
    | none=>.stuck
   | _=>.stuck
  | _=>.stuck
 | .insi i k v,env=>match env[i]? with
  | some (some (.lst ds))=>(evD call k env).bind fun x=>(evD call v env).bind fun y=>match x with
   | .int n=>if midI n && decide (ds.length < 1000) then .ok (.nx,env.set i (some (.lst (cutD ds none (some n) ++ y :: cutD ds (some n) none)))) else .stuck
   | _=>.stuck
  | _=>.stuck
theorem Jbz {M:List Nat}:∀ (env:Fm) (j i:Nat),(blankD M j env)[i]? = (env[i]?).map fun s=>if j + i ∈ M then none else s
 | [],_,_=>by simp [blankD]
 | s :: env,j,0=>by simp [blankD]
 | s :: env,j,i + 1=>by
  have:=Jbz (M:=M) env (j + 1) i
  simp only [blankD,List.getElem?_cons_succ,this]
  rw [show j + 1 + i = j + (i + 1) by omega]
theorem Jgs {nt:Nat} {d:D} {new:Fm} (h:bindT nt d = .ok new):new.length = if nt = 0 then 1 else nt:=by
 unfold bindT at h
 split at h
 ·rename_i q; cases h; simp [q]
 ·rename_i q
  split at h
  ·split at h
   ·rename_i e; cases h; simp [q,e]
   ·cases h
  ·cases h
theorem Jbv {nt:Nat} {c e c' e':Fm -> Rs D} {env env':Fm} (hc:∀ new:Fm,new.length = (if nt = 0 then 1 else nt) -> c (new ++ env) = c' (new ++ env')) (he:∀ new:Fm,new.length = (if nt = 0 then 1 else nt) -> e (new ++ env) = e' (new ++ env')) :
  ∀ ds,compL nt c e env ds = compL nt c' e' env' ds
 | []=>rfl
 | d :: ds=>by
  have ih:=Jbv hc he ds
  unfold compL
  cases hb:bindT nt d with
  | ok new=>
   have hl:=Jgs hb
   simp only [Rs.bind_ok,hc new hl,he new hl,ih]
  | ex x=>rfl
  | stuck=>rfl
theorem JgZ (call:CallD):∀ (p:Px) (env env':Fm),(∀ i,usesP p i = true -> env[i]? = env'[i]?) -> evD call p env = evD call p env':=by
 intro p
 induction p with
 | var j=>intro env env' h; simp only [evD,h j (by simp [usesP])]
 | con d=>intro env env' h; rfl
 | un o a iha=>intro env env' h; simp only [evD,iha env env' fun i q=>h i (by simp [usesP,q])]
 | bi o a b iha ihb=>intro env env' h; simp only [evD,iha env env' fun i q=>h i (by simp [usesP,q]),ihb env env' fun i q=>h i (by simp [usesP,q])]
 | and a b iha ihb=>intro env env' h; simp only [evD,iha env env' fun i q=>h i (by simp [usesP,q]),ihb env env' fun i q=>h i (by simp [usesP,q])]
 | or a b iha ihb=>intro env env' h; simp only [evD,iha env env' fun i q=>h i (by simp [usesP,q]),ihb env env' fun i q=>h i (by simp [usesP,q])]
 | ite c a b ihc iha ihb=>intro env env' h; simp only [evD,ihc env env' fun i q=>h i (by simp [usesP,q]),iha env env' fun i q=>h i (by simp [usesP,q]),ihb env env' fun i q=>h i (by simp [usesP,q])]
 | nil=>intro env env' h; rfl
 | cons a b iha ihb=>intro env env' h; simp only [evD,iha env env' fun i q=>h i (by simp [usesP,q]),ihb env env' fun i q=>h i (by simp [usesP,q])]
 | tup a iha=>intro env env' h; simp only [evD,iha env env' fun i q=>h i (by simp [usesP,q])]
 | dis a iha=>intro env env' h; simp only [evD,iha env env' fun i q=>h i (by simp [usesP,q])]
 | call f a iha=>intro env env' h; simp only [evD,iha env env' fun i q=>h i (by simp [usesP,q])]
 | sl a b c iha ihb ihc=>intro env env' h; simp only [evD,iha env env' fun i q=>h i (by simp [usesP,q]),ihb env env' fun i q=>h i (by simp [usesP,q]),ihc env env' fun i q=>h i (by simp [usesP,q])]
 | walk a iha=>intro env env' h; simp only [evD,iha env env' fun i q=>h i (by simp [usesP,q])]
 | dsp t a b iha ihb=>intro env env' h; simp only [evD,iha env env' fun i q=>h i (by simp [usesP,q]),ihb env env' fun i q=>h i (by simp [usesP,q])]
 | callv fs a b iha ihb=>intro env env' h; simp only [evD,iha env env' fun i q=>h i (by simp [usesP,q]),ihb env env' fun i q=>h i (by simp [usesP,q])]
 | sortK f a iha=>intro env env' h; simp only [evD,iha env env' fun i q=>h i (by simp [usesP,q])]
 | told f cs a iha=>intro env env' h; simp only [evD,iha env env' fun i q=>h i (by simp [usesP,q])]
 | comp nt s c e ihs ihc ihe=>
  intro env env' h
  have app:∀ (u:Px),(∀ i,usesP u (i + (if nt = 0 then 1 else nt)) = true -> env[i]? = env'[i]?) -> ∀ new:Fm,new.length = (if nt = 0 then 1 else nt) -> ∀ i,usesP u i = true -> (new ++ env)[i]? = (new ++ env')[i]?:=fun u hu new hl i hi=>by
   by_cases q:i < new.length
   ·rw [List.getElem?_append_left q,List.getElem?_append_left q]
   ·rw [List.getElem?_append_right (by omega),List.getElem?_append_right (by omega)]
    refine hu _ ?_
    rw [show i - new.length + (if nt = 0 then 1 else nt) = i by omega]
    exact hi
  simp only [evD,ihs env env' fun i q=>h i (by simp [usesP,q])]
  rw [show compL nt (evD call c) (evD call e) env = compL nt (evD call c) (evD call e) env' from funext fun ds=>Jbv (fun new hl=>ihc _ _ (app c (fun i q=>h i (by simp [usesP,q])) new hl)) (fun new hl=>ihe _ _ (app e (fun i q=>h i (by simp [usesP,q])) new hl)) ds]
theorem JC (call:CallD) {M:List Nat} {p:Px} (env:Fm) (h:sepP M p = true):evD call p (blankD M 0 env) = evD call p env:=by
 refine JgZ call p _ _ fun i hi=>?_
 have hn:i ∉ M:=fun hm=>by
  have:=List.all_eq_true.mp h i hm
  rw [hi] at this; simp at this
 rw [Jbz]
 simp only [Nat.zero_add,if_neg hn]
 cases env[i]? <;> rfl
def answerD:Rs (Fw × Fm) -> Rs D
 | .ok (.nx,_)=>.ok .non
 | .ok (.rt d,_)=>.ok d
 | .ok _=>.stuck
 | .ex c=>.ex c
 | .stuck=>.stuck
structure DefD where
 slots:Nat
 params:Nat
 body:Sx
def startD (n:Nat) (ds:List D):Fm:=ds.map some ++ List.replicate (n - ds.length) none
def runD (defs:List DefD):Nat -> CallD
 | 0=>fun _ _=>.stuck
 | k + 1=>fun f ds=>match defs[f]? with
  | some d=>if ds.length = d.params then answerD (exD (runD defs k) d.body (startD d.slots ds)) else .stuck
  | none=>.stuck
end Pu
namespace Pu
open PySem
theorem Rs.ofOpt_ex {α:Type} {o:Option α} {c:Str}:Rs.ofOpt o ≠ .ex c:=by cases o <;> simp [Rs.ofOpt]
theorem JnI (o:O2) (a b:D) (c:Str):op2 o a b ≠ .ex c:=by
 unfold op2
 split
 all_goals repeat' (first | (intro h; cases h; done) | exact Rs.ofOpt_ex | split)
theorem Jhf (d:D) (c:Str):d.truth ≠ .ex c:=by
 unfold D.truth
 split
 all_goals repeat' (first | (intro h; cases h; done) | split)
theorem JkZ (f:D -> Bool) (d:D) (c:Str):isiD f d ≠ .ex c:=by
 unfold isiD
 split <;> (intro h; cases h)
theorem JgX (ds:List D) (c:Str):dictPD ds ≠ .ex c:=by
 unfold dictPD
 repeat' (first | (intro h; cases h; done) | split)
theorem Jog (o:O1) (d:D) (c:Str):op1 o d ≠ .ex c:=by
 unfold op1
 split
 all_goals repeat' (first | (intro h; cases h; done) | exact JkZ _ _ _ | exact JgX _ _ | (intro h; cases q:D.truth _ with | ok b=>(rw [q] at h; cases h) | ex e=>exact Jhf _ _ q | stuck=>(rw [q] at h; cases h)) | split)
def noEx:Px -> Bool
 | .var _=>true
 | .con _=>true
 | .un _ a=>noEx a
 | .bi _ a b=>noEx a && noEx b
 | _=>false
theorem JbS (call:CallD):∀ (p:Px) (env:Fm) (c:Str),noEx p = true -> evD call p env ≠ .ex c
 | .var i,env,c,_=>by
  simp only [evD]
  cases env[i]? with
  | none=>intro h; cases h
  | some o=>cases o <;> (intro h; cases h)
 | .con d,env,c,_=>by simp only [evD]; intro h; cases h
 | .un o a,env,c,h=>by
  simp only [evD]
  cases q:evD call a env with
  | ok d=>exact Jog o d c
  | ex e=>exact absurd q (JbS call a env e h)
  | stuck=>intro h; cases h
 | .bi o a b,env,c,h=>by
  simp only [noEx,Bool.and_eq_true] at h
  simp only [evD]
  cases q:evD call a env with
  | ok d=>
   simp only [Rs.bind_ok]
   cases q2:evD call b env with
   | ok d2=>exact JnI o d d2 c
   | ex e=>exact absurd q2 (JbS call b env e h.2)
   | stuck=>intro h; cases h
  | ex e=>exact absurd q (JbS call a env e h.1)
  | stuck=>intro h; cases h
end Pu
namespace Pu
open PySem
theorem JbX (x:Str):∀ (l:List Str) (w:Str),w ∈ insS x l ↔ w = x \/ w ∈ l
 | [],w=>by simp [insS]
 | y :: ys,w=>by
  unfold insS
  split
  ·next h=>
   have:x = y:=by simpa using h
   subst this
   simp
  ·split
   ·simp
   ·simp only [List.mem_cons,JbX x ys w]
    constructor
    ·rintro (h | h | h) <;> simp [h]
    ·rintro (h | h | h) <;> simp [h]
theorem JP:∀ (l:List Str) (w:Str),w ∈ sortS l ↔ w ∈ l
 | [],w=>Iff.rfl
 | y :: ys,w=>by
  unfold sortS
  rw [JbX,JP ys w]
  simp
def LtS (a b:Str):Prop:=a.cps.toList < b.cps.toList
theorem LtS.irrefl (a:Str):¬ LtS a a:=List.lt_irrefl _
theorem LtS.trans {a b c:Str} (h:LtS a b) (h':LtS b c):LtS a c:=List.lt_trans h h'
theorem LtS.asymm {a b:Str} (h:LtS a b) (h':LtS b a):False:=LtS.irrefl a (h.trans h')
theorem LtS.total {a b:Str} (h:¬ LtS a b) (hn:a ≠ b):LtS b a:=by
 by_cases z:LtS b a
 ·exact z
 ·exfalso
  apply hn
  have e:a.cps.toList = b.cps.toList:=List.le_antisymm (List.not_lt.mp z) (List.not_lt.mp h)
  cases a with
  | mk x=>cases b with
   | mk y=>
    have:x = y:=Array.toList_inj.mp e
    rw [this]
theorem Jdl (x:Str):∀ l:List Str,l.Pairwise LtS -> (insS x l).Pairwise LtS
 | [],_=>by simp [insS]
 | y :: ys,h=>by
  obtain ⟨h1,h2⟩:=List.pairwise_cons.mp h
  unfold insS
  split
  ·exact h
  ·next hne=>
   have hne:x ≠ y:=by simpa using hne
   split
   ·next hl=>
    have hl:LtS x y:=of_decide_eq_true (p:=x.cps.toList < y.cps.toList) hl
    refine List.pairwise_cons.mpr ⟨fun z hz=>?_,h⟩
    rcases List.mem_cons.mp hz with rfl | hz
    ·exact hl
    ·exact hl.trans (h1 z hz)
   ·next hl=>
    have hl:¬ LtS x y:=fun z=>hl (decide_eq_true (p:=x.cps.toList < y.cps.toList) z)
    refine List.pairwise_cons.mpr ⟨fun z hz=>?_,Jdl x ys h2⟩
    rcases (JbX x ys z).mp hz with rfl | hz
    ·exact LtS.total hl hne
    ·exact h1 z hz
theorem JaE:∀ l:List Str,(sortS l).Pairwise LtS
 | []=>List.Pairwise.nil
 | x :: xs=>Jdl x _ (JaE xs)
theorem JcF:∀ xs ys:List Str,xs.Pairwise LtS -> ys.Pairwise LtS -> (∀ k,k ∈ xs ↔ k ∈ ys) -> xs = ys
 | [],[],_,_,_=>rfl
 | [],y :: ys,_,_,h=>by
  have:=(h y).mpr (by simp)
  simp at this
 | x :: xs,[],_,_,h=>by
  have:=(h x).mp (by simp)
  simp at this
 | x :: xs,y :: ys,hx,hy,h=>by
  obtain ⟨x1,x2⟩:=List.pairwise_cons.mp hx
  obtain ⟨y1,y2⟩:=List.pairwise_cons.mp hy
  have e:x = y:=by
   rcases List.mem_cons.mp ((h x).mp (by simp)) with e | e
   ·exact e
   ·rcases List.mem_cons.mp ((h y).mpr (by simp)) with e' | e'
    ·exact e'.symm
    ·exact ((y1 x e).asymm (x1 y e')).elim
  subst e
  rw [JcF xs ys x2 y2 fun k=>?_]
  constructor
  ·intro hk
   rcases List.mem_cons.mp ((h k).mp (by simp [hk])) with e | e
   ·subst e; exact ((LtS.irrefl _) (x1 _ hk)).elim
   ·exact e
  ·intro hk
   rcases List.mem_cons.mp ((h k).mpr (by simp [hk])) with e | e
   ·subst e; exact ((LtS.irrefl _) (y1 _ hk)).elim
   ·exact e
theorem Jgq:∀ l:List Str,(sortS l).length <= l.length:=by
 have ins:∀ (x:Str) (l:List Str),(insS x l).length <= l.length + 1:=by
  intro x l
  induction l with
  | nil=>simp [insS]
  | cons y ys ih=>
   unfold insS
   split
   ·simp
   ·split
    ·simp
    ·simp only [List.length_cons]; omega
 intro l
 induction l with
 | nil=>simp [sortS]
 | cons x xs ih=>
  unfold sortS
  have:=ins x (sortS xs)
  simp only [List.length_cons]
  omega
end Pu
namespace Rd
open PySem PySem.Spec PyProof.Rows L2 PySem.W
theorem HOk.onB {P:Program} {w:World} {H:Hp} {B h h':Heap} (ok:HOk P w H h) (tr:∀ b u,H b = some u -> ∃ o,B.get? b = some o) (k1:B.StaysIn h) (k2:B.StaysIn h'):HOk P w H h':=fun a o e=>
 ObjOk.stay (ok a o e) (fun b u hb q=>by
  have ht:∃ o,B.get? b = some o:=by
   rcases hb with rfl | hb
   ·exact tr _ _ e
   ·exact tr _ _ hb
  obtain ⟨ob,hob⟩:=ht
  have h1:=k1 b ob hob
  rw [q] at h1
  cases h1
  exact k2 b _ hob) (fun _ z=>z) (fun _ _ z=>z)
theorem ObjOk.has {P:Program} {w:World} {H:Hp} {h:Heap} {a:Addr} {o:HO} (x:ObjOk P w H h a o):∃ ob,h.get? a = some ob:=by
 cases o with
 | lst xs=>obtain ⟨_,_,_,_,e⟩:=x; exact ⟨_,e⟩
 | tup xs=>obtain ⟨_,_,_,ob,e,_⟩:=x; exact ⟨_,e⟩
 | dK kvs=>obtain ⟨_,_,_,_,ob,_,_,e,_⟩:=x; exact ⟨_,e⟩
 | dT kvs=>obtain ⟨_,_,_,_,ob,_,_,e,_⟩:=x; exact ⟨_,e⟩
 | set S n=>obtain ⟨ob,_,_,_,e,_⟩:=x; exact ⟨_,e⟩
 | ins C dx fs=>obtain ⟨_,_,_,e,_⟩:=x; exact ⟨_,e⟩
 | own y=>obtain ⟨_,e⟩:=x; exact ⟨_,e⟩
 | xd fs=>obtain ⟨_,⟨_,_,_,e,_⟩,_⟩:=x; exact ⟨_,e⟩
 | rng lo hi=>obtain ⟨_,_,_,e⟩:=x; exact ⟨_,e⟩
 | frz ob u=>obtain ⟨e,_⟩:=x; exact ⟨_,e⟩
 | tbl ps=>obtain ⟨_,_,_,_,e,_⟩:=x; exact ⟨_,e⟩
 | met f y=>exact ⟨_,(show h.get? a = some _ from x)⟩
 | ext φ=>obtain ⟨_,⟨_,e⟩,_⟩:=x; exact ⟨_,e⟩
theorem HOk.has {P:Program} {w:World} {H:Hp} {h:Heap} (ok:HOk P w H h) {b:Addr} {u:HO} (e:H b = some u):∃ o,h.get? b = some o:=ObjOk.has (ok b u e)
def CXr (P:Program) (w:World):CXT:=fun outer H s E e s'=>∃ (a C:Addr) (H':Hp) (B:Heap) (a0:Value),e = .ref a /\ s'.os = s.os /\ AllBare s'.gens /\ Un (frs outer) [] H H' s.heap s'.heap /\ HOk P w H' s'.heap /\
 Heap.FlyingW B outer a (.ref C) a0 s'.heap /\ (∀ b u,H' b = some u -> ∃ o,B.get? b = some o) /\ (∀ b o,s.heap.get? b = some o -> b ∉ frs outer -> (H b = none -> B.get? b = some o) /\ ∃ o',B.get? b = some o') /\ E (.ref C) none H'
def HeldA (B:Heap) (l:List Env) (e:Addr) (cls a0 fl:Value) (h:Heap):Prop:=B.StaysIn h /\ B.get? e = none /\ h.FunFrames B l /\ h.TracedAtW B e cls a0 fl
section
variable {M:Model} {A:Around} {E:Value -> Shared -> Prop} {s:Shared} {B:Heap} {env:Env} {outer:List Env} {L e:Addr} {cls a0 fl:Value} {Q:Unit -> Shared -> Prop}
theorem JcL (hfr:A.frames = some (env :: outer)) (hf:env.frame = some L) (x:HeldA B (env :: outer) e cls a0 fl s.heap) (hQ:∀ h',Heap.HeldW B (env :: outer) e cls a0 L h' -> s.heap.UpToSlots h' -> Q () { s with heap:=h' }):wpAny M A (noteFrame (.ref e) env) Q E s:=by
 obtain ⟨f1,f2,f3,f4⟩:=x
 by_cases hv:fl = rawInt L
 ·subst hv
  exact wpAny_noteFrame_againW hf f4 (hQ s.heap ⟨f1,f2,f3,f4⟩ (Heap.UpToSlots.refl _))
 ·obtain ⟨oe,vs,T,oT,ts,he,⟨hc,h0⟩,hd,h1,hnT,hTe,hT,hdT,h3⟩:=f4
  subst hc
  unfold noteFrame
  simp only [hf]
  refine wpAny_bind (wpAny_field he hd h1 ?_)
  rw [if_pos (by simp)]
  refine wpAny_bind (wpAny_field hT hdT h3 ?_)
  rw [if_neg (by simpa using hv)]
  refine wpAny_bind (wpAny_setField hT hdT (Array.getElem?_eq_some_iff.mp h3).1 ?_)
  have oth:∀ b,b ≠ T -> (s.heap.update T (Obj.mapFields (·.setIfInBounds 3 Value.none))).get? b = s.heap.get? b:=fun b hb=>Heap.get?_update_other _ _ (Ne.symm hb)
  have nr:∀ b o,s.heap.get? b = some o -> (∀ vs,o.data ≠ .fields vs) -> b ≠ T:=fun b o hb hnf q=>by
   rw [q,hT] at hb
   injection hb with hb
   subst hb
   exact hnf ts hdT
  refine wpAny_entryW hfr (f3.of_keeps fun b o hb hnf=>⟨o,(oth b (nr b o hb hnf)).trans hb,rfl⟩) hf ((oth e (Ne.symm hTe)).trans he) (fun b o hbo=>(oth b fun q=>by
   rw [q,hnT] at hbo
   cases hbo).trans (f1 b o hbo)) f2 hd (Array.getElem?_eq_some_iff.mp h1).1 h0 fun h' hN=>?_
  obtain ⟨x1,x2,x3,x4⟩:=hN
  exact hQ h' ⟨x1,f2,x2,x3⟩ fun b o hb hnf=>x4 b o ((oth b (nr b o hb hnf)).trans hb) hnf
theorem Jfy (hfr:A.frames = some (env :: outer)) (hf:env.frame = some L) (x:HeldA B (env :: outer) e cls a0 fl s.heap) (hQ:∀ h',Heap.FlyingW B outer e cls a0 h' -> s.heap.UpToSlots h' -> Q () { s with heap:=h' }):wpAny M A (leaving env (.ref e)) Q E s:=by
 unfold leaving
 refine wpAny_bind (JcL hfr hf x fun h1 held up=>?_)
 refine wpAny_landsW held fun h2 fl2 up2=>?_
 obtain ⟨k1,k2,⟨_,_,k3⟩,k4⟩:=fl2
 exact hQ h2 ⟨k1,k2,k3,k4⟩ (up.trans up2)
end
structure FlyIn (X:Cx) (C a:Addr) (H':Hp) (s':Shared):Prop where
 inv:∃ pins σ,Inv X pins σ H' s' /\ ((∃ h vs,Heap.MadeExcOf h s'.heap a (.ref C) vs /\ Inv X pins σ H' { s' with heap:=h }) \/
  ∃ B a0 fl,HeldA B X.stack a (.ref C) a0 fl s'.heap /\ (∀ b u,H' b = some u -> ∃ o,B.get? b = some o) /\ (∀ b o,X.s₀.heap.get? b = some o -> b ∉ frs X.stack -> b ∉ X.ex -> (X.H₀ b = none -> B.get? b = some o) /\ ∃ o',B.get? b = some o') /\ ∀ p ∈ X.pn,B.get? p.1 = some p.2)
def cxE (CX:CXT) (P:Program) (w:World) (K:PySem.W.Frag) (mg:Str -> Option Value) (base:Heap) (N:List Str) (env:Env) (fn:Str -> Bool) (cm:Bool) (A:Around) (outer:List Env) (s:Shared) (H:Hp) (E:XK):Cx where
 prog:=P
 w:=w
 K:=K
 mg:=mg
 base:=base
 A:=A.deeper env
 N:=N
 s₀:=s
 H₀:=H
 env:=env
 outer:=outer
 stack:=env :: outer
 ex:=[]
 calm:=cm
 fn:=fn
 pn:=[]
 xe:=fun e s'=>wpAny (model P w) (A.deeper env) (leaving env e) (fun _ s''=>CX outer H s E e s'') (fun e' s''=>CX outer H s E e' s'') s'
section
variable {P:Program} {w:World} {K:PySem.W.Frag} {mg:Str -> Option Value} {base:Heap} {N:List Str} {env:Env} {fn:Str -> Bool} {cm:Bool} {A:Around} {outer:List Env} {s:Shared} {H H':Hp} {E:XK} {C a:Addr} {s':Shared}
theorem Jfk (hf:env.frame = some s.heap.objs.size) {pins:List (Addr × Obj)} {σ:L2.St} {B h1 h':Heap} {a0:Value} (I:Inv (cxE (CXr P w) P w K mg base N env fn cm A outer s H E) pins σ H' { s' with heap:=h1 })
  (fl:Heap.FlyingW B outer a (.ref C) a0 h') (k1:B.StaysIn h1) (up:h1.UpToSlots h') (tr:∀ b u,H' b = some u -> ∃ o,B.get? b = some o)
  (kp:∀ b o,s.heap.get? b = some o -> b ∉ frs (env :: outer) -> (H b = none -> B.get? b = some o) /\ ∃ o',B.get? b = some o') (hE:E (.ref C) none H'):CXr P w outer H s E (.ref a) { s' with heap:=h' }:=by
 have hloc:∀ b o,s.heap.get? b = some o -> b ∉ frs outer -> b ∉ frs (env :: outer):=fun b o hb hn hm=>by
  unfold frs at hm
  rw [List.filterMap_cons,hf] at hm
  rcases List.mem_cons.mp hm with e | hm
  ·have:=Heap.lt_size hb
   rw [e] at this
   exact absurd this (Nat.lt_irrefl _)
  ·exact hn hm
 have u:=I.base
 refine ⟨a,C,H',B,a0,rfl,I.os,I.bare,⟨?_,?_,?_,?_,u.tups,u.frzs,u.tbls⟩,HOk.onB I.hok tr k1 fl.1,fl,tr,fun b o hb hn=>kp b o hb (hloc b o hb hn),hE⟩
 ·intro b o hb hn hf _
  exact fl.1 b o ((kp b o hb (hloc b o hb hf)).1 hn)
 ·intro b o hb hn hf _
  obtain ⟨sl,e1⟩:=u.slot b o hb hn hf (by show b ∉ ([]:List Addr); simp)
  obtain ⟨_,o1,ho1,hd⟩:=(show s.heap.FunFrames base outer from I.ok.funs).mem hf
  rw [hb] at ho1
  cases ho1
  obtain ⟨sl2,e2⟩:=up b _ e1 hd
  exact ⟨sl2,e2⟩
 ·intro b o hb hn _
  exact u.free b o hb hn (by show b ∉ ([]:List Addr); simp)
 ·intro b o hb _
  by_cases hf:b ∈ frs outer
  ·obtain ⟨_,o1,ho1,hd⟩:=(show s.heap.FunFrames base outer from I.ok.funs).mem hf
   rw [hb] at ho1
   cases ho1
   obtain ⟨sl,e1⟩:=u.slot b o hb (I.ok.frf b hf) hf (by show b ∉ ([]:List Addr); simp)
   obtain ⟨sl2,e2⟩:=up b _ e1 hd
   exact ⟨_,e2⟩
  ·obtain ⟨o',e⟩:=(kp b o hb (hloc b o hb hf)).2
   exact ⟨o',fl.1 b o' e⟩
theorem JhW (hf:env.frame = some s.heap.objs.size) (F:FlyIn (cxE (CXr P w) P w K mg base N env fn cm A outer s H E) C a H' s') (hE:E (.ref C) none H'):(cxE (CXr P w) P w K mg base N env fn cm A outer s H E).xe (.ref a) s':=by
 obtain ⟨pins,σ,I,hx⟩:=F.inv
 have hst:(cxE (CXr P w) P w K mg base N env fn cm A outer s H E).stack = env :: outer:=rfl
 show wpAny (model P w) (A.deeper (env)) (leaving (env) (.ref a)) _ _ s'
 have hfr:(A.deeper (env)).frames = some (env :: outer):=I.ok.frames
 rcases hx with ⟨h,vs,hm,Ih⟩ | ⟨B,a0,flv,fl,tr,kp,_⟩
 ·have hin:∀ e1 ∈ (env :: outer),∀ b,e1.frame = some b -> b ∈ frs (env :: outer):=fun e1 he b hb=>List.mem_filterMap.mpr ⟨e1,he,hb⟩
  have hk:(hideAll h (frs (env :: outer))).StaysIn h:=fun b o q=>of_hideAll _ q
  refine wpAny_leaves_madeW hfr hf hk (funFrames_hide Ih.stack hin) hm fun h' t fl _ _ up=>?_
  refine Jfk hf (B:=hideAll h (frs (env :: outer))) (h1:=h) Ih fl hk ((Heap.UpToSlots.of_keeps hm.keeps).trans up) (fun b u e=>?_) (fun b o hb hn=>⟨fun h0=>?_,?_⟩) hE
  ·obtain ⟨o,ho⟩:=HOk.has Ih.hok e
   exact ⟨o,hideAll_get _ ho fun z=>by rw [Ih.stkFree b z] at e; cases e⟩
  ·refine hideAll_get _ (Ih.base.keep b o hb h0 (fun z=>hn ?_) (by show b ∉ ([]:List Addr); simp)) hn
   exact List.mem_filterMap.mpr (by obtain ⟨e,he,hf⟩:=List.mem_filterMap.mp z; exact ⟨e,.tail _ he,hf⟩)
  ·obtain ⟨o',e⟩:=Ih.base.there b o hb (by show b ∉ ([]:List Addr); simp)
   exact ⟨o',hideAll_get _ e hn⟩
 ·refine Jfy hfr hf fl fun h' fl' up=>?_
  exact Jfk hf (h1:=s'.heap) I fl' fl.1 up tr (fun b o hb hn=>kp b o hb hn (by show b ∉ ([]:List Addr); simp)) hE
end
theorem JiJ {P:Program} {w:World} {K:PySem.W.Frag} {mg:Str -> Option Value} {base:Heap} {N:List Str} {qual:Str} {scope:Scope} {f:Addr} {cd:Value} {A:Around} {outer:List Env} {s:Shared} {H H':Hp} {E:XK} {C a:Addr} {s':Shared} (F:FlyIn (cxOf (CXr P w) P w K mg base N qual scope f cd A outer s H E) C a H' s') (hE:E (.ref C) none H'):(cxOf (CXr P w) P w K mg base N qual scope f cd A outer s H E).xe (.ref a) s':=
 JhW (env:=envOfC qual scope s.heap.objs.size f cd) (fn:=fun _=>true) (cm:=true) rfl F hE
theorem Jjk {X:Cx} {pins:List (Addr × Obj)} {σ:L2.St} {H:Hp} {s s':Shared} {E:XK} {e:Value} (I:Inv X pins σ H s) (h:CXr X.prog X.w X.stack H s E e s'):∃ a C H',e = .ref a /\ FlyIn X C a H' s' /\ E (.ref C) none H':=by
 obtain ⟨a,C,H',B,a0,rfl,ho,hg,u,hok,fl,tr,kp,hE⟩:=h
 have I':Inv X pins σ H' s':=I.call' ho u hok hg (fun b z=>absurd z (by simp))
 have hstk:∀ b,b ∉ X.fs -> b ≠ X.env.locals -> b ∉ frs X.stack:=fun b h1 h2 hm=>by
  rcases List.mem_cons.mp (I.stkSub b hm) with e | e
  ·exact h2 e
  ·exact h1 e
 refine ⟨a,C,H',rfl,⟨pins,σ,I',.inr ⟨B,a0,.none,fl,tr,fun b o hb hn hnx=>?_,fun p hp=>?_⟩⟩,hE⟩
 rotate_left
 ·obtain ⟨q1,q2,q3,q4,_⟩:=I.pin p (List.mem_append_left _ hp)
  exact (kp p.1 p.2 q1 (hstk p.1 q4 q3)).1 q2
 have hnf:b ∉ X.fs:=fun z=>hn (by
  rcases I.ok.stk with e | ⟨e,_⟩
  ·rw [e]; exact z
  ·rw [e]
   obtain ⟨e',he,hf⟩:=List.mem_filterMap.mp z
   exact List.mem_filterMap.mpr ⟨e',.tail _ he,hf⟩)
 constructor
 ·intro h0
  have e1:=I.base.keep b o hb h0 hnf hnx
  exact (kp b o e1 hn).1 (I.base.free b o hb h0 hnx)
 ·obtain ⟨o1,e1⟩:=I.base.there b o hb hnx
  exact (kp b o1 e1 hn).2
theorem JdX {M:Model} {A:Around} {E:Value -> Shared -> Prop} {s:Shared} {base h:Heap} {env:Env} {outer:List Env} {L e:Addr} {cls:Value} {args:List Value} {Q:Unit -> Shared -> Prop}
  (hfr:A.frames = some (env :: outer)) (hf:env.frame = some L) (hkb:base.StaysIn h) (hl:h.FunFrames base (env :: outer)) (hx:Heap.MadeExcOf h s.heap e cls args)
  (hQ:∀ h' a0,Heap.HeldW base (env :: outer) e cls a0 L h' -> s.heap.UpToSlots h' -> Q () { s with heap:=h' }):wpAny M A (noteFrame (.ref e) env) Q E s:=by
 obtain ⟨t,he,htn,ht⟩:=hx.there
 have fresh:∀ b,h.get? b = none -> base.get? b = none:=fun b hb=>by
  cases hq:base.get? b with
  | none=>rfl
  | some o'=>have:=hkb b o' hq; rw [hb] at this; cases this
 unfold noteFrame
 simp only [hf]
 refine wpAny_bind (wpAny_field (x:=Value.none) he rfl rfl ?_)
 rw [if_neg (show ¬ ((Value.none != Value.none) = true) by decide)]
 refine wpAny_entryW (a0:=.ref t) hfr (hl.of_keeps fun b o hb _=>⟨o,hx.keeps b o hb,rfl⟩) hf he (fun b o hb=>hx.keeps b o (hkb b o hb)) (fresh e hx.new) rfl (by show 1 < 6; decide) rfl fun h' hN=>?_
 obtain ⟨k1,k2,k3,k4⟩:=hN
 exact hQ h' (.ref t) ⟨k1,fresh e hx.new,k2,k3⟩ k4
section
variable {X:Cx} {x:Str} {C:Addr} {e:Expr} {te:TE} {np cpos pos:Pos} {bs0:List Value} {Bn nid iid:String}
end
end Rd
namespace Rd
open PySem PySem.Spec PyProof.Rows L2 Pu
def keyV:L2.Key -> D
 | .inl n=>.int n
 | .inr x=>.str x
 | .non=>.non
mutual
def treeV:KTr L2.Key -> D
 | .a k=>keyV k
 | .t ks=>.tup (treeVs ks)
def treeVs:List (KTr L2.Key) -> List D
 | []=>[]
 | k :: ks=>treeV k :: treeVs ks
end
def DK (H:Hp) (a:Addr) (t z:Bool) (ks:List D) (xs:List V):Prop:=match t with
 | true=>∃ kvs:List (List (KTr L2.Key) × V),(match z with
  | true=>∃ o,H a = some (.frz o (.dT kvs))
  | false=>H a = some (.dT kvs)) /\ ks = kvs.map (fun p=>.tup (treeVs p.1)) /\ xs = kvs.map (·.2)
 | false=>∃ kvs:List (L2.Key × V),(match z with
  | true=>∃ o,H a = some (.frz o (.dK kvs))
  | false=>H a = some (.dK kvs)) /\ ks = kvs.map (fun p=>keyV p.1) /\ xs = kvs.map (·.2)
theorem DK.mono {H H':Hp} {a:Addr} {t z:Bool} {ks:List D} {xs:List V} (e:∀ o,H a = some o -> H' a = some o) (h:DK H a t z ks xs):DK H' a t z ks xs:=by
 cases t <;> cases z <;> obtain ⟨kvs,h1,h2⟩:=h
 ·exact ⟨kvs,e _ h1,h2⟩
 ·exact ⟨kvs,let ⟨o,h⟩:=h1; ⟨o,e _ h⟩,h2⟩
 ·exact ⟨kvs,e _ h1,h2⟩
 ·exact ⟨kvs,let ⟨o,h⟩:=h1; ⟨o,e _ h⟩,h2⟩
def clsN (ns:List Str):Str:=if ns.contains (Str.ofString "rows") then Str.ofString "Board" else Str.ofString "Site"
mutual
def Rep (K:PySem.W.Frag) (H:Hp):D -> V -> Prop
 | .non,v=>v = .non
 | .bl b,v=>v = .bl b
 | .int i,v=>v = .int i
 | .str x,v=>v = .str x
 | .tup ds,v=>∃ a xs,v = .ref a /\ SqT K H a xs /\ Reps K H ds xs
 | .lst ds,v=>∃ a xs,v = .ref a /\ SqL K H a xs /\ Reps K H ds xs
 | .dct t z ks vs,v=>∃ a xs,v = .ref a /\ DK H a t z ks xs /\ Reps K H vs xs
 | .exc c,v=>∃ a o C,v = .ref a /\ H a = some (.frz o (.ext fun _=>True)) /\ o.cls = .ref C /\ PySem.W.nsIn K mainGlobals c = some (some (.ref C))
 | .fn x _,v=>∃ f,v = .ref f /\ PySem.W.nsIn K mainGlobals x = some (some (.ref f))
 | .obj a ns fs,v=>v = .ref a /\ ∃ C dx xs,H a = some (.ins C dx (ns.zip xs)) /\ PySem.W.nsIn K mainGlobals (clsN ns) = some (some (.ref C)) /\ ns.length = fs.length /\ Reps K H fs xs
def Reps (K:PySem.W.Frag) (H:Hp):List D -> List V -> Prop
 | [],xs=>xs = []
 | d :: ds,xs=>∃ x r,xs = x :: r /\ Rep K H d x /\ Reps K H ds r
end
theorem SqT.same {K:PySem.W.Frag} {H H':Hp} {a:Addr} {xs:List V} (e:Same H H') (h:SqT K H a xs):SqT K H' a xs:=by
 rcases h with h | h
 ·exact .inl (e _ _ h)
 ·exact .inr h
mutual
theorem Rep.mono {K:PySem.W.Frag} {H H':Hp} (e:Same H H'):∀ (d:D) {v:V},Rep K H d v -> Rep K H' d v
 | .non,_,h=>h
 | .bl _,_,h=>h
 | .int _,_,h=>h
 | .str _,_,h=>h
 | .tup ds,_,⟨a,xs,e1,h1,h2⟩=>⟨a,xs,e1,SqT.same e h1,Reps.mono e ds h2⟩
 | .lst ds,_,⟨a,xs,e1,h1,h2⟩=>⟨a,xs,e1,e.seq h1,Reps.mono e ds h2⟩
 | .dct t z ks vs,_,⟨a,xs,e1,h1,h2⟩=>⟨a,xs,e1,h1.mono (e a),Reps.mono e vs h2⟩
 | .exc c,_,⟨a,o,C,e1,h1,h2⟩=>⟨a,o,C,e1,e _ _ h1,h2⟩
 | .fn x _,_,h=>h
 | .obj a ns fs,_,⟨e1,C,dx,xs,h1,h2,h3,h5⟩=>⟨e1,C,dx,xs,e _ _ h1,h2,h3,Reps.mono e fs h5⟩
theorem Reps.mono {K:PySem.W.Frag} {H H':Hp} (e:Same H H'):∀ (ds:List D) {xs:List V},Reps K H ds xs -> Reps K H' ds xs
 | [],_,h=>h
 | d :: ds,_,⟨x,r,e1,h1,h2⟩=>⟨x,r,e1,Rep.mono e d h1,Reps.mono e ds h2⟩
end
theorem Reps.length {K:PySem.W.Frag} {H:Hp}:∀ {ds:List D} {xs:List V},Reps K H ds xs -> xs.length = ds.length
 | [],_,h=>by cases h; rfl
 | d :: ds,_,⟨x,r,e1,h1,h2⟩=>by subst e1; simp [Reps.length h2]
theorem Reps.get {K:PySem.W.Frag} {H:Hp}:∀ {ds:List D} {xs:List V} {i:Nat} {d:D},Reps K H ds xs -> ds[i]? = some d -> ∃ x,xs[i]? = some x /\ Rep K H d x
 | [],_,_,_,_,e=>by simp at e
 | d :: ds,_,0,d',⟨x,r,e1,h1,h2⟩,e=>by subst e1; simp at e; subst e; exact ⟨x,rfl,h1⟩
 | d :: ds,_,i + 1,d',⟨x,r,e1,h1,h2⟩,e=>by
  subst e1
  obtain ⟨y,h3,h4⟩:=Reps.get (i:=i) h2 (by simpa using e)
  exact ⟨y,by simpa using h3,h4⟩
theorem Reps.get' {K:PySem.W.Frag} {H:Hp}:∀ {ds:List D} {xs:List V} {i:Nat} {x:V},Reps K H ds xs -> xs[i]? = some x -> ∃ d,ds[i]? = some d /\ Rep K H d x
 | [],_,_,_,h,e=>by cases h; simp at e
 | d :: ds,_,0,d',⟨x,r,e1,h1,h2⟩,e=>by subst e1; simp at e; subst e; exact ⟨d,rfl,h1⟩
 | d :: ds,_,i + 1,d',⟨x,r,e1,h1,h2⟩,e=>by
  subst e1
  obtain ⟨y,h3,h4⟩:=Reps.get' (i:=i) h2 (by simpa using e)
  exact ⟨y,by simpa using h3,h4⟩
theorem Reps.append {K:PySem.W.Frag} {H:Hp}:∀ {ds es:List D} {xs ys:List V},Reps K H ds xs -> Reps K H es ys -> Reps K H (ds ++ es) (xs ++ ys)
 | [],_,_,_,h,h'=>by cases h; exact h'
 | d :: ds,es,_,ys,⟨x,r,e1,h1,h2⟩,h'=>by subst e1; exact ⟨x,r ++ ys,rfl,h1,Reps.append h2 h'⟩
theorem Reps.take {K:PySem.W.Frag} {H:Hp}:∀ (n:Nat) {ds:List D} {xs:List V},Reps K H ds xs -> Reps K H (ds.take n) (xs.take n)
 | 0,_,_,h=>by simp [Reps]
 | n + 1,[],_,h=>by cases h; simp [Reps]
 | n + 1,d :: ds,_,⟨x,r,e1,h1,h2⟩=>by subst e1; exact ⟨x,r.take n,rfl,h1,Reps.take n h2⟩
theorem Reps.drop {K:PySem.W.Frag} {H:Hp}:∀ (n:Nat) {ds:List D} {xs:List V},Reps K H ds xs -> Reps K H (ds.drop n) (xs.drop n)
 | 0,_,_,h=>by simpa using h
 | n + 1,[],_,h=>by cases h; simp [Reps]
 | n + 1,d :: ds,_,⟨x,r,e1,h1,h2⟩=>by subst e1; exact Reps.drop n h2
theorem Reps.nil_iff {K:PySem.W.Frag} {H:Hp} {ds:List D} {xs:List V} (h:Reps K H ds xs):xs = [] ↔ ds = []:=by
 have:=h.length
 constructor
 ·intro e; subst e; cases ds with
  | nil=>rfl
  | cons _ _=>simp at this
 ·intro e; subst e; exact h
theorem Reps.one {K:PySem.W.Frag} {H:Hp} {d:D} {v:V} (h:Rep K H d v):Reps K H [d] [v]:=⟨v,[],rfl,h,rfl⟩
def Tups (K:PySem.W.Frag) (H H':Hp):Prop:=(∀ a xs,SqT K H a xs -> SqT K H' a xs) /\ ∀ a o u,H a = some (.frz o u) -> H' a = some (.frz o u)
theorem Tups.of {K:PySem.W.Frag} {H H':Hp} (e:Same H H'):Tups K H H':=⟨fun _ _ h=>SqT.same e h,fun _ _ _ h=>e _ _ h⟩
mutual
theorem Rep.tups {K:PySem.W.Frag} {H H':Hp} (e:Tups K H H'):∀ (d:D) {v:V},d.imm = true -> Rep K H d v -> Rep K H' d v
 | .non,_,_,h=>h
 | .bl _,_,_,h=>h
 | .int _,_,_,h=>h
 | .str _,_,_,h=>h
 | .tup ds,_,i,⟨a,xs,e1,h1,h2⟩=>⟨a,xs,e1,e.1 _ _ h1,Reps.tups e ds (by simpa [D.imm] using i) h2⟩
 | .lst ds,_,i,_=>by simp [D.imm] at i
 | .dct t z ks vs,_,i,⟨a,xs,e1,h1,h2⟩=>by
  simp only [D.imm,Bool.and_eq_true] at i
  refine ⟨a,xs,e1,?_,Reps.tups e vs i.2 h2⟩
  obtain ⟨rfl,_⟩:=i
  cases t <;> obtain ⟨kvs,⟨o,h3⟩,h4⟩:=h1
  ·exact ⟨kvs,⟨o,e.2 _ _ _ h3⟩,h4⟩
  ·exact ⟨kvs,⟨o,e.2 _ _ _ h3⟩,h4⟩
 | .exc c,_,_,⟨a,o,C,e1,h1,h2⟩=>⟨a,o,C,e1,e.2 _ _ _ h1,h2⟩
 | .fn x _,_,_,h=>h
 | .obj a ns fs,_,i,_=>by simp [D.imm] at i
theorem Reps.tups {K:PySem.W.Frag} {H H':Hp} (e:Tups K H H'):∀ (ds:List D) {xs:List V},imms ds = true -> Reps K H ds xs -> Reps K H' ds xs
 | [],_,_,h=>h
 | d :: ds,_,i,⟨x,r,e1,h1,h2⟩=>by
  simp only [imms,Bool.and_eq_true] at i
  exact ⟨x,r,e1,Rep.tups e d i.1 h1,Reps.tups e ds i.2 h2⟩
end
def hid (L:List Addr) (H:Hp):Hp:=fun a=>if a ∈ L then none else H a
def Chgb:HO -> Prop
 | .lst _=>True
 | .dK _=>True
 | .dT _=>True
 | _=>False
def Ows (L:List Addr) (H:Hp):Prop:=∀ a ∈ L,∃ o,H a = some o /\ Chgb o
def ItOk (J:It):Prop:=∀ (L:List Addr) (i:Nat) (H:Hp) (x:V) (H':Hp),Ows L H -> J.yld i H x H' -> J.yld i (hid L H) x (hid L H')
section
variable {L L':List Addr} {H H' H1:Hp} {a:Addr} {o:HO}
theorem Ji (h:a ∉ L):hid L H a = H a:=by unfold hid; rw [if_neg h]
theorem Jah (h:a ∈ L):hid L H a = none:=by unfold hid; rw [if_pos h]
theorem Jcf (h:hid L H a = some o):a ∉ L /\ H a = some o:=by
 unfold hid at h
 split at h
 ·cases h
 ·rename_i q; exact ⟨q,h⟩
theorem hid_same:Same (hid L H) H:=fun a o h=>(Jcf h).2
theorem JjN (k:∀ a o,H a = some o -> a ∉ L -> H' a = some o /\ a ∉ L'):Same (hid L H) (hid L' H'):=fun a o h=>by
 obtain ⟨h1,h2⟩:=Jcf h
 obtain ⟨q1,q2⟩:=k a o h2 h1
 rw [Ji q2]; exact q1
theorem JlJ:hid [] H = H:=by funext a; exact Ji (by simp)
theorem Jdy (h:a ∉ L):hid L (upd H a o) = upd (hid L H) a o:=by
 funext b
 by_cases q:b = a
 ·subst q; rw [Ji h,Jd,Jd]
 ·rw [Jb q]
  by_cases r:b ∈ L
  ·rw [Jah r,Jah r]
  ·rw [Ji r,Ji r,Jb q]
end
def ReadOk (K:PySem.W.Frag) (H:Hp) (σ:L2.St) (env:Fm):Prop:=∀ (i:Nat) (d:D),env[i]? = some (some d) -> ∃ v,σ[i]? = some (some v) /\ Rep K H d v
theorem ReadOk.mono {K:PySem.W.Frag} {H H':Hp} {σ:L2.St} {env:Fm} (r:ReadOk K H σ env) (e:Same H H'):ReadOk K H' σ env:=fun i d h=>
 let ⟨v,h1,h2⟩:=r i d h
 ⟨v,h1,h2.mono e⟩
def XE (X:Cx) (C:Addr) (H:Hp):Prop:=∀ a s',FlyIn X C a H s' -> X.xe (.ref a) s'
def XW (X:Cx) (H:Hp) (c:Str):Prop:=∀ C H',X.mg c = some (.ref C) -> Same H H' -> XE X C H'
theorem XW.mono {X:Cx} {H H':Hp} {c:Str} (e:Same H H') (h:XW X H c):XW X H' c:=fun C H2 hm s=>h C H2 hm (e.trans s)
def Out (X:Cx) (H:Hp) (Q:VK) (d:D):Prop:=∀ v H',Same H H' -> Rep X.K H' d v -> Q v H'
theorem Out.mono {X:Cx} {H H1:Hp} {Q:VK} {d:D} (h:Out X H Q d) (e:Same H H1):Out X H1 Q d:=fun v H' e' r=>h v H' (e.trans e') r
theorem Out.now {X:Cx} {H:Hp} {Q:VK} {d:D} {v:V} (h:Out X H Q d) (r:Rep X.K H d v):Q v H:=h v H (Same.refl H) r
def tI (X:Cx) (call:CallD) (p:Px):TE:=fun σ H Q=>∃ env,ReadOk X.K H σ env /\ (evD call p env).Good (Out X H Q) (XW X H)
def tT (X:Cx) (call:CallD) (p:Px):TT:=fun σ H Q=>∃ env,ReadOk X.K H σ env /\ (evD call p env).Good (fun d=>∃ b,d = .bl b /\ ∀ H',Same H H' -> Q b H') (XW X H)
def tA (X:Cx) (call:CallD) (p:Px):TA:=fun σ H Q=>∃ env,ReadOk X.K H σ env /\ (evD call p env).Good (fun d=>∃ ds,d = .lst ds /\ ∀ vs H',Same H H' -> Reps X.K H' ds vs -> Q vs H') (XW X H)
section
variable {X:Cx} {call:CallD} {e a b c:Expr} {es:List Expr} {p pa pb pc:Px} {pos:Pos}
theorem PE.weak {t t':TE} (h:PE X e t) (hm:∀ σ H Q,t' σ H Q -> t σ H Q):PE X e t':=fun pins s σ H Q I hw=>h pins s σ H Q I (hm σ H Q hw)
theorem PT.weak {t t':TT} (h:PT X e t) (hm:∀ σ H Q,t' σ H Q -> t σ H Q):PT X e t':=fun pins s σ H Q I hw=>h pins s σ H Q I (hm σ H Q hw)
theorem PW.weak {t t':TT} (h:PW X e t) (hm:∀ σ H Q,t' σ H Q -> t σ H Q):PW X e t':=fun w pins s σ H Q I hw=>h w pins s σ H Q I (hm σ H Q hw)
theorem PA.weak {t t':TA} (h:PA X es t) (hm:∀ σ H Q,t' σ H Q -> t σ H Q):PA X es t':=fun p pins s σ H Q I hw=>h p pins s σ H Q I (hm σ H Q hw)
theorem tI.then {σ:L2.St} {H:Hp} {env:Fm} {Q:VK} {k:D -> Rs D} (r:ReadOk X.K H σ env) (h:((evD call p env).bind k).Good (Out X H Q) (XW X H)) {Q':VK}
  (hk:∀ d v H',Same H H' -> Rep X.K H' d v -> ReadOk X.K H' σ env -> (k d).Good (Out X H' Q) (XW X H') -> Q' v H'):tI X call p σ H Q':=by
 refine ⟨env,r,(Rs.good_bind.mp h).imp fun d hd v H' s rv=>hk d v H' s rv (r.mono s) (hd.mono (fun d' o=>o.mono s) fun c x=>x.mono s)⟩
theorem Jnl {i:Nat} {x:Str} (hN:X.N[i]? = some x) (hv:Vis X.env.scope x) (hd:(x == ("__debug__" : Str)) = false) (hcd:(x == ("__classdict__" : Str)) = false):PE X (.Name x pos) (tI X call (.var i)):=by
 refine PE.weak (JbF hN hv hd hcd) fun σ H Q ⟨env,r,h⟩=>?_
 simp only [evD] at h
 cases q:env[i]? with
 | none=>rw [q] at h; exact h.elim
 | some o=>
  cases o with
  | none=>rw [q] at h; exact h.elim
  | some d=>
   rw [q] at h
   obtain ⟨v,h1,h2⟩:=r i d q
   exact ⟨v,h1,Out.now h h2⟩
theorem Jm {i:Int} {j}:PE X (.Constant (.int i) j pos) (tI X call (.con (.int i))):=PE.weak JjS fun σ H Q ⟨env,r,h⟩=>Out.now h rfl
theorem JjA {i:Bool} {j}:PE X (.Constant (.bool i) j pos) (tI X call (.con (.bl i))):=PE.weak pe_bl fun σ H Q ⟨env,r,h⟩=>Out.now h rfl
theorem Jes {j}:PE X (.Constant .none j pos) (tI X call (.con .non)):=PE.weak Jmy fun σ H Q ⟨env,r,h⟩=>Out.now h rfl
theorem Jbq {x:Str} {j}:PE X (.Constant (.str x) j pos) (tI X call (.con (.str x))):=PE.weak Jmr fun σ H Q ⟨env,r,h⟩=>Out.now h rfl
def GlobIs (X:Cx) (x:Str) (d:D):Prop:=∃ v u,X.mg x = some u /\ RelV v u /\ ∀ H,Rep X.K H d v
theorem Jkz {x:Str} {d:D} (hg:Gl X x) (h:GlobIs X x d) (hd:(x == ("__debug__" : Str)) = false):PE X (.Name x pos) (tI X call (.con d)):=by
 obtain ⟨v,u,hm,r,hv⟩:=h
 exact PE.weak (JkS hg hm r hd) fun σ H Q ⟨env,r,h⟩=>Out.now h (hv H)
def rD2 (X:Cx) (o:O2):R2:=fun x y H Q=>∃ dx dy,Rep X.K H dx x /\ Rep X.K H dy y /\ (op2 o dx dy).Good (Out X H Q) (XW X H)
theorem tI.two {o:O2} {σ:L2.St} {H:Hp} {Q:VK} (h:tI X call (.bi o pa pb) σ H Q):tOp (rD2 X o) (tI X call pa) (tI X call pb) σ H Q:=by
 obtain ⟨env,r,h⟩:=h
 simp only [evD] at h
 refine tI.then r h fun dx x H1 s1 r1 q1 h1=>?_
 refine tI.then q1 h1 fun dy y H2 s2 r2 q2 h2=>?_
 exact ⟨dx,dy,r1.mono s2,r2,h2⟩
theorem Jdf {o:O2} {op:Operator} (ho:OpR X (binaryOp op) (rD2 X o)) (ha:PE X a (tI X call pa)) (hb:PE X b (tI X call pb)):PE X (.BinOp a op b pos) (tI X call (.bi o pa pb)):=
 PE.weak (JnM ho ha hb) fun σ H Q h=>h.two
theorem JcA {o:O2} {op:CmpOp} (ho:OpR X (compareOp op) (rD2 X o)) (ha:PE X a (tI X call pa)) (hb:PE X b (tI X call pb)) (hm:behindInMarks op b = false):PE X (.Compare a [op] [b] pos) (tI X call (.bi o pa pb)):=
 PE.weak (JkY ho ha hb hm) fun σ H Q h=>h.two
theorem tT.asTest {σ:L2.St} {H:Hp} {Q:Bool -> Hp -> Prop} (h:tT X call p σ H Q):tI X call p σ H fun x H'=>∃ k,x = .bl k /\ Q k H':=by
 obtain ⟨env,r,h⟩:=h
 refine ⟨env,r,h.imp fun d hd v H' s rv=>?_⟩
 obtain ⟨b,e,q⟩:=hd
 subst e
 exact ⟨b,rv,q H' s⟩
theorem Jbg {o:O2} {op:CmpOp} (ho:OpR X (compareOp op) (rD2 X o)) (ha:PE X a (tI X call pa)) (hb:PE X b (tI X call pb)) (hm:behindInMarks op b = false):PT X (.Compare a [op] [b] pos) (tT X call (.bi o pa pb)):=
 PT.weak (JlX ho ha hb hm) fun σ H Q h=>h.asTest.two
theorem pI_ix {o:O2} (hr:IxR X (rD2 X o)) (ha:PE X a (tI X call pa)) (hb:PE X b (tI X call pb)) (hs:PlainIx b):PE X (.Subscript a b pos) (tI X call (.bi o pa pb)):=
 PE.weak (pe_ix hr ha hb hs) fun σ H Q h=>h.two
theorem tT.and {σ:L2.St} {H:Hp} {Q:Bool -> Hp -> Prop} (h:tT X call (.and pa pb) σ H Q):tAnd (tT X call pa) (tT X call pb) σ H Q:=by
 obtain ⟨env,r,h⟩:=h
 simp only [evD] at h
 refine ⟨env,r,(Rs.good_bind.mp h).imp fun d hd=>?_⟩
 cases d with
 | bl b=>
  refine ⟨b,rfl,fun H' s=>?_⟩
  cases b with
  | true=>exact iteT ⟨env,r.mono s,hd.mono (fun d ⟨b',e,q⟩=>⟨b',e,fun H2 s2=>q H2 (s.trans s2)⟩) fun c x=>x.mono s⟩
  | false=>
   obtain ⟨b',e,q⟩:=hd
   cases e
   exact iteF (q H' s)
 | _=>exact hd.elim
theorem tT.or {σ:L2.St} {H:Hp} {Q:Bool -> Hp -> Prop} (h:tT X call (.or pa pb) σ H Q):tOr (tT X call pa) (tT X call pb) σ H Q:=by
 obtain ⟨env,r,h⟩:=h
 simp only [evD] at h
 refine ⟨env,r,(Rs.good_bind.mp h).imp fun d hd=>?_⟩
 cases d with
 | bl b=>
  refine ⟨b,rfl,fun H' s=>?_⟩
  cases b with
  | false=>exact iteF ⟨env,r.mono s,hd.mono (fun d ⟨b',e,q⟩=>⟨b',e,fun H2 s2=>q H2 (s.trans s2)⟩) fun c x=>x.mono s⟩
  | true=>
   obtain ⟨b',e,q⟩:=hd
   cases e
   exact iteT (q H' s)
 | _=>exact hd.elim
theorem Jop {op} (ha:PT X a (tT X call pa)):PW X (.BoolOp op [a] pos) (tT X call pa):=by
 cases op
 ·exact Jky ha
 ·exact Jnf ha
theorem Jou {rest:List Expr} (ha:PT X a (tT X call pa)) (hb:PW X (.BoolOp .And (b :: rest) pos) (tT X call pb)):PW X (.BoolOp .And (a :: b :: rest) pos) (tT X call (.and pa pb)):=
 PW.weak (Jmv ha hb) fun σ H Q h=>h.and
theorem pW_or {rest:List Expr} (ha:PT X a (tT X call pa)) (hb:PW X (.BoolOp .Or (b :: rest) pos) (tT X call pb)):PW X (.BoolOp .Or (a :: b :: rest) pos) (tT X call (.or pa pb)):=
 PW.weak (pw_or ha hb) fun σ H Q h=>h.or
theorem JnO (ha:PT X a (tT X call pa)):PT X (.UnaryOp .Not a pos) (tT X call (.un .not pa)):=by
 refine PT.weak (JnL ha) fun σ H Q ⟨env,r,h⟩=>?_
 simp only [evD] at h
 refine ⟨env,r,(Rs.good_bind.mp h).imp fun d hd=>?_⟩
 cases d with
 | bl b=>
  obtain ⟨b',e,q⟩:=hd
  cases e
  exact ⟨b,rfl,q⟩
 | _=>exact hd.elim
theorem Jkw {K:PySem.W.Frag} {H:Hp} {d:D} {v:V} {b:Bool} (r:Rep K H d v) (h:d.truth = .ok b):TruV K v H b:=by
 cases d with
 | non=>cases r; simp only [D.truth] at h; cases h; rfl
 | bl c=>cases r; simp only [D.truth] at h; cases h; rfl
 | int i=>cases r; simp only [D.truth] at h; cases h; rfl
 | str x=>
  cases r
  simp only [D.truth] at h
  split at h
  ·rename_i q
   cases h
   exact ⟨by rw [sizeLine_eq]; exact q,rfl⟩
  ·cases h
 | tup ds=>
  obtain ⟨a,xs,rfl,h1,h2⟩:=r
  simp only [D.truth] at h
  cases h
  refine .inr (.inl ⟨xs,h1,?_⟩)
  have:=h2.length
  cases ds <;> cases xs <;> simp_all
 | lst ds=>
  obtain ⟨a,xs,rfl,h1,h2⟩:=r
  simp only [D.truth] at h
  cases h
  refine .inl ⟨xs,h1,?_⟩
  have:=h2.length
  cases ds <;> cases xs <;> simp_all
 | _=>simp only [D.truth] at h; cases h
theorem Jjh {d:D} {c:Str} (h:d.truth = .ex c):False:=by
 cases d <;> simp only [D.truth] at h <;> first | cases h | (split at h <;> cases h)
theorem JlV {d:D} {c:Str} (h:d.walk = .ex c):False:=by
 cases d <;> simp only [D.walk] at h <;> cases h
theorem JmU (ha:PE X a (tI X call pa)) (he:∀ whole,isTrue a X.env whole = (do let v <- whole; standAt a.pos; holding [v] (truthy v))):PT X a (tT X call (.un .truth pa)):=by
 refine PT.weak (JjD ha he) fun σ H Q ⟨env,r,h⟩=>?_
 simp only [evD] at h
 refine ⟨env,r,(Rs.good_bind.mp h).imp fun d hd v H' s rv=>?_⟩
 simp only [op1] at hd
 cases ht:d.truth with
 | ok b=>
  rw [ht] at hd
  obtain ⟨b',e,q⟩:=hd
  cases e
  exact ⟨b,Jkw rv ht,q H' s⟩
 | ex c=>exact (Jjh ht).elim
 | stuck=>rw [ht] at hd; exact hd.elim
theorem Jkg {op} (ha:PE X a (tI X call pa)):PE X (.BoolOp op [a] pos) (tI X call pa):=JmG ha
theorem Jkj {rest:List Expr} (ha:PE X a (tI X call pa)) (hb:PE X (.BoolOp .And (b :: rest) pos) (tI X call pb)):PE X (.BoolOp .And (a :: b :: rest) pos) (tI X call (.and pa pb)):=by
 refine PE.weak (Jnq ha hb) fun σ H Q ⟨env,r,h⟩=>?_
 simp only [evD] at h
 refine tI.then r h fun d v H' s rv q hd=>?_
 cases d with
 | bl b=>
  cases rv
  refine ⟨b,rfl,?_⟩
  cases b with
  | true=>exact iteT ⟨env,q,hd⟩
  | false=>exact iteF (Out.now hd rfl)
 | _=>exact hd.elim
theorem pI_or {rest:List Expr} (ha:PE X a (tI X call pa)) (hb:PE X (.BoolOp .Or (b :: rest) pos) (tI X call pb)):PE X (.BoolOp .Or (a :: b :: rest) pos) (tI X call (.or pa pb)):=by
 refine PE.weak (pe_or ha hb) fun σ H Q ⟨env,r,h⟩=>?_
 simp only [evD] at h
 refine tI.then r h fun d v H' s rv q hd=>?_
 cases d with
 | bl b=>
  cases rv
  refine ⟨b,rfl,?_⟩
  cases b with
  | true=>exact iteT (Out.now hd rfl)
  | false=>exact iteF ⟨env,q,hd⟩
 | _=>exact hd.elim
theorem Jmz (ha:PE X a (tI X call pa)):PE X (.UnaryOp .Not a pos) (tI X call (.un .not pa)):=by
 refine PE.weak (Jnw ha) fun σ H Q ⟨env,r,h⟩=>?_
 simp only [evD] at h
 refine tI.then r h fun d v H' s rv q hd=>?_
 cases d with
 | bl b=>cases rv; exact ⟨b,rfl,Out.now hd rfl⟩
 | _=>exact hd.elim
theorem JmX (hc:PT X c (tT X call pc)) (ha:PE X a (tI X call pa)) (hb:PE X b (tI X call pb)):PE X (.IfExp c a b pos) (tI X call (.ite pc pa pb)):=by
 refine PE.weak (Jji hc ha hb) fun σ H Q ⟨env,r,h⟩=>?_
 simp only [evD] at h
 refine ⟨env,r,(Rs.good_bind.mp h).imp fun d hd=>?_⟩
 cases d with
 | bl b=>
  refine ⟨b,rfl,fun H' s=>?_⟩
  cases b with
  | true=>exact iteT ⟨env,r.mono s,hd.mono (fun d o=>o.mono s) fun c x=>x.mono s⟩
  | false=>exact iteF ⟨env,r.mono s,hd.mono (fun d o=>o.mono s) fun c x=>x.mono s⟩
 | _=>exact hd.elim
theorem Jj:PA X [] (tA X call .nil):=by
 refine PA.weak JaN fun σ H Q ⟨env,r,h⟩=>?_
 obtain ⟨ds,e,q⟩:=h
 cases e
 exact q [] H (Same.refl H) rfl
theorem Ja (ha:PE X e (tI X call pa)) (hr:PA X es (tA X call pb)) (hs:starEach (e :: es) X.env = (false,eval e X.env) :: starEach es X.env:=by rfl):PA X (e :: es) (tA X call (.cons pa pb)):=by
 refine PA.weak (Jt ha hr hs) fun σ H Q ⟨env,r,h⟩=>?_
 simp only [evD] at h
 refine ⟨env,r,(Rs.good_bind.mp h).imp fun d hd v H' s rv=>?_⟩
 refine ⟨env,r.mono s,((Rs.good_bind.mp hd).imp fun y hy=>?_).mono (fun _ x=>x) fun c x=>x.mono s⟩
 cases y with
 | lst ds=>
  refine ⟨ds,rfl,fun vs H2 s2 rs=>?_⟩
  obtain ⟨ds',e,q⟩:=hy
  cases e
  exact q (v :: vs) H2 (s.trans s2) ⟨v,vs,rfl,rv.mono s2,rs⟩
 | _=>exact hy.elim
theorem JdW {H:Hp} {a:Addr} {ds:List D} {xs:List V} {K:PySem.W.Frag} (h:H a = none) (r:Reps K H ds xs):Same H (upd H a (.tup xs)) /\ Rep K (upd H a (.tup xs)) (.tup ds) (.ref a):=by
 have s:Same H (upd H a (.tup xs)):=fun b o e=>by rw [Jb (Jc e h)]; exact e
 exact ⟨s,a,xs,rfl,SqT.of Jd,r.mono s⟩
theorem JfK {H:Hp} {a:Addr} {ds:List D} {xs:List V} {K:PySem.W.Frag} (h:H a = none) (r:Reps K H ds xs):Same H (upd H a (.lst xs)) /\ Rep K (upd H a (.lst xs)) (.lst ds) (.ref a):=by
 have s:Same H (upd H a (.lst xs)):=fun b o e=>by rw [Jb (Jc e h)]; exact e
 exact ⟨s,a,xs,rfl,SqL.of Jd,r.mono s⟩
theorem Jdt {k:Nat} (h:PA X es (tA X call p)):PE X (.Tuple es k pos) (tI X call (.tup p)):=by
 refine PE.weak (Jkb h) fun σ H Q ⟨env,r,h⟩=>?_
 simp only [evD] at h
 refine ⟨env,r,(Rs.good_bind.mp h).imp fun d hd=>?_⟩
 cases d with
 | lst ds=>
  simp only [D.asL,Rs.bind_ok] at hd
  refine ⟨ds,rfl,fun vs H' s rs=>?_⟩
  split at hd
  ·rename_i hz
   refine ⟨by rw [rs.length,sizeLine_eq]; exact hz,fun a ha=>?_⟩
   obtain ⟨s2,r2⟩:=JdW ha rs
   exact hd _ _ (s.trans s2) r2
  ·exact hd.elim
 | _=>exact hd.elim
def OutF (X:Cx) (H:Hp) (Q:VK) (d:D):Prop:=∃ ds,d = .lst ds /\ ∀ l xs H',Same H H' -> H l = none -> H' l = some (.lst xs) -> Reps X.K H' ds xs -> Q (.ref l) H'
def tF (X:Cx) (call:CallD) (p:Px):TE:=fun σ H Q=>∃ env,ReadOk X.K H σ env /\ (evD call p env).Good (OutF X H Q) (XW X H)
end
end Rd
namespace Rd
open PySem PySem.Spec PyProof.Rows L2 Pu
structure Gw where
 prog:Program
 w:World
 K:PySem.W.Frag
 mg:Str -> Option Value
 base:Heap
 A:Around
def gwOf (X:Cx):Gw:=⟨X.prog,X.w,X.K,X.mg,X.base,X.A⟩
def visB (nm:List (Str × NameKind)) (x:Str):Bool:=match nm.lookup x with
 | some .local=>true
 | some .cell=>true
 | some .free=>true
 | _=>false
def celB (nm:List (Str × NameKind)) (x:Str):Bool:=match nm.lookup x with
 | some .cell=>true
 | some .free=>true
 | _=>false
def locB (nm:List (Str × NameKind)) (x:Str):Bool:=match nm.lookup x with
 | some .local=>true
 | some .cell=>true
 | _=>false
def gloB (nm:List (Str × NameKind)) (x:Str):Bool:=match nm.lookup x with
 | some .globalImplicit=>true
 | _=>false
structure Ctx (X:Cx) (G:Gw) (N:List Str) (nm:List (Str × NameKind)):Prop where
 g:gwOf X = G
 hN:X.N = N
 nd:N.Nodup
 vis:∀ x,visB nm x = true -> Vis X.env.scope x
 cel:∀ x,celB nm x = true -> X.env.kindOf x = some .cell \/ X.env.kindOf x = some .free
 glo:∀ x,gloB nm x = true -> Gl X x
 sto:∀ x,locB nm x = true -> Loc X.env.scope x /\ (X.fn x = true \/ X.env.scope.names.lookup x = some .local)
 calm:X.calm = true
 un:X.A.units + 64 < cLine
 fr:∃ e0 out0 L,X.stack = e0 :: out0 /\ e0.frame = some L /\ X.env.frame = some L
theorem Ctx.K {X:Cx} {G:Gw} {N:List Str} {nm:List (Str × NameKind)} (C:Ctx X G N nm):X.K = G.K:=by rw [<- C.g]; rfl
theorem Ctx.mg {X:Cx} {G:Gw} {N:List Str} {nm:List (Str × NameKind)} (C:Ctx X G N nm):X.mg = G.mg:=by rw [<- C.g]; rfl
def Walk (K:PySem.W.Frag) (J:It) (H:Hp) (ds:List D):Prop:=∀ H',Same H H' ->
 (∀ i,i < ds.length -> J.go i H') /\ J.stop ds.length H' /\ ∀ i x H'',i < ds.length -> J.yld i H' x H'' -> Same H' H'' /\ ∃ d,ds[i]? = some d /\ Rep K H'' d x
def tW (X:Cx) (call:CallD) (p:Px):TI:=fun σ H R=>∃ env,ReadOk X.K H σ env /\ (evD call p env).Good (fun d=>∃ ds,d = .lst ds /\ ∀ J H',Same H H' -> Walk X.K J H' ds -> ItOk J -> R J H') (XW X H)
def closL (cs:List (Str × Addr)):List (Str × NameKind) -> List (Str × Addr) -> List (Str × Addr)
 | [],acc=>acc
 | (n,k) :: r,acc=>match k,cs.lookup n with
  | .free,some a=>closL cs r ((n,a) :: acc)
  | _,_=>closL cs r acc
theorem JH {env:Env}:∀ (names:List (Str × NameKind)) (acc:List (Str × Addr)),(∀ y ∈ names,y.2 = .free -> ∃ c,env.cells.lookup y.1 = some c) ->
  (forIn names acc fun x r=>if (x.2 == NameKind.free) = true then do let a <- cellOf env x.1; pure (ForInStep.yield ((x.1,a) :: r)) else pure (ForInStep.yield r):Sem (List (Str × Addr))) = pure (closL env.cells names acc)
 | [],acc,_=>rfl
 | (n,k) :: r,acc,h=>by
  rw [List.forIn_cons]
  by_cases hk:k = .free
  ·subst hk
   obtain ⟨c,hc⟩:=h (n,.free) (.head _) rfl
   have hc':env.cells.lookup n = some c:=hc
   have e1:cellOf env n = pure c:=by unfold cellOf; rw [hc']
   simp only [beq_self_eq_true,if_true,e1]
   have ih:=JH r ((n,c) :: acc) fun y hy=>h y (.tail _ hy)
   simp only [closL,hc']
   exact ih
  ·have hb:(k == NameKind.free) = false:=by simpa using hk
   simp only [hb,Bool.false_eq_true,if_false]
   have ih:=JH r acc fun y hy=>h y (.tail _ hy)
   have e2:closL env.cells ((n,k) :: r) acc = closL env.cells r acc:=by
    cases k <;> first | rfl | exact absurd rfl hk
   rw [e2]
   exact ih
theorem JbL {scope:Scope} {env:Env} (h:∀ y ∈ scope.names,y.2 = .free -> ∃ c,env.cells.lookup y.1 = some c):closureFor scope env = pure (closL env.cells scope.names []):=by
 have e:=JH (env:=env) scope.names [] h
 unfold closureFor
 simp only [bind_pure]
 exact e
theorem Jao {cs:List (Str × Addr)}:∀ (names:List (Str × NameKind)) (acc:List (Str × Addr)),(∀ x c,acc.lookup x = some c -> cs.lookup x = some c) -> ∀ x c,(closL cs names acc).lookup x = some c -> cs.lookup x = some c
 | [],acc,h=>h
 | (n,k) :: r,acc,h=>by
  intro x c
  have keep:=Jao r acc h x c
  unfold closL
  split
  ·rename_i a ha
   refine Jao r _ (fun y d e=>?_) x c
   by_cases hy:y = n
   ·subst hy
    simp only [List.lookup_cons,beq_self_eq_true] at e
    cases e
    exact ha
   ·have hb:(y == n) = false:=by simpa using hy
    simp only [List.lookup_cons,hb] at e
    exact h y d e
  ·exact keep
theorem JaB {cs:List (Str × Addr)}:∀ (names:List (Str × NameKind)) (acc:List (Str × Addr)) (x:Str),(∃ c,acc.lookup x = some c) -> ∃ c,(closL cs names acc).lookup x = some c
 | [],acc,x,h=>h
 | (n,k) :: r,acc,x,h=>by
  unfold closL
  split
  ·refine JaB r _ x ?_
   by_cases hy:x = n
   ·subst hy; exact ⟨_,by simp only [List.lookup_cons,beq_self_eq_true]; rfl⟩
   ·have hb:(x == n) = false:=by simpa using hy
    obtain ⟨c,hc⟩:=h
    exact ⟨c,by simp only [List.lookup_cons,hb]; exact hc⟩
  ·exact JaB r acc x h
theorem Jas {cs:List (Str × Addr)}:∀ (names:List (Str × NameKind)) (acc:List (Str × Addr)) (x:Str),(x,NameKind.free) ∈ names -> (∃ c,cs.lookup x = some c) -> ∃ c,(closL cs names acc).lookup x = some c
 | [],acc,x,h,_=>nomatch h
 | (n,k) :: r,acc,x,h,hc=>by
  rcases List.mem_cons.mp h with e | h'
  ·cases e
   obtain ⟨c,hc⟩:=hc
   unfold closL
   rw [hc]
   exact JaB r _ _ ⟨c,by simp only [List.lookup_cons,beq_self_eq_true]⟩
  ·unfold closL
   split
   ·exact Jas r _ x h' hc
   ·exact Jas r acc x h' hc
def relk (env:Env) (p:Str × NameKind):Str × NameKind:=if (p.2 == NameKind.free && env.scope.kind == .function && env.kindOf p.1 == some .cell) = true then (p.1,NameKind.cell) else (p.1,p.2)
theorem Jem (env:Env) (n:Str) (k:NameKind):relk env (n,k) = (n,k) \/ (k = .free /\ relk env (n,k) = (n,.cell)):=by
 unfold relk
 split
 ·rename_i hc
  simp only [Bool.and_eq_true,beq_iff_eq] at hc
  exact .inr ⟨hc.1.1,rfl⟩
 ·exact .inl rfl
theorem JbV (scope:Scope) (env:Env):(relabel scope env).names = scope.names.map (relk env):=rfl
theorem Jaf {env:Env} {x:Str}:∀ {names:List (Str × NameKind)} {k:NameKind},names.lookup x = some k -> (names.map (relk env)).lookup x = some k \/ (k = .free /\ (names.map (relk env)).lookup x = some .cell)
 | [],_,h=>by simp at h
 | (n,k') :: r,k,h=>by
  rw [List.map_cons]
  by_cases hx:x = n
  ·subst hx
   simp only [List.lookup_cons,beq_self_eq_true] at h
   cases h
   rcases Jem env x k' with e | ⟨e1,e⟩
   ·rw [e]; exact .inl (by simp only [List.lookup_cons,beq_self_eq_true])
   ·rw [e]; exact .inr ⟨e1,by simp only [List.lookup_cons,beq_self_eq_true]⟩
  ·have hb:(x == n) = false:=by simpa using hx
   simp only [List.lookup_cons,hb] at h
   have ih:=Jaf (env:=env) h
   rcases Jem env n k' with e | ⟨_,e⟩ <;> rw [e] <;> simp only [List.lookup_cons,hb] <;> exact ih
theorem Jdk {env:Env} {x:Str}:∀ {names:List (Str × NameKind)},names.lookup x = none -> (names.map (relk env)).lookup x = none
 | [],_=>rfl
 | (n,k') :: r,h=>by
  rw [List.map_cons]
  by_cases hx:x = n
  ·subst hx; simp only [List.lookup_cons,beq_self_eq_true] at h; cases h
  ·have hb:(x == n) = false:=by simpa using hx
   simp only [List.lookup_cons,hb] at h
   have ih:=Jdk (env:=env) h
   rcases Jem env n k' with e | ⟨_,e⟩ <;> rw [e] <;> simp only [List.lookup_cons,hb] <;> exact ih
theorem Jf {scope:Scope} {env:Env} {x:Str} {k:NameKind} (h:scope.names.lookup x = some k):(relabel scope env).names.lookup x = some k \/ (k = .free /\ (relabel scope env).names.lookup x = some .cell):=Jaf h
theorem Jp {scope:Scope} {env:Env} {x:Str} {k:NameKind} (h:(relabel scope env).names.lookup x = some k):scope.names.lookup x = some k \/ (k = .cell /\ scope.names.lookup x = some .free):=by
 rw [JbV] at h
 cases q:scope.names.lookup x with
 | none=>rw [Jdk q] at h; cases h
 | some k'=>
  rcases Jaf (env:=env) q with z | ⟨z1,z2⟩
  ·rw [z] at h; cases h; exact .inl rfl
  ·rw [z2] at h; cases h; subst z1; exact .inr ⟨rfl,rfl⟩
theorem mem_of_lookup {α:Type}:∀ {l:List (Str × α)} {x:Str} {a:α},l.lookup x = some a -> (x,a) ∈ l
 | [],_,_,h=>by simp at h
 | (n,b) :: r,x,a,h=>by
  by_cases hx:x = n
  ·subst hx; simp only [List.lookup_cons,beq_self_eq_true] at h; cases h; exact .head _
  ·have hb:(x == n) = false:=by simpa using hx
   simp only [List.lookup_cons,hb] at h
   exact .tail _ (mem_of_lookup h)
theorem JcE {prog:Program} {w:World} {A:Around} {R:Result -> Shared -> Prop} {s:Shared} {elt target iter:Expr} {ifs:List Expr} {scope:Scope} {pos:Pos} {it acc:Value} {env:Env} (I:Nat -> Shared -> Prop)
  (turn:∀ n s,I n s -> wpAny (model prog w) A (pyNext it) (fun r s₁=>match r with
   | none=>R (.ok .next) s₁
   | some v=>wpAny (model prog w) A (letOwnedTupleGo target it v) (fun _ s₁'=>wpAny (model prog w) A (assign target env v) (fun _ s₂=>
     wpAny (model prog w) A (forIn ifs true fun c r=>if r = true then do let ok <- isTrue c env (eval c env); pure (ForInStep.yield ok) else pure (ForInStep.yield r)) (fun ok s₃=>
      if ok = true then wpAny (model prog w) A (eval elt env) (fun x s₄=>
       wpAny (model prog w) A (PySem.call (.builtin "list.append") [acc,x]) (fun _ s₅=>∃ m,m < n /\ I m s₅) (notedBy (model prog w) A env fun e s'=>R (.error e) s') s₄) (notedBy (model prog w) A env fun e s'=>R (.error e) s') s₃
      else ∃ m,m < n /\ I m s₃) (notedBy (model prog w) A env fun e s'=>R (.error e) s') s₂) (notedBy (model prog w) A env fun e s'=>R (.error e) s') s₁') (notedBy (model prog w) A env fun e s'=>R (.error e) s') s₁) (notedBy (model prog w) A env fun e s'=>R (.error e) s') s)
  (n:Nat) (h:I n s) :
  codeAny (model prog w) A (.compLoop (.ListComp elt [⟨target,iter,ifs,0⟩] scope pos) 0 it acc env) R s:=by
 refine codeAny_loop rfl I (fun n s hI=>?_) n h
 show wpAny _ A ((compTurn (.ListComp elt [⟨target,iter,ifs,0⟩] scope pos) 0 it acc env).onRaise (fun x=>do noteFrame x env; theTreesLotGoes x)) _ _ s
 refine wpAny_noted ?_
 rw [compTurn_list]
 refine wpAny_bind (wpAny_standAt (wpAny_bind (wpAny_mono (turn n s hI) (fun r s₁ h₁=>?_) fun _ _ h'=>h')))
 cases r with
 | none=>exact wpAny_pure h₁
 | some v=>
  refine wpAny_bind (wpAny_mono h₁ (fun _ s₁' h₁'=>?_) fun _ _ h'=>h')
  refine wpAny_bind (wpAny_mono h₁' (fun _ s₂ h₂=>wpAny_bind (wpAny_mono h₂ (fun ok s₃ h₃=>?_) fun _ _ h'=>h')) fun _ _ h'=>h')
  cases ok with
  | false=>exact wpAny_pure ⟨rfl,h₃⟩
  | true=>
   exact wpAny_bind (wpAny_bind (wpAny_mono h₃ (fun x s₄ h₄=>wpAny_bind (wpAny_mono h₄ (fun _ s₅ h₅=>wpAny_pure (wpAny_pure ⟨rfl,h₅⟩)) fun _ _ h'=>h')) fun _ _ h'=>h'))
def dum (n:Str):Str:=⟨n.cps.push 0⟩
def hidN (ls N:List Str):List Str:=N.map fun n=>if ls.contains n then dum n else n
theorem JdT:∀ (names:List (Str × NameKind)) (n:Nat) (acc:List (Str × Addr)) (x:Str) (c:Addr),(cellsFrom n names acc).lookup x = some c -> acc.lookup x = some c \/ (n <= c /\ (x,NameKind.cell) ∈ names)
 | [],_,_,_,_,h=>.inl h
 | (y,k) :: r,n,acc,x,c,h=>by
  unfold cellsFrom at h
  split at h
  ·rename_i hk
   rw [beq_iff_eq] at hk
   subst hk
   rcases JdT r (n + 1) _ x c h with q | ⟨q1,q2⟩
   ·by_cases hx:x = y
    ·subst hx
     simp only [List.lookup_cons,beq_self_eq_true,Option.some.injEq] at q
     subst q
     exact .inr ⟨Nat.le_refl _,by simp⟩
    ·have hb:(x == y) = false:=by simpa using hx
     simp only [List.lookup_cons,hb] at q
     exact .inl q
   ·exact .inr ⟨Nat.le_of_succ_le q1,by simp [q2]⟩
  ·rcases JdT r n acc x c h with q | ⟨q1,q2⟩
   ·exact .inl q
   ·exact .inr ⟨q1,by simp [q2]⟩
theorem Jha:∀ (names:List (Str × NameKind)) (n:Nat) (acc:List (Str × Addr)),(∀ x c,acc.lookup x = some c -> c < n) -> (∀ x y c,acc.lookup x = some c -> acc.lookup y = some c -> x = y) -> ∀ x y c,(cellsFrom n names acc).lookup x = some c -> (cellsFrom n names acc).lookup y = some c -> x = y
 | [],_,_,_,h=>h
 | (z,k) :: r,n,acc,hlt,h=>by
  unfold cellsFrom
  split
  ·refine Jha r (n + 1) _ (fun x c e=>?_) fun x y c e1 e2=>?_
   ·by_cases hx:x = z
    ·subst hx
     simp only [List.lookup_cons,beq_self_eq_true,Option.some.injEq] at e
     subst e; exact Nat.lt_succ_self _
    ·have hb:(x == z) = false:=by simpa using hx
     simp only [List.lookup_cons,hb] at e
     exact Nat.lt_succ_of_lt (hlt x c e)
   ·by_cases hx:x = z <;> by_cases hy:y = z
    ·rw [hx,hy]
    ·subst hx
     have hb:(y == x) = false:=by simpa using hy
     simp only [List.lookup_cons,beq_self_eq_true,Option.some.injEq] at e1
     simp only [List.lookup_cons,hb] at e2
     subst e1
     exact absurd (hlt y _ e2) (Nat.lt_irrefl _)
    ·subst hy
     have hb:(x == y) = false:=by simpa using hx
     simp only [List.lookup_cons,beq_self_eq_true,Option.some.injEq] at e2
     simp only [List.lookup_cons,hb] at e1
     subst e2
     exact absurd (hlt x _ e1) (Nat.lt_irrefl _)
    ·have hb:(x == z) = false:=by simpa using hx
     have hb2:(y == z) = false:=by simpa using hy
     simp only [List.lookup_cons,hb] at e1
     simp only [List.lookup_cons,hb2] at e2
     exact h x y c e1 e2
  ·exact Jha r n acc hlt h
theorem JdF:∀ (names:List (Str × NameKind)) (n:Nat) (acc:List (Str × Addr)) (x:Str),(x,NameKind.cell) ∉ names -> (cellsFrom n names acc).lookup x = acc.lookup x
 | [],_,_,_,_=>rfl
 | (y,k) :: r,n,acc,x,h=>by
  unfold cellsFrom
  split
  ·rename_i hk
   rw [beq_iff_eq] at hk
   rw [JdF r _ _ x fun q=>h (by simp [q])]
   have hx:x ≠ y:=fun e=>h (by simp [e,hk])
   have hb:(x == y) = false:=by simpa using hx
   simp only [List.lookup_cons,hb]
  ·exact JdF r _ _ x fun q=>h (by simp [q])
theorem Jcw:∀ (names:List (Str × NameKind)) (n:Nat) (acc:List (Str × Addr)) (x:Str),(∃ c,acc.lookup x = some c) -> ∃ c,(cellsFrom n names acc).lookup x = some c
 | [],_,_,_,h=>h
 | (y,k) :: r,n,acc,x,h=>by
  unfold cellsFrom
  split
  ·refine Jcw r _ _ x ?_
   by_cases hx:x = y
   ·exact ⟨n,by simp [List.lookup_cons,hx]⟩
   ·have hb:(x == y) = false:=by simpa using hx
    simpa only [List.lookup_cons,hb] using h
  ·exact Jcw r _ _ x h
theorem JjX:∀ (names:List (Str × NameKind)) (n:Nat) (acc:List (Str × Addr)) (x:Str),(x,NameKind.cell) ∈ names -> ∃ c,(cellsFrom n names acc).lookup x = some c
 | [],_,_,_,h=>by cases h
 | (y,k) :: r,n,acc,x,h=>by
  unfold cellsFrom
  rcases List.mem_cons.mp h with q | q
  ·cases q
   simp only [beq_self_eq_true,if_true]
   exact Jcw r _ _ _ ⟨n,by simp [List.lookup_cons]⟩
  ·split <;> exact JjX r _ _ x q
theorem JdQ:∀ (names:List (Str × NameKind)) (h:Heap) (acc:List (Str × Addr)) (x:Str) (c:Addr),(cellsFrom h.objs.size names acc).lookup x = some c -> acc.lookup x = some c \/ (h.objs.size <= c /\ (pushCells h names).IsCell c none)
 | [],_,_,_,_,e=>.inl e
 | (y,k) :: r,h,acc,x,c,e=>by
  unfold cellsFrom at e
  unfold pushCells
  split at e
  ·rename_i hk
   rw [if_pos hk]
   have hsz:(h.push { cls:=.type "cell",data:=.cell none }).objs.size = h.objs.size + 1:=Heap.size_push ..
   rw [<- hsz] at e
   rcases JdQ r (h.push { cls:=.type "cell",data:=.cell none }) _ x c e with q | ⟨q1,q2⟩
   ·by_cases hx:x = y
    ·subst hx
     simp only [List.lookup_cons,beq_self_eq_true,Option.some.injEq] at q
     subst q
     exact .inr ⟨Nat.le_refl _,_,pushCells_keeps _ _ _ _ (Heap.get?_push_size _ rfl),rfl⟩
    ·have hb:(x == y) = false:=by simpa using hx
     simp only [List.lookup_cons,hb] at q
     exact .inl q
   ·exact .inr ⟨by omega,q2⟩
  ·rename_i hk
   rw [if_neg hk]
   exact JdQ r h acc x c e
theorem Jgk {lo:Nat}:∀ (names:List (Str × NameKind)) (n:Nat) (acc:List (Str × Addr)) (x:Str),lo <= n -> ((x,NameKind.cell) ∈ names \/ ∀ c,acc.lookup x = some c -> lo <= c) -> ∀ c,(cellsFrom n names acc).lookup x = some c -> lo <= c
 | [],_,_,_,_,h,c,e=>by
  rcases h with h | h
  ·cases h
  ·exact h c e
 | (y,k) :: r,n,acc,x,hn,h,c,e=>by
  unfold cellsFrom at e
  split at e
  ·refine Jgk r (n + 1) _ x (Nat.le_succ_of_le hn) ?_ c e
   by_cases hx:x = y
   ·refine .inr fun c' e'=>?_
    subst hx
    simp only [List.lookup_cons,beq_self_eq_true,Option.some.injEq] at e'
    subst e'; exact hn
   ·have hb:(x == y) = false:=by simpa using hx
    rcases h with h | h
    ·rcases List.mem_cons.mp h with q | q
     ·cases q; exact absurd rfl hx
     ·exact .inl q
    ·refine .inr fun c' e'=>?_
     simp only [List.lookup_cons,hb] at e'
     exact h c' e'
  ·rename_i hk
   refine Jgk r n acc x hn ?_ c e
   rcases h with h | h
   ·rcases List.mem_cons.mp h with q | q
    ·cases q; exact absurd (beq_self_eq_true _) hk
    ·exact .inl q
   ·exact .inr h
def cxComp (X:Cx) (ls:List Str) (scope:Scope) (C:Addr) (s:Shared) (H:Hp) (fp:List Addr) (E:Value -> Shared -> Prop):Cx:=
 { X with N:=ls ++ hidN ls X.N,s₀:=s,H₀:=H,env:=compEnvC scope (cellsFrom (C + 1) scope.names (closL X.env.cells scope.names [])) C X.env,outer:=X.stack,ex:=fp,fn:=fun x=>scope.names.lookup x == some .cell,pn:=[],xe:=E }
def scOkB (N:List Str) (nm:List (Str × NameKind)) (ls:List Str) (sc:List (Str × NameKind)):Bool:=
 sc.all fun y=>(y.2 != .cell || (sc.lookup y.1 == some .cell && ls.contains y.1)) && (y.2 != .free || celB nm y.1) && (y.2 != .local || (sc.lookup y.1 == some .local && (ls.contains y.1 || !N.contains y.1)))
structure ScOk (N:List Str) (nm:List (Str × NameKind)) (ls:List Str) (sc:Scope):Prop where
 kind:sc.kind = .function
 nd:(ls ++ hidN ls N).Nodup
 all:scOkB N nm ls sc.names = true
 no:∀ n ∈ N,ls.contains n = true -> sc.names.lookup (dum n) = none
section
variable {N:List Str} {nm:List (Str × NameKind)} {ls:List Str} {sc:Scope}
theorem ScOk.at (h:ScOk N nm ls sc) {y:Str × NameKind} (hy:y ∈ sc.names):(y.2 = .cell -> sc.names.lookup y.1 = some .cell /\ y.1 ∈ ls) /\ (y.2 = .free -> celB nm y.1 = true) /\ (y.2 = .local -> sc.names.lookup y.1 = some .local /\ (y.1 ∈ ls \/ y.1 ∉ N)):=by
 have q:=List.all_eq_true.mp h.all y hy
 simp only [Bool.and_eq_true,bne_iff_ne,Bool.or_eq_true,beq_iff_eq,Bool.not_eq_true',List.contains_eq_mem,decide_eq_true_eq,decide_eq_false_iff_not] at q
 refine ⟨fun e=>?_,fun e=>?_,fun e=>?_⟩
 ·rcases q.1.1 with z | z
  ·exact absurd e z
  ·exact z
 ·rcases q.1.2 with z | z
  ·exact absurd e z
  ·exact z
 ·rcases q.2 with z | z
  ·exact absurd e z
  ·exact z
theorem ScOk.fcell (h:ScOk N nm ls sc) {x:Str} (hx:sc.names.lookup x = some .free):(x,NameKind.cell) ∉ sc.names:=fun q=>by
 have:=((h.at q).1 rfl).1
 rw [hx] at this; cases this
variable {X:Cx} {G:Gw}
theorem ScOk.cells (h:ScOk N nm ls sc) (C:Ctx X G N nm) (ok:X.Ok):∀ y ∈ sc.names,y.2 = .free -> ∃ c,X.env.cells.lookup y.1 = some c:=fun y hy e=>ok.has _ (C.cel _ ((h.at hy).2.1 e))
theorem JjB {Cd:Addr} {s:Shared} {H:Hp} {fp:List Addr} {E:Value -> Shared -> Prop} (C:Ctx X G N nm) (h:ScOk N nm ls sc):Ctx (cxComp X ls sc Cd s H fp E) G (ls ++ hidN ls N) sc.names where
 g:=C.g
 hN:=by show ls ++ hidN ls X.N = _; rw [C.hN]
 nd:=h.nd
 vis:=fun x hx=>by
  show Vis (relabel sc X.env) x
  unfold visB at hx
  split at hx
  ·rename_i e
   rcases Jf (env:=X.env) e with z | ⟨z,_⟩
   ·exact .inl z
   ·cases z
  ·rename_i e
   rcases Jf (env:=X.env) e with z | ⟨z,_⟩
   ·exact .inr (.inl z)
   ·cases z
  ·rename_i e
   rcases Jf (env:=X.env) e with z | ⟨_,z⟩
   ·exact .inr (.inr z)
   ·exact .inr (.inl z)
  ·cases hx
 cel:=fun x hx=>by
  show (relabel sc X.env).names.lookup x = some .cell \/ (relabel sc X.env).names.lookup x = some .free
  unfold celB at hx
  split at hx
  ·rename_i e
   rcases Jf (env:=X.env) e with z | ⟨z,_⟩
   ·exact .inl z
   ·cases z
  ·rename_i e
   rcases Jf (env:=X.env) e with z | ⟨_,z⟩
   ·exact .inr z
   ·exact .inl z
  ·cases hx
 glo:=fun x hx=>by
  show (relabel sc X.env).names.lookup x = some .globalImplicit
  unfold gloB at hx
  split at hx
  ·rename_i e
   rcases Jf (env:=X.env) e with z | ⟨z,_⟩
   ·exact z
   ·cases z
  ·cases hx
 sto:=fun x hx=>by
  show Loc (relabel sc X.env) x /\ ((sc.names.lookup x == some .cell) = true \/ (relabel sc X.env).names.lookup x = some .local)
  unfold locB at hx
  split at hx
  ·rename_i e
   rcases Jf (env:=X.env) e with z | ⟨z,_⟩
   ·exact ⟨.inl z,.inr z⟩
   ·cases z
  ·rename_i e
   rcases Jf (env:=X.env) e with z | ⟨z,_⟩
   ·exact ⟨.inr z,.inl (by rw [e]; rfl)⟩
   ·cases z
  ·cases hx
 calm:=C.calm
 un:=C.un
 fr:=C.fr
abbrev listObj (its:List Value) (n:Nat):Obj:={ cls:=.type "list",dict:=none,data:=.seq its.toArray n }
theorem JiG {pins:List (Addr × Obj)} {σ:L2.St} {H:Hp} {s:Shared} {h₁:Heap} {tk:Nat} {fp:List Addr} {E:Value -> Shared -> Prop} {m:Str -> Option Value} {Cd:Addr} {h0:Heap} (C:Ctx X G N nm) (h:ScOk N nm ls sc) (hh:h₁ = pushCells h0 sc.names) (h0s:h0.objs.size = Cd + 1) (I:Inv X pins σ H s)
  (hf:∀ b ∈ fp,FpOk X pins H b) (ho:∀ b ∈ fp,∃ o,s.heap.get? b = some o) (hC:Cd = s.heap.objs.size + 1) (hns:h₁.Ns Cd m) (keep:∀ b o,s.heap.get? b = some o -> h₁.get? b = some o)
  (hacc:h₁.get? s.heap.objs.size = some (listObj [] 0)) :
  Inv (cxComp X ls sc Cd s H fp E) [(s.heap.objs.size,listObj [] 0)] (List.replicate ls.length none ++ σ) H { s with heap:=h₁,toks:=tk }:=by
 subst hC
 have sub:∀ x c,(closL X.env.cells sc.names []).lookup x = some c -> X.env.cells.lookup x = some c:=Jao sc.names [] fun x c e=>by simp at e
 have old':∀ x c,(closL X.env.cells sc.names []).lookup x = some c -> c < s.heap.objs.size:=fun x c e=>by
  obtain ⟨v,o,h1,h2⟩:=I.cell x c (sub x c e)
  exact Heap.lt_size h1
 have sub':∀ x c,(cellsFrom (s.heap.objs.size + 1 + 1) sc.names (closL X.env.cells sc.names [])).lookup x = some c -> X.env.cells.lookup x = some c \/ (s.heap.objs.size + 1 + 1 <= c /\ h₁.IsCell c none):=fun x c e=>by
  rw [<- h0s] at e
  rcases JdQ sc.names h0 _ x c e with q | ⟨q1,q2⟩
  ·exact .inl (sub x c q)
  ·exact .inr ⟨h0s ▸ q1,hh ▸ q2⟩
 have stk:∀ b ∈ frs X.stack,b < s.heap.objs.size:=fun b hb=>by
  obtain ⟨_,o,ho,_⟩:=I.stack.mem hb
  exact Heap.lt_size ho
 refine ⟨⟨I.ok.mod,h.kind,I.ok.glob,I.ok.blt,Nat.le_succ _,Jha _ _ _ (fun x c e=>Nat.lt_succ_of_lt (Nat.lt_succ_of_lt (old' x c e))) fun x y c e1 e2=>I.ok.inj x y c (sub x c e1) (sub y c e2),fun x hk=>?_,fun x c z e=>?_,I.ok.hd,I.ok.frames,.inl rfl,fun b hb=>?_,I.bs,Nat.le_trans I.ok.bsz I.sz,fun b o e hb=>?_,fun b hb hz=>?_,I.stack,I.stkFree⟩,
  rfl,I.bare,Un.kept keep,⟨m,hns,fun i x v hN hσ hv=>?_⟩,fun x c e=>?_,?_,fun x c e=>?_,fun p hp=>?_,I.hok.kept keep,?_⟩
 ·-- every cell name has its cell
  have hk':(relabel sc X.env).names.lookup x = some .cell \/ (relabel sc X.env).names.lookup x = some .free:=hk
  have hfr:sc.names.lookup x = some .free \/ sc.names.lookup x = some .cell:=by
   rcases hk' with z | z
   ·rcases Jp z with q | ⟨_,q⟩
    ·exact .inr q
    ·exact .inl q
   ·rcases Jp z with q | ⟨q,_⟩
    ·exact .inl q
    ·cases q
  rcases hfr with hfr | hfr
  ·have hm:=mem_of_lookup hfr
   exact Jcw _ _ _ _ (Jas sc.names [] x hm (h.cells C I.ok (x,.free) hm rfl))
  ·exact JjX _ _ _ _ (mem_of_lookup hfr)
 ·have z':sc.names.lookup x = some .cell:=by
   have z2:(sc.names.lookup x == some .cell) = true:=z
   simpa using z2
  have e':(cellsFrom (s.heap.objs.size + 1 + 1) sc.names (closL X.env.cells sc.names [])).lookup x = some c:=e
  have:=Jgk (lo:=s.heap.objs.size + 1 + 1) _ _ _ _ (Nat.le_refl _) (.inl (mem_of_lookup z')) c e'
  show s.heap.objs.size <= c
  omega
 ·obtain ⟨o,e⟩:=ho b hb
  refine ⟨Nat.ne_of_lt (Nat.lt_succ_of_lt (Heap.lt_size e)),fun x c e'=>?_⟩
  rcases sub' x c e' with q | ⟨q,_⟩
  ·exact (hf b hb).2.2.2.2.1 x c q
  ·have:=Heap.lt_size e
   exact fun ee=>Nat.lt_irrefl _ (Nat.lt_of_lt_of_le (Nat.lt_succ_of_lt (Nat.lt_succ_of_lt this)) (ee ▸ q))
 ·rcases (hf b hb).2.2.2.1 with z | z
  ·exact I.ok.noex b o e z
  ·exact absurd (Nat.lt_of_lt_of_le (Heap.lt_size (I.ok.bs b o e).1) z) (Nat.lt_irrefl _)
 ·rcases List.mem_cons.mp (I.stkSub b hz) with z | z
  ·exact (hf b hb).2.1 z
  ·exact (hf b hb).2.2.1 z
 ·-- a name that the block sees
  have hN':(ls ++ hidN ls X.N)[i]? = some x:=hN
  by_cases hi:i < ls.length
  ·rw [List.getElem?_append_left (by simpa using hi)] at hσ
   rw [List.getElem?_replicate] at hσ
   split at hσ <;> cases hσ
  ·have hi':ls.length <= i:=Nat.le_of_not_lt hi
   rw [List.getElem?_append_right hi'] at hN'
   rw [List.getElem?_append_right (by simpa using hi')] at hσ
   rw [List.length_replicate] at hσ
   obtain ⟨hN',hxl⟩:X.N[i - ls.length]? = some x /\ x ∉ ls:=by
    unfold hidN at hN'
    rw [List.getElem?_map] at hN'
    cases q:X.N[i - ls.length]? with
    | none=>rw [q] at hN'; cases hN'
    | some n=>
     rw [q] at hN'
     simp only [Option.map_some,Option.some.injEq] at hN'
     by_cases hc:ls.contains n = true
     ·rw [if_pos hc] at hN'
      have hno:=h.no n (by rw [<- C.hN]; exact List.mem_of_getElem? q) hc
      rw [hN'] at hno
      have hv':(relabel sc X.env).names.lookup x = some .local \/ (relabel sc X.env).names.lookup x = some .cell \/ (relabel sc X.env).names.lookup x = some .free:=hv
      exfalso
      rcases hv' with z | z | z <;> rcases Jp z with q | ⟨_,q⟩ <;> (rw [hno] at q; cases q)
     ·rw [if_neg hc] at hN'
      subst hN'
      exact ⟨rfl,by simpa using hc⟩
   have hxN:x ∈ N:=by rw [<- C.hN]; exact List.mem_of_getElem? hN'
   have hfr:sc.names.lookup x = some .free:=by
    have hv':(relabel sc X.env).names.lookup x = some .local \/ (relabel sc X.env).names.lookup x = some .cell \/ (relabel sc X.env).names.lookup x = some .free:=hv
    rcases hv' with z | z | z
    ·rcases Jp z with q | ⟨q,_⟩
     ·have w:=((h.at (mem_of_lookup q)).2.2 rfl).2
      rcases w with w | w
      ·exact absurd w hxl
      ·exact absurd hxN w
     ·cases q
    ·rcases Jp z with q | ⟨_,q⟩
     ·exact absurd ((h.at (mem_of_lookup q)).1 rfl).2 hxl
     ·exact q
    ·rcases Jp z with q | ⟨q,_⟩
     ·exact q
     ·cases q
   have hm:=mem_of_lookup hfr
   have hk:=C.cel x ((h.at hm).2.1 rfl)
   have hvX:Vis X.env.scope x:=by
    rcases hk with z | z
    ·exact .inr (.inl z)
    ·exact .inr (.inr z)
   obtain ⟨m0,_,hl⟩:=I.loc
   obtain ⟨u,r,l⟩:=hl (i - ls.length) x v hN' hσ hvX
   refine ⟨u,r,.inr ⟨?_,?_⟩⟩
   ·show (relabel sc X.env).names.lookup x = some .cell \/ (relabel sc X.env).names.lookup x = some .free
    rcases Jf (env:=X.env) hfr with z | ⟨_,z⟩
    ·exact .inr z
    ·exact .inl z
   ·rcases l with ⟨z,_⟩ | ⟨_,c,e,z⟩
    ·rcases hk with w | w <;> (rw [w] at z; cases z)
    ·obtain ⟨c',e'⟩:=Jas (cs:=X.env.cells) sc.names [] x hm ⟨c,e⟩
     have e2:=sub x c' e'
     rw [e] at e2
     cases e2
     obtain ⟨o,h1,h2⟩:=z
     exact ⟨c,(JdF _ _ _ _ (h.fcell hfr)).trans e',o,keep _ _ h1,h2⟩
 ·rcases sub' x c e with q | ⟨_,q⟩
  ·obtain ⟨v,o,h1,h2⟩:=I.cell x c q
   exact ⟨v,o,keep _ _ h1,h2⟩
  ·exact ⟨none,q⟩
 ·exact I.hok.fresh (Nat.le_succ _)
 ·rcases sub' x c e with q | ⟨q,_⟩
  ·exact I.freeC x c q
  ·exact I.hok.fresh (by omega)
 ·have e:p = (s.heap.objs.size,listObj [] 0):=by simpa [cxComp] using hp
  subst e
  exact ⟨hacc,I.hok.fresh (Nat.le_refl _),Nat.ne_of_lt (Nat.lt_succ_self _),fun hb=>Nat.lt_irrefl _ (stk _ hb),fun v z=>(by cases z)⟩
 ·show (List.replicate ls.length none ++ σ).length = (ls ++ hidN ls X.N).length
  rw [List.length_append,List.length_append,List.length_replicate,I.len]
  unfold hidN
  rw [List.length_map]
end
end Rd
namespace Rd
open PySem PySem.Spec PyProof.Rows L2 Pu
open PySem.SeqAt (EqAt RcAt RcNeAt)
mutual
theorem Jcj:∀ d:D,d.dep < 1000 -> d.eqv d = true
 | .non,_=>rfl
 | .bl b,_=>by simp [D.eqv]
 | .int i,_=>by simp [D.eqv]
 | .str x,_=>by simp [D.eqv]
 | .tup ds,h=>by simp only [D.dep] at h; simp [D.eqv,Jbo ds (by omega)]
 | .lst ds,h=>by simp only [D.dep] at h; simp [D.eqv,Jbo ds (by omega)]
 | .dct _ _ _ _,h=>by simp [D.dep] at h
 | .exc _,h=>by simp [D.dep] at h
 | .fn _ _,h=>by simp [D.dep] at h
 | .obj _ _ _,h=>by simp [D.dep] at h
theorem Jbo:∀ ds:List D,deps ds < 1000 -> eqvs ds ds = true
 | [],_=>rfl
 | d :: ds,h=>by simp only [deps] at h; simp [eqvs,Jcj d (by omega),Jbo ds (by omega)]
end
theorem Jeu:∀ {as bs:List D},eqvs as bs = true -> as.length = bs.length
 | [],[],_=>rfl
 | [],_ :: _,h=>by simp [eqvs] at h
 | _ :: _,[],h=>by simp [eqvs] at h
 | a :: as,b :: bs,h=>by
  simp only [eqvs,Bool.and_eq_true] at h
  simp [Jeu h.2]
theorem JaA:∀ as bs:List D,as.length = bs.length -> eqvs as bs = (List.range as.length).all fun j=>(as.getD j .non).eqv (bs.getD j .non)
 | [],[],_=>rfl
 | a :: as,b :: bs,h=>by
  have ih:=JaA as bs (by simpa using h)
  rw [List.length_cons,List.range_succ_eq_map,List.all_cons,List.all_map]
  simp only [eqvs,ih]
  rfl
theorem Jhe {as bs:List D} (h:as.length ≠ bs.length):eqvs as bs = false:=by
 cases e:eqvs as bs with
 | false=>rfl
 | true=>exact absurd (Jeu e) h
theorem JK:∀ {ds:List D} {n j:Nat},deps ds <= n -> (ds.getD j .non).dep <= n
 | [],n,j,_=>by simp [D.dep]
 | d :: ds,n,0,h=>by simp only [deps] at h; simp; omega
 | d :: ds,n,j + 1,h=>by
  simp only [deps] at h
  have:=JK (ds:=ds) (n:=n) (j:=j) (by omega)
  simpa using this
section
variable {X:Cx} {pins:List (Addr × Obj)} {σ:L2.St} {H:Hp} {s:Shared}
theorem Jcx (I:L2.Inv X pins σ H s) {a:Addr} {xs ys:List V} (h1:SqL X.K H a xs) (h2:SqT X.K H a ys):False:=by
 obtain ⟨its,_,p1,_⟩:=I.list h1
 obtain ⟨its2,_,p2,_⟩:=I.tuple h2
 obtain ⟨o,e,c,_⟩:=p1.isList
 obtain ⟨o2,e2,c2,_⟩:=p2
 rw [e] at e2
 cases e2
 rw [c] at c2
 injection c2 with c3
 exact absurd c3 (by decide)
mutual
theorem Rep.inj (I:L2.Inv X pins σ H s):∀ (d:D) {d':D} {v:V},d.dep < 1000 -> d'.dep < 1000 -> Rep X.K H d v -> Rep X.K H d' v -> d = d'
 | .dct _ _ _ _,_,_,p,_,_,_=>by simp [D.dep] at p
 | .exc _,_,_,p,_,_,_=>by simp [D.dep] at p
 | .fn _ _,_,_,p,_,_,_=>by simp [D.dep] at p
 | .obj _ _ _,_,_,p,_,_,_=>by simp [D.dep] at p
 | .non,d',v,p,p',h,h'=>by
  cases h
  cases d' <;> first | rfl | (simp [D.dep] at p'; done) | (cases h'; done) | (obtain ⟨_,_,e,_⟩:=h'; cases e)
 | .bl b,d',v,p,p',h,h'=>by
  cases h
  cases d' <;> first | (simp [D.dep] at p'; done) | (cases h'; rfl) | (cases h'; done) | (obtain ⟨_,_,e,_⟩:=h'; cases e)
 | .int b,d',v,p,p',h,h'=>by
  cases h
  cases d' <;> first | (simp [D.dep] at p'; done) | (cases h'; rfl) | (cases h'; done) | (obtain ⟨_,_,e,_⟩:=h'; cases e)
 | .str b,d',v,p,p',h,h'=>by
  cases h
  cases d' <;> first | (simp [D.dep] at p'; done) | (cases h'; rfl) | (cases h'; done) | (obtain ⟨_,_,e,_⟩:=h'; cases e)
 | .tup ds,d',v,p,p',⟨a,xs,e,h1,h2⟩,h'=>by
  subst e
  simp only [D.dep] at p
  cases d' with
  | tup es=>
   simp only [D.dep] at p'
   obtain ⟨a',ys,e',h3,h4⟩:=h'
   cases e'
   have:=I.tuple_inj h1 h3
   subst this
   rw [Reps.inj I ds (by omega) (by omega) h2 h4]
  | lst es=>
   obtain ⟨a',ys,e',h3,h4⟩:=h'
   cases e'
   exact (Jcx I h3 h1).elim
  | dct _ _ _ _=>simp [D.dep] at p'
  | exc _=>simp [D.dep] at p'
  | fn _ _=>simp [D.dep] at p'
  | obj _ _ _=>simp [D.dep] at p'
  | _=>cases h'
 | .lst ds,d',v,p,p',⟨a,xs,e,h1,h2⟩,h'=>by
  subst e
  simp only [D.dep] at p
  cases d' with
  | lst es=>
   simp only [D.dep] at p'
   obtain ⟨a',ys,e',h3,h4⟩:=h'
   cases e'
   have:=I.list_inj h1 h3
   subst this
   rw [Reps.inj I ds (by omega) (by omega) h2 h4]
  | tup es=>
   obtain ⟨a',ys,e',h3,h4⟩:=h'
   cases e'
   exact (Jcx I h1 h3).elim
  | dct _ _ _ _=>simp [D.dep] at p'
  | exc _=>simp [D.dep] at p'
  | fn _ _=>simp [D.dep] at p'
  | obj _ _ _=>simp [D.dep] at p'
  | _=>cases h'
theorem Reps.inj (I:L2.Inv X pins σ H s):∀ (ds:List D) {es:List D} {xs:List V},deps ds < 1000 -> deps es < 1000 -> Reps X.K H ds xs -> Reps X.K H es xs -> ds = es
 | [],es,xs,_,_,h,h'=>by
  cases h
  have:=Reps.length h'
  cases es with
  | nil=>rfl
  | cons _ _=>simp at this
 | d :: ds,es,xs,p,p',⟨x,r,e,h1,h2⟩,h'=>by
  subst e
  cases es with
  | nil=>cases h'
  | cons e' es=>
   simp only [deps] at p p'
   obtain ⟨x',r',e1,h3,h4⟩:=h'
   cases e1
   rw [Rep.inj I d (by omega) (by omega) h1 h3,Reps.inj I ds (by omega) (by omega) h2 h4]
end
theorem JaV (I:L2.Inv X pins σ H s) {ds:List D} {xs:List V} {its:List Value} (hr:Reps X.K H ds xs) (hv:Vals xs its) {j:Nat} (h:j < its.toArray.size):∃ v,Rep X.K H (ds.getD j .non) v /\ RelV v its.toArray[j]:=by
 have h':j < its.length:=by simpa using h
 have l1:=hv.length
 have l2:=hr.length
 have hd:ds[j]? = some (ds.getD j .non):=by
  rw [List.getD_eq_getElem?_getD,List.getElem?_eq_getElem (by omega)]
  rfl
 obtain ⟨v,h1,h2⟩:=hr.get hd
 obtain ⟨u,h3,h4⟩:=hv.get h1
 refine ⟨v,h2,?_⟩
 have:its.toArray[j] = u:=by
  have e:its[j]? = some u:=h3
  rw [List.getElem?_eq_getElem h'] at e
  simpa using e
 rw [this]
 exact h4
theorem JkT (I:L2.Inv X pins σ H s):∀ (n:Nat) (A:Around) (d d':D) {v v':V} {u u':Value},d.dep <= n -> d.dep < 1000 -> d'.dep < 1000 -> Rep X.K H d v -> Rep X.K H d' v' -> RelV v u -> RelV v' u' -> A.units + n + 1 < cLine ->
  RcAt A s u u' (d.eqv d') /\ RcNeAt A s u u' (!d.eqv d') /\ EqAt A s u u' (d.eqv d'):=by
 intro n
 induction n with
 | zero=>
  intro A d d' v v' u u' hd pd pd' r r' q q' hu
  have hu0:A.units < cLine:=by omega
  cases d with
  | tup ds=>simp [D.dep] at hd
  | lst ds=>simp [D.dep] at hd
  | dct _ _ _ _=>simp [D.dep] at hd
  | exc _=>simp [D.dep] at hd
  | fn _ _=>simp [D.dep] at hd
  | obj _ _ _=>simp [D.dep] at hd
  | non=>
   cases r; cases q
   cases d' with
   | dct _ _ _ _=>simp [D.dep] at pd'
   | exc _=>simp [D.dep] at pd'
   | fn _ _=>simp [D.dep] at pd'
   | obj _ _ _=>simp [D.dep] at pd'
   | non=>cases r'; cases q'; exact ⟨RcAt.none_none,RcNeAt.none_none,EqAt.same _⟩
   | bl b=>cases r'; cases q'; exact ⟨RcAt.none_bool b,RcNeAt.none_bool b,EqAt.none_bool b⟩
   | int b=>cases r'; obtain ⟨t,rfl⟩:=q'; exact ⟨RcAt.none_int b t,RcNeAt.none_int b t,EqAt.none_int b t⟩
   | str b=>cases r'; obtain ⟨t,rfl⟩:=q'; exact ⟨RcAt.none_str b t,RcNeAt.none_str b t,EqAt.none_str b t⟩
   | tup es=>obtain ⟨a,xs,rfl,h1,_⟩:=r'; cases q'; obtain ⟨its,_,p,_⟩:=I.tuple h1; exact ⟨RcAt.none_tuple p hu0,RcNeAt.none_tuple p hu0,EqAt.none_tuple p hu0⟩
   | lst es=>obtain ⟨a,xs,rfl,h1,_⟩:=r'; cases q'; obtain ⟨its,_,p,_⟩:=I.list h1; exact ⟨RcAt.none_list p.isList hu0,RcNeAt.none_list p.isList hu0,EqAt.none_list p.isList hu0⟩
  | bl c=>
   cases r; cases q
   cases d' with
   | dct _ _ _ _=>simp [D.dep] at pd'
   | exc _=>simp [D.dep] at pd'
   | fn _ _=>simp [D.dep] at pd'
   | obj _ _ _=>simp [D.dep] at pd'
   | non=>cases r'; cases q'; exact ⟨RcAt.bool_none c,RcNeAt.bool_none c,EqAt.bool_none c⟩
   | bl b=>cases r'; cases q'; exact ⟨RcAt.bool_bool c b,RcNeAt.bool_bool c b,EqAt.bool_bool c b⟩
   | int b=>cases r'; obtain ⟨t,rfl⟩:=q'; exact ⟨RcAt.bool_int c b t,RcNeAt.bool_int c b t,EqAt.bool_int c b t⟩
   | str b=>cases r'; obtain ⟨t,rfl⟩:=q'; exact ⟨RcAt.bool_str c b t,RcNeAt.bool_str c b t,EqAt.bool_str c b t⟩
   | tup es=>obtain ⟨a,xs,rfl,h1,_⟩:=r'; cases q'; obtain ⟨its,_,p,_⟩:=I.tuple h1; exact ⟨RcAt.bool_tuple c p hu0,RcNeAt.bool_tuple c p hu0,EqAt.bool_tuple c p hu0⟩
   | lst es=>obtain ⟨a,xs,rfl,h1,_⟩:=r'; cases q'; obtain ⟨its,_,p,_⟩:=I.list h1; exact ⟨RcAt.bool_list c p.isList hu0,RcNeAt.bool_list c p.isList hu0,EqAt.bool_list c p.isList hu0⟩
  | int c=>
   cases r; obtain ⟨w,rfl⟩:=q
   cases d' with
   | dct _ _ _ _=>simp [D.dep] at pd'
   | exc _=>simp [D.dep] at pd'
   | fn _ _=>simp [D.dep] at pd'
   | obj _ _ _=>simp [D.dep] at pd'
   | non=>cases r'; cases q'; exact ⟨RcAt.int_none c w,RcNeAt.int_none c w,EqAt.int_none c w⟩
   | bl b=>cases r'; cases q'; exact ⟨RcAt.int_bool c w b,RcNeAt.int_bool c w b,EqAt.int_bool c w b⟩
   | int b=>cases r'; obtain ⟨t,rfl⟩:=q'; exact ⟨RcAt.int_int c w b t,RcNeAt.int_int c w b t,EqAt.int_int c w b t⟩
   | str b=>cases r'; obtain ⟨t,rfl⟩:=q'; exact ⟨RcAt.int_str c w b t,RcNeAt.int_str c w b t,EqAt.int_str c w b t⟩
   | tup es=>obtain ⟨a,xs,rfl,h1,_⟩:=r'; cases q'; obtain ⟨its,_,p,_⟩:=I.tuple h1; exact ⟨RcAt.int_tuple c w p hu0,RcNeAt.int_tuple c w p hu0,EqAt.int_tuple c w p hu0⟩
   | lst es=>obtain ⟨a,xs,rfl,h1,_⟩:=r'; cases q'; obtain ⟨its,_,p,_⟩:=I.list h1; exact ⟨RcAt.int_list c w p.isList hu0,RcNeAt.int_list c w p.isList hu0,EqAt.int_list c w p.isList hu0⟩
  | str c=>
   cases r; obtain ⟨w,rfl⟩:=q
   cases d' with
   | dct _ _ _ _=>simp [D.dep] at pd'
   | exc _=>simp [D.dep] at pd'
   | fn _ _=>simp [D.dep] at pd'
   | obj _ _ _=>simp [D.dep] at pd'
   | non=>cases r'; cases q'; exact ⟨RcAt.str_none c w,RcNeAt.str_none c w,EqAt.str_none c w⟩
   | bl b=>cases r'; cases q'; exact ⟨RcAt.str_bool c w b,RcNeAt.str_bool c w b,EqAt.str_bool c w b⟩
   | int b=>cases r'; obtain ⟨t,rfl⟩:=q'; exact ⟨RcAt.str_int c w b t,RcNeAt.str_int c w b t,EqAt.str_int c w b t⟩
   | str b=>cases r'; obtain ⟨t,rfl⟩:=q'; exact ⟨RcAt.str_str c w b t,RcNeAt.str_str c w b t,EqAt.str_str c w b t⟩
   | tup es=>obtain ⟨a,xs,rfl,h1,_⟩:=r'; cases q'; obtain ⟨its,_,p,_⟩:=I.tuple h1; exact ⟨RcAt.str_tuple c w p hu0,RcNeAt.str_tuple c w p hu0,EqAt.str_tuple c w p hu0⟩
   | lst es=>obtain ⟨a,xs,rfl,h1,_⟩:=r'; cases q'; obtain ⟨its,_,p,_⟩:=I.list h1; exact ⟨RcAt.str_list c w p.isList hu0,RcNeAt.str_list c w p.isList hu0,EqAt.str_list c w p.isList hu0⟩
 | succ n ih=>
  intro A d d' v v' u u' hd pd pd' r r' q q' hu
  have hu0:A.units < cLine:=by omega
  have flat:d.dep <= n -> _:=fun h=>ih A d d' h pd pd' r r' q q' (by omega)
  have hin:A.in1.units + n + 1 < cLine:=by show A.units + 1 + n + 1 < cLine; omega
  cases d with
  | non=>exact flat (Nat.zero_le _)
  | bl _=>exact flat (Nat.zero_le _)
  | int _=>exact flat (Nat.zero_le _)
  | str _=>exact flat (Nat.zero_le _)
  | dct _ _ _ _=>simp [D.dep] at pd
  | exc _=>simp [D.dep] at pd
  | fn _ _=>simp [D.dep] at pd
  | obj _ _ _=>simp [D.dep] at pd
  | tup ds=>
   have hds:deps ds <= n:=by simp only [D.dep] at hd; omega
   have pds:deps ds < 1000:=by simp only [D.dep] at pd; omega
   obtain ⟨a,xs,rfl,h1,h2⟩:=id r
   cases q
   obtain ⟨its,rv,p,_⟩:=I.tuple h1
   cases d' with
   | dct _ _ _ _=>simp [D.dep] at pd'
   | exc _=>simp [D.dep] at pd'
   | fn _ _=>simp [D.dep] at pd'
   | obj _ _ _=>simp [D.dep] at pd'
   | non=>cases r'; cases q'; exact ⟨RcAt.tuple_none p hu0,RcNeAt.tuple_none p hu0,EqAt.tuple_none p hu0⟩
   | bl b=>cases r'; cases q'; exact ⟨RcAt.tuple_bool b p hu0,RcNeAt.tuple_bool b p hu0,EqAt.tuple_bool b p hu0⟩
   | int b=>cases r'; obtain ⟨t,rfl⟩:=q'; exact ⟨RcAt.tuple_int b t p hu0,RcNeAt.tuple_int b t p hu0,EqAt.tuple_int b t p hu0⟩
   | str b=>cases r'; obtain ⟨t,rfl⟩:=q'; exact ⟨RcAt.tuple_str b t p hu0,RcNeAt.tuple_str b t p hu0,EqAt.tuple_str b t p hu0⟩
   | lst es=>obtain ⟨a',ys,rfl,h3,_⟩:=r'; cases q'; obtain ⟨its2,_,p2,_⟩:=I.list h3; exact ⟨RcAt.tuple_list p p2.isList hu0,RcNeAt.tuple_list p p2.isList hu0,EqAt.tuple_list p p2.isList hu0⟩
   | tup es=>
    have pes:deps es < 1000:=by simp only [D.dep] at pd'; omega
    obtain ⟨a',ys,rfl,h3,h4⟩:=id r'
    cases q'
    obtain ⟨its2,rv2,p2,_⟩:=I.tuple h3
    have l1:its.toArray.size = ds.length:=by rw [List.size_toArray,<- rv.length,h2.length]
    have l2:its2.toArray.size = es.length:=by rw [List.size_toArray,<- rv2.length,h4.length]
    have he:∀ j (g1:j < its.toArray.size) (g2:j < its2.toArray.size),EqAt A.in1 s its.toArray[j] its2.toArray[j] ((ds.getD j .non).eqv (es.getD j .non)):=fun j g1 g2=>by
     obtain ⟨w1,k1,k2⟩:=JaV I h2 rv g1
     obtain ⟨w2,k3,k4⟩:=JaV I h4 rv2 g2
     exact (ih A.in1 _ _ (JK hds) (Nat.lt_of_le_of_lt (JK (Nat.le_refl _)) pds) (Nat.lt_of_le_of_lt (JK (Nat.le_refl _)) pes) k1 k3 k2 k4 hin).2.2
    have ev:((List.range (min its.toArray.size its2.toArray.size)).all (fun j=>(ds.getD j .non).eqv (es.getD j .non)) && its.toArray.size == its2.toArray.size) = (D.tup ds).eqv (.tup es):=by
     rw [l1,l2]
     show _ = eqvs ds es
     by_cases hl:ds.length = es.length
     ·rw [JaA ds es hl,<- hl,Nat.min_self]; simp
     ·rw [Jhe hl]; simp [hl]
    have R1:=RcAt.tuples (e:=fun j=>(ds.getD j .non).eqv (es.getD j .non)) p p2 hu0 he
    have R2:=RcNeAt.tuples (e:=fun j=>(ds.getD j .non).eqv (es.getD j .non)) p p2 hu0 he
    rw [ev] at R1 R2
    refine ⟨R1,R2,?_⟩
    by_cases hab:a = a'
    ·subst hab
     have:=Rep.inj I _ pd pd' r r'
     rw [<- this,Jcj _ pd]
     exact EqAt.same _
    ·exact EqAt.of_refs hab R1
  | lst ds=>
   have hds:deps ds <= n:=by simp only [D.dep] at hd; omega
   have pds:deps ds < 1000:=by simp only [D.dep] at pd; omega
   obtain ⟨a,xs,rfl,h1,h2⟩:=id r
   cases q
   obtain ⟨its,rv,p,_⟩:=I.list h1
   have pl:=p.isList
   cases d' with
   | dct _ _ _ _=>simp [D.dep] at pd'
   | exc _=>simp [D.dep] at pd'
   | fn _ _=>simp [D.dep] at pd'
   | obj _ _ _=>simp [D.dep] at pd'
   | non=>cases r'; cases q'; exact ⟨RcAt.list_none pl hu0,RcNeAt.list_none pl hu0,EqAt.list_none pl hu0⟩
   | bl b=>cases r'; cases q'; exact ⟨RcAt.list_bool b pl hu0,RcNeAt.list_bool b pl hu0,EqAt.list_bool b pl hu0⟩
   | int b=>cases r'; obtain ⟨t,rfl⟩:=q'; exact ⟨RcAt.list_int b t pl hu0,RcNeAt.list_int b t pl hu0,EqAt.list_int b t pl hu0⟩
   | str b=>cases r'; obtain ⟨t,rfl⟩:=q'; exact ⟨RcAt.list_str b t pl hu0,RcNeAt.list_str b t pl hu0,EqAt.list_str b t pl hu0⟩
   | tup es=>obtain ⟨a',ys,rfl,h3,_⟩:=r'; cases q'; obtain ⟨its2,_,p2,_⟩:=I.tuple h3; exact ⟨RcAt.list_tuple pl p2 hu0,RcNeAt.list_tuple pl p2 hu0,EqAt.list_tuple pl p2 hu0⟩
   | lst es=>
    have pes:deps es < 1000:=by simp only [D.dep] at pd'; omega
    obtain ⟨a',ys,rfl,h3,h4⟩:=id r'
    cases q'
    obtain ⟨its2,rv2,p2,_⟩:=I.list h3
    have l1:its.toArray.size = ds.length:=by rw [List.size_toArray,<- rv.length,h2.length]
    have l2:its2.toArray.size = es.length:=by rw [List.size_toArray,<- rv2.length,h4.length]
    have R12:RcAt A s (.ref a) (.ref a') ((D.lst ds).eqv (.lst es)) /\ RcNeAt A s (.ref a) (.ref a') (!(D.lst ds).eqv (.lst es)):=by
     show RcAt A s (.ref a) (.ref a') (eqvs ds es) /\ RcNeAt A s (.ref a) (.ref a') (!eqvs ds es)
     by_cases hl:ds.length = es.length
     ·have he:∀ j (g1:j < its.toArray.size) (g2:j < its2.toArray.size),EqAt A.in1 s its.toArray[j] its2.toArray[j] ((ds.getD j .non).eqv (es.getD j .non)):=fun j g1 g2=>by
       obtain ⟨w1,k1,k2⟩:=JaV I h2 rv g1
       obtain ⟨w2,k3,k4⟩:=JaV I h4 rv2 g2
       exact (ih A.in1 _ _ (JK hds) (Nat.lt_of_le_of_lt (JK (Nat.le_refl _)) pds) (Nat.lt_of_le_of_lt (JK (Nat.le_refl _)) pes) k1 k3 k2 k4 hin).2.2
      have R1:=RcAt.lists (e:=fun j=>(ds.getD j .non).eqv (es.getD j .non)) pl p2.isList (by rw [l1,l2,hl]) hu0 he
      have R2:=RcNeAt.lists (e:=fun j=>(ds.getD j .non).eqv (es.getD j .non)) pl p2.isList (by rw [l1,l2,hl]) hu0 he
      rw [l1,<- JaA ds es hl] at R1 R2
      exact ⟨R1,R2⟩
     ·rw [Jhe hl]
      have hb:(its.toArray.size != its2.toArray.size) = true:=by rw [l1,l2]; simpa using hl
      exact ⟨RcAt.lists_lengths pl p2.isList hb hu0,RcNeAt.lists_lengths pl p2.isList hb hu0⟩
    refine ⟨R12.1,R12.2,?_⟩
    by_cases hab:a = a'
    ·subst hab
     have:=Rep.inj I _ pd pd' r r'
     rw [<- this,Jcj _ pd]
     exact EqAt.same _
    ·exact EqAt.of_refs hab R12.1
end
end Rd
namespace Rd
open PySem PySem.Spec PyProof.Rows L2 Pu
section
variable {X:Cx} {call:CallD} {c:Expr} {p:Px} {pos:Pos}
def PIf (X:Cx) (ifs:List Expr) (t:TT):Prop:=∀ (pins:List (Addr × Obj)) (s:Shared) (σ:L2.St) (H:Hp) (Q:Bool -> Hp -> Prop),L2.Inv X pins σ H s -> t σ H Q ->
 wpAny (model X.prog X.w) X.A (forIn ifs true fun c r=>if r = true then do let ok <- isTrue c X.env (eval c X.env); pure (ForInStep.yield ok) else pure (ForInStep.yield r)) (TP X pins σ Q) X.xe s
theorem JaY:PIf X [] (tT X call (.con (.bl true))):=fun pins s σ H Q I ⟨env,r,b,e,q⟩=>by
 cases e
 exact wpAny_tests_nil ⟨H,I,q H (Same.refl H)⟩
theorem Jcl (h:PT X c (tT X call p)):PIf X [c] (tT X call p):=fun pins s σ H Q I w=>wpAny_tests_one (h pins s σ H Q I w)
def TgOk (X:Cx) (tg:Expr) (nt m:Nat):Prop:=∀ (pins:List (Addr × Obj)) (s:Shared) (lo hi:L2.St) (H:Hp) (d:D) (v:V) (u:Value) (new:Fm) (Q:L2.St -> Hp -> Prop),lo.length = m -> L2.Inv X pins (lo ++ hi) H s -> RelV v u -> Rep X.K H d v -> bindT nt d = .ok new ->
 (∀ lo':L2.St,lo'.length = m -> new.length = m -> (∀ (i:Nat) (d':D),new[i]? = some (some d') -> ∃ w,lo'[i]? = some (some w) /\ Rep X.K H d' w) -> Q (lo' ++ hi) H) ->
 wpAny (model X.prog X.w) X.A (assign tg X.env u) (fun _ s'=>∃ σ' H',L2.Inv X pins σ' H' s' /\ Q σ' H') X.xe s
theorem JmW {x:Str} (hN:X.N[0]? = some x) (nd:X.N.Nodup) (hx:Loc X.env.scope x) (hf:X.fn x = true \/ X.env.scope.names.lookup x = some .local):TgOk X (.Name x pos) 0 1:=by
 intro pins s lo hi H d v u new Q hl I r rd hb h
 refine JI (pos:=pos) nd hN hx hf pins s (lo ++ hi) H v u Q I r ?_
 match lo,hl with
 | [l0],_=>
  simp only [bindT,if_true] at hb
  cases hb
  refine h [some v] rfl rfl fun i d' e=>?_
  match i,e with
  | 0,e=>simp at e; subst e; exact ⟨v,rfl,rd⟩
  | i + 1,e=>simp at e
theorem Jmq {x y:Str} {k:Nat} {p1 p2:Pos} (hN:X.N[0]? = some x) (hN2:X.N[1]? = some y) (nd:X.N.Nodup) (hx:Loc X.env.scope x) (hf:X.fn x = true \/ X.env.scope.names.lookup x = some .local)
  (hy:Loc X.env.scope y) (hg:X.fn y = true \/ X.env.scope.names.lookup y = some .local) (hc:X.calm = true):TgOk X (.Tuple [.Name x p1,.Name y p2] k pos) 2 2:=by
 intro pins s lo hi H d v u new Q hl I r rd hb h
 refine Jhp (pos:=pos) hc (JJ (JI (pos:=p1) nd hN hx hf) (JJ (JI (pos:=p2) nd hN2 hy hg) Jec)) rfl rfl pins s (lo ++ hi) H v u Q I r ?_
 unfold bindT at hb
 rw [if_neg (by decide)] at hb
 cases d with
 | tup ds=>
  dsimp only at hb
  split at hb
  ·rename_i hd
   cases hb
   obtain ⟨a,xs,rfl,hq,hr⟩:=rd
   match ds,hd with
   | [d0,d1],_=>
    obtain ⟨x0,r0,e0,h0,x1,r1,e1,h1,e2⟩:=hr
    subst e1; subst e2; subst e0
    refine ⟨a,[x0,x1],rfl,hq,rfl,x0,[x1],rfl,x1,[],rfl,rfl,?_⟩
    match lo,hl with
    | [l0,l1],_=>
     refine h [some x0,some x1] rfl rfl fun i d' e=>?_
     match i,e with
     | 0,e=>simp at e; subst e; exact ⟨x0,rfl,h0⟩
     | 1,e=>simp at e; subst e; exact ⟨x1,rfl,h1⟩
     | i + 2,e=>simp at e
  ·cases hb
 | _=>cases hb
end
theorem JcY {α:Type} {ds:List α} {i:Nat} {d:α} (h:ds[i]? = some d):ds.drop i = d :: ds.drop (i + 1):=by
 obtain ⟨h1,h2⟩:=List.getElem?_eq_some_iff.mp h
 rw [List.drop_eq_getElem_cons h1,h2]
theorem ReadOk.front {K:PySem.W.Frag} {H:Hp} {lo hi:L2.St} {new env:Fm} (hl:lo.length = new.length) (hn:∀ (i:Nat) (d':D),new[i]? = some (some d') -> ∃ w,lo[i]? = some (some w) /\ Rep K H d' w) (r:ReadOk K H hi env):ReadOk K H (lo ++ hi) (new ++ env):=by
 intro i d e
 by_cases hi':i < new.length
 ·rw [List.getElem?_append_left hi'] at e
  obtain ⟨w,h1,h2⟩:=hn i d e
  exact ⟨w,by rw [List.getElem?_append_left (by omega)]; exact h1,h2⟩
 ·rw [List.getElem?_append_right (by omega)] at e
  obtain ⟨w,h1,h2⟩:=r _ d e
  exact ⟨w,by rw [List.getElem?_append_right (by omega),hl]; exact h1,h2⟩
section
variable {X:Cx} {G:Gw} {N:List Str} {nm:List (Str × NameKind)} {ls:List Str} {sc:Scope} {call:CallD}
theorem JaQ {M:Model} {A:Around} {E:Value -> Shared -> Prop} {s:Shared} {scope:Scope} {globals:Addr} {closure:List (Str × Addr)} {qual:Str} {func:Option Addr} {code:Value} {outer:Env} {builtins:Addr} {Q:Env -> Shared -> Prop}
  (hQ:Q (newEnv scope s.heap.objs.size globals (cellsFrom (s.heap.objs.size + 1) scope.names closure) qual func code (some outer) builtins) { s with heap:=pushCells (s.heap.push { cls:=.type "dict",data:=.dict #[] }) scope.names }) :
  wpAny M A (newFunctionEnv scope globals closure [] qual func code (some outer) builtins) Q E s:=by
 simp only [newFunctionEnv,Option.isSome_some,if_true]
 refine wpAny_bind (wpAny_alloc ?_)
 refine wpAny_bind (wpAny_layCells _ (fun name kind cells=>by cases hkc:kind == NameKind.cell <;> simp [hkc]) _ _ _ _ ?_)
 rw [show ({ s with heap:=s.heap.push { cls:=.type "dict",data:=.dict #[] } }:Shared).heap.objs.size = s.heap.objs.size + 1 from Heap.size_push ..]
 rw [List.forIn_nil]
 exact wpAny_bind (wpAny_pure (wpAny_pure hQ))
def compErr (X:Cx) (Cd:Addr) (x:Value) (s':Shared):Prop:=∃ m,s'.heap.Ns Cd m /\ ∀ h',Heap.SameBut Cd s'.heap h' -> ∀ cenv:Env,cenv.locals = Cd -> wpAny (model X.prog X.w) X.A (PySem.passOn "comprehension.variables-let-go" x cenv:Sem Value) (fun _ _=>False) X.xe { s' with heap:=h' }
theorem JlM {e:Value} {env env':Env} (h:env.frame = env'.frame):noteFrame e env = noteFrame e env':=by
 unfold noteFrame PySem.frameOf
 rw [h]
theorem Jmh {pins:List (Addr × Obj)} {σ:L2.St} {H2 H':Hp} {s2 s':Shared} {fp:List Addr} {E':Value -> Shared -> Prop} {Cd a Cc:Addr} {ce:Env} (C:Ctx X G N nm) (I2:L2.Inv X pins σ H2 s2) (f2:∀ b ∈ fp,FpOk X pins H2 b) (hCd:s2.heap.objs.size <= Cd)
  (F:FlyIn (cxComp X ls sc Cd s2 H2 fp E') Cc a H' s') (hx:∀ s5,FlyIn X Cc a H' s5 -> X.xe (.ref a) s5) (hce:ce.frame = X.env.frame):notedBy (model X.prog X.w) X.A ce (compErr X Cd) (.ref a) s':=by
 obtain ⟨e0,out0,L,hst,hf0,hfx⟩:=C.fr
 obtain ⟨ps,σ',I',hxx⟩:=F.inv
 have hfr:X.A.frames = some (e0 :: out0):=by rw [<- hst]; exact I2.ok.frames
 show wpAny _ X.A (noteFrame (.ref a) ce) _ _ s'
 rw [JlM (env':=e0) (hce.trans (hfx.trans hf0.symm))]
 have hstk:∀ b,b ∉ X.fs -> b ≠ X.env.locals -> b ∉ frs X.stack:=fun b h1 h2 hm=>by
  rcases List.mem_cons.mp (I2.stkSub b hm) with e | e
  ·exact h2 e
  ·exact h1 e
 have rest:∀ (B:Heap) (a0:Value) (h1 h4:Heap),L2.Inv (cxComp X ls sc Cd s2 H2 fp E') ps σ' H' { s' with heap:=h1 } -> B.StaysIn h1 -> (∀ b u,H' b = some u -> ∃ o,B.get? b = some o) ->
   (∀ b o,s2.heap.get? b = some o -> b ∉ frs X.stack -> b ∉ fp -> (H2 b = none -> B.get? b = some o) /\ ∃ o',B.get? b = some o') -> Heap.HeldW B (e0 :: out0) a (.ref Cc) a0 L h4 -> h1.UpToSlots h4 -> compErr X Cd (.ref a) { s' with heap:=h4 }:=by
  intro B a0 h1 h4 I1 k1 tr kp held up
  obtain ⟨m,hn,_⟩:=I1.loc
  have hn4:h4.Ns Cd m:=up.ns hn
  refine ⟨m,hn4,fun h5 hsb cenv _=>?_⟩
  obtain ⟨g1,g2,g3,oe,vs,T,oT,ts,he,hcls,hd,hv1,hnT,hTe,hT,hdT,h3⟩:=held
  obtain ⟨oC,esC,epC,hoC,hdC,_⟩:=hn4
  have hfC:H' Cd = none:=I1.free
  have neC:∀ b o vs,h4.get? b = some o -> o.data = .fields vs -> b ≠ Cd:=fun b o vs hb hd' q=>by
   rw [q,hoC] at hb; cases hb; rw [hdC] at hd'; cases hd'
  have he5:=(hsb.2 a (neC a oe vs he hd)).trans he
  have hT5:=(hsb.2 T (neC T oT ts hT hdT)).trans hT
  have hsz3:3 < ts.size:=(Array.getElem?_eq_some_iff.mp h3).1
  unfold PySem.passOn
  refine wpAny_bind (wpAny_field he5 hd hv1 ?_)
  rw [if_neg (show ¬ ((Value.ref T == Value.none) = true) from by simp)]
  have go:∀ (v:Value),X.xe (.ref a) { s' with heap:=h5.update T (Obj.mapFields (·.setIfInBounds 3 v)) }:=fun v=>by
   refine hx _ ?_
   have hT6:(h5.update T (Obj.mapFields (·.setIfInBounds 3 v))).get? T = some (Obj.mapFields (·.setIfInBounds 3 v) oT):=Heap.get?_update_self _ hT5 (Obj.isFreed_of_fields (Obj.data_mapFields hdT _))
   have oth:∀ b,b ≠ T -> (h5.update T (Obj.mapFields (·.setIfInBounds 3 v))).get? b = h5.get? b:=fun b hb=>Heap.get?_update_other _ _ (Ne.symm hb)
   have B5:∀ b o,b ≠ Cd -> B.get? b = some o -> (h5.update T (Obj.mapFields (·.setIfInBounds 3 v))).get? b = some o:=fun b o hb hB=>(oth b fun q=>by rw [q,hnT] at hB; cases hB).trans ((hsb.2 b hb).trans (g1 b o hB))
   have hB':∀ {b o},b ≠ Cd -> B.get? b = some o -> (PySem.W.hideAll B [Cd]).get? b = some o:=fun hb hB=>PySem.W.hideAll_get _ hB (by simpa using hb)
   have ofB':∀ {b o},(PySem.W.hideAll B [Cd]).get? b = some o -> b ≠ Cd /\ B.get? b = some o:=fun {b o} q=>⟨fun z=>(by
    rw [PySem.W.hideAll_none [Cd] (by simp [z])] at q
    cases q),PySem.W.of_hideAll _ q⟩
   have noB':∀ {b},B.get? b = none -> (PySem.W.hideAll B [Cd]).get? b = none:=fun {b} q=>by
    cases z:(PySem.W.hideAll B [Cd]).get? b with
    | none=>rfl
    | some o=>rw [(ofB' z).2] at q; cases q
   have old:∀ b o,s2.heap.get? b = some o -> b ≠ Cd:=fun b o q=>Nat.ne_of_lt (Nat.lt_of_lt_of_le (Heap.lt_size q) hCd)
   have frm:∀ b o,h1.get? b = some o -> (∀ vs,o.data ≠ .fields vs) -> b ≠ Cd -> ∃ sl,(h5.update T (Obj.mapFields (·.setIfInBounds 3 v))).get? b = some { o with slots:=sl }:=fun b o hb hnf hne=>by
    obtain ⟨sl,e4⟩:=up b o hb hnf
    exact ⟨sl,(oth b fun q=>by
     rw [q,hT] at e4
     injection e4 with e4
     exact hnf ts (by have:=congrArg Obj.data e4; rw [hdT] at this; exact this.symm)).trans ((hsb.2 b hne).trans e4)⟩
   have U1:Un (frs X.stack) fp H2 H' s2.heap h1:=I1.base
   have fo:∀ b ∈ frs X.stack,∃ o,s2.heap.get? b = some o /\ ∀ vs,o.data ≠ .fields vs:=fun b hb=>(I2.stack.mem hb).2
   have nfp:∀ b ∈ frs X.stack,b ∉ fp:=fun b hb hm=>by
    obtain ⟨_,q1,q2,_⟩:=f2 b hm
    exact hstk b q2 q1 hb
   have slt:∀ b o,s2.heap.get? b = some o -> H2 b = none -> b ∈ frs X.stack -> ∃ sl,(h5.update T (Obj.mapFields (·.setIfInBounds 3 v))).get? b = some { o with slots:=sl }:=fun b o hb h0 hf=>by
    obtain ⟨sl,e1⟩:=U1.slot b o hb h0 hf (nfp b hf)
    obtain ⟨o',ho',hnf⟩:=fo b hf
    rw [hb] at ho'; cases ho'
    obtain ⟨sl2,e2⟩:=frm b _ e1 hnf (old b o hb)
    exact ⟨sl2,e2⟩
   have un:Un (frs X.stack) fp H2 H' s2.heap (h5.update T (Obj.mapFields (·.setIfInBounds 3 v))):=by
    refine ⟨fun b o hb h0 hf hp=>B5 b o (old b o hb) ((kp b o hb hf hp).1 h0),fun b o hb h0 hf hp=>slt b o hb h0 hf,U1.free,fun b o hb hp=>?_,U1.tups,U1.frzs,U1.tbls⟩
    by_cases hf:b ∈ frs X.stack
    ·obtain ⟨sl,e⟩:=slt b o hb (I2.stkFree b hf) hf
     exact ⟨_,e⟩
    ·obtain ⟨o',e⟩:=(kp b o hb hf hp).2
     exact ⟨o',B5 b o' (old b o hb) e⟩
   have trB:∀ b u,H' b = some u -> ∃ o,(PySem.W.hideAll B [Cd]).get? b = some o:=fun b u e=>by
    obtain ⟨o,q⟩:=tr b u e
    exact ⟨o,hB' (fun z=>by rw [z,hfC] at e; cases e) q⟩
   have st6:(PySem.W.hideAll B [Cd]).StaysIn (h5.update T (Obj.mapFields (·.setIfInBounds 3 v))):=fun b o q=>B5 b o (ofB' q).1 (ofB' q).2
   have ff:(h5.update T (Obj.mapFields (·.setIfInBounds 3 v))).FunFrames (PySem.W.hideAll B [Cd]) X.stack:=by
    have base:∀ l:List Env,(∀ b ∈ frs l,b ∈ frs X.stack) -> h4.FunFrames B l -> (h5.update T (Obj.mapFields (·.setIfInBounds 3 v))).FunFrames (PySem.W.hideAll B [Cd]) l:=by
     intro l
     induction l with
     | nil=>intro _ _; trivial
     | cons en r ih=>
      intro hs hl
      obtain ⟨hk,⟨L1,o1,hf1,hn1,ho1,hd1⟩,hr⟩:=hl
      have hL1:L1 ∈ frs X.stack:=hs L1 (by unfold frs; rw [List.filterMap_cons,hf1]; exact List.mem_cons_self)
      obtain ⟨o2,ho2,_⟩:=fo L1 hL1
      refine ⟨hk,⟨L1,o1,hf1,noB' hn1,?_,hd1⟩,ih (fun b hb=>hs b (by unfold frs; rw [List.filterMap_cons,hf1]; exact List.mem_cons_of_mem _ hb)) hr⟩
      exact (oth L1 fun q=>by rw [q,hT] at ho1; cases ho1; exact hd1 ts hdT).trans ((hsb.2 L1 (old L1 o2 ho2)).trans ho1)
    rw [hst]
    exact base (e0 :: out0) (fun b hb=>by rw [hst]; exact hb) g3
   refine ⟨⟨pins,σ,I2.call' (ch:=fp) I1.os un (HOk.onB I1.hok trB (fun b o q=>k1 b o (ofB' q).2) st6) I1.bare (fun b hb=>?_),.inr ⟨PySem.W.hideAll B [Cd],a0,v,⟨st6,noB' g2,ff,oe,vs,T,_,_,(oth a (Ne.symm hTe)).trans he5,hcls,hd,hv1,noB' hnT,hTe,hT6,Obj.data_mapFields hdT _,by simp [hsz3]⟩,trB,fun b o hb hn hnx=>?_,fun p hp=>?_⟩⟩⟩
   ·obtain ⟨_,f1',f2',f3',f4',f5'⟩:=f2 b hb
    exact ⟨f3',f1',f4',f5'⟩
   ·have nfs:b ∉ X.fs:=fun z=>hn (by
     rcases I2.ok.stk with e | ⟨e,_⟩
     ·rw [e]; exact z
     ·rw [e]
      obtain ⟨e',he',hf'⟩:=List.mem_filterMap.mp z
      exact List.mem_filterMap.mpr ⟨e',.tail _ he',hf'⟩)
    have np:b ∉ fp:=fun z=>by
     rcases (f2 b z).2.2.2.1 with q | q
     ·exact hnx q
     ·exact absurd (Nat.lt_of_lt_of_le (Heap.lt_size hb) q) (Nat.lt_irrefl _)
    obtain ⟨o2,ho2⟩:=I2.base.there b o hb hnx
    have q:=kp b o2 ho2 hn np
    refine ⟨fun h0=>?_,?_⟩
    ·have e2:=I2.base.keep b o hb h0 nfs hnx
     rw [ho2] at e2; cases e2
     exact hB' (old b _ ho2) (q.1 (I2.base.free b _ hb h0 hnx))
    ·obtain ⟨o',e⟩:=q.2
     exact ⟨o',hB' (old b _ ho2) e⟩
   ·obtain ⟨q1,q2,q3,q4,_⟩:=I2.pin p (List.mem_append_left _ hp)
    exact hB' (old _ _ q1) ((kp p.1 p.2 q1 (hstk p.1 q4 q3) fun z=>(f2 _ z).2.2.2.2.2 p (List.mem_append_left _ hp) rfl).1 q2)
  have fly:wpAny (model X.prog X.w) X.A (do setFlight (.ref a) cenv.frame; throw (.ref a):Sem Value) (fun _ _=>False) X.xe { s' with heap:=h5 }:=by
   refine wpAny_bind ?_
   unfold setFlight
   refine wpAny_bind (wpAny_field he5 hd hv1 ?_)
   rw [if_pos (by simp)]
   exact wpAny_setField hT5 hdT hsz3 (wpAny_throw (go _))
  first
   | exact wpAny_bind (wpAny_pure fly)
   | exact fly
 rcases hxx with ⟨h,vs,hm,Ih⟩ | ⟨B,a0,flv,fl,tr,kp,_⟩
 ·have hk:(PySem.W.hideAll h (frs (e0 :: out0))).StaysIn h:=fun b o q=>PySem.W.of_hideAll _ q
  have hin:∀ env ∈ (e0 :: out0),∀ b,env.frame = some b -> b ∈ frs (e0 :: out0):=fun env he b hb=>List.mem_filterMap.mpr ⟨env,he,hb⟩
  have hs0:(cxComp X ls sc Cd s2 H2 fp E').stack = e0 :: out0:=hst
  have hstk2:h.FunFrames X.base (e0 :: out0):=by rw [<- hs0]; exact Ih.stack
  refine JdX hfr hf0 hk (PySem.W.funFrames_hide hstk2 hin) hm fun h' a0 held up=>?_
  refine rest _ a0 h h' Ih hk (fun b u e=>?_) (fun b o hb hn hp=>?_) held ((Heap.UpToSlots.of_keeps hm.keeps).trans up)
  ·obtain ⟨o,ho⟩:=HOk.has Ih.hok e
   exact ⟨o,PySem.W.hideAll_get _ ho fun z=>by rw [Ih.stkFree b (by rw [hs0]; exact z)] at e; cases e⟩
  ·rw [hst] at hn
   refine ⟨fun h0=>PySem.W.hideAll_get _ (Ih.base.keep b o hb h0 (by show b ∉ frs X.stack; rw [hst]; exact hn) hp) hn,?_⟩
   obtain ⟨o',e⟩:=Ih.base.there b o hb hp
   exact ⟨o',PySem.W.hideAll_get _ e hn⟩
 ·have fl':HeldA B (e0 :: out0) a (.ref Cc) a0 flv s'.heap:=by rw [<- hst]; exact fl
  exact JcL hfr hf0 fl' fun h' held up=>rest B a0 s'.heap h' I' fl.1 tr kp held up
theorem JcK {elt tg iter:Expr} {ifs:List Expr} {pos:Pos} {nt:Nat} {ps pc pe:Px} {pins:List (Addr × Obj)} {s:Shared} {σ:L2.St} {H:Hp} {env:Fm} {Gd:List D -> Prop} {RR0:Value -> Addr -> Result -> Shared -> Prop} (C:Ctx X G N nm) (h:ScOk N nm ls sc) (hsrc:PI X tg iter (tW X call ps))
  (htg:∀ X',Ctx X' G (ls ++ hidN ls N) sc.names -> TgOk X' tg nt ls.length) (hif:∀ X',Ctx X' G (ls ++ hidN ls N) sc.names -> PIf X' ifs (tT X' call pc)) (helt:∀ X',Ctx X' G (ls ++ hidN ls N) sc.names -> PE X' elt (tI X' call pe))
  (I:L2.Inv X pins σ H s) (r:ReadOk X.K H σ env) (hw:tW X call ps σ H fun J H'=>∃ ds,Walk X.K J H' ds /\ Same H H' /\ ds.length <= lineD /\ (compL nt (evD call pc) (evD call pe) env ds).Good Gd (XW X H))
  (hok:∀ (acc:Addr) (ys:List V) (Hf:Hp) (Cd:Addr) (m:Str -> Option Value) (s4:Shared) (dn:List D),L2.Inv X pins σ Hf s4 -> s4.heap.Ns Cd m -> FpOk X pins Hf Cd -> Hf acc = some (.lst ys) -> H acc = none -> Same H Hf -> Reps X.K Hf dn ys -> Gd dn -> RR0 (.ref acc) Cd (.ok .next) s4) (hRR:∀ acc Cd x s',compErr X Cd x s' -> RR0 acc Cd (.error x) s') :
  wpAny (model X.prog X.w) X.A (eval iter X.env) (fun x s₁=>wpAny (model X.prog X.w) X.A (pyIter x) (fun it s₂=>wpAny (model X.prog X.w) X.A (newList []) (fun acc s₃=>
   wpAny (model X.prog X.w) X.A (newFunctionEnv sc X.env.globals (closL X.env.cells sc.names []) [] X.env.qual none .none (some X.env)) (fun cenv s₄=>
    codeAny (model X.prog X.w) X.A (.compStart (.ListComp elt [⟨tg,iter,ifs,0⟩] sc pos) 0 it acc { cenv with scope:=relabel sc X.env }) (RR0 acc cenv.locals) s₄) X.xe s₃) X.xe s₂) X.xe s₁) X.xe s:=by
 refine thn (hsrc pins s σ H _ I hw) fun v s1 h1=>thn h1 fun itv s2 h2=>?_
 obtain ⟨it,fp,tn,J,H2,rfl,I2,T,st2,f2,ds,hW,s02,hz,hG2⟩:=h2
 refine wpAny_newObj_type (JaQ ?_)
 dsimp only
 generalize hH2:s2.heap.push { cls:=.type "list",dict:=none,data:=.seq ([]:List Value).toArray } = Hh
 obtain ⟨h₁,hh₁⟩:∃ h₁,h₁ = pushCells (Hh.push { cls:=.type "dict",data:=.dict #[] }) sc.names:=⟨_,rfl⟩
 rw [<- hh₁]
 have hns₁:h₁.Ns Hh.objs.size (fun _=>none):=hh₁ ▸ (Heap.Ns.new Hh (.type "dict")).keeps (pushCells_keeps _ _)
 have hC:Hh.objs.size = s2.heap.objs.size + 1:=by rw [<- hH2,Heap.size_push]
 have hlt:∀ b o,s2.heap.get? b = some o -> b < s2.heap.objs.size:=fun b o e=>Heap.lt_size e
 have old:∀ b o,s2.heap.get? b = some o -> h₁.get? b = some o:=fun b o e=>by
  rw [hh₁]
  exact pushCells_keeps _ _ _ _ (Heap.get?_push_of_some _ (hH2 ▸ Heap.get?_push_of_some _ e))
 have hacc:h₁.get? s2.heap.objs.size = some (listObj [] 0):=by
  rw [hh₁]
  exact pushCells_keeps _ _ _ _ (Heap.get?_push_of_some _ (hH2 ▸ Heap.get?_push_size _ rfl))
 have fpl:∀ b ∈ fp,b < s2.heap.objs.size:=fun b hb=>by
  obtain ⟨o,e,_⟩:=T.obj _ _ st2 b hb
  exact hlt b o e
 let RR:Result -> Shared -> Prop:=RR0 (.ref s2.heap.objs.size) Hh.objs.size
 let ce:Env:=compEnvC sc (cellsFrom (Hh.objs.size + 1) sc.names (closL X.env.cells sc.names [])) Hh.objs.size X.env
 let E':Value -> Shared -> Prop:=notedBy (model X.prog X.w) X.A ce fun e s'=>RR (.error e) s'
 let X':Cx:=cxComp X ls sc Hh.objs.size s2 H2 fp E'
 have C':Ctx X' G (ls ++ hidN ls N) sc.names:=JjB C h
 have I4:L2.Inv X' [(s2.heap.objs.size,listObj [] 0)] (List.replicate ls.length none ++ σ) H2 { s2 with heap:=h₁ }:=
  JiG C h hh₁ (Heap.size_push ..) I2 f2 (fun b hb=>let ⟨o,e,_⟩:=T.obj _ _ st2 b hb; ⟨o,e⟩) hC hns₁ old hacc
 have sub:∀ x c,(closL X.env.cells sc.names []).lookup x = some c -> X.env.cells.lookup x = some c:=Jao sc.names [] fun x c e=>by simp at e
 have stat:∀ {H':Hp} {o:Obj},(∀ b ∈ fp,H' b = none) -> ∀ b ∈ fp,FpOk X' [(s2.heap.objs.size,o)] H' b:=fun {H' o} hn b hb=>by
  have hb':=fpl b hb
  refine ⟨hn b hb,?_,I4.ok.exfs b hb,.inl hb,(I4.ok.exf b hb).2,fun p hp=>?_⟩
  ·show b ≠ Hh.objs.size
   rw [hC]; exact Nat.ne_of_lt (Nat.lt_succ_of_lt hb')
  ·have e:p = (s2.heap.objs.size,o):=by simpa [X',cxComp] using hp
   rw [e]
   exact Nat.ne_of_gt hb'
 have loop:∀ s₃:Shared,s₃ = { s2 with heap:=h₁ } ->
   codeAny (model X.prog X.w) X.A (.compLoop (.ListComp elt [⟨tg,iter,ifs,0⟩] sc pos) 0 (.ref it) (.ref s2.heap.objs.size) ce) RR s₃:=by
  rintro s₃ rfl
  refine JcE (fun n s'=>∃ (i:Nat) (lo:L2.St) (H':Hp) (its:List Value) (k:Nat) (ys:List V) (done:List D),L2.Inv X' [(s2.heap.objs.size,listObj its k)] (lo ++ σ) H' s' /\ lo.length = ls.length /\ tn i s'.heap /\ (∀ b ∈ fp,H' b = none) /\
   Same H2 H' /\ Vals ys its /\ Reps X.K H' done ys /\ done.length <= i /\ i <= ds.length /\ n = ds.length - i /\ (compL nt (evD call pc) (evD call pe) env (ds.drop i)).Good (fun rest=>Gd (done ++ rest)) (XW X H)) ?_ ds.length
   ⟨0,List.replicate ls.length none,H2,[],0,[],[],I4,List.length_replicate,T.keep _ _ _ st2 (fun b hb o e=>old b o e),fun b hb=>(f2 b hb).1,Same.refl _,.nil,rfl,Nat.le_refl _,Nat.zero_le _,rfl,by simpa using hG2⟩
  rintro n s' ⟨i,lo,H',its,k,ys,done,I',hlo,st,fr,sm,hv,hr,hdl,hil,rfl,hg⟩
  by_cases hi:i < ds.length
  ·have go:=(hW H' sm).1 i hi
   refine thn (T.item X' rfl rfl rfl C'.calm i _ s' (lo ++ σ) H' X'.xe I' (stat fr) st go) fun r' s4 ⟨u,hr',h4⟩=>?_
   subst hr'
   refine thn h4 fun _ s5 ⟨x,H5,I5,r5,y5,st5,fr5⟩=>?_
   obtain ⟨s45,d,hd,rd⟩:=(hW H' sm).2.2 i x H5 hi y5
   rw [JcY hd] at hg
   simp only [compL] at hg
   replace hg:=Rs.good_bind.mp hg
   cases hb:bindT nt d with
   | stuck=>rw [hb] at hg; exact hg.elim
   | ex c=>exact (JeI hb).elim
   | ok new=>
    rw [hb] at hg
    replace hg:=Rs.good_bind.mp hg
    have I5p:=I5.pinned (stat fr5) (T.obj _ _ st5)
    refine thn (htg X' C' _ s5 lo σ H5 d x u new (fun σ' H''=>∃ lo':L2.St,σ' = lo' ++ σ /\ lo'.length = ls.length /\ H5 = H'' /\ ReadOk X.K H5 (lo' ++ σ) (new ++ env)) hlo I5p r5 rd hb fun lo' l1 l2 hn=>
     ⟨lo',rfl,l1,rfl,ReadOk.front (l1.trans l2.symm) hn (r.mono ((s02.trans sm).trans s45))⟩) fun _ s6 ⟨σ6,H6,I6,lo',e6,l6,e7,rd6⟩=>?_
    subst e6; subst e7
    refine thn (hif X' C' _ s6 _ _ (fun b H7=>Same H5 H7 /\ (if b = true then ((evD call pe (new ++ env)).bind fun y=>(compL nt (evD call pc) (evD call pe) env (ds.drop (i + 1))).bind fun ys=>Rs.ok (y :: ys)).Good (fun rest=>Gd (done ++ rest)) (XW X H)
     else (compL nt (evD call pc) (evD call pe) env (ds.drop (i + 1))).Good (fun rest=>Gd (done ++ rest)) (XW X H))) I6 ⟨new ++ env,rd6,Rs.good_calm (hg.mono (fun d' hd'=>?_) fun c z=>z)⟩) fun ok s7 ⟨H7,I7,s57,q7⟩=>?_
    ·cases d' with
     | bl b=>
      refine ⟨b,rfl,fun H7 s57=>⟨s57,?_⟩⟩
      cases b with
      | true=>exact iteT hd'
      | false=>exact iteF hd'
     | _=>exact hd'.elim
    have tn7:∀ {s9:Shared} {H9:Hp} {o:Obj} {σ9:L2.St},L2.Inv X' ([(s2.heap.objs.size,o)] ++ pinsAt fp s5.heap) σ9 H9 s9 -> tn (i + 1) s9.heap /\ ∀ b ∈ fp,H9 b = none:=fun {s9 H9 o σ9} I9=>by
     refine ⟨T.keep _ _ _ st5 fun b hb o' e=>(I9.pin (b,o') (List.mem_append_right _ (List.mem_append_right _ (JU hb e)))).1,fun b hb=>?_⟩
     obtain ⟨o',e,_⟩:=T.obj _ _ st5 b hb
     exact (I9.pin (b,o') (List.mem_append_right _ (List.mem_append_right _ (JU hb e)))).2.1
    cases ok with
    | false=>
     rw [if_neg Bool.false_ne_true]
     have q7':(compL nt (evD call pc) (evD call pe) env (ds.drop (i + 1))).Good (fun rest=>Gd (done ++ rest)) (XW X H):=by
      rw [if_neg Bool.false_ne_true] at q7; exact q7
     obtain ⟨t7,f7⟩:=tn7 I7
     exact ⟨ds.length - (i + 1),by omega,i + 1,lo',H7,its,k,ys,done,I7.unpinned,l6,t7,f7,(sm.trans s45).trans s57,hv,hr.mono (s45.trans s57),by omega,by omega,rfl,q7'⟩
    | true=>
     rw [if_pos rfl]
     rw [if_pos rfl] at q7
     replace q7:=Rs.good_bind.mp q7
     refine thn (helt X' C' _ s7 _ _ (fun v8 H8=>Same H7 H8 /\ ∃ y,Rep X.K H8 y v8 /\ (compL nt (evD call pc) (evD call pe) env (ds.drop (i + 1))).Good (fun rest=>Gd (done ++ (y :: rest))) (XW X H)) I7
      ⟨new ++ env,rd6.mono s57,q7.mono (fun y hy v8 H8 s78 r8=>⟨s78,y,r8,Rs.good_bind.mp hy⟩) fun c z C0 H0 hm0 s0 a0 s0' F0=>wpAny_mono (Jmh C I2 f2 (by rw [hC]; exact Nat.le_succ _) F0 (fun s5 F5=>z C0 H0 hm0 (((s02.trans sm).trans s45).trans (s57.trans s0)) a0 s5 F5) rfl) (fun _ _ e=>hRR _ _ _ _ e) fun _ _ e=>hRR _ _ _ _ e⟩) fun u8 s8 ⟨v8,H8,I8,r8,s78,y,ry,q8⟩=>?_
     have e8:=(I8.pin (s2.heap.objs.size,listObj its k) (by simp)).1
     have hlen:its.length <= lineD:=by
      have h1:=hv.length
      have h2:=hr.length
      omega
     refine call_meets F.slot_list_append ⟨_,e8,rfl⟩ F.entry_list_append (F.args_list_append_2 _ _) (PySem.list_append s2.heap.objs.size its.toArray k u8 (by rw [List.size_toArray,sizeLine_eq]; exact hlen)) ⟨e8,?_⟩
     have q9:=PySem.IsL.update e8 (fun x=>x.push u8)
     have hpush:its.toArray.push u8 = (its ++ [u8]).toArray:=by simp
     rw [hpush] at q9
     obtain ⟨k9,q9⟩:∃ k9,(s8.heap.update s2.heap.objs.size (Obj.mapSeq fun x=>x.push u8)).get? s2.heap.objs.size = some (listObj (its ++ [u8]) k9):=⟨_,q9⟩
     have nacc:=(I8.pin (s2.heap.objs.size,listObj its k) (by simp)).2
     have I8u:L2.Inv X' (pinsAt fp s5.heap) (lo' ++ σ) H8 s8:=I8.pins_of fun p hp=>I8.pin p (List.mem_append_right _ (List.mem_append_right _ hp))
     have I9:L2.Inv X' (pinsAt fp s5.heap) (lo' ++ σ) H8 { s8 with heap:=s8.heap.update s2.heap.objs.size (Obj.mapSeq fun x=>x.push u8),toks:=s8.toks }:=by
      refine I8u.turned (it:=s2.heap.objs.size) (fun b o hb e=>(Heap.get?_update_other s8.heap _ (Ne.symm hb)).trans e) nacc.1 nacc.2.1 (.inr (Nat.le_refl _)) (fun x c e=>?_) (fun p hp=>?_)
      ·rcases JdT _ _ _ _ _ e with q | ⟨q,_⟩
       ·obtain ⟨v0,o0,h0,_⟩:=I2.cell x c (sub x c q)
        exact Nat.ne_of_lt (hlt c o0 h0)
       ·rw [hC] at q; exact Nat.ne_of_gt (Nat.lt_of_lt_of_le (Nat.lt_succ_of_lt (Nat.lt_succ_self _)) q)
      ·have hp':p ∈ pinsAt fp s5.heap:=by simpa [X',cxComp] using hp
       exact Nat.ne_of_lt (fpl _ (Jdr hp').1)
     have I10:L2.Inv X' ([(s2.heap.objs.size,listObj (its ++ [u8]) k9)] ++ pinsAt fp s5.heap) (lo' ++ σ) H8 { s8 with heap:=s8.heap.update s2.heap.objs.size (Obj.mapSeq fun x=>x.push u8),toks:=s8.toks }:=
      I9.pins_of fun p hp=>(List.mem_append.mp hp).elim (fun z=>by
       have e:p = (s2.heap.objs.size,listObj (its ++ [u8]) k9):=by simpa using z
       subst e
       exact ⟨q9,nacc.1,nacc.2.1,nacc.2.2.1,fun v z=>(by cases z)⟩) fun z=>I9.pin p (List.mem_append_right _ z)
     obtain ⟨t10,f10⟩:=tn7 I10
     refine ⟨ds.length - (i + 1),by omega,i + 1,lo',H8,its ++ [u8],_,ys ++ [v8],done ++ [y],I10.unpinned,l6,t10,f10,((sm.trans s45).trans s57).trans s78,hv.append (.cons r8 .nil),(hr.mono ((s45.trans s57).trans s78)).append (Reps.one ry),?_,by omega,rfl,?_⟩
     ·rw [List.length_append,List.length_singleton]; omega
     ·simpa using q8
  ·-- the end
   have hie:i = ds.length:=by omega
   subst hie
   rw [List.drop_length] at hg
   simp only [compL] at hg
   have hg':Gd done:=by
    have hg2:Gd (done ++ []):=hg
    simpa using hg2
   refine thn (T.done X' rfl rfl rfl C'.calm ds.length _ s' (lo ++ σ) H' X'.xe I' (stat fr) st (hW H' sm).2.1) fun r' s4 ⟨hr',I5⟩=>?_
   subst hr'
   obtain ⟨m',hn',_⟩:=I5.loc
   have nacc:=I5.pin (s2.heap.objs.size,listObj its k) (by simp)
   have hlen:ys.length <= sizeLine:=by
    have h2:=hr.length
    rw [sizeLine_eq]
    have h3:lineD = 16777216:=rfl
    omega
   have HC:H' Hh.objs.size = none:=I5.free
   have okH:HOk X.prog X.w (upd H' s2.heap.objs.size (.lst ys)) s4.heap:=by
    intro b o e
    by_cases hb:b = s2.heap.objs.size
    ·subst hb
     rw [Jd] at e
     cases e
     exact ⟨hlen,its,k,hv,nacc.1⟩
    ·rw [Jb hb] at e
     have ok5:ObjOk X.prog X.w H' s4.heap b o:=I5.hok b o e
     refine ok5.stay (fun c w' hc q=>q) (fun c q=>?_) (fun c xs q=>?_) fun c o' u' q=>?_
     ·by_cases hcb:c = s2.heap.objs.size
      ·subst hcb; rw [nacc.2.1] at q; cases q
      ·rw [Jb hcb]; exact q
     ·by_cases hcb:c = s2.heap.objs.size
      ·subst hcb; rw [nacc.2.1] at q; cases q
      ·rw [Jb hcb]; exact q
     ·by_cases hcb:c = s2.heap.objs.size
      ·subst hcb; rw [nacc.2.1] at q; cases q
      ·rw [Jb hcb]; exact q
   have un:Un (frs X.stack) fp H2 (upd H' s2.heap.objs.size (.lst ys)) s2.heap s4.heap:=by
    have U:Un (frs X.stack) fp H2 H' s2.heap s4.heap:=I5.base
    have ne1:∀ b o,s2.heap.get? b = some o -> b ≠ s2.heap.objs.size:=fun b o e=>Nat.ne_of_lt (hlt b o e)
    have neH:∀ b u,H2 b = some u -> b ≠ s2.heap.objs.size:=fun b u e z=>by rw [z,I2.hok.fresh (Nat.le_refl _)] at e; cases e
    refine ⟨U.keep,U.slot,fun b o e n h2=>?_,U.there,fun b xs e=>?_,fun b o u e=>?_,fun b ps' e=>?_⟩
    ·rw [Jb (ne1 b o e)]; exact U.free b o e n h2
    ·rw [Jb (neH b _ e)]; exact U.tups b xs e
    ·rw [Jb (neH b _ e)]; exact U.frzs b o u e
    ·rw [Jb (neH b _ e)]; exact U.tbls b ps' e
   have If:L2.Inv X pins σ (upd H' s2.heap.objs.size (.lst ys)) s4:=I2.call' (ch:=fp) I5.os un okH I5.bare fun b hb=>by
    obtain ⟨_,f1',f2',f3',f4',f5'⟩:=f2 b hb
    exact ⟨f3',f1',f4',f5'⟩
   have sH:Same H' (upd H' s2.heap.objs.size (.lst ys)):=fun b o e=>by
    rw [Jb (Jc e nacc.2.1)]; exact e
   have hCn:upd H' s2.heap.objs.size (.lst ys) Hh.objs.size = none:=by
    rw [Jb (by rw [hC]; exact Nat.succ_ne_self _)]; exact HC
   exact hok s2.heap.objs.size ys _ Hh.objs.size m' s4 done If hn' (I2.fpOk (by rw [hC]; exact Nat.le_succ _) hCn) Jd (s02.free (I2.hok.fresh (Nat.le_refl _))) ((s02.trans sm).trans sH) (hr.mono sH) hg'
 exact codeAny_compStart_list (loop _ rfl) (T.self _ 0 _ _ _ (T.keep _ _ _ st2 fun b hb o e=>old b o e) (loop _ rfl))
theorem JcG {nt:Nat} {ps pc pe:Px} {σ:L2.St} {H:Hp} {env:Fm} {Q:VK} (r:ReadOk X.K H σ env) (hG:(evD call (.comp nt ps pc pe) env).Good (OutF X H Q) (XW X H)) :
  tW X call ps σ H fun J H'=>∃ ds,Walk X.K J H' ds /\ Same H H' /\ ds.length <= lineD /\ (compL nt (evD call pc) (evD call pe) env ds).Good (fun ys=>OutF X H Q (.lst ys)) (XW X H):=by
 simp only [evD] at hG
 refine ⟨env,r,(Rs.good_bind.mp hG).imp fun d hd=>?_⟩
 cases d with
 | lst ds=>
  simp only [D.asL,Rs.bind_ok] at hd
  split at hd
  ·rename_i hz
   exact ⟨ds,rfl,fun J H' s1 w _=>⟨ds,w,s1,hz,Rs.good_bind.mp hd⟩⟩
  ·exact hd.elim
 | _=>exact hd.elim
theorem Jko {pins:List (Addr × Obj)} {s:Shared} {σ:L2.St} {H:Hp} {Cd:Addr} {h':Heap} (I:L2.Inv X pins σ H s) (f:FpOk X pins H Cd) (hsb:Heap.SameBut Cd s.heap h'):L2.Inv X pins σ H { s with heap:=h' }:=by
 obtain ⟨f0,f1,f2,f3,f4,f5⟩:=f
 exact I.turned (t':=s.toks) (fun b o hb e=>(hsb.2 b hb).trans e) f0 f1 f3 f4 f5
theorem Jgw {elt tg iter:Expr} {ifs:List Expr} {pos:Pos} {nt:Nat} {ps pc pe:Px} (C:Ctx X G N nm) (h:ScOk N nm ls sc) (hsrc:PI X tg iter (tW X call ps))
  (htg:∀ X',Ctx X' G (ls ++ hidN ls N) sc.names -> TgOk X' tg nt ls.length) (hif:∀ X',Ctx X' G (ls ++ hidN ls N) sc.names -> PIf X' ifs (tT X' call pc)) (helt:∀ X',Ctx X' G (ls ++ hidN ls N) sc.names -> PE X' elt (tI X' call pe))
  (hs:∀ x,foldedSetIterable iter X.env x = pure x:=by intro _; rfl):PE X (.ListComp elt [⟨tg,iter,ifs,0⟩] sc pos) (tF X call (.comp nt ps pc pe)):=by
 intro pins s σ H Q I ⟨env,r,hG⟩
 rw [eval_ListComp]
 refine wpAny_comprehension_free (use:=none) rfl hs (JbL (h.cells C I.ok)) h.kind (fun y hy e=>((h.at hy).2.2 e).1) (JcK (RR0:=fun acc C=>compPost (model X.prog X.w) X.A X.xe none (EP X pins σ Q) acc C) C h hsrc htg hif helt I r (JcG r hG) ?_ fun _ _ _ _ e=>e)
 intro acc ys Hf Cd m s4 dn If hn f ha h0 sm rs hg
 refine ⟨m,hn,fun h' hsb=>⟨.ref acc,Hf,Jko If f hsb,rfl,?_⟩⟩
 obtain ⟨ds',e',hQ⟩:=hg
 cases e'
 exact hQ acc ys Hf sm h0 ha rs
theorem JbN {elt tg iter:Expr} {ifs:List Expr} {pos spos py:Pos} {nt i:Nat} {y:Str} {ps pc pe:Px} (C:Ctx X G N nm) (h:ScOk N nm ls sc) (hi:X.N[i]? = some y) (hy:locB nm y = true) (hsrc:PI X tg iter (tW X call ps))
  (htg:∀ X',Ctx X' G (ls ++ hidN ls N) sc.names -> TgOk X' tg nt ls.length) (hif:∀ X',Ctx X' G (ls ++ hidN ls N) sc.names -> PIf X' ifs (tT X' call pc)) (helt:∀ X',Ctx X' G (ls ++ hidN ls N) sc.names -> PE X' elt (tI X' call pe))
  (hs:∀ x,foldedSetIterable iter X.env x = pure x:=by intro _; rfl):PS X (.Assign [.Name y py] (.ListComp elt [⟨tg,iter,ifs,0⟩] sc pos) spos) (tAsg (tF X call (.comp nt ps pc pe)) (gName i)):=by
 obtain ⟨hloc,hfn⟩:=C.sto y hy
 have nd:X.N.Nodup:=by rw [C.hN]; exact C.nd
 have sw:∃ b,swapsWith (.ListComp elt [⟨tg,iter,ifs,0⟩] sc pos) (some (.Name y py)) spos.line X.env = pure b:=⟨_,rfl⟩
 obtain ⟨b,sw⟩:=sw
 cases b with
 | false=>exact Jbd nd hi hloc (Jgw C h hsrc htg hif helt hs) sw hfn
 | true=>
  intro pins s σ H D I ⟨env,r,hG⟩
  rw [exec_Assign_Name_used _ _ _ _ sw]
  refine wpAny_bind (wpAny_standAt (wpAny_bind ?_))
  show wpAny _ X.A (do let _ <- comprehension (.ListComp elt [⟨tg,iter,ifs,0⟩] sc pos) sc X.env _ (newList []) false (eval iter X.env) (some (assign (.Name y py) X.env))) _ _ s
  refine wpAny_bind (wpAny_mono (wpAny_comprehension_free (use:=some (assign (.Name y py) X.env)) (Q:=fun _ s'=>SP X pins D .next s') rfl hs (JbL (h.cells C I.ok)) h.kind (fun y hy e=>((h.at hy).2.2 e).1)
   (JcK (RR0:=fun acc C=>compPost (model X.prog X.w) X.A X.xe (some (assign (.Name y py) X.env)) (fun _ s'=>SP X pins D .next s') acc C) C h hsrc htg hif helt I r (JcG r hG) ?_ fun _ _ _ _ e=>e)) (fun _ s' hq=>wpAny_pure (wpAny_pure hq)) fun _ _ e=>e)
  intro acc ys Hf Cd m s4 dn If hn f ha h0 sm rs hg
  show wpAny _ X.A (assign (.Name y py) X.env (.ref acc)) _ _ s4
  refine wpAny_assign_Name (JcO If nd hi hloc (v:=.ref acc) rfl (fun s5 I5 ⟨ad,sb,had⟩=>?_) hfn)
  have hne:Cd ≠ ad:=by
   rcases had with q | q
   ·rw [q]; exact f.2.1
   ·exact Ne.symm (f.2.2.2.2.1 y ad q)
  refine ⟨m,hn.sameBut sb hne,fun h' hsb=>⟨_,Hf,Jko I5 f hsb,?_⟩⟩
  obtain ⟨ds',e',hQ⟩:=hg
  cases e'
  exact hQ acc ys Hf sm h0 ha rs
end
end Rd
namespace Rd
open PySem PySem.Spec PyProof.Rows L2 Pu
open PySem.SeqAt (EqAt RcAt RcNeAt)
theorem JhP (l b:Addr) (items items2:Array Value) (n n2:Nat) (dd dd2:Option Addr) (sl sl2:Array (Option Value)) (hc0:items.size + items2.size <= sizeLine) :
  Meets (Builtin.«list.__add__» ⟨[.ref l,.ref b],[]⟩) (fun _ R s=>s.heap.get? l = some { cls:=.type "list",dict:=dd,data:=.seq items n,slots:=sl } /\ s.heap.get? b = some { cls:=.type "list",dict:=dd2,data:=.seq items2 n2,slots:=sl2 } /\ R (.ok (.ret (Value.ref s.heap.objs.size))) { s with heap:=s.heap.push { cls:=Value.type "list",data:=Data.seq (items ++ items2) },toks:=s.toks }):=
 .of_wp fun prog w A R s h=>by
  obtain ⟨hp,g,d,tk,os⟩:=s; obtain ⟨hl,hb,h⟩:=h; have f1:=AutoSeq1.idx_int; have f2:=AutoSeq1.sub_tuple_tuple; have f3:=AutoSeq1.sub_list_list; have f4:=AutoSeq1.sub_tuple_list; have f5:=AutoSeq1.sub_list_tuple
  wp_walk using AutoSeq1.wpAny_loadPart' hl,AutoSeq1.wpAny_loadPart' hb; exact ⟨_,rfl,h⟩
theorem Jij {prog:Program} {w:World} {A:Around} {E:Value -> Shared -> Prop} {s:Shared} {l b:Addr} {items items2:Array Value} {Q:Value -> Shared -> Prop} (hl:s.heap.IsList l items) (hb:s.heap.IsList b items2)
  (h:Q (.ref s.heap.objs.size) { s with heap:=s.heap.push { cls:=.type "list",data:=.seq (items ++ items2) } }) (hsz:items.size + items2.size <= sizeLine):wpAny (model prog w) A (binaryOp .Add (.ref l) (.ref b)) Q E s:=by
 obtain ⟨⟨cls,dd,data,sl⟩,ho,hc,n,hd⟩:=id hl
 obtain ⟨⟨cls2,dd2,data2,sl2⟩,ho2,hc2,n2,hd2⟩:=id hb
 simp only at hc hd hc2 hd2
 subst hc hd hc2 hd2
 exact concat_meets ⟨_,ho,rfl⟩ ⟨_,ho2,rfl⟩ PySem.noFill_list_add PySem.seq_list_add F.slot_list_add F.entry_list_add (F.args_list_add_2 _ _) (JhP l b items items2 n n2 dd dd2 sl sl2 hsz) ⟨ho,ho2,h⟩
theorem Jjj {prog:Program} {w:World} {A:Around} {E:Value -> Shared -> Prop} {s:Shared} {t b:Addr} {ws:List Value} {Q:Value -> Shared -> Prop} (ht:IsTup s.heap t ([]:List Value).toArray) (hb:IsTup s.heap b ws.toArray)
  (h:Q (.ref b) s):wpAny (model prog w) A (binaryOp .Add (.ref t) (.ref b)) Q E s:=by
 obtain ⟨⟨cls,dd,data,sl⟩,ho,hc,n,hd⟩:=id ht
 obtain ⟨⟨cls2,dd2,data2,sl2⟩,ho2,hc2,n2,hd2⟩:=id hb
 simp only at hc hd hc2 hd2
 subst hc hd hc2 hd2
 exact concat_meets ⟨_,ho,rfl⟩ ⟨_,ho2,rfl⟩ noFill_tuple_add seq_tuple_add PySem.F.slot_tuple_add PySem.F.entry_tuple_add (PySem.F.args_tuple_add_2 _ _)
   (tuple_addW0 t b ([]:List Value).toArray ws.toArray n n2 dd dd2 sl sl2 (by simp)) ⟨ho,ho2,h⟩
section
variable {X:Cx}
theorem JbA {n:Nat} (h:n <= lineD):n <= sizeLine:=by rw [sizeLine_eq]; exact h
theorem Jlf:OpR X (binaryOp .Add) (rD2 X .add):=by
 intro pins s σ H x y v u Q I rx ry ⟨dx,dy,r1,r2,h⟩
 cases dx <;> cases dy <;> first
  | exact (show False from h).elim
  | exact Jno pins s σ H x y v u Q I rx ry ⟨_,_,r1,r2,Out.now h rfl⟩
  | skip
 ·simp only [op2] at h
  split at h
  ·rename_i hz
   exact JfC pins s σ H x y v u Q I rx ry ⟨_,_,r1,r2,JbA hz,Out.now h rfl⟩
  ·exact h.elim
 ·rename_i ds es
  simp only [op2] at h
  split at h
  ·rename_i hz
   obtain ⟨a,xs,rfl,h1,h2⟩:=r1
   obtain ⟨b,ys,rfl,h3,h4⟩:=r2
   have l1:=h2.length
   have l2:=h4.length
   by_cases hx:xs = []
   ·subst hx
    have hd:ds = []:=h2.nil_iff.mp rfl
    subst hd
    cases rx
    cases ry
    obtain ⟨its,q1,p1,_⟩:=I.tuple h1
    obtain ⟨its2,q2,p2,_⟩:=I.tuple h3
    cases q1
    exact Jjj p1 p2 ⟨.ref b,H,I,rfl,Out.now h ⟨b,ys,rfl,h3,h4⟩⟩
   ·refine Jlh pins s σ H _ _ v u Q I rx ry ⟨a,b,xs,ys,rfl,rfl,h1,h3,hx,JbA (by rw [l1,l2]; exact hz),fun hy=>?_,fun hy p hp=>?_⟩
    ·have he:es = []:=h4.nil_iff.mp hy
     subst he
     exact Out.now h ⟨a,xs,rfl,h1,by simpa using h2⟩
    ·obtain ⟨s1,q1⟩:=JdW (K:=X.K) hp (h2.append h4)
     exact h _ _ s1 q1
  ·exact h.elim
 ·rename_i ds es
  simp only [op2] at h
  split at h
  ·rename_i hz
   obtain ⟨a,xs,rfl,h1,h2⟩:=r1
   obtain ⟨b,ys,rfl,h3,h4⟩:=r2
   have l1:=h2.length
   have l2:=h4.length
   cases rx
   cases ry
   obtain ⟨its,q1,p1,_⟩:=I.list h1
   obtain ⟨its2,q2,p2,_⟩:=I.list h3
   have l3:=q1.length
   have l4:=q2.length
   have hz':xs.length + ys.length <= sizeLine:=JbA (by rw [l1,l2]; exact hz)
   refine Jij p1.isList p2.isList ?_ (by rw [List.size_toArray,List.size_toArray]; omega)
   have ea:its.toArray ++ its2.toArray = (its ++ its2).toArray:=by simp
   rw [ea]
   obtain ⟨s1,w1⟩:=JfK (K:=X.K) (xs:=xs ++ ys) I.fresh (h2.append h4)
   exact ⟨.ref _,_,I.lnew (t':=s.toks) (q1.append q2) (by rw [List.length_append]; exact hz'),rfl,h _ _ s1 w1⟩
  ·exact h.elim
theorem JlU:OpR X (binaryOp .Sub) (rD2 X .sub):=by
 intro pins s σ H x y v u Q I rx ry ⟨dx,dy,r1,r2,h⟩
 cases dx <;> cases dy <;> first
  | exact (show False from h).elim
  | exact JnU pins s σ H x y v u Q I rx ry ⟨_,_,r1,r2,Out.now h rfl⟩
theorem Jfh {α:Type} (xs:Array α):∀ (n:Nat) (acc:Array α),((List.replicate n xs).foldl (· ++ ·) acc).size = acc.size + n * xs.size
 | 0,acc=>by simp
 | n + 1,acc=>by
  rw [List.replicate_succ,List.foldl_cons,Jfh xs n,Array.size_append,Nat.succ_mul]
  omega
theorem JlG:OpR X (binaryOp .Mult) (rD2 X .mul):=by
 intro pins s σ H x y v u Q I rx ry ⟨dx,dy,r1,r2,h⟩
 cases dx <;> cases dy <;> first
  | exact (show False from h).elim
  | skip
 ·rename_i i j
  simp only [op2] at h
  split at h
  ·rename_i hz
   refine Joa pins s σ H x y v u Q I rx ry ⟨i,j,r1,r2,?_,Out.now h rfl⟩
   simp only [smallI,Bool.or_eq_true,Bool.and_eq_true,decide_eq_true_eq] at hz
   exact hz
  ·exact h.elim
 ·rename_i i j
  simp only [op2] at h
  split at h
  ·rename_i hz
   obtain ⟨h1,h2,h3,h4⟩:=hz
   have e1:x = V.str i:=r1
   have e2:y = V.int j:=r2
   subst e1 e2
   obtain ⟨t,rfl⟩:=rx
   obtain ⟨t',rfl⟩:=ry
   have hm:i.length * j.toNat <= 1000 * 1000:=Nat.mul_le_mul h4 (by omega)
   have hk:PySem.Builtin.Str.tooLong (i.length * j.toNat) = false:=by
    unfold PySem.Builtin.Str.tooLong
    rw [decide_eq_false]
    have:=sizeLine_eq
    omega
   have hg:(j == 1 || i.length == 0) = false:=by
    rw [Bool.or_eq_false_iff,beq_eq_false_iff_ne,beq_eq_false_iff_ne]
    omega
   refine P.mul_str ?_ (fun _ _ q=>?_) (fun _ _=>hk) ?_
   ·rw [decide_eq_false (by omega),decide_eq_false (by omega)]; rfl
   ·have:(1000:Int) <= (2 ^ 63 - 1) / j:=by
     refine (Int.le_ediv_iff_mul_le (by omega)).mpr ?_
     omega
    omega
   ·rw [if_neg (by omega),if_neg (by rw [hg]; exact Bool.false_ne_true)]
    refine ⟨?_,⟨.str (repS i j),H,I.tok _,⟨_,rfl⟩,Out.now h rfl⟩⟩
    have e:(⟨(List.replicate j.toNat i.cps).foldl (· ++ ·) #[]⟩:Str).length = i.length * j.toNat:=by
     show ((List.replicate j.toNat i.cps).foldl (· ++ ·) #[]).size = _
     rw [Jfh,Nat.mul_comm]
     simp [Str.length]
    rw [e]
    have:=sizeLine_eq
    omega
  ·exact h.elim
theorem Jis:OpR X (binaryOp .FloorDiv) (rD2 X .fdiv):=by
 intro pins s σ H x y v u Q I rx ry ⟨dx,dy,r1,r2,h⟩
 cases dx <;> cases dy <;> first
  | exact (show False from h).elim
  | skip
 rename_i i j
 simp only [op2] at h
 split at h
 ·rename_i hz
  exact JkN pins s σ H x y v u Q I rx ry ⟨i,j,r1,r2,hz,Out.now h rfl⟩
 ·exact h.elim
theorem Jmc:OpR X (binaryOp .Mod) (rD2 X .mod):=by
 intro pins s σ H x y v u Q I rx ry ⟨dx,dy,r1,r2,h⟩
 cases dx <;> cases dy <;> first
  | exact (show False from h).elim
  | skip
 rename_i i j
 simp only [op2] at h
 split at h
 ·rename_i hz
  exact JmC pins s σ H x y v u Q I rx ry ⟨i,j,r1,r2,hz,Out.now h rfl⟩
 ·exact h.elim
theorem Jkc (hu:X.A.units + 64 < cLine):OpR X (compareOp .Eq) (rD2 X .eq):=by
 intro pins s σ H x y v u Q I rx ry ⟨dx,dy,r1,r2,h⟩
 have h':(if (okDep dx && okDep dy) = true then Rs.ok (.bl (dx.eqv dy)) else .stuck:Rs D).Good (Out X H Q) (XW X H):=by
  cases dx <;> cases dy <;> exact h
 split at h'
 ·rename_i hd
  simp only [okDep,Bool.and_eq_true,decide_eq_true_eq] at hd
  exact (JkT I 20 X.A dx dy hd.1 (by omega) (by omega) r1 r2 rx ry (by omega)).1 X.prog X.w X.xe _ ⟨.bl _,H,I,rfl,Out.now h' rfl⟩
 ·exact h'.elim
theorem JjY (hu:X.A.units + 64 < cLine):OpR X (compareOp .NotEq) (rD2 X .ne):=by
 intro pins s σ H x y v u Q I rx ry ⟨dx,dy,r1,r2,h⟩
 have h':(if (okDep dx && okDep dy) = true then Rs.ok (.bl (!dx.eqv dy)) else .stuck:Rs D).Good (Out X H Q) (XW X H):=by
  cases dx <;> cases dy <;> exact h
 split at h'
 ·rename_i hd
  simp only [okDep,Bool.and_eq_true,decide_eq_true_eq] at hd
  exact (JkT I 20 X.A dx dy hd.1 (by omega) (by omega) r1 r2 rx ry (by omega)).2.1 X.prog X.w X.xe _ ⟨.bl _,H,I,rfl,Out.now h' rfl⟩
 ·exact h'.elim
theorem JjP:OpR X (compareOp .Lt) (rD2 X .lt):=by
 intro pins s σ H x y v u Q I rx ry ⟨dx,dy,r1,r2,h⟩
 cases dx <;> cases dy <;> first
  | exact (show False from h).elim
  | exact op_lt pins s σ H x y v u Q I rx ry ⟨_,_,r1,r2,Out.now h rfl⟩
  | exact JhG pins s σ H x y v u Q I rx ry ⟨_,_,r1,r2,Out.now h rfl⟩
theorem Joe:OpR X (compareOp .LtE) (rD2 X .le):=by
 intro pins s σ H x y v u Q I rx ry ⟨dx,dy,r1,r2,h⟩
 cases dx <;> cases dy <;> first
  | exact (show False from h).elim
  | exact op_le pins s σ H x y v u Q I rx ry ⟨_,_,r1,r2,Out.now h rfl⟩
theorem JhZ:OpR X (compareOp .Gt) (rD2 X .gt):=by
 intro pins s σ H x y v u Q I rx ry ⟨dx,dy,r1,r2,h⟩
 cases dx <;> cases dy <;> first
  | exact (show False from h).elim
  | exact op_gt pins s σ H x y v u Q I rx ry ⟨_,_,r1,r2,Out.now h rfl⟩
theorem JgH:OpR X (compareOp .GtE) (rD2 X .ge):=by
 intro pins s σ H x y v u Q I rx ry ⟨dx,dy,r1,r2,h⟩
 cases dx <;> cases dy <;> first
  | exact (show False from h).elim
  | exact op_ge pins s σ H x y v u Q I rx ry ⟨_,_,r1,r2,Out.now h rfl⟩
theorem Jgp:∀ {ds:List D} {j:Nat} {d:D},ds[j]? = some d -> d.dep <= deps ds
 | [],_,_,h=>by simp at h
 | a :: ds,0,d,h=>by simp at h; subst h; simp only [deps]; omega
 | a :: ds,j + 1,d,h=>by
  have:=Jgp (ds:=ds) (j:=j) (d:=d) (by simpa using h)
  simp only [deps]; omega
open Classical in
def eU (ds:List D) (its:List Value) (d:D) (y:Value):Bool:=decide (∃ (j:Nat) (d':D),its[j]? = some y /\ ds[j]? = some d' /\ d'.eqv d = true)
open Classical in
theorem JnC {pins:List (Addr × Obj)} {σ:L2.St} {H:Hp} {s:Shared} (I:L2.Inv X pins σ H s) {ds:List D} {xs:List V} {its:List Value} (hr:Reps X.K H ds xs) (hv:Vals xs its) (pd:deps ds < 1000) {d d':D} {j:Nat} {y:Value} (h1:its[j]? = some y) (h2:ds[j]? = some d') :
  eU ds its d y = d'.eqv d:=by
 have same:∀ k d'',its[k]? = some y -> ds[k]? = some d'' -> d'' = d':=fun k d'' k1 k2=>by
  obtain ⟨x1,e1,r1⟩:=hr.get h2
  obtain ⟨x2,e2,r2⟩:=hr.get k2
  obtain ⟨u1,f1,w1⟩:=hv.get e1
  obtain ⟨u2,f2,w2⟩:=hv.get e2
  rw [h1] at f1; cases f1
  rw [k1] at f2; cases f2
  have:=w1.inj w2
  subst this
  exact Rep.inj I _ (Nat.lt_of_le_of_lt (Jgp k2) pd) (Nat.lt_of_le_of_lt (Jgp h2) pd) r2 r1
 cases e:d'.eqv d with
 | true=>exact decide_eq_true ⟨j,d',h1,h2,e⟩
 | false=>
  refine decide_eq_false ?_
  rintro ⟨k,d'',k1,k2,k3⟩
  rw [same k d'' k1 k2,e] at k3
  cases k3
open Classical in
theorem Jfb {pins:List (Addr × Obj)} {σ:L2.St} {H:Hp} {s:Shared} (I:L2.Inv X pins σ H s) {ds:List D} {xs:List V} {its:List Value} (hr:Reps X.K H ds xs) (hv:Vals xs its) (pd:deps ds < 1000) (d:D):its.toArray.any (eU ds its d) = ds.any fun d'=>d'.eqv d:=by
 have l1:=hv.length
 have l2:=hr.length
 rw [show its.toArray.any (eU ds its d) = its.any (eU ds its d) by simp,Bool.eq_iff_iff,List.any_eq_true,List.any_eq_true]
 constructor
 ·rintro ⟨y,hy,e⟩
  obtain ⟨j,d',_,k2,k3⟩:=of_decide_eq_true e
  exact ⟨d',List.mem_of_getElem? k2,k3⟩
 ·rintro ⟨d',hd,e⟩
  obtain ⟨j,hj⟩:=List.getElem?_of_mem hd
  have hjl:j < its.length:=by
   have:=(List.getElem?_eq_some_iff.mp hj).1
   omega
  refine ⟨its[j],List.getElem_mem hjl,?_⟩
  rw [JnC I hr hv pd (List.getElem?_eq_getElem hjl) hj]
  exact e
theorem Jfq {pins:List (Addr × Obj)} {σ:L2.St} {H:Hp} {s:Shared} (hu:X.A.units + 64 < cLine) (I:L2.Inv X pins σ H s) {ds:List D} {xs:List V} {its:List Value} (hr:Reps X.K H ds xs) (hv:Vals xs its) {d:D} {x:V} {v:Value} (rd:Rep X.K H d x) (rx:RelV x v) (hd:deps ds <= 20) (hdd:d.dep <= 20) :
  ∀ y,y ∈ its.toArray -> EqAt X.A.in1 s y v (eU ds its d y):=by
 intro y hy
 have hy':y ∈ its:=by simpa using hy
 obtain ⟨j,hj⟩:=List.getElem?_of_mem hy'
 have l1:=hv.length
 have l2:=hr.length
 have hjl:=(List.getElem?_eq_some_iff.mp hj).1
 have hdj:ds[j]? = some (ds.getD j .non):=by
  rw [List.getD_eq_getElem?_getD,List.getElem?_eq_getElem (by omega)]
  rfl
 rw [JnC I hr hv (by omega) hj hdj]
 obtain ⟨x1,e1,r1⟩:=hr.get hdj
 obtain ⟨u1,f1,w1⟩:=hv.get e1
 rw [hj] at f1
 cases f1
 exact (JkT I 20 X.A.in1 _ d (JK hd) (Nat.lt_of_le_of_lt (JK hd) (by decide)) (by omega) r1 rd w1 rx (by show X.A.units + 1 + 20 + 1 < cLine; omega)).2.2
theorem Jfd {x:Str} (h:x.cps = #[x.cps.getD 0 0]):x = ⟨#[x.cps.getD 0 0]⟩:=by
 obtain ⟨c⟩:=x
 show Str.mk c = _
 rw [<- h]
theorem Jkq (hu:X.A.units + 64 < cLine):OpR X (compareOp .In) (rD2 X .isin):=by
 intro pins s σ H x y v u Q I rx ry ⟨dx,dy,r1,r2,h⟩
 cases dy with
 | str z=>
  cases dx with
  | str w=>
   simp only [op2] at h
   split at h
   ·rename_i hc
    refine Jhl pins s σ H x y v u Q I rx ry ⟨w,z,r1,r2,?_⟩
    have e:=PySem.StrLaws.found_one z (w.cps.getD 0 0)
    rw [<- Jfd hc] at e
    rw [e]
    exact Out.now h rfl
   ·exact h.elim
  | _=>exact (show False from h).elim
 | tup ds=>
  have h':(if (okDep (.tup ds) && okDep dx) = true then Rs.ok (.bl (ds.any fun d=>d.eqv dx)) else .stuck:Rs D).Good (Out X H Q) (XW X H):=by
   cases dx <;> exact h
  split at h'
  ·rename_i hc
   have hc':deps ds + 1 <= 20 /\ dx.dep <= 20:=by simpa [okDep,D.dep] using hc
   obtain ⟨a,xs,rfl,h1,h2⟩:=r2
   cases ry
   obtain ⟨its,rv,p,_⟩:=I.tuple h1
   refine SeqAt.in_tupleAt (eU ds its dx) p (Jfq hu I h2 rv r1 rx (by omega) hc'.2) ⟨.bl _,H,I,rfl,?_⟩
   rw [Jfb I h2 rv (by omega)]
   exact Out.now h' rfl
  ·exact h'.elim
 | lst ds=>
  have h':(if (okDep (.lst ds) && okDep dx) = true then Rs.ok (.bl (ds.any fun d=>d.eqv dx)) else .stuck:Rs D).Good (Out X H Q) (XW X H):=by
   cases dx <;> exact h
  split at h'
  ·rename_i hc
   have hc':deps ds + 1 <= 20 /\ dx.dep <= 20:=by simpa [okDep,D.dep] using hc
   obtain ⟨a,xs,rfl,h1,h2⟩:=r2
   cases ry
   obtain ⟨its,rv,p,_⟩:=I.list h1
   refine SeqAt.in_listAt (eU ds its dx) p.isList (Jfq hu I h2 rv r1 rx (by omega) hc'.2) ⟨.bl _,H,I,rfl,?_⟩
   rw [Jfb I h2 rv (by omega)]
   exact Out.now h' rfl
  ·exact h'.elim
 | _=>cases dx <;> exact (show False from h).elim
theorem Jgt (hu:X.A.units + 64 < cLine):OpR X (compareOp .NotIn) (rD2 X .notin):=by
 intro pins s σ H x y v u Q I rx ry ⟨dx,dy,r1,r2,h⟩
 cases dy with
 | str z=>
  cases dx with
  | str w=>
   simp only [op2] at h
   split at h
   ·rename_i hc
    refine JcQ pins s σ H x y v u Q I rx ry ⟨w,z,r1,r2,?_⟩
    have e:=PySem.StrLaws.found_one z (w.cps.getD 0 0)
    rw [<- Jfd hc] at e
    rw [e]
    exact Out.now h rfl
   ·exact h.elim
  | _=>exact (show False from h).elim
 | tup ds=>
  have h':(if (okDep (.tup ds) && okDep dx) = true then Rs.ok (.bl (!ds.any fun d=>d.eqv dx)) else .stuck:Rs D).Good (Out X H Q) (XW X H):=by
   cases dx <;> exact h
  split at h'
  ·rename_i hc
   have hc':deps ds + 1 <= 20 /\ dx.dep <= 20:=by simpa [okDep,D.dep] using hc
   obtain ⟨a,xs,rfl,h1,h2⟩:=r2
   cases ry
   obtain ⟨its,rv,p,_⟩:=I.tuple h1
   refine SeqAt.notIn_tupleAt (eU ds its dx) p (Jfq hu I h2 rv r1 rx (by omega) hc'.2) ⟨.bl _,H,I,rfl,?_⟩
   rw [Jfb I h2 rv (by omega)]
   exact Out.now h' rfl
  ·exact h'.elim
 | lst ds=>
  have h':(if (okDep (.lst ds) && okDep dx) = true then Rs.ok (.bl (!ds.any fun d=>d.eqv dx)) else .stuck:Rs D).Good (Out X H Q) (XW X H):=by
   cases dx <;> exact h
  split at h'
  ·rename_i hc
   have hc':deps ds + 1 <= 20 /\ dx.dep <= 20:=by simpa [okDep,D.dep] using hc
   obtain ⟨a,xs,rfl,h1,h2⟩:=r2
   cases ry
   obtain ⟨its,rv,p,_⟩:=I.list h1
   refine SeqAt.notIn_listAt (eU ds its dx) p.isList (Jfq hu I h2 rv r1 rx (by omega) hc'.2) ⟨.bl _,H,I,rfl,?_⟩
   rw [Jfb I h2 rv (by omega)]
   exact Out.now h' rfl
  ·exact h'.elim
 | _=>cases dx <;> exact (show False from h).elim
theorem Jgz {K:PySem.W.Frag} {H:Hp} {ds:List D} {xs:List V} {i:Int} {d:D} (hr:Reps K H ds xs) (h:atD ds i = some d):∃ x,atI xs i = some x /\ Rep K H d x:=by
 have l:=hr.length
 unfold atD at h
 unfold atI
 have e:L2.ixN xs.length i = ixn ds.length i:=by rw [l]; rfl
 rw [e]
 cases q:ixn ds.length i with
 | none=>rw [q] at h; cases h
 | some j=>
  rw [q] at h
  exact hr.get h
theorem JmE:IxR X (rD2 X .idx):=by
 intro value slice pins s σ H x y v u Q I rx ry ⟨dx,dy,r1,r2,h⟩ hs
 cases dx <;> cases dy <;> first
  | exact (show False from h).elim
  | skip
 ·rename_i z i
  simp only [op2] at h
  split at h
  ·rename_i hz
   cases q:atD z.cps.toList i with
   | none=>rw [q] at h; exact h.elim
   | some c=>
    rw [q] at h
    exact Jnx value slice pins s σ H x y v u Q I rx ry ⟨z,i,c,r1,r2,JbA hz,q,Out.now h rfl⟩ hs
  ·exact h.elim
 ·rename_i ds i
  simp only [op2] at h
  cases q:atD ds i with
  | none=>rw [q] at h; exact h.elim
  | some d=>
   rw [q] at h
   obtain ⟨a,xs,rfl,h1,h2⟩:=r1
   obtain ⟨w,k1,k2⟩:=Jgz h2 q
   exact Jnm value slice pins s σ H _ y v u Q I rx ry ⟨a,xs,i,w,rfl,r2,h1,k1,Out.now h k2⟩ hs
 ·rename_i ds i
  simp only [op2] at h
  cases q:atD ds i with
  | none=>rw [q] at h; exact h.elim
  | some d=>
   rw [q] at h
   obtain ⟨a,xs,rfl,h1,h2⟩:=r1
   obtain ⟨w,k1,k2⟩:=Jgz h2 q
   exact JkG value slice pins s σ H _ y v u Q I rx ry ⟨a,xs,i,w,rfl,r2,h1,k1,Out.now h k2⟩ hs
end
end Rd
namespace HT
open PySem PyProof.Rows
theorem JaG {prog:Program} {w:World} {A:Around} {E:Value -> Shared -> Prop} {s:Shared} {t sl:Addr} {items:Array Value} {vl vu:Value} {lo hi:Option Int} {Q:Value -> Shared -> Prop} (ht:IsTup s.heap t items) (hs:s.heap.IsSliceOf sl vl vu .none) (pl:IsPart vl lo) (pu:IsPart vu hi)
  (hw:sIx items.size 0 lo = 0 /\ sIx items.size items.size hi = items.size) (h:Q (.ref t) s):wpAny (model prog w) A (getItem (.ref t) (.ref sl)) Q E s:=by
 obtain ⟨os,hos,hcs,hds⟩:=id hs
 have hTs:s.TypeIs (.ref sl) "slice":=⟨os,hos,hcs⟩
 unfold getItem
 try with_reducible refine wpAny_holding ?_
 first | refine wpAny_bind (wpAny_pure ?_) | skip
 refine wpAny_bind (wpAny_sequenceKey ht.typeIs (by decide) ?_)
 refine wpAny_bind (wpAny_callSpecial?_slot (name:=Str.ofString "__getitem__") ht.typeIs PyProof.Rows.slot_tuple_getitem
  (wpAny_call_entry PyProof.Rows.slot_tuple_getitem ht.typeIs entry_tuple_getitem ?_ (args_tuple_getitem _ _)))
 show wpAny _ _ (Builtin.Tuple.tupleItemsOf (.ref t) >>= _) _ _ s
 refine wpAny_bind (tupleItemsOf_ ht ?_)
 refine wpAny_bind (wpAny_typeOf hTs ?_)
 rw [if_pos (by decide)]
 refine wpAny_bind (JL hs pl pu ?_)
 have hyes:(((sIx items.size 0 lo:Nat):Int) == 0 && (1:Int) == 1 && (sIx items.size items.size hi - sIx items.size 0 lo) == items.size) = true:=by
  rw [hw.1,hw.2]; simp
 show wpAny _ _ (if (((sIx items.size 0 lo:Nat):Int) == 0 && (1:Int) == 1 && (sIx items.size items.size hi - sIx items.size 0 lo) == items.size) = true then _ else _) _ _ s
 rw [if_pos hyes]
 have hex:∀ {Q':Bool -> Shared -> Prop},Q' true s -> wpAny (model prog w) A.in1 (Builtin.Tuple.tupleIsExact (.ref t)) Q' E s:=fun {Q'} q=>by
  obtain ⟨o,ho,hc,n,hd⟩:=id ht
  unfold Builtin.Tuple.tupleIsExact
  refine wpAny_bind (wpAny_typeOf (T:="tuple") ⟨o,ho,hc⟩ ?_)
  exact wpAny_pure q
 first
  | exact wpAny_bind (hex (by simp only [if_true]; exact wpAny_bind (wpAny_rule (wpAny_pure ⟨_,rfl,wpAny_pure h⟩))))
  | exact wpAny_bind (wpAny_of_in1 (hex (by simp only [if_true]; exact wpAny_bind (wpAny_rule (wpAny_pure ⟨_,rfl,wpAny_pure h⟩)))))
end HT
namespace Rd
open PySem PySem.Spec PyProof.Rows L2 Pu
open PySem.SeqAt (EqAt RcAt RcNeAt)
section
variable {X:Cx} {call:CallD} {e a b c:Expr} {es:List Expr} {p pa pb pc pl ph:Px} {pos:Pos}
theorem JbW {K:PySem.W.Frag} {H:Hp} {ds:List D} {xs:List V} {lo hi:Option Int} (hr:Reps K H ds xs):Reps K H (cutD ds lo hi) (cutV xs lo hi):=by
 have l:=hr.length
 have e:cutV xs lo hi = (xs.drop (six ds.length 0 lo)).take (six ds.length ds.length hi - six ds.length 0 lo):=by
  unfold cutV; rw [l]; rfl
 rw [e]
 exact (hr.drop _).take _
theorem JhM {v:Value} {o:Option Int} (h:IsPart v o):∃ p:Option (Int × Tok),v = partValue p /\ p.map (·.1) = o:=by
 cases h with
 | none=>exact ⟨none,rfl,rfl⟩
 | int i t=>exact ⟨some (i,t),rfl,rfl⟩
theorem JcB (n:Nat) (lo hi:Option Int):Builtin.Str.strSliceIndices lo hi 1 n = (List.range (six n n hi - six n 0 lo)).map fun k=>six n 0 lo + k:=by
 have key:∀ a b:Nat,sliceRange (a:Int) (b:Int) 1 = (List.range (b - a)).map fun k=>a + k:=fun a b=>by
  unfold sliceRange
  have e:(if (a:Int) < b then ((b:Int) - a + 1 - 1) / 1 else 0).toNat = b - a:=by
   split <;> simp <;> omega
  simp only [show (1:Int) > 0 by decide,if_true,e]
  refine List.map_congr_left fun k _=>?_
  omega
 have clip:∀ (v:Option Int) (d:Nat),(match v with | none=>(d:Int) | some i=>max 0 (min (if i < 0 then i + (n:Int) else i) n)) = ((six n d v:Nat):Int):=fun v d=>by
  cases v with
  | none=>rfl
  | some i=>
   unfold six
   by_cases h:i < 0
   ·simp only [h,if_true]; omega
   ·simp only [h,if_false]; omega
 rw [<- key]
 have h1:=clip lo 0
 have h2:=clip hi n
 unfold Builtin.Str.strSliceIndices
 simp only [show (1:Int) > 0 by decide,if_true]
 rw [<- h1,<- h2]
 cases lo <;> cases hi <;> rfl
theorem Jgn (x:Str) (lo hi:Option Int):Txt.slice x lo hi = mkS (Pu.cutD x.cps.toList lo hi):=by
 have hn:x.cps.toList.length = x.length:=Array.length_toList
 have hle:∀ (d:Nat),d <= x.length -> ∀ v,six x.length d v <= x.length:=fun d hd v=>by
  cases v with
  | none=>exact hd
  | some i=>
   simp only [six]
   split <;> omega
 have ha:=hle 0 (Nat.zero_le _) lo
 have hb:=hle x.length (Nat.le_refl _) hi
 have hc:(Builtin.Str.strSliceIndices lo hi 1 x.length).filterMap (x.cps[·]?) = Pu.cutD x.cps.toList lo hi:=by
  rw [JcB,Pu.cutD,hn]
  have:=StrLaws.picks x.cps.toList (six x.length x.length hi - six x.length 0 lo)
  generalize six x.length 0 lo = a at ha this
  generalize six x.length x.length hi = b at hb this
  by_cases h:a <= b
  ·rw [<- this a (by omega)]
   simp only [Array.getElem?_toList]
  ·rw [show b - a = 0 by omega]; simp
 unfold Txt.slice
 rw [hc]
 split
 ·rename_i h
  have hl:(Builtin.Str.strSliceIndices lo hi 1 x.length).length = x.length:=by simpa using h
  rw [JcB,List.length_map,List.length_range] at hl
  have h0:six x.length 0 lo = 0:=by omega
  have h1:six x.length x.length hi = x.length:=by omega
  rw [Pu.cutD,hn,h0,h1,Nat.sub_zero,List.drop_zero,<- hn,List.take_length]
  rfl
 ·rfl
def rSlD (X:Cx):V -> Option Int -> Option Int -> Hp -> VK -> Prop:=fun x lo hi H Q=>∃ d,Rep X.K H d x /\ (match d with
 | .tup ds=>Rs.ok (.tup (cutD ds lo hi))
 | .lst ds=>.ok (.lst (cutD ds lo hi))
 | .str x=>if x.length <= 1000 then .ok (.str (mkS (Pu.cutD x.cps.toList lo hi))) else .stuck
 | _=>.stuck:Rs D).Good (Out X H Q) (XW X H)
theorem slD:SlR X (rSlD X):=by
 intro pins s σ H x v vl vu lo hi sl Q I rx hs pl pu ⟨d,r,h⟩
 cases d with
 | tup ds=>
  obtain ⟨a,xs,rfl,h1,h2⟩:=r
  by_cases hw:HT.sIx xs.length 0 lo = 0 /\ HT.sIx xs.length xs.length hi = xs.length
  ·cases rx
   obtain ⟨its,r,ht,hz⟩:=I.tuple h1
   have hlen:its.toArray.size = xs.length:=by rw [List.size_toArray]; exact r.length.symm
   refine ⟨"tuple",_,PyProof.Rows.slot_tuple_getitem.lookup,ht.typeIs,HT.JaG ht hs pl pu (by rw [hlen]; exact hw) ⟨.ref a,H,I,rfl,Out.now h ⟨a,xs,rfl,h1,?_⟩⟩⟩
   have e:=JbW (lo:=lo) (hi:=hi) h2
   have e2:cutV xs lo hi = xs:=by unfold cutV; rw [hw.1,hw.2]; simp
   rw [e2] at e
   exact e
  ·refine JnN pins s σ H _ v vl vu lo hi sl Q I rx hs pl pu ⟨a,xs,rfl,h1,hw,fun p hp=>?_⟩
   obtain ⟨s1,q1⟩:=JdW (K:=X.K) hp (JbW (lo:=lo) (hi:=hi) h2)
   exact h _ _ s1 q1
 | lst ds=>
  obtain ⟨a,xs,rfl,h1,h2⟩:=r
  refine JlD pins s σ H _ v vl vu lo hi sl Q I rx hs pl pu ⟨a,xs,rfl,h1,fun p hp=>?_⟩
  obtain ⟨s1,q1⟩:=JfK (K:=X.K) hp (JbW (lo:=lo) (hi:=hi) h2)
  exact h _ _ s1 q1
 | str x=>
  cases r
  obtain ⟨t,rfl⟩:=rx
  have h:(if x.length <= 1000 then Rs.ok (D.str (mkS (Pu.cutD x.cps.toList lo hi))) else Rs.stuck:Rs D).Good (Out X H Q) (XW X H):=h
  split at h
  ·rename_i hz
   obtain ⟨lo',e1,e2⟩:=JhM pl
   obtain ⟨hi',e3,e4⟩:=JhM pu
   obtain ⟨o,ho,hc,hd⟩:=hs
   subst e1 e3 e2 e4
   refine ⟨"str",_,F.slot_str_getitem.lookup,typeIs_str _ _ _,wpAny_getItem_str_slice (l:=lo') (u:=hi') (st:=none) ⟨o,ho,hc,hd⟩ rfl (post_val_or_str ⟨?_,fun t' k=>?_⟩)⟩
   ·exact Nat.le_trans (Txt.slice_le x _ _) (Nat.le_trans hz (show 1000 <= sizeLine by rw [sizeLine_eq]; decide))
   ·refine ⟨.str (Txt.slice x (lo'.map (·.1)) (hi'.map (·.1))),H,I.tok _,⟨_,rfl⟩,?_⟩
    rw [Jgn]
    exact Out.now h rfl
  ·exact h.elim
 | _=>exact h.elim
def tO (X:Cx) (call:CallD) (p:Px):TO:=fun σ H Q=>∃ env,ReadOk X.K H σ env /\ ((evD call p env).bind D.bound).Good (fun o=>∀ H',Same H H' -> Q o H') (XW X H)
theorem JdM:PO X none (tO X call (.con .non)):=fun pins s σ H Q I ⟨env,r,h⟩=>JlR pins s σ H Q I (h H (Same.refl H))
theorem Jel (h:PE X e (tI X call p)):PO X (some e) (tO X call (.un .asI p)):=fun pins s σ H Q I ⟨env,r,hg⟩=>Jmb h pins s σ H Q I (by
 simp only [evD,Rs.bind_assoc] at hg
 refine ⟨env,r,(Rs.good_bind.mp hg).imp fun d hd v H' s1 rv=>?_⟩
 cases d with
 | int i=>exact ⟨i,rv,hd H' s1⟩
 | _=>exact (show False from hd).elim)
theorem Jcc {lo hi:Option Expr} {p2:Pos} (he:PE X e (tI X call pa)) (hl:PO X lo (tO X call pl)) (hu:PO X hi (tO X call ph)):PE X (.Subscript e (.Slice lo hi none p2) pos) (tI X call (.sl pa pl ph)):=by
 refine PE.weak (JiL slD he hl hu) fun σ H Q ⟨env,r,h⟩=>?_
 simp only [evD] at h
 refine tI.then r h fun d v H1 s1 rv r1 h1=>?_
 rw [<- Rs.bind_assoc] at h1
 refine ⟨env,r1,(Rs.good_bind.mp h1).imp fun l h2 H2 s2=>?_⟩
 rw [<- Rs.bind_assoc] at h2
 refine ⟨env,r1.mono s2,((Rs.good_bind.mp h2).imp fun u h3 H3 s3=>?_).mono (fun _ x=>x) fun c x=>x.mono s2⟩
 refine ⟨d,rv.mono (s2.trans s3),?_⟩
 have h4:=h3.mono (fun d' (o:Out X H1 Q d')=>o.mono (s2.trans s3)) fun c (x:XW X H1 c)=>x.mono (s2.trans s3)
 cases d <;> exact h4
theorem tF.of {σ:L2.St} {H:Hp} {Q:VK} (h:tI X call p σ H Q) (hl:∀ env d,ReadOk X.K H σ env -> evD call p env = .ok d -> ∃ ds,d = .lst ds):tF X call p σ H Q:=by
 obtain ⟨env,r,h⟩:=h
 refine ⟨env,r,?_⟩
 cases q:evD call p env with
 | ok d=>
  rw [q] at h
  obtain ⟨ds,rfl⟩:=hl env d r q
  exact ⟨ds,rfl,fun l xs H' s h1 h2 h3=>h _ _ s ⟨l,xs,rfl,SqL.of h2,h3⟩⟩
 | ex c=>rw [q] at h; exact h
 | stuck=>rw [q] at h; exact h
def isL:Px -> Bool
 | .comp _ _ _ _=>true
 | .dis _=>true
 | _=>false
theorem JdJ {env:Fm} {d:D} (h:isL p = true) (e:evD call p env = .ok d):∃ ds,d = .lst ds:=by
 cases p with
 | comp nt a b c=>
  simp only [evD] at e
  cases q:evD call a env with
  | ok d'=>
   rw [q] at e
   cases d' with
   | lst ds=>
    simp only [Rs.bind_ok,D.asL] at e
    split at e
    ·cases q2:compL nt (evD call b) (evD call c) env ds with
     | ok ys=>rw [q2] at e; cases e; exact ⟨ys,rfl⟩
     | ex c=>rw [q2] at e; cases e
     | stuck=>rw [q2] at e; cases e
    ·cases e
   | _=>cases e
  | ex c=>rw [q] at e; cases e
  | stuck=>rw [q] at e; cases e
 | dis a=>
  simp only [evD] at e
  cases q:evD call a env with
  | ok d'=>
   rw [q] at e
   cases d' with
   | lst ds=>
    simp only [Rs.bind_ok,D.asL] at e
    split at e
    ·cases e; exact ⟨ds,rfl⟩
    ·cases e
   | _=>cases e
  | ex c=>rw [q] at e; cases e
  | stuck=>rw [q] at e; cases e
 | _=>cases h
theorem Jq (h:PE X e (tF X call p)) (hl:isL p = true:=by rfl):PE X e (tI X call p):=PE.weak h fun σ H Q hq=>tF.of hq fun env d _ q=>JdJ hl q
theorem Jaq (h:PA X es (tA X call p)):PE X (.List es pos) (tF X call (.dis p)):=by
 refine PE.weak (JmD h) fun σ H Q ⟨env,r,h⟩=>?_
 simp only [evD] at h
 refine ⟨env,r,(Rs.good_bind.mp h).imp fun d hd=>?_⟩
 cases d with
 | lst ds=>
  simp only [D.asL,Rs.bind_ok] at hd
  refine ⟨ds,rfl,fun vs H' s rs=>?_⟩
  split at hd
  ·rename_i hz
   refine ⟨by rw [rs.length,sizeLine_eq]; exact hz,fun a ha=>?_⟩
   obtain ⟨s2,r2⟩:=JfK ha rs
   obtain ⟨ds',e',hQ⟩:=hd
   cases e'
   exact hQ a vs _ (s.trans s2) (s.free ha) Jd (rs.mono s2)
  ·exact hd.elim
 | _=>exact hd.elim
def rC1 (X:Cx) (o:O1):List V -> Hp -> VK -> Prop:=fun xs H Q=>∃ x d,xs = [x] /\ Rep X.K H d x /\ (op1 o d).Good (Out X H Q) (XW X H)
theorem tC1 {o:O1} {σ:L2.St} {H:Hp} {Q:VK} (h:tI X call (.un o pa) σ H Q):tCB (rC1 X o) (tA X call (.cons pa .nil)) σ H Q:=by
 obtain ⟨env,r,h⟩:=h
 simp only [evD] at h
 refine ⟨env,r,?_⟩
 simp only [evD]
 refine Rs.good_bind.mpr ((Rs.good_bind.mp h).imp fun d hd=>?_)
 simp only [Rs.bind_ok,D.asL]
 refine ⟨[d],rfl,fun vs H' s rs=>?_⟩
 obtain ⟨x,r',e',h1,h2⟩:=rs
 cases h2
 subst e'
 exact ⟨x,d,rfl,h1,hd.mono (fun _ o=>o.mono s) fun _ x=>x.mono s⟩
section
variable {G:Gw} {N:List Str} {nm:List (Str × NameKind)} {x:Str} {id T:String} {p1:Pos}
theorem JeS {o:O1} (C:Ctx X G N nm) (hc:CallR X (.builtin id) (rC1 X o)) (ha:PE X a (tI X call pa)) (hg:gloB nm x = true) (hm:G.mg x = none) (hv:bootBuiltins x = some (.builtin id)) (hn:x ≠ "__name__") (hdb:(x == ("__debug__" : Str)) = false)
  (hs:starEach [a] X.env = (false,eval a X.env) :: starEach [] X.env:=by rfl):PE X (.Call (.Name x p1) [a] [] pos) (tI X call (.un o pa)):=
 PE.weak (JeC hc (C.glo _ hg) (by rw [C.mg]; exact hm) hv (Ja ha Jj hs) hn hdb hs rfl) fun σ H Q h=>tC1 h
theorem JkJ {o:O1} (C:Ctx X G N nm) (hc:CallR X (.type T) (rC1 X o)) (ha:PE X a (tI X call pa)) (hg:gloB nm x = true) (hm:G.mg x = none) (hv:bootBuiltins x = some (.type T)) (hn:x ≠ "__name__") (hdb:(x == ("__debug__" : Str)) = false)
  (hs:starEach [a] X.env = (false,eval a X.env) :: starEach [] X.env:=by rfl):PE X (.Call (.Name x p1) [a] [] pos) (tI X call (.un o pa)):=
 PE.weak (JcN hc (C.glo _ hg) (by rw [C.mg]; exact hm) hv (Ja ha Jj hs) hn hdb hs rfl) fun σ H Q h=>tC1 h
end
theorem JmI:CallR X (.builtin "len") (rC1 X .len):=by
 intro pins s σ H xs us Q I rv ⟨x,d,e,r,h⟩
 subst e
 cases d with
 | str z=>
  simp only [op1] at h
  split at h
  ·rename_i hz
   exact Jdn pins s σ H _ us Q I rv ⟨z,by rw [show x = V.str z from r],JbA hz,Out.now h rfl⟩
  ·exact h.elim
 | tup ds=>
  obtain ⟨a,ys,rfl,h1,h2⟩:=r
  exact JaJ pins s σ H _ us Q I rv ⟨a,ys,rfl,.inr h1,by rw [h2.length]; exact Out.now h rfl⟩
 | lst ds=>
  obtain ⟨a,ys,rfl,h1,h2⟩:=r
  exact JaJ pins s σ H _ us Q I rv ⟨a,ys,rfl,.inl h1,by rw [h2.length]; exact Out.now h rfl⟩
 | _=>exact (show False from h).elim
theorem Jjd:CallR X (.type "tuple") (rC1 X .tuple):=by
 intro pins s σ H xs us Q I rv ⟨x,d,e,r,h⟩
 subst e
 cases d with
 | tup ds=>
  obtain ⟨a,ys,rfl,h1,h2⟩:=r
  exact Jav pins s σ H _ us Q I rv ⟨a,ys,rfl,.inr ⟨h1,Out.now h ⟨a,ys,rfl,h1,h2⟩⟩⟩
 | lst ds=>
  obtain ⟨a,ys,rfl,h1,h2⟩:=r
  refine Jav pins s σ H _ us Q I rv ⟨a,ys,rfl,.inl ⟨h1,fun l hl=>?_⟩⟩
  obtain ⟨s1,q1⟩:=JdW (K:=X.K) hl h2
  exact h _ _ s1 q1
 | _=>exact (show False from h).elim
theorem Jmu:CallR X (.type "int") (rC1 X .ints):=by
 intro pins s σ H xs us Q I rv ⟨x,d,e,r,h⟩
 subst e
 cases d with
 | str z=>
  simp only [op1] at h
  split at h
  ·rename_i hz
   simp only [Bool.and_eq_true,decide_eq_true_eq,List.all_eq_true,isFig] at hz
   obtain ⟨⟨h1,h2⟩,h3⟩:=hz
   have hx:x = V.str z:=r
   subst hx
   obtain ⟨u,rfl,t,rfl⟩:=JaP rv
   have hl:z.length <= 640:=by
    have e:z.length = z.cps.toList.length:=by simp [Str.length]
    rw [e]; exact h3
   exact PySem.W.KIN.call_text (PySem.intText_digits (fun c hc=>h1 c hc) h2 (by omega)) hl ⟨.int _,H,I.tok _,⟨_,rfl⟩,Out.now h rfl⟩
  ·exact h.elim
 | _=>exact (show False from h).elim
theorem Jin {K:PySem.W.Frag} {H:Hp}:∀ {ds:List D} {bs:List Bool} {xs:List V},blsOf ds = some bs -> Reps K H ds xs -> xs = bs.map V.bl
 | [],_,_,h,r=>by
  simp only [blsOf] at h
  cases h
  cases r
  rfl
 | d :: ds,bs,_,h,⟨x,r,e,h1,h2⟩=>by
  subst e
  cases d with
  | bl b=>
   simp only [blsOf] at h
   cases q:blsOf ds with
   | none=>rw [q] at h; cases h
   | some bs'=>
    rw [q] at h
    cases h
    have:=Jin q h2
    subst this
    cases h1
    rfl
  | _=>simp [blsOf] at h
theorem Jho {bs:List Bool}:(List.range bs.length).all (fun i=>bs.getD i false) = bs.all id:=by
 induction bs with
 | nil=>rfl
 | cons b bs ih=>
  rw [List.length_cons,List.range_succ_eq_map,List.all_cons,List.all_map]
  simp only [List.all_cons,<- ih]
  rfl
theorem Jjy {pins:List (Addr × Obj)} {σ:L2.St} {H:Hp} {s:Shared} (hcalm:X.calm = true) (I:L2.Inv X pins σ H s) {a:Addr} {bs:List Bool} (h1:SqL X.K H a (bs.map V.bl)) {Q:Value -> Shared -> Prop} {g:Bool} {tr:Nat -> Bool}
  (hq:∀ h' tk,(∀ b o,s.heap.get? b = some o -> h'.get? b = some o) -> Q (.bool g) { s with heap:=h',toks:=tk }) :
  wpAny (model X.prog X.w) X.A.in1 (pyIter (.ref a)) (fun it s₂=>∃ I fp wr n P St tr,it = .ref I /\ Walks X.prog X.w X.A.in1 I fp wr n P St /\ St 0 s₂.heap /\ TruthOf X.prog X.w X.A.in1 P tr /\ n = bs.length /\ tr = (fun i=>bs.getD i false) /\
   ∀ h' tk,(∀ b o,b ∉ wr -> s₂.heap.get? b = some o -> h'.get? b = some o) -> Q (.bool g) { s₂ with heap:=h',toks:=tk }) X.xe s:=by
 obtain ⟨its,rv,p,hz⟩:=I.list h1
 have hh:X.A.in1.handled = none:=by show X.A.handled = none; exact I.ok.hd hcalm
 refine wpAny_pyIter_list p.isList ?_
 obtain ⟨o,ho,_⟩:=p.isList
 have hlt:a < s.heap.objs.size:=Heap.lt_size ho
 refine ⟨s.heap.objs.size,_,_,_,_,_,fun i=>bs.getD i false,rfl,Walks.list hh s.heap.objs.size a (Nat.ne_of_lt hlt) its.toArray,⟨⟨_,Heap.get?_push_size _ rfl,rfl,rfl⟩,p.isList.push _⟩,?_,?_,rfl,fun h' tk k=>?_⟩
 ·intro i v Q' E' s' hv q
  have hv':its[i]? = some v:=by simpa using hv
  have hl:=rv.length
  have hi:i < its.length:=(List.getElem?_eq_some_iff.mp hv').1
  have hbi:(bs.map V.bl)[i]? = some (V.bl (bs.getD i false)):=by
   rw [List.getElem?_map,List.getD_eq_getElem?_getD,List.getElem?_eq_getElem (by rw [List.length_map] at hl; omega)]
   rfl
  obtain ⟨u,e1,e2⟩:=rv.get hbi
  rw [hv'] at e1
  cases e1
  cases e2
  exact wpAny_truthy_bool q
 ·have hl:=rv.length
  rw [List.length_map] at hl
  rw [List.size_toArray]
  exact hl.symm
 ·refine hq h' tk fun b o e=>k b o ?_ (Heap.get?_push_of_some _ e)
  intro hb
  have:b = s.heap.objs.size:=by simpa using hb
  rw [this] at e
  exact Nat.lt_irrefl _ (Heap.lt_size e)
theorem JnR (hcalm:X.calm = true):CallR X (.builtin "all") (rC1 X .all):=by
 intro pins s σ H xs us Q I rv ⟨x,d,e,r,h⟩
 subst e
 cases d with
 | lst ds=>
  simp only [op1] at h
  cases q:blsOf ds with
  | none=>rw [q] at h; exact h.elim
  | some bs=>
   rw [q] at h
   obtain ⟨a,ys,rfl,h1,h2⟩:=r
   have:=Jin q h2
   subst this
   obtain ⟨u,rfl,rx⟩:=JaP rv
   cases rx
   refine call_all_walk (thn (Jjy (g:=bs.all id) (tr:=fun _=>true) hcalm I h1 (Q:=EP X pins σ Q) fun h' tk k=>⟨.bl _,H,I.kept k,rfl,Out.now h rfl⟩) fun it s2 ⟨I',fp,wr,n,Pz,Sz,tr,e1,W,st,tt,e2,e3,hq⟩=>?_)
   subst e2; subst e3
   refine ⟨I',fp,wr,_,Pz,Sz,_,e1,W,st,tt,fun h' tk k=>?_⟩
   rw [Jho]
   exact hq h' tk k
 | _=>exact (show False from h).elim
theorem tI.un1 {o:O1} {σ:L2.St} {H:Hp} {Q:VK} {Q':VK} (h:tI X call (.un o pa) σ H Q) (hk:∀ d v H',Same H H' -> Rep X.K H' d v -> (op1 o d).Good (Out X H' Q) (XW X H') -> Q' v H'):tI X call pa σ H Q':=by
 obtain ⟨env,r,h⟩:=h
 simp only [evD] at h
 exact tI.then r h fun d v H' s rv _ hd=>hk d v H' s rv hd
theorem JgY {K:PySem.W.Frag} {H:Hp} {d:D} {v:V} (r:Rep K H d v):op1 .isN d = .ok (.bl (decide (v = .non))) /\ op1 .notN d = .ok (.bl (!decide (v = .non))):=by
 cases d with
 | non=>cases r; exact ⟨rfl,rfl⟩
 | bl b=>cases r; exact ⟨rfl,rfl⟩
 | int b=>cases r; exact ⟨rfl,rfl⟩
 | str b=>cases r; exact ⟨rfl,rfl⟩
 | tup ds=>obtain ⟨a,xs,rfl,_,_⟩:=r; exact ⟨rfl,rfl⟩
 | lst ds=>obtain ⟨a,xs,rfl,_,_⟩:=r; exact ⟨rfl,rfl⟩
 | dct t z ks vs=>obtain ⟨a,xs,rfl,_,_⟩:=r; exact ⟨rfl,rfl⟩
 | exc c=>obtain ⟨a,o,C,rfl,_⟩:=r; exact ⟨rfl,rfl⟩
 | fn x i=>obtain ⟨f,rfl,_⟩:=r; exact ⟨rfl,rfl⟩
 | obj a ns fs=>obtain ⟨rfl,_⟩:=r; exact ⟨rfl,rfl⟩
theorem Jod {j p'} (ha:PE X a (tI X call pa)):PT X (.Compare a [.Is] [.Constant .none j p'] pos) (tT X call (.un .isN pa)):=
 PT.weak (Jka (Jom ha)) fun σ H Q h=>h.asTest.un1 fun d v H' s rv hd=>by rw [(JgY rv).1] at hd; exact Out.now hd rfl
theorem Jhx {j p'} (ha:PE X a (tI X call pa)):PT X (.Compare a [.IsNot] [.Constant .none j p'] pos) (tT X call (.un .notN pa)):=
 PT.weak (Jka (JkP ha)) fun σ H Q h=>h.asTest.un1 fun d v H' s rv hd=>by rw [(JgY rv).2] at hd; exact Out.now hd rfl
theorem JmH (ha:PE X a (tI X call pa)):PE X (.UnaryOp .USub a pos) (tI X call (.un .neg pa)):=by
 refine PE.weak (pe_un Jnu ha) fun σ H Q h=>h.un1 fun d v H' s rv hd=>?_
 cases d with
 | int i=>exact ⟨i,rv,Out.now hd rfl⟩
 | _=>exact (show False from hd).elim
end
end Rd
namespace Rd
open PySem PySem.Spec PyProof.Rows L2 Pu
def itName (t:Bool):String:=if t then "tuple_iterator" else "list_iterator"
def IsIt (t:Bool) (h:Heap) (it a:Addr) (i:Nat):Prop:=∃ o,h.get? it = some o /\ o.cls = .type (itName t) /\ o.data = .fields #[.ref a,.int i 0]
def IsSq (t:Bool) (h:Heap) (a:Addr) (items:Array Value):Prop:=match t with
 | true=>h.IsTuple a items
 | false=>h.IsList a items
theorem IsIt.stay {t:Bool} {h h':Heap} {it a:Addr} {i:Nat} (x:IsIt t h it a i) (k:∀ o,h.get? it = some o -> h'.get? it = some o):IsIt t h' it a i:=let ⟨o,e,r⟩:=x; ⟨o,k o e,r⟩
theorem IsSq.stay {t:Bool} {h h':Heap} {a:Addr} {items:Array Value} (x:IsSq t h a items) (k:∀ o,h.get? a = some o -> h'.get? a = some o):IsSq t h' a items:=by
 cases t
 ·exact let ⟨o,e,r⟩:=(show h.IsList a items from x); (show h'.IsList a items from ⟨o,k o e,r⟩)
 ·exact let ⟨o,e,r⟩:=(show h.IsTuple a items from x); (show h'.IsTuple a items from ⟨o,k o e,r⟩)
theorem IsIt.lt {t:Bool} {h:Heap} {it a:Addr} {i:Nat} (x:IsIt t h it a i):it < h.objs.size:=let ⟨_,e,_⟩:=x; Heap.lt_size e
section
variable {prog:Program} {w:World} {A:Around} {E:Value -> Shared -> Prop} {s:Shared} {t:Bool} {it a:Addr} {i:Nat} {items:Array Value}
theorem JF {x:Value} {Q:Value -> Shared -> Prop} (hit:IsIt t s.heap it a i) (hl:IsSq t s.heap a items) (hx:items[i]? = some x)
  (hQ:∀ h',IsIt t h' it a (i + 1) -> Heap.SameBut it s.heap h' -> Q x { s with heap:=h' }):wpAny (model prog w) A (Builtin.SmallTypes.nextOf (.ref it)) Q E s:=by
 cases t with
 | false=>exact wpAny_nextOf_list_item (l:=a) (i:=i) hit hl hx hQ
 | true=>
  obtain ⟨o,ho,hc,hd⟩:=id hit
  obtain ⟨ol,hol,_,nl,hdl⟩:=(show s.heap.IsTuple a items from hl)
  have ty:s.TypeIs (.ref it) "tuple_iterator":=⟨o,ho,hc⟩
  unfold Builtin.SmallTypes.nextOf
  refine wpAny_bind (wpAny_callSpecial?_slot (name:=Str.ofString "__next__") ty F.slot_tuple_iterator_next (wpAny_call_entry F.slot_tuple_iterator_next ty F.entry_tuple_iterator_next ?_ (F.args_tuple_iterator_next_1 _)))
  show wpAny _ _ (field (.ref it) 0 >>= _) _ _ s; refine wpAny_bind (wpAny_field ho hd (x:=.ref a) rfl ?_)
  show wpAny _ _ (if (Value.ref a == Value.none) = true then _ else _) _ _ s; rw [if_neg (show ¬ ((Value.ref a == Value.none) = true) from Bool.false_ne_true)]
  show wpAny _ _ (field (.ref it) 1 >>= _) _ _ s; refine wpAny_bind (wpAny_field ho hd (x:=.int i 0) rfl ?_)
  show wpAny _ _ (seqItems? (.ref a) >>= _) _ _ s; refine wpAny_bind (wpAny_seqItems hol hdl ?_)
  simp only [Int.toNat_natCast,hx]; refine wpAny_bind (wpAny_setField ho hd (by simp) (wpAny_pure ⟨x,rfl,wpAny_pure (hQ _ ?_ (Heap.SameBut.update ..))⟩))
  refine ⟨_,Heap.get?_update_self _ ho (Obj.isFreed_of_fields (Obj.data_mapFields hd _)),(Obj.cls_mapFields ..).trans hc,?_⟩
  rw [Obj.data_mapFields hd]; simp [rawInt]
theorem JaC {Q:Value -> Shared -> Prop} (hh:A.handled = none) (hit:IsIt t s.heap it a i) (hl:IsSq t s.heap a items) (hx:items[i]? = none)
  (hE:∀ h' e,Heap.ExtBut it s.heap h' -> (∃ o,h'.get? e = some o /\ o.cls = .type "StopIteration") -> E (.ref e) { s with heap:=h' }):wpAny (model prog w) A (Builtin.SmallTypes.nextOf (.ref it)) Q E s:=by
 cases t with
 | false=>exact wpAny_nextOf_list_end hh (l:=a) (i:=i) hit hl hx hE
 | true=>
  obtain ⟨o,ho,hc,hd⟩:=id hit
  obtain ⟨ol,hol,_,nl,hdl⟩:=(show s.heap.IsTuple a items from hl)
  have ty:s.TypeIs (.ref it) "tuple_iterator":=⟨o,ho,hc⟩
  unfold Builtin.SmallTypes.nextOf
  refine wpAny_bind (wpAny_callSpecial?_slot (name:=Str.ofString "__next__") ty F.slot_tuple_iterator_next (wpAny_call_entry F.slot_tuple_iterator_next ty F.entry_tuple_iterator_next ?_ (F.args_tuple_iterator_next_1 _)))
  show wpAny _ _ (field (.ref it) 0 >>= _) _ _ s; refine wpAny_bind (wpAny_field ho hd (x:=.ref a) rfl ?_)
  show wpAny _ _ (if (Value.ref a == Value.none) = true then _ else _) _ _ s; rw [if_neg (show ¬ ((Value.ref a == Value.none) = true) from Bool.false_ne_true)]
  show wpAny _ _ (field (.ref it) 1 >>= _) _ _ s; refine wpAny_bind (wpAny_field ho hd (x:=.int i 0) rfl ?_)
  show wpAny _ _ (seqItems? (.ref a) >>= _) _ _ s; refine wpAny_bind (wpAny_seqItems hol hdl ?_)
  simp only [Int.toNat_natCast,hx]; refine wpAny_bind (wpAny_rule (wpAny_bind (wpAny_setField ho hd (by simp) ?_)))
  show wpAny _ _ (newExc (.type "StopIteration") [] >>= _) _ _ _; refine wpAny_bind ?_
  simp only [newExc,newTuple]; refine wpAny_bind (wpAny_newObj_type ?_ (by size_fits))
  refine wpAny_bind (m:=firstArgMember _ _) (wpAny_of_eq (a:=Value.none) (by first | rfl | (simp only [firstArgMember]; rfl)) (wpAny_newObj_type ?_ (by size_fits)))
  simp only [raiseNew]; refine wpAny_bind (wpAny_handled ?_); first | rw [show A.in1.handled = none from hh] | rw [hh]
  refine wpAny_bind (wpAny_pure (wpAny_throw ?_)); exact hE _ _ (((Heap.SameBut.update ..).extBut.push _).push _) ⟨_,Heap.get?_push_size _ rfl,rfl⟩
end
theorem JeV {prog:Program} {w:World} {A:Around} (hh:A.handled = none) (t:Bool) (it a:Addr) (hne:a ≠ it) (items:Array Value) :
  Draws prog w A it [it,a] items.size (fun i v=>items[i]? = some v) (fun i h=>IsIt t h it a i /\ IsSq t h a items) where
 live:=fun _ _ st=>let ⟨o,ho,_⟩:=st.1; ⟨o,ho⟩
 frame:=fun _ _ _ st hk=>⟨st.1.stay fun o e=>hk it (by simp) o e,st.2.stay fun o e=>hk a (by simp) o e⟩
 item:=fun i s Q E hi st hQ=>JF st.1 st.2 (x:=items[i]) (by simp [hi]) fun h' hit' hs'=>hQ _ h' s.toks (by simp [hi]) ⟨hit',st.2.stay fun o e=>hs'.extBut a o hne e⟩ hs'
 done:=fun s Q E st hE=>JaC hh st.1 st.2 (by simp) hE
def Sq (K:PySem.W.Frag) (t:Bool) (H:Hp) (a:Addr) (xs:List V):Prop:=match t with
 | true=>SqT K H a xs
 | false=>SqL K H a xs
theorem Sq.same {K:PySem.W.Frag} {t:Bool} {H H':Hp} {a:Addr} {xs:List V} (e:Same H H') (h:Sq K t H a xs):Sq K t H' a xs:=by
 cases t
 ·exact Same.seq e (show SqL K H a xs from h)
 ·exact SqT.same e (show SqT K H a xs from h)
section
variable {X:Cx} {pins:List (Addr × Obj)} {σ:L2.St} {H:Hp} {s:Shared} {t:Bool} {a:Addr} {xs ys:List V}
theorem Jy (I:L2.Inv X pins σ H s) (h:Sq X.K t H a xs):∃ its:List Value,Vals xs its /\ IsSq t s.heap a its.toArray /\ xs.length <= sizeLine:=by
 cases t
 ·obtain ⟨its,r,p,z⟩:=I.list h; exact ⟨its,r,p.isList,z⟩
 ·obtain ⟨its,r,p,z⟩:=I.tuple h; exact ⟨its,r,p,z⟩
theorem Jgi (I:L2.Inv X pins σ H s) (h:Sq X.K t H a xs) (h':Sq X.K t H a ys):xs = ys:=by
 cases t
 ·exact I.list_inj h h'
 ·exact I.tuple_inj h h'
theorem Jlg (I:L2.Inv X pins σ H s) (h:Sq X.K t H a xs) {b:Addr} {o:Obj} (e:s.heap.get? b = some o) (hc:o.cls ≠ .type "list") (hc2:o.cls ≠ .type "tuple"):a ≠ b:=by
 rintro rfl
 obtain ⟨its,_,p,_⟩:=Jy I h
 cases t
 ·obtain ⟨o',e',c',_⟩:=(show s.heap.IsList a _ from p); rw [e] at e'; cases e'; exact hc c'
 ·obtain ⟨o',e',c',_⟩:=(show s.heap.IsTuple a _ from p); rw [e] at e'; cases e'; exact hc2 c'
end
def Ite (K:PySem.W.Frag) (t:Bool) (a:Addr):It:=
 ⟨fun i H=>∃ xs x,Sq K t H a xs /\ xs[i]? = some x,fun i H x H'=>∃ T v,H T = none /\ x = .ref T /\ H' = upd H T (.tup [.int i,v]) /\ ∀ xs,Sq K t H a xs -> xs[i]? = some v,fun i H=>∃ xs,Sq K t H a xs /\ xs.length = i⟩
theorem Jz {X:Cx} {pins:List (Addr × Obj)} {σ:L2.St} {H:Hp} {s:Shared} {h':Heap} {tk:Nat} {ch:List Addr} (I:L2.Inv X pins σ H s) (hf:∀ b ∈ ch,FpOk X pins H b) (k:∀ b o,b ∉ ch -> s.heap.get? b = some o -> h'.get? b = some o) :
  L2.Inv X pins σ H { s with heap:=h',toks:=tk }:=by
 refine I.step (g':=s.gens) (d':=s.drawn) (ch:=ch) (fun b hb=>?_) (fun b o _ _ hc e _=>k b o hc e) (fun b o _ _ hc e _=>⟨o.slots,k b o hc e⟩) (fun _ _ _ _ n=>n) (fun b o hc e=>⟨o,k b o hc e⟩) (fun _ _ e=>e) (fun _ _ _ e=>e) (fun b ps e=>⟨#[],by rw [e]; simp⟩) (fun m hm=>?_) (fun b u e=>?_) I.bare
 ·obtain ⟨_,f1,_,f3,f4,f5⟩:=hf b hb
  exact ⟨f3,f1,f4,f5⟩
 ·obtain ⟨o,es,ep,ho,r⟩:=hm
  exact ⟨o,es,ep,k _ o (fun hb=>(hf _ hb).2.1 rfl) ho,r⟩
 ·refine (I.hok b u e).stay (fun c v hc q=>k c v ?_ q) (fun _ q=>q) fun _ _ q=>q
  intro hb
  have hn:=(hf c hb).1
  rcases hc with z | z
  ·rw [<- z,hn] at e; cases e
  ·rw [hn] at z; cases z
theorem Jad {X:Cx} {pins:List (Addr × Obj)} {σ:L2.St} {H:Hp} {s:Shared} {h':Heap} {tk:Nat} {ch:List Addr} {a:Addr} {o:HO} (I:L2.Inv X pins σ H s) (hf:∀ b ∈ ch,FpOk X pins H b) (k:∀ b o,b ∉ ch -> s.heap.get? b = some o -> h'.get? b = some o)
  (hp:s.heap.objs.size <= a) (new:ObjOk X.prog X.w (upd H a o) h' a o):L2.Inv X pins σ (upd H a o) { s with heap:=h',toks:=tk }:=by
 have hn:H a = none:=I.hok.fresh hp
 have ne1:∀ b u,H b = some u -> b ≠ a:=fun b u e z=>by rw [z,hn] at e; cases e
 have ne2:∀ b ob,s.heap.get? b = some ob -> b ≠ a:=fun b ob e=>Nat.ne_of_lt (Nat.lt_of_lt_of_le (Heap.lt_size e) hp)
 refine I.step (g':=s.gens) (d':=s.drawn) (ch:=ch) (fun b hb=>?_) (fun b o _ _ hc e _=>k b o hc e) (fun b o _ _ hc e _=>⟨o.slots,k b o hc e⟩) (fun b ob _ e n=>by rw [Jb (ne2 b ob e)]; exact n) (fun b o hc e=>⟨o,k b o hc e⟩)
  (fun b xs e=>by rw [Jb (ne1 b _ e)]; exact e) (fun b ob u e=>by rw [Jb (ne1 b _ e)]; exact e) (fun b ps e=>⟨#[],by rw [Jb (ne1 b _ e),e]; simp⟩) (fun m hm=>?_) (fun b u e=>?_) I.bare
 ·obtain ⟨_,f1,_,f3,f4,f5⟩:=hf b hb
  exact ⟨f3,f1,f4,f5⟩
 ·obtain ⟨o,es,ep,ho,r⟩:=hm
  exact ⟨o,es,ep,k _ o (fun hb=>(hf _ hb).2.1 rfl) ho,r⟩
 ·by_cases hb:b = a
  ·subst hb
   rw [Jd] at e
   cases e
   exact new
  ·rw [Jb hb] at e
   refine (I.hok b u e).stay (fun c v hc q=>k c v ?_ q) (fun c q=>?_) (fun c xs q=>?_) fun c o' u' q=>by rw [Jb (ne1 c _ q)]; exact q
   ·intro hcb
    have hn':=(hf c hcb).1
    rcases hc with z | z
    ·rw [<- z,hn'] at e; cases e
    ·rw [hn'] at z; cases z
   ·rw [Jb (ne1 c _ q)]; exact q
   ·rw [Jb (ne1 c _ q)]; exact q
theorem JhQ {P:Program} {w:World} {K:PySem.W.Frag} {elts:List Expr} {k:Nat} {tpos:Pos} (t:Bool) (a it e:Addr) (hne:e ≠ it) :
  Turn P w K (.Tuple elts k tpos) (Ite K t a) [e,it] e (fun i h=>(∃ old,IsEnum h e it i old) /\ IsIt t h it a i) where
 mem:=by simp
 obj:=fun i h st b hb=>by
  obtain ⟨⟨old,he⟩,o,ho,hc,hd⟩:=st
  rcases List.mem_cons.mp hb with rfl | hb
  ·exact ⟨_,he,fun v z=>by cases z⟩
  ·have e:b = it:=by simpa using hb
   subst e
   exact ⟨o,ho,fun v z=>by rw [hd] at z; cases z⟩
 keep:=fun i h h' st q=>⟨let ⟨old,he⟩:=st.1; ⟨old,q e (by simp) _ he⟩,st.2.stay fun o x=>q it (by simp) o x⟩
 item:=by
  intro X hP hw hK hc i pins s σ H E I hf st hg
  subst hP hw hK
  obtain ⟨xs,x,hq,hx⟩:=hg
  obtain ⟨its,rv,p,hz⟩:=Jy I hq
  obtain ⟨u,hu,ru⟩:=rv.get hx
  obtain ⟨⟨old,he⟩,hit⟩:=st
  obtain ⟨o,ho,hoc,hod⟩:=id hit
  have na:a ≠ it:=Jlg I hq ho (by rw [hoc]; cases t <;> simp [itName]) (by rw [hoc]; cases t <;> simp [itName])
  have nae:a ≠ e:=Jlg I hq he (by simp) (by simp)
  have hlt:i < its.toArray.size:=by
   have:=(List.getElem?_eq_some_iff.mp hu).1
   simpa using this
  have D:=JeV (prog:=X.prog) (w:=X.w) (A:=X.A.in1) (show X.A.in1.handled = none from I.ok.hd hc) t it a na its.toArray
  refine wpAny_pyNext_enum_itemD D he ⟨hit,p⟩ hlt hne (by simp [hne,Ne.symm nae]) fun y h' tk hP ho' hs' hT hsz hk=>?_
  have hy:y = u:=by
   have e1:its.toArray[i]? = some y:=hP
   have e2:its.toArray[i]? = some u:=by simpa using hu
   rw [e1] at e2; exact Option.some.inj e2
  subst hy
  refine ⟨_,rfl,wpAny_letOwnedTupleGo_enum ho' fun h2 he2 hsb2=>?_⟩
  have hel:e < s.heap.objs.size:=Heap.lt_size he
  have hil:it < s.heap.objs.size:=hit.lt
  have keep2:∀ b o,b ∉ [e,it] -> s.heap.get? b = some o -> h2.get? b = some o:=fun b o hb q=>by
   have h1:b ≠ e:=fun z=>hb (by simp [z])
   have h3:b ≠ it:=fun z=>hb (by simp [z])
   exact (hsb2.2 b h1).trans (hk b o h1 h3 q)
  have hT2:h2.get? s.heap.objs.size = some { cls:=.type "tuple",data:=.seq #[.int i tk,y] }:=(hsb2.2 _ (Nat.ne_of_gt hel)).trans hT
  have hfr:H s.heap.objs.size = none:=I.hok.fresh (Nat.le_refl _)
  have I2:L2.Inv X pins σ (upd H s.heap.objs.size (.tup [.int i,x])) { s with heap:=h2,toks:=tk + 1 }:=
   Jad I hf keep2 (Nat.le_refl _) ⟨⟨by rw [sizeLine_eq]; show 2 <= _; decide,fun o q=>by rw [hT2] at q; cases q; rfl⟩,[.int i tk,y],.cons ⟨tk,rfl⟩ (.cons ru .nil),_,hT2,rfl,_,rfl⟩
  refine ⟨.ref s.heap.objs.size,_,I2,rfl,⟨s.heap.objs.size,x,hfr,rfl,rfl,fun zs hzs=>by rw [Jgi I hzs hq]; exact hx⟩,⟨⟨_,by simpa using he2⟩,hs'.1.stay fun o q=>(hsb2.2 it hne.symm).trans q⟩,fun b hb=>?_⟩
  rcases List.mem_cons.mp hb with rfl | hb
  ·rw [Jb (Nat.ne_of_lt hel)]; exact (hf b (by simp)).1
  ·have e:b = it:=by simpa using hb
   subst e
   rw [Jb (Nat.ne_of_lt hil)]; exact (hf b (by simp)).1
 done:=by
  intro X hP hw hK hc i pins s σ H E I hf st hg
  subst hP hw hK
  obtain ⟨xs,hq,hx⟩:=hg
  obtain ⟨its,rv,p,hz⟩:=Jy I hq
  obtain ⟨⟨old,he⟩,hit⟩:=st
  obtain ⟨o,ho,hoc,hod⟩:=id hit
  have na:a ≠ it:=Jlg I hq ho (by rw [hoc]; cases t <;> simp [itName]) (by rw [hoc]; cases t <;> simp [itName])
  have hl:=rv.length
  have hin:i = its.toArray.size:=by rw [List.size_toArray,<- hl,hx]
  have D:=JeV (prog:=X.prog) (w:=X.w) (A:=X.A.in1) (show X.A.in1.handled = none from I.ok.hd hc) t it a na its.toArray
  refine wpAny_pyNext_enum_endD D he (by rw [<- hin]; exact ⟨hit,p⟩) fun h' hx'=>⟨rfl,Jz (tk:=s.toks) I hf fun b o hb q=>hx' b o (fun z=>hb (by simp [z])) q⟩
 self:=fun A i s Q E st h=>let ⟨⟨old,he⟩,_⟩:=st; wpAny_pyIter_enum he h
end Rd
namespace Rd
open PySem PySem.Spec PyProof.Rows L2 Pu
structure Apart (z TI TO i1 i2:Addr):Prop where
 all:[z,TI,TO,i1,i2].Nodup
theorem Apart.ne {z TI TO i1 i2:Addr} (D:Apart z TI TO i1 i2):TI ≠ z /\ TO ≠ z /\ i1 ≠ z /\ i2 ≠ z /\ TI ≠ TO /\ TI ≠ i1 /\ TI ≠ i2 /\ TO ≠ i1 /\ TO ≠ i2 /\ i1 ≠ i2:=by
 have h:=D.all
 simp only [List.nodup_cons,List.mem_cons,List.not_mem_nil,or_false,not_or] at h
 obtain ⟨⟨a1,a2,a3,a4⟩,⟨b1,b2,b3⟩,⟨c1,c2⟩,d1,_⟩:=h
 exact ⟨Ne.symm a1,Ne.symm a2,Ne.symm a3,Ne.symm a4,b1,b2,b3,c1,c2,d1⟩
section
variable {prog:Program} {w:World} {A:Around} {E:Value -> Shared -> Prop} {s:Shared} {z TI TO i1 i2 l1 l2:Addr} {t1 t2:Bool} {k:Nat} {xs ys:Array Value} {x y a b:Value}
theorem Jlx {Q:Value -> Shared -> Prop} (D:Apart z TI TO i1 i2) (hz:IsZip s.heap z TI TO .none) (hTI:IsPair s.heap TI (.ref i1) (.ref i2)) (hTO:IsPair s.heap TO a b) (h1:IsIt t1 s.heap i1 l1 k) (h2:IsIt t2 s.heap i2 l2 k)
  (hl1:IsSq t1 s.heap l1 xs) (hl2:IsSq t2 s.heap l2 ys) (n1:l1 ∉ [z,TO,i1,i2]) (n2:l2 ∉ [z,TO,i1,i2]) (hx:xs[k]? = some x) (hy:ys[k]? = some y)
  (hQ:∀ h',IsZip h' z TI TO (rawInt s.heap.objs.size) -> IsPair h' TO x y -> IsIt t1 h' i1 l1 (k + 1) -> IsIt t2 h' i2 l2 (k + 1) -> IsPair h' s.heap.objs.size x y -> (∀ c o,c ∉ [z,TO,i1,i2] -> s.heap.get? c = some o -> h'.get? c = some o) -> Q (.ref s.heap.objs.size) { s with heap:=h' }) :
  wpAny (model prog w) A (Builtin.«zip.__next__» ⟨[.ref z],[]⟩) (fun fin s'=>∃ v,fin = .done (.ret v) /\ Q v s') E s:=by
 obtain ⟨d1,d2,d3,d4,d5,d6,d7,d8,d9,d10⟩:=D.ne
 simp only [List.mem_cons,List.not_mem_nil,or_false,not_or] at n1 n2
 obtain ⟨m1,m2,m3,m4⟩:=n1
 obtain ⟨o1,o2,o3,o4⟩:=n2
 show wpAny _ _ (field (.ref z) 2 >>= _) _ _ _; refine wpAny_bind (wpAny_field hz rfl (x:=.bool false) rfl ?_)
 show wpAny _ _ (field (.ref z) 3 >>= _) _ _ _; refine wpAny_bind (wpAny_field hz rfl (x:=.ref TI) rfl (wpAny_bind (wpAny_seqItems hTI rfl ?_)))
 show wpAny _ _ (Builtin.SmallTypes.ownedTupleIsFree (.ref z) >>= _) _ _ _; refine wpAny_bind ?_; unfold Builtin.SmallTypes.ownedTupleIsFree
 refine wpAny_bind (wpAny_field hz rfl (x:=.none) rfl (wpAny_pure ?_)); simp only [if_true]
 refine wpAny_bind (wpAny_rule (wpAny_bind (wpAny_field hz rfl (x:=.ref TO) rfl (wpAny_bind (wpAny_setField_rec hz (by simp) fun g1 hz1 s1=>?_)))))
 replace hz1:IsZip g1 z TI TO .ellipsis:=hz1
 refine wpAny_bind ?_; simp only [List.zipIdx_cons,List.zipIdx_nil,List.forIn_cons,List.forIn_nil]
 refine wpAny_bind (wpAny_bind (wpAny_onRaise ?_)); show wpAny _ _ (Builtin.SmallTypes.nextOf (.ref i1) >>= _) _ _ _
 refine wpAny_bind (JF (h1.stay fun o e=>s1.extBut _ _ d3 e) (hl1.stay fun o e=>s1.extBut _ _ m1 e) hx fun g2 k1 s2=>wpAny_pure ?_)
 have hTO2:IsPair g2 TO a b:=s2.extBut _ _ d8 (s1.extBut _ _ d2 hTO)
 refine wpAny_bind (wpAny_seqItems hTO2 rfl (wpAny_bind (wpAny_updateSeq_pair hTO2 fun g3 hTO3 s3=>?_)))
 replace hTO3:IsPair g3 TO x b:=hTO3
 refine wpAny_bind (wpAny_letGo (wpAny_pure ?_))
 refine wpAny_bind (wpAny_bind (wpAny_onRaise ?_)); show wpAny _ _ (Builtin.SmallTypes.nextOf (.ref i2) >>= _) _ _ _
 refine wpAny_bind (JF (h2.stay fun o e=>s3.extBut _ _ (Ne.symm d9) (s2.extBut _ _ (Ne.symm d10) (s1.extBut _ _ d4 e))) (hl2.stay fun o e=>s3.extBut _ _ o2 (s2.extBut _ _ o3 (s1.extBut _ _ o1 e))) hy fun g4 k2 s4=>wpAny_pure ?_)
 have hTO4:IsPair g4 TO x b:=s4.extBut _ _ d9 hTO3
 refine wpAny_bind (wpAny_seqItems hTO4 rfl (wpAny_bind (wpAny_updateSeq_pair hTO4 fun g5 hTO5 s5=>?_)))
 replace hTO5:IsPair g5 TO x y:=hTO5
 refine wpAny_bind (wpAny_letGo (wpAny_pure (wpAny_pure (wpAny_bind (wpAny_seqItems hTO5 rfl (wpAny_bind (wpAny_newTuple ?_)))))))
 have hsz:g5.objs.size = s.heap.objs.size:=by rw [s5.1,s4.1,s3.1,s2.1,s1.1]
 have hz5:IsZip g5 z TI TO .ellipsis:=s5.extBut _ _ (Ne.symm d2) (s4.extBut _ _ (Ne.symm d4) (s3.extBut _ _ (Ne.symm d2) (s2.extBut _ _ (Ne.symm d3) hz1)))
 have kp:∀ c o,c ∉ [z,TO,i1,i2] -> s.heap.get? c = some o -> g5.get? c = some o:=fun c o hc e=>by
  simp only [List.mem_cons,List.not_mem_nil,or_false,not_or] at hc
  exact s5.extBut _ _ hc.2.1 (s4.extBut _ _ hc.2.2.2 (s3.extBut _ _ hc.2.1 (s2.extBut _ _ hc.2.2.1 (s1.extBut _ _ hc.1 e))))
 have e1:IsIt t1 g5 i1 l1 (k + 1):=k1.stay fun o e=>s5.extBut _ _ (Ne.symm d8) (s4.extBut _ _ d10 (s3.extBut _ _ (Ne.symm d8) e))
 have e2:IsIt t2 g5 i2 l2 (k + 1):=k2.stay fun o e=>s5.extBut _ _ (Ne.symm d9) e
 have zl:z < g5.objs.size:=Heap.lt_size hz5
 show wpAny _ _ (Builtin.SmallTypes.ownedTupleHandOut (.ref z) (.ref g5.objs.size) >>= _) _ _ _; refine wpAny_bind ?_; unfold Builtin.SmallTypes.ownedTupleHandOut
 have hz6:IsZip (g5.push { cls:=.type "tuple",data:=.seq #[x,y] }) z TI TO .ellipsis:=Heap.get?_push_of_some _ hz5
 refine wpAny_bind (wpAny_setField_rec hz6 (by simp) fun g7 hz7 s7=>?_)
 replace hz7:IsZip g7 z TI TO (rawInt g5.objs.size):=hz7
 refine wpAny_setField_rec hz7 (by simp) fun g8 hz8 s8=>?_
 replace hz8:IsZip g8 z TI TO (rawInt g5.objs.size):=hz8
 have up:∀ c o,c ≠ z -> g5.get? c = some o -> g8.get? c = some o:=fun c o hc e=>s8.extBut _ _ hc (s7.extBut _ _ hc (Heap.get?_push_of_some _ e))
 have hT8:IsPair g8 g5.objs.size x y:=s8.extBut _ _ (Nat.ne_of_gt zl) (s7.extBut _ _ (Nat.ne_of_gt zl) (Heap.get?_push_size _ rfl))
 rw [hsz] at hz8 hT8
 refine wpAny_pure ⟨_,rfl,?_⟩; show Q (.ref g5.objs.size) _; rw [hsz]
 exact hQ g8 hz8 (up _ _ d2 hTO5) (e1.stay fun o e=>up _ o d3 e) (e2.stay fun o e=>up _ o d4 e) hT8 fun c o hc e=>up c o (fun q=>hc (by simp [q])) (kp c o hc e)
theorem JnS {Q:Fin -> Shared -> Prop} (hh:A.handled = none) (D:Apart z TI TO i1 i2) (hz:IsZip s.heap z TI TO .none) (hTI:IsPair s.heap TI (.ref i1) (.ref i2)) (hTO:IsPair s.heap TO a b) (h1:IsIt t1 s.heap i1 l1 k) (h2:IsIt t2 s.heap i2 l2 k)
  (hl1:IsSq t1 s.heap l1 xs) (hl2:IsSq t2 s.heap l2 ys) (n1:l1 ∉ [z,TO,i1,i2]) (n2:l2 ∉ [z,TO,i1,i2]) (hend:xs[k]? = none \/ ys[k]? = none)
  (hE:∀ h' e,(∀ c o,c ∉ [z,TO,i1,i2] -> s.heap.get? c = some o -> h'.get? c = some o) -> (∃ o,h'.get? e = some o /\ o.cls = .type "StopIteration") -> E (.ref e) { s with heap:=h' }) :
  wpAny (model prog w) A (Builtin.«zip.__next__» ⟨[.ref z],[]⟩) Q E s:=by
 obtain ⟨d1,d2,d3,d4,d5,d6,d7,d8,d9,d10⟩:=D.ne
 simp only [List.mem_cons,List.not_mem_nil,or_false,not_or] at n1 n2
 obtain ⟨m1,m2,m3,m4⟩:=n1
 obtain ⟨o1,o2,o3,o4⟩:=n2
 show wpAny _ _ (field (.ref z) 2 >>= _) _ _ _; refine wpAny_bind (wpAny_field hz rfl (x:=.bool false) rfl ?_)
 show wpAny _ _ (field (.ref z) 3 >>= _) _ _ _; refine wpAny_bind (wpAny_field hz rfl (x:=.ref TI) rfl (wpAny_bind (wpAny_seqItems hTI rfl ?_)))
 show wpAny _ _ (Builtin.SmallTypes.ownedTupleIsFree (.ref z) >>= _) _ _ _; refine wpAny_bind ?_; unfold Builtin.SmallTypes.ownedTupleIsFree
 refine wpAny_bind (wpAny_field hz rfl (x:=.none) rfl (wpAny_pure ?_)); simp only [if_true]
 refine wpAny_bind (wpAny_rule (wpAny_bind (wpAny_field hz rfl (x:=.ref TO) rfl (wpAny_bind (wpAny_setField_rec hz (by simp) fun g1 hz1 s1=>?_)))))
 replace hz1:IsZip g1 z TI TO .ellipsis:=hz1
 refine wpAny_bind ?_; simp only [List.zipIdx_cons,List.zipIdx_nil,List.forIn_cons,List.forIn_nil]
 refine wpAny_bind (wpAny_bind (wpAny_onRaise ?_)); show wpAny _ _ (Builtin.SmallTypes.nextOf (.ref i1) >>= _) _ _ _
 have hc4:∀ c,c ∉ [z,TO,i1,i2] -> c ≠ z /\ c ≠ TO /\ c ≠ i1 /\ c ≠ i2:=fun c hc=>by simpa [not_or] using hc
 cases hx:xs[k]? with
 | none=>
  refine wpAny_bind (JaC hh (h1.stay fun o e=>s1.extBut _ _ d3 e) (hl1.stay fun o e=>s1.extBut _ _ m1 e) hx fun g2 e s2 he=>?_)
  obtain ⟨oe,hoe,hce⟩:=he
  have hz2:IsZip g2 z TI TO .ellipsis:=s2 _ _ (Ne.symm d3) hz1
  have hez:e ≠ z:=fun q=>by subst q; rw [hz2] at hoe; cases hoe; simp at hce
  exact wpAny_setField_rec hz2 (by simp) fun g3 _ s3=>hE g3 e (fun c o hc q=>s3.extBut _ _ (hc4 c hc).1 (s2 _ _ (hc4 c hc).2.2.1 (s1.extBut _ _ (hc4 c hc).1 q))) ⟨oe,s3.extBut _ _ hez hoe,hce⟩
 | some x=>
  have hy:ys[k]? = none:=by rcases hend with q | q; (· rw [hx] at q; cases q); exact q
  refine wpAny_bind (JF (h1.stay fun o e=>s1.extBut _ _ d3 e) (hl1.stay fun o e=>s1.extBut _ _ m1 e) hx fun g2 k1 s2=>wpAny_pure ?_)
  have hTO2:IsPair g2 TO a b:=s2.extBut _ _ d8 (s1.extBut _ _ d2 hTO)
  refine wpAny_bind (wpAny_seqItems hTO2 rfl (wpAny_bind (wpAny_updateSeq_pair hTO2 fun g3 hTO3 s3=>wpAny_bind (wpAny_letGo (wpAny_pure ?_)))))
  refine wpAny_bind (wpAny_bind (wpAny_onRaise ?_)); show wpAny _ _ (Builtin.SmallTypes.nextOf (.ref i2) >>= _) _ _ _
  refine wpAny_bind (JaC hh (h2.stay fun o e=>s3.extBut _ _ (Ne.symm d9) (s2.extBut _ _ (Ne.symm d10) (s1.extBut _ _ d4 e))) (hl2.stay fun o e=>s3.extBut _ _ o2 (s2.extBut _ _ o3 (s1.extBut _ _ o1 e))) hy fun g4 e s4 he=>?_)
  obtain ⟨oe,hoe,hce⟩:=he
  have hz4:IsZip g4 z TI TO .ellipsis:=s4 _ _ (Ne.symm d4) (s3.extBut _ _ (Ne.symm d2) (s2.extBut _ _ (Ne.symm d3) hz1))
  have hez:e ≠ z:=fun q=>by subst q; rw [hz4] at hoe; cases hoe; simp at hce
  exact wpAny_setField_rec hz4 (by simp) fun g5 _ s5=>hE g5 e (fun c o hc q=>s5.extBut _ _ (hc4 c hc).1 (s4 _ _ (hc4 c hc).2.2.2 (s3.extBut _ _ (hc4 c hc).2.1 (s2.extBut _ _ (hc4 c hc).2.2.1 (s1.extBut _ _ (hc4 c hc).1 q))))) ⟨oe,s5.extBut _ _ hez hoe,hce⟩
end
theorem Jer {X:Cx} {pins:List (Addr × Obj)} {σ:L2.St} {H:Hp} {s:Shared} {t:Bool} {l b:Addr} {zs:List V} (I:L2.Inv X pins σ H s) (h:Sq X.K t H l zs) (hf:FpOk X pins H b):l ≠ b:=by
 rintro rfl
 have mod:∀ o,X.K.lookup l = some o -> False:=fun o e=>by
  have e1:=I.mod.kin l o e
  rcases hf.2.2.2.1 with q | q
  ·exact I.ok.noex l o e1 q
  ·exact absurd (Nat.lt_of_lt_of_le (Heap.lt_size (I.ok.bs l o e1).1) q) (Nat.lt_irrefl _)
 have rd:∀ u,Rd H l u -> False:=fun u q=>by
  rcases q with q | ⟨o,q⟩ <;> (rw [hf.1] at q; cases q)
 cases t
 ·rcases (show SqL X.K H l zs from h) with q | ⟨o,_,_,q,_⟩
  ·exact rd _ q
  ·exact mod o q
 ·rcases (show SqT X.K H l zs from h) with q | ⟨_,o,_,_,_,q,_⟩
  ·exact rd _ (.inl q)
  ·exact mod o q
def Itz (K:PySem.W.Frag) (t1 t2:Bool) (l1 l2:Addr):It:=
 ⟨fun i H=>∃ xs ys x y,Sq K t1 H l1 xs /\ Sq K t2 H l2 ys /\ xs[i]? = some x /\ ys[i]? = some y,
  fun i H x H'=>∃ T u v,H T = none /\ x = .ref T /\ H' = upd H T (.tup [u,v]) /\ (∀ xs,Sq K t1 H l1 xs -> xs[i]? = some u) /\ ∀ ys,Sq K t2 H l2 ys -> ys[i]? = some v,
  fun i H=>∃ xs ys,Sq K t1 H l1 xs /\ Sq K t2 H l2 ys /\ (xs[i]? = none \/ ys[i]? = none)⟩
def ZipSt (z TI TO i1 i2 l1 l2:Addr) (t1 t2:Bool) (i:Nat) (h:Heap):Prop:=IsZip h z TI TO .none /\ IsPair h TI (.ref i1) (.ref i2) /\ (∃ a b,IsPair h TO a b) /\ IsIt t1 h i1 l1 i /\ IsIt t2 h i2 l2 i
theorem JiX {P:Program} {w:World} {K:PySem.W.Frag} {elts:List Expr} {k:Nat} {tpos:Pos} (t1 t2:Bool) (l1 l2 z TI TO i1 i2:Addr) (D:Apart z TI TO i1 i2) :
  Turn P w K (.Tuple elts k tpos) (Itz K t1 t2 l1 l2) [z,TI,TO,i1,i2] z (ZipSt z TI TO i1 i2 l1 l2 t1 t2) where
 mem:=by simp
 obj:=fun i h st b hb=>by
  obtain ⟨h1,h2,⟨a,c,h3⟩,⟨o4,h4,_,h4'⟩,⟨o5,h5,_,h5'⟩⟩:=st
  simp only [List.mem_cons,List.not_mem_nil,or_false] at hb
  rcases hb with rfl | rfl | rfl | rfl | rfl
  ·exact ⟨_,h1,fun v q=>by cases q⟩
  ·exact ⟨_,h2,fun v q=>by cases q⟩
  ·exact ⟨_,h3,fun v q=>by cases q⟩
  ·exact ⟨_,h4,fun v q=>by rw [h4'] at q; cases q⟩
  ·exact ⟨_,h5,fun v q=>by rw [h5'] at q; cases q⟩
 keep:=fun i h h' st q=>let ⟨h1,h2,⟨a,c,h3⟩,h4,h5⟩:=st; ⟨q z (by simp) _ h1,q TI (by simp) _ h2,⟨a,c,q TO (by simp) _ h3⟩,h4.stay fun o e=>q i1 (by simp) o e,h5.stay fun o e=>q i2 (by simp) o e⟩
 item:=by
  intro X hP hw hK hc i pins s σ H E I hf st hg
  subst hP hw hK
  obtain ⟨xs,ys,x,y,q1,q2,hx,hy⟩:=hg
  obtain ⟨its,rv,p1,_⟩:=Jy I q1
  obtain ⟨its2,rv2,p2,_⟩:=Jy I q2
  obtain ⟨u,hu,ru⟩:=rv.get hx
  obtain ⟨v,hv,rw2⟩:=rv2.get hy
  obtain ⟨hz,hTI,⟨a,b,hTO⟩,j1,j2⟩:=st
  have tracked:∀ {t:Bool} {l:Addr} {zs:List V},Sq X.K t H l zs -> l ∉ [z,TO,i1,i2]:=fun {t l zs} q hb=>
   Jer I q (hf l (by simp only [List.mem_cons,List.not_mem_nil,or_false] at hb ⊢; rcases hb with e | e | e | e <;> simp [e])) rfl
  have hT:s.TypeIs (.ref z) "zip":=⟨_,hz,rfl⟩
  unfold pyNext
  refine wpAny_bind (wpAny_attempt (wpAny_callSpecial?_slot (name:=Str.ofString "__next__") hT F.slot_zip_next (wpAny_call_entry F.slot_zip_next hT F.entry_zip_next
   (Jlx D hz hTI hTO j1 j2 p1 p2 (tracked q1) (tracked q2) (x:=u) (y:=v) (by simpa using hu) (by simpa using hv) fun h' a1 a2 a3 a4 a5 a6=>wpAny_pure ?_) (F.args_zip_next_1 _))))
  refine ⟨_,rfl,wpAny_letOwnedTupleGo_zip a1 fun h2 b1 b2=>?_⟩
  obtain ⟨d1,d2,d3,d4,_⟩:=D.ne
  have zl:z < s.heap.objs.size:=Heap.lt_size hz
  have kp:∀ c o,c ∉ [z,TI,TO,i1,i2] -> s.heap.get? c = some o -> h2.get? c = some o:=fun c o hc e=>by
   simp only [List.mem_cons,List.not_mem_nil,or_false,not_or] at hc
   exact (b2.2 c hc.1).trans (a6 c o (by simp [hc]) e)
  have hT2:IsPair h2 s.heap.objs.size u v:=(b2.2 _ (Nat.ne_of_gt zl)).trans a5
  have I2:L2.Inv X pins σ (upd H s.heap.objs.size (.tup [x,y])) { s with heap:=h2,toks:=s.toks }:=
   Jad I hf kp (Nat.le_refl _) ⟨⟨by rw [sizeLine_eq]; show 2 <= _; decide,fun o q=>by rw [show h2.get? s.heap.objs.size = some _ from hT2] at q; cases q; rfl⟩,[u,v],.cons ru (.cons rw2 .nil),_,hT2,rfl,_,rfl⟩
  have hTI2:IsPair h2 TI (.ref i1) (.ref i2):=(b2.2 _ d1).trans (a6 TI _ (by obtain ⟨_,_,_,_,d5,d6,d7,_⟩:=D.ne; simp [d1,d5,d6,d7]) hTI)
  refine ⟨.ref s.heap.objs.size,_,I2,rfl,⟨s.heap.objs.size,x,y,I.hok.fresh (Nat.le_refl _),rfl,rfl,fun zs q=>by rw [Jgi I q q1]; exact hx,fun zs q=>by rw [Jgi I q q2]; exact hy⟩,
   ⟨b1,hTI2,⟨u,v,(b2.2 _ d2).trans a2⟩,a3.stay fun o e=>(b2.2 _ d3).trans e,a4.stay fun o e=>(b2.2 _ d4).trans e⟩,fun b hb=>?_⟩
  have hbl:b < s.heap.objs.size:=by
   simp only [List.mem_cons,List.not_mem_nil,or_false] at hb
   rcases hb with rfl | rfl | rfl | rfl | rfl
   ·exact zl
   ·exact Heap.lt_size hTI
   ·exact Heap.lt_size hTO
   ·exact j1.lt
   ·exact j2.lt
  rw [Jb (Nat.ne_of_lt hbl)]
  exact (hf b hb).1
 done:=by
  intro X hP hw hK hc i pins s σ H E I hf st hg
  subst hP hw hK
  obtain ⟨xs,ys,q1,q2,hx⟩:=hg
  obtain ⟨its,rv,p1,_⟩:=Jy I q1
  obtain ⟨its2,rv2,p2,_⟩:=Jy I q2
  obtain ⟨hz,hTI,⟨a,b,hTO⟩,j1,j2⟩:=st
  have tracked:∀ {t:Bool} {l:Addr} {zs:List V},Sq X.K t H l zs -> l ∉ [z,TO,i1,i2]:=fun {t l zs} q hb=>
   Jer I q (hf l (by simp only [List.mem_cons,List.not_mem_nil,or_false] at hb ⊢; rcases hb with e | e | e | e <;> simp [e])) rfl
  have hT:s.TypeIs (.ref z) "zip":=⟨_,hz,rfl⟩
  unfold pyNext
  refine wpAny_bind (wpAny_attempt (wpAny_callSpecial?_slot (name:=Str.ofString "__next__") hT F.slot_zip_next (wpAny_call_entry F.slot_zip_next hT F.entry_zip_next
   (JnS (show X.A.in1.handled = none from I.ok.hd hc) D hz hTI hTO j1 j2 p1 p2 (tracked q1) (tracked q2) ?_ fun h' e hk he=>?_) (F.args_zip_next_1 _))))
  ·rcases hx with q | q
   ·exact .inl (by simpa using rv.none_of q)
   ·exact .inr (by simpa using rv2.none_of q)
  ·obtain ⟨o,ho,hoc⟩:=he
   refine wpAny_bind (wpAny_isInstance (T:="StopIteration") (b:=true) ⟨o,ho,hoc⟩ isSubtype_stop (wpAny_pure ⟨rfl,Jz (tk:=s.toks) I hf fun c o hc e=>hk c o ?_ e⟩))
   simp only [List.mem_cons,List.not_mem_nil,or_false,not_or] at hc ⊢
   exact ⟨hc.1,hc.2.2.1,hc.2.2.2⟩
 self:=fun A i s Q E st h=>wpAny_pyIter_zip st.1 h
abbrev itObj (t:Bool) (l:Addr):Obj:={ cls:=.type (itName t),data:=.fields #[.ref l,.int 0 0] }
theorem Jar {prog:Program} {w:World} {A:Around} {E:Value -> Shared -> Prop} {s:Shared} {t:Bool} {l:Addr} {xs:Array Value} {Q:Value -> Shared -> Prop} (h:IsSq t s.heap l xs) (hQ:Q (.ref s.heap.objs.size) { s with heap:=s.heap.push (itObj t l) }):wpAny (model prog w) A (pyIter (.ref l)) Q E s:=by
 cases t
 ·exact wpAny_pyIter_list (show s.heap.IsList l xs from h) hQ
 ·exact wpAny_pyIter_tuple (show s.heap.IsTuple l xs from h) hQ
theorem IsSq.push {t:Bool} {h:Heap} {a:Addr} {xs:Array Value} (x:IsSq t h a xs) (o:Obj):IsSq t (h.push o) a xs:=x.stay fun _ e=>Heap.get?_push_of_some _ e
abbrev zh1 (h:Heap) (t:Bool) (l:Addr):Heap:=h.push (itObj t l)
abbrev zh3 (h:Heap) (t1 t2:Bool) (l1 l2:Addr):Heap:=(zh1 (zh1 h t1 l1) t2 l2).push { cls:=.type "tuple",data:=.seq #[.ref h.objs.size,.ref (zh1 h t1 l1).objs.size] }
abbrev zh4 (h:Heap) (t1 t2:Bool) (l1 l2:Addr):Heap:=(zh3 h t1 t2 l1 l2).push { cls:=.type "tuple",data:=.seq #[.none,.none] }
abbrev zipOb (a b:Addr):Obj:={ cls:=.type "zip",data:=.fields #[.none,.bool false,.bool false,.ref a,.ref b] }
abbrev zh5 (h:Heap) (t1 t2:Bool) (l1 l2:Addr):Heap:=(zh4 h t1 t2 l1 l2).push (zipOb (zh1 (zh1 h t1 l1) t2 l2).objs.size (zh3 h t1 t2 l1 l2).objs.size)
theorem Jmg (l1 l2:Addr) (xs ys:Array Value) (t1 t2:Bool) :
  Meets (Builtin.«zip.__new__» ⟨[.type "zip",.ref l1,.ref l2],[]⟩) (fun _ R s=>IsSq t1 s.heap l1 xs /\ IsSq t2 s.heap l2 ys /\ R (.ok (.ret (.ref (zh4 s.heap t1 t2 l1 l2).objs.size))) { s with heap:=zh5 s.heap t1 t2 l1 l2 }):=
 .of_wp fun prog w A R s h=>by
  obtain ⟨hp,g,d,tk,os⟩:=s; obtain ⟨hl1,hl2,h⟩:=h
  have hsub:=sub_zip
  have hL1:IsSq t1 (Shared.heap ⟨hp,g,d,tk,os⟩) l1 xs:=hl1
  have hL2:IsSq t2 (Shared.heap ⟨hp.push (itObj t1 l1),g,d,tk,os⟩) l2 ys:=hl2.push _
  wp_walk using Jar hL1,Jar hL2
  exact ⟨_,rfl,h⟩
end Rd
namespace Rd
open PySem PySem.Spec PyProof.Rows L2 Pu
open AutoSeq1 (wpAny_loadPart')
theorem Jlj (l:Addr) (items:Array Value) (n:Nat) (dct:Option Addr) (sl:Array (Option Value)) :
  Meets (Builtin.«enumerate.__new__» ⟨[.type "enumerate",.ref l],[]⟩) (fun _ R s=>s.heap.get? l = some { cls:=.type "tuple",dict:=dct,data:=.seq items n,slots:=sl } /\
   R (.ok (.ret (.ref (s.heap.push (itObj true l)).objs.size))) { s with heap:=(s.heap.push (itObj true l)).push { cls:=.type "enumerate",data:=.fields #[.none,.bool false,.ref s.heap.objs.size,rawInt 0,.none,.none] } }):=
 .of_wp fun prog w A R s h=>by
  obtain ⟨hp,g,d,tk,os⟩:=s; obtain ⟨hl,h⟩:=h
  have hsub:=sub_enumerate
  have hL:IsSq true (Shared.heap ⟨hp,g,d,tk,os⟩) l items:=(show Heap.IsTuple hp l items from ⟨_,hl,rfl,n,rfl⟩)
  wp_walk using wpAny_loadPart' hl
  refine wpAny_stack_any fun st=>wpAny_pure ?_
  split
  ·rename_i c _ _ _ _ _
   cases (c == Value.type "enumerate") <;> (wp_walk using wpAny_loadPart' hl,Jar hL; exact ⟨_,rfl,h⟩)
  ·wp_walk using wpAny_loadPart' hl,Jar hL; exact ⟨_,rfl,h⟩
section
variable {prog:Program} {w:World} {A:Around} {E:Value -> Shared -> Prop} {s:Shared}
theorem JfX {t:Bool} {l:Addr} {items:Array Value} {Q:Value -> Shared -> Prop} (hL:IsSq t s.heap l items)
  (h:∀ h',IsEnum h' (s.heap.objs.size + 1) s.heap.objs.size 0 .none -> IsIt t h' s.heap.objs.size l 0 -> (∀ b o,s.heap.get? b = some o -> h'.get? b = some o) -> Q (.ref (s.heap.objs.size + 1)) { s with heap:=h' }) :
  wpAny (model prog w) A (PySem.call (.type "enumerate") [.ref l]) Q E s:=by
 cases t with
 | false=>exact call_enumerate_list (show s.heap.IsList l items from hL) fun h' a b _ d=>h h' a b d
 | true=>
  obtain ⟨⟨c,dct,dt,sl⟩,hl,hc,n,hd⟩:=(show s.heap.IsTuple l items from hL)
  replace hc:c = .type "tuple":=hc
  replace hd:dt = .seq items n:=hd
  subst hc hd
  refine callType_new F.called_enumerate (by decide) (F.typeCall_enumerate_1 _) (F.newCall_enumerate_1 _) (fun obj=>F.args_object_init_2 obj _) F.entry_enumerate_new (Jlj l items n dct sl) ⟨hl,?_⟩
  have hz:(s.heap.push (itObj true l)).objs.size = s.heap.objs.size + 1:=Heap.size_push ..
  have he:IsEnum ((s.heap.push (itObj true l)).push { cls:=.type "enumerate",data:=.fields #[.none,.bool false,.ref s.heap.objs.size,rawInt 0,.none,.none] }) (s.heap.objs.size + 1) s.heap.objs.size 0 .none:=by
   have q:=Heap.get?_push_size (s.heap.push (itObj true l)) (o:={ cls:=.type "enumerate",data:=.fields #[.none,.bool false,.ref s.heap.objs.size,rawInt 0,.none,.none] }) rfl
   rw [hz] at q; exact q
  show _ /\ _
  rw [hz]
  exact ⟨⟨_,he,rfl⟩,h _ he ⟨_,Heap.get?_push_of_some _ (Heap.get?_push_size _ rfl),rfl,rfl⟩ fun b o x=>Heap.get?_push_of_some _ (Heap.get?_push_of_some _ x)⟩
theorem JhD {t1 t2:Bool} {l1 l2:Addr} {xs ys:Array Value} {Q:Value -> Shared -> Prop} (hl1:IsSq t1 s.heap l1 xs) (hl2:IsSq t2 s.heap l2 ys)
  (h:∀ h',ZipSt (s.heap.objs.size + 4) (s.heap.objs.size + 2) (s.heap.objs.size + 3) s.heap.objs.size (s.heap.objs.size + 1) l1 l2 t1 t2 0 h' -> (∀ c o,s.heap.get? c = some o -> h'.get? c = some o) -> Q (.ref (s.heap.objs.size + 4)) { s with heap:=h' }) :
  wpAny (model prog w) A (PySem.call (.type "zip") [.ref l1,.ref l2]) Q E s:=by
 refine callType_new F.called_zip (by decide) (F.typeCall_zip_2 _ _) (F.newCall_zip_2 _ _) (fun obj=>F.args_object_init_3 obj _ _) F.entry_zip_new (Jmg l1 l2 xs ys t1 t2) ⟨hl1,hl2,?_⟩
 have z1:(zh1 s.heap t1 l1).objs.size = s.heap.objs.size + 1:=Heap.size_push ..
 have z2:(zh1 (zh1 s.heap t1 l1) t2 l2).objs.size = s.heap.objs.size + 2:=by rw [Heap.size_push,z1]
 have z3:(zh3 s.heap t1 t2 l1 l2).objs.size = s.heap.objs.size + 3:=by rw [Heap.size_push,z2]
 have z4:(zh4 s.heap t1 t2 l1 l2).objs.size = s.heap.objs.size + 4:=by rw [Heap.size_push,z3]
 have p1:∀ (g:Heap) (o o':Obj) (b:Addr),g.get? b = some o -> (g.push o').get? b = some o:=fun g o o' b e=>Heap.get?_push_of_some _ e
 have g5:(zh5 s.heap t1 t2 l1 l2).get? (zh4 s.heap t1 t2 l1 l2).objs.size = some _:=Heap.get?_push_size _ rfl
 have g4:(zh5 s.heap t1 t2 l1 l2).get? (zh3 s.heap t1 t2 l1 l2).objs.size = some _:=p1 _ _ _ _ (Heap.get?_push_size _ rfl)
 have g3:(zh5 s.heap t1 t2 l1 l2).get? (zh1 (zh1 s.heap t1 l1) t2 l2).objs.size = some _:=p1 _ _ _ _ (p1 _ _ _ _ (Heap.get?_push_size _ rfl))
 have g2:(zh5 s.heap t1 t2 l1 l2).get? (zh1 s.heap t1 l1).objs.size = some _:=p1 _ _ _ _ (p1 _ _ _ _ (p1 _ _ _ _ (Heap.get?_push_size _ rfl)))
 have g1:(zh5 s.heap t1 t2 l1 l2).get? s.heap.objs.size = some _:=p1 _ _ _ _ (p1 _ _ _ _ (p1 _ _ _ _ (p1 _ _ _ _ (Heap.get?_push_size _ rfl))))
 show _ /\ _
 rw [z2,z3,z4] at g5
 rw [z1,z2] at g3
 rw [z3] at g4
 rw [z1] at g2
 rw [z4]
 exact ⟨⟨_,g5,rfl⟩,h _ ⟨g5,g3,⟨_,_,g4⟩,⟨_,g1,rfl,rfl⟩,⟨_,g2,rfl,rfl⟩⟩ fun c o x=>p1 _ _ _ _ (p1 _ _ _ _ (p1 _ _ _ _ (p1 _ _ _ _ (p1 _ _ _ _ x))))⟩
end
theorem Jhw {K:PySem.W.Frag} {H:Hp} {d:D} {v:V} {ds:List D} (r:Rep K H d v) (h:d = .tup ds \/ d = .lst ds):∃ t a xs,v = .ref a /\ Sq K t H a xs /\ Reps K H ds xs:=by
 rcases h with rfl | rfl
 ·obtain ⟨a,xs,e,h1,h2⟩:=r; exact ⟨true,a,xs,e,h1,h2⟩
 ·obtain ⟨a,xs,e,h1,h2⟩:=r; exact ⟨false,a,xs,e,h1,h2⟩
theorem JaM:∀ (ds:List D) (k i:Nat),(enumFrom k ds)[i]? = (ds[i]?).map fun d=>.tup [.int ((k + i:Nat):Int),d]
 | [],_,_=>by simp [enumFrom]
 | d :: ds,k,0=>by simp [enumFrom]
 | d :: ds,k,i + 1=>by
  have:=JaM ds (k + 1) i
  simp only [enumFrom,List.getElem?_cons_succ,this]
  rw [show k + 1 + i = k + (i + 1) by omega]
theorem JN:∀ (ds:List D) (k:Nat),(enumFrom k ds).length = ds.length
 | [],_=>rfl
 | d :: ds,k=>by simp [enumFrom,JN ds]
theorem Jfa:∀ (as bs:List D) (i:Nat) (a b:D),as[i]? = some a -> bs[i]? = some b -> (zipD as bs)[i]? = some (.tup [a,b])
 | a :: as,b :: bs,0,_,_,h,h'=>by simp at h h'; simp [zipD,h,h']
 | a :: as,b :: bs,i + 1,_,_,h,h'=>by simpa [zipD] using Jfa as bs i _ _ (by simpa using h) (by simpa using h')
 | [],_,_,_,_,h,_=>by simp at h
 | _ :: _,[],_,_,_,_,h'=>by simp at h'
theorem Jcq:∀ (as bs:List D),(zipD as bs).length = min as.length bs.length
 | [],_=>by simp [zipD]
 | _ :: _,[]=>by simp [zipD]
 | a :: as,b :: bs=>by simp [zipD,Jcq as bs]
section
variable {X:Cx} {pins:List (Addr × Obj)} {σ:L2.St} {H:Hp} {s:Shared}
theorem Jgo (I:L2.Inv X pins σ H s) {t:Bool} {a:Addr} {xs:List V} {ds:List D} (h1:Sq X.K t H a xs) (h2:Reps X.K H ds xs):Walk X.K (Ite X.K t a) H (enumFrom 0 ds):=by
 intro H' sm
 have l:=h2.length
 have h1':=Sq.same sm h1
 have h2':=h2.mono sm
 refine ⟨fun i hi=>?_,⟨xs,h1',by rw [JN]; exact l⟩,fun i x H'' hi ⟨T,v,hT,e1,e2,hv⟩=>?_⟩
 ·rw [JN] at hi
  exact ⟨xs,xs[i]'(by omega),h1',List.getElem?_eq_getElem (by omega)⟩
 ·subst e1; subst e2
  obtain ⟨d,hd,rd⟩:=h2'.get' (hv xs h1')
  obtain ⟨s1,r1⟩:=JdW (K:=X.K) (ds:=[.int i,d]) (xs:=[.int i,v]) hT ⟨_,_,rfl,rfl,_,_,rfl,rd,rfl⟩
  refine ⟨s1,_,by rw [JaM,hd]; rfl,?_⟩
  simpa using r1
theorem Jiw (I:L2.Inv X pins σ H s) {t1 t2:Bool} {a b:Addr} {xs ys:List V} {ds es:List D} (h1:Sq X.K t1 H a xs) (h2:Reps X.K H ds xs) (h3:Sq X.K t2 H b ys) (h4:Reps X.K H es ys):Walk X.K (Itz X.K t1 t2 a b) H (zipD ds es):=by
 intro H' sm
 have l:=h2.length
 have l':=h4.length
 have h1':=Sq.same sm h1
 have h3':=Sq.same sm h3
 refine ⟨fun i hi=>?_,⟨xs,ys,h1',h3',?_⟩,fun i x H'' hi ⟨T,u,v,hT,e1,e2,hu,hv⟩=>?_⟩
 ·rw [Jcq] at hi
  exact ⟨xs,ys,xs[i]'(by omega),ys[i]'(by omega),h1',h3',List.getElem?_eq_getElem (by omega),List.getElem?_eq_getElem (by omega)⟩
 ·rw [Jcq]
  by_cases hh:ds.length <= es.length
  ·exact .inl (List.getElem?_eq_none (by omega))
  ·exact .inr (List.getElem?_eq_none (by omega))
 ·subst e1; subst e2
  obtain ⟨d,hd,rd⟩:=(h2.mono sm).get' (hu xs h1')
  obtain ⟨e,he,re⟩:=(h4.mono sm).get' (hv ys h3')
  obtain ⟨s1,r1⟩:=JdW (K:=X.K) (ds:=[d,e]) (xs:=[u,v]) hT ⟨_,_,rfl,rd,_,_,rfl,re,rfl⟩
  exact ⟨s1,_,Jfa _ _ _ _ _ hd he,r1⟩
theorem Jfs {a:Addr} {xs:List V} {ds:List D} {K:PySem.W.Frag} (h1:SqT K H a xs) (h2:Reps K H ds xs) (inj:∀ H' ys,Same H H' -> SqT K H' a ys -> True):Walk K (Itt K a) H ds:=by
 intro H' sm
 have l:=h2.length
 have h1':=SqT.same sm h1
 refine ⟨fun i hi=>⟨xs,xs[i]'(by omega),h1',List.getElem?_eq_getElem (by omega)⟩,⟨xs,h1',by omega⟩,fun i x H'' hi ⟨e,hx⟩=>?_⟩
 subst e
 obtain ⟨d,hd,rd⟩:=(h2.mono sm).get' (hx xs h1')
 exact ⟨Same.refl _,d,hd,rd⟩
theorem JeD {a:Addr} {xs:List V} {ds:List D} {K:PySem.W.Frag} (h1:SqL K H a xs) (h2:Reps K H ds xs):Walk K (Itl K a) H ds:=by
 intro H' sm
 have l:=h2.length
 have h1':=Same.seq sm h1
 refine ⟨fun i hi=>⟨xs,xs[i]'(by omega),h1',List.getElem?_eq_getElem (by omega)⟩,⟨xs,h1',by omega⟩,fun i x H'' hi ⟨e,hx⟩=>?_⟩
 subst e
 obtain ⟨d,hd,rd⟩:=(h2.mono sm).get' (hx xs h1')
 exact ⟨Same.refl _,d,hd,rd⟩
theorem JbR {lo:Int} {n:Nat} {K:PySem.W.Frag}:Walk K (Itr lo n) H (upTo lo n):=by
 intro H' sm
 have l:(upTo lo n).length = n:=by simp [Pu.upTo]
 refine ⟨fun i hi=>by rw [l] at hi; exact hi,by show n <= _; rw [l]; exact Nat.le_refl _,fun i x H'' hi ⟨e,hx⟩=>?_⟩
 subst e
 refine ⟨Same.refl _,.int (lo + i),?_,hx⟩
 rw [l] at hi
 simp [Pu.upTo,List.getElem?_range hi]
def Its (x:Str):It:=⟨fun i _=>i < x.cps.size,fun i H v H'=>H' = H /\ ∃ c,x.cps[i]? = some c /\ v = .str ⟨#[c]⟩,fun i _=>i = x.cps.size⟩
theorem JiO {x:Str} {K:PySem.W.Frag}:Walk K (Its x) H (chars x):=by
 intro H' sm
 have l:(chars x).length = x.cps.size:=by simp [chars]
 refine ⟨fun i hi=>by rw [l] at hi; exact hi,l,fun i v H'' hi ⟨e,c,hc,hv⟩=>?_⟩
 subst e
 refine ⟨Same.refl _,.str ⟨#[c]⟩,?_,hv⟩
 unfold chars
 rw [List.getElem?_map,Array.getElem?_toList,hc]
 rfl
theorem Jfo {P:Program} {w:World} {A:Around} (hh:A.handled = none) (I:Addr) (x:Str) (t:Tok):Walks P w A I [I] [I] x.cps.size (SignAt x) (fun i h=>h.IsStrIter I (strIterType x) x t i):=by
 cases ha:x.cps.all (· < 128)
 ·rw [show strIterType x = "str_iterator" by simp [strIterType,ha]]; exact Walks.strWide hh I x t
 ·rw [show strIterType x = "str_ascii_iterator" by simp [strIterType,ha]]; exact Walks.strAscii hh I x t
theorem JjE {P:Program} {w:World} {K:PySem.W.Frag} {y:Str} {px:Pos} (x:Str) (t:Tok) (I:Addr):Turn P w K (.Name y px) (Its x) [I] I (fun i h=>h.IsStrIter I (strIterType x) x t i) where
 mem:=by simp
 obj:=fun i h st b hb=>by
  have e:b = I:=by simpa using hb
  subst e
  obtain ⟨o,h1,_,h3⟩:=st
  exact ⟨o,h1,fun v q=>by rw [h3] at q; cases q⟩
 keep:=fun i h h' st k=>let ⟨o,h1,h2⟩:=st; ⟨o,k I (by simp) o h1,h2⟩
 item:=by
  intro X hP hw hK hc i pins s σ H E Iv hf st hg
  subst hP hw hK
  refine (Jfo (Iv.ok.hd hc) I x t).item i s _ _ hg st fun v h' tk hv st' kk=>?_
  obtain ⟨c,u,hcc,rfl⟩:=hv
  have I1:L2.Inv X pins σ H { s with heap:=h',toks:=tk }:=Jz Iv hf fun b o hb e=>kk b o hb e
  exact ⟨_,rfl,wpAny_pure ⟨.str ⟨#[c]⟩,H,I1,⟨u,rfl⟩,⟨rfl,c,hcc,rfl⟩,st',fun b hb=>(hf b hb).1⟩⟩
 done:=by
  intro X hP hw hK hc i pins s σ H E Iv hf st hg
  subst hP hw hK
  have e:i = x.cps.size:=hg
  subst e
  exact (Jfo (Iv.ok.hd hc) I x t).done s _ _ st fun h' tk kk=>⟨rfl,Jz Iv hf fun b o hb e=>kk b o hb e⟩
 self:=fun A i s Q E st h=>by
  cases ha:x.cps.all (· < 128)
  ·rw [show strIterType x = "str_iterator" by simp [strIterType,ha]] at st; exact wpAny_pyIter_striter_wide st h
  ·rw [show strIterType x = "str_ascii_iterator" by simp [strIterType,ha]] at st; exact wpAny_pyIter_striter_ascii st h
end
theorem JjQ {K:PySem.W.Frag} {a:Addr}:ItOk (Itl K a):=fun L i H x H' _ ⟨e,h⟩=>⟨by rw [e],fun xs q=>h xs (hid_same.seq q)⟩
theorem Jkv {K:PySem.W.Frag} {a:Addr}:ItOk (Itt K a):=fun L i H x H' _ ⟨e,h⟩=>⟨by rw [e],fun xs q=>h xs (SqT.same hid_same q)⟩
theorem JeB {lo:Int} {n:Nat}:ItOk (Itr lo n):=fun L i H x H' _ ⟨e,h⟩=>⟨by rw [e],h⟩
theorem JmR {x:Str}:ItOk (Its x):=fun L i H v H' _ ⟨e,h⟩=>⟨by rw [e],h⟩
theorem Jv {L:List Addr} {H:Hp} {T:Addr} (hL:Ows L H) (h:H T = none):T ∉ L:=fun hm=>by
 obtain ⟨o,e,_⟩:=hL T hm
 rw [h] at e; cases e
theorem Jlv {K:PySem.W.Frag} {t:Bool} {a:Addr}:ItOk (Ite K t a):=fun L i H x H' hL ⟨T,v,h1,h2,h3,h4⟩=>by
 have hT:=Jv hL h1
 exact ⟨T,v,by rw [Ji hT]; exact h1,h2,by rw [h3,Jdy hT],fun xs q=>h4 xs (Sq.same hid_same q)⟩
theorem Jnn {K:PySem.W.Frag} {t1 t2:Bool} {a b:Addr}:ItOk (Itz K t1 t2 a b):=fun L i H x H' hL ⟨T,u,v,h1,h2,h3,h4,h5⟩=>by
 have hT:=Jv hL h1
 exact ⟨T,u,v,by rw [Ji hT]; exact h1,h2,by rw [h3,Jdy hT],fun xs q=>h4 xs (Sq.same hid_same q),fun xs q=>h5 xs (Sq.same hid_same q)⟩
section
variable {X:Cx} {call:CallD} {G:Gw} {N:List Str} {nm:List (Str × NameKind)} {a b l:Expr} {p pa pb:Px} {pos p1:Pos} {tg:Expr}
theorem JbJ {y:Str} {px:Pos} (hl:PE X l (tI X call p)):PI X (.Name y px) l (tW X call (.walk p)):=by
 intro pins s σ H R I ⟨env,r,h⟩
 simp only [evD] at h
 refine thn (hl pins s σ H (fun v H'=>∃ d ds,Rep X.K H' d v /\ d.walk = .ok ds /\ Same H H' /\ ∀ J H2,Same H H2 -> Walk X.K J H2 ds -> ItOk J -> R J H2) I ⟨env,r,(Rs.good_bind.mp h).imp fun d hd v H' s1 rv=>?_⟩) fun v s1 ⟨x,H1,I1,r1,d,ds,rd,hw,s2,hR⟩=>?_
 ·cases q:d.walk with
  | ok ds=>
   rw [q] at hd
   obtain ⟨ds',e,hR⟩:=hd
   cases e
   exact ⟨d,ds,rv,q,s1,hR⟩
  | ex c=>exact (JlV q).elim
  | stuck=>rw [q] at hd; exact hd.elim
 cases d with
 | tup es=>
  cases hw
  obtain ⟨a,xs,rfl,h1,h2⟩:=rd
  cases r1
  obtain ⟨its,rv,pt,hz⟩:=I1.tuple h1
  refine wpAny_pyIter_tuple (show s1.heap.IsTuple a its.toArray from pt) ⟨s1.heap.objs.size,[s1.heap.objs.size],_,_,H1,rfl,I1.kept (t':=s1.toks) fun b o e=>Heap.get?_push_of_some _ e,JbO a _,⟨_,Heap.get?_push_size _ rfl,rfl,rfl⟩,fun b hb=>?_,hR _ _ s2 (Jfs h1 h2 fun _ _ _ _=>trivial) Jkv⟩
  have e:b = s1.heap.objs.size:=by simpa using hb
  subst e; exact I1.fpOk (Nat.le_refl _) (I1.hok.fresh (Nat.le_refl _))
 | lst es=>
  cases hw
  obtain ⟨a,xs,rfl,h1,h2⟩:=rd
  cases r1
  obtain ⟨its,rv,pt,hz⟩:=I1.list h1
  refine wpAny_pyIter_list pt.isList ⟨s1.heap.objs.size,[s1.heap.objs.size],_,_,H1,rfl,I1.kept (t':=s1.toks) fun b o e=>Heap.get?_push_of_some _ e,Jda a _,⟨_,Heap.get?_push_size _ rfl,rfl,rfl⟩,fun b hb=>?_,hR _ _ s2 (JeD h1 h2) JjQ⟩
  have e:b = s1.heap.objs.size:=by simpa using hb
  subst e; exact I1.fpOk (Nat.le_refl _) (I1.hok.fresh (Nat.le_refl _))
 | str z=>
  cases hw
  have hx:x = V.str z:=rd
  subst hx
  obtain ⟨t,rfl⟩:=r1
  refine wpAny_pyIter_strU ⟨s1.heap.objs.size,[s1.heap.objs.size],_,_,H1,rfl,I1.kept (t':=s1.toks) fun b o e=>Heap.get?_push_of_some _ e,JjE z t _,⟨_,Heap.get?_push_size _ rfl,rfl,rfl⟩,fun b hb=>?_,hR _ _ s2 JiO JmR⟩
  have e:b = s1.heap.objs.size:=by simpa using hb
  subst e; exact I1.fpOk (Nat.le_refl _) (I1.hok.fresh (Nat.le_refl _))
 | _=>cases hw
theorem JdG {elts:List Expr} {k:Nat} {tp:Pos} (hl:PE X l (tI X call p)):PI X (.Tuple elts k tp) l (tW X call (.walk (.un .rows p))):=by
 intro pins s σ H R I ⟨env,r,h⟩
 simp only [evD,Rs.bind_assoc] at h
 refine thn (hl pins s σ H (fun v H'=>∃ d ds,Rep X.K H' d v /\ (d = .tup ds \/ d = .lst ds) /\ Same H H' /\ ∀ J H2,Same H H2 -> Walk X.K J H2 ds -> ItOk J -> R J H2) I ⟨env,r,(Rs.good_bind.mp h).imp fun d hd v H' s1 rv=>?_⟩) fun v s1 ⟨x,H1,I1,r1,d,ds,rd,hw,s2,hR⟩=>?_
 ·cases d with
  | tup ds=>
   obtain ⟨ds',e,hR⟩:=hd
   cases e
   exact ⟨_,ds,rv,.inl rfl,s1,hR⟩
  | lst ds=>
   obtain ⟨ds',e,hR⟩:=hd
   cases e
   exact ⟨_,ds,rv,.inr rfl,s1,hR⟩
  | _=>exact (show False from hd).elim
 rcases hw with rfl | rfl
 ·obtain ⟨a,xs,rfl,h1,h2⟩:=rd
  cases r1
  obtain ⟨its,rv,pt,hz⟩:=I1.tuple h1
  refine wpAny_pyIter_tuple (show s1.heap.IsTuple a its.toArray from pt) ⟨s1.heap.objs.size,[s1.heap.objs.size],_,_,H1,rfl,I1.kept (t':=s1.toks) fun b o e=>Heap.get?_push_of_some _ e,JbO a _,⟨_,Heap.get?_push_size _ rfl,rfl,rfl⟩,fun b hb=>?_,hR _ _ s2 (Jfs h1 h2 fun _ _ _ _=>trivial) Jkv⟩
  have e:b = s1.heap.objs.size:=by simpa using hb
  subst e; exact I1.fpOk (Nat.le_refl _) (I1.hok.fresh (Nat.le_refl _))
 ·obtain ⟨a,xs,rfl,h1,h2⟩:=rd
  cases r1
  obtain ⟨its,rv,pt,hz⟩:=I1.list h1
  refine wpAny_pyIter_list pt.isList ⟨s1.heap.objs.size,[s1.heap.objs.size],_,_,H1,rfl,I1.kept (t':=s1.toks) fun b o e=>Heap.get?_push_of_some _ e,Jda a _,⟨_,Heap.get?_push_size _ rfl,rfl,rfl⟩,fun b hb=>?_,hR _ _ s2 (JeD h1 h2) JjQ⟩
  have e:b = s1.heap.objs.size:=by simpa using hb
  subst e; exact I1.fpOk (Nat.le_refl _) (I1.hok.fresh (Nat.le_refl _))
theorem Jbp (C:Ctx X G N nm) (ha:PE X a (tI X call pa)) (hg:gloB nm "range" = true) (hm:G.mg "range" = none) (hs:starEach [a] X.env = [(false,eval a X.env)]:=by rfl):PI X tg (.Call (.Name "range" p1) [a] [] pos) (tW X call (.un .range pa)):=by
 intro pins s σ H R I ⟨env,r,h⟩
 simp only [evD] at h
 refine JhY (C.glo _ hg) (by rw [C.mg]; exact hm) (Ja (call:=call) ha Jj hs) hs pins s σ H R I ⟨env,r,?_⟩
 simp only [evD]
 refine Rs.good_bind.mpr ((Rs.good_bind.mp h).imp fun d hd=>?_)
 cases d with
 | int i=>
  simp only [op1] at hd
  split at hd
  ·rename_i hz
   simp only [midI,Bool.and_eq_true,decide_eq_true_eq] at hz
   obtain ⟨ds',e,hR⟩:=hd
   cases e
   refine ⟨[.int i],rfl,fun vs H' s1 rs=>?_⟩
   obtain ⟨v,r',e1,h1,h2⟩:=rs
   cases h2; cases h1; subst e1
   exact ⟨i,rfl,hz.1,hz.2,hR _ _ s1 JbR JeB⟩
  ·exact hd.elim
 | _=>exact (show False from hd).elim
theorem Jme {elts:List Expr} {k:Nat} {tp:Pos} (C:Ctx X G N nm) (ha:PE X a (tI X call pa)) (hg:gloB nm "enumerate" = true) (hm:G.mg "enumerate" = none) (hs:starEach [a] X.env = [(false,eval a X.env)]:=by rfl) :
  PI X (.Tuple elts k tp) (.Call (.Name "enumerate" p1) [a] [] pos) (tW X call (.un .enum pa)):=by
 intro pins s σ H R I ⟨env,r,h⟩
 simp only [evD] at h
 refine Call_ (JbG I (C.glo _ hg) (by rw [C.mg]; exact hm) boot_enumerate (PyProof.Rows.callWith_type1 (thn (Ja (call:=call) ha Jj hs pos pins s σ H (fun vs H'=>∃ d ds v,vs = [v] /\ Rep X.K H' d v /\ (d = .tup ds \/ d = .lst ds) /\ Same H H' /\ ∀ J H2,Same H H2 -> Walk X.K J H2 (enumFrom 0 ds) -> ItOk J -> R J H2) I ⟨env,r,?_⟩) fun us s1 ⟨vs,H1,I1,r1,d,ds,v,e1,rd,hw,s2,hR⟩=>?_) hs rfl))
 ·simp only [evD]
  refine Rs.good_bind.mpr ((Rs.good_bind.mp h).imp fun d hd=>?_)
  refine ⟨[d],rfl,fun vs H' s1 rs=>?_⟩
  obtain ⟨v,r',e1,h1,h2⟩:=rs
  cases h2; subst e1
  cases d with
  | tup ds=>
   obtain ⟨ds',e,hR⟩:=hd
   cases e
   exact ⟨_,ds,v,rfl,h1,.inl rfl,s1,hR⟩
  | lst ds=>
   obtain ⟨ds',e,hR⟩:=hd
   cases e
   exact ⟨_,ds,v,rfl,h1,.inr rfl,s1,hR⟩
  | _=>exact (show False from hd).elim
 subst e1
 obtain ⟨t,l,xs,rfl,q1,q2⟩:=Jhw rd hw
 obtain ⟨u,rfl,ru⟩:=JaP r1
 cases ru
 obtain ⟨its,rv,pt,hz⟩:=Jy I1 q1
 refine JfX pt fun h' he hit kp=>wpAny_pyIter_enum he ⟨s1.heap.objs.size + 1,[s1.heap.objs.size + 1,s1.heap.objs.size],_,_,H1,rfl,I1.kept (t':=s1.toks) kp,JhQ t l s1.heap.objs.size (s1.heap.objs.size + 1) (Nat.succ_ne_self _),⟨⟨_,he⟩,hit⟩,fun b hb=>?_,hR _ _ s2 (Jgo I1 q1 q2) Jlv⟩
 have hb':s1.heap.objs.size <= b:=by
  simp only [List.mem_cons,List.not_mem_nil,or_false] at hb
  rcases hb with rfl | rfl
  ·exact Nat.le_succ _
  ·exact Nat.le_refl _
 exact I1.fpOk hb' (I1.hok.fresh hb')
theorem JnT {elts:List Expr} {k:Nat} {tp:Pos} (C:Ctx X G N nm) (ha:PE X a (tI X call pa)) (hb:PE X b (tI X call pb)) (hg:gloB nm "zip" = true) (hm:G.mg "zip" = none) (hs:starEach [a,b] X.env = (false,eval a X.env) :: starEach [b] X.env:=by rfl)
  (hs2:starEach [b] X.env = [(false,eval b X.env)]:=by rfl):PI X (.Tuple elts k tp) (.Call (.Name "zip" p1) [a,b] [] pos) (tW X call (.bi .zip pa pb)):=by
 intro pins s σ H R I ⟨env,r,h⟩
 simp only [evD] at h
 refine Call_ (JbG I (C.glo _ hg) (by rw [C.mg]; exact hm) boot_zip (PyProof.Rows.callWith_type1 (thn (Ja (call:=call) ha (Ja hb Jj hs2) hs pos pins s σ H (fun vs H'=>∃ d ds v d' es v',vs = [v,v'] /\ Rep X.K H' d v /\ (d = .tup ds \/ d = .lst ds) /\ Rep X.K H' d' v' /\ (d' = .tup es \/ d' = .lst es) /\ Same H H' /\ ∀ J H2,Same H H2 -> Walk X.K J H2 (zipD ds es) -> ItOk J -> R J H2) I ⟨env,r,?_⟩)
  fun us s1 ⟨vs,H1,I1,r1,d,ds,v,d',es,v',e1,rd,hw,rd',hw',s2,hR⟩=>?_) hs (by rw [hs2]; rfl)))
 ·simp only [evD]
  refine Rs.good_bind.mpr ((Rs.good_bind.mp h).imp fun d hd=>?_)
  refine Rs.good_bind.mpr ((Rs.good_bind.mpr ((Rs.good_bind.mp hd).imp fun d' hd'=>?_)))
  refine ⟨[d,d'],rfl,fun vs H' s1 rs=>?_⟩
  obtain ⟨v,r',e1,h1,v',r'',e2,h2,h3⟩:=rs
  cases h3; subst e2; subst e1
  cases d <;> cases d' <;> first
   | exact (show False from hd').elim
   | (obtain ⟨ds',e,hR⟩:=hd'; cases e; exact ⟨_,_,v,_,_,v',rfl,h1,.inl rfl,h2,.inl rfl,s1,hR⟩)
   | (obtain ⟨ds',e,hR⟩:=hd'; cases e; exact ⟨_,_,v,_,_,v',rfl,h1,.inl rfl,h2,.inr rfl,s1,hR⟩)
   | (obtain ⟨ds',e,hR⟩:=hd'; cases e; exact ⟨_,_,v,_,_,v',rfl,h1,.inr rfl,h2,.inl rfl,s1,hR⟩)
   | (obtain ⟨ds',e,hR⟩:=hd'; cases e; exact ⟨_,_,v,_,_,v',rfl,h1,.inr rfl,h2,.inr rfl,s1,hR⟩)
 subst e1
 obtain ⟨t,l,xs,rfl,q1,q2⟩:=Jhw rd hw
 obtain ⟨t',l',ys,rfl,q3,q4⟩:=Jhw rd' hw'
 obtain ⟨u,u',rfl,ru,ru'⟩:=vals2 r1
 cases ru; cases ru'
 obtain ⟨its,rv,pt,hz⟩:=Jy I1 q1
 obtain ⟨its2,rv2,pt2,hz2⟩:=Jy I1 q3
 have ap:Apart (s1.heap.objs.size + 4) (s1.heap.objs.size + 2) (s1.heap.objs.size + 3) s1.heap.objs.size (s1.heap.objs.size + 1):=⟨by simp [List.nodup_cons]⟩
 refine JhD pt pt2 fun h' st kp=>wpAny_pyIter_zip st.1 ⟨s1.heap.objs.size + 4,_,_,_,H1,rfl,I1.kept (t':=s1.toks) kp,JiX t t' l l' _ _ _ _ _ ap,st,fun b hb=>?_,hR _ _ s2 (Jiw I1 q1 q2 q3 q4) Jnn⟩
 have hb':s1.heap.objs.size <= b:=by
  simp only [List.mem_cons,List.not_mem_nil,or_false] at hb
  rcases hb with rfl | rfl | rfl | rfl | rfl <;> first | exact Nat.le_refl _ | exact Nat.le_add_right _ _
 exact I1.fpOk hb' (I1.hok.fresh hb')
end
end Rd
namespace Rd
open PySem PySem.Spec PyProof.Rows L2 Pu
def uni (L:List Addr) (H H1:Hp):Hp:=fun a=>if a ∈ L then H a else H1 a
section
variable {L L':List Addr} {H H' H1:Hp} {a:Addr} {o:HO}
theorem Jo (h:a ∉ L):uni L H H1 a = H1 a:=by unfold uni; rw [if_neg h]
theorem JaH (h:a ∈ L):uni L H H1 a = H a:=by unfold uni; rw [if_pos h]
theorem Jea (h:∀ a ∈ L,H1 a = none):hid L (uni L H H1) = H1:=by
 funext a
 by_cases q:a ∈ L
 ·rw [Jah q,h a q]
 ·rw [Ji q,Jo q]
theorem Jco (s:Same (hid L H) H1):Same H (uni L H H1):=fun a o h=>by
 by_cases q:a ∈ L
 ·rw [JaH q]; exact h
 ·rw [Jo q]; exact s a o (by rw [Ji q]; exact h)
theorem Ows.tup {K:PySem.W.Frag} (h:Ows L H):Tups K H (hid L H):=by
 have nin:∀ b o,H b = some o -> ¬ Chgb o -> b ∉ L:=fun b o e nc hm=>by
  obtain ⟨u,e1,c⟩:=h b hm
  rw [e] at e1; cases e1; exact nc c
 refine ⟨fun b xs q=>?_,fun b o u q=>by rw [Ji (nin b _ q fun z=>z)]; exact q⟩
 rcases q with q | q
 ·exact .inl (by rw [Ji (nin b _ q fun z=>z)]; exact q)
 ·exact .inr q
end
section
variable {X:Cx} {pins ps:List (Addr × Obj)} {σ σ':L2.St} {H H1:Hp} {s s':Shared} {L:List Addr}
theorem Inv.obj (I:L2.Inv X pins σ H s) {a:Addr} {o:HO} (h:H a = some o) (hc:Chgb o):∃ ob,s.heap.get? a = some ob /\ ∀ v,ob.data ≠ .cell v:=by
 have:=I.hok a o h
 cases o with
 | lst xs=>obtain ⟨_,its,n,_,e⟩:=this; exact ⟨_,e,fun v z=>by cases z⟩
 | dK kvs=>obtain ⟨_,_,vs,_,ob,es,ep,e,c,d,_⟩:=this; exact ⟨ob,e,fun v z=>by rw [d] at z; cases z⟩
 | dT kvs=>obtain ⟨_,_,xs,_,ob,es,ep,e,c,d,_⟩:=this; exact ⟨ob,e,fun v z=>by rw [d] at z; cases z⟩
 | _=>exact hc.elim
theorem JeH (I:L2.Inv X pins σ H s):∀ L,Ows L H -> ∃ ps:List (Addr × Obj),ps.map (·.1) = L /\ ∀ p ∈ ps,s.heap.get? p.1 = some p.2 /\ ∀ v,p.2.data ≠ .cell v
 | [],_=>⟨[],rfl,by simp⟩
 | a :: L,h=>by
  obtain ⟨o,e,c⟩:=h a (by simp)
  obtain ⟨ob,e1,e2⟩:=Inv.obj I e c
  obtain ⟨ps,e3,e4⟩:=JeH I L fun b hb=>h b (by simp [hb])
  refine ⟨(a,ob) :: ps,by simp [e3],fun p hp=>?_⟩
  rcases List.mem_cons.mp hp with rfl | hp
  ·exact ⟨e1,e2⟩
  ·exact e4 p hp
theorem Inv.fsFree (I:L2.Inv X pins σ H s) {b:Addr} (hb:b ∈ X.fs):H b = none:=by
 obtain ⟨_,o,ho,_⟩:=I.ok.funs.mem hb
 exact I.base.free b o ho (I.ok.frf b hb) fun z=>I.ok.exfs b z hb
theorem Inv.hide (I:L2.Inv X pins σ H s) (hL:Ows L H):∃ ps:List (Addr × Obj),ps.map (·.1) = L /\ (∀ p ∈ ps,s.heap.get? p.1 = some p.2) /\ L2.Inv X (ps ++ pins) σ (hid L H) s:=by
 obtain ⟨ps,e1,e2⟩:=JeH I L hL
 have hin:∀ p ∈ ps,p.1 ∈ L:=fun p hp=>by rw [<- e1]; exact List.mem_map_of_mem hp
 have nin:∀ b o,H b = some o -> ¬ Chgb o -> b ∉ L:=fun b o e nc hm=>by
  obtain ⟨u,e3,c⟩:=hL b hm
  rw [e] at e3; cases e3; exact nc c
 have hn:∀ b,H b = none -> hid L H b = none:=fun b e=>by unfold hid; split <;> first | rfl | exact e
 refine ⟨ps,e1,fun p hp=>(e2 p hp).1,?_⟩
 exact {
  ok:=I.ok,os:=I.os,bare:=I.bare
  base:=⟨I.base.keep,I.base.slot,fun b o q n x=>hn b (I.base.free b o q n x),I.base.there,fun b xs q=>by
    have:=I.base.tups b xs q
    rw [Ji (nin b _ this fun z=>z)]; exact this,
   fun b o u q=>by
    have:=I.base.frzs b o u q
    rw [Ji (nin b _ this fun z=>z)]; exact this,
   fun b qs q=>by
    obtain ⟨m,this⟩:=I.base.tbls b qs q
    exact ⟨m,by rw [Ji (nin b _ this fun z=>z)]; exact this⟩⟩
  loc:=I.loc,cell:=I.cell,free:=hn _ I.free,freeC:=fun x c e=>hn _ (I.freeC x c e)
  pin:=fun p hp=>by
   have hp':p ∈ ps \/ p ∈ X.pn ++ pins:=by
    simp only [List.mem_append] at hp ⊢
    rcases hp with h | h | h
    ·exact .inr (.inl h)
    ·exact .inl h
    ·exact .inr (.inr h)
   rcases hp' with hp | hp
   ·obtain ⟨o,e3,_⟩:=hL p.1 (hin p hp)
    refine ⟨(e2 p hp).1,Jah (hin p hp),fun z=>?_,fun z=>?_,(e2 p hp).2⟩
    ·rw [z,I.free] at e3; cases e3
    ·rw [Inv.fsFree I z] at e3; cases e3
   ·obtain ⟨q1,q2,q3⟩:=I.pin p hp
    exact ⟨q1,hn _ q2,q3⟩
  hok:=fun a o e=>by
   obtain ⟨h1,h2⟩:=Jcf e
   exact (I.hok a o h2).stay (fun _ _ _ q=>q) (fun b q=>by rw [Ji (nin b _ q fun z=>z)]; exact q) (fun b xs q=>by rw [Ji (nin b _ q fun z=>z)]; exact q) fun b o' u' q=>by rw [Ji (nin b _ q fun z=>z)]; exact q
  len:=I.len }
theorem Inv.unhide (I:L2.Inv X pins σ H s) (hL:Ows L H) (e1:ps.map (·.1) = L) (e2:∀ p ∈ ps,s.heap.get? p.1 = some p.2) (sm:∀ b xs,hid L H b = some (.tup xs) -> H1 b = some (.tup xs)) (I':L2.Inv X (ps ++ pins) σ' H1 s'):(∀ a ∈ L,H1 a = none) /\ L2.Inv X pins σ' (uni L H H1) s':=by
 have nin:∀ b o,H b = some o -> ¬ Chgb o -> b ∉ L:=fun b o e nc hm=>by
  obtain ⟨u,e3,c⟩:=hL b hm
  rw [e] at e3; cases e3; exact nc c
 have pinL:∀ a ∈ L,∃ ob,s.heap.get? a = some ob /\ s'.heap.get? a = some ob /\ H1 a = none:=fun a ha=>by
  rw [<- e1] at ha
  obtain ⟨p,hp,rfl⟩:=List.mem_map.mp ha
  obtain ⟨q1,q2,_⟩:=I'.pin p (by simp [hp])
  exact ⟨p.2,e2 p hp,q1,q2⟩
 have hnL:∀ b,H b = none -> b ∉ L:=fun b e hm=>by
  obtain ⟨o,e3,_⟩:=hL b hm
  rw [e] at e3; cases e3
 have tp:∀ b xs,H b = some (.tup xs) -> uni L H H1 b = some (.tup xs):=fun b xs q=>by
  have hb:=nin b _ q fun z=>z
  rw [Jo hb]; exact sm b _ (by rw [Ji hb]; exact q)
 refine ⟨fun a ha=>let ⟨_,_,_,h⟩:=pinL a ha; h,?_⟩
 exact {
  ok:=I.ok,os:=I'.os,bare:=I'.bare
  base:=⟨I'.base.keep,I'.base.slot,fun b o q n x=>by rw [Jo (hnL b (I.base.free b o q n x))]; exact I'.base.free b o q n x,I'.base.there,
   fun b xs q=>by rw [Jo (nin b _ (I.base.tups b xs q) fun z=>z)]; exact I'.base.tups b xs q,
   fun b o u q=>by rw [Jo (nin b _ (I.base.frzs b o u q) fun z=>z)]; exact I'.base.frzs b o u q,
   fun b qs q=>by
    obtain ⟨m,this⟩:=I.base.tbls b qs q
    rw [Jo (nin b _ this fun z=>z)]; exact I'.base.tbls b qs q⟩
  loc:=I'.loc,cell:=I'.cell
  free:=by rw [Jo (hnL _ I.free)]; exact I'.free
  freeC:=fun x c e=>by rw [Jo (hnL _ (I.freeC x c e))]; exact I'.freeC x c e
  pin:=fun p hp=>by
   obtain ⟨q1,q2,q3⟩:=I'.pin p (by
    simp only [List.mem_append] at hp ⊢
    rcases hp with h | h
    ·exact .inl h
    ·exact .inr (.inr h))
   exact ⟨q1,by rw [Jo (hnL _ (I.pin p hp).2.1)]; exact q2,q3⟩
  hok:=fun a o e=>by
   by_cases ha:a ∈ L
   ·rw [JaH ha] at e
    obtain ⟨u,e3,hc⟩:=hL a ha
    rw [e] at e3; cases e3
    obtain ⟨ob,h1,h2,_⟩:=pinL a ha
    have:=I.hok a o e
    have tr:∀ {x:Obj},s.heap.get? a = some x -> s'.heap.get? a = some x:=fun {x} q=>by rw [h1] at q; cases q; exact h2
    cases o with
    | lst xs=>obtain ⟨z,its,n,r,q⟩:=this; exact ⟨z,its,n,r,tr q⟩
    | dK kvs=>obtain ⟨z,y,vs,r,ob,es,ep,q,c⟩:=this; exact ⟨z,y,vs,r,ob,es,ep,tr q,c⟩
    | dT kvs=>obtain ⟨z,y,xs,r,ob,es,ep,q,c⟩:=this; exact ⟨z,y,xs,Paired.mapP r fun p q z=>⟨z.1,z.2.1.keep tp,z.2.2⟩,ob,es,ep,tr q,c⟩
    | _=>exact hc.elim
   ·rw [Jo ha] at e
    have nz:∀ b o,H1 b = some o -> b ∉ L:=fun b o q hm=>by
     obtain ⟨_,_,_,h⟩:=pinL b hm
     rw [q] at h; cases h
    exact (I'.hok a o e).stay (fun _ _ _ q=>q) (fun b q=>by rw [Jo (nz b _ q)]; exact q) (fun b xs q=>by rw [Jo (nz b _ q)]; exact q) fun b o' u' q=>by rw [Jo (nz b _ q)]; exact q
  len:=I'.len }
end
def OutH (X:Cx) (L:List Addr) (H:Hp) (Q:VK) (d:D):Prop:=∀ v H',Same H H' -> (∀ a ∈ L,H' a = H a) -> Rep X.K (hid L H') d v -> Q v H'
def tH (X:Cx) (call:CallD) (p:Px):TE:=fun σ H Q=>∃ env L,Ows L H /\ ReadOk X.K (hid L H) σ env /\ (evD call p env).Good (OutH X L H Q) (XW X (hid L H))
def OutFH (X:Cx) (L:List Addr) (H:Hp) (Q:VK) (d:D):Prop:=∃ ds,d = .lst ds /\ ∀ l xs H',Same H H' -> (∀ a ∈ L,H' a = H a) -> H l = none -> H' l = some (.lst xs) -> Reps X.K (hid L H') ds xs -> Q (.ref l) H'
def tFH (X:Cx) (call:CallD) (p:Px):TE:=fun σ H Q=>∃ env L,Ows L H /\ ReadOk X.K (hid L H) σ env /\ (evD call p env).Good (OutFH X L H Q) (XW X (hid L H))
section
variable {X:Cx} {call:CallD} {e:Expr} {p:Px}
theorem JcZ (he:PE X e (tI X call p)):PE X e (tH X call p):=by
 intro pins s σ H Q I ⟨env,L,hL,r,h⟩
 obtain ⟨ps,e1,e2,I'⟩:=Inv.hide I hL
 refine wpAny_mono (he (ps ++ pins) s σ (hid L H) (fun v H1=>Same (hid L H) H1 /\ ((∀ a ∈ L,H1 a = none) -> Q v (uni L H H1))) I' ⟨env,r,h.mono (fun d hd v H1 s1 rv=>⟨s1,fun hn=>hd v _ (Jco s1) (fun a ha=>JaH ha) ?_⟩) fun c z=>z⟩)
  (fun u s1 ⟨v,H1,I1,rv,sm,q⟩=>?_) fun _ _ z=>z
 ·rw [Jea hn]; exact rv
 ·obtain ⟨hn,I2⟩:=Inv.unhide I hL e1 e2 (fun b xs q=>sm b _ q) I1
  exact ⟨v,_,I2,rv,q hn⟩
end
def tWH (X:Cx) (call:CallD) (p:Px):TI:=fun σ H R=>∃ env L,Ows L H /\ ReadOk X.K (hid L H) σ env /\ (evD call p env).Good (fun d=>∃ ds,d = .lst ds /\ ∀ J H',Same H H' -> (∀ a ∈ L,H' a = H a) -> Walk X.K J (hid L H') ds -> ItOk J -> R J H') (XW X (hid L H))
section
variable {X:Cx} {call:CallD} {tg iter:Expr} {p:Px}
theorem Joj (hi:PI X tg iter (tW X call p)):PI X tg iter (tWH X call p):=by
 intro pins s σ H R I ⟨env,L,hL,r,h⟩
 obtain ⟨ps,e1,e2,I'⟩:=Inv.hide I hL
 refine wpAny_mono (hi (ps ++ pins) s σ (hid L H) (fun J H1=>Same (hid L H) H1 /\ ((∀ a ∈ L,H1 a = none) -> R J (uni L H H1))) I' ⟨env,r,h.mono (fun d ⟨ds,ed,hd⟩=>⟨ds,ed,fun J H1 s1 w ok=>⟨s1,fun hn=>hd J _ (Jco s1) (fun a ha=>JaH ha) ?_ ok⟩⟩) fun c z=>z⟩)
  (fun v s1 q1=>wpAny_mono q1 (fun itv s2 ⟨it,fp,tn,J,H1,e3,I1,T,t0,hf,sm,q⟩=>?_) fun _ _ z=>z) fun _ _ z=>z
 ·rw [Jea hn]; exact w
 ·obtain ⟨hn,I2⟩:=Inv.unhide I hL e1 e2 (fun b xs q=>sm b _ q) I1
  refine ⟨it,fp,tn,J,_,e3,I2,T,t0,fun b hb=>?_,q hn⟩
  obtain ⟨f0,f1,f2,f3,f4,f5⟩:=hf b hb
  have hbL:b ∉ L:=fun hm=>by
   rw [<- e1] at hm
   obtain ⟨p,hp,rfl⟩:=List.mem_map.mp hm
   exact f5 p (by simp [hp]) rfl
  exact ⟨by rw [Jo hbL]; exact f0,f1,f2,f3,f4,fun p hp=>f5 p (by
   simp only [List.mem_append] at hp ⊢
   rcases hp with h | h
   ·exact .inl h
   ·exact .inr (.inr h))⟩
end
end Rd
namespace Rd
open PySem PySem.Spec PyProof.Rows L2 Pu
def owA (env:Fm) (σ:L2.St) (i:Nat):Option Addr:=match env[i]?,σ[i]? with
 | some (some _),some (some (.ref l))=>some l
 | _,_=>none
def Ow (M:List Nat) (env:Fm) (σ:L2.St):List Addr:=M.filterMap (owA env σ)
theorem owA_iff {env:Fm} {σ:L2.St} {i:Nat} {l:Addr}:owA env σ i = some l ↔ ∃ d,env[i]? = some (some d) /\ σ[i]? = some (some (.ref l)):=by
 unfold owA
 constructor
 ·intro h
  split at h
  ·rename_i d m h1 h2; cases h; exact ⟨d,h1,h2⟩
  ·cases h
 ·rintro ⟨d,h1,h2⟩
  rw [h1,h2]
theorem mem_Ow {M:List Nat} {env:Fm} {σ:L2.St} {l:Addr}:l ∈ Ow M env σ ↔ ∃ i ∈ M,∃ d,env[i]? = some (some d) /\ σ[i]? = some (some (.ref l)):=by
 unfold Ow
 rw [List.mem_filterMap]
 constructor
 ·rintro ⟨i,hi,h⟩; exact ⟨i,hi,owA_iff.mp h⟩
 ·rintro ⟨i,hi,h⟩; exact ⟨i,hi,owA_iff.mpr h⟩
theorem JeO {M:List Nat} {env env':Fm} {σ σ':L2.St} (h:∀ i ∈ M,owA env σ i = owA env' σ' i):Ow M env σ = Ow M env' σ':=by
 unfold Ow
 induction M with
 | nil=>rfl
 | cons i M ih=>simp only [List.filterMap_cons,h i (.head _),ih fun j hj=>h j (.tail _ hj)]
theorem Jln {env:Fm} {σ:L2.St} {i j:Nat} {s:Option D} {t:Option V} (h:j ≠ i):owA (env.set i s) (σ.set i t) j = owA env σ j:=by
 unfold owA
 rw [List.getElem?_set_ne (Ne.symm h),List.getElem?_set_ne (Ne.symm h)]
theorem Jaa {M:List Nat} {env:Fm} {σ:L2.St} {i:Nat} {s:Option D} {t:Option V} (h:i ∉ M):Ow M (env.set i s) (σ.set i t) = Ow M env σ:=JeO fun j hj=>Jln fun e=>h (e ▸ hj)
def OwnIs (K:PySem.W.Frag) (Hh H:Hp) (l:Addr):D -> Prop
 | .lst ds=>∃ xs,H l = some (.lst xs) /\ Reps K Hh ds xs
 | .dct t z ks vs=>z = false /\ ∃ xs,DK H l t false ks xs /\ Reps K Hh vs xs
 | _=>False
theorem OwnIs.mono {K:PySem.W.Frag} {Hh Hh' H H':Hp} {l:Addr} {d:D} (h:OwnIs K Hh H l d) (e:Same Hh Hh') (k:∀ o,H l = some o -> H' l = some o):OwnIs K Hh' H' l d:=by
 cases d with
 | lst ds=>obtain ⟨xs,h1,h2⟩:=h; exact ⟨xs,k _ h1,h2.mono e⟩
 | dct t z ks vs=>obtain ⟨hz,xs,h1,h2⟩:=h; exact ⟨hz,xs,h1.mono k,h2.mono e⟩
 | _=>exact h.elim
theorem OwnIs.chg {K:PySem.W.Frag} {Hh H:Hp} {l:Addr} {d:D} (h:OwnIs K Hh H l d):∃ o,H l = some o /\ Chgb o:=by
 cases d with
 | lst ds=>obtain ⟨xs,h1,h2⟩:=h; exact ⟨_,h1,trivial⟩
 | dct t z ks vs=>
  obtain ⟨hz,xs,h1,h2⟩:=h
  cases t <;> obtain ⟨kvs,h3,_⟩:=h1
  ·exact ⟨_,h3,trivial⟩
  ·exact ⟨_,h3,trivial⟩
 | _=>exact h.elim
theorem OwnIs.rep {K:PySem.W.Frag} {Hh H:Hp} {l:Addr} {d:D} (h:OwnIs K Hh H l d) (e:Same Hh H):Rep K H d (.ref l):=by
 cases d with
 | lst ds=>obtain ⟨xs,h1,h2⟩:=h; exact ⟨l,xs,rfl,SqL.of h1,h2.mono e⟩
 | dct t z ks vs=>obtain ⟨rfl,xs,h1,h2⟩:=h; exact ⟨l,xs,rfl,h1,h2.mono e⟩
 | _=>exact h.elim
structure EnvOk (K:PySem.W.Frag) (M:List Nat) (H0 H:Hp) (σ:L2.St) (env:Fm):Prop where
 same:Same H0 H
 len:σ.length = env.length
 read:∀ (i:Nat) (d:D),i ∉ M -> env[i]? = some (some d) -> ∃ v,σ[i]? = some (some v) /\ Rep K (hid (Ow M env σ) H) d v
 own:∀ (i:Nat) (d:D),i ∈ M -> env[i]? = some (some d) -> ∃ l,σ[i]? = some (some (.ref l)) /\ H0 l = none /\ OwnIs K (hid (Ow M env σ) H) H l d
 apart:∀ (i j:Nat) (l:Addr) (d d':D),i ∈ M -> j ∈ M -> i ≠ j -> env[i]? = some (some d) -> env[j]? = some (some d') -> σ[i]? = some (some (.ref l)) -> σ[j]? ≠ some (some (.ref l))
structure Fz (L:List Addr) (H:Hp) (L':List Addr) (H':Hp):Prop where
 keep:∀ a o,H a = some o -> a ∉ L -> H' a = some o
 own:∀ l ∈ L',l ∈ L \/ H l = none
section
variable {L L1 L2:List Addr} {H H1 H2:Hp}
theorem Fz.of (s:Same H H1) (h:∀ l ∈ L1,l ∈ L \/ H l = none):Fz L H L1 H1:=⟨fun a o e _=>s a o e,h⟩
theorem Fz.sm (s:Same H H1):Fz L H L H1:=.of s fun _ h=>.inl h
theorem Fz.trans (a:Fz L H L1 H1) (b:Fz L1 H1 L2 H2):Fz L H L2 H2 where
 keep:=fun c o e hn=>b.keep c o (a.keep c o e hn) fun hm=>by
  rcases a.own c hm with h | h
  ·exact hn h
  ·rw [e] at h; cases h
 own:=fun l hl=>by
  rcases b.own l hl with h | h
  ·exact a.own l h
  ·by_cases hm:l ∈ L
   ·exact .inl hm
   ·cases q:H l with
    | none=>exact .inr rfl
    | some o=>rw [a.keep l o q hm] at h; cases h
theorem Fz.hid (a:Fz L H L1 H1):Same (hid L H) (hid L1 H1):=JjN fun b o e hn=>⟨a.keep b o e hn,fun hm=>by
 rcases a.own b hm with h | h
 ·exact hn h
 ·rw [e] at h; cases h⟩
end
section
variable {K:PySem.W.Frag} {M:List Nat} {H0 H H':Hp} {σ:L2.St} {env:Fm}
theorem EnvOk.ows (e:EnvOk K M H0 H σ env):Ows (Ow M env σ) H:=fun a ha=>by
 obtain ⟨i,hi,d,h1,h2⟩:=mem_Ow.mp ha
 obtain ⟨l,h3,_,h4⟩:=e.own i d hi h1
 rw [h2] at h3; cases h3
 exact h4.chg
theorem EnvOk.same0 (e:EnvOk K M H0 H σ env):Same H0 (hid (Ow M env σ) H):=fun a o h=>by
 have hn:a ∉ Ow M env σ:=fun ha=>by
  obtain ⟨i,hi,d,h1,h2⟩:=mem_Ow.mp ha
  obtain ⟨l,h3,h0,_⟩:=e.own i d hi h1
  rw [h2] at h3; cases h3
  rw [h] at h0; cases h0
 rw [Ji hn]; exact e.same a o h
theorem EnvOk.readOk (e:EnvOk K M H0 H σ env):ReadOk K H σ env:=fun i d h=>by
 by_cases hi:i ∈ M
 ·obtain ⟨l,h1,_,h2⟩:=e.own i d hi h
  exact ⟨_,h1,h2.rep hid_same⟩
 ·obtain ⟨v,h1,h2⟩:=e.read i d hi h
  exact ⟨v,h1,h2.mono hid_same⟩
theorem EnvOk.readHid (e:EnvOk K M H0 H σ env):ReadOk K (hid (Ow M env σ) H) σ (blankD M 0 env):=fun i d h=>by
 rw [Jbz] at h
 cases q:env[i]? with
 | none=>rw [q] at h; cases h
 | some s=>
  rw [q] at h
  simp only [Option.map_some,Nat.zero_add,Option.some.injEq] at h
  split at h
  ·cases h
  ·rename_i hi
   subst h
   exact e.read i d hi q
theorem EnvOk.grow (e:EnvOk K M H0 H σ env) (s:Same H H'):EnvOk K M H0 H' σ env where
 same:=e.same.trans s
 len:=e.len
 read:=fun i d hi h=>let ⟨v,h1,h2⟩:=e.read i d hi h; ⟨v,h1,h2.mono (Fz.sm s).hid⟩
 own:=fun i d hi h=>let ⟨l,h1,h0,h2⟩:=e.own i d hi h; ⟨l,h1,h0,h2.mono (Fz.sm s).hid (s l)⟩
 apart:=e.apart
theorem Jn {α:Type} {l:List α} {i j:Nat} {a b:α} (h:(l.set i a)[j]? = some b):(j = i /\ b = a /\ i < l.length) \/ (j ≠ i /\ l[j]? = some b):=by
 by_cases q:j = i
 ·subst q
  by_cases hl:j < l.length
  ·rw [List.getElem?_set_self hl] at h; cases h; exact .inl ⟨rfl,rfl,hl⟩
  ·rw [List.getElem?_eq_none (by rw [List.length_set]; omega)] at h; cases h
 ·rw [List.getElem?_set_ne (Ne.symm q)] at h; exact .inr ⟨q,h⟩
theorem EnvOk.put (e:EnvOk K M H0 H σ env) {i:Nat} {d:D} {v:V} (hM:i ∉ M) (r:Rep K (hid (Ow M env σ) H) d v):EnvOk K M H0 H (σ.set i (some v)) (env.set i (some d)) where
 same:=e.same
 len:=by rw [List.length_set,List.length_set]; exact e.len
 read:=fun j d' hj h=>by
  rw [Jaa hM]
  rcases Jn h with ⟨rfl,hd,hl⟩ | ⟨hn,h⟩
  ·cases hd; exact ⟨v,List.getElem?_set_self (by rw [e.len]; exact hl),r⟩
  ·rw [List.getElem?_set_ne (Ne.symm hn)]; exact e.read j d' hj h
 own:=fun j d' hj h=>by
  rw [Jaa hM]
  rcases Jn h with ⟨rfl,_,_⟩ | ⟨hn,h⟩
  ·exact absurd hj hM
  ·rw [List.getElem?_set_ne (Ne.symm hn)]; exact e.own j d' hj h
 apart:=fun j k l d1 d2 hj hk hn h1 h2 h3=>by
  have n1:j ≠ i:=fun z=>hM (z ▸ hj)
  have n2:k ≠ i:=fun z=>hM (z ▸ hk)
  rw [List.getElem?_set_ne (Ne.symm n1)] at h1 h3
  rw [List.getElem?_set_ne (Ne.symm n2)] at h2 ⊢
  exact e.apart j k l d1 d2 hj hk hn h1 h2 h3
theorem Jke {i:Nat} {d:D} {l:Addr} (b:Addr) (h:b ∈ Ow M (env.set i (some d)) (σ.set i (some (.ref l)))):b = l \/ b ∈ Ow M env σ:=by
 obtain ⟨j,hj,d',h1,h2⟩:=mem_Ow.mp h
 by_cases q:j = i
 ·subst q
  by_cases hl:j < σ.length
  ·rw [List.getElem?_set_self hl] at h2; cases h2; exact .inl rfl
  ·rw [List.getElem?_eq_none (by rw [List.length_set]; omega)] at h2; cases h2
 ·rw [List.getElem?_set_ne (Ne.symm q)] at h1 h2
  exact .inr (mem_Ow.mpr ⟨j,hj,d',h1,h2⟩)
theorem EnvOk.putOwn (e:EnvOk K M H0 H σ env) (s:Same H H') {i:Nat} {d:D} {l:Addr} (h0:H l = none) (hl:∀ Hh,Tups K H' Hh -> OwnIs K Hh H' l d) :
  EnvOk K M H0 H' (σ.set i (some (.ref l))) (env.set i (some d)) /\ Fz (Ow M env σ) H (Ow M (env.set i (some d)) (σ.set i (some (.ref l)))) H':=by
 have fz:Fz (Ow M env σ) H (Ow M (env.set i (some d)) (σ.set i (some (.ref l)))) H':=.of s fun b hb=>by
  rcases Jke b hb with rfl | h
  ·exact .inr h0
  ·exact .inl h
 have ows:Ows (Ow M (env.set i (some d)) (σ.set i (some (.ref l)))) H':=fun b hb=>by
  rcases Jke b hb with rfl | h
  ·exact (hl H' (Tups.of (Same.refl _))).chg
  ·obtain ⟨o,h1,h2⟩:=e.ows b h; exact ⟨o,s _ _ h1,h2⟩
 refine ⟨{
  same:=e.same.trans s
  len:=by rw [List.length_set,List.length_set]; exact e.len
  read:=fun j d' hj h=>?_
  own:=fun j d' hj h=>?_
  apart:=fun j k m d1 d2 hj hk hn h1 h2 h3 h4=>?_ },fz⟩
 ·rcases Jn h with ⟨rfl,hd,hz⟩ | ⟨hn,h⟩
  ·cases hd
   exact ⟨.ref l,List.getElem?_set_self (by rw [e.len]; exact hz),(hl _ ows.tup).rep hid_same |> fun r=>by
    have ho:l ∉ Ow M (env.set j (some d)) (σ.set j (some (.ref l))):=fun hm=>by
     obtain ⟨k,hk,d2,k1,k2⟩:=mem_Ow.mp hm
     by_cases q:k = j
     ·exact hj (q ▸ hk)
     ·rw [List.getElem?_set_ne (Ne.symm q)] at k1 k2
      obtain ⟨l',g1,_,g3⟩:=e.own k d2 hk k1
      rw [k2] at g1; cases g1
      obtain ⟨o,g4,_⟩:=g3.chg
      rw [h0] at g4; cases g4
    have:=hl _ (ows.tup)
    cases d with
    | lst ds=>obtain ⟨xs,q1,q2⟩:=this; exact ⟨l,xs,rfl,SqL.of (by rw [Ji ho]; exact q1),q2⟩
    | dct t z ks vs=>obtain ⟨rfl,xs,q1,q2⟩:=this; exact ⟨l,xs,rfl,q1.mono fun o q=>by rw [Ji ho]; exact q,q2⟩
    | _=>exact this.elim⟩
  ·obtain ⟨v,g1,g2⟩:=e.read j d' hj h
   exact ⟨v,by rw [List.getElem?_set_ne (Ne.symm hn)]; exact g1,g2.mono fz.hid⟩
 ·rcases Jn h with ⟨rfl,hd,hz⟩ | ⟨hn,h⟩
  ·cases hd; exact ⟨l,List.getElem?_set_self (by rw [e.len]; exact hz),e.same.free h0,hl _ ows.tup⟩
  ·obtain ⟨m,g1,g0,g2⟩:=e.own j d' hj h
   exact ⟨m,by rw [List.getElem?_set_ne (Ne.symm hn)]; exact g1,g0,g2.mono fz.hid (s m)⟩
 ·have old:∀ q dq,q ∈ M -> q ≠ i -> env[q]? = some (some dq) -> σ[q]? ≠ some (some (.ref l)):=fun q dq hq hqi hqe hqs=>by
   obtain ⟨l',g1,_,g3⟩:=e.own q dq hq hqe
   rw [g1] at hqs; cases hqs
   obtain ⟨o,g4,_⟩:=g3.chg
   rw [h0] at g4; cases g4
  rcases Jn h1 with ⟨q1,_,hz⟩ | ⟨n1,k1⟩
  ·rw [q1,List.getElem?_set_self (by rw [e.len]; exact hz)] at h3
   cases h3
   rcases Jn h2 with ⟨q,_,_⟩ | ⟨n2,k2⟩
   ·exact hn (q1.trans q.symm)
   ·rw [List.getElem?_set_ne (Ne.symm n2)] at h4
    exact old k d2 hk n2 k2 h4
  ·rw [List.getElem?_set_ne (Ne.symm n1)] at h3
   rcases Jn h2 with ⟨q2,_,hz⟩ | ⟨n2,k2⟩
   ·rw [q2,List.getElem?_set_self (by rw [e.len]; exact hz)] at h4
    cases h4
    exact old j d1 hj n1 k1 h3
   ·rw [List.getElem?_set_ne (Ne.symm n2)] at h4
    exact e.apart j k m d1 d2 hj hk hn k1 k2 h3 h4
theorem Jeb {L:List Addr} {l:Addr} {o:HO} (h:l ∈ L):hid L (upd H l o) = hid L H:=by
 funext b
 by_cases q:b ∈ L
 ·rw [Jah q,Jah q]
 ·rw [Ji q,Ji q,Jb (fun z:b = l=>q (by rw [z]; exact h))]
theorem EnvOk.change (e:EnvOk K M H0 H σ env) {i:Nat} {l:Addr} {d d':D} {o:HO} (hi:i ∈ M) (he:env[i]? = some (some d)) (hs:σ[i]? = some (some (.ref l))) (new:OwnIs K (hid (Ow M env σ) H) (upd H l o) l d') :
  EnvOk K M H0 (upd H l o) σ (env.set i (some d')) /\ Fz (Ow M env σ) H (Ow M (env.set i (some d')) σ) (upd H l o):=by
 have hl:l ∈ Ow M env σ:=mem_Ow.mpr ⟨i,hi,d,he,hs⟩
 obtain ⟨l',h1,h0,h2⟩:=e.own i d hi he
 rw [hs] at h1; cases h1
 have iσ:i < env.length:=(List.getElem?_eq_some_iff.mp he).1
 have ow:Ow M (env.set i (some d')) σ = Ow M env σ:=JeO fun j hj=>by
  by_cases q:j = i
  ·subst q
   rw [owA_iff.mpr ⟨d,he,hs⟩]
   exact owA_iff.mpr ⟨d',List.getElem?_set_self iσ,hs⟩
  ·unfold owA
   rw [List.getElem?_set_ne (Ne.symm q)]
 have hh:hid (Ow M (env.set i (some d')) σ) (upd H l o) = hid (Ow M env σ) H:=by rw [ow,Jeb hl]
 refine ⟨⟨fun b ob q=>?_,by rw [List.length_set]; exact e.len,fun j dj hj h=>?_,fun j dj hj h=>?_,fun j k m d1 d2 hj hk hn h1 h2 h3=>?_⟩,⟨fun a ob q hn=>?_,fun b hb=>.inl (by rw [ow] at hb; exact hb)⟩⟩
 ·rw [Jb (Jc q h0)]; exact e.same b ob q
 ·rw [hh]
  rcases Jn h with ⟨rfl,_,_⟩ | ⟨hn,h⟩
  ·exact absurd hi hj
  ·exact e.read j dj hj h
 ·rw [hh]
  rcases Jn h with ⟨rfl,hd,_⟩ | ⟨hn,h⟩
  ·cases hd; exact ⟨l,hs,h0,new⟩
  ·obtain ⟨m,g1,g0,g2⟩:=e.own j dj hj h
   have hne:m ≠ l:=fun z=>e.apart i j l _ _ hi hj (Ne.symm hn) he h hs (z ▸ g1)
   exact ⟨m,g1,g0,g2.mono (Same.refl _) fun ob q=>by rw [Jb hne]; exact q⟩
 ·have back:∀ (q:Nat) (dq:D),(env.set i (some d'))[q]? = some (some dq) -> ∃ dq',env[q]? = some (some dq'):=fun q dq hq=>by
   rcases Jn hq with ⟨rfl,_,_⟩ | ⟨_,hq⟩
   ·exact ⟨_,he⟩
   ·exact ⟨dq,hq⟩
  obtain ⟨e1,k1⟩:=back j d1 h1
  obtain ⟨e2,k2⟩:=back k d2 h2
  exact e.apart j k m e1 e2 hj hk hn k1 k2 h3
 ·rw [Jb (fun z:a = l=>hn (by rw [z]; exact hl))]; exact q
theorem EnvOk.move (e:EnvOk K M H0 H σ env) {i j:Nat} {l:Addr} {ds:List D} (hi:i ∉ M) (hj:j ∈ M) (he:env[j]? = some (some (.lst ds))) (hs:σ[j]? = some (some (.ref l))) :
  EnvOk K M H0 H (σ.set i (some (.ref l))) ((env.set i (some (.lst ds))).set j none) /\ Fz (Ow M env σ) H (Ow M ((env.set i (some (.lst ds))).set j none) (σ.set i (some (.ref l)))) H:=by
 have hij:j ≠ i:=fun z=>hi (z ▸ hj)
 have get:∀ (k:Nat) (d:D),k ≠ i -> ((env.set i (some (.lst ds))).set j none)[k]? = some (some d) -> k ≠ j /\ env[k]? = some (some d):=fun k d hk h=>by
  rcases Jn h with ⟨_,hd,_⟩ | ⟨hn,h⟩
  ·cases hd
  ·rw [List.getElem?_set_ne (Ne.symm hk)] at h; exact ⟨hn,h⟩
 have sub:∀ b ∈ Ow M ((env.set i (some (.lst ds))).set j none) (σ.set i (some (.ref l))),b ∈ Ow M env σ /\ b ≠ l:=fun b hb=>by
  obtain ⟨k,hk,d,h1,h2⟩:=mem_Ow.mp hb
  have hki:k ≠ i:=fun z=>hi (z ▸ hk)
  obtain ⟨n1,g1⟩:=get k d hki h1
  rw [List.getElem?_set_ne (Ne.symm hki)] at h2
  refine ⟨mem_Ow.mpr ⟨k,hk,d,g1,h2⟩,fun z=>?_⟩
  exact e.apart j k l _ _ hj hk (Ne.symm n1) he g1 hs (z ▸ h2)
 have fz:Fz (Ow M env σ) H (Ow M ((env.set i (some (.lst ds))).set j none) (σ.set i (some (.ref l)))) H:=.of (Same.refl _) fun b hb=>.inl (sub b hb).1
 refine ⟨⟨e.same,by rw [List.length_set,List.length_set,List.length_set]; exact e.len,fun k d hk h=>?_,fun k d hk h=>?_,fun k1 k2 m d1 d2 hk1 hk2 hn h1 h2 h3=>?_⟩,fz⟩
 ·by_cases q:k = i
  ·subst q
   rw [List.getElem?_set_ne hij] at h
   rcases Jn h with ⟨_,hd,hl⟩ | ⟨hn,_⟩
   ·cases hd
    obtain ⟨l',g1,g0,xs,g2,g3⟩:=e.own j _ hj he
    rw [hs] at g1; cases g1
    exact ⟨.ref l,List.getElem?_set_self (by rw [e.len]; exact hl),l,xs,rfl,SqL.of (by rw [Ji fun hm=>(sub l hm).2 rfl]; exact g2),g3.mono fz.hid⟩
   ·exact absurd rfl hn
  ·obtain ⟨_,g⟩:=get k d q h
   obtain ⟨v,g1,g2⟩:=e.read k d hk g
   exact ⟨v,by rw [List.getElem?_set_ne (Ne.symm q)]; exact g1,g2.mono fz.hid⟩
 ·have q:k ≠ i:=fun z=>hi (z ▸ hk)
  obtain ⟨_,g⟩:=get k d q h
  obtain ⟨m,g1,g0,g2⟩:=e.own k d hk g
  exact ⟨m,by rw [List.getElem?_set_ne (Ne.symm q)]; exact g1,g0,g2.mono fz.hid fun o z=>z⟩
 ·have q1:k1 ≠ i:=fun z=>hi (z ▸ hk1)
  have q2:k2 ≠ i:=fun z=>hi (z ▸ hk2)
  rw [List.getElem?_set_ne (Ne.symm q1)] at h3
  rw [List.getElem?_set_ne (Ne.symm q2)]
  exact e.apart k1 k2 m d1 d2 hk1 hk2 hn (get k1 d1 q1 h1).2 (get k2 d2 q2 h2).2 h3
end
def Chg (m:Bool) (L:List Addr) (H:Hp) (L':List Addr) (H':Hp):Prop:=Fz L H L' H' /\ (m = false -> Same H H')
section
variable {m n:Bool} {L L1 L2:List Addr} {H H1 H2:Hp}
theorem Chg.of (s:Same H H1):Chg m L H L H1:=⟨Fz.sm s,fun _=>s⟩
theorem Chg.trans (a:Chg m L H L1 H1) (b:Chg n L1 H1 L2 H2):Chg (m || n) L H L2 H2:=⟨a.1.trans b.1,fun h=>by
 simp only [Bool.or_eq_false_iff] at h
 exact (a.2 h.1).trans (b.2 h.2)⟩
theorem Chg.weak (a:Chg m L H L1 H1) (h:n = false -> m = false):Chg n L H L1 H1:=⟨a.1,fun q=>a.2 (h q)⟩
end
def OutS (X:Cx) (M:List Nat) (H0:Hp) (L:List Addr) (H:Hp) (m:Bool) (D:Ends) (r:Fw × Fm):Prop:=match r.1 with
 | .nx=>∀ σ' H',EnvOk X.K M H0 H' σ' r.2 -> Chg m L H (Ow M r.2 σ') H' -> D.nx σ' H'
 | .rt d=>∀ v H',Same H0 H' -> Rep X.K H' d v -> D.rt v H'
 | .bk=>∀ σ' H',EnvOk X.K M H0 H' σ' r.2 -> Chg m L H (Ow M r.2 σ') H' -> D.bk σ' H'
 | .ct=>∀ σ' H',EnvOk X.K M H0 H' σ' r.2 -> Chg m L H (Ow M r.2 σ') H' -> D.ct σ' H'
def tS (X:Cx) (call:CallD) (M:List Nat) (H0:Hp) (p:Sx):TS:=fun D σ H=>∃ env,EnvOk X.K M H0 H σ env /\ (exD call p env).Good (OutS X M H0 (Ow M env σ) H (mutS p) D) (XW X H0)
theorem OutS.after {X:Cx} {M:List Nat} {H0 H H1:Hp} {L L1:List Addr} {m n k:Bool} {D:Ends} {r:Fw × Fm} (h:OutS X M H0 L H k D r) (c:Chg m L H L1 H1) (hk:k = false -> m = false /\ n = false):OutS X M H0 L1 H1 n D r:=by
 obtain ⟨f,e⟩:=r
 have tr:∀ {L':List Addr} {H':Hp},Chg n L1 H1 L' H' -> Chg k L H L' H':=fun c2=>(c.trans c2).weak fun q=>by obtain ⟨a,b⟩:=hk q; rw [a,b]; rfl
 cases f with
 | nx=>exact fun σ' H' e' c'=>h σ' H' e' (tr c')
 | rt d=>exact h
 | bk=>exact fun σ' H' e' c'=>h σ' H' e' (tr c')
 | ct=>exact fun σ' H' e' c'=>h σ' H' e' (tr c')
section
variable {X:Cx} {call:CallD} {M:List Nat} {H0:Hp} {e c:Expr} {p pc:Px} {a b:Sx} {pos:Pos} {st:Stmt} {rest sa sb:List Stmt}
theorem PS.weak {t t':TS} (h:PS X st t) (hm:∀ D σ H,t' D σ H -> t D σ H):PS X st t':=fun pins s σ H D I hw=>h pins s σ H D I (hm D σ H hw)
theorem PSs.weak {sts:List Stmt} {t t':TS} (h:PSs X sts t) (hm:∀ D σ H,t' D σ H -> t D σ H):PSs X sts t':=fun pins s σ H D I hw=>h pins s σ H D I (hm D σ H hw)
theorem Jft:PSs X [] (tS X call M H0 .skip):=PSs.weak JkR fun D σ H ⟨env,e,h⟩=>h σ H e (Chg.of (Same.refl H))
theorem JaO (h:PS X st (tS X call M H0 a)):PSs X [st] (tS X call M H0 a):=Jml h
theorem Jl (h1:PS X st (tS X call M H0 a)) (h2:PSs X rest (tS X call M H0 b)):PSs X (st :: rest) (tS X call M H0 (.seq a b)):=by
 refine PSs.weak (Jjz h1 h2) fun D σ H ⟨env,e,h⟩=>⟨env,e,?_⟩
 simp only [exD] at h
 refine (Rs.good_bind.mp h).imp fun r hr=>?_
 obtain ⟨f,env2⟩:=r
 have wk:mutS (.seq a b) = false -> mutS a = false:=fun q=>by simp only [mutS,Bool.or_eq_false_iff] at q; exact q.1
 cases f with
 | nx=>
  intro σ' H' e' c'
  refine ⟨env2,e',hr.imp fun r2 h2=>h2.after c' fun q=>?_⟩
  simp only [mutS,Bool.or_eq_false_iff] at q
  exact q
 | rt d=>exact hr
 | bk=>exact fun σ' H' e' c'=>hr σ' H' e' (c'.weak wk)
 | ct=>exact fun σ' H' e' c'=>hr σ' H' e' (c'.weak wk)
theorem Jdj (he:PE X e (tI X call p)):PS X (.Return (some e) pos) (tS X call M H0 (.ret p)):=by
 refine PS.weak (Jnr he) fun D σ H ⟨env,e,h⟩=>⟨env,e.readOk,?_⟩
 simp only [exD] at h
 exact (Rs.good_bind.mp h).mono (fun d hd v H' s r=>hd v H' (e.same.trans s) r) fun c z=>z.mono e.same
theorem Jir (hc:PT X c (tT X call pc)) (ha:PSs X sa (tS X call M H0 a)) (hb:PSs X sb (tS X call M H0 b)):PS X (.If c sa sb pos) (tS X call M H0 (.ite pc a b)):=by
 refine PS.weak (ps_if hc ha hb) fun D σ H ⟨env,e,h⟩=>⟨env,e.readOk,?_⟩
 simp only [exD] at h
 refine (Rs.good_bind.mp h).mono (fun d hd=>?_) fun c z=>z.mono e.same
 cases d with
 | bl k=>
  refine ⟨k,rfl,fun H' s=>?_⟩
  have fix:∀ {q:Sx},(mutS (.ite pc a b) = false -> mutS q = false) -> (exD call q env).Good (OutS X M H0 (Ow M env σ) H (mutS (.ite pc a b)) D) (XW X H0) -> tS X call M H0 q D σ H':=fun hm hg=>
   ⟨env,e.grow s,hg.imp fun r hr=>hr.after (m:=false) (Chg.of s) fun z=>⟨rfl,hm z⟩⟩
  cases k with
  | true=>exact iteT (fix (fun z=>by simp only [mutS,Bool.or_eq_false_iff] at z; exact z.1) hd)
  | false=>exact iteF (fix (fun z=>by simp only [mutS,Bool.or_eq_false_iff] at z; exact z.2) hd)
 | _=>exact hd.elim
section
variable {G:Gw} {N:List Str} {nm:List (Str × NameKind)} {x:Str} {i:Nat} {px:Pos}
theorem JhK (hM:i ∉ M) (hsp:sepP M p = true) {D:Ends} {σ:L2.St} {H:Hp} (h:tS X call M H0 (.set false i p) D σ H):tAsg (tH X call p) (gName i) D σ H:=by
 obtain ⟨env,e,h⟩:=h
 simp only [exD,Bool.false_and,Bool.false_eq_true,if_false] at h
 refine ⟨blankD M 0 env,Ow M env σ,e.ows,e.readHid,?_⟩
 rw [JC call env hsp]
 exact (Rs.good_bind.mp h).mono (fun d hd v H' s k r=>hd _ _ ((e.grow s).put hM r) (by rw [Jaa hM]; exact Chg.of s)) fun c z=>z.mono e.same0
theorem JgU {D:Ends} {σ:L2.St} {H:Hp} (h:tS X call M H0 (.own i p) D σ H):tAsg (tF X call p) (gName i) D σ H:=by
 obtain ⟨env,e,h⟩:=h
 simp only [exD] at h
 refine ⟨env,e.readOk,(Rs.good_bind.mp h).mono (fun d hd=>?_) fun c z=>z.mono e.same⟩
 cases d with
 | lst ds=>
  simp only at hd
  split at hd
  ·exact hd.elim
  ·rename_i q
   have him:imms ds = true:=by simpa using q
   refine ⟨ds,rfl,fun l xs H' s q0 q1 q2=>?_⟩
   obtain ⟨e2,f2⟩:=e.putOwn s (i:=i) (d:=.lst ds) q0 fun Hh tp=>⟨xs,q1,Reps.tups tp ds him q2⟩
   exact hd _ _ e2 ⟨f2,fun _=>s⟩
 | _=>exact hd.elim
theorem Jon (C:Ctx X G N nm) (hi:N[i]? = some x) (hx:locB nm x = true) (hM:i ∉ M) (hsp:sepP M p = true) (he:PE X e (tI X call p)) (hs:swapsWith e (some (.Name x px)) pos.line X.env = pure false:=by rfl) :
  PS X (.Assign [.Name x px] e pos) (tS X call M H0 (.set false i p)):=by
 obtain ⟨h1,h2⟩:=C.sto x hx
 exact PS.weak (Jbd (by rw [C.hN]; exact C.nd) (by rw [C.hN]; exact hi) h1 (JcZ he) hs h2) fun D σ H h=>JhK hM hsp h
theorem JnB (C:Ctx X G N nm) (hi:N[i]? = some x) (hx:locB nm x = true) (he:PE X e (tF X call p)) (hs:swapsWith e (some (.Name x px)) pos.line X.env = pure false:=by rfl) :
  PS X (.Assign [.Name x px] e pos) (tS X call M H0 (.own i p)):=by
 obtain ⟨h1,h2⟩:=C.sto x hx
 exact PS.weak (Jbd (by rw [C.hN]; exact C.nd) (by rw [C.hN]; exact hi) h1 he hs h2) fun D σ H h=>JgU h
theorem Jju {m:Bool} {te:TE} (hM:i ∈ M) {D:Ends} {σ:L2.St} {H:Hp} (h:tS X call M H0 (.app m i p) D σ H)
  (hte:∀ env,EnvOk X.K M H0 H σ env -> ∀ Q,(evD call p env).Good (fun d=>∀ v H1,Same H H1 -> (m = true -> d.imm = true) -> Rep X.K (hid (Ow M env σ) H1) d v -> Q v H1) (XW X H0) -> (∀ d,evD call p env = .ok d -> m = true -> d.imm = true) -> te σ H Q) :
  ∃ l,σ[i]? = some (some (.ref l)) /\ (∃ xs,H l = some (.lst xs)) /\ te σ H fun v H1=>∃ xs,H1 l = some (.lst xs) /\ xs.length < sizeLine /\ D.nx σ (upd H1 l (.lst (xs ++ [v]))):=by
 obtain ⟨env,e,h⟩:=h
 simp only [exD] at h
 cases q:env[i]? with
 | none=>rw [q] at h; exact h.elim
 | some o=>
  rw [q] at h
  cases o with
  | none=>exact h.elim
  | some d=>
   cases d with
   | lst ds=>
    obtain ⟨l,hσ,h0,xs,hl,hr⟩:=e.own i _ hM q
    refine ⟨l,hσ,⟨xs,hl⟩,hte env e _ ((Rs.good_bind.mp h).imp fun d hd v H1 s1 him r1=>?_) fun d ed hm=>?_⟩
    ·split at hd
     ·exact hd.elim
     ·rename_i hz
      simp only [Bool.or_eq_true,not_or,Bool.not_eq_true',Bool.not_eq_true,decide_eq_false_iff_not,Decidable.not_not] at hz
      have hl1:=s1 _ _ hl
      have hz2:ds.length < lineD:=by simpa using hz.2
      refine ⟨xs,hl1,by rw [hr.length,sizeLine_eq]; exact hz2,?_⟩
      obtain ⟨e2,f2⟩:=(e.grow s1).change (d':=.lst (ds ++ [d])) (o:=.lst (xs ++ [v])) hM q hσ ⟨_,Jd,(hr.mono (Fz.sm s1).hid).append (Reps.one r1)⟩
      exact hd σ _ e2 ⟨(Fz.sm s1).trans f2,fun z=>by cases z⟩
    ·rw [ed] at h
     simp only [Rs.bind_ok] at h
     split at h
     ·exact h.elim
     ·rename_i hz
      simp only [Bool.or_eq_true,not_or,hm,Bool.true_and] at hz
      simpa using hz.1
   | _=>exact h.elim
theorem Jnp {apos:Pos} (C:Ctx X G N nm) (hi:N[i]? = some x) (hx:visB nm x = true) (hd1:(x == ("__debug__" : Str)) = false) (hd2:(x == ("__classdict__" : Str)) = false) (hM:i ∈ M) (hsp:sepP M p = true) (he:PE X e (tI X call p))
  (hl:(apos.endLine == pos.line) = true) {pos':Pos} (hs:starEach [e] X.env = (false,eval e X.env) :: starEach [] X.env:=by rfl):PS X (.Expr (.Call (.Attribute (.Name x px) "append" apos) [e] [] pos) pos') (tS X call M H0 (.app false i p)):=by
 refine PS.weak (JgF (Jlq PySem.F.plainAttrs_list PySem.F.slot_list_append PySem.F.type_list_append Jge (JbF (by rw [C.hN]; exact hi) (C.vis x hx) hd1 hd2) (Jt (JcZ he) JaN hs) rfl (by rw [hs]; rfl) hl hs rfl) rfl) fun D σ H h=>?_
 obtain ⟨l,hσ,⟨xs,hl⟩,h⟩:=Jju (te:=tH X call p) hM h fun env e Q g _=>⟨blankD M 0 env,Ow M env σ,e.ows,e.readHid,by
  rw [JC call env hsp]
  exact g.mono (fun d hd v H' s k r=>hd v H' s (fun z=>by cases z) r) fun c z=>z.mono e.same0⟩
 obtain ⟨env,L,k1,k2,k3⟩:=h
 refine ⟨.ref l,hσ,.inl ⟨rfl,xs,SqL.of hl⟩,env,L,k1,k2,k3.imp fun d hd v H1 s1 kk r1=>?_⟩
 simp only [tNil]
 obtain ⟨ys,g1,g2,g3⟩:=hd v H1 s1 kk r1
 exact ⟨l,ys,v,rfl,rfl,g1,g2,g3⟩
theorem Jnd {j:Nat} {y:Str} {py:Pos} (C:Ctx X G N nm) (hi:N[i]? = some x) (hx:locB nm x = true) (hM:i ∉ M) (hj:N[j]? = some y) (hy:visB nm y = true) (hd1:(y == ("__debug__" : Str)) = false) (hd2:(y == ("__classdict__" : Str)) = false) (hMj:j ∈ M)
  (hs:swapsWith (.Name y py) (some (.Name x px)) pos.line X.env = pure false:=by rfl):PS X (.Assign [.Name x px] (.Name y py) pos) (tS X call M H0 (.mov i j)):=by
 obtain ⟨h1,h2⟩:=C.sto x hx
 refine PS.weak (Jbd (by rw [C.hN]; exact C.nd) (by rw [C.hN]; exact hi) h1 (JbF (by rw [C.hN]; exact hj) (C.vis y hy) hd1 hd2) hs h2) fun D σ H ⟨env,e,h⟩=>?_
 simp only [exD] at h
 cases q:env[j]? with
 | none=>rw [q] at h; exact h.elim
 | some o=>
  rw [q] at h
  cases o with
  | none=>exact h.elim
  | some d=>
   cases d with
   | lst ds=>
    obtain ⟨l,hσ,h0,_⟩:=e.own j _ hMj q
    obtain ⟨e2,f2⟩:=e.move hM hMj q hσ
    exact ⟨.ref l,hσ,h _ _ e2 ⟨f2,fun _=>Same.refl _⟩⟩
   | _=>exact h.elim
end
end
end Rd
namespace Rd
open PySem PySem.Spec PyProof.Rows L2 Pu
def gS (X:Cx) (M:List Nat) (H0:Hp) (ts:List Nat) (nt:Nat):TG:=fun v σ H Q=>∃ env d new,EnvOk X.K M H0 H σ env /\ Rep X.K (hid (Ow M env σ) H) d v /\ bindT nt d = .ok new /\ ∀ σ',EnvOk X.K M H0 H σ' (setAll ts new env) -> Ow M (setAll ts new env) σ' = Ow M env σ -> Q σ' H
section
variable {X:Cx} {call:CallD} {M:List Nat} {H0:Hp} {G:Gw} {N:List Str} {nm:List (Str × NameKind)} {x y z:Str} {i j l k:Nat} {pos p1 p2 p3:Pos}
theorem JmA (C:Ctx X G N nm) (hi:N[i]? = some x) (hx:locB nm x = true) (hM:i ∉ M):PG X (.Name x pos) (gS X M H0 [i] 0):=by
 obtain ⟨h1,h2⟩:=C.sto x hx
 intro pins s σ H v u Q I r ⟨env,d,new,e,rd,hb,h⟩
 refine JI (pos:=pos) (i:=i) (by rw [C.hN]; exact C.nd) (by rw [C.hN]; exact hi) h1 h2 pins s σ H v u Q I r ?_
 simp only [bindT,if_true] at hb
 cases hb
 exact h _ (e.put hM rd) (Jaa hM)
theorem JmO (C:Ctx X G N nm) (hi:N[i]? = some x) (hx:locB nm x = true) (hM:i ∉ M) (hj:N[j]? = some y) (hy:locB nm y = true) (hM2:j ∉ M):PG X (.Tuple [.Name x p1,.Name y p2] k pos) (gS X M H0 [i,j] 2):=by
 obtain ⟨h1,h2⟩:=C.sto x hx
 obtain ⟨h3,h4⟩:=C.sto y hy
 intro pins s σ H v u Q I r ⟨env,d,new,e,rd,hb,h⟩
 refine Jhp (pos:=pos) C.calm (JJ (JI (i:=i) (pos:=p1) (by rw [C.hN]; exact C.nd) (by rw [C.hN]; exact hi) h1 h2) (JJ (JI (i:=j) (pos:=p2) (by rw [C.hN]; exact C.nd) (by rw [C.hN]; exact hj) h3 h4) Jec)) rfl rfl pins s σ H v u Q I r ?_
 unfold bindT at hb
 rw [if_neg (by decide)] at hb
 cases d with
 | tup ds=>
  dsimp only at hb
  split at hb
  ·rename_i hd
   cases hb
   obtain ⟨a,xs,rfl,hq,hr⟩:=rd
   match ds,hd with
   | [d0,d1],_=>
    obtain ⟨x0,r0,e0,k0,x1,r1,e1,k1,e2⟩:=hr
    subst e1; subst e2; subst e0
    exact ⟨a,[x0,x1],rfl,SqT.same hid_same hq,rfl,x0,[x1],rfl,x1,[],rfl,rfl,h _ ((e.put hM k0).put hM2 (by rw [Jaa hM]; exact k1)) (by rw [show setAll [i,j] ([d0,d1].map some) env = (env.set i (some d0)).set j (some d1) from rfl,Jaa hM2,Jaa hM])⟩
  ·cases hb
 | _=>cases hb
theorem Jiu {body:Sx} {ts:List Nat} {nt:Nat} {D:Ends} {σ:L2.St} {H H1:Hp} {env:Fm} {ds:List Pu.D} {J:It} (e:EnvOk X.K M H0 H1 σ env) (s1:Same H H1)
  (wk:∀ L' H',Chg (mutS body) (Ow M env σ) H1 L' H' -> Ows L' H' -> (∀ i,i < ds.length -> J.go i H') /\ J.stop ds.length H' /\ ∀ i x H'',i < ds.length -> J.yld i H' x H'' -> Same H' H'' /\ ∃ d,ds[i]? = some d /\ Rep X.K (hid L' H'') d x)
  (h:(forL ts nt (exD call body) ds env).Good (OutS X M H0 (Ow M env σ) H (mutS body) D) (XW X H0)) :
  ∃ W:Nat -> Nat -> L2.St -> Hp -> Prop,(∃ m,W 0 m σ H1) /\ ∀ i m σ H,W i m σ H -> (J.stop i H /\ D.nx σ H) \/ (J.go i H /\ ∃ Nn:L2.St -> Hp -> Prop,(∀ σ' H',Nn σ' H' -> ∃ m',m' < m /\ W (i + 1) m' σ' H') /\
   ∀ x H',J.yld i H x H' -> gS X M H0 ts nt x σ H' fun σ2 H2=>tS X call M H0 body { D with nx:=Nn,ct:=Nn,bk:=D.nx } σ2 H2):=by
 refine ⟨fun i m σ' H'=>∃ env',EnvOk X.K M H0 H' σ' env' /\ Chg (mutS body) (Ow M env σ) H1 (Ow M env' σ') H' /\ i <= ds.length /\ m = ds.length - i /\ (forL ts nt (exD call body) (ds.drop i) env').Good (OutS X M H0 (Ow M env σ) H (mutS body) D) (XW X H0),
  ⟨ds.length,env,e,Chg.of (Same.refl _),Nat.zero_le _,rfl,by simpa using h⟩,?_⟩
 rintro i m σ' H' ⟨env',e',c',hi,rfl,hg⟩
 obtain ⟨w1,w2,w3⟩:=wk _ H' c' e'.ows
 have cH:∀ {L':List Addr} {Hz:Hp},Chg (mutS body) (Ow M env σ) H1 L' Hz -> Chg (mutS body) (Ow M env σ) H L' Hz:=fun z=>((Chg.of (m:=false) s1).trans z).weak fun q=>by rw [q]; rfl
 by_cases hlt:i < ds.length
 ·refine .inr ⟨w1 i hlt,fun σ2 H2=>∃ m',m' < ds.length - i /\ ∃ env',EnvOk X.K M H0 H2 σ2 env' /\ Chg (mutS body) (Ow M env σ) H1 (Ow M env' σ2) H2 /\ i + 1 <= ds.length /\ m' = ds.length - (i + 1) /\ (forL ts nt (exD call body) (ds.drop (i + 1)) env').Good (OutS X M H0 (Ow M env σ) H (mutS body) D) (XW X H0),fun σ2 H2 q=>q,fun x H2 hy=>?_⟩
  obtain ⟨s2,d,hd,rd⟩:=w3 i x H2 hlt hy
  rw [JcY hd] at hg
  simp only [forL] at hg
  replace hg:=Rs.good_bind.mp hg
  cases hb:bindT nt d with
  | stuck=>rw [hb] at hg; exact hg.elim
  | ex c=>exact (JeI hb).elim
  | ok new=>
   rw [hb] at hg
   refine ⟨env',d,new,e'.grow s2,rd,hb,fun σ3 e3 ow3=>⟨setAll ts new env',e3,(Rs.good_bind.mp hg).imp fun r hr=>?_⟩⟩
   have c2:Chg (mutS body) (Ow M env σ) H1 (Ow M env' σ') H2:=(c'.trans (n:=false) (Chg.of s2)).weak fun q=>by rw [q]; rfl
   have cc:∀ {L':List Addr} {Hz:Hp},Chg (mutS body) (Ow M (setAll ts new env') σ3) H2 L' Hz -> Chg (mutS body) (Ow M env σ) H1 L' Hz:=fun z=>by
    rw [ow3] at z
    exact (c2.trans z).weak fun q=>by rw [q]; rfl
   obtain ⟨f,env4⟩:=r
   cases f with
   | nx=>exact fun σ4 H4 e4 c4=>⟨_,by omega,env4,e4,cc c4,by omega,rfl,hr⟩
   | ct=>exact fun σ4 H4 e4 c4=>⟨_,by omega,env4,e4,cc c4,by omega,rfl,hr⟩
   | bk=>exact fun σ4 H4 e4 c4=>hr σ4 H4 e4 (cH (cc c4))
   | rt d=>exact hr
 ·have he:i = ds.length:=by omega
  subst he
  rw [List.drop_length] at hg
  exact .inl ⟨w2,hg σ' H' e' (cH c')⟩
variable {tg iter:Expr} {body:List Stmt} {src:Px} {sb:Sx} {ts:List Nat} {nt:Nat}
theorem JeJ (C:Ctx X G N nm) (hp:PassesOwn (model X.prog X.w) X.A X.env X.xe) (hi:PI X tg iter (tW X call src)) (hg:PG X tg (gS X M H0 ts nt)) (hb:PSs X body (tS X call M H0 sb)) (hsp:sepP M src = true)
  (hs:∀ x,foldedSetIterable iter X.env x = pure x:=by intro _; rfl):PS X (.For tg iter body [] pos) (tS X call M H0 (.loop false ts nt src sb)):=by
 refine PS.weak (Jna hp C.calm (Joj hi) hg hb hs) fun D σ H ⟨env,e,h⟩=>⟨blankD M 0 env,Ow M env σ,e.ows,e.readHid,?_⟩
 simp only [exD] at h
 rw [JC call env hsp]
 refine (Rs.good_bind.mp h).mono (fun d hd=>?_) fun c z=>z.mono e.same0
 cases d with
 | lst ds=>
  simp only [Pu.D.asL,Rs.bind_ok,Bool.false_and,Bool.false_eq_true,if_false] at hd
  refine ⟨ds,rfl,fun J H' s1 kk w ok=>Jiu (call:=call) (e.grow s1) s1 (fun L' Hz q ow=>?_) hd⟩
  have sh:Same (hid (Ow M env σ) H') (hid L' Hz):=q.1.hid
  obtain ⟨a1,a2,a3⟩:=w Hz (sh.trans hid_same)
  refine ⟨a1,a2,fun i x H'' hi hy=>⟨(a3 i x H'' hi hy).1,?_⟩⟩
  have hy':=ok L' i Hz x H'' ow hy
  exact ((w _ sh).2.2 i x _ hi hy').2
 | _=>exact hd.elim
end
end Rd
namespace Rd
open PySem PySem.Spec PyProof.Rows L2 Pu
def spI (K:PySem.W.Frag) (mg:Str -> Option Value) (call:CallD) (fi:Nat):Sp:=fun vs H Q E=>∃ ds,Reps K H ds vs /\ (call fi ds).Good (fun d=>∀ v H',Same H H' -> Rep K H' d v -> Q v H') (fun c=>∀ C H',mg c = some (.ref C) -> Same H H' -> E (.ref C) none H')
theorem Room.out {k:Nat} {A:Around} (r:Room k A.in1.in1):Room k A:=⟨r.hd,r.dp,by have:=r.un; simp only [Around.in1] at this; omega⟩
structure Callee (G:Gw) (call:CallD) (fi:Nat) (x:Str):Prop where
 ex:∃ (kk:Nat) (f:Addr) (fd:FuncData) (ps:List Str),FnOk G.prog G.w G.K G.mg G.base (CXr G.prog G.w) kk f fd ps (spI G.K G.mg call fi) /\ Room kk G.A.in1.in1 /\ G.mg x = some (.ref f) /\ PySem.W.keepIn G.K (.ref f) = true /\ Binds G.K fd ps []
section
variable {X:Cx} {call:CallD} {G:Gw} {N:List Str} {nm:List (Str × NameKind)} {e:Expr} {es:List Expr} {p:Px} {pos p1:Pos} {x:Str} {fi:Nat}
theorem JlC (C:Ctx X G N nm) (hc:Callee G call fi x) (hg:gloB nm x = true) (hdb:(x == ("__debug__" : Str)) = false) (ha:PA X (e :: es) (tA X call p)) (he:starEach (e :: es) X.env = (false,eval e X.env) :: starEach es X.env:=by rfl)
  (hpl:(backTo pos (starEach es X.env)).any (·.1) = false:=by rfl):PE X (.Call (.Name x p1) (e :: es) [] pos) (tI X call (.call fi p)):=by
 obtain ⟨kk,f,fd,ps,F,hr,hm,hk,hb⟩:=hc.ex
 have hr:=Room.out hr
 have hG:=C.g
 subst hG
 have hp:Passes (CXr X.prog X.w) X (fun cls _ H'=>∀ C,cls = .ref C -> XE X C H'):=fun pins σ H s e s' I hc=>by
  obtain ⟨a,C,H',rfl,F,hE⟩:=Jjk I hc
  exact hE C rfl a s' F
 refine PE.weak (JkK F hr (C.glo x hg) hm hk hb .nil hp ha hdb he hpl) fun σ H Q ⟨env,r,h⟩=>⟨env,r,?_⟩
 simp only [evD] at h
 refine (Rs.good_bind.mp h).imp fun d hd=>?_
 cases d with
 | lst ds=>
  simp only [D.asL,Rs.bind_ok] at hd
  refine ⟨ds,rfl,fun vs H' s rs=>?_⟩
  show spI X.K X.mg call fi (vs ++ []) H' Q _
  rw [List.append_nil]
  exact ⟨ds,rs,hd.mono (fun d o v H2 s2 rv=>o v H2 (s.trans s2) rv) fun c z C H2 hm2 s2 C' e=>by cases e; exact z C H2 hm2 (s.trans s2)⟩
 | _=>exact hd.elim
end
theorem Jdw {n:Nat} {ds:List D} {i:Nat} {d:D} (h:(startD n ds)[i]? = some (some d)):ds[i]? = some d:=by
 unfold startD at h
 by_cases hi:i < ds.length
 ·rw [List.getElem?_append_left (by simpa using hi),List.getElem?_map] at h
  cases q:ds[i]? with
  | none=>rw [q] at h; cases h
  | some d'=>rw [q] at h; cases h; rfl
 ·rw [List.getElem?_append_right (by simpa using hi),List.getElem?_replicate] at h
  split at h <;> cases h
section
variable {P:Program} {w:World} {K:PySem.W.Frag} {mg:Str -> Option Value} {base:Heap} {defs:List DefD} {fi k:Nat} {d:DefD}
theorem Jgu {H:Hp} {N:List Str} {ds:List D} {vs:List V} {M:List Nat} (hs:d.slots = N.length) (hl:ds.length <= N.length) (hM:∀ i ∈ M,ds.length <= i) (r:Reps K H ds vs):EnvOk K M H H (L2.start N vs) (startD d.slots ds):=by
 have l:=r.length
 have get:∀ (i:Nat) (dd:D),(startD d.slots ds)[i]? = some (some dd) -> ∃ v,(L2.start N vs)[i]? = some (some v) /\ Rep K H dd v:=fun i dd h=>by
  have h':=Jdw h
  obtain ⟨v,h1,h2⟩:=r.get h'
  refine ⟨v,?_,h2⟩
  have hi:i < vs.length:=(List.getElem?_eq_some_iff.mp h1).1
  unfold L2.start
  rw [List.getElem?_append_left (by simpa using hi),List.getElem?_map,h1]
  rfl
 have no:∀ (i:Nat) (dd:D),i ∈ M -> (startD d.slots ds)[i]? = some (some dd) -> False:=fun i dd hi h=>by
  have h':=Jdw h
  have:=(List.getElem?_eq_some_iff.mp h').1
  have:=hM i hi
  omega
 have ow:Ow M (startD d.slots ds) (L2.start N vs) = []:=by
  cases q:Ow M (startD d.slots ds) (L2.start N vs) with
  | nil=>rfl
  | cons b t=>
   obtain ⟨i,hi,dd,h1,_⟩:=mem_Ow.mp (show b ∈ Ow M (startD d.slots ds) (L2.start N vs) by rw [q]; simp)
   exact (no i dd hi h1).elim
 refine ⟨Same.refl H,?_,fun i dd _ h=>by rw [ow,JlJ]; exact get i dd h,fun i dd hi h=>(no i dd hi h).elim,fun i j l d1 d2 hi _ _ h=>(no i d1 hi h).elim⟩
 unfold L2.start startD
 rw [List.length_append,List.length_append,List.length_map,List.length_map,List.length_replicate,List.length_replicate,hs,l]
structure HX (X:Cx) (nm:List (Str × NameKind)):Prop where
 sc:X.env.scope.names = nm
 pass:PassesOwn (model X.prog X.w) X.A X.env X.xe
 stk:X.stack = X.env :: X.outer
 frm:X.env.frame = some X.env.locals
 ex:X.ex = []
theorem fn_ok {j:Nat} {x qual:Str} {st:Stmt} {f:Addr} {fd:FuncData} {N ps:List Str} {M:List Nat} (F:Fun K x qual st f fd) (S:FnScope N ps (defScope st)) (hd:defs[fi]? = some d) (hs:d.slots = N.length) (hp:d.params = ps.length) (hM:∀ i ∈ M,ps.length <= i) (hpN:ps.length <= N.length)
  (hbody:∀ (X:Cx) (A:Around) (H0:Hp),Ctx X ⟨P,w,K,mg,base,A⟩ N (defScope st).names -> Room j A -> HX X (defScope st).names -> PSs X (defBody st) (tS X (runD defs k) M H0 d.body)) :
  FnOk P w K mg base (CXr P w) (j + 1) f fd ps (spI K mg (runD defs (k + 1)) fi):=by
 have unf:∀ ds,runD defs (k + 1) fi ds = if ds.length = d.params then answerD (exD (runD defs k) d.body (startD d.slots ds)) else .stuck:=fun ds=>by
  simp only [runD,hd]
 obtain ⟨oc,od,kV,doc,pm,an,cdv,ct,osl,rfl,lk,hcd⟩:=F.ex
 refine fn_of lk hcd S (fun vs H Q E h=>?_) (fun A outer s H vs Q E hr h=>?_)
 ·obtain ⟨ds,r,g⟩:=h
  rw [unf] at g
  split at g
  ·rename_i q
   rw [r.length,q,hp]
  ·exact g.elim
 ·obtain ⟨ds,r,g⟩:=h
  rw [unf] at g
  split at g
  ·rename_i q
   have C:Ctx (cxOf (CXr P w) P w K mg base N qual (defScope st) f cdv A outer s H E) ⟨P,w,K,mg,base,A.deeper (envOfC qual (defScope st) s.heap.objs.size f cdv)⟩ N (defScope st).names:={
    g:=rfl
    hN:=rfl
    nd:=S.nd
    vis:=fun y hy=>by
     show Vis (defScope st) y
     unfold visB at hy
     split at hy
     ·rename_i z; exact .inl z
     ·rename_i z; exact .inr (.inl z)
     ·rename_i z; exact .inr (.inr z)
     ·cases hy
    cel:=fun y hy=>by
     show (defScope st).names.lookup y = some .cell \/ (defScope st).names.lookup y = some .free
     unfold celB at hy
     split at hy
     ·rename_i z; exact .inl z
     ·rename_i z; exact .inr z
     ·cases hy
    glo:=fun y hy=>by
     show (defScope st).names.lookup y = some .globalImplicit
     unfold gloB at hy
     split at hy
     ·rename_i z; exact z
     ·cases hy
    sto:=fun y hy=>by
     show Loc (defScope st) y /\ (true = true \/ _)
     unfold locB at hy
     split at hy
     ·rename_i z; exact ⟨.inl z,.inl rfl⟩
     ·rename_i z; exact ⟨.inr z,.inl rfl⟩
     ·cases hy
    calm:=rfl
    un:=hr.units
    fr:=⟨_,_,_,rfl,rfl,rfl⟩ }
   refine ⟨_,hbody _ _ H C hr ⟨rfl,PassesOwn.leaving,rfl,rfl,rfl⟩,startD d.slots ds,Jgu hs (by omega) (fun i hi=>by have:=hM i hi; omega) r,?_⟩
   cases q2:exD (runD defs k) d.body (startD d.slots ds) with
   | ok r2=>
    rw [q2] at g
    obtain ⟨fl,env2⟩:=r2
    cases fl with
    | nx=>exact fun σ' H' e' _=>g .non H' e'.same rfl
    | rt dd=>exact fun v H' s' r'=>g v H' s' r'
    | bk=>exact g.elim
    | ct=>exact g.elim
   | ex c=>
    rw [q2] at g
    exact fun C2 H2 hm s2 a s' F=>JiJ F (g C2 H2 hm s2)
   | stuck=>rw [q2] at g; exact g.elim
  ·exact g.elim
theorem JlL {f:Addr} {fd:FuncData} {ps:List Str}:FnOk P w K mg base (CXr P w) 0 f fd ps (spI K mg (runD defs 0) fi):=
 ⟨fun vs H Q E ⟨_,_,h⟩=>h.elim,fun A outer s H args us vs Q E _ _ _ _ ⟨_,_,h⟩=>h.elim⟩
end
section
variable {X:Cx} {call:CallD} {M:List Nat} {H0:Hp} {e:Expr} {p:Px} {pos:Pos} {G:Gw} {N:List Str} {nm:List (Str × NameKind)} {x:Str} {i:Nat} {px:Pos}
open PySem.AutoSeq1 in
theorem JfU (t:Bool) (l:Addr) (items:Array Value) (n:Nat) (b:Addr) (items2:Array Value) (hs0:¬(!items.isEmpty && Builtin.List.listTooLong (items.size + items2.size)) = true) (hs1:items.size <= sizeLine) (hs2:items.size + items2.size <= sizeLine + 1) :
  Meets (Builtin.«list.extend» ⟨[.ref l,.ref b],[]⟩) (fun _ R s=>s.heap.get? l = some { cls:=.type "list",dict:=none,data:=.seq items n,slots:=#[] } /\ (∃ dd n2 sl,s.heap.get? b = some { cls:=.type (if t then "tuple" else "list"),dict:=dd,data:=.seq items2 n2,slots:=sl }) /\ R (.ok (.ret Value.none)) { s with heap:=s.heap.update l (Obj.mapSeq fun x=>x ++ items2),toks:=s.toks }):=
 .of_wp fun prog w A R s h=>by
  obtain ⟨hp,g,d,tk,os⟩:=s; obtain ⟨hl,⟨dd,n2,sl,hb⟩,h⟩:=h; have f1:=AutoSeq1.idx_int; have f2:=AutoSeq1.sub_tuple_tuple; have f3:=AutoSeq1.sub_list_list; have f4:=AutoSeq1.sub_tuple_list; have f5:=AutoSeq1.sub_list_tuple
  have hz':(items ++ items2).size <= sizeLine + 1:=by rw [Array.size_append]; exact hs2
  cases t with
  | true=>
   simp only [if_true] at hb
   wp_walk using (wpAny_updateSeq hl rfl (hz:=hs1) (_hz':=hz')),wpAny_loadPart' hl,wpAny_loadPart' hb; exact ⟨_,rfl,h⟩
  | false=>
   simp only [Bool.false_eq_true,if_false] at hb
   wp_walk using (wpAny_updateSeq hl rfl (hz:=hs1) (_hz':=hz')),wpAny_loadPart' hl,wpAny_loadPart' hb; exact ⟨_,rfl,h⟩
def rExtS (K:PySem.W.Frag):V -> List V -> Hp -> VK -> Prop:=fun x vs H Q=>∃ l b xs zs,x = .ref l /\ vs = [.ref b] /\ H l = some (.lst xs) /\ (SqL K H b zs \/ SqT K H b zs) /\ xs.length + zs.length <= sizeLine /\ Q .non (upd H l (.lst (xs ++ zs)))
theorem JlS:MtM X "list.extend" (rExtS X.K):=by
 intro pins s σ H x vs v us Q I rx rv h
 obtain ⟨l,b,xs,zs,rfl,rfl,hH,hB,hz,q⟩:=h
 cases rx
 obtain ⟨u,rfl,ru⟩:=rv.one
 cases ru
 obtain ⟨z,its,n,r,hl,e⟩:=I.lstM hH
 obtain ⟨t,its2,r2,hb⟩:∃ (t:Bool) (its2:List Value),Vals zs its2 /\ ∃ dd n2 sl,s.heap.get? b = some { cls:=.type (if t then "tuple" else "list"),dict:=dd,data:=.seq its2.toArray n2,slots:=sl }:=by
  rcases hB with h | h
  ·obtain ⟨its2,r2,⟨o,n2,e2,c2,d2,k2⟩,_⟩:=I.list h
   obtain ⟨c,dd,da,sl⟩:=o
   simp only at c2 k2
   subst c2; subst k2
   exact ⟨false,its2,r2,dd,n2,sl,e2⟩
  ·obtain ⟨its2,r2,⟨o,e2,c2,n2,k2⟩,_⟩:=I.tuple h
   obtain ⟨c,dd,da,sl⟩:=o
   simp only at c2 k2
   subst c2; subst k2
   exact ⟨true,its2,r2,dd,n2,sl,e2⟩
 have hl2:=r2.length
 have hsz:its.toArray.size + its2.toArray.size <= sizeLine:=by rw [List.size_toArray,List.size_toArray]; omega
 have hlong:¬ (!its.toArray.isEmpty && Builtin.List.listTooLong (its.toArray.size + its2.toArray.size)) = true:=by
  rw [Jfw hsz,Bool.and_false]
  exact Bool.false_ne_true
 refine call_meets F.slot_list_extend ⟨_,e,rfl⟩ F.entry_list_extend (F.args_list_extend_2 _ _)
  (JfU t l its.toArray n b its2.toArray hlong (by rw [List.size_toArray]; omega) (by omega)) ⟨e,hb,?_⟩
 refine ⟨.non,_,I.lset (its':=its ++ its2) hH e (by simp) (r.append r2) ?_,rfl,q⟩
 rw [List.length_append]
 omega
theorem Jjs {m:Bool} (hM:i ∈ M) {D:Ends} {σ:L2.St} {H:Hp} (h:tS X call M H0 (.ext m i p) D σ H) :
  ∃ env l xs,EnvOk X.K M H0 H σ env /\ σ[i]? = some (some (.ref l)) /\ H l = some (.lst xs) /\ (evD call p env).Good (fun d=>∃ es,d = .lst es /\ (m = true -> imms es = true) /\ ∀ zs H1,Same H H1 -> Reps X.K (hid (Ow M env σ) H1) es zs -> ∃ ys,H1 l = some (.lst ys) /\ ys.length + zs.length <= sizeLine /\ D.nx σ (upd H1 l (.lst (ys ++ zs)))) (XW X H0):=by
 obtain ⟨env,e,h⟩:=h
 simp only [exD] at h
 cases q:env[i]? with
 | none=>rw [q] at h; exact h.elim
 | some o=>
  rw [q] at h
  cases o with
  | none=>exact h.elim
  | some d=>
   cases d with
   | lst ds=>
    obtain ⟨l,hσ,h0,xs,hl,hr⟩:=e.own i _ hM q
    refine ⟨env,l,xs,e,hσ,hl,(Rs.good_bind.mp h).imp fun d hd=>?_⟩
    cases d with
    | lst es=>
     simp only [Pu.D.asL,Rs.bind_ok] at hd
     split at hd
     ·exact hd.elim
     ·rename_i hz
      simp only [Bool.or_eq_true,not_or,Bool.not_eq_true,Bool.and_eq_false_iff] at hz
      have hz2:ds.length + es.length <= lineD:=by simpa using hz.2
      refine ⟨es,rfl,fun hm=>?_,fun zs H1 s1 r1=>⟨xs,s1 _ _ hl,by rw [hr.length,r1.length,sizeLine_eq]; exact hz2,?_⟩⟩
      ·rcases hz.1 with z | z
       ·rw [hm] at z; cases z
       ·simpa using z
      ·obtain ⟨e2,f2⟩:=(e.grow s1).change (d':=.lst (ds ++ es)) (o:=.lst (xs ++ zs)) hM q hσ ⟨_,Jd,(hr.mono (Fz.sm s1).hid).append r1⟩
       exact hd σ _ e2 ⟨(Fz.sm s1).trans f2,fun z=>by cases z⟩
    | _=>exact hd.elim
   | _=>exact h.elim
theorem Jmm {apos:Pos} (C:Ctx X G N nm) (hi:N[i]? = some x) (hx:visB nm x = true) (hd1:(x == ("__debug__" : Str)) = false) (hd2:(x == ("__classdict__" : Str)) = false) (hM:i ∈ M) (hsp:sepP M p = true) (he:PE X e (tI X call p))
  (hl:(apos.endLine == pos.line) = true) {pos':Pos} (hs:starEach [e] X.env = (false,eval e X.env) :: starEach [] X.env:=by rfl):PS X (.Expr (.Call (.Attribute (.Name x px) "extend" apos) [e] [] pos) pos') (tS X call M H0 (.ext false i (.walk (.un .rows p)))):=by
 refine PS.weak (JgF (Jlq PySem.F.plainAttrs_list PySem.F.slot_list_extend PySem.F.type_list_extend JlS (JbF (by rw [C.hN]; exact hi) (C.vis x hx) hd1 hd2) (Jt (JcZ he) JaN hs) rfl (by rw [hs]; rfl) hl hs rfl) rfl) fun D σ H h=>?_
 obtain ⟨env,l,xs,e,hσ,hl,g⟩:=Jjs hM h
 simp only [evD,Rs.bind_assoc] at g
 refine ⟨.ref l,hσ,.inl ⟨rfl,xs,SqL.of hl⟩,blankD M 0 env,Ow M env σ,e.ows,e.readHid,?_⟩
 rw [JC call env hsp]
 refine (Rs.good_bind.mp g).mono (fun d hd v H1 s1 kk r1=>?_) fun c z=>z.mono e.same0
 simp only [tNil]
 cases d with
 | tup es=>
  obtain ⟨es',e1,_,hd⟩:=hd
  cases e1
  obtain ⟨b,zs,rfl,q1,q2⟩:=r1
  obtain ⟨ys,g1,g2,g3⟩:=hd zs H1 s1 q2
  exact ⟨l,b,ys,zs,rfl,rfl,g1,.inr (SqT.same hid_same q1),g2,g3⟩
 | lst es=>
  obtain ⟨es',e1,_,hd⟩:=hd
  cases e1
  obtain ⟨b,zs,rfl,q1,q2⟩:=r1
  obtain ⟨ys,g1,g2,g3⟩:=hd zs H1 s1 q2
  exact ⟨l,b,ys,zs,rfl,rfl,g1,.inl (hid_same.seq q1),g2,g3⟩
 | _=>exact (show False from hd).elim
end
end Rd
namespace Rd
open PySem PySem.Spec PyProof.Rows L2 Pu
section
variable {X:Cx} {call:CallD} {a b:Expr} {pa pb:Px} {pos p1 p2:Pos} {G:Gw} {N:List Str} {nm:List (Str × NameKind)}
theorem Jif:MtR X "str.startswith" (fun x xs H Q=>∃ y,xs = [y] /\ rD2 X .starts x y H Q):=by
 intro pins s σ H x xs v us Q I rx rv ⟨y,e,dx,dy,r1,r2,h⟩
 subst e
 obtain ⟨u,rfl,ru⟩:=JaP rv
 cases dx <;> cases dy <;> first
  | exact (show False from h).elim
  | skip
 rename_i z w
 have e1:x = V.str z:=r1
 have e2:y = V.str w:=r2
 subst e1; subst e2
 obtain ⟨t,rfl⟩:=rx
 obtain ⟨t',rfl⟩:=ru
 refine call_meets F.slot_str_startswith (typeIs_str _ _ _) F.entry_str_startswith (F.args_str_startswith_2 _ _) (gives_str_startswith z w t t').meets ?_
 exact ⟨.bl _,H,I,rfl,Out.now h rfl⟩
theorem Jib {apos:Pos} {dc:D} (ha:PE X a (tI X call pa)) (hb:PE X b (tI X call (.con dc))) (hstr:True) (hl:(apos.endLine == pos.line) = true) (hbase:attributeBase a "startswith" X.env (eval a X.env) = eval a X.env:=by rfl)
  (hs:starEach [b] X.env = (false,eval b X.env) :: starEach [] X.env:=by rfl):PE X (.Call (.Attribute a "startswith" apos) [b] [] pos) (tI X call (.bi .starts pa (.con dc))):=by
 refine PE.weak (Jlq F.plainAttrs_str F.slot_str_startswith F.type_str_startswith Jif ha (Jt hb JaN hs) hbase (by rw [hs]; rfl) hl hs rfl) fun σ H Q h=>?_
 obtain ⟨env,r,h⟩:=h
 simp only [evD] at h
 refine tI.then r h fun dx x H1 s1 r1 q1 h1=>?_
 simp only [Rs.bind_ok] at h1
 have ty:∃ z,dx = .str z:=by
  cases dx <;> cases dc <;> first | exact (show False from h1).elim | exact ⟨_,rfl⟩
 obtain ⟨z,rfl⟩:=ty
 refine ⟨by rw [show x = V.str z from r1]; rfl,env,q1,?_⟩
 intro y H2 s2 r2
 exact ⟨y,rfl,.str z,dc,r1.mono s2,r2,h1.mono (fun _ o=>o.mono s2) fun _ q=>q.mono s2⟩
end
example (K:PySem.W.Frag):PySem.W.kitOne K (.type "str") (.type "tuple") = some false:=by
 first | rfl | decide | (unfold PySem.W.kitOne PySem.W.kitCls; simp)
end Rd
namespace Rd
open PySem PySem.Spec PyProof.Rows L2 Pu
theorem Jew {K:PySem.W.Frag} {H:Hp} {ds:List D} {xs:List V} (h:Reps K H ds xs):∀ k:Nat,Reps K H (List.replicate k ds).flatten (List.replicate k xs).flatten
 | 0=>rfl
 | k + 1=>by
  rw [List.replicate_succ,List.replicate_succ,List.flatten_cons,List.flatten_cons]
  exact h.append (Jew h k)
section
variable {X:Cx} {call:CallD} {a b:Expr} {pa pb:Px} {pos p1 p2:Pos} {G:Gw} {N:List Str} {nm:List (Str × NameKind)}
variable {M:List Nat} {H0:Hp}
end
end Rd
namespace Rd
open PySem PySem.Spec PyProof.Rows L2 Pu
section
variable {prog:Program} {w:World}
def keysAre (es:List (Int × Value)):List Str:=es.map fun e=>strOf e.2
def TS (prog:Program) (w:World) (lb:Bool) (h:Heap) (a:Addr) (ks:List Str):Prop:=
 ∃ o es ep t,(h.get? a = some o /\ o.ExactSet /\ o.data = .set es ep t) /\ ElemsOf (PySem.strKind prog w) es.toList /\ (t.fits es.size = true /\ es.size < scanBound) /\ t.led = lb /\ (es.size ≠ 0 -> t.plain = false) /\ (keysAre es.toList).Perm ks /\ ks.Nodup
theorem TS.stay {lb:Bool} {h h':Heap} {a:Addr} {ks:List Str} (x:TS prog w lb h a ks) (k:∀ o,h.get? a = some o -> h'.get? a = some o):TS prog w lb h' a ks:=
 let ⟨o,es,ep,t,⟨e,r1⟩,r2⟩:=x
 ⟨o,es,ep,t,⟨k o e,r1⟩,r2⟩
theorem TS.there {lb:Bool} {h:Heap} {a:Addr} {ks:List Str} (x:TS prog w lb h a ks):∃ o,h.get? a = some o:=let ⟨o,_,_,_,⟨e,_⟩,_⟩:=x; ⟨o,e⟩
theorem JgG (t:SetTable) (n:Nat):(t.orStandIn n).led = t.led:=by
 unfold SetTable.orStandIn
 split <;> rfl
theorem JkF (t:SetTable) (es:Array (Int × Value)) (h:Int) (x:Value):(layNew t es h x).2.1.led = t.led:=by
 unfold layNew
 split
 ·exact JgG ..
 ·rfl
theorem JgJ (t:SetTable) (es:Array (Int × Value)) (n:Nat):(relayAll t es n).2.1.led = t.led /\ (t.plain = false -> (relayAll t es n).2.1.plain = false):=by
 unfold relayAll
 split
 ·rename_i t' order q
  have e:t'.led = t.led /\ t'.plain = t.plain:=by
   unfold SetTable.relaid SetTable.laid at q
   cases hq:SetTable.layClean (SetTable.sizeAbove n - 1) (es.map (·.1)) with
   | none=>rw [hq] at q; cases q
   | some ow=>rw [hq] at q; cases q; exact ⟨rfl,rfl⟩
  dsimp only
  split
  ·exact ⟨e.1,fun z=>e.2.trans z⟩
  ·exact ⟨rfl,fun _=>rfl⟩
 ·exact ⟨rfl,fun _=>rfl⟩
theorem Jga {k:Str} {v:Value} (h:(PySem.strKind prog w).is k v = true):∃ t,v = .str k t:=Value.isStrOf_shape h
theorem key_of {es:List (Int × Value)} (h:ElemsOf (PySem.strKind prog w) es) (k:Str):k ∈ keysAre es ↔ ∃ e ∈ es,(PySem.strKind prog w).is k e.2 = true:=by
 unfold keysAre
 rw [List.mem_map]
 constructor
 ·rintro ⟨e,he,rfl⟩
  obtain ⟨⟨k',hk,_⟩,_⟩:=h e he
  obtain ⟨t,q⟩:=Jga hk
  refine ⟨e,he,?_⟩
  rw [q] at hk ⊢
  exact hk
 ·rintro ⟨e,he,hk⟩
  obtain ⟨t,q⟩:=Jga hk
  exact ⟨e,he,by rw [q]; rfl⟩
end
section
variable {prog:Program} {w:World} {A:Around} {E:Value -> Shared -> Prop} {s:Shared}
theorem Jfe {lb:Bool} {a:Addr} {o:Obj} {es es':Array (Int × Value)} {ep:Nat} {t t':SetTable} {ks:List Str} (ho:s.heap.get? a = some o) (hx:o.ExactSet) (hd:o.data = .set es ep t)
  (h1:ElemsOf (PySem.strKind prog w) es'.toList) (h2:t'.fits es'.size = true) (h3:es'.size < scanBound) (h4:t'.led = lb) (h5:t'.plain = false) (h6:(keysAre es'.toList).Perm ks) (h7:ks.Nodup) :
  TS prog w lb (s.heap.update a (Obj.putSet es' t')) a ks /\ (s.heap.update a (Obj.putSet es' t')).get? a = some { o with data:=.set es' (ep + 1) t' }:=by
 have g:(s.heap.update a (Obj.putSet es' t')).get? a = some { o with data:=.set es' (ep + 1) t' }:=by
  have q:=Heap.get?_update_self (Obj.putSet es' t') ho (by rw [putSet_of es' t' hd]; rfl)
  rwa [putSet_of es' t' hd] at q
 exact ⟨⟨_,es',ep + 1,t',⟨g,hx,rfl⟩,h1,⟨h2,h3⟩,h4,fun _=>h5,h6,h7⟩,g⟩
theorem Jgr {b:Bool} {Q:Unit -> Shared -> Prop} (h:Q () s):wpAny (model prog w) A (match b with | true=>rule "set.scan.the-table-gave-way" | false=>pure ()) Q E s:=by
 cases b
 ·exact wpAny_pure h
 ·exact wpAny_rule h
theorem JnW {lb:Bool} {a:Addr} {ks:List Str} {x:Str} {tk:Tok} {Q:Bool -> Shared -> Prop} (hS:TS prog w lb s.heap a ks) (hb:ks.length + 1 < scanBound)
  (h:∀ b h',Heap.SameBut a s.heap h' -> TS prog w lb h' a (if x ∈ ks then ks else ks ++ [x]) -> Q b { s with heap:=h' }):wpAny (model prog w) A (setAddHashed a (.str x tk) (hashStr w x)) Q E s:=by
 obtain ⟨o,es,ep,t,⟨ho,hx,hd⟩,hel,⟨hf,hz⟩,hl,hp,hk,hn⟩:=hS
 have hlen:es.size = ks.length:=by
  have:=hk.length_eq
  simpa [keysAre] using this
 have hkey:(PySem.strKind prog w).is x (.str x tk) = true:=by simp [PySem.strKind,Value.isStrOf]
 have hmem:x ∈ ks ↔ ∃ e ∈ es.toList,(PySem.strKind prog w).is x e.2 = true:=(hk.mem_iff).symm.trans (key_of hel x)
 have hh:hashStr w x = (PySem.strKind prog w).hash x:=rfl
 rw [hh]
 unfold setAddHashed setAddHashedIn
 refine wpAny_holding (wpAny_bind (wpAny_setState_of ho hd hf ?_)); dsimp only
 rw [byScan_of rfl hz hel]; simp only [if_true]
 unfold setAddByScan
 refine wpAny_bind (wpAny_bind (wpAny_rule (wpAny_bind (wpAny_setScan_of hkey ho hd hf hel ?_))))
 cases hr:List.findIdx? (fun e=>(PySem.strKind prog w).is x e.2) es.toList with
 | some j=>
  dsimp only
  obtain ⟨hj,hpj,_⟩:=List.findIdx?_eq_some_iff_getElem.mp hr
  have hin:x ∈ ks:=hmem.mpr ⟨_,List.getElem_mem hj,hpj⟩
  refine wpAny_pure (wpAny_pure ?_)
  have q:=h false s.heap (Heap.SameBut.refl a s.heap) (by rw [if_pos hin]; exact ⟨o,es,ep,t,⟨ho,hx,hd⟩,hel,⟨hf,hz⟩,hl,hp,hk,hn⟩)
  cases s; exact q
 | none=>
  dsimp only
  have hin:¬ x ∈ ks:=fun z=>by
   obtain ⟨e,he,hp⟩:=hmem.mp z
   have:=List.findIdx?_eq_none_iff.mp hr e he
   rw [hp] at this
   cases this
  rw [if_neg hin] at h
  have a1:=layNew_perm t es ((PySem.strKind prog w).hash x) (.str x tk)
  have a2:=layNew_fits t es ((PySem.strKind prog w).hash x) (.str x tk)
  have a3:=JkF t es ((PySem.strKind prog w).hash x) (.str x tk)
  generalize layNew t es ((PySem.strKind prog w).hash x) (.str x tk) = L at a1 a2 a3 ⊢
  obtain ⟨es1,t1,wd,gv⟩:=L
  dsimp only at a1 a2 a3 ⊢
  rw [Array.toList_push] at a1
  have b1:ElemsOf (PySem.strKind prog w) es1.toList:=(hel.push hkey rfl).perm a1
  have b2:(keysAre es1.toList).Perm (ks ++ [x]):=by
   have c1:=a1.map fun e:Int × Value=>strOf e.2
   rw [List.map_append] at c1
   exact c1.trans (hk.append_right [x])
  have b3:(ks ++ [x]).Nodup:=by
   rw [List.nodup_append]
   refine ⟨hn,by simp,fun u hu v hv e=>?_⟩
   rw [List.mem_singleton] at hv
   subst hv e
   exact hin hu
  have b4:es1.size < scanBound:=by
   have:=b2.length_eq
   simp only [keysAre,List.length_map,Array.length_toList,List.length_append,List.length_singleton] at this
   omega
  refine wpAny_bind (Jgr ?_)
  have tail:∀ t2:SetTable,t2.led = lb -> t2.plain = false -> t2.fits es1.size = true -> wpAny (model prog w) A (do
    storeSet a es1 t2
    if (!wd && t2.tooFull) = true then do
      (match (relayAll t2 es1 (SetTable.grown es1.size)).2.2 with | true=>rule "set.scan.the-table-gave-way" | false=>pure ())
      storeSet a (relayAll t2 es1 (SetTable.grown es1.size)).1 (relayAll t2 es1 (SetTable.grown es1.size)).2.1
      pure (some true)
     else pure (some true)) (fun r s'=>wpAny (model prog w) A (match r with
      | some added=>pure added
      | none=>setAddHashedIn a (.str x tk) ((PySem.strKind prog w).hash x) 99999) Q E s') E s:=by
   intro t2 c1 c2 c3
   refine wpAny_bind (wpAny_storeSet_of ho hd ?_ (fits_of_scanBound b4))
   obtain ⟨T1,g1⟩:=Jfe (s:=s) ho hx hd b1 c3 b4 c1 c2 b2 b3
   have u1:=Heap.SameBut.update s.heap a (Obj.putSet es1 t2)
   split
   ·have d1:=relayAll_perm t2 es1 (SetTable.grown es1.size)
    have d2:=relayAll_fits t2 es1 (SetTable.grown es1.size)
    have d3:=JgJ t2 es1 (SetTable.grown es1.size)
    generalize relayAll t2 es1 (SetTable.grown es1.size) = R at d1 d2 d3 ⊢
    obtain ⟨es2,t3,gv2⟩:=R
    dsimp only at d1 d2 d3 ⊢
    refine wpAny_bind (Jgr ?_)
    have z2:es2.size = es1.size:=by simpa using d1.length_eq
    refine wpAny_bind (wpAny_storeSet_of g1 rfl ?_ (fits_of_scanBound (by rw [z2]; exact b4)))
    obtain ⟨T2,_⟩:=Jfe (s:={ s with heap:=s.heap.update a (Obj.putSet es1 t2) }) g1 hx rfl (b1.perm d1) d2 (by rw [z2]; exact b4) (d3.1.trans c1) (d3.2 c2) ((d1.map _).trans b2) b3
    exact wpAny_pure (wpAny_pure (h true _ (u1.trans (Heap.SameBut.update _ a _)) T2))
   ·exact wpAny_pure (wpAny_pure (h true _ u1 T1))
  split
  ·refine wpAny_bind ?_
   rw [hashByValue_scannable 8 (x:=.str x tk) rfl]
   refine wpAny_pure ?_
   exact tail _ (a3.trans hl) rfl (SetTable.fits_plain_off a2)
  ·rename_i np
   refine wpAny_bind (wpAny_pure ?_)
   simp only [if_true]
   exact tail _ (a3.trans hl) (by simpa using np) a2
end
end Rd
namespace Rd
open PySem PySem.Spec PyProof.Rows L2 Pu
def addS (ks:List Str) (x:Str):List Str:=if x ∈ ks then ks else ks ++ [x]
def metS (ws:List Str):List Str:=ws.foldl addS []
theorem JgI (ws:List Str) (x:Str):metS (ws ++ [x]) = addS (metS ws) x:=by unfold metS; rw [List.foldl_append]; rfl
theorem Jhv (val:Nat -> Str) (i:Nat):metS ((List.range (i + 1)).map val) = addS (metS ((List.range i).map val)) (val i):=by
 rw [List.range_succ,List.map_append]
 exact JgI _ _
theorem JjJ (ws:List Str):∀ (ks:List Str) (k:Str),k ∈ ws.foldl addS ks ↔ k ∈ ks \/ k ∈ ws:=by
 induction ws with
 | nil=>intro ks k; simp
 | cons x ws ih=>
  intro ks k
  rw [List.foldl_cons,ih]
  unfold addS
  split
  ·rename_i h
   constructor
   ·rintro (z | z) <;> simp [z]
   ·rintro (z | z)
    ·exact .inl z
    ·rcases List.mem_cons.mp z with rfl | z
     ·exact .inl h
     ·exact .inr z
  ·simp [or_assoc]
theorem Jjp (ws:List Str) (k:Str):k ∈ metS ws ↔ k ∈ ws:=by rw [metS,JjJ]; simp
theorem Jjb (ws:List Str):∀ ks:List Str,(ws.foldl addS ks).length <= ks.length + ws.length:=by
 induction ws with
 | nil=>intro ks; simp
 | cons x ws ih=>
  intro ks
  rw [List.foldl_cons]
  have:=ih (addS ks x)
  have h1:(addS ks x).length <= ks.length + 1:=by
   unfold addS
   split <;> simp
  simp only [List.length_cons]
  omega
theorem JeW (ws:List Str):(metS ws).length <= ws.length:=by
 have:=Jjb ws []
 simpa [metS] using this
section
variable {prog:Program} {w:World} {A:Around} {R:Result -> Shared -> Prop} {I:Addr} {fp wr:List Addr} {G:Array GenState -> Array GenState -> Prop} {n:Nat} {P:Nat -> Value -> Prop} {St:Nat -> Shared -> Prop} {lb:Bool}
theorem JkA (W:WalksS prog w A.in1 I fp wr G n P St) (S:Addr) (hSf:S ∉ fp) (val:Nat -> Str) (hval:∀ i v,P i v -> ∃ t,v = .str (val i) t) (hb:n + 1 < scanBound) :
  ∀ (k i:Nat) (s:Shared),n - i = k -> i <= n -> St i s -> TS prog w lb s.heap S (metS ((List.range i).map val)) ->
   (∀ s',Moved (S :: wr) G s s' -> TS prog w lb s'.heap S (metS ((List.range n).map val)) -> R (.ok (.ret .none)) s') -> codeAny (model prog w) A (.builtin "set.update.loop" ⟨[.ref S,.ref I],[]⟩) R s:=by
 have notin:S ∉ wr:=fun h=>hSf (W.sub _ h)
 have more:∀ b ∈ wr,b ∈ S :: wr:=fun b hb=>List.mem_cons_of_mem _ hb
 intro k
 induction k with
 | zero=>
  intro i s hk hi hst hS hR
  obtain rfl:i = n:=by omega
  refine codeAny_builtin F.entry_set_update_loop ?_; rw [Around.under_plainId F.plain_set_update_loop _]
  show wpAny _ A.in1 (pyNext (.ref I) >>= _) _ _ s; refine wpAny_bind (W.done s _ _ hst fun s' hm=>?_)
  show wpAny _ A.in1 (ret Value.none) _ _ s'; exact wpAny_pure (hR s' (hm.mono more) (hS.stay fun o e=>hm.heap S o notin e))
 | succ k ih=>
  intro i s hk hi hst hS hR
  have hlt:i < n:=by omega
  refine codeAny_builtin F.entry_set_update_loop ?_; rw [Around.under_plainId F.plain_set_update_loop _]
  show wpAny _ A.in1 (pyNext (.ref I) >>= _) _ _ s; refine wpAny_bind (W.item i s _ _ hlt hst fun v s' hP hst' hm=>?_)
  obtain ⟨t,rfl⟩:=hval i v hP
  have hS':=hS.stay fun o e=>hm.heap S o notin e
  show wpAny _ A.in1 (holding [Value.str (val i) t] (setAdd S (.str (val i) t)) >>= _) _ _ s'; refine wpAny_bind (wpAny_holding ?_)
  unfold setAdd
  refine wpAny_holding (wpAny_bind ((PySem.strKind prog w).pyHash (k:=val i) (by simp [PySem.strKind,Value.isStrOf]) ?_))
  have room:(metS ((List.range i).map val)).length + 1 < scanBound:=by
   have:=JeW ((List.range i).map val)
   simp only [List.length_map,List.length_range] at this
   omega
  refine JnW (s:={ s' with toks:=s'.toks + 1 }) hS' room fun _ h' hsb hS2=>?_
  have hSi:TS prog w lb h' S (metS ((List.range (i + 1)).map val)):=by rw [Jhv]; exact hS2
  refine wpAny_pure ⟨plainId_quiet F.plain_set_update_loop _,ih (i + 1) _ (by omega) hlt (W.frame _ s' _ _ hst' (Nat.le_succ _) fun b hb o e=>?_) hSi fun s'' hm'' hS''=>?_⟩
  ·rw [hsb.2 b (fun h:b = S=>hSf (by rw [<- h]; exact hb))]; exact e
  ·refine hR s'' (Moved.trans W.gtrans ((hm.mono more).then_heap (Nat.le_succ _) fun b o hb e=>?_) hm'') hS''
   rw [hsb.2 b (fun h:b = S=>hb (by rw [h]; exact List.mem_cons_self))]; exact e
end
section
variable {prog:Program} {w:World} {A:Around} {E:Value -> Shared -> Prop} {s:Shared}
abbrev byT (w:World):Bool:=w.params.followText "set-order"
abbrev newS (w:World):Obj:={ cls:=.type "set",dict:=none,data:=.set #[] 0 (.fresh 0 0 (!byT w)) }
theorem Jlu (a:Value) {Q:Value -> Shared -> Prop} (h:Q (.ref s.heap.objs.size) { s with heap:=s.heap.push (newS w) }):codeAny (model prog w) A (.call (.builtin "set.__new__") ⟨[.type "set",a],[]⟩) (wants Q E) s:=by
 refine codeAny_of_tree ?_
 show wpAny _ A.in1 (do checkBuiltinCall "set.__new__" ⟨[.type "set",a],[]⟩; again (.builtin "set.__new__" ⟨[.type "set",a],[]⟩)) _ _ s
 refine wpAny_bind (wpAny_of_eq (F.newCall_set_1 a) (wpAny_pure ⟨plainId_quiet F.plain_set_new _,codeAny_builtin F.entry_set_new ?_⟩)); rw [Around.under_plainId F.plain_set_new _]
 unfold Builtin.«set.__new__» Builtin.Frozenset.newClass
 have sub:=sub_set_self
 obtain ⟨hp,g,d,tk,os⟩:=s
 dsimp only
 wp_walk
 refine wpAny_askSetting (wpAny_pure ?_); dsimp only
 simp only [newObj]; refine wpAny_bind (wpAny_alloc (wpAny_pure (wpAny_pure h)))
theorem Jio {l:Addr} {items:Array Value} {ws:List Str} {Q:Value -> Shared -> Prop} (hh:A.handled = none) (hl:s.heap.IsList l items) (hi:StrsAre items.toList ws) (hb:items.size + 1 < scanBound)
  (h:∀ (h':Heap) (tk:Nat),TS prog w (!byT w) h' s.heap.objs.size (metS ws) -> (∀ b o,b < s.heap.objs.size -> s.heap.get? b = some o -> h'.get? b = some o) -> Q (.ref s.heap.objs.size) { s with heap:=h',toks:=tk }) :
  wpAny (model prog w) A (call (.type "set") [.ref l]) Q E s:=by
 obtain ⟨c,tl,hmro⟩:=F.called_set.mro
 have hmade:=F.called_set.made
 have hsub:=F.called_set.sub
 refine wpAny_call (codeAny_of_tree ?_); show wpAny _ _ (callAny (.type "set") _) _ _ _
 refine wpAny_pure ⟨Code.quiet_builtin _ (by decide +kernel),codeAny_builtin F.entry_type_call ?_⟩; rw [Around.under_plain (weight_type_call_type "set" [.ref l] []) rfl]
 have h1:=F.called_set.notType
 have h2:=F.called_set.canCreate
 have hct:=F.typeCall_set_1 (.ref l)
 repeat (any_goals (first | assumption | wp_step))
 refine codeAny_mono (Jlu (.ref l) (E:=E) (Q:=fun obj s₁=>obj = .ref s.heap.objs.size /\ s₁ = { s with heap:=s.heap.push (newS w) }) ⟨rfl,rfl⟩) fun r s₁ hr=>?_
 cases r with
 | error e=>exact hr
 | ok fl=>
  cases fl with
  | ret obj=>
   obtain ⟨rfl,rfl⟩:=hr
   have hS:(s.heap.push (newS w)).get? s.heap.objs.size = some (newS w):=Heap.get?_push_size _ rfl
   have hT:Shared.TypeIs { s with heap:=s.heap.push (newS w) } (.ref s.heap.objs.size) "set":=⟨_,hS,rfl⟩
   have hli:=F.called_set.init.lookup
   have hbi:=F.called_set.init.bind (.ref s.heap.objs.size)
   repeat (any_goals (first | assumption | wp_step))
   refine codeAny_mono (codeAny_call_builtin (R:=wants (fun r s₂=>r = .none /\ ∃ h' tk,s₂ = { s with heap:=h',toks:=tk } /\ TS prog w (!byT w) h' s.heap.objs.size (metS ws) /\
     (∀ b o,b < s.heap.objs.size -> s.heap.get? b = some o -> h'.get? b = some o)) E) F.called_set.init.plain F.entry_set_init (check_set_init_1 hT ?_)) fun r₂ s₂ hr₂=>?_
   ·obtain ⟨ol,hol,hcl,nl,hdl⟩:=hl
    obtain ⟨ocls,odict,odata,oslots⟩:=ol
    simp only at hcl hdl
    subst hcl; subst hdl
    have hol':(s.heap.push (newS w)).get? l = some { cls:=.type "list",dict:=odict,data:=.seq items nl,slots:=oslots }:=Heap.get?_push_of_some _ hol
    have hsls:=F.sub_list_set
    have hslf:=F.sub_list_frozenset
    have hne:(Value.type "list" == Value.type "dict") = false:=by decide
    have hl1:(s.heap.push (newS w)).IsList l items:=⟨_,hol',rfl,nl,rfl⟩
    unfold Builtin.«set.__init__» noKeywords Builtin.Frozenset.updateFrom
    generalize hPI:pyIter = PI
    wp_walk
    subst hPI
    refine wpAny_pyIter_list hl1 (wpAny_bind (wpAny_runValue ?_))
    have hlS:l < s.heap.objs.size:=Heap.lt_size hol
    have hh3:A.in1.in1.in1.handled = none:=by simp [hh]
    have hneI:l ≠ (s.heap.push (newS w)).objs.size:=by rw [Heap.size_push]; exact Nat.ne_of_lt (Nat.lt_succ_of_lt hlS)
    have hSf:s.heap.objs.size ∉ [(s.heap.push (newS w)).objs.size,l]:=by
     rw [Heap.size_push]; simp only [List.mem_cons,List.not_mem_nil,or_false,not_or]; exact ⟨Nat.ne_of_lt (Nat.lt_succ_self _),Nat.ne_of_gt hlS⟩
    have hlen:items.size = ws.length:=by
     have:=hi.strs
     rw [<- this]
     simp
    have hval:∀ (i:Nat) (v:Value),items[i]? = some v -> ∃ t,v = .str ((fun i=>ws.getD i ⟨#[]⟩) i) t:=fun i v hv=>by
     have hv':items.toList[i]? = some v:=by rw [Array.getElem?_toList]; exact hv
     obtain ⟨x,t,e⟩:=hi.all v (List.mem_of_getElem? hv')
     have q:=congrArg (fun l:List Str=>l[i]?) hi.strs
     simp only [List.getElem?_map,hv',Option.map_some] at q
     refine ⟨t,?_⟩
     rw [e] at q ⊢
     simp only [List.getD_eq_getElem?_getD,<- q]
     rfl
    have hws:(List.range items.size).map (fun i=>ws.getD i ⟨#[]⟩) = ws:=by
     rw [hlen]
     refine List.ext_getElem (by simp) fun i h1 h2=>?_
     simp [List.getD_eq_getElem?_getD,h2]
    refine JkA (lb:=!byT w) ((Walks.list hh3 _ l hneI items).toS) s.heap.objs.size hSf (fun i=>ws.getD i ⟨#[]⟩) hval hb (items.size - 0) 0 _ (by omega) (Nat.zero_le _) ⟨⟨_,Heap.get?_push_size _ rfl,rfl,rfl⟩,(hl1.push _)⟩ ?hS0 ?hR
    case hS0=>
     refine ⟨newS w,#[],0,.fresh 0 0 (!byT w),⟨Heap.get?_push_of_some _ hS,⟨rfl,rfl,rfl⟩,rfl⟩,fun e he=>by simp at he,⟨rfl,by decide⟩,rfl,fun z=>absurd rfl z,List.Perm.refl _,List.nodup_nil⟩
    case hR=>
     intro s' hm hS'
     rw [hws] at hS'
     obtain ⟨h',g',d',tk',os'⟩:=s'
     have eg:g' = s.gens:=hm.gens
     have ed:d' = s.drawn:=hm.drawn
     have eo:os' = s.os:=hm.os
     subst eg; subst ed; subst eo
     show wpAny _ _ _ _ _ _
     refine wpAny_pure ?_; show wpAny _ _ (ret Value.none) _ _ _; refine wpAny_pure ⟨rfl,h',tk',rfl,hS',fun b o hb e=>?_⟩
     have hb1:b ≠ s.heap.objs.size:=Nat.ne_of_lt hb
     have hb2:b ≠ (s.heap.push (newS w)).objs.size:=by rw [Heap.size_push]; exact Nat.ne_of_lt (Nat.lt_succ_of_lt hb)
     exact hm.heap b o (by simp only [List.mem_cons,List.not_mem_nil,or_false,not_or]; exact ⟨hb1,hb2⟩) (Heap.get?_push_of_some _ (Heap.get?_push_of_some _ e))
   ·cases r₂ with
    | error e=>exact hr₂
    | ok fl₂=>
     cases fl₂ with
     | ret r=>
      obtain ⟨rfl,h',tk,rfl,hS',hk'⟩:=hr₂
      repeat (any_goals (first | assumption | wp_step))
      exact h _ _ hS' hk'
     | _=>exact hr₂.elim
  | _=>exact hr.elim
end
end Rd
namespace Rd
open PySem PySem.Spec PyProof.Rows L2 Pu
theorem Jmk:entryFor table "set.__iter__" = some Builtin.«frozenset.__iter__»:=entryFor_alias (id':="frozenset.__iter__") (by kernel_rfl) rfl (by decide +kernel) (by kernel_rfl)
theorem Jch:entryFor table "set_iterator.__next__" = some Builtin.«set_iterator.__next__»:=entryFor_of_tree (by kernel_rfl)
theorem at_next:Slot "set_iterator" "__next__" "set_iterator.__next__":=.of (owner:="set_iterator") (n:="__next__") (by rw [typeLookup_type,builtinLookup_eq_fast]; kernel_rfl) (by decide +kernel) (by decide +kernel) (by decide +kernel) (by first | exact .inl (by decide +kernel) | exact .inr (by decide +kernel)) (by rw [isSubtype_type]; kernel_rfl)
theorem JeX:Manifest.owners.lookup (String.ofList ['r','o','t','a','r','e','t','i','_','t','e','s'].reverse) = some Manifest.sig_set_iterator:=by kernel_rfl
theorem Jal (a:Value):argsOk "set_iterator.__next__" ⟨[a],[]⟩:=by
 unfold argsOk; rw [signature?_of (id:="set_iterator.__next__") (n:=['_','_','t','x','e','n','_','_']) (o:=['r','o','t','a','r','e','t','i','_','t','e','s']) (by kernel_rfl) JeX]; kernel_rfl
section
variable {prog:Program} {w:World} {A:Around} {E:Value -> Shared -> Prop} {s:Shared}
theorem Jgg {src:Source} {n:Nat} {Q:Nat -> Shared -> Prop} (hn:n ≠ 0) (h:∀ i d,i < n -> Q i { s with drawn:=d }):wpAny (model prog w) A (choose src n) Q E s:=fun Γ p _=>⟨hn,h _ _ (Nat.mod_lt _ (Nat.pos_of_ne_zero hn))⟩
theorem Jaw {α:Type}:∀ (xs:List α) (i:Nat) (h:i < xs.length),(xs[i] :: xs.eraseIdx i).Perm xs
 | x :: xs,0,h=>List.Perm.refl _
 | x :: xs,i + 1,h=>by
  simp only [List.getElem_cons_succ,List.eraseIdx_cons_succ]
  exact (List.Perm.swap ..).trans ((Jaw xs i (by simpa using h)).cons x)
theorem JeU {α:Type}:∀ (n:Nat) (xs:List α) (s:Shared) (Q:List α -> Shared -> Prop),xs.length = n -> (∀ ys d,ys.Perm xs -> Q ys { s with drawn:=d }) -> wpAny (model prog w) A (drawOrder n xs) Q E s
 | 0,[],s,Q,_,h=>by
  unfold drawOrder
  refine wpAny_pure ?_
  have:=h [] s.drawn (List.Perm.refl _)
  cases s; exact this
 | n + 1,x :: xs,s,Q,hl,h=>by
  unfold drawOrder
  refine wpAny_bind (Jgg (by simp) fun i d hi=>?_)
  have hg:(x :: xs)[i]? = some (x :: xs)[i]:=List.getElem?_eq_getElem hi
  rw [hg]
  dsimp only
  refine wpAny_bind (JeU n _ _ _ (by rw [List.length_eraseIdx_of_lt hi]; omega) fun ys d' hp=>wpAny_pure ?_)
  refine h _ d' ?_
  exact (List.Perm.cons _ hp).trans (Jaw _ i hi)
 | 0,x :: xs,s,Q,hl,_=>by simp at hl
 | n + 1,[],s,Q,hl,_=>by simp at hl
theorem Jde {α:Type} (next:Nat -> Nat):∀ (fuel k:Nat) (left:List α) (out:Array α),left.length = fuel -> (pickOrder.go next fuel k left out).toList.Perm (out.toList ++ left)
 | 0,k,left,out,h=>by
  have:left = []:=List.length_eq_zero_iff.mp h
  subst this
  simp [pickOrder.go]
 | fuel + 1,k,left,out,h=>by
  have hlt:next k % left.length < left.length:=Nat.mod_lt _ (by omega)
  unfold pickOrder.go
  rw [List.getElem?_eq_getElem hlt]
  dsimp only
  refine (Jde next fuel (k + 1) _ _ (by rw [List.length_eraseIdx_of_lt hlt]; omega)).trans ?_
  rw [Array.toList_push,List.append_assoc]
  exact (List.Perm.append_left _ (Jaw _ _ hlt))
end
end Rd
namespace Rd
open PySem PySem.Spec PyProof.Rows L2 Pu
def IsSI (h:Heap) (it:Addr) (first:Value) (i:Nat) (a:Addr) (n ep:Nat):Prop:=h.get? it = some { cls:=.type "set_iterator",data:=.fields #[first,.int i 0,.ref a,.int n 0,.int ep 0] }
structure SetAt (h:Heap) (a:Addr) (o:Obj) (es:Array (Int × Value)) (ep:Nat) (t:SetTable):Prop where
 ho:h.get? a = some o
 hx:o.ExactSet
 hd:o.data = .set es ep t
 hf:t.fits es.size = true
theorem SetAt.stay {h h':Heap} {a:Addr} {o:Obj} {es:Array (Int × Value)} {ep:Nat} {t:SetTable} (x:SetAt h a o es ep t) (k:∀ o,h.get? a = some o -> h'.get? a = some o):SetAt h' a o es ep t:=⟨k _ x.ho,x.hx,x.hd,x.hf⟩
section
variable {prog:Program} {w:World} {A:Around} {E:Value -> Shared -> Prop} {s:Shared} {a it:Addr} {o:Obj} {es:Array (Int × Value)} {ep:Nat} {t:SetTable}
theorem IsSI.ty {h:Heap} {first:Value} {i n:Nat} {s:Shared} (x:IsSI s.heap it first i a n ep):s.TypeIs (.ref it) "set_iterator":=⟨_,x,rfl⟩
theorem JfW {Q:Fin -> Shared -> Prop} (hh:A.handled = none) (hE:∀ h' e,(∀ b o,s.heap.get? b = some o -> h'.get? b = some o) -> (∃ o,h'.get? e = some o /\ o.cls = .type "StopIteration") -> E (.ref e) { s with heap:=h' }) :
  wpAny (model prog w) A (do raiseNew (<- newExc (.type "StopIteration") [])) Q E s:=by
 refine wpAny_bind ?_
 simp only [newExc,newTuple]; refine wpAny_bind (wpAny_newObj_type ?_ (by size_fits))
 refine wpAny_bind (m:=firstArgMember _ _) (wpAny_of_eq (a:=Value.none) (by first | rfl | (simp only [firstArgMember]; rfl)) (wpAny_newObj_type ?_ (by size_fits)))
 simp only [raiseNew]; refine wpAny_bind (wpAny_handled ?_); rw [hh]
 refine wpAny_bind (wpAny_pure (wpAny_throw ?_)); exact hE _ _ (fun b o e=>Heap.get?_push_of_some _ (Heap.get?_push_of_some _ e)) ⟨_,Heap.get?_push_size _ rfl,rfl⟩
theorem JcM {i sl nx:Nat} {x:Value} {Q:Option Value -> Shared -> Prop} (hit:IsSI s.heap it (.int sl 0) i a es.size ep) (hs:SetAt s.heap a o es ep t) (hsn:∀ (E':Value -> Shared -> Prop) (Q':Option (Value × Nat) -> Shared -> Prop),Q' (some (x,nx)) s -> wpAny (model prog w) A.in1 (setNext a sl i ep) Q' E' s)
  (hQ:∀ h',IsSI h' it (.int nx 0) (i + 1) a es.size ep -> Heap.SameBut it s.heap h' -> Q (some x) { s with heap:=h' }):wpAny (model prog w) A (pyNext (.ref it)) Q E s:=by
 unfold pyNext
 refine wpAny_bind (wpAny_attempt (wpAny_callSpecial?_slot (name:=Str.ofString "__next__") (hit.ty (h:=s.heap)) at_next (wpAny_call_entry at_next (hit.ty (h:=s.heap)) Jch ?_ (Jal _))))
 show wpAny _ _ (fieldsOf (.ref it) >>= _) _ _ s; refine wpAny_bind (wpAny_fieldsOf hit rfl ?_)
 show wpAny _ _ (setEntries a >>= _) _ _ s; refine wpAny_bind (wpAny_setEntries_of hs.ho hs.hd hs.hf ?_)
 show wpAny _ _ (if (((es.size:Nat):Int) != (es.size:Int)) = true then _ else _) _ _ s; rw [if_neg (by simp)]
 show wpAny _ _ (setNext a sl i ep >>= _) _ _ s
 refine wpAny_bind (hsn _ _ ?_)
 refine wpAny_bind (wpAny_setField hit rfl (by simp) ?_)
 have g1:(s.heap.update it (Obj.mapFields (·.setIfInBounds 0 (rawInt (nx:Int))))).get? it = some { cls:=.type "set_iterator",data:=.fields #[.int nx 0,.int i 0,.ref a,.int es.size 0,.int ep 0] }:=Heap.get?_update_self _ hit rfl
 refine wpAny_bind (wpAny_setField g1 rfl (by simp) (wpAny_pure ⟨x,rfl,wpAny_pure (hQ _ ?_ ((Heap.SameBut.update ..).trans (Heap.SameBut.update ..)))⟩))
 exact Heap.get?_update_self _ g1 rfl
theorem JcI {i sl:Nat} {Q:Option Value -> Shared -> Prop} (hh:A.handled = none) (hit:IsSI s.heap it (.int sl 0) i a es.size ep) (hs:SetAt s.heap a o es ep t) (hsn:∀ (E':Value -> Shared -> Prop) (Q':Option (Value × Nat) -> Shared -> Prop),Q' none s -> wpAny (model prog w) A.in1 (setNext a sl i ep) Q' E' s)
  (hQ:∀ h',(∀ b o,b ≠ it -> s.heap.get? b = some o -> h'.get? b = some o) -> Q none { s with heap:=h' }):wpAny (model prog w) A (pyNext (.ref it)) Q E s:=by
 unfold pyNext
 refine wpAny_bind (wpAny_attempt (wpAny_callSpecial?_slot (name:=Str.ofString "__next__") (hit.ty (h:=s.heap)) at_next (wpAny_call_entry at_next (hit.ty (h:=s.heap)) Jch ?_ (Jal _))))
 show wpAny _ _ (fieldsOf (.ref it) >>= _) _ _ s; refine wpAny_bind (wpAny_fieldsOf hit rfl ?_)
 show wpAny _ _ (setEntries a >>= _) _ _ s; refine wpAny_bind (wpAny_setEntries_of hs.ho hs.hd hs.hf ?_)
 show wpAny _ _ (if (((es.size:Nat):Int) != (es.size:Int)) = true then _ else _) _ _ s; rw [if_neg (by simp)]
 show wpAny _ _ (setNext a sl i ep >>= _) _ _ s
 refine wpAny_bind (hsn _ _ ?_)
 refine wpAny_bind (wpAny_setField hit rfl (by simp) ?_)
 refine JfW hh fun h' e hk he=>?_
 obtain ⟨o',ho',hc'⟩:=he
 refine wpAny_bind (wpAny_isInstance (T:="StopIteration") (b:=true) ⟨o',ho',hc'⟩ isSubtype_stop (wpAny_pure (hQ h' fun b o hb e=>hk b o ?_)))
 exact (Heap.get?_update_other _ _ (Ne.symm hb)).trans e
theorem JfJ {i j:Nat} {tp:Addr} {ord:Array Value} {e:Int × Value} {Q:Option Value -> Shared -> Prop} (hit:IsSI s.heap it (.ref tp) i a es.size ep) (hs:SetAt s.heap a o es ep t) (htp:s.heap.get? tp = some { cls:=.type "tuple",data:=.seq ord }) (hj:ord[i]? = some (.int (j:Int) 0)) (he:es[j]? = some e)
  (hQ:∀ h',IsSI h' it (.ref tp) (i + 1) a es.size ep -> Heap.SameBut it s.heap h' -> Q (some e.2) { s with heap:=h' }):wpAny (model prog w) A (pyNext (.ref it)) Q E s:=by
 unfold pyNext
 refine wpAny_bind (wpAny_attempt (wpAny_callSpecial?_slot (name:=Str.ofString "__next__") (hit.ty (h:=s.heap)) at_next (wpAny_call_entry at_next (hit.ty (h:=s.heap)) Jch ?_ (Jal _))))
 show wpAny _ _ (fieldsOf (.ref it) >>= _) _ _ s; refine wpAny_bind (wpAny_fieldsOf hit rfl ?_)
 show wpAny _ _ (setEntries a >>= _) _ _ s; refine wpAny_bind (wpAny_setEntries_of hs.ho hs.hd hs.hf ?_)
 show wpAny _ _ (if (((es.size:Nat):Int) != (es.size:Int)) = true then _ else _) _ _ s; rw [if_neg (by simp)]
 show wpAny _ _ (seqItems? (.ref tp) >>= _) _ _ s; refine wpAny_bind (wpAny_seqItems htp rfl ?_)
 simp only [Int.toNat_natCast,hj]
 refine wpAny_bind ?_
 unfold setNextDrawn
 refine wpAny_bind (wpAny_setState_of hs.ho hs.hd hs.hf ?_)
 simp only [bne_self_eq_false,Bool.false_eq_true,if_false,he]
 first | refine wpAny_bind (wpAny_pure (wpAny_pure ?_)) | refine wpAny_pure ?_
 refine wpAny_bind (wpAny_setField hit rfl (by simp) (wpAny_pure ⟨e.2,rfl,wpAny_pure (hQ _ ?_ (Heap.SameBut.update ..))⟩))
 exact Heap.get?_update_self _ hit rfl
theorem JbB {i:Nat} {tp:Addr} {ord:Array Value} {Q:Option Value -> Shared -> Prop} (hh:A.handled = none) (hit:IsSI s.heap it (.ref tp) i a es.size ep) (hs:SetAt s.heap a o es ep t) (htp:s.heap.get? tp = some { cls:=.type "tuple",data:=.seq ord }) (hj:ord[i]? = none)
  (hQ:∀ h',(∀ b o,b ≠ it -> s.heap.get? b = some o -> h'.get? b = some o) -> Q none { s with heap:=h' }):wpAny (model prog w) A (pyNext (.ref it)) Q E s:=by
 unfold pyNext
 refine wpAny_bind (wpAny_attempt (wpAny_callSpecial?_slot (name:=Str.ofString "__next__") (hit.ty (h:=s.heap)) at_next (wpAny_call_entry at_next (hit.ty (h:=s.heap)) Jch ?_ (Jal _))))
 show wpAny _ _ (fieldsOf (.ref it) >>= _) _ _ s; refine wpAny_bind (wpAny_fieldsOf hit rfl ?_)
 show wpAny _ _ (setEntries a >>= _) _ _ s; refine wpAny_bind (wpAny_setEntries_of hs.ho hs.hd hs.hf ?_)
 show wpAny _ _ (if (((es.size:Nat):Int) != (es.size:Int)) = true then _ else _) _ _ s; rw [if_neg (by simp)]
 show wpAny _ _ (seqItems? (.ref tp) >>= _) _ _ s; refine wpAny_bind (wpAny_seqItems htp rfl ?_)
 simp only [Int.toNat_natCast,hj]
 refine wpAny_bind (wpAny_setField hit rfl (by simp) ?_)
 have g1:(s.heap.update it (Obj.mapFields (·.setIfInBounds 0 (rawInt 0)))).get? it = some { cls:=.type "set_iterator",data:=.fields #[.int 0 0,.int i 0,.ref a,.int es.size 0,.int ep 0] }:=Heap.get?_update_self _ hit rfl
 refine wpAny_bind (wpAny_setField g1 rfl (by simp) ?_)
 refine JfW hh fun h' e hk he=>?_
 obtain ⟨o',ho',hc'⟩:=he
 refine wpAny_bind (wpAny_isInstance (T:="StopIteration") (b:=true) ⟨o',ho',hc'⟩ isSubtype_stop (wpAny_pure (hQ h' fun b o hb e=>hk b o ?_)))
 exact (Heap.get?_update_other _ _ (Ne.symm hb)).trans ((Heap.get?_update_other _ _ (Ne.symm hb)).trans e)
theorem JhX (hs:SetAt s.heap a o es ep t) (hT:byT w = true) {sl i:Nat} (E':Value -> Shared -> Prop) (Q':Option (Value × Nat) -> Shared -> Prop) (h:Q' (((pickOrder (w.params.setOrder a ep) es)[i]?).map fun e=>(e.2,sl)) s):wpAny (model prog w) A (setNext a sl i ep) Q' E' s:=by
 unfold setNext
 refine wpAny_bind (wpAny_setState_of hs.ho hs.hd hs.hf ?_)
 unfold setsByText
 refine wpAny_bind (wpAny_bind (wpAny_askSetting (wpAny_pure ?_)))
 show wpAny _ _ (if byT w = true then _ else _) _ _ s
 rw [if_pos hT]
 simp only [bne_self_eq_false,Bool.false_eq_true,if_false]
 first | refine wpAny_bind (wpAny_pure ?_) | skip
 unfold setWalk
 refine wpAny_bind (wpAny_bind (wpAny_setState_of hs.ho hs.hd hs.hf ?_))
 unfold setsByText
 refine wpAny_bind (wpAny_bind (wpAny_askSetting (wpAny_pure ?_)))
 show wpAny _ _ (if byT w = true then _ else _) _ _ s
 rw [if_pos hT]
 refine wpAny_bind (wpAny_askSetting (wpAny_pure ?_))
 exact wpAny_pure h
theorem JjO (hs:SetAt s.heap a o es ep t) (hT:byT w = false) (h1:es.size <= 1) (hl:es.size = 0 \/ t.led = true) {sl i:Nat} (E':Value -> Shared -> Prop) (Q':Option (Value × Nat) -> Shared -> Prop)
  (h:Q' (match es[SetTable.below t.place sl]?,t.place[SetTable.below t.place sl]? with
   | some (_,x),some j=>some (x,j + 1)
   | _,_=>none) s):wpAny (model prog w) A (setNext a sl i ep) Q' E' s:=by
 unfold setNext
 refine wpAny_bind (wpAny_setState_of hs.ho hs.hd hs.hf ?_)
 unfold setsByText
 refine wpAny_bind (wpAny_bind (wpAny_askSetting (wpAny_pure ?_)))
 show wpAny _ _ (if byT w = true then _ else _) _ _ s
 rw [if_neg (by rw [hT]; decide)]
 have h2:(!t.plain && decide (es.size > 1)) = false:=by
  rw [decide_eq_false (by omega),Bool.and_false]
 show wpAny _ _ (if (!t.plain && decide (es.size > 1)) = true then _ else _) _ _ s
 rw [if_neg (by rw [h2]; decide)]
 have h3:(!t.led && !es.isEmpty) = false:=by
  rcases hl with z | z
  ·have:es.isEmpty = true:=by simpa [Array.isEmpty] using z
   rw [this]; simp
  ·rw [z]; rfl
 show wpAny _ _ ((if (!t.led && !es.isEmpty) = true then _ else _) >>= _) _ _ s
 rw [if_neg (by rw [h3]; decide)]
 refine wpAny_bind (wpAny_pure (wpAny_pure h))
end
end Rd
namespace Rd
open PySem PySem.Spec PyProof.Rows L2 Pu
theorem Jiy:entryFor table "set_iterator.__iter__" = some Builtin.«dict_keyiterator.__iter__»:=entryFor_alias (id':="dict_keyiterator.__iter__") (by kernel_rfl) rfl (by decide +kernel) (by kernel_rfl)
theorem JeT:Slot "set_iterator" "__iter__" "set_iterator.__iter__":=.of (owner:="set_iterator") (n:="__iter__") (by rw [typeLookup_type,builtinLookup_eq_fast]; kernel_rfl) (by decide +kernel) (by decide +kernel) (by decide +kernel) (by first | exact .inl (by decide +kernel) | exact .inr (by decide +kernel)) (by rw [isSubtype_type]; kernel_rfl)
theorem JfA (a:Value):argsOk "set_iterator.__iter__" ⟨[a],[]⟩:=by
 unfold argsOk; rw [signature?_of (id:="set_iterator.__iter__") (n:=['_','_','r','e','t','i','_','_']) (o:=['r','o','t','a','r','e','t','i','_','t','e','s']) (by kernel_rfl) JeX]; kernel_rfl
section
variable {prog:Program} {w:World} {A:Around} {E:Value -> Shared -> Prop} {s:Shared} {a it:Addr} {o:Obj} {es:Array (Int × Value)} {ep:Nat} {t:SetTable}
theorem Jbi {first:Value} {i n:Nat} {Q:Value -> Shared -> Prop} (hit:IsSI s.heap it first i a n ep) (h:Q (.ref it) s):wpAny (model prog w) A (pyIter (.ref it)) Q E s:=by
 refine wpAny_pyIter_slot (hit.ty (h:=s.heap)) JeT (wpAny_call_entry JeT (hit.ty (h:=s.heap)) Jiy ?_ (JfA _))
 show wpAny _ _ (ret (.ref it)) _ _ s; exact wpAny_pure ⟨_,rfl,"set_iterator",_,(hit.ty (h:=s.heap)),at_next.lookup,h⟩
theorem JhI (hh:A.handled = none) (hT:byT w = true) (hne:a ≠ it):Walks prog w A it [it,a] [it] ((pickOrder (w.params.setOrder a ep) es).toList.map (·.2)).length (fun i v=>((pickOrder (w.params.setOrder a ep) es).toList.map (·.2))[i]? = some v)
  (fun i h=>IsSI h it (.int (0:Nat) 0) i a es.size ep /\ SetAt h a o es ep t) where
 sub:=fun b hb=>by simp at hb; simp [hb]
 frame:=fun i h h' st hk=>⟨hk it (by simp) _ st.1,st.2.stay fun o e=>hk a (by simp) o e⟩
 item:=fun i s Q E hi st hQ=>by
  have hi':i < (pickOrder (w.params.setOrder a ep) es).size:=by simpa using hi
  refine JcM (sl:=0) (nx:=0) (x:=(pickOrder (w.params.setOrder a ep) es)[i].2) st.1 st.2 (fun E' Q' q=>JhX st.2 hT E' Q' ?_) fun h' g1 g2=>?_
  ·rw [Array.getElem?_eq_getElem hi']; exact q
  ·refine hQ _ h' s.toks ?_ ⟨g1,st.2.stay fun o e=>(g2.2 a hne).trans e⟩ fun b o hb e=>(g2.2 b fun z=>hb (by simp [z])).trans e
   rw [List.getElem?_map,Array.getElem?_toList,Array.getElem?_eq_getElem hi']; rfl
 done:=fun s Q E st hQ=>by
  refine JcI (sl:=0) hh st.1 st.2 (fun E' Q' q=>JhX st.2 hT E' Q' ?_) fun h' k=>hQ h' s.toks fun b o hb e=>k b o (fun z=>hb (by simp [z])) e
  rw [Array.getElem?_eq_none (by simp)]; exact q
 self:=fun i s Q E st h=>Jbi st.1 h
theorem JfS {tp:Addr} {ord:List Nat} (hh:A.handled = none) (hne:a ≠ it) (hnt:tp ≠ it) (ho:∀ j ∈ ord,j < es.size):Walks prog w A it [it,a,tp] [it] (ord.map fun j=>(es.getD j (0,.none)).2).length (fun i v=>(ord.map fun j=>(es.getD j (0,.none)).2)[i]? = some v)
  (fun i h=>IsSI h it (.ref tp) i a es.size ep /\ SetAt h a o es ep t /\ h.get? tp = some { cls:=.type "tuple",data:=.seq (ord.map fun j:Nat=>Value.int (j:Int) 0).toArray }) where
 sub:=fun b hb=>by simp at hb; simp [hb]
 frame:=fun i h h' st hk=>⟨hk it (by simp) _ st.1,st.2.1.stay fun o e=>hk a (by simp) o e,hk tp (by simp) _ st.2.2⟩
 item:=fun i s Q E hi st hQ=>by
  have hi':i < ord.length:=by simpa using hi
  have hj:ord[i] < es.size:=ho _ (List.getElem_mem hi')
  refine JfJ (j:=ord[i]) (e:=es[ord[i]]) st.1 st.2.1 st.2.2 (by simp [hi']) (Array.getElem?_eq_getElem hj) fun h' g1 g2=>?_
  refine hQ _ h' s.toks ?_ ⟨g1,st.2.1.stay fun o e=>(g2.2 a hne).trans e,(g2.2 tp hnt).trans st.2.2⟩ fun b o hb e=>(g2.2 b fun z=>hb (by simp [z])).trans e
  rw [List.getElem?_map,List.getElem?_eq_getElem hi']
  simp [Array.getD,hj]
 done:=fun s Q E st hQ=>JbB hh st.1 st.2.1 st.2.2 (by simp) fun h' k=>hQ h' s.toks fun b o hb e=>k b o (fun z=>hb (by simp [z])) e
 self:=fun i s Q E st h=>Jbi st.1 h
theorem JiT (hh:A.handled = none) (hT:byT w = false) (hne:a ≠ it) (h1:es.size <= 1) (hl:es.size = 0 \/ t.led = true):Walks prog w A it [it,a] [it] (es.toList.map (·.2)).length (fun i v=>(es.toList.map (·.2))[i]? = some v)
  (fun i h=>IsSI h it (.int ((if i = 0 then 0 else t.place.getD 0 0 + 1:Nat):Nat) 0) i a es.size ep /\ SetAt h a o es ep t) where
 sub:=fun b hb=>by simp at hb; simp [hb]
 frame:=fun i h h' st hk=>⟨hk it (by simp) _ st.1,st.2.stay fun o e=>hk a (by simp) o e⟩
 item:=fun i s Q E hi st hQ=>by
  have hi':i < es.size:=by simpa using hi
  have i0:i = 0:=by omega
  subst i0
  have hsz:es.size = 1:=by omega
  have hp:t.place.size = 1:=by
   have:=st.2.hf
   simp only [SetTable.fits,Bool.and_eq_true,beq_iff_eq] at this
   omega
  have hb:SetTable.below t.place 0 = 0:=by
   unfold SetTable.below
   rw [hp]
   simp [SetTable.below.go]
  refine JcM (sl:=0) (nx:=t.place.getD 0 0 + 1) (x:=es[0].2) st.1 st.2 (fun E' Q' q=>JjO st.2 hT h1 hl E' Q' ?_) fun h' g1 g2=>?_
  ·rw [hb,Array.getElem?_eq_getElem hi',Array.getElem?_eq_getElem (show 0 < t.place.size by omega)]
   have:t.place.getD 0 0 = t.place[0]:=by simp [Array.getD,hp]
   rw [this] at q
   exact q
  ·refine hQ _ h' s.toks ?_ ⟨g1,st.2.stay fun o e=>(g2.2 a hne).trans e⟩ fun b o hb e=>(g2.2 b fun z=>hb (by simp [z])).trans e
   rw [List.getElem?_map,Array.getElem?_toList,Array.getElem?_eq_getElem hi']; rfl
 done:=fun s Q E st hQ=>by
  rw [List.length_map,Array.length_toList] at st
  refine JcI hh st.1 st.2 (fun E' Q' q=>JjO st.2 hT h1 hl E' Q' ?_) fun h' k=>hQ h' s.toks fun b o hb e=>k b o (fun z=>hb (by simp [z])) e
  have hp:t.place.size = es.size:=by
   have:=st.2.hf
   simp only [SetTable.fits,Bool.and_eq_true,beq_iff_eq] at this
   exact this.1
  have hout:es.size <= SetTable.below t.place (if es.size = 0 then 0 else t.place.getD 0 0 + 1):=by
   by_cases z:es.size = 0
   ·omega
   ·have z1:es.size = 1:=by omega
    rw [if_neg z]
    have hp1:t.place.size = 1:=by omega
    unfold SetTable.below
    rw [hp1]
    have h0:t.place[0]? = some (t.place[0]'(by omega)):=Array.getElem?_eq_getElem (by omega)
    simp [SetTable.below.go,h0,z1]
  rw [Array.getElem?_eq_none hout]
  exact q
 self:=fun i s Q E st h=>Jbi st.1 h
theorem Jjx {ks:List Str} {Q:Value -> Shared -> Prop} (hS:TS prog w (!byT w) s.heap a ks) (hk:ks.length <= 4000)
  (hQ:∀ (h1:Heap) (d:Drawn) (I:Addr) (fp:List Addr) (vs:List Value) (ks':List Str) (St:Nat -> Heap -> Prop),(∀ b o,s.heap.get? b = some o -> h1.get? b = some o) -> (∀ b ∈ fp,b = a \/ s.heap.objs.size <= b) -> s.heap.objs.size <= I ->
   (∀ A':Around,A'.handled = none -> Walks prog w A' I fp [I] vs.length (fun i v=>vs[i]? = some v) St) -> St 0 h1 -> StrsAre vs ks' -> ks'.Perm ks -> Q (.ref I) { s with heap:=h1,drawn:=d }):wpAny (model prog w) A (pyIter (.ref a)) Q E s:=by
 obtain ⟨o,es,ep,t,⟨ho,hx,hd⟩,hel,⟨hf,hz⟩,hl,hp,hkp,hn⟩:=hS
 have sa:SetAt s.heap a o es ep t:=⟨ho,hx,hd,hf⟩
 have hty:s.TypeIs (.ref a) "set":=⟨o,ho,hx.1⟩
 have hlt:a < s.heap.objs.size:=Heap.lt_size ho
 have allS:∀ e ∈ es.toList,∃ x u,e.2 = .str x u:=fun e he=>by
  obtain ⟨⟨k,hk,_⟩,_⟩:=hel e he
  obtain ⟨u,q⟩:=Jga hk
  exact ⟨k,u,q⟩
 have sts:∀ l:List (Int × Value),l.Perm es.toList -> StrsAre (l.map (·.2)) ((l.map (·.2)).map strOf) /\ ((l.map (·.2)).map strOf).Perm ks:=fun l pl=>by
  refine ⟨strsAre_map _ fun v hv=>?_,?_⟩
  ·obtain ⟨e,he,rfl⟩:=List.mem_map.mp hv
   exact allS e (pl.mem_iff.mp he)
  ·rw [List.map_map]
   exact (pl.map _).trans hkp
 refine wpAny_pyIter_slot hty F.slot_set_iter (wpAny_call_entry F.slot_set_iter hty Jmk ?_ (F.args_set_iter_1 _))
 unfold Builtin.«frozenset.__iter__» Builtin.Frozenset.slot0 slotArgs
 simp only [List.isEmpty_nil,Bool.not_true,Bool.false_eq_true,if_false,bind_assoc,List.length_nil,bne_self_eq_false]
 unfold Builtin.Frozenset.addrOf Builtin.Frozenset.sizeOf
 refine wpAny_bind (wpAny_pure ?_); try dsimp only
 refine wpAny_bind (wpAny_pure ?_)
 refine wpAny_bind (wpAny_bind (wpAny_setEntries_of ho hd hf (wpAny_pure ?_)))
 unfold setDrawn
 refine wpAny_bind (wpAny_bind (wpAny_setState_of ho hd hf ?_))
 unfold setsByText
 refine wpAny_bind (wpAny_bind (wpAny_askSetting (wpAny_pure ?_)))
 refine wpAny_pure ?_
 show wpAny _ _ (if (!byT w && (!t.plain && decide (es.size > 1))) = true then _ else _) _ _ s
 have z1:es.size <= sizeLine:=fits_of_scanBound hz
 by_cases hdr:(!byT w && (!t.plain && decide (es.size > 1))) = true
 ·rw [if_pos hdr]
  refine wpAny_bind (JeU _ _ _ _ (by simp) fun ord d po=>?_)
  refine wpAny_bind (wpAny_newTuple ?_ (by rw [List.length_map,po.length_eq,List.length_range]; exact z1))
  refine wpAny_bind (wpAny_setEpoch_of (Heap.get?_push_of_some _ ho) hd hf ?_)
  refine wpAny_bind (wpAny_newObj_type (wpAny_pure ⟨_,rfl,"set_iterator",_,⟨_,Heap.get?_push_size _ rfl,rfl⟩,at_next.lookup,?_⟩))
  have oj:∀ j ∈ ord,j < es.size:=fun j hj=>by simpa using po.mem_iff.mp hj
  have pl:((ord.map fun j=>es.getD j (0,.none))).Perm es.toList:=by
   have c1:=po.map fun j=>es.getD j (0,Value.none)
   refine c1.trans (List.Perm.of_eq ?_)
   refine List.ext_getElem (by simp) fun i h1 h2=>?_
   have h3:i < es.size:=by simpa using h2
   simp [Array.getD,h3]
  obtain ⟨q1,q2⟩:=sts _ pl
  have em:(ord.map fun j=>es.getD j (0,Value.none)).map (·.2) = ord.map fun j=>(es.getD j (0,Value.none)).2:=by rw [List.map_map]; rfl
  rw [em] at q1 q2
  refine hQ _ d _ [_,a,s.heap.objs.size] _ _ _ (fun b o e=>Heap.get?_push_of_some _ (Heap.get?_push_of_some _ e)) (fun b hb=>?_) ?_ (fun A' hA=>JfS (tp:=s.heap.objs.size) (ord:=ord) hA ?_ ?_ oj) ⟨Heap.get?_push_size _ rfl,sa.stay fun o e=>Heap.get?_push_of_some _ (Heap.get?_push_of_some _ e),Heap.get?_push_of_some _ (Heap.get?_push_size _ rfl)⟩ q1 q2
  ·simp only [List.mem_cons,List.not_mem_nil,or_false] at hb
   rcases hb with rfl | rfl | rfl
   ·right; show _ <= (Heap.push _ _).objs.size; rw [Heap.size_push]; exact Nat.le_succ _
   ·exact .inl rfl
   ·exact .inr (Nat.le_refl _)
  ·show _ <= (Heap.push _ _).objs.size; rw [Heap.size_push]; exact Nat.le_succ _
  ·show a ≠ (Heap.push _ _).objs.size; rw [Heap.size_push]; exact Nat.ne_of_lt (Nat.lt_succ_of_lt hlt)
  ·show s.heap.objs.size ≠ (Heap.push _ _).objs.size; rw [Heap.size_push]; exact Nat.ne_of_lt (Nat.lt_succ_self _)
 ·rw [if_neg hdr]
  refine wpAny_bind (wpAny_pure ?_)
  refine wpAny_bind (wpAny_setEpoch_of ho hd hf ?_)
  refine wpAny_bind (wpAny_newObj_type (wpAny_pure ⟨_,rfl,"set_iterator",_,⟨_,Heap.get?_push_size _ rfl,rfl⟩,at_next.lookup,?_⟩))
  have fpo:∀ b ∈ [s.heap.objs.size,a],b = a \/ s.heap.objs.size <= b:=fun b hb=>by
   simp only [List.mem_cons,List.not_mem_nil,or_false] at hb
   rcases hb with rfl | rfl
   ·exact .inr (Nat.le_refl _)
   ·exact .inl rfl
  have kp:∀ (x:Obj) b o,s.heap.get? b = some o -> (s.heap.push x).get? b = some o:=fun x b o e=>Heap.get?_push_of_some _ e
  cases hT:byT w with
  | true=>
   have pl:(pickOrder (w.params.setOrder a ep) es).toList.Perm es.toList:=by
    have:=Jde (w.params.setOrder a ep) es.size 0 es.toList #[] (by simp)
    simpa [pickOrder] using this
   obtain ⟨q1,q2⟩:=sts _ pl
   exact hQ _ s.drawn _ _ _ _ _ (kp _) fpo (Nat.le_refl _) (fun A' hA=>JhI (o:=o) (t:=t) hA hT (Nat.ne_of_lt hlt)) ⟨Heap.get?_push_size _ rfl,sa.stay fun o e=>Heap.get?_push_of_some _ e⟩ q1 q2
  | false=>
   have few:es.size <= 1:=by
    by_cases z:es.size <= 1
    ·exact z
    ·exfalso
     apply hdr
     rw [hT,hp (by omega),decide_eq_true (by omega)]
     rfl
   obtain ⟨q1,q2⟩:=sts _ (List.Perm.refl _)
   rw [hT] at hl
   exact hQ _ s.drawn _ _ _ _ _ (kp _) fpo (Nat.le_refl _) (fun A' hA=>JiT (o:=o) (t:=t) hA hT (Nat.ne_of_lt hlt) few (.inr hl)) ⟨Heap.get?_push_size _ rfl,sa.stay fun o e=>Heap.get?_push_of_some _ e⟩ q1 q2
end
end Rd
namespace Rd
open PySem PySem.Spec PyProof.Rows L2 Pu
section
variable {prog:Program} {w:World} {A:Around} {E:Value -> Shared -> Prop} {s:Shared} {a:Addr}
theorem JiQ {Q:Bool -> Shared -> Prop} (hT:s.TypeIs (.ref a) "set") (h:Q false s):wpAny (model prog w) A (Builtin.List.listLengthHint (.ref a)) Q E s:=by
 unfold Builtin.List.listLengthHint
 refine wpAny_bind (wpAny_specialOf hT F.slot_set_len.lookup ?_); generalize hid:("set.__len__" : String) = id0
 wp_delta
 rw [show splitId id0 = some ("set","__len__") from by subst hid; decide +kernel]; subst hid
 refine wpAny_bind (wpAny_isInstance (T:="set") (b:=true) hT (by rw [isSubtype_type]; kernel_rfl) (wpAny_ite_split (fun hab=>absurd hab (by decide)) (fun _=>wpAny_ite_split (fun _=>?_) (fun hab=>absurd (by decide +kernel) hab))))
 exact wpAny_bind (wpAny_typeOf hT (wpAny_pure h))
theorem Jen {ks:List Str} {Q:List Value -> Shared -> Prop} (hh:A.handled = none) (hS:TS prog w (!byT w) s.heap a ks) (hk:ks.length < 60)
  (hQ:∀ (h1:Heap) (d:Drawn) (tk:Nat) (vs:List Value) (ks':List Str),(∀ b o,s.heap.get? b = some o -> h1.get? b = some o) -> s.heap.objs.size <= h1.objs.size -> StrsAre vs ks' -> ks'.Perm ks -> Q vs { s with heap:=h1,drawn:=d,toks:=tk }):wpAny (model prog w) A (collect (.ref a)) Q E s:=by
 obtain ⟨oa,hoa⟩:=hS.there
 have hty:∀ s':Shared,TS prog w (!byT w) s'.heap a ks -> s'.TypeIs (.ref a) "set":=fun s' ⟨o,_,_,_,⟨e,x,_⟩,_⟩=>⟨o,e,x.1⟩
 have hne:s.heap.objs.size ≠ a:=Nat.ne_of_gt (Heap.lt_size hoa)
 unfold collect
 refine wpAny_bind (wpAny_runValue (codeAny_builtin F.entry_proto_collect ?_)); rw [Around.under_plainId F.plain_proto_collect _]
 show wpAny _ A.in1 (newList [] >>= fun l=>again (.builtin "list.__iadd__" ⟨[l,.ref a],[]⟩)) _ _ s; refine wpAny_bind (wpAny_newObj_type ?_)
 refine wpAny_pure ⟨plainId_quiet F.plain_list_iadd _,codeAny_builtin F.entry_list_iadd ?_⟩; rw [Around.under_plainId F.plain_list_iadd _]
 show wpAny _ A.in1 (Builtin.List.listExtendWith (.ref s.heap.objs.size) (.ref a) (.ref s.heap.objs.size)) _ _ _; unfold Builtin.List.listExtendWith
 have hS1:TS prog w (!byT w) (s.heap.push { cls:=.type "list",data:=.seq ([]:List Value).toArray }) a ks:=hS.stay fun o e=>Heap.get?_push_of_some _ e
 refine wpAny_bind (wpAny_typeOf (hty { s with heap:=s.heap.push { cls:=.type "list",data:=.seq ([]:List Value).toArray } } hS1) ?_)
 have h1:Builtin.List.listSameRef (.ref s.heap.objs.size) (.ref a) = false:=by simp [Builtin.List.listSameRef,hne]
 have h2:(Value.type "set" == Value.type "list") = false:=by decide
 have h3:(Value.type "set" == Value.type "tuple") = false:=by decide
 simp only [h1,h2,h3,Bool.or_false,Bool.false_eq_true,if_false]
 refine wpAny_bind (Jjx (s:={ s with heap:=s.heap.push { cls:=.type "list",data:=.seq ([]:List Value).toArray } }) hS1 (by omega) fun g1 d I fp vs ks' St kp fpo hI W st q1 q2=>?_)
 have hsz:(s.heap.push { cls:=.type "list",data:=.seq ([]:List Value).toArray }).objs.size = s.heap.objs.size + 1:=Heap.size_push ..
 have hSf:s.heap.objs.size ∉ fp:=fun z=>by
  rcases fpo _ z with e | e
  ·exact hne e
  ·change (s.heap.push { cls:=.type "list",data:=.seq ([]:List Value).toArray }).objs.size <= _ at e
   rw [hsz] at e
   omega
 have hIS:s.heap.objs.size ≠ I:=fun z=>by
  change (s.heap.push { cls:=.type "list",data:=.seq ([]:List Value).toArray }).objs.size <= _ at hI
  rw [hsz] at hI
  omega
 have hlen:vs.length = ks.length:=by
  have:=q2.length_eq
  rw [<- q1.strs,List.length_map] at this
  exact this
 have hnl:vs.length <= sizeLine:=by rw [sizeLine_eq]; omega
 have hL1:g1.get? s.heap.objs.size = some { cls:=.type "list",data:=.seq #[] }:=kp _ _ (Heap.get?_push_size _ rfl)
 have hh1:A.in1.in1.handled = none:=by simp [hh]
 have key:∀ (g:Heap) (c:Nat) (tk:Nat),St 0 g -> (∀ b o,b ≠ s.heap.objs.size -> g1.get? b = some o -> g.get? b = some o) -> g.get? s.heap.objs.size = some { cls:=.type "list",data:=.seq #[] c } ->
   codeAny (model prog w) A (.builtin "list.extend.loop" ⟨[.ref s.heap.objs.size,.ref I,.ref s.heap.objs.size],[]⟩) (fun r s'=>match r with
    | .ok (.ret v)=>wpAny (model prog w) A (match v with
     | .ref a=>do match (<- load a).data with
      | .seq xs _=>pure xs.toList
      | _=>unsupported "internal:collect"
     | _=>unsupported "internal:collect") Q E s'
    | .ok _=>False
    | .error e=>E e s') { s with heap:=g,drawn:=d,toks:=tk }:=by
  intro g c tk st' kp' hL
  refine codeAny_extend_loopS (W A.in1 (by simp [hh])).toS hnl s.heap.objs.size hSf _ vs.length 0 _ #[] c rfl (Nat.zero_le _) st' hL (ItemsOf.nil _) fun s' acc' c' hm hS' hacc=>?_
  have e2:acc'.toList = vs:=by
   refine List.ext_getElem (by simpa using hacc.1) fun i a1 a2=>?_
   have a3:i < acc'.size:=by simpa using a1
   have:vs[i]? = some acc'[i]:=hacc.2 i acc'[i] (Array.getElem?_eq_getElem a3)
   rw [List.getElem?_eq_getElem a2] at this
   simpa using (Option.some.inj this).symm
  show wpAny _ _ (load s.heap.objs.size >>= _) _ _ s'
  refine wpAny_bind (wpAny_load hS' (wpAny_pure ?_))
  obtain ⟨g',ge',d',tk',os'⟩:=s'
  have eg:ge' = s.gens:=hm.gens
  have ed:d' = d:=hm.drawn
  have eo:os' = s.os:=hm.os
  subst eg ed eo
  show Q acc'.toList _
  rw [e2]
  refine hQ g' d' tk' vs ks' (fun b o e=>?_) (Nat.le_of_lt (Heap.lt_size hS')) q1 q2
  have hb:b < s.heap.objs.size:=Heap.lt_size e
  refine hm.heap b o ?_ (kp' b o (Nat.ne_of_lt hb) (kp b o (Heap.get?_push_of_some _ e)))
  simp only [List.mem_cons,List.not_mem_nil,or_false,not_or]
  refine ⟨Nat.ne_of_lt hb,fun z=>?_⟩
  change (s.heap.push { cls:=.type "list",data:=.seq ([]:List Value).toArray }).objs.size <= _ at hI
  rw [hsz] at hI
  have hb':b < s.heap.objs.size:=hb
  rw [z] at hb'
  exact absurd (Nat.lt_of_lt_of_le hb' (Nat.le_of_succ_le hI)) (Nat.lt_irrefl _)
 have hS2:TS prog w (!byT w) g1 a ks:=hS1.stay fun o e=>kp a o e
 refine wpAny_bind (wpAny_holding (JiQ (hty { s with heap:=g1,drawn:=d } hS2) ?_))
 refine wpAny_ite_split (fun _=>?_) (fun _=>wpAny_pure ⟨plainId_quiet F.plain_extend_loop _,key g1 0 s.toks st (fun b o _ e=>e) hL1⟩)
 refine wpAny_bind (wpAny_rule (wpAny_bind ?_))
 show wpAny _ A.in1 (updateSeq s.heap.objs.size (·.push .none) >>= fun _=>updateSeq s.heap.objs.size (·.pop)) _ _ _; refine wpAny_bind (wpAny_updateSeq hL1 rfl ?_)
 have hL2:=Heap.get?_update_self (Obj.mapSeq (·.push Value.none)) hL1 rfl
 refine wpAny_updateSeq (hz:=by seq_fits) hL2 rfl ?_
 have hL3:=Heap.get?_update_self (Obj.mapSeq (·.pop)) hL2 rfl
 have oth:∀ b o,b ≠ s.heap.objs.size -> g1.get? b = some o -> ((g1.update s.heap.objs.size (Obj.mapSeq (·.push Value.none))).update s.heap.objs.size (Obj.mapSeq (·.pop))).get? b = some o:=fun b o hb e=>(Heap.get?_update_other _ _ (Ne.symm hb)).trans ((Heap.get?_update_other _ _ (Ne.symm hb)).trans e)
 exact wpAny_pure ⟨plainId_quiet F.plain_extend_loop _,key _ _ s.toks ((W A.in1 (by simp [hh])).frame 0 _ _ st fun b hb o e=>oth b o (fun z=>hSf (z ▸ hb)) e) oth hL3⟩
end
end Rd
namespace Rd
open PySem PySem.Spec PyProof.Rows L2 Pu
section
variable {prog:Program} {w:World} {A:Around} {E:Value -> Shared -> Prop} {s:Shared} {a:Addr}
theorem Jdq {ks:List Str} {Q:Value -> Shared -> Prop} (hh:A.handled = none) (hS:TS prog w (!byT w) s.heap a ks) (hk:ks.length < 60)
  (h:∀ (h':Heap) (d:Drawn) (tk:Nat) (l:Addr) (vs:List Value) (ss:List Str) (e:Nat),(∀ b o,s.heap.get? b = some o -> h'.get? b = some o) -> s.heap.objs.size <= l -> h'.get? l = some (seqObj "list" vs.toArray e) -> StrsAre vs ss -> ss.Perm ks -> PyProof.Rows.sortedS ss = true -> Q (.ref l) { s with heap:=h',drawn:=d,toks:=tk }) :
  wpAny (model prog w) A (call (.builtin "sorted") [.ref a]) Q E s:=by
 obtain ⟨oa,hoa⟩:=hS.there
 refine Calls.call_function_entry kind_sorted plain_sorted entry_sorted (args_sorted1 _) ?_
 unfold Builtin.«sorted»
 refine wpAny_bind (m:=checkCount "sorted" 1 1 _) (wpAny_pure (wpAny_bind (Jen (by simp [hh]) hS hk fun h1 d tk vs ks' kp hle q1 q2=>?_)))
 have hlen:vs.length = ks.length:=by
  have:=q2.length_eq
  rw [<- q1.strs,List.length_map] at this
  exact this
 refine wpAny_bind (wpAny_newList ?_ (by rw [sizeLine_eq]; omega))
 have hoL:(h1.push (seqObj "list" vs.toArray 0)).get? h1.objs.size = some (seqObj "list" vs.toArray 0):=Heap.get?_push_size _ rfl
 refine wpAny_bind (wpAny_holding (wpAny_call_entry slot_list_sort ⟨_,hoL,rfl⟩ entry_list_sort (list_sort_treeK strKind_oneLt (s:={ s with heap:=h1.push (seqObj "list" vs.toArray 0),drawn:=d,toks:=tk }) hoL q1.keysOf (fun v₁ v₂ rest e=>keyKind_strs (by rw [<- e]; exact q1)) (by omega) fun st' a1 a2=>⟨_,rfl,?_⟩) (args_list_sort _)))
 obtain ⟨ss,b1,b2,b3⟩:=sorted_out_str q1 a1 a2
 obtain ⟨e,he⟩:=sortedHeap_at (out:=(arrOf st').map (·.2)) hoL
 refine wpAny_pure ⟨_,rfl,h _ d tk h1.objs.size ((arrOf st').map (·.2)).toList ss e (fun b o q=>?_) hle (by rw [Array.toArray_toList]; exact he) b1 (b2.trans q2) b3⟩
 have q':=kp b o q
 have hlt:=Heap.lt_size q'
 rw [sortedHeap_old (Nat.ne_of_lt hlt) (by rw [Heap.size_push]; exact Nat.lt_succ_of_lt hlt)]
 exact Heap.get?_push_of_some _ q'
end
def SetO (X:Cx) (a:Addr) (ks:List Str):HO:=.ext fun h=>TS X.prog X.w (!byT X.w) h a ks
section
variable {X:Cx}
theorem Jbx:∀ {ws:List Str} {its:List Value},Vals (ws.map V.str) its -> StrsAre its ws
 | [],_,.nil=>.nil
 | x :: ws,_,.cons ⟨t,e⟩ r=>by subst e; exact .cons x t (Jbx r)
theorem Jbn:∀ {ws:List Str} {its:List Value},StrsAre its ws -> Vals (ws.map V.str) its
 | _,_,.nil=>.nil
 | _,_,.cons x t r=>.cons ⟨t,rfl⟩ (Jbn r)
theorem Jgc {pins:List (Addr × Obj)} {σ:L2.St} {H:Hp} {s:Shared} (I:L2.Inv X pins σ H s) (d:Drawn):L2.Inv X pins σ H { s with drawn:=d }:=⟨I.ok,I.os,I.bare,I.base,I.loc,I.cell,I.free,I.freeC,I.pin,I.hok,I.len⟩
def rSet (X:Cx):List V -> Hp -> VK -> Prop:=fun xs H Q=>∃ p ws,xs = [.ref p] /\ SqL X.K H p (ws.map V.str) /\ ws.length < 60 /\ ∀ l,H l = none -> Q (.ref l) (upd H l (SetO X l (metS ws)))
theorem JnP (hc:X.calm = true):CallR X (.type "set") (rSet X):=by
 intro pins s σ H xs us Q I r h
 obtain ⟨p,ws,rfl,hq,hl,q⟩:=h
 obtain ⟨u,rfl,rx⟩:=JaP r
 cases rx
 obtain ⟨its,r',pl,hz⟩:=I.list hq
 have hlen:=r'.length
 rw [List.length_map] at hlen
 refine Jio (items:=its.toArray) (ws:=ws) (I.ok.hd hc) pl.isList (by simpa using Jbx r') (by rw [List.size_toArray,<- hlen]; show _ < 4096; omega) fun h' tk hS kp=>?_
 obtain ⟨o,ho⟩:=hS.there
 exact ⟨.ref s.heap.objs.size,_,I.laid (t':=tk) (fun b o e=>kp b o (Heap.lt_size e) e) (Nat.le_refl _) (show ObjOk X.prog X.w _ h' _ (SetO X s.heap.objs.size (metS ws)) from ⟨hS,⟨o,ho⟩,fun h1 h2 z k=>TS.stay z k⟩),rfl,q _ (I.hok.fresh (Nat.le_refl _))⟩
theorem Jik (hc:X.calm = true):CallR X (.builtin "sorted") (fun xs H Q=>∃ p ks,xs = [.ref p] /\ H p = some (SetO X p ks) /\ ks.length < 60 /\ ∀ (l:Addr) (ss:List Str),H l = none -> ss.Perm ks -> PyProof.Rows.sortedS ss = true -> Q (.ref l) (upd H l (.lst (ss.map V.str)))):=by
 intro pins s σ H xs us Q I r h
 obtain ⟨p,ks,rfl,hq,hl,q⟩:=h
 obtain ⟨u,rfl,rx⟩:=JaP r
 cases rx
 have hS:TS X.prog X.w (!byT X.w) s.heap p ks:=(I.hok p _ hq).1
 refine Jdq (I.ok.hd hc) hS hl fun h' d tk l vs ss e kp hle hg q1 q2 q3=>?_
 have hz:vs.length = ks.length:=by
  have:=q2.length_eq
  rw [<- q1.strs,List.length_map] at this
  exact this
 have I1:L2.Inv X pins σ (upd H l (.lst (ss.map V.str))) { s with heap:=h',drawn:=d,toks:=tk }:=
  (Jgc I d).laid (t':=tk) kp hle ⟨by rw [List.length_map,q2.length_eq,sizeLine_eq]; omega,vs,e,Jbn q1,hg⟩
 exact ⟨.ref l,_,I1,rfl,q l ss (I.hok.fresh hle) q2 q3⟩
theorem Jbs:∀ (p:Str) (l:List Str),risingS p l = true -> (p :: l).Nodup -> (p :: l).Pairwise LtS
 | p,[],_,_=>by simp
 | p,x :: r,h,hn=>by
  simp only [risingS,Bool.and_eq_true,Bool.not_eq_true'] at h
  obtain ⟨h1,h2⟩:=h
  rw [ltCps_eq] at h1
  have n1:¬ LtS x p:=by simpa [LtS] using h1
  obtain ⟨m1,m2⟩:=List.nodup_cons.mp hn
  have ih:=Jbs x r h2 m2
  have px:LtS p x:=LtS.total n1 fun e=>m1 (by simp [e])
  refine List.pairwise_cons.mpr ⟨fun z hz=>?_,ih⟩
  rcases List.mem_cons.mp hz with rfl | hz
  ·exact px
  ·exact px.trans ((List.pairwise_cons.mp ih).1 z hz)
theorem JcW {ss ks ws:List Str} (h1:ss.Perm ks) (h2:PyProof.Rows.sortedS ss = true) (hn:ks.Nodup) (hm:∀ k,k ∈ ks ↔ k ∈ ws):ss = Pu.sortS ws:=by
 have hn':ss.Nodup:=h1.symm.nodup hn
 have hp:ss.Pairwise LtS:=by
  cases ss with
  | nil=>exact List.Pairwise.nil
  | cons p l=>exact Jbs p l h2 hn'
 exact JcF _ _ hp (JaE ws) fun k=>(h1.mem_iff.trans (hm k)).trans (JP ws k).symm
theorem JfF (ws:List Str):∀ ks:List Str,ks.Nodup -> (ws.foldl addS ks).Nodup:=by
 induction ws with
 | nil=>intro ks h; exact h
 | cons x ws ih=>
  intro ks h
  rw [List.foldl_cons]
  refine ih _ ?_
  unfold addS
  split
  ·exact h
  ·rename_i hin
   rw [List.nodup_append]
   refine ⟨h,by simp,fun u hu v hv e=>?_⟩
   rw [List.mem_singleton] at hv
   subst hv e
   exact hin hu
theorem JfV (ws:List Str):(metS ws).Nodup:=JfF ws [] List.nodup_nil
theorem Jac:∀ {ds:List D} {ws:List Str},strsOf ds = some ws -> ds = ws.map D.str
 | [],ws,h=>by cases h; rfl
 | .str x :: ds,ws,h=>by
  simp only [strsOf] at h
  cases q:strsOf ds with
  | none=>rw [q] at h; cases h
  | some vs=>rw [q] at h; cases h; rw [Jac q]; rfl
 | .non :: ds,ws,h=>by cases h
 | .bl _ :: ds,ws,h=>by cases h
 | .int _ :: ds,ws,h=>by cases h
 | .tup _ :: ds,ws,h=>by cases h
 | .lst _ :: ds,ws,h=>by cases h
theorem Jcn {K:PySem.W.Frag} {H:Hp}:∀ {ws:List Str} {xs:List V},Reps K H (ws.map D.str) xs -> xs = ws.map V.str
 | [],xs,h=>by cases h; rfl
 | w :: ws,xs,h=>by
  obtain ⟨x,r,rfl,h1,h2⟩:=h
  cases h1
  rw [Jcn h2]; rfl
theorem Jcb {K:PySem.W.Frag} {H:Hp}:∀ ws:List Str,Reps K H (ws.map D.str) (ws.map V.str)
 | []=>rfl
 | w :: ws=>⟨.str w,ws.map V.str,rfl,rfl,Jcb ws⟩
variable {call:CallD} {a:Expr} {pa:Px} {pos p1 p2 p3:Pos} {G:Gw} {N:List Str} {nm:List (Str × NameKind)}
theorem Joc (C:Ctx X G N nm) (ha:PE X a (tI X call pa)) (hg2:gloB nm "set" = true) (hm2:G.mg "set" = none) (hs:starEach [a] X.env = (false,eval a X.env) :: starEach [] X.env:=by rfl):PE X (.Call (.Name "set" p2) [a] [] p3) (tCB (rSet X) (tCons (tI X call pa) tNil)):=
 JcN (JnP C.calm) (C.glo _ hg2) (by rw [C.mg]; exact hm2) boot_set (Jt ha JaN hs) (by decide +kernel) (by decide +kernel) hs rfl
theorem JkI (C:Ctx X G N nm) (ha:PE X a (tI X call pa)) (hg:gloB nm "sorted" = true) (hm:G.mg "sorted" = none) (hg2:gloB nm "set" = true) (hm2:G.mg "set" = none) (hs:starEach [a] X.env = (false,eval a X.env) :: starEach [] X.env:=by rfl):PE X (.Call (.Name "sorted" p1) [.Call (.Name "set" p2) [a] [] p3] [] pos) (tI X call (.un .sset pa)):=by
 refine PE.weak (JeC (Jik C.calm) (C.glo _ hg) (by rw [C.mg]; exact hm) (by decide +kernel) (Jt (Joc C ha hg2 hm2 hs) JaN rfl) (by decide +kernel) (by decide +kernel) rfl rfl) fun σ H Q h=>?_
 obtain ⟨env,r,h⟩:=h
 simp only [evD] at h
 refine ⟨env,r,(Rs.good_bind.mp h).imp fun d hd=>fun v H1 s1 rv=>?_⟩
 show ∃ p ws,[v] = [.ref p] /\ _
 cases d with
 | lst ds=>
  obtain ⟨p,xs,rfl,h1,h2⟩:=rv
  simp only [op1] at hd
  cases q:strsOf ds with
  | none=>rw [q] at hd; exact hd.elim
  | some ws=>
   rw [q] at hd
   have e:=Jac q
   subst e
   have e2:=Jcn h2
   subst e2
   simp only at hd
   split at hd
   ·rename_i hlt
    refine ⟨p,ws,rfl,h1,hlt,fun l hl=>?_⟩
    show ∃ p' ks,[V.ref l] = [.ref p'] /\ _
    refine ⟨l,metS ws,rfl,Jd,Nat.lt_of_le_of_lt (JeW ws) hlt,fun l2 ss hl2 a1 a2=>?_⟩
    have e3:=JcW a1 a2 (JfV ws) (Jjp ws)
    subst e3
    have s2:Same H1 (upd H1 l (SetO X l (metS ws))):=fun b o e=>by rw [Jb (Jc e hl)]; exact e
    obtain ⟨s3,r3⟩:=JfK (K:=X.K) (H:=upd H1 l (SetO X l (metS ws))) hl2 (Jcb (Pu.sortS ws))
    exact hd _ _ (s1.trans (s2.trans s3)) r3
   ·exact hd.elim
 | _=>exact hd.elim
end
end Rd
namespace Rd
open PySem PySem.Spec PyProof.Rows L2 Pu
def plainN (x:Str):Bool:=!(x == ("__debug__" : Str)) && !(x == ("__classdict__" : Str))
def chkV (N:List Str) (nm:List (Str × NameKind)) (i:Nat) (x:Str):Bool:=(N[i]? == some x) && visB nm x && plainN x
def chkS (N:List Str) (nm:List (Str × NameKind)) (i:Nat) (x:Str):Bool:=(N[i]? == some x) && locB nm x && plainN x
def chkG (nm:List (Str × NameKind)) (x:Str):Bool:=gloB nm x && plainN x
section
variable {X:Cx} {call:CallD} {G:Gw} {N:List Str} {nm:List (Str × NameKind)} {e a b c:Expr} {es:List Expr} {p pa pb pc pl ph:Px} {pos p1 p2 p3:Pos} {x y:Str}
theorem plainN.d (h:plainN x = true):(x == ("__debug__" : Str)) = false /\ (x == ("__classdict__" : Str)) = false:=by
 simpa [plainN] using h
theorem vV (C:Ctx X G N nm) {i:Nat} (h:chkV N nm i x = true):PE X (.Name x pos) (tI X call (.var i)):=by
 simp only [chkV,Bool.and_eq_true,beq_iff_eq] at h
 obtain ⟨d1,d2⟩:=plainN.d h.2
 exact Jnl (by rw [C.hN]; exact h.1.1) (C.vis x h.1.2) d1 d2
def GlobC (G:Gw) (x:Str) (d:D):Prop:=∃ v u,G.mg x = some u /\ RelV v u /\ ∀ H,Rep G.K H d v
theorem vG (C:Ctx X G N nm) {d:D} (hk:GlobC G x d) (h:chkG nm x = true):PE X (.Name x pos) (tI X call (.con d)):=by
 simp only [chkG,Bool.and_eq_true] at h
 obtain ⟨d1,d2⟩:=plainN.d h.2
 obtain ⟨v,u,h1,h2,h3⟩:=hk
 exact Jkz (C.glo x h.1) ⟨v,u,by rw [C.mg]; exact h1,h2,fun H=>by rw [C.K]; exact h3 H⟩ d1
theorem cF (C:Ctx X G N nm) {fi:Nat} (hc:Callee G call fi x) (h:chkG nm x = true) (ha:PA X (e :: es) (tA X call p)) (he:starEach (e :: es) X.env = (false,eval e X.env) :: starEach es X.env:=by rfl) (hpl:(backTo pos (starEach es X.env)).any (·.1) = false:=by rfl) :
  PE X (.Call (.Name x p1) (e :: es) [] pos) (tI X call (.call fi p)):=by
 simp only [chkG,Bool.and_eq_true] at h
 exact JlC C hc h.1 (plainN.d h.2).1 ha he hpl
theorem cLen (C:Ctx X G N nm) (hm:G.mg "len" = none) (ha:PE X a (tI X call pa)) (hg:gloB nm "len" = true) (hs:starEach [a] X.env = (false,eval a X.env) :: starEach [] X.env:=by rfl):PE X (.Call (.Name "len" p1) [a] [] pos) (tI X call (.un .len pa)):=JeS C JmI ha hg hm PySem.boot_len (by decide +kernel) (by decide +kernel) hs
theorem cAll (C:Ctx X G N nm) (hm:G.mg "all" = none) (ha:PE X a (tI X call pa)) (hg:gloB nm "all" = true) (hs:starEach [a] X.env = (false,eval a X.env) :: starEach [] X.env:=by rfl):PE X (.Call (.Name "all" p1) [a] [] pos) (tI X call (.un .all pa)):=JeS C (JnR C.calm) ha hg hm boot_all (by decide +kernel) (by decide +kernel) hs
theorem Jkk (C:Ctx X G N nm) (hm:G.mg "tuple" = none) (ha:PE X a (tI X call pa)) (hg:gloB nm "tuple" = true) (hs:starEach [a] X.env = (false,eval a X.env) :: starEach [] X.env:=by rfl):PE X (.Call (.Name "tuple" p1) [a] [] pos) (tI X call (.un .tuple pa)):=JkJ C Jjd ha hg hm PyProof.Rows.boot_tuple (by decide +kernel) (by decide +kernel) hs
theorem cInt (C:Ctx X G N nm) (hm:G.mg "int" = none) (ha:PE X a (tI X call pa)) (hg:gloB nm "int" = true) (hs:starEach [a] X.env = (false,eval a X.env) :: starEach [] X.env:=by rfl):PE X (.Call (.Name "int" p1) [a] [] pos) (tI X call (.un .ints pa)):=JkJ C Jmu ha hg hm PyProof.Rows.boot_int (by decide +kernel) (by decide +kernel) hs
theorem eEq (C:Ctx X G N nm) (ha:PE X a (tI X call pa)) (hb:PE X b (tI X call pb)):PE X (.Compare a [.Eq] [b] pos) (tI X call (.bi .eq pa pb)):=JcA (Jkc C.un) ha hb (Jat _)
theorem eNe (C:Ctx X G N nm) (ha:PE X a (tI X call pa)) (hb:PE X b (tI X call pb)):PE X (.Compare a [.NotEq] [b] pos) (tI X call (.bi .ne pa pb)):=JcA (JjY C.un) ha hb (Jat _)
theorem eGt (ha:PE X a (tI X call pa)) (hb:PE X b (tI X call pb)):PE X (.Compare a [.Gt] [b] pos) (tI X call (.bi .gt pa pb)):=JcA JhZ ha hb (Jat _)
theorem eGe (ha:PE X a (tI X call pa)) (hb:PE X b (tI X call pb)):PE X (.Compare a [.GtE] [b] pos) (tI X call (.bi .ge pa pb)):=JcA JgH ha hb (Jat _)
theorem eIn (C:Ctx X G N nm) (ha:PE X a (tI X call pa)) (hb:PE X b (tI X call pb)) (hm:behindInMarks .In b = false:=by rfl):PE X (.Compare a [.In] [b] pos) (tI X call (.bi .isin pa pb)):=JcA (Jkq C.un) ha hb hm
theorem tEq (C:Ctx X G N nm) (ha:PE X a (tI X call pa)) (hb:PE X b (tI X call pb)):PT X (.Compare a [.Eq] [b] pos) (tT X call (.bi .eq pa pb)):=Jbg (Jkc C.un) ha hb (Jat _)
theorem tNe (C:Ctx X G N nm) (ha:PE X a (tI X call pa)) (hb:PE X b (tI X call pb)):PT X (.Compare a [.NotEq] [b] pos) (tT X call (.bi .ne pa pb)):=Jbg (JjY C.un) ha hb (Jat _)
theorem tLt (ha:PE X a (tI X call pa)) (hb:PE X b (tI X call pb)):PT X (.Compare a [.Lt] [b] pos) (tT X call (.bi .lt pa pb)):=Jbg JjP ha hb (Jat _)
theorem tGt (ha:PE X a (tI X call pa)) (hb:PE X b (tI X call pb)):PT X (.Compare a [.Gt] [b] pos) (tT X call (.bi .gt pa pb)):=Jbg JhZ ha hb (Jat _)
theorem tGe (ha:PE X a (tI X call pa)) (hb:PE X b (tI X call pb)):PT X (.Compare a [.GtE] [b] pos) (tT X call (.bi .ge pa pb)):=Jbg JgH ha hb (Jat _)
theorem tIn (C:Ctx X G N nm) (ha:PE X a (tI X call pa)) (hb:PE X b (tI X call pb)) (hm:behindInMarks .In b = false:=by rfl):PT X (.Compare a [.In] [b] pos) (tT X call (.bi .isin pa pb)):=Jbg (Jkq C.un) ha hb hm
theorem tNi (C:Ctx X G N nm) (ha:PE X a (tI X call pa)) (hb:PE X b (tI X call pb)) (hm:behindInMarks .NotIn b = false:=by rfl):PT X (.Compare a [.NotIn] [b] pos) (tT X call (.bi .notin pa pb)):=Jbg (Jgt C.un) ha hb hm
theorem eIx (ha:PE X a (tI X call pa)) (hb:PE X b (tI X call pb)) (hs:PlainIx b:=by intro _ _; rfl):PE X (.Subscript a b pos) (tI X call (.bi .idx pa pb)):=pI_ix JmE ha hb hs
theorem eAdd (ha:PE X a (tI X call pa)) (hb:PE X b (tI X call pb)):PE X (.BinOp a .Add b pos) (tI X call (.bi .add pa pb)):=Jdf Jlf ha hb
theorem eSub (ha:PE X a (tI X call pa)) (hb:PE X b (tI X call pb)):PE X (.BinOp a .Sub b pos) (tI X call (.bi .sub pa pb)):=Jdf JlU ha hb
theorem eMul (ha:PE X a (tI X call pa)) (hb:PE X b (tI X call pb)):PE X (.BinOp a .Mult b pos) (tI X call (.bi .mul pa pb)):=Jdf JlG ha hb
theorem eMod (ha:PE X a (tI X call pa)) (hb:PE X b (tI X call pb)):PE X (.BinOp a .Mod b pos) (tI X call (.bi .mod pa pb)):=Jdf Jmc ha hb
theorem eDiv (ha:PE X a (tI X call pa)) (hb:PE X b (tI X call pb)):PE X (.BinOp a .FloorDiv b pos) (tI X call (.bi .fdiv pa pb)):=Jdf Jis ha hb
theorem gOne (C:Ctx X G N nm) (h:chkS N nm 0 x = true):TgOk X (.Name x pos) 0 1:=by
 simp only [chkS,Bool.and_eq_true,beq_iff_eq] at h
 obtain ⟨h1,h2⟩:=C.sto x h.1.2
 exact JmW (by rw [C.hN]; exact h.1.1) (by rw [C.hN]; exact C.nd) h1 h2
theorem gTwo {k:Nat} (C:Ctx X G N nm) (h:chkS N nm 0 x = true) (h':chkS N nm 1 y = true):TgOk X (.Tuple [.Name x p1,.Name y p2] k pos) 2 2:=by
 simp only [chkS,Bool.and_eq_true,beq_iff_eq] at h h'
 obtain ⟨h1,h2⟩:=C.sto x h.1.2
 obtain ⟨h3,h4⟩:=C.sto y h'.1.2
 exact Jmq (by rw [C.hN]; exact h.1.1) (by rw [C.hN]; exact h'.1.1) (by rw [C.hN]; exact C.nd) h1 h2 h3 h4 C.calm
def scB (N:List Str) (nm:List (Str × NameKind)) (ls:List Str) (sc:Scope):Bool:=(sc.kind == .function) && decide (ls ++ hidN ls N).Nodup && scOkB N nm ls sc.names && N.all (fun n=>!ls.contains n || (sc.names.lookup (dum n)).isNone)
theorem scO {ls:List Str} {sc:Scope} (h:scB N nm ls sc = true):ScOk N nm ls sc:=by
 simp only [scB,Bool.and_eq_true,beq_iff_eq,decide_eq_true_eq] at h
 refine ⟨h.1.1.1,h.1.1.2,h.1.2,fun n hn hc=>?_⟩
 have:=List.all_eq_true.mp h.2 n hn
 simp only [hc,Bool.not_true,Bool.false_or,Option.isNone_iff_eq_none] at this
 exact this
variable {M:List Nat} {H0:Hp} {i j l:Nat} {px:Pos}
def chkA (N:List Str) (nm:List (Str × NameKind)) (M:List Nat) (i:Nat) (x:Str):Bool:=chkS N nm i x && !M.contains i
theorem chkA.at (h:chkA N nm M i x = true):N[i]? = some x /\ locB nm x = true /\ i ∉ M:=by
 simp only [chkA,chkS,Bool.and_eq_true,beq_iff_eq,Bool.not_eq_true',List.contains_eq_mem,decide_eq_false_iff_not] at h
 exact ⟨h.1.1.1,h.1.1.2,h.2⟩
def chkO (N:List Str) (nm:List (Str × NameKind)) (M:List Nat) (i:Nat) (x:Str):Bool:=chkS N nm i x && M.contains i && visB nm x
theorem chkO.at (h:chkO N nm M i x = true):N[i]? = some x /\ locB nm x = true /\ plainN x = true /\ i ∈ M /\ visB nm x = true:=by
 simp only [chkO,chkS,Bool.and_eq_true,beq_iff_eq,List.contains_eq_mem,decide_eq_true_eq] at h
 exact ⟨h.1.1.1.1,h.1.1.1.2,h.1.1.2,h.1.2,h.2⟩
theorem aSet (C:Ctx X G N nm) (h:chkA N nm M i x = true) (he:PE X e (tI X call p)) (hsp:sepP M p = true:=by rfl) (hs:swapsWith e (some (.Name x px)) pos.line X.env = pure false:=by rfl):PS X (.Assign [.Name x px] e pos) (tS X call M H0 (.set false i p)):=by
 obtain ⟨h1,h2,h3⟩:=chkA.at h
 exact Jon C h1 h2 h3 hsp he hs
theorem aOwn (C:Ctx X G N nm) (h:chkO N nm M i x = true) (he:PE X e (tF X call p)) (hs:swapsWith e (some (.Name x px)) pos.line X.env = pure false:=by rfl):PS X (.Assign [.Name x px] e pos) (tS X call M H0 (.own i p)):=by
 obtain ⟨h1,h2,h3,h4,h5⟩:=chkO.at h
 exact JnB C h1 h2 he hs
theorem aMov {py:Pos} (C:Ctx X G N nm) (h:chkA N nm M i x = true) (h':chkO N nm M j y = true) (hs:swapsWith (.Name y py) (some (.Name x px)) pos.line X.env = pure false:=by rfl):PS X (.Assign [.Name x px] (.Name y py) pos) (tS X call M H0 (.mov i j)):=by
 obtain ⟨h1,h2,h3⟩:=chkA.at h
 obtain ⟨g1,g2,g3,g4,g5⟩:=chkO.at h'
 obtain ⟨d1,d2⟩:=plainN.d g3
 exact Jnd C h1 h2 h3 g1 g5 d1 d2 g4 hs
section
variable {elt tg iter:Expr} {ifs:List Expr} {ps pe:Px} {nt:Nat} {ls:List Str} {sc:Scope}
theorem Jnh {st:Stmt} (h:PS X st (tAsg (tF X call p) (gName i))):PS X st (tAsg (tFH X call p) (gName i)):=by
 intro pins s σ H D I ⟨env,L,hL,r,g⟩
 obtain ⟨ps,e1,e2,I'⟩:=Inv.hide I hL
 refine wpAny_mono (h (ps ++ pins) s σ (hid L H) ⟨fun σ' H1=>Same (hid L H) H1 /\ ((∀ a ∈ L,H1 a = none) -> D.nx σ' (uni L H H1)),fun _ _=>False,fun _ _=>False,fun _ _=>False⟩ I' ⟨env,r,g.mono (fun d ⟨ds,ed,hd⟩=>⟨ds,ed,fun l xs H1 s1 h0 h1 rv=>⟨s1,fun hn=>?_⟩⟩) fun c z=>z⟩)
  (fun f s1 q=>?_) fun _ _ z=>z
 ·have hl:l ∉ L:=fun hm=>by rw [hn l hm] at h1; cases h1
  exact hd l xs _ (Jco s1) (fun a ha=>JaH ha) (by rw [Ji hl] at h0; exact h0) (by rw [Jo hl]; exact h1) (by rw [Jea hn]; exact rv)
 ·cases f with
  | next=>
   obtain ⟨σ',H1,I1,sm,q⟩:=q
   obtain ⟨hn,I2⟩:=Inv.unhide I hL e1 e2 (fun b xs q=>sm b _ q) I1
   exact ⟨σ',_,I2,q hn⟩
  | brk=>obtain ⟨_,_,_,q⟩:=q; exact q.elim
  | cont=>obtain ⟨_,_,_,q⟩:=q; exact q.elim
  | ret u=>obtain ⟨_,_,_,_,_,q⟩:=q; exact q.elim
theorem Jje (hM:i ∉ M) (hsp:sepP M p = true) (hl:isL p = true) {D:Ends} {σ:L2.St} {H:Hp} (h:tS X call M H0 (.set false i p) D σ H):tAsg (tFH X call p) (gName i) D σ H:=by
 obtain ⟨env,L,k1,k2,k3⟩:=JhK hM hsp h
 refine ⟨env,L,k1,k2,?_⟩
 cases q:evD call p env with
 | ok d=>
  rw [q] at k3
  obtain ⟨ds,rfl⟩:=JdJ hl q
  refine ⟨ds,rfl,fun l xs H1 s1 kk h0 h1 rv=>k3 _ _ s1 kk ?_⟩
  have hl':l ∉ L:=fun hm=>by
   obtain ⟨o,e3,_⟩:=k1 l hm
   rw [h0] at e3; cases e3
  exact ⟨l,xs,rfl,SqL.of (by rw [Ji hl']; exact h1),rv⟩
 | ex c=>rw [q] at k3; exact k3
 | stuck=>rw [q] at k3; exact k3.elim
def tgN:Expr -> List Str
 | .Name x _=>[x]
 | .Tuple es _ _=>es.filterMap fun e=>match e with
  | .Name x _=>some x
  | _=>none
 | _=>[]
abbrev cN (tg:Expr) (N:List Str):List Str:=tgN tg ++ hidN (tgN tg) N
theorem Jiv (C:Ctx X G N nm) (h:chkA N nm M i x = true) (hsc:scB N nm (tgN tg) sc = true) (hsrc:PI X tg iter (tW X call ps)) (htg:∀ X',Ctx X' G (cN tg N) sc.names -> TgOk X' tg nt (tgN tg).length) (hif:∀ X',Ctx X' G (cN tg N) sc.names -> PIf X' ifs (tT X' call pc))
  (helt:∀ X',Ctx X' G (cN tg N) sc.names -> PE X' elt (tI X' call pe)) (hsp:sepP M (.comp nt ps pc pe) = true:=by rfl) (hs:∀ x,foldedSetIterable iter X.env x = pure x:=by intro _; rfl):PS X (.Assign [.Name x px] (.ListComp elt [⟨tg,iter,ifs,0⟩] sc p1) pos) (tS X call M H0 (.set false i (.comp nt ps pc pe))):=by
 obtain ⟨h1,h2,h3⟩:=chkA.at h
 exact PS.weak (Jnh (JbN C (scO hsc) (by rw [C.hN]; exact h1) h2 hsrc htg hif helt hs)) fun D σ H q=>Jje h3 hsp rfl q
theorem aOwnC (C:Ctx X G N nm) (h:chkO N nm M i x = true) (hsc:scB N nm (tgN tg) sc = true) (hsrc:PI X tg iter (tW X call ps)) (htg:∀ X',Ctx X' G (cN tg N) sc.names -> TgOk X' tg nt (tgN tg).length) (hif:∀ X',Ctx X' G (cN tg N) sc.names -> PIf X' ifs (tT X' call pc))
  (helt:∀ X',Ctx X' G (cN tg N) sc.names -> PE X' elt (tI X' call pe)) (hs:∀ x,foldedSetIterable iter X.env x = pure x:=by intro _; rfl):PS X (.Assign [.Name x px] (.ListComp elt [⟨tg,iter,ifs,0⟩] sc p1) pos) (tS X call M H0 (.own i (.comp nt ps pc pe))):=by
 obtain ⟨h1,h2,h3,h4,h5⟩:=chkO.at h
 exact PS.weak (JbN C (scO hsc) (by rw [C.hN]; exact h1) h2 hsrc htg hif helt hs) fun D σ H q=>JgU q
theorem Jig (C:Ctx X G N nm) (hsc:scB N nm (tgN tg) sc = true) (hsrc:PI X tg iter (tW X call ps)) (htg:∀ X',Ctx X' G (cN tg N) sc.names -> TgOk X' tg nt (tgN tg).length) (hif:∀ X',Ctx X' G (cN tg N) sc.names -> PIf X' ifs (tT X' call pc))
  (helt:∀ X',Ctx X' G (cN tg N) sc.names -> PE X' elt (tI X' call pe)) (hs:∀ x,foldedSetIterable iter X.env x = pure x:=by intro _; rfl):PE X (.ListComp elt [⟨tg,iter,ifs,0⟩] sc pos) (tF X call (.comp nt ps pc pe)):=Jgw C (scO hsc) hsrc htg hif helt hs
end
theorem aApp {apos pos':Pos} (C:Ctx X G N nm) (h:chkO N nm M i x = true) (he:PE X e (tI X call p)) (hl:(apos.endLine == pos.line) = true) (hsp:sepP M p = true:=by rfl) (hs:starEach [e] X.env = (false,eval e X.env) :: starEach [] X.env:=by rfl) :
  PS X (.Expr (.Call (.Attribute (.Name x px) "append" apos) [e] [] pos) pos') (tS X call M H0 (.app false i p)):=by
 obtain ⟨h1,h2,h3,h4,h5⟩:=chkO.at h
 obtain ⟨d1,d2⟩:=plainN.d h3
 exact Jnp C h1 h5 d1 d2 h4 hsp he hl hs
theorem aExt {apos pos':Pos} (C:Ctx X G N nm) (h:chkO N nm M i x = true) (he:PE X e (tI X call p)) (hl:(apos.endLine == pos.line) = true) (hsp:sepP M p = true:=by rfl) (hs:starEach [e] X.env = (false,eval e X.env) :: starEach [] X.env:=by rfl) :
  PS X (.Expr (.Call (.Attribute (.Name x px) "extend" apos) [e] [] pos) pos') (tS X call M H0 (.ext false i (.walk (.un .rows p)))):=by
 obtain ⟨h1,h2,h3,h4,h5⟩:=chkO.at h
 obtain ⟨d1,d2⟩:=plainN.d h3
 exact Jmm C h1 h5 d1 d2 h4 hsp he hl hs
theorem lOne (C:Ctx X G N nm) (h:chkA N nm M i x = true):PG X (.Name x pos) (gS X M H0 [i] 0):=by
 obtain ⟨h1,h2,h3⟩:=chkA.at h
 exact JmA C h1 h2 h3
theorem lTwo {k:Nat} (C:Ctx X G N nm) (h:chkA N nm M i x = true) (h':chkA N nm M j y = true):PG X (.Tuple [.Name x p1,.Name y p2] k pos) (gS X M H0 [i,j] 2):=by
 obtain ⟨h1,h2,h3⟩:=chkA.at h
 obtain ⟨g1,g2,g3⟩:=chkA.at h'
 exact JmO C h1 h2 h3 g1 g2 g3
theorem eRep (hl:isL pa = true) (ha:PE X a (tF X call pa)) (hb:PE X b (tI X call pb)):PE X (.BinOp a .Mult b pos) (tI X call (.bi .rep pa pb)):=by
 refine PE.weak (JnM Jmn ha hb) fun σ H Q ⟨env,r,h⟩=>⟨env,r,?_⟩
 simp only [evD] at h
 cases q:evD call pa env with
 | ok dx=>
  obtain ⟨ds,rfl⟩:=JdJ hl q
  rw [q,Rs.bind_ok] at h
  refine ⟨ds,rfl,fun l xs H1 s1 k0 k1 k2=>⟨env,r.mono s1,(Rs.good_bind.mp h).mono (fun dy hy y H2 s2 r2=>?_) fun c z=>z.mono s1⟩⟩
  cases dy with
  | int k=>
   simp only [op2] at hy
   split at hy
   ·rename_i hz
    simp only [midI,Bool.and_eq_true,decide_eq_true_eq] at hz
    refine ⟨l,k,xs,rfl,r2,s2 _ _ k1,by omega,by omega,by rw [k2.length,sizeLine_eq]; exact hz.2,fun q hq=>?_⟩
    obtain ⟨s3,r3⟩:=JfK (K:=X.K) hq (Jew (k2.mono s2) k.toNat)
    exact hy _ _ ((s1.trans s2).trans s3) r3
   ·exact hy.elim
  | _=>exact (show False from hy).elim
 | ex c=>rw [q] at h; exact h
 | stuck=>rw [q] at h; exact h.elim
end
end Rd
namespace Rd
open PySem PySem.Spec PyProof.Rows L2 Pu
section
variable {X:Cx} {ps:List (Addr × Obj)} {σ:L2.St} {H:Hp} {s:Shared} {B h1 h2:Heap}
end
section
variable {X:Cx} {pins:List (Addr × Obj)} {σ σ':L2.St} {H:Hp} {s:Shared} {h':Heap}
end
structure ExcC (G:Gw) (x:Str):Prop where
 ex:∃ C,PySem.W.nsIn G.K mainGlobals x = some (some (.ref C)) /\ G.mg x = some (.ref C) /\ ∃ bs nid iid Bn,PySem.W.excIn G.K C bs nid = true /\ ExcBaseFacts Bn nid iid bs
section
variable {X:Cx} {pins:List (Addr × Obj)} {σ:L2.St} {H:Hp} {s:Shared} {E:Value -> Shared -> Prop} {A:Around}
end
section
variable {X:Cx} {pins:List (Addr × Obj)} {H:Hp} {s:Shared} {E:Value -> Shared -> Prop} {C CR a:Addr} {rn en y:Str} {np hp py pe p2:Pos} {je j:Nat} {D:Ends}
end
end Rd
namespace Rd
open PySem PySem.Spec PyProof.Rows L2 Pu
structure Takes (G:Gw) (rn:Str) (cs:List Str):Prop where
 ex:∃ CR,G.mg rn = some (.ref CR) /\ ∀ c ∈ cs,∃ C,PySem.W.nsIn G.K mainGlobals c = some (some (.ref C)) /\ G.mg c = some (.ref C) /\ PySem.W.exmOne G.K (.ref C) (.ref CR) = some true
section
variable {X:Cx} {call:CallD} {G:Gw} {N:List Str} {nm:List (Str × NameKind)} {e:Expr} {p:Px} {x y en rn:Str} {i j je:Nat} {H0:Hp} {cs:List Str} {px p1 np hp py pe p2 pos:Pos}
end
end Rd
namespace Rd
open PySem PySem.Spec PyProof.Rows L2 Pu
section
variable {X:Cx} {call:CallD} {G:Gw} {N:List Str} {nm:List (Str × NameKind)} {e:Expr} {p:Px} {x:Str} {i j:Nat} {M:List Nat} {H0:Hp} {np cpos pos:Pos}
end
end Rd
namespace Rd
open PySem PySem.Spec PyProof.Rows L2 Pu
section
variable {X:Cx} {call:CallD} {a b:Expr} {pa pb:Px} {pos p1 p2:Pos} {G:Gw} {N:List Str} {nm:List (Str × NameKind)}
end
end Rd
namespace Rd
open PySem PySem.Spec PyProof.Rows L2 Pu
section
open PySem.W PySem.Calls
variable {prog:Program} {w:World} {A:Around} {E:Value -> Shared -> Prop} {K:Frag} {x D:Addr}
structure ExKit (K:Frag) (D:Addr):Prop where
 g:findIn K (.ref D) "__getattribute__" = some (some (.builtin "BaseException.__getattribute__"))
 n:findIn K (.ref D) "__getattr__" = some none
 b:mroIn K D (.type "BaseException") = some true
 d:hasDictIn K D = true
 a:findIn K (.ref D) "__class__" = some (some (.builtin "object.__class__"))
 s:specialIn K (.builtin "object.__class__") "__get__" = some (some (.builtin "getset_descriptor.__get__"))
 t:takesIn K (.builtin "object.__class__") = some true
 m:mroIn K D (.type "object") = some true
end
structure IsaC (G:Gw) (t:Str) (cs:List Str):Prop where
 ex:∃ (u:Value) (v:V),RelV v u /\ (G.mg t = some u \/ (G.mg t = none /\ bootBuiltins t = some u /\ t ≠ "__name__")) /\ ∀ c ∈ cs,∃ C,PySem.W.nsIn G.K mainGlobals c = some (some (.ref C)) /\ ExKit G.K C /\ PySem.W.kitOne G.K (.ref C) u = some (t == Str.ofString "ValueError" || c == t)
section
variable {X:Cx} {call:CallD} {a:Expr} {pa:Px} {pos p1 p2:Pos} {G:Gw} {N:List Str} {nm:List (Str × NameKind)} {t:Str} {cs:List Str}
end
end Rd
namespace Rd
open PySem PySem.Spec PyProof.Rows L2 Pu
theorem Jce (a b:L2.Key):(keyV a).eqv (keyV b) = decide (a = b):=by
 cases a with
 | inl m=>cases b with
  | inl n=>by_cases h:m = n <;> simp [keyV,D.eqv,h]
  | _=>simp [keyV,D.eqv]
 | inr x=>cases b with
  | inr y=>by_cases h:x = y <;> simp [keyV,D.eqv,h]
  | _=>simp [keyV,D.eqv]
 | non=>cases b <;> simp [keyV,D.eqv]
theorem Jev {d:D} (h:keyD false d = true):∃ k,d = keyV k:=by
 cases d with
 | int i=>exact ⟨.inl i,rfl⟩
 | str x=>exact ⟨.inr x,rfl⟩
 | non=>exact ⟨.non,rfl⟩
 | _=>simp [keyD,keyB] at h
theorem Jdz {K:PySem.W.Frag} {H:Hp} {k:L2.Key} {y:V} (r:Rep K H (keyV k) y):y = kV k:=by
 cases k <;> cases r <;> rfl
def tkeyV (k:List (KTr L2.Key)):D:=.tup (treeVs k)
mutual
theorem JjM:∀ a b:KTr L2.Key,(treeV a).eqv (treeV b) = decide (a = b)
 | .a k,.a j=>by rw [treeV,treeV,Jce]; exact decide_eq_decide.mpr ⟨fun z=>by rw [z],fun z=>by injection z⟩
 | .a k,.t js=>by rw [decide_eq_false (fun z=>nomatch z)]; cases k <;> rfl
 | .t ks,.a j=>by rw [decide_eq_false (fun z=>nomatch z)]; cases j <;> rfl
 | .t ks,.t js=>by rw [treeV,treeV,D.eqv,Jbu ks js]; exact decide_eq_decide.mpr ⟨fun z=>by rw [z],fun z=>by injection z⟩
theorem Jbu:∀ a b:List (KTr L2.Key),eqvs (treeVs a) (treeVs b) = decide (a = b)
 | [],[]=>by simp [treeVs,eqvs]
 | [],_ :: _=>by simp [treeVs,eqvs]
 | _ :: _,[]=>by simp [treeVs,eqvs]
 | x :: a,y :: b=>by simp only [treeVs,eqvs,JjM x y,Jbu a b,List.cons.injEq,Bool.decide_and]
end
theorem Jcr (a b:List (KTr L2.Key)):(tkeyV a).eqv (tkeyV b) = decide (a = b):=by
 show eqvs _ _ = _
 exact Jbu a b
mutual
theorem JkE:∀ {d:D},keyTr d = true -> ∃ k,d = treeV k /\ kDep k = d.dep
 | .non,_=>⟨.a .non,rfl,rfl⟩
 | .bl _,h=>by simp [keyTr] at h
 | .int i,_=>⟨.a (.inl i),rfl,rfl⟩
 | .str x,_=>⟨.a (.inr x),rfl,rfl⟩
 | .tup ds,h=>by
  simp only [keyTr,Bool.and_eq_true] at h
  obtain ⟨ks,e,q⟩:=Jcu h.2
  exact ⟨.t ks,by rw [treeV,e],by simp only [kDep,D.dep,q]⟩
 | .lst _,h=>by simp [keyTr] at h
 | .dct _ _ _ _,h=>by simp [keyTr] at h
 | .exc _,h=>by simp [keyTr] at h
 | .fn _ _,h=>by simp [keyTr] at h
 | .obj _ _ _,h=>by simp [keyTr] at h
theorem Jcu:∀ {ds:List D},keyTrs ds = true -> ∃ ks,ds = treeVs ks /\ kDeps ks = deps ds
 | [],_=>⟨[],rfl,rfl⟩
 | d :: ds,h=>by
  simp only [keyTrs,Bool.and_eq_true] at h
  obtain ⟨k,e1,q1⟩:=JkE h.1
  obtain ⟨ks,e2,q2⟩:=Jcu h.2
  exact ⟨k :: ks,by rw [treeVs,<- e1,<- e2],by simp only [kDeps,deps,q1,q2]⟩
end
mutual
theorem Jkl {K:PySem.W.Frag} {H:Hp}:∀ (k:KTr L2.Key) {v:V},KH H k v -> Rep K H (treeV k) v
 | .a k,v,h=>by cases (show v = kV k from h); cases k <;> rfl
 | .t ks,v,⟨a,xs,e,h1,h2⟩=>⟨a,xs,e,.inl h1,Jgx ks h2⟩
theorem Jgx {K:PySem.W.Frag} {H:Hp}:∀ (ks:List (KTr L2.Key)) {xs:List V},KHs H ks xs -> Reps K H (treeVs ks) xs
 | [],_,h=>h
 | k :: ks,_,⟨v,r,e,h1,h2⟩=>⟨v,r,e,Jkl k h1,Jgx ks h2⟩
end
def banV:Value -> Nat
 | .str x _=>if banD x then 1 else 0
 | _=>0
def NoKT (K:PySem.W.Frag):Prop:=∀ (y:Str) (b:Addr) (o:Obj) (its:Array Value) (n:Nat),ModT K y b -> K.lookup b = some o -> o.cls = .type "tuple" -> o.data = .seq its n -> 2 <= (its.toList.map banV).sum
theorem JkV {K:PySem.W.Frag} {H:Hp} {d:D} {v:V} {u:Value} (h:keyTr d = true) (r:Rep K H d v) (q:RelV v u):banC d = banV u:=by
 cases d with
 | non=>cases r; cases q; rfl
 | int i=>cases r; obtain ⟨t,rfl⟩:=q; rfl
 | str x=>cases r; obtain ⟨t,rfl⟩:=q; rfl
 | tup ds=>obtain ⟨a,xs,rfl,_⟩:=r; cases q; rfl
 | _=>simp [keyTr] at h
theorem Jhg {K:PySem.W.Frag} {H:Hp}:∀ {ds:List D} {xs:List V} {us:List Value},keyTrs ds = true -> Reps K H ds xs -> Vals xs us -> (ds.map banC).sum = (us.map banV).sum
 | [],_,_,_,r,q=>by cases r; cases q; rfl
 | d :: ds,_,_,h,⟨x,r,e,h1,h2⟩,q=>by
  subst e
  simp only [keyTrs,Bool.and_eq_true] at h
  cases q with
  | cons q1 q2=>simp only [List.map_cons,List.sum_cons,JkV h.1 h1 q1,Jhg h.2 h2 q2]
mutual
theorem Jkh {K:PySem.W.Frag} {H:Hp} (hK:NoKT K):∀ (k:KTr L2.Key) {v:V},keyTr (treeV k) = true -> Rep K H (treeV k) v -> KH H k v
 | .a k,v,_,h=>Jdz h
 | .t ks,v,hk,⟨a,xs,e,h1,h2⟩=>by
  simp only [treeV,keyTr,Bool.and_eq_true,decide_eq_true_eq] at hk
  rcases h1 with h1 | ⟨y,o,its,n,q0,q1,q2,_,q3,q4,q5⟩
  ·exact ⟨a,xs,e,h1,JhU hK ks hk.2 h2⟩
  ·have:=hK y a o its n q0 q1 q2 q3
   have:=Jhg hk.2 h2 q5
   omega
theorem JhU {K:PySem.W.Frag} {H:Hp} (hK:NoKT K):∀ (ks:List (KTr L2.Key)) {xs:List V},keyTrs (treeVs ks) = true -> Reps K H (treeVs ks) xs -> KHs H ks xs
 | [],_,_,h=>h
 | k :: ks,_,hk,⟨x,r,e,h1,h2⟩=>by
  simp only [treeVs,keyTrs,Bool.and_eq_true] at hk
  exact ⟨x,r,e,Jkh hK k hk.1 h1,JhU hK ks hk.2 h2⟩
end
theorem JlP {d:D} (h:keyD true d = true):∃ ds,d = .tup ds /\ keyTr d = true /\ deps ds <= 7:=by
 cases d with
 | tup ds=>
  refine ⟨ds,rfl,?_⟩
  simp only [keyD,Bool.true_and,Bool.or_eq_true,Bool.and_eq_true,decide_eq_true_eq] at h
  rcases h with (h | h) | h
  ·have:∀ ds:List D,ds.all keyI = true -> (ds.map banC).sum = 0 /\ keyTrs ds = true /\ deps ds = 0:=fun ds=>by
    induction ds with
    | nil=>intro; exact ⟨rfl,rfl,rfl⟩
    | cons d ds ih=>
     intro h
     simp only [List.all_cons,Bool.and_eq_true] at h
     obtain ⟨i1,i2,i3⟩:=ih h.2
     cases d <;> first | (simp [keyI] at h; done) | simp [banC,i1,keyTrs,keyTr,i2,deps,D.dep,i3]
   obtain ⟨i1,i2,i3⟩:=this ds h
   simp [keyTr,i1,i2,i3]
  ·have:∀ ds:List D,ds.all keyS = true -> (ds.map banC).sum = 0 /\ keyTrs ds = true /\ deps ds = 0:=fun ds=>by
    induction ds with
    | nil=>intro; exact ⟨rfl,rfl,rfl⟩
    | cons d ds ih=>
     intro h
     simp only [List.all_cons,Bool.and_eq_true] at h
     obtain ⟨i1,i2,i3⟩:=ih h.2
     cases d <;> first | (simp [keyS] at h; done) | (simp only [keyS,Bool.not_eq_true'] at h; simp [banC,h.1,i1,keyTrs,keyTr,i2,deps,D.dep,i3])
   obtain ⟨i1,i2,i3⟩:=this ds h
   simp [keyTr,i1,i2,i3]
  ·exact h
 | _=>simp [keyD,keyB] at h
theorem JdN {K:PySem.W.Frag} {H:Hp} {d:D} {y:V} (hK:NoKT K) (hk:keyD true d = true) (r:Rep K H d y):∃ b k,y = .ref b /\ d = tkeyV k /\ KB H k b:=by
 obtain ⟨ds,rfl,h1,h2⟩:=JlP hk
 have h3:=h1
 simp only [keyTr,Bool.and_eq_true] at h3
 obtain ⟨ks,e,q⟩:=Jcu h3.2
 subst e
 have kh:KH H (.t ks) y:=Jkh hK (.t ks) h1 r
 obtain ⟨b,xs,rfl,_⟩:=id kh
 exact ⟨b,ks,rfl,rfl,kh,by omega⟩
section
variable {κ:Type} [DecidableEq κ] {g:κ -> D}
theorem JdP (hg:∀ a b,(g a).eqv (g b) = decide (a = b)) {K:PySem.W.Frag} {H:Hp} {k:κ}:∀ {kvs:List (κ × V)} {vs:List D},Reps K H vs (kvs.map (·.2)) -> match lookD (g k) (kvs.map fun p=>g p.1) vs with
  | some d=>∃ v,valV kvs k = some v /\ Rep K H d v
  | none=>valV kvs k = none
 | [],vs,h=>by
  cases vs with
  | nil=>rfl
  | cons _ _=>obtain ⟨_,_,e,_⟩:=h; cases e
 | p :: kvs,vs,h=>by
  cases vs with
  | nil=>cases h
  | cons d vs=>
   obtain ⟨x,r,e,h1,h2⟩:=h
   simp only [List.map_cons,List.cons.injEq] at e
   obtain ⟨rfl,rfl⟩:=e
   simp only [List.map_cons,lookD,hg]
   by_cases q:p.1 = k
   ·simp only [q,decide_true,if_true]
    exact ⟨p.2,JaX q,h1⟩
   ·simp only [q,decide_false,Bool.false_eq_true,if_false]
    have ih:=JdP hg (k:=k) h2
    rw [JaU q]; exact ih
theorem JgK (hg:∀ a b,(g a).eqv (g b) = decide (a = b)) {k:κ} (kvs:List (κ × V)):((kvs.map fun p=>g p.1).any fun d=>d.eqv (g k)) = (valV kvs k).isSome:=by
 rw [<- JaS,List.any_map]
 simp only [Function.comp_def,hg]
theorem JjU (hg:∀ a b,(g a).eqv (g b) = decide (a = b)) {K:PySem.W.Frag} {H:Hp} {k:κ} {v:V} {d:D} (hd:Rep K H d v) {kvs:List (κ × V)} {vs:List D} (h:Reps K H vs (kvs.map (·.2))) :
  (putD (g k) d (kvs.map fun p=>g p.1) vs).1 = (putK kvs k v).map (fun p=>g p.1) /\ Reps K H (putD (g k) d (kvs.map fun p=>g p.1) vs).2 ((putK kvs k v).map (·.2)):=by
 have ea:=JgK hg (k:=k) kvs
 rw [<- JaS] at ea
 unfold putD putK
 rw [ea]
 by_cases q:(kvs.any fun kv=>decide (kv.1 = k)) = true
 ·rw [if_pos q,if_pos q]
  refine ⟨?_,?_⟩
  ·show kvs.map _ = _
   rw [List.map_map]
   refine List.map_congr_left fun p _=>?_
   show g p.1 = g (if p.1 = k then (p.1,v) else p).1
   split <;> rfl
  ·clear q ea
   show Reps K H (setD _ _ _ _) _
   induction kvs generalizing vs with
   | nil=>
    cases vs with
    | nil=>rfl
    | cons _ _=>obtain ⟨_,_,e,_⟩:=h; cases e
   | cons p kvs ih=>
    cases vs with
    | nil=>cases h
    | cons u vs=>
     obtain ⟨x,r,e,h1,h2⟩:=h
     simp only [List.map_cons,List.cons.injEq] at e
     obtain ⟨rfl,rfl⟩:=e
     simp only [List.map_cons,setD,hg]
     refine ⟨_,_,rfl,?_,ih h2⟩
     by_cases hp:p.1 = k
     ·simp only [hp,decide_true,if_true]; exact hd
     ·simp only [hp,decide_false,Bool.false_eq_true,if_false]; exact h1
 ·rw [if_neg q,if_neg q]
  refine ⟨by simp,?_⟩
  simp only [List.map_append,List.map_cons,List.map_nil]
  exact h.append (Reps.one hd)
end
theorem dk_k {H:Hp} {a:Addr} {z:Bool} {ks:List D} {xs:List V} (h:DK H a false z ks xs):∃ kvs:List (L2.Key × V),Rd H a (.dK kvs) /\ ks = kvs.map (fun p=>keyV p.1) /\ xs = kvs.map (·.2):=by
 cases z <;> obtain ⟨kvs,h1,h2⟩:=h
 ·exact ⟨kvs,.inl h1,h2⟩
 ·exact ⟨kvs,.inr h1,h2⟩
theorem dk_t {H:Hp} {a:Addr} {z:Bool} {ks:List D} {xs:List V} (h:DK H a true z ks xs):∃ kvs:List (List (KTr L2.Key) × V),Rd H a (.dT kvs) /\ ks = kvs.map (fun p=>tkeyV p.1) /\ xs = kvs.map (·.2):=by
 cases z <;> obtain ⟨kvs,h1,h2⟩:=h
 ·exact ⟨kvs,.inl h1,h2⟩
 ·exact ⟨kvs,.inr h1,h2⟩
section
variable {prog:Program} {w:World} {κ:Type} [DecidableEq κ] {kd:HeapKind prog w κ} {A:Around} {E:Value -> Shared -> Prop} {s:Shared} {d:Addr} {xs:List (κ × Addr × Value)}
end
section
variable {X:Cx} {call:CallD} {G:Gw} {N:List Str} {nm:List (Str × NameKind)} {e a b:Expr} {p pa pb:Px} {pos p1:Pos} {x:Str} {i:Nat} {M:List Nat} {H0:Hp} {px:Pos}
theorem JkD {H:Hp} {t z:Bool} {ks vs:List D} {dy:D} {x y:V} (hK:t = true -> NoKT X.K) (r1:Rep X.K H (.dct t z ks vs) x) (r2:Rep X.K H dy y) (hk:keyD t dy = true):∃ l o,x = .ref l /\ DGet H l y o /\ (ks.any fun d=>d.eqv dy) = o.isSome /\ ∀ d,lookD dy ks vs = some d -> ∃ v,o = some v /\ Rep X.K H d v:=by
 obtain ⟨l,xs,rfl,h1,h2⟩:=r1
 cases t with
 | false=>
  obtain ⟨kvs,g1,rfl,rfl⟩:=dk_k h1
  obtain ⟨k,rfl⟩:=Jev hk
  have:=Jdz r2
  subst this
  refine ⟨l,valV kvs k,rfl,.inl ⟨kvs,k,g1,rfl,rfl⟩,JgK Jce kvs,fun d hd=>?_⟩
  have:=JdP Jce (k:=k) h2
  rw [hd] at this
  exact this
 | true=>
  obtain ⟨kvs,g1,rfl,rfl⟩:=dk_t h1
  obtain ⟨b,k,rfl,rfl,hb⟩:=JdN (hK rfl) hk r2
  refine ⟨l,valV kvs k,rfl,.inr ⟨kvs,k,b,g1,rfl,hb,rfl⟩,JgK Jcr kvs,fun d hd=>?_⟩
  have:=JdP Jcr (k:=k) h2
  rw [hd] at this
  exact this
theorem Joo (C:Ctx X G N nm) (h:chkO N nm M i x = true) (hs:swapsWith (.Dict [] [] p1) (some (.Name x px)) pos.line X.env = pure false:=by rfl):PS X (.Assign [.Name x px] (.Dict [] [] p1) pos) (tS X call M H0 (.ownD false i)):=by
 obtain ⟨h1,h2,h3,h4,h5⟩:=chkO.at h
 obtain ⟨k1,k2⟩:=C.sto x h2
 refine PS.weak (Jbd (by rw [C.hN]; exact C.nd) (by rw [C.hN]; exact h1) k1 JbU hs k2) fun D σ H ⟨env,e,h⟩=>?_
 simp only [exD] at h
 intro l h0
 have s:Same H (upd H l (.dK [])):=fun b o q=>by rw [Jb (Jc q h0)]; exact q
 obtain ⟨e2,f2⟩:=e.putOwn s (i:=i) (d:=.dct false false [] []) h0 fun Hh tp=>⟨rfl,[],⟨[],Jd,rfl,rfl⟩,rfl⟩
 exact h _ _ e2 ⟨f2,fun _=>s⟩
theorem Jmx (C:Ctx X G N nm) (h:chkO N nm M i x = true) (hs:swapsWith (.Dict [] [] p1) (some (.Name x px)) pos.line X.env = pure false:=by rfl):PS X (.Assign [.Name x px] (.Dict [] [] p1) pos) (tS X call M H0 (.ownD true i)):=by
 obtain ⟨h1,h2,h3,h4,h5⟩:=chkO.at h
 obtain ⟨k1,k2⟩:=C.sto x h2
 refine PS.weak (Jbd (by rw [C.hN]; exact C.nd) (by rw [C.hN]; exact h1) k1 Jfn hs k2) fun D σ H ⟨env,e,h⟩=>?_
 simp only [exD] at h
 intro l h0
 have s:Same H (upd H l (.dT [])):=fun b o q=>by rw [Jb (Jc q h0)]; exact q
 obtain ⟨e2,f2⟩:=e.putOwn s (i:=i) (d:=.dct true false [] []) h0 fun Hh tp=>⟨rfl,[],⟨[],Jd,rfl,rfl⟩,rfl⟩
 exact h _ _ e2 ⟨f2,fun _=>s⟩
end
end Rd
namespace Rd
open PySem PySem.Spec PyProof.Rows L2 Pu
section
variable {X:Cx} {pins:List (Addr × Obj)} {σ:L2.St} {H:Hp} {s:Shared} {l:Addr}
theorem JkH (I:L2.Inv X pins σ H s) {kvs:List (L2.Key × V)} (e:H l = some (.dK kvs)):∃ o,L2.Inv X pins σ (upd H l (.frz o (.dK kvs))) s:=by
 obtain ⟨z,hd,vs,rel,dd⟩:=Jms I.hok e
 obtain ⟨o,es,ep,ho,_⟩:=id dd
 exact ⟨o,I.write (t':=s.toks) (x:=l) (e:=l) (h':=s.heap) (by rw [e]; exact True.intro) (.inl rfl) (fun _ _ _ q=>q) ⟨o,ho⟩ ⟨ho,z,hd,vs,rel,dd⟩⟩
theorem JgT (I:L2.Inv X pins σ H s) {kvs:List (List (KTr L2.Key) × V)} (e:H l = some (.dT kvs)):∃ o,L2.Inv X pins σ (upd H l (.frz o (.dT kvs))) s:=by
 obtain ⟨z,hd,xs,rel,o,es,ep,ho,h2,h3,h4,h5⟩:=(show ObjOk X.prog X.w H s.heap l (.dT kvs) from I.hok l _ e)
 refine ⟨o,I.write (t':=s.toks) (x:=l) (e:=l) (h':=s.heap) (by rw [e]; exact True.intro) (.inl rfl) (fun _ _ _ q=>q) ⟨o,ho⟩ ⟨ho,z,hd,xs,KT.keeps rel fun b ys q=>?_,o,es,ep,ho,h2,h3,h4,h5⟩⟩
 rw [Jb (JlT q e (fun z=>nomatch z))]
 exact q
end
section
variable {X:Cx} {call:CallD} {G:Gw} {N:List Str} {nm:List (Str × NameKind)} {e a b:Expr} {p pa pb:Px} {pos p1 p2:Pos} {x:Str} {i:Nat} {M:List Nat} {H0:Hp} {px:Pos}
end
end Rd
namespace Rd
open PySem PySem.Spec PyProof.Rows L2 Pu
section
variable {X:Cx} {call:CallD} {M M2 is:List Nat} {H0:Hp} {e:Expr} {p:Px} {b:Sx} {pos:Pos} {rest:List Stmt}
end
end Rd
namespace Rd
open PySem PySem.Spec PyProof.Rows L2
open Sem (wp)
section
variable {prog:Program} {w:World} {A:Around} {R:Result -> Shared -> Prop} {I d:Addr} {fp wr:List Addr} {n:Nat} {P:Nat -> Value -> Prop} {St:Nat -> Heap -> Prop} {κ:Type} [DecidableEq κ] {knd:KeyKind prog w κ}
end
end Rd
namespace Rd
open PySem PySem.Spec PyProof.Rows L2 Pu
section
variable {X:Cx}
end
section
variable {X:Cx} {call:CallD} {G:Gw} {N:List Str} {nm:List (Str × NameKind)} {a:Expr} {pa:Px} {pos p1:Pos}
end
end Rd
namespace Rd
open PySem PySem.Spec PyProof.Rows L2 Pu
section
variable {prog:Program} {w:World} {A:Around} {E:Value -> Shared -> Prop} {s:Shared}
end
section
variable {prog:Program} {w:World} {A:Around} {E:Value -> Shared -> Prop} {s:Shared}
end
section
variable {X:Cx} {call:CallD} {G:Gw} {N:List Str} {nm:List (Str × NameKind)} {a:Expr} {pa:Px} {pos p1 p2 p3:Pos}
end
end Rd
namespace Rd
open PySem PySem.Spec PyProof.Rows L2 Pu
section
variable {X:Cx} {call:CallD} {G:Gw} {N:List Str} {nm:List (Str × NameKind)} {k v:Expr} {pk pv:Px} {pos:Pos}
theorem eDsp1 (C:Ctx X G N nm) (hK:NoKT G.K) (hk:PE X k (tI X call pk)) (hv:PE X v (tI X call pv)):PE X (.Dict [some k] [v] pos) (tI X call (.dsp true (.cons pk .nil) (.cons pv .nil))):=by
 intro pins s σ H Q I ⟨env,r,h⟩
 simp only [evD,Rs.bind_assoc,dspD] at h
 have hn:=I.hok.fresh (Nat.le_refl s.heap.objs.size)
 have I1:=I.laid (a:=s.heap.objs.size) (o:=.dT []) (h':=s.heap.push { cls:=.type "dict",data:=.dict #[] }) (t':=s.toks) (fun _ _ q=>Heap.get?_push_of_some _ q) (Nat.le_refl _) (Jfj s.heap I.big)
 have eH:hid [s.heap.objs.size] (upd H s.heap.objs.size (.dT [])) = H:=by
  funext c
  by_cases q:c = s.heap.objs.size
  ·rw [Jah (by simp [q]),q,hn]
  ·rw [Ji (by simpa using q),Jb q]
 have hL:Ows [s.heap.objs.size] (upd H s.heap.objs.size (.dT [])):=fun c hc=>by
  have:c = s.heap.objs.size:=by simpa using hc
  exact ⟨.dT [],by rw [this]; exact Jd,True.intro⟩
 obtain ⟨ps,g1,g2,I2⟩:=Rd.Inv.hide I1 hL
 rw [eH] at I2
 refine wpAny_Dict_any rfl rfl (by simp) (by simp) ?_
 refine pairTrees_cons_walk (thn (hk (ps ++ pins) _ σ H (fun x H1=>∃ d,Same H H1 /\ Rep X.K H1 d x /\ ((evD call pv env).bind fun y=>if keyD true d then .ok (.dct true true [d] [y]) else .stuck).Good (Out X H Q) (XW X H)) I2 ⟨env,r,?_⟩) fun u s1 ⟨x,H1,J1,rx,d,e1,e3,e4⟩=>?_)
 ·refine (Rs.good_bind.mp h).mono (fun d hd x H1 sm rx=>⟨d,sm,rx,?_⟩) fun c hc=>hc
  simpa only [Rs.bind_ok,D.asL] using hd
 refine thn (hv (ps ++ pins) s1 σ H1 (fun y H2=>∃ dv,Same H1 H2 /\ Rep X.K H2 dv y /\ (if keyD true d then Rs.ok (D.dct true true [d] [dv]) else .stuck).Good (Out X H Q) (XW X H)) J1 ⟨env,r.mono e1,?_⟩) fun w2 s2 ⟨y,H2,J2,ry,dv,f1,f2,f3⟩=>?_
 ·exact (Rs.good_bind.mp e4).mono (fun dv hd y H2 sm ry=>⟨dv,sm,ry,hd⟩) fun c hc=>hc.mono e1
 refine pairTrees_nil_walk ?_
 obtain ⟨u1,J3⟩:=Rd.Inv.unhide I1 hL g1 g2 (fun b xs q=>(show Same _ _ by rw [eH]; exact e1.trans f1) b _ q) J2
 have hp0:=u1 s.heap.objs.size (by simp)
 have hp2:uni [s.heap.objs.size] (upd H s.heap.objs.size (.dT [])) H2 s.heap.objs.size = some (.dT []):=by rw [JaH (by simp)]; exact Jd
 split at f3
 ·rename_i hkd
  have hKX:NoKT X.K:=by rw [C.K]; exact hK
  obtain ⟨b,ks,rfl,rfl,hb⟩:=JdN hKX hkd e3
  cases (show u = Value.ref b from rx)
  have hb1:=hb.keep fun _ _ q=>f1 _ _ q
  have nb:b ≠ s.heap.objs.size:=let ⟨_,q⟩:=hb1.tup; Jc q hp0
  have hb2:KB (uni [s.heap.objs.size] (upd H s.heap.objs.size (.dT [])) H2) ks b:=hb1.keep fun c xs q=>by rw [Jo (by simpa using Jc q hp0)]; exact q
  obtain ⟨z,hd,xs,rel,dd⟩:=JmF J3.hok hp2
  cases rel
  unfold storeAll
  rw [List.forIn_cons]
  refine wpAny_bind (wpAny_bind (wpAny_dictSet_heap (hsz:=Nat.zero_le _) (show X.A.units + 50 < cLine by have:=C.un; omega) (L2.key_of J3.hok hb2) dd fun h' dd' hs=>wpAny_pure ?_))
  show wpAny _ _ (forIn [] PUnit.unit _) _ _ _
  rw [List.forIn_nil]
  refine wpAny_pure ?_
  obtain ⟨q,es,ep,hq,h2,h3,h4,_,h5⟩:=dd'
  have st:storedH [] ks b w2 = [(ks,b,w2)]:=rfl
  rw [st] at h4 h5
  have hob:ObjOk X.prog X.w (upd (uni [s.heap.objs.size] (upd H s.heap.objs.size (.dT [])) H2) s.heap.objs.size (.frz q (.dT [(ks,y)]))) h' s.heap.objs.size (.frz q (.dT [(ks,y)])):=
   ⟨hq,by rw [sizeLine_eq]; show 1 <= _; decide,hd,[(ks,b,w2)],.cons ⟨rfl,hb2.keep (fun c xs q=>by rw [Jb (JlT q hp2 (fun z=>nomatch z))]; exact q),ry⟩ .nil,q,es,ep,hq,h2,h3,h4,h5⟩
  have I3:=JdA (t':=s2.toks + (tKind X.prog X.w).draws ks) J3 (by rw [hp2]; exact True.intro) hs ⟨q,hq⟩ hob
  have s2':Same H2 (upd (uni [s.heap.objs.size] (upd H s.heap.objs.size (.dT [])) H2) s.heap.objs.size (.frz q (.dT [(ks,y)]))):=fun c ob e=>by
   have nc:=Jc e hp0
   rw [Jb nc,Jo (by simpa using nc)]; exact e
  exact ⟨.ref s.heap.objs.size,_,I3,rfl,f3 _ _ ((e1.trans f1).trans s2') ⟨_,_,rfl,⟨[(ks,y)],⟨q,Jd⟩,rfl,rfl⟩,Reps.one (f2.mono s2')⟩⟩
 ·exact f3.elim
end
end Rd
namespace Rd
open PySem PySem.Spec PyProof.Rows L2 Pu
section
variable {X:Cx} {call:CallD} {e:Expr} {p pe:Px} {pos:Pos}
end
end Rd
namespace Rd
open PySem PySem.Spec PyProof.Rows L2 Pu
section
variable {prog:Program} {w:World} {A:Around} {E:Value -> Shared -> Prop} {s:Shared} {it d:Addr} {od:Obj} {es:Array DictEntry} {ep i:Nat} {ok ov:Value}
theorem Jiz {e:DictEntry} {Q:Option Value -> Shared -> Prop} (hit:IsItemIter s.heap it d i es.size ep ok ov) (hod:s.heap.get? d = some od) (hdd:od.data = .dict es ep) (hx:es[i]? = some e)
  (hQ:∀ h',IsItemIterOut h' it d (i + 1) es.size ep e.key e.val s.heap.objs.size -> h'.get? s.heap.objs.size = some { cls:=.type "tuple",data:=.seq #[e.key,e.val] } ->
   (∀ b o,b ≠ it -> s.heap.get? b = some o -> h'.get? b = some o) -> Q (some (.ref s.heap.objs.size)) { s with heap:=h' }) :
  wpAny (model prog w) A (pyNext (.ref it)) Q E s:=by
 obtain ⟨hp,g,dr,tk,os⟩:=s
 have hT:Shared.TypeIs ⟨hp,g,dr,tk,os⟩ (.ref it) "dict_itemiterator":=⟨_,hit,rfl⟩
 have own:Builtin.Dict_items.ownsTuple "dict_itemiterator" = true:=by decide
 unfold pyNext
 refine wpAny_bind (wpAny_attempt (wpAny_callSpecial?_slot (name:=Str.ofString "__next__") hT F.slot_dict_itemiterator_next (wpAny_call_entry F.slot_dict_itemiterator_next hT F.entry_dict_itemiterator_next ?_ (F.args_dict_itemiterator_next_1 _))))
 refine wpAny_bind (wpAny_pure (wpAny_bind (wpAny_bind ?_)))
 refine wpAny_bind (wpAny_typeNameOfWhole_itemiter hT (wpAny_pure (wpAny_bind (wpAny_fieldsOf hit rfl ?_)))); simp only [own,if_true]
 show wpAny _ _ (if (Value.ref d == Value.none) = true then _ else _) _ _ _; rw [if_neg (show ¬ ((Value.ref d == Value.none) = true) from Bool.false_ne_true)]
 refine wpAny_bind (wpAny_pure (wpAny_bind (wpAny_dictEntries hod hdd ?_))); rw [if_neg (by simp)]
 refine wpAny_bind (wpAny_pure (wpAny_bind (wpAny_dictEpoch hod hdd ?_))); rw [if_neg (by simp)]; refine wpAny_pure ?_
 simp only [show ¬ ((i:Int) < 0) from by omega,if_false,Int.toNat_natCast,hx]
 refine wpAny_bind (wpAny_bind (wpAny_typeNameOfWhole_itemiter hT (wpAny_pure (wpAny_bind (wpAny_isOneOf_itemiter hT ?_)))))
 show wpAny _ _ (setField (.ref it) 3 (rawInt ((i:Int) + 1)) >>= _) _ _ ⟨hp,g,dr,tk,os⟩
 refine wpAny_bind (wpAny_setField_rec hit (by simp) fun h1 he1 hs1=>?_)
 replace hs1:Heap.SameBut it hp h1:=hs1
 replace he1:IsItemIter h1 it d (i + 1) es.size ep ok ov:=by
  unfold IsItemIter; rw [show ((i + 1:Nat):Int) = (i:Int) + 1 by omega]; simpa [rawInt] using he1
 have hT1:Shared.TypeIs ⟨h1,g,dr,tk,os⟩ (.ref it) "dict_itemiterator":=⟨_,he1,rfl⟩
 refine wpAny_bind (wpAny_holding (wpAny_bind (wpAny_isOneOf_itemiter hT1 (wpAny_bind (wpAny_isOneOf_itemiter hT1 ?_)))))
 show wpAny _ _ (Builtin.Dict_items.pairFromOwner (.ref it) 6 e.key e.val) _ _ ⟨h1,g,dr,tk,os⟩; unfold Builtin.Dict_items.pairFromOwner
 refine wpAny_bind (wpAny_newTuple ?_)
 have z1:h1.objs.size = hp.objs.size:=hs1.1
 have il:it < hp.objs.size:=Heap.lt_size hit
 have ne:hp.objs.size ≠ it:=Nat.ne_of_gt il
 show wpAny _ _ (Builtin.Dict_items.ownedTupleIsFree (.ref it) >>= _) _ _ ⟨h1.push { cls:=.type "tuple",data:=.seq #[e.key,e.val] },g,dr,tk,os⟩
 have ht2:(h1.push { cls:=.type "tuple",data:=.seq #[e.key,e.val] }).get? hp.objs.size = some { cls:=.type "tuple",data:=.seq #[e.key,e.val] }:=by rw [<- z1]; exact Heap.get?_push_size _ rfl
 have he2:IsItemIter (h1.push { cls:=.type "tuple",data:=.seq #[e.key,e.val] }) it d (i + 1) es.size ep ok ov:=Heap.get?_push_of_some _ he1
 have k2:∀ b o,b ≠ it -> hp.get? b = some o -> (h1.push { cls:=.type "tuple",data:=.seq #[e.key,e.val] }).get? b = some o:=fun b o hb q=>Heap.get?_push_of_some _ (hs1.extBut b o hb q)
 rw [z1]
 generalize h1.push { cls:=.type "tuple",data:=.seq #[e.key,e.val] } = h2 at ht2 he2 k2 ⊢
 refine wpAny_bind ?_; unfold Builtin.Dict_items.ownedTupleIsFree
 refine wpAny_bind (wpAny_field he2 rfl (x:=.none) rfl (wpAny_pure ?_)); simp only [if_true]
 refine wpAny_bind (wpAny_field he2 rfl (x:=ok) rfl (wpAny_bind (wpAny_field he2 rfl (x:=ov) rfl ?_)))
 refine wpAny_bind (wpAny_setField_rec he2 (by simp) fun h3 he3 hs3=>wpAny_bind (wpAny_setField_rec (show IsItemIter h3 it d (i + 1) es.size ep e.key ov from he3) (by simp) fun h4 he4 hs4=>?_))
 refine wpAny_bind (wpAny_setField_rec (show IsItemIter h4 it d (i + 1) es.size ep e.key e.val from he4) (by simp) fun h5 he5 hs5=>?_)
 refine wpAny_bind (wpAny_setField_rec (show IsItemIterOut h5 it d (i + 1) es.size ep e.key e.val hp.objs.size from he5) (by simp) fun h6 he6 hs6=>?_)
 have kk:∀ b o,b ≠ it -> h2.get? b = some o -> h6.get? b = some o:=fun b o hb q=>
  (show Heap.SameBut it h5 h6 from hs6).extBut b o hb ((show Heap.SameBut it h4 h5 from hs5).extBut b o hb ((show Heap.SameBut it h3 h4 from hs4).extBut b o hb ((show Heap.SameBut it h2 h3 from hs3).extBut b o hb q)))
 exact wpAny_bind (wpAny_letGo (wpAny_pure (wpAny_pure ⟨_,rfl,wpAny_pure (hQ h6 he6 (kk _ _ ne ht2) fun b o hb q=>kk b o hb (k2 b o hb q))⟩)))
theorem JlW {Q:Option Value -> Shared -> Prop} (hh:A.handled = none) (hit:IsItemIter s.heap it d i es.size ep ok ov) (hod:s.heap.get? d = some od) (hdd:od.data = .dict es ep) (hx:es[i]? = none)
  (hQ:∀ h',(∀ b o,b ≠ it -> s.heap.get? b = some o -> h'.get? b = some o) -> Q none { s with heap:=h' }) :
  wpAny (model prog w) A (pyNext (.ref it)) Q E s:=by
 obtain ⟨hp,g,dr,tk,os⟩:=s
 have hT:Shared.TypeIs ⟨hp,g,dr,tk,os⟩ (.ref it) "dict_itemiterator":=⟨_,hit,rfl⟩
 have own:Builtin.Dict_items.ownsTuple "dict_itemiterator" = true:=by decide
 unfold pyNext
 refine wpAny_bind (wpAny_attempt (wpAny_callSpecial?_slot (name:=Str.ofString "__next__") hT F.slot_dict_itemiterator_next (wpAny_call_entry F.slot_dict_itemiterator_next hT F.entry_dict_itemiterator_next ?_ (F.args_dict_itemiterator_next_1 _))))
 refine wpAny_bind (wpAny_pure (wpAny_bind (wpAny_bind ?_)))
 refine wpAny_bind (wpAny_typeNameOfWhole_itemiter hT (wpAny_pure (wpAny_bind (wpAny_fieldsOf hit rfl ?_)))); simp only [own,if_true]
 show wpAny _ _ (if (Value.ref d == Value.none) = true then _ else _) _ _ _; rw [if_neg (show ¬ ((Value.ref d == Value.none) = true) from Bool.false_ne_true)]
 refine wpAny_bind (wpAny_pure (wpAny_bind (wpAny_dictEntries hod hdd ?_))); rw [if_neg (by simp)]
 refine wpAny_bind (wpAny_pure (wpAny_bind (wpAny_dictEpoch hod hdd ?_))); rw [if_neg (by simp)]; refine wpAny_pure ?_
 simp only [show ¬ ((i:Int) < 0) from by omega,if_false,Int.toNat_natCast,hx]
 refine wpAny_bind (wpAny_bind (wpAny_typeNameOfWhole_itemiter hT (wpAny_pure ?_)))
 show wpAny _ _ (setField (.ref it) 2 .none >>= _) _ _ ⟨hp,g,dr,tk,os⟩
 refine wpAny_bind (wpAny_setField_rec hit (by simp) fun h1 he1 hs1=>?_)
 replace hs1:Heap.SameBut it hp h1:=hs1
 show wpAny _ _ (newExc (.type "StopIteration") [] >>= _) _ _ ⟨h1,g,dr,tk,os⟩
 refine wpAny_bind ?_; simp only [newExc,newTuple]
 refine wpAny_bind (wpAny_newObj_type (wpAny_bind (m:=firstArgMember _ _) (wpAny_of_eq (a:=Value.none) (by first | rfl | (simp only [firstArgMember]; rfl)) (wpAny_newObj_type ?_ (by size_fits)))) (by size_fits))
 simp only [raiseNew]
 refine wpAny_bind (wpAny_handled ?_); rw [show A.in1.handled = none from hh]
 refine wpAny_bind (wpAny_pure (wpAny_throw ?_))
 refine wpAny_bind (wpAny_isInstance (T:="StopIteration") (b:=true) ⟨_,Heap.get?_push_size _ rfl,rfl⟩ isSubtype_stop ?_)
 exact wpAny_pure (hQ _ ((hs1.extBut.push _).push _))
end
end Rd
namespace Rd
open PySem PySem.Spec PyProof.Rows L2 Pu
def KR (H:Hp) (d:D) (v:V):Prop:=(∃ c,d = keyV c /\ v = kV c) \/ ∃ c,d = tkeyV c /\ KH H (.t c) v
theorem KR.rep {K:PySem.W.Frag} {H:Hp} {d:D} {v:V} (h:KR H d v):Rep K H d v:=by
 rcases h with ⟨c,rfl,rfl⟩ | ⟨c,rfl,h⟩
 ·cases c <;> rfl
 ·exact Jkl (.t c) h
theorem KR.hid {H:Hp} {L:List Addr} {d:D} {v:V} (hL:Ows L H) (h:KR H d v):KR (hid L H) d v:=by
 rcases h with h | ⟨c,e,h⟩
 ·exact .inl h
 ·refine .inr ⟨c,e,KH.keep (fun b xs q=>?_) _ h⟩
  rw [Ji fun z=>?_]
  ·exact q
  ·obtain ⟨o,ho,hc⟩:=hL b z
   rw [q] at ho; cases ho; exact hc
section
variable {prog:Program} {w:World} {A:Around} {E:Value -> Shared -> Prop} {s:Shared} {d:Addr} {od:Obj} {es:Array DictEntry} {ep:Nat}
theorem JiZ {Q:Value -> Shared -> Prop} (ho:s.heap.get? d = some od) (hc:od.cls = .type "dict") (hd:(d == sysModules) = false)
  (h:Q (.ref s.heap.objs.size) { s with heap:=s.heap.push { cls:=.type "dict_items",data:=.fields #[.ref d] } }):wpAny (model prog w) A (call (.builtin "dict.items") [.ref d]) Q E s:=by
 have hT:s.TypeIs (.ref d) "dict":=⟨od,ho,hc⟩
 refine wpAny_call_entry F.slot_dict_items hT F.entry_dict_items ?_ (F.args_dict_items_1 _)
 unfold Builtin.«dict.items»
 refine wpAny_bind ?_; unfold Builtin.Dict.noArgs
 refine wpAny_bind (wpAny_notOrdered_dict hT ?_); show wpAny _ _ (pure d) _ _ s; refine wpAny_pure ?_
 show wpAny _ _ (Builtin.Dict.showsAll d >>= _) _ _ s; unfold Builtin.Dict.showsAll; rw [if_neg (by rw [hd]; exact Bool.false_ne_true)]
 exact wpAny_bind (wpAny_pure (wpAny_bind (wpAny_newObj_type (wpAny_pure ⟨_,rfl,h⟩))))
theorem JiW {v:Addr} {Q:Value -> Shared -> Prop} (hv:s.heap.IsItemsView v d) (ho:s.heap.get? d = some od) (hdat:od.data = .dict es ep)
  (hQ:Q (.ref s.heap.objs.size) { s with heap:=s.heap.push { cls:=.type "dict_itemiterator",data:=.fields #[.none,.bool false,.ref d,.int 0 0,.int es.size 0,.int ep 0,.none,.none] } }):wpAny (model prog w) A (pyIter (.ref v)) Q E s:=by
 obtain ⟨ov,hov,hcv,hdv⟩:=id hv
 have own:Builtin.Dict_items.ownsTuple "dict_itemiterator" = true:=by decide
 refine wpAny_pyIter_slot hv.typeIs F.slot_dict_items_iter (wpAny_call_entry F.slot_dict_items_iter hv.typeIs F.entry_dict_items_iter ?_ (F.args_dict_items_iter_1 _))
 unfold Builtin.«dict_items.__iter__»
 refine wpAny_bind (wpAny_pure (wpAny_bind ?_)); unfold Builtin.Dict_items.dictOf
 refine wpAny_bind (wpAny_field hov hdv (x:=.ref d) rfl (wpAny_pure (wpAny_bind ?_))); unfold Builtin.Dict_items.newIterator
 refine wpAny_bind (wpAny_dictEntries ho hdat (wpAny_bind (wpAny_dictEpoch ho hdat ?_))); simp only [own,if_true]
 refine wpAny_newObj_type (wpAny_pure ⟨_,rfl,"dict_itemiterator",_,⟨_,Heap.get?_push_size _ rfl,rfl⟩,F.slot_dict_itemiterator_next.lookup,?_⟩) (by simp only [sizeOk,Builtin.Dict_items.ownedTupleFields,List.size_toArray,List.length_append,List.length_cons,List.length_nil,sizeLine_eq]; omega)
 simpa [rawInt,Builtin.Dict_items.ownedTupleFields] using hQ
end
def DKo (H:Hp) (d:Addr) (t:Bool) (o:Obj) (ks:List D) (xs:List V):Prop:=match t with
 | true=>∃ kvs:List (List (KTr L2.Key) × V),H d = some (.frz o (.dT kvs)) /\ ks = kvs.map (fun p=>tkeyV p.1) /\ xs = kvs.map (·.2)
 | false=>∃ kvs:List (L2.Key × V),H d = some (.frz o (.dK kvs)) /\ ks = kvs.map (fun p=>keyV p.1) /\ xs = kvs.map (·.2)
theorem DKo.of {H:Hp} {d:Addr} {t:Bool} {ks:List D} {xs:List V} (h:DK H d t true ks xs):∃ o,DKo H d t o ks xs:=by
 cases t <;> obtain ⟨kvs,⟨o,q⟩,e1,e2⟩:=h <;> exact ⟨o,kvs,q,e1,e2⟩
theorem DKo.same {H H':Hp} {d:Addr} {t:Bool} {o:Obj} {ks:List D} {xs:List V} (s:Same H H') (h:DKo H d t o ks xs):DKo H' d t o ks xs:=by
 cases t <;> obtain ⟨kvs,q,e1,e2⟩:=h <;> exact ⟨kvs,s _ _ q,e1,e2⟩
theorem DKo.inj {H:Hp} {d:Addr} {t:Bool} {o o':Obj} {ks ks':List D} {xs xs':List V} (h:DKo H d t o ks xs) (h':DKo H d t o' ks' xs'):ks = ks' /\ xs = xs':=by
 cases t <;> obtain ⟨kvs,q,e1,e2⟩:=h <;> obtain ⟨kvs',q',e1',e2'⟩:=h' <;> rw [q] at q' <;> cases q' <;> exact ⟨e1.trans e1'.symm,e2.trans e2'.symm⟩
theorem DKo.len {H:Hp} {d:Addr} {t:Bool} {o:Obj} {ks:List D} {xs:List V} (h:DKo H d t o ks xs):ks.length = xs.length:=by
 cases t <;> obtain ⟨kvs,_,rfl,rfl⟩:=h <;> simp
def Iti (K:PySem.W.Frag) (t:Bool) (d:Addr) (o:Obj):It:=
 ⟨fun i H=>∃ ks xs,DKo H d t o ks xs /\ i < xs.length,
  fun i H x H'=>∃ T kv y,H T = none /\ x = .ref T /\ H' = upd H T (.tup [kv,y]) /\ ∀ ks xs,DKo H d t o ks xs -> xs[i]? = some y /\ ∃ k,ks[i]? = some k /\ KR H k kv,
  fun i H=>∃ ks xs,DKo H d t o ks xs /\ xs.length = i⟩
theorem JnX {K:PySem.W.Frag} {t:Bool} {d:Addr} {o:Obj}:ItOk (Iti K t d o):=fun L i H x H' hL ⟨T,kv,y,h1,h2,h3,h4⟩=>by
 have hT:=Jv hL h1
 refine ⟨T,kv,y,by rw [Ji hT]; exact h1,h2,by rw [h3,Jdy hT],fun ks xs q=>?_⟩
 obtain ⟨g1,k,g2,g3⟩:=h4 ks xs (q.same hid_same)
 exact ⟨g1,k,g2,g3.hid hL⟩
theorem Jaz {α β:Type} {R:α -> β -> Prop}:∀ {xs:List α} {us:List β} {i:Nat} {x:α},Paired R xs us -> xs[i]? = some x -> ∃ u,us[i]? = some u /\ R x u
 | _,_,_,_,.nil,e=>by simp at e
 | _,_,0,_,.cons r t,e=>by simp at e; subst e; exact ⟨_,rfl,r⟩
 | _,_,i + 1,_,.cons r t,e=>by
  obtain ⟨u,h1,h2⟩:=Jaz (i:=i) t (by simpa using e)
  exact ⟨u,by simpa using h1,h2⟩
section
variable {X:Cx} {pins:List (Addr × Obj)} {σ:L2.St} {H:Hp} {s:Shared} {d:Addr} {t:Bool} {o:Obj} {ks:List D} {xs:List V}
theorem Jca (I:L2.Inv X pins σ H s) (h:DKo H d t o ks xs):s.heap.get? d = some o /\ o.cls = .type "dict" /\ o.dict = none /\ (d == sysModules) = false /\ ∃ es ep,o.data = .dict es ep /\ es.size = xs.length /\
  ∀ i,i < xs.length -> ∃ e k kv y,es[i]? = some e /\ ks[i]? = some k /\ xs[i]? = some y /\ RelV y e.val /\ RelV kv e.key /\ KR H k kv:=by
 cases t with
 | true=>
  obtain ⟨kvs,q,rfl,rfl⟩:=h
  obtain ⟨g0,g1,g2,ys,g3,o',es,ep,g4,g5,g6,g7,g8⟩:=I.hok d _ q
  rw [g0] at g4; cases g4
  have hl:es.size = kvs.length:=by
   have:=congrArg List.length g7
   rw [List.length_map,<- Paired.length g3] at this
   simpa using this
  refine ⟨g0,g5.1,g5.2.1,g2,es,ep,g6,by simp [hl],fun i hi=>?_⟩
  have hi':i < kvs.length:=by simpa using hi
  obtain ⟨⟨k,b,v⟩,e1,e2,e3,e4⟩:=Jaz g3 (List.getElem?_eq_getElem hi')
  have ee:es[i]? = some (entryOfKey (tKind X.prog X.w) (k,b,v)):=by
   rw [<- Array.getElem?_toList,g7,List.getElem?_map,e1]; rfl
  refine ⟨_,tkeyV (kvs[i]).1,.ref b,(kvs[i]).2,ee,by simp [hi'],by simp [hi'],e4,rfl,.inr ⟨_,rfl,e3.1⟩⟩
 | false=>
  obtain ⟨kvs,q,rfl,rfl⟩:=h
  obtain ⟨g0,g1,g2,ys,g3,o',es,ep,g4,g5,g6,g7,g8,g9⟩:=I.hok d _ q
  rw [g0] at g4; cases g4
  have hl:es.size = kvs.length:=by
   have:=g8.length
   rw [<- Paired.length g3] at this
   simpa using this
  refine ⟨g0,g5.1,g5.2.1,g2,es,ep,g6,by simp [hl],fun i hi=>?_⟩
  have hi':i < kvs.length:=by simpa using hi
  obtain ⟨⟨k,v⟩,e1,e2,e3⟩:=Jaz g3 (List.getElem?_eq_getElem hi')
  have hie:i < es.size:=by omega
  obtain ⟨hk,hv⟩:=g8.get? (e:=es[i]) (by simp [hie]) e1
  have rk:RelV (kV (kvs[i]).1) es[i].key:=by
   rw [e2]
   rcases Jh hk with ⟨j,t,z1,z2⟩ | ⟨y,t,z1,z2⟩ | ⟨z1,z2⟩
   ·rw [z1,z2]; exact ⟨t,rfl⟩
   ·rw [z1,z2]; exact ⟨t,rfl⟩
   ·rw [z1,z2]; rfl
  refine ⟨es[i],keyV (kvs[i]).1,kV (kvs[i]).1,(kvs[i]).2,by simp [hie],by simp [hi'],by simp [hi'],by rw [hv]; exact e3,rk,.inl ⟨_,rfl,rfl⟩⟩
end
theorem JgA:entryFor table "dict_itemiterator.__iter__" = some Builtin.«dict_keyiterator.__iter__»:=entryFor_alias (id':="dict_keyiterator.__iter__") (by kernel_rfl) (by first | rfl | decide +kernel) (by decide +kernel) (by kernel_rfl)
theorem Jix {P:Program} {w:World} {K:PySem.W.Frag} {elts:List Expr} {k:Nat} {tpos:Pos} (t:Bool) (d it:Addr) (o:Obj) (es:Array DictEntry) (ep:Nat) (hod:o.data = .dict es ep) :
  Turn P w K (.Tuple elts k tpos) (Iti K t d o) [it] it (fun i h=>∃ ok ov,IsItemIter h it d i es.size ep ok ov) where
 mem:=by simp
 obj:=fun i h ⟨ok,ov,st⟩ b hb=>by
  have e:b = it:=by simpa using hb
  subst e
  exact ⟨_,st,fun v z=>by cases z⟩
 keep:=fun i h h' ⟨ok,ov,st⟩ q=>⟨ok,ov,q it (by simp) _ st⟩
 item:=by
  intro X hP hw hK hc i pins s σ H E I hf ⟨ok,ov,st⟩ ⟨ks,xs,hq,hi⟩
  subst hP hw hK
  obtain ⟨g0,_,_,_,es',ep',g1,g2,g3⟩:=Jca I hq
  rw [hod] at g1; cases g1
  obtain ⟨e,k',kv,y,e1,e2,e3,e4,e5,e6⟩:=g3 i hi
  refine Jiz st g0 hod e1 fun h' he hT hk=>⟨_,rfl,wpAny_letOwnedTupleGo_items he fun h2 he2 hsb2=>?_⟩
  have hil:it < s.heap.objs.size:=Heap.lt_size st
  have keep2:∀ b o,b ∉ [it] -> s.heap.get? b = some o -> h2.get? b = some o:=fun b o hb q=>by
   have h1:b ≠ it:=fun z=>hb (by simp [z])
   exact (hsb2.2 b h1).trans (hk b o h1 q)
  have hT2:h2.get? s.heap.objs.size = some { cls:=.type "tuple",data:=.seq #[e.key,e.val] }:=(hsb2.2 _ (Nat.ne_of_gt hil)).trans hT
  have hfr:H s.heap.objs.size = none:=I.hok.fresh (Nat.le_refl _)
  have I2:L2.Inv X pins σ (upd H s.heap.objs.size (.tup [kv,y])) { s with heap:=h2,toks:=s.toks }:=
   Jad I hf keep2 (Nat.le_refl _) ⟨⟨by rw [sizeLine_eq]; show 2 <= _; decide,fun o q=>by rw [hT2] at q; cases q; rfl⟩,[e.key,e.val],.cons e5 (.cons e4 .nil),_,hT2,rfl,_,rfl⟩
  refine ⟨.ref s.heap.objs.size,_,I2,rfl,⟨s.heap.objs.size,kv,y,hfr,rfl,rfl,fun ks' xs' hq'=>?_⟩,⟨_,_,he2⟩,fun b hb=>?_⟩
  ·obtain ⟨rfl,rfl⟩:=hq.inj hq'
   exact ⟨e3,k',e2,e6⟩
  ·have e:b = it:=by simpa using hb
   subst e
   rw [Jb (Nat.ne_of_lt hil)]; exact (hf b (by simp)).1
 done:=by
  intro X hP hw hK hc i pins s σ H E I hf ⟨ok,ov,st⟩ ⟨ks,xs,hq,hi⟩
  subst hP hw hK
  obtain ⟨g0,_,_,_,es',ep',g1,g2,g3⟩:=Jca I hq
  rw [hod] at g1; cases g1
  exact JlW (I.ok.hd hc) st g0 hod (by simp [g2,hi]) fun h' hx'=>⟨rfl,Jz (tk:=s.toks) I hf fun b o hb q=>hx' b o (fun z=>hb (by simp [z])) q⟩
 self:=fun A i s Q E ⟨ok,ov,st⟩ h=>by
  have hT:s.TypeIs (.ref it) "dict_itemiterator":=⟨_,st,rfl⟩
  refine wpAny_pyIter_slot hT F.slot_dict_itemiterator_iter (wpAny_call_entry F.slot_dict_itemiterator_iter hT JgA ?_ (F.args_dict_itemiterator_iter_1 _))
  show wpAny _ _ (ret (.ref it)) _ _ s
  exact wpAny_pure ⟨_,rfl,"dict_itemiterator",_,hT,F.slot_dict_itemiterator_next.lookup,h⟩
theorem JjC {K:PySem.W.Frag} {H:Hp} {t:Bool} {d:Addr} {o:Obj} {ks vs:List D} {xs:List V} (h1:DKo H d t o ks xs) (h2:Reps K H vs xs):Walk K (Iti K t d o) H (zipD ks vs):=by
 intro H' sm
 have l:=h2.length
 have l2:=h1.len
 have h1':=h1.same sm
 have h2':=h2.mono sm
 have lz:∀ (a b:List D),a.length = b.length -> (zipD a b).length = b.length:=by
  intro a
  induction a with
  | nil=>intro b e; cases b with
   | nil=>rfl
   | cons _ _=>simp at e
  | cons x a ih=>intro b e; cases b with
   | nil=>simp at e
   | cons y b=>simp [zipD,ih b (by simpa using e)]
 have gz:∀ (a b:List D) (i:Nat) (x y:D),a[i]? = some x -> b[i]? = some y -> (zipD a b)[i]? = some (.tup [x,y]):=by
  intro a
  induction a with
  | nil=>intro b i x y e; simp at e
  | cons z a ih=>intro b i x y e1 e2; cases b with
   | nil=>simp at e2
   | cons u b=>cases i with
    | zero=>simp at e1 e2; subst e1 e2; rfl
    | succ i=>simp only [List.getElem?_cons_succ] at e1 e2; simp only [zipD,List.getElem?_cons_succ]; exact ih b i x y e1 e2
 have lz':(zipD ks vs).length = xs.length:=by rw [lz ks vs (by omega)]; omega
 refine ⟨fun i hi=>⟨ks,xs,h1',by omega⟩,⟨ks,xs,h1',lz'.symm⟩,fun i x H'' hi ⟨T,kv,y,hT,e1,e2,hv⟩=>?_⟩
 subst e1; subst e2
 obtain ⟨g1,k,g2,g3⟩:=hv ks xs h1'
 obtain ⟨dv,hd,rd⟩:=h2'.get' g1
 obtain ⟨s1,r1⟩:=JdW (K:=K) (ds:=[k,dv]) (xs:=[kv,y]) hT ⟨_,_,rfl,g3.rep,_,_,rfl,rd,rfl⟩
 exact ⟨s1,_,gz ks vs i k dv g2 hd,r1⟩
section
variable {X:Cx} {call:CallD} {G:Gw} {N:List Str} {nm:List (Str × NameKind)} {a:Expr} {pa:Px} {pos ap tp:Pos} {elts:List Expr} {kk:Nat}
theorem JiM (ha:PE X a (tI X call pa)) (hb:attributeBase a "items" X.env (eval a X.env) = eval a X.env:=by rfl) (hl:(ap.endLine == pos.line) = true:=by rfl) :
  PI X (.Tuple elts kk tp) (.Call (.Attribute a "items" ap) [] [] pos) (tW X call (.un .items pa)):=by
 intro pins s σ H R I ⟨env,r,h⟩
 simp only [evD] at h
 refine wpAny_Call_method hb rfl hl PySem.F.plainAttrs_dict PySem.F.slot_dict_items PySem.F.type_dict_items (thn (ha pins s σ H (fun v H'=>∃ t ks vs d xs,v = .ref d /\ DK H' d t true ks xs /\ Reps X.K H' vs xs /\ Same H H' /\ ∀ J H2,Same H H2 -> Walk X.K J H2 (zipD ks vs) -> ItOk J -> R J H2) I ⟨env,r,?_⟩) fun u s1 ⟨v,H1,I1,ru,t,ks,vs,d,xs,e1,q1,q2,s2,hR⟩=>?_)
 ·refine (Rs.good_bind.mp h).imp fun dd hd v H' s1 rv=>?_
  cases dd with
  | dct t z ks vs=>
   cases z with
   | true=>
    obtain ⟨ds,e,hR⟩:=hd
    cases e
    obtain ⟨d,xs,rfl,q1,q2⟩:=rv
    exact ⟨t,ks,vs,d,xs,rfl,q1,q2,s1,hR⟩
   | false=>exact (show False from hd).elim
  | _=>exact (show False from hd).elim
 subst e1
 cases (show u = Value.ref d from ru)
 obtain ⟨o,q3⟩:=DKo.of q1
 obtain ⟨g0,gc,gd,gm,es,ep,g1,g2,g3⟩:=Jca I1 q3
 refine ⟨⟨o,g0,gc⟩,fun b e=>by cases e; exact ⟨o,g0,gd⟩,?_⟩
 refine Calls.callWith_builtin rfl (PySem.evalArgs_none ?_)
 refine JiZ g0 gc gm ?_
 refine JiW ⟨_,Heap.get?_push_size _ rfl,rfl,rfl⟩ (Heap.get?_push_of_some _ g0) g1 ?_
 have kp:∀ b ob,s1.heap.get? b = some ob -> ((s1.heap.push { cls:=.type "dict_items",data:=.fields #[.ref d] }).push { cls:=.type "dict_itemiterator",data:=.fields #[.none,.bool false,.ref d,.int 0 0,.int es.size 0,.int ep 0,.none,.none] }).get? b = some ob:=fun b ob q=>Heap.get?_push_of_some _ (Heap.get?_push_of_some _ q)
 refine ⟨_,[_],_,_,H1,rfl,I1.kept (t':=s1.toks) kp,Jix t d _ o es ep g1,⟨.none,.none,Heap.get?_push_size _ rfl⟩,fun b hb=>?_,hR _ _ s2 (JjC q3 q2) JnX⟩
 have hb':s1.heap.objs.size <= b:=by
  have e:b = (s1.heap.push { cls:=.type "dict_items",data:=.fields #[.ref d] }).objs.size:=by simpa using hb
  rw [e,Heap.size_push]; exact Nat.le_succ _
 exact I1.fpOk hb' (I1.hok.fresh hb')
end
end Rd
namespace Rd
open PySem PySem.Spec PyProof.Rows L2 Pu
section
variable {X:Cx} {call:CallD} {v:Expr} {vs:List Expr} {pv pvs:Px} {pos:Pos}
end
end Rd
namespace Rd
open PySem PySem.Spec PyProof.Rows L2 Pu
section
variable {prog:Program} {w:World} {A:Around} {E:Value -> Shared -> Prop} {s:Shared} {l I S:Addr} {vs:List Value} {R:Result -> Shared -> Prop} {Q:Value -> Shared -> Prop}
end
section
variable {X:Cx} {call:CallD} {G:Gw} {N:List Str} {nm:List (Str × NameKind)} {a:Expr} {pa:Px} {pos p1 p2 p3 q1 q2:Pos}
end
end Rd
namespace Rd
open PySem PySem.Spec PyProof.Rows L2 Pu
theorem dk {p:Prop} (h:p:=by decide +kernel):p:=h
section
variable {X:Cx} {call:CallD} {M:List Nat} {H0:Hp} {G:Gw} {N:List Str} {nm:List (Str × NameKind)} {e tg a:Expr} {p pa:Px} {pos p1 p2 p3:Pos} {ts:List Nat} {nt:Nat}
end
end Rd
namespace Rd
open PySem PySem.Spec PyProof.Rows L2 Pu
section
variable {X:Cx} {call:CallD} {G:Gw} {N:List Str} {nm:List (Str × NameKind)} {e:Expr} {es:List Expr} {p:Px} {pos p1:Pos} {x:Str}
end
end Rd
namespace Rd
open PySem PySem.Spec PyProof.Rows L2 Pu
section
variable {X:Cx} {call:CallD} {G:Gw} {N:List Str} {nm:List (Str × NameKind)} {pos px ps:Pos} {x:Str} {M:List Nat} {H0:Hp} {i:Nat} {b v:Expr} {pk pv:Px}
end
end Rd
namespace Rd
open PySem PySem.Spec PyProof.Rows L2 Pu
section
variable {X:Cx} {call:CallD} {G:Gw} {N:List Str} {nm:List (Str × NameKind)} {pos p1:Pos} {a:Expr} {pa:Px}
theorem JeK {K:PySem.W.Frag} {H:Hp}:∀ {ds:List D} {is:List Int} {xs:List V},intsOf ds = some is -> Reps K H ds xs -> xs = is.map V.int
 | [],_,_,h,r=>by cases h; cases r; rfl
 | .int i :: ds,is,_,h,⟨x,q,e,h1,h2⟩=>by
  subst e
  simp only [intsOf,Option.map_eq_some_iff] at h
  obtain ⟨js,e1,rfl⟩:=h
  rw [JeK e1 h2,show x = V.int i from h1]; rfl
 | .non :: _,_,_,h,_=>by cases h
 | .bl _ :: _,_,_,h,_=>by cases h
 | .str _ :: _,_,_,h,_=>by cases h
 | .tup _ :: _,_,_,h,_=>by cases h
 | .lst _ :: _,_,_,h,_=>by cases h
 | .dct _ _ _ _ :: _,_,_,h,_=>by cases h
 | .exc _ :: _,_,_,h,_=>by cases h
 | .fn _ _ :: _,_,_,h,_=>by cases h
end
end Rd
namespace Rd
open PySem PySem.Spec PyProof.Rows L2 Pu
section
variable {X:Cx} {call:CallD} {G:Gw} {N:List Str} {nm:List (Str × NameKind)} {pos px pt:Pos} {x y:Str} {M:List Nat} {H0:Hp} {i t:Nat} {b v:Expr} {pk pv:Px} {apos cpos:Pos}
end
end Rd
namespace Rd
open PySem PySem.Spec PyProof.Rows L2 Pu
section
variable {X:Cx} {call:CallD} {G:Gw} {N:List Str} {nm:List (Str × NameKind)} {k v:Expr} {pk pv:Px} {pos px p1:Pos} {M:List Nat} {H0:Hp} {i:Nat} {x:Str}
end
end Rd
namespace Rd
open PySem PySem.Spec PyProof.Rows L2 Pu
section
variable {prog:Program} {w:World} {A:Around} {E:Value -> Shared -> Prop} {s:Shared} {it d:Addr} {od:Obj} {es:Array DictEntry} {ep i:Nat}
end
section
variable {prog:Program} {w:World} {κ:Type} [DecidableEq κ] {kd:HeapKind prog w κ} {A:Around} {E:Value -> Shared -> Prop} {s:Shared} {d:Addr} {xs:List (κ × Addr × Value)} {od:Obj} {es:Array DictEntry} {ep:Nat}
end
section
variable {X:Cx} {call:CallD} {G:Gw} {N:List Str} {nm:List (Str × NameKind)} {a:Expr} {pa:Px} {pos p1:Pos}
end
end Rd
namespace Rd
open PySem PySem.Spec PyProof.Rows L2 Pu
section
variable {X:Cx} {call:CallD} {G:Gw} {N:List Str} {nm:List (Str × NameKind)} {a:Expr} {pa:Px} {y:Str} {px:Pos}
end
section
variable {prog:Program} {w:World} {A:Around} {E:Value -> Shared -> Prop} {s:Shared}
end
section
variable {X:Cx} {call:CallD} {M:List Nat} {H0:Hp} {G:Gw} {N:List Str} {nm:List (Str × NameKind)} {x y:Str} {i j k:Nat} {e:Expr} {p:Px} {pos p1 p2 spos:Pos}
end
end Rd
namespace Rd
open PySem PySem.Spec PyProof.Rows L2 Pu
def rk (ks:List (List Int)) (k:List Int):Nat:=(ks.filter fun y=>lexI y k).length
end Rd
namespace Rd
open PySem PySem.Spec PyProof.Rows L2 Pu
open PySem.SeqAt (EqAt)
section
variable {X:Cx} {pins:List (Addr × Obj)} {σ:L2.St} {H:Hp} {s:Shared}
end
section
variable {prog:Program} {w:World} {A:Around} {s:Shared}
end
section
variable {X:Cx} {call:CallD} {pins:List (Addr × Obj)} {σ:L2.St} {H:Hp} {s:Shared} {fi kk:Nat} {f a kS:Addr} {fd:FuncData} {ps:List Str}
end
section
variable {X:Cx} {call:CallD} {G:Gw} {N:List Str} {nm:List (Str × NameKind)} {a:Expr} {pa:Px} {pos p1 p2 q1:Pos} {x:Str} {fi:Nat}
end
end Rd
namespace Rd
open PySem PySem.Spec PyProof.Rows L2 Pu
open PySem.SeqAt (EqAt)
section
variable {X:Cx} {call:CallD} {a b:Expr} {pa pb:Px} {pos p1 p2:Pos} {G:Gw} {N:List Str} {nm:List (Str × NameKind)}
end
end Rd
namespace Rd
open PySem PySem.Spec PyProof.Rows L2 Pu
end Rd
namespace HT
open PySem PyProof.Rows
section
variable {prog:Program} {w:World} {A:Around} {E:Value -> Shared -> Prop} {s:Shared}
end
end HT
namespace Rd
open PySem PySem.Spec PyProof.Rows L2 Pu
section
variable {X:Cx} {call:CallD} {a b:Expr} {pa pb:Px} {pos p2:Pos}
end
end Rd
namespace Rd
open PySem PySem.Spec PyProof.Rows L2 Pu
section
variable {X:Cx} {call:CallD} {a b:Expr} {pa pb:Px} {pos:Pos}
end
end Rd
namespace Rd
open PySem PySem.Spec PyProof.Rows L2 Pu
section
variable {X:Cx} {call:CallD} {a b c d:Expr} {pa pb pc pd:Px} {pos:Pos}
section
variable {G:Gw} {N:List Str} {nm:List (Str × NameKind)}
end
end
end Rd
namespace Rd
open PySem PySem.Spec PyProof.Rows L2 Pu
open PySem.SeqAt (EqAt)
section
variable {prog:Program} {w:World} {A:Around} {s:Shared} {x y:Addr} {ox oy:Obj} {xs ys:List Value} {is js:List Int} {n m:Nat}
end
section
variable {X:Cx}
end
section
variable {X:Cx} {call:CallD} {G:Gw} {N:List Str} {nm:List (Str × NameKind)} {a b:Expr} {pa pb:Px} {pos:Pos}
end
end Rd
namespace Rd
open PySem PySem.Spec PyProof.Rows L2 Pu
open PySem.SeqAt (EqAt)
section
variable {X:Cx} {pins:List (Addr × Obj)} {σ:L2.St} {H:Hp} {s:Shared} {a:Addr}
end
section
variable {X:Cx} {call:CallD} {G:Gw} {N:List Str} {nm:List (Str × NameKind)} {a:Expr} {pa:Px} {pos p1:Pos}
end
end Rd
namespace Rd
open PySem PySem.Spec PyProof.Rows L2 Pu
section
variable {X:Cx}
end
section
variable {X:Cx} {call:CallD} {a b:Expr} {pa pb:Px} {pos:Pos} {G:Gw} {N:List Str} {nm:List (Str × NameKind)}
end
end Rd
namespace Rd
open PySem PySem.Spec PyProof.Rows L2 Pu
def sp0 (K:PySem.W.Frag) (call:CallD) (fi:Nat):Sp:=fun vs H Q _=>∃ ds,Reps K H ds vs /\ (call fi ds).Good (fun d=>∀ v H',Same H H' -> Rep K H' d v -> Q v H') (fun _=>False)
theorem Joq {K:PySem.W.Frag} {mg:Str -> Option Value} {call:CallD} {fi:Nat} (vs:List V) (H:Hp) (Q:VK) (E:XK) (h:sp0 K call fi vs H Q E):spI K mg call fi vs H Q E:=by
 obtain ⟨ds,r,g⟩:=h
 exact ⟨ds,r,g.mono (fun _ z=>z) fun _ z=>z.elim⟩
theorem Jgm {K:PySem.W.Frag} {H:Hp} {a:Addr} {ns:List Int} {call:CallD} {fi:Nat} (h:SqL K H a (ns.map V.int)) (hv:call fi [.lst (ns.map .int)] = .ok (.bl true)):sp0 K call fi [.ref a] H (fun v _=>v = .bl true) fun _ _ _=>False:=by
 have rs:∀ ns:List Int,Reps K H (ns.map .int) (ns.map V.int):=fun ns=>by
  induction ns with
  | nil=>rfl
  | cons n ns ih=>exact ⟨.int n,ns.map V.int,rfl,rfl,ih⟩
 refine ⟨[.lst (ns.map .int)],Reps.one ⟨a,_,rfl,h,rs ns⟩,?_⟩
 rw [hv]
 exact fun v H' _ r=>r
theorem noCX {P:Program} {w:World} {H:Hp} {s:Shared} {e:Value} {s':Shared} (h:CXr P w [] H s (fun _ _ _=>False) e s'):False:=by
 obtain ⟨_,_,_,_,_,_,_,_,_,_,_,_,_,z⟩:=h
 exact z
def keyObj (K:PySem.W.Frag) (a:Addr):Bool:=match K.lookup a with
 | some ⟨.type t,_,.seq its _,_⟩=>!(t == "tuple") || decide (2 <= (its.toList.map banV).sum)
 | _=>true
def keyIts (K:PySem.W.Frag) (a:Addr):Bool:=match K.lookup a with
 | some ⟨.type t,_,.seq its _,_⟩=>!(t == "tuple") || its.toList.all fun v=>match v with
  | .ref b=>keyObj K b
  | _=>true
 | _=>true
def noKTB (K:PySem.W.Frag):Bool:=match K.lookup mainGlobals with
 | some ⟨_,_,.dict es _,_⟩=>es.toList.all fun e=>match e.val with
  | .ref a=>keyObj K a && keyIts K a
  | _=>true
 | _=>true
theorem Jdi {K:PySem.W.Frag} (h:noKTB K = true) {y:Str} {b:Addr} (h0:PySem.W.nsIn K mainGlobals y = some (some (.ref b))):keyObj K b = true /\ keyIts K b = true:=by
 unfold noKTB at h
 unfold PySem.W.nsIn at h0
 split at h0
 ·rename_i es _ _ hm
  rw [hm] at h
  split at h0
  ·rename_i e he
   simp only [Option.some.injEq] at h0
   have:=List.all_eq_true.mp h e (List.mem_of_find?_eq_some he)
   simp only [h0,Bool.and_eq_true] at this
   exact this
  ·split at h0 <;> simp at h0
 ·cases h0
theorem Jdc {K:PySem.W.Frag} {b:Addr} (h:keyObj K b = true) {o:Obj} {its:Array Value} {n:Nat} (h1:K.lookup b = some o) (h2:o.cls = .type "tuple") (h3:o.data = .seq its n):2 <= (its.toList.map banV).sum:=by
 unfold keyObj at h
 obtain ⟨oc,od,odat,osl⟩:=o
 simp only at h2 h3
 subst h2 h3
 simpa [h1] using h
theorem JlA {K:PySem.W.Frag} (h:noKTB K = true):NoKT K:=fun y b o its n h0 h1 h2 h3=>by
 rcases h0 with h0 | ⟨b',o',its',n',g0,g1,g2,g3,g4⟩
 ·exact Jdc (Jdi h h0).1 h1 h2 h3
 ·have q:=(Jdi h g0).2
  unfold keyIts at q
  obtain ⟨oc,od,odat,osl⟩:=o'
  simp only at g2 g3
  subst g2 g3
  simp only [g1,beq_self_eq_true,Bool.not_true,Bool.false_or] at q
  exact Jdc (List.all_eq_true.mp q _ g4) h1 h2 h3
end Rd
namespace Rd
open PySem PySem.Spec PyProof.Rows L2 Pu
def scChk (N P:List Str) (sc:Scope):Bool:=(sc.kind == .function) && !sc.isCoroutine && !sc.isGenerator && decide N.Nodup && (N.take P.length == P) && P.all (fun x=>sc.names.lookup x == some .local || sc.names.lookup x == some .cell) && sc.names.all fun y=>!(y.2 == .free)
theorem sc_of {N P:List Str} {sc:Scope} (h:scChk N P sc = true):FnScope N P sc:=by
 simp only [scChk,Bool.and_eq_true,beq_iff_eq,Bool.not_eq_true',decide_eq_true_eq,List.all_eq_true,Bool.or_eq_true,beq_eq_false_iff_ne] at h
 obtain ⟨⟨⟨⟨⟨⟨h1,h2⟩,h3⟩,h4⟩,h5⟩,h6⟩,h7⟩:=h
 exact ⟨h1,h2,h3,h4,h5,h6,h7⟩
structure DefIn (K:PySem.W.Frag) (n:Str) (s:Stmt) (f:Addr) (fd:FuncData):Prop where
 a:PySem.W.nsIn K mainGlobals n = some (some (.ref f))
 F:Fun K n n s f fd
theorem def_mk {K:PySem.W.Frag} {n:Str} {s:Stmt} {f:Addr} {od an:Option Addr} {sl:Array (Option Value)} {oc kV dc pm cd ct:Value} (a:PySem.W.nsIn K mainGlobals n = some (some (.ref f))) (l:K.lookup f = some ⟨oc,od,.func (PySem.W.fnOf n n (defArgs s) (defBody s) (defScope s) .none kV dc pm an cd ct),sl⟩) (c:PySem.W.codeIn K cd n = true) (k:PySem.W.keepIn K (.ref f) = true):DefIn K n s f (PySem.W.fnOf n n (defArgs s) (defBody s) (defScope s) .none kV dc pm an cd ct):=⟨a,Jot l c k⟩
structure Def1 (K:PySem.W.Frag) (mg:Str -> Option Value) (x:Str) (st:Stmt) (ps:List Str) (f:Addr) (fd:FuncData):Prop where
 F:Fun K x x st f fd
 b:Binds K fd ps []
 g:mg x = some (.ref f)
abbrev DefE:=Str × Stmt × List Str
section
variable {P:Program} {w:World} {K:PySem.W.Frag} {mg:Str -> Option Value} {base:Heap} {defs:List DefD}
def HasD (K:PySem.W.Frag) (mg:Str -> Option Value):List DefE -> Prop
 | []=>True
 | e :: T=>(∃ f g,Def1 K mg e.1 e.2.1 e.2.2 f g) /\ HasD K mg T
def OkD (P:Program) (w:World) (K:PySem.W.Frag) (mg:Str -> Option Value) (base:Heap) (defs:List DefD) (k:Nat):Nat -> List DefE -> Prop
 | _,[]=>True
 | i,e :: T=>(∀ f g,Def1 K mg e.1 e.2.1 e.2.2 f g -> FnOk P w K mg base (CXr P w) (3 * k) f g e.2.2 (spI K mg (runD defs k) i)) /\ OkD P w K mg base defs k (i + 1) T
theorem JeM:∀ (T:List DefE) (i:Nat),OkD P w K mg base defs 0 i T
 | [],_=>trivial
 | e :: T,i=>⟨fun _ _ _=>JlL,JeM T (i + 1)⟩
theorem JdV {k:Nat}:∀ {T:List DefE} {i j:Nat} {e:DefE},OkD P w K mg base defs k i T -> T[j]? = some e -> ∀ f g,Def1 K mg e.1 e.2.1 e.2.2 f g -> FnOk P w K mg base (CXr P w) (3 * k) f g e.2.2 (spI K mg (runD defs k) (i + j))
 | [],_,_,_,_,h=>by simp at h
 | d :: T,i,0,e,ok,h=>by
  simp only [List.getElem?_cons_zero,Option.some.injEq] at h
  subst h
  exact ok.1
 | d :: T,i,j + 1,e,ok,h=>by
  have:=JdV (j:=j) ok.2 (by simpa using h)
  rw [show i + 1 + j = i + (j + 1) by omega] at this
  exact this
theorem Jfc:∀ {T:List DefE} {j:Nat} {e:DefE},HasD K mg T -> T[j]? = some e -> ∃ f g,Def1 K mg e.1 e.2.1 e.2.2 f g
 | [],_,_,_,h=>by simp at h
 | d :: T,0,e,ok,h=>by
  simp only [List.getElem?_cons_zero,Option.some.injEq] at h
  subst h
  exact ok.1
 | d :: T,j + 1,e,ok,h=>Jfc ok.2 (by simpa using h)
theorem JhB {T:List DefE} {k:Nat} {A:Around} (hT:HasD K mg T) (ok:OkD P w K mg base defs k 0 T) (hr:Room (3 * k + 2) A) (j:Nat) {e:DefE} (h:T[j]? = some e):Callee ⟨P,w,K,mg,base,A⟩ (runD defs k) j e.1:=by
 obtain ⟨f,g,D⟩:=Jfc hT h
 have F:=JdV ok h f g D
 rw [Nat.zero_add] at F
 exact ⟨⟨3 * k,f,g,_,F,hr.in1.in1,D.g,D.F.kp,D.b⟩⟩
theorem fo {Ev:Gw -> CallD -> Prop} {N ps:List Str} {M:List Nat} {x:Str} {st:Stmt} {i k:Nat} {d:DefD} {b:Sx} (E:∀ A,Room (3 * k + 2) A -> Ev ⟨P,w,K,mg,base,A⟩ (runD defs k)) (dx:∀ {X:Cx} {G:Gw} {call:CallD} {H0:Hp},Ev G call -> Ctx X G N (defScope st).names -> HX X (defScope st).names -> PSs X (defBody st) (tS X call M H0 b))
  (hd:defs[i]? = some d:=by rfl) (hb:d.body = b:=by rfl) (h:(scChk N ps (defScope st) && d.slots == N.length && d.params == ps.length && M.all (fun i=>decide (ps.length <= i)) && decide (ps.length <= N.length)) = true:=by decide +kernel) :
  ∀ f g,Def1 K mg x st ps f g -> FnOk P w K mg base (CXr P w) (3 * (k + 1)) f g ps (spI K mg (runD defs (k + 1)) i):=fun f g D=>by
 simp only [Bool.and_eq_true,beq_iff_eq,List.all_eq_true,decide_eq_true_eq] at h
 obtain ⟨⟨⟨⟨h1,h2⟩,h3⟩,h4⟩,h5⟩:=h
 subst hb
 exact fn_ok (j:=3 * k + 2) D.F (sc_of h1) hd h2 h3 h4 h5 fun X A H0 C hr hx=>dx (E A hr) C hx
def DsIn (K:PySem.W.Frag):List DefE -> Prop
 | []=>True
 | e :: T=>(∃ f g,DefIn K e.1 e.2.1 f g) /\ DsIn K T
abbrev BsE (e:DefE):Prop:=∀ (kV doc pm:Value) (an:Option Addr) (cdv ct:Value) (us:List Value),us.length = e.2.2.length -> bindArgs (PySem.W.fnOf e.1 e.1 (defArgs e.2.1) (defBody e.2.1) (defScope e.2.1) .none kV doc pm an cdv ct) ⟨us,[]⟩ = pure (e.2.2.zip us)
def BsOk:List DefE -> Prop
 | []=>True
 | e :: T=>BsE e /\ BsOk T
theorem JhL {h:Heap} (X:K.In h) (G:h.Ns mainGlobals mg):∀ {T:List DefE},DsIn K T -> BsOk T -> HasD K mg T
 | [],_,_=>trivial
 | e :: T,d,b=>⟨let ⟨f,g,D⟩:=d.1; ⟨f,g,D.F,D.F.binds b.1,PySem.W.mg_of X G D.a⟩,JhL X G d.2 b.2⟩
theorem Jkr:∀ {T:List DefE} {j:Nat} {e:DefE},DsIn K T -> BsOk T -> T[j]? = some e -> (∃ f g,DefIn K e.1 e.2.1 f g) /\ BsE e
 | [],_,_,_,_,h=>by simp at h
 | d :: T,0,e,ok,b,h=>by
  simp only [List.getElem?_cons_zero,Option.some.injEq] at h
  subst h
  exact ⟨ok.1,b.1⟩
 | d :: T,j + 1,e,ok,b,h=>Jkr ok.2 b.2 (by simpa using h)
def BlIn (K:PySem.W.Frag):List Str -> Prop
 | []=>True
 | x :: T=>PySem.W.nsIn K mainGlobals x = some none /\ BlIn K T
def BlN (mg:Str -> Option Value):List Str -> Prop
 | []=>True
 | x :: T=>mg x = none /\ BlN mg T
theorem JmY {h:Heap} (X:K.In h) (G:h.Ns mainGlobals mg):∀ {T:List Str},BlIn K T -> BlN mg T
 | [],_=>trivial
 | x :: T,d=>⟨PySem.W.mg_none_of X G d.1,JmY X G d.2⟩
theorem JO:∀ {T:List Str} (j:Nat) {x:Str},BlN mg T -> T[j]? = some x -> mg x = none
 | [],_,_,_,h=>by simp at h
 | d :: T,0,e,ok,h=>by
  simp only [List.getElem?_cons_zero,Option.some.injEq] at h
  subst h
  exact ok.1
 | d :: T,j + 1,e,ok,h=>JO j ok.2 (by simpa using h)
theorem Jmp {h:Heap} {T:List DefE} {n fl:Nat} {x SP:Str} {st:Stmt} {fa:Addr} (X:K.In h) (G:h.Ns mainGlobals mg) (hfa:mg x = some (.ref fa)) (dT:DsIn K T) (bT:BsOk T) (hl:T[fl]? = some (x,st,[SP])) (ok:∀ base,HasD K mg T -> ∀ k,OkD P w K mg base defs k 0 T) :
  ∃ fd:FuncData,(∀ (s:Shared) (v:Value),BindsTo s fd ⟨[v],[]⟩ [(SP,v)]) /\ ∀ base:Heap,K.In base -> base.Ns mainGlobals mg -> FnOk P w K mg base (CXr P w) (3 * n) fa fd [SP] (sp0 K (runD defs n) fl):=by
 obtain ⟨⟨f,g,D⟩,B⟩:=Jkr dT bT hl
 have e:=hfa.symm.trans (PySem.W.mg_of X G D.a)
 cases e
 refine ⟨g,?_,fun base _ _=>?_⟩
 ·obtain ⟨_,_,kV,doc,pm,an,cdv,ct,_,e,_⟩:=D.F.ex
  subst e
  exact fun s v=>.of_eq (B kV doc pm an cdv ct [v] rfl)
 ·have:=JdV (ok base (JhL X G dT bT) n) hl _ g ⟨D.F,D.F.binds B,PySem.W.mg_of X G D.a⟩
  rw [Nat.zero_add] at this
  exact this.imp Joq
end
end Rd
namespace Rd
open PySem PySem.Spec PyProof.Rows L2 Pu
theorem Jdp {k:D}:∀ {ks vs:List D},lookD k ks vs = none -> ks.length = vs.length -> (ks.any fun d=>d.eqv k) = false
 | [],_,_,_=>rfl
 | a :: ks,[],_,e=>by simp at e
 | a :: ks,v :: vs,h,e=>by
  simp only [lookD] at h
  split at h
  ·cases h
  ·rename_i q
   simp only [List.any_cons,Jdp h (by simpa using e),Bool.or_false]
   simpa using q
theorem Jmt {H:Hp} {a:Addr} {t z:Bool} {ks:List D} {xs:List V} (h:DK H a t z ks xs):ks.length = xs.length:=by
 cases t
 ·obtain ⟨kvs,_,rfl,rfl⟩:=dk_k h; simp
 ·obtain ⟨kvs,_,rfl,rfl⟩:=dk_t h; simp
section
variable {X:Cx} {call:CallD} {G:Gw} {N:List Str} {nm:List (Str × NameKind)} {pos p1 p2 px apos cpos:Pos} {a b e:Expr} {pa pb p:Px} {M:List Nat} {H0:Hp} {i j:Nat} {x y:Str} {tg:Expr}
theorem Jmj:CallR X (.type "int") (rC1 X .intB):=by
 intro pins s σ H xs us Q I rv ⟨x,d,e,r,h⟩
 subst e
 cases d with
 | bl b=>
  cases (show x = V.bl b from r)
  obtain ⟨u,rfl,rx⟩:=JaP rv
  cases rx
  exact call_int_bool ⟨.int _,H,I.tok _,⟨_,rfl⟩,Out.now h rfl⟩
 | _=>exact (show False from h).elim
theorem Jor (C:Ctx X G N nm) (hm:G.mg "int" = none) (ha:PE X a (tI X call pa)) (hg:gloB nm "int" = true) (hs:starEach [a] X.env = (false,eval a X.env) :: starEach [] X.env:=by rfl):PE X (.Call (.Name "int" p1) [a] [] pos) (tI X call (.un .intB pa)):=JkJ C Jmj ha hg hm PyProof.Rows.boot_int (by decide +kernel) (by decide +kernel) hs
theorem Jdm (C:Ctx X G N nm) (ha:PE X a (tI X call pa)) (hb:PE X b (tI X call pb)) (hg:gloB nm "range" = true) (hm:G.mg "range" = none) (hs:starEach [a,b] X.env = (false,eval a X.env) :: starEach [b] X.env:=by rfl) (hs2:starEach [b] X.env = [(false,eval b X.env)]:=by rfl):PI X tg (.Call (.Name "range" p1) [a,b] [] pos) (tW X call (.bi .range2 pa pb)):=by
 intro pins s σ H R I ⟨env,r,h⟩
 simp only [evD] at h
 refine Jhi (C.glo _ hg) (by rw [C.mg]; exact hm) (Ja (call:=call) ha (Ja hb Jj hs2) hs) (by rw [hs,hs2]) hs2 pins s σ H R I ⟨env,r,?_⟩
 simp only [evD,Rs.bind_assoc]
 refine Rs.good_bind.mpr ((Rs.good_bind.mp h).imp fun d hd=>?_)
 refine Rs.good_bind.mpr ((Rs.good_bind.mp hd).imp fun d2 hd=>?_)
 cases d with
 | int i=>
  cases d2 with
  | int j=>
   simp only [op2] at hd
   split at hd
   ·rename_i hz
    simp only [midI,Bool.and_eq_true,decide_eq_true_eq] at hz
    obtain ⟨ds',e,hR⟩:=hd
    cases e
    refine ⟨[.int i,.int j],rfl,fun vs H' s1 rs=>?_⟩
    obtain ⟨v,r',e1,h1,w,r2,e2,h2,h3⟩:=rs
    cases h3; cases h2; cases h1; subst e2; subst e1
    exact ⟨i,j,rfl,⟨hz.1.1,hz.1.2,hz.2.1,hz.2.2⟩,hR _ _ s1 JbR JeB⟩
   ·exact hd.elim
  | _=>exact (show False from hd).elim
 | _=>cases d2 <;> exact (show False from hd).elim
theorem aMulA (C:Ctx X G N nm) (h:chkA N nm M i x = true) (he:PE X e (tI X call p)) (hv:visB nm x = true):PS X (.AugAssign (.Name x px) .Mult e pos) (tS X call M H0 (.set true i (.bi .mulI (.var i) p))):=by
 obtain ⟨h1,h2,h3⟩:=chkA.at h
 obtain ⟨k1,k2⟩:=C.sto x h2
 have ip:PIp X .Mult (fun x y H Q=>∃ i j,x = .int i /\ y = .int j /\ (smallI i || smallI j) = true /\ Q (.int (i * j)) H):=by
  intro pins s σ H x y v u Q I r1 r2 h
  obtain ⟨i,j,e1,e2,hz,q⟩:=h
  subst e1; subst e2
  obtain ⟨t,rfl⟩:=r1
  obtain ⟨t',rfl⟩:=r2
  refine imul_int ⟨.int _,H,I.tok _,⟨_,rfl⟩,q⟩ ?_
  simp only [smallI,Bool.or_eq_true,Bool.and_eq_true,decide_eq_true_eq] at hz
  exact (show CMul i j from hz).ok
 refine PS.weak (Jmo (by rw [C.hN]; exact C.nd) (by rw [C.hN]; exact h1) k1 he ip k2) fun D σ H ⟨env,e,h⟩=>?_
 simp only [exD,evD] at h
 cases q:env[i]? with
 | none=>rw [q] at h; exact h.elim
 | some o=>
  rw [q] at h
  cases o with
  | none=>exact h.elim
  | some d=>
   simp only [Rs.bind_ok,Rs.bind_assoc] at h
   obtain ⟨v,hσ,rv⟩:=e.readOk i d q
   refine ⟨v,hσ,env,e.readOk,(Rs.good_bind.mp h).mono (fun dy hy y H1 s1 ry=>?_) fun c z=>z.mono e.same⟩
   cases d with
   | int k=>
    cases dy with
    | int j=>
     cases rv; cases ry
     simp only [op2] at hy
     split at hy
     ·rename_i hz
      refine ⟨k,j,rfl,rfl,hz,?_⟩
      have hy':OutS X M H0 (Ow M env σ) H false D (.nx,env.set i (some (.int (k * j)))):=hy
      have e1:=(e.grow s1).put (i:=i) (d:=.int (k * j)) (v:=.int (k * j)) h3 rfl
      exact hy' _ _ e1 (by rw [Jaa h3]; exact Chg.of s1)
     ·exact hy.elim
    | _=>exact (show False from hy).elim
   | _=>cases dy <;> exact (show False from hy).elim
theorem JiA (hc:X.calm = true):CallR X (.builtin "sorted") (rC1 X .sortX):=by
 intro pins s σ H xs us Q I rv ⟨x,d,e,r,h⟩
 subst e
 obtain ⟨u,rfl,rx⟩:=JaP rv
 cases d with
 | lst ds=>
  obtain ⟨b,ys,rfl,h1,hR⟩:=r
  cases rx
  obtain ⟨its,hv,⟨ob,nb,hob,hcl,_,hda⟩,_⟩:=I.list h1
  simp only [op1] at h
  split at h
  ·rename_i ws hk
   split at h
   ·rename_i hz
    have e:=Jac hk
    subst e
    have e2:=Jcn hR
    subst e2
    have q1:StrsAre its ws:=Jbx hv
    have l4:ws.length = its.length:=by simpa using hv.length
    refine Calls.call_function_entry kind_sorted plain_sorted entry_sorted (args_sorted1 _) ?_
    unfold Builtin.«sorted»
    refine wpAny_bind (m:=checkCount "sorted" 1 1 _) (wpAny_pure (wpAny_bind (wpAny_collect_seq b (.inl rfl) hob hcl hda (fun h1 kp=>?_) (by rw [List.size_toArray,sizeLine_eq]; omega))))
    simp only [List.toList_toArray]
    refine wpAny_bind (wpAny_newList ?_ (by rw [sizeLine_eq]; omega))
    have hoL:(h1.push (seqObj "list" its.toArray 0)).get? h1.objs.size = some (seqObj "list" its.toArray 0):=Heap.get?_push_size _ rfl
    refine wpAny_bind (wpAny_holding (wpAny_call_entry slot_list_sort ⟨_,hoL,rfl⟩ entry_list_sort (list_sort_treeK strKind_oneLt (s:={ s with heap:=h1.push (seqObj "list" its.toArray 0) }) hoL q1.keysOf (fun v₁ v₂ rest e=>keyKind_strs (by rw [<- e]; exact q1)) (by omega) fun st' a1 a2=>⟨_,rfl,?_⟩) (args_list_sort _)))
    obtain ⟨ss,b1,b2,b3⟩:=sorted_out_str q1 a1 a2
    obtain ⟨e,he⟩:=sortedHeap_at (out:=(arrOf st').map (·.2)) hoL
    have I1:L2.Inv X pins σ H { s with heap:=h1 }:=I.kept (t':=s.toks) kp
    have hd:=JcW b2 b3 hz.1 (fun k=>Iff.rfl)
    subst hd
    have hlen:=b2.length_eq
    obtain ⟨s1,w1⟩:=JfK (K:=X.K) (I1.hok.fresh (Nat.le_refl _)) (Jcb (Pu.sortS ws))
    refine wpAny_pure ⟨_,rfl,.ref h1.objs.size,_,I1.laid (a:=h1.objs.size) (t':=s.toks) (fun b o q'=>?_) (Nat.le_refl _) (show ObjOk X.prog X.w _ _ _ (.lst ((Pu.sortS ws).map V.str)) from ⟨by rw [List.length_map,sizeLine_eq]; omega,((arrOf st').map (·.2)).toList,e,Jbn b1,by rw [Array.toArray_toList]; exact he⟩),rfl,h _ _ s1 w1⟩
    have hlt:=Heap.lt_size q'
    rw [sortedHeap_old (Nat.ne_of_lt hlt) (by rw [Heap.size_push]; exact Nat.lt_succ_of_lt hlt)]
    exact Heap.get?_push_of_some _ q'
   ·exact h.elim
  ·exact h.elim
 | _=>exact (show False from h).elim
theorem JnD (C:Ctx X G N nm) (hm:G.mg "sorted" = none) (ha:PE X a (tI X call pa)) (hg:gloB nm "sorted" = true) (hs:starEach [a] X.env = (false,eval a X.env) :: starEach [] X.env:=by rfl):PE X (.Call (.Name "sorted" p1) [a] [] pos) (tI X call (.un .sortX pa)):=JeS C (JiA C.calm) ha hg hm PyProof.Rows.boot_sorted (by decide +kernel) (by decide +kernel) hs
theorem JkO (C:Ctx X G N nm) {t':Bool} (hK:t' = true -> NoKT G.K) (ha:PE X a (tI X call pa)) (hb:PE X b (tI X call pb)) (hx:noEx pb = true) {j0} (m:M2 X a "get" apos b (.Constant (.int 0) j0 p1) cpos:=by exact ⟨rfl,rfl,rfl,rfl⟩):PE X (.Call (.Attribute a "get" apos) [b,.Constant (.int 0) j0 p1] [] cpos) (tI X call (.bi (.dGz t') pa pb)):=by
 have hu:=C.un
 refine PE.weak (Jjv (by omega) ha hb JjS m) fun σ H Q ⟨env,r,h⟩=>?_
 simp only [evD] at h
 refine tI.then r h fun dx x H1 s1 r1 q1 h1=>?_
 cases dx with
 | dct t z ks vs=>
  obtain ⟨l,xs,rfl,g1,g2⟩:=id r1
  refine ⟨l,rfl,?_,?_⟩
  ·cases t with
   | false=>obtain ⟨kvs,g,_⟩:=dk_k g1; exact .inl ⟨kvs,g⟩
   | true=>obtain ⟨kvs,g,_⟩:=dk_t g1; exact .inr ⟨kvs,g⟩
  refine tI.then q1 h1 fun dy y H2 s2 r2 q2 h2=>?_
  simp only [op2] at h2
  split at h2
  ·rename_i hk
   obtain ⟨rfl,hk⟩:=hk
   obtain ⟨l',o,e1,g,ha',hl⟩:=JkD (by rw [C.K]; exact hK) (r1.mono s2) r2 hk
   cases e1
   refine ⟨o,g,Out.now h2 ?_⟩
   cases q:lookD dy ks vs with
   | some d=>
    obtain ⟨v,e2,rv⟩:=hl d q
    subst e2
    exact rv
   | none=>
    have:o = none:=by
     have hn:=Jdp q (by have:=g2.length; have:=Jmt g1; omega)
     rw [hn] at ha'
     cases o with
     | none=>rfl
     | some _=>cases ha'
    subst this
    rfl
  ·exact h2.elim
 | _=>
  cases hq:evD call pb env with
  | ok d=>rw [hq] at h1; cases d <;> exact (show False from h1).elim
  | ex c=>exact absurd hq (JbS call pb env c hx)
  | stuck=>rw [hq] at h1; exact h1.elim
theorem eDsp0:PE X (.Dict [] [] pos) (tI X call (.dsp true .nil .nil)):=by
 intro pins s σ H Q I ⟨env,r,h⟩
 simp only [evD,Rs.bind_ok,D.asL,dspD] at h
 refine wpAny_mono (Jfn pins s σ H (fun v H'=>∃ l,v = .ref l /\ H l = none /\ H' = upd H l (.dT [])) I fun l hl=>⟨l,rfl,hl,rfl⟩) (fun u s1 ⟨v,H1,I1,rv,l,e1,hl,e2⟩=>?_) fun _ _ z=>z
 subst e1 e2
 obtain ⟨o,I2⟩:=JgT I1 Jd
 rw [Jld] at I2
 exact ⟨.ref l,_,I2,rv,h _ _ (fun b ob q=>by rw [Jb (Jc q hl)]; exact q) ⟨l,[],rfl,⟨[],⟨o,Jd⟩,rfl,rfl⟩,rfl⟩⟩
theorem JmP {v:Expr} {pk pv:Px} {ps:Pos} (C:Ctx X G N nm) {t':Bool} (hK:t' = true -> NoKT G.K) (h:chkO N nm M i x = true) (hb:PE X b (tI X call pk)) (hv:PE X v (tI X call pv))
  (hs:swapsWith v (some (.Subscript (.Name x px) b ps)) pos.line X.env = pure false:=by rfl):PS X (.Assign [.Subscript (.Name x px) b ps] v pos) (tS X call M H0 (.put true t' i pk pv)):=by
 obtain ⟨g1,g2,g3,g4,g5⟩:=chkO.at h
 obtain ⟨d1,d2⟩:=plainN.d g3
 have hu:=C.un
 refine PS.weak (Jlb (by omega) (JbF (by rw [C.hN]; exact g1) (C.vis x g5) d1 d2) hb hv hs) fun D σ H ⟨env,e,h⟩=>?_
 simp only [exD] at h
 cases q:env[i]? with
 | none=>rw [q] at h; exact h.elim
 | some o=>
  rw [q] at h
  cases o with
  | none=>exact h.elim
  | some d=>
   cases d with
   | dct t z ks vs=>
    cases z with
    | true=>exact h.elim
    | false=>
     simp only at h
     obtain ⟨l,hσ,h0,hz,xs,hl,hr⟩:=e.own i _ g4 q
     refine ⟨env,e.readOk,(Rs.good_bind.mp h).mono (fun dv hdv v H1 s1 r1=>?_) fun c z=>z.mono e.same⟩
     have e1:=e.grow s1
     refine ⟨.ref l,hσ,env,e1.readOk,(Rs.good_bind.mp hdv).mono (fun dk hdk y H2 s2 r2=>?_) fun c z=>z.mono e1.same⟩
     split at hdk
     ·exact hdk.elim
     ·rename_i hc
      simp only [Bool.true_and,Bool.or_eq_true,not_or,Bool.not_eq_true',Bool.not_eq_true,Bool.not_eq_false,decide_eq_false_iff_not,Decidable.not_not,beq_iff_eq,beq_eq_false_iff_ne,ne_eq] at hc
      obtain ⟨⟨⟨hi,htt⟩,hc1⟩,hc2⟩:=hc
      subst htt
      have e2:=e1.grow s2
      have f2:Same (hid (Ow M env σ) H) (hid (Ow M env σ) H2):=(Fz.sm (s1.trans s2)).hid
      have rv:Rep X.K (hid (Ow M env σ) H2) dv v:=Rep.tups e2.ows.tup dv hi (r1.mono s2)
      have fin:∀ ob,OwnIs X.K (hid (Ow M env σ) H2) (upd H2 l ob) l (.dct t false (putD dk dv ks vs).1 (putD dk dv ks vs).2) -> D.nx σ (upd H2 l ob):=fun ob nw=>by
       obtain ⟨e3,f4⟩:=e2.change (o:=ob) g4 q hσ nw
       exact hdk _ _ e3 ⟨(Fz.sm (s1.trans s2)).trans f4,fun z=>by cases z⟩
      cases t with
      | true=>
       obtain ⟨b',k,rfl,rfl,hb'⟩:=JdN (by rw [C.K]; exact hK rfl) hc1 r2
       obtain ⟨kvs,w1,rfl,rfl⟩:=hl
       have w2:H2 l = some (.dT kvs):=s2 _ _ (s1 _ _ w1)
       have hlen:kvs.length < 1000:=by simpa using hc2
       refine ⟨l,_,rfl,DPut.t (k:=k) w2 hb' (by show _ < 16777216; omega),fin _ ?_⟩
       obtain ⟨p1,p2⟩:=JjU Jcr (k:=k) rv (hr.mono f2)
       exact ⟨rfl,_,⟨_,Jd,p1,rfl⟩,p2⟩
      | false=>
       obtain ⟨k,rfl⟩:=Jev hc1
       have hy:=Jdz r2
       subst hy
       obtain ⟨kvs,w1,rfl,rfl⟩:=hl
       have w2:H2 l = some (.dK kvs):=s2 _ _ (s1 _ _ w1)
       have hlen:kvs.length < 1000:=by simpa using hc2
       refine ⟨l,_,rfl,DPut.k (k:=k) w2 (by show _ < 16777216; omega),fin _ ?_⟩
       obtain ⟨p1,p2⟩:=JjU Jce (k:=k) rv (hr.mono f2)
       exact ⟨rfl,_,⟨_,Jd,p1,rfl⟩,p2⟩
   | _=>exact h.elim
theorem EnvOk.moveF {K:PySem.W.Frag} {H:Hp} {σ:L2.St} {env:Fm} (e:EnvOk K M H0 H σ env) {l:Addr} {t:Bool} {ks vs:List D} {ob:HO} (hi:i ∉ M) (hj:j ∈ M) (he:env[j]? = some (some (.dct t false ks vs))) (hs:σ[j]? = some (some (.ref l))) (hD:∀ xs,DK H l t false ks xs -> DK (upd H l ob) l t true ks xs) :
  EnvOk K M H0 (upd H l ob) (σ.set i (some (.ref l))) ((env.set i (some (.dct t true ks vs))).set j none) /\ Fz (Ow M env σ) H (Ow M ((env.set i (some (.dct t true ks vs))).set j none) (σ.set i (some (.ref l)))) (upd H l ob):=by
 have hij:j ≠ i:=fun z=>hi (z ▸ hj)
 obtain ⟨l',g1,g0,hz,xs,g2,g3⟩:=e.own j _ hj he
 rw [hs] at g1; cases g1
 have hlo:l ∈ Ow M env σ:=mem_Ow.mpr ⟨j,hj,_,he,hs⟩
 have get:∀ (k:Nat) (d:D),k ≠ i -> ((env.set i (some (.dct t true ks vs))).set j none)[k]? = some (some d) -> k ≠ j /\ env[k]? = some (some d):=fun k d hk h=>by
  rcases Jn h with ⟨_,hd,_⟩ | ⟨hn,h⟩
  ·cases hd
  ·rw [List.getElem?_set_ne (Ne.symm hk)] at h; exact ⟨hn,h⟩
 have sub:∀ b ∈ Ow M ((env.set i (some (.dct t true ks vs))).set j none) (σ.set i (some (.ref l))),b ∈ Ow M env σ /\ b ≠ l:=fun b hb=>by
  obtain ⟨k,hk,d,h1,h2⟩:=mem_Ow.mp hb
  have hki:k ≠ i:=fun z=>hi (z ▸ hk)
  obtain ⟨n1,g1⟩:=get k d hki h1
  rw [List.getElem?_set_ne (Ne.symm hki)] at h2
  refine ⟨mem_Ow.mpr ⟨k,hk,d,g1,h2⟩,fun z=>?_⟩
  exact e.apart j k l _ _ hj hk (Ne.symm n1) he g1 hs (z ▸ h2)
 have fz:Fz (Ow M env σ) H (Ow M ((env.set i (some (.dct t true ks vs))).set j none) (σ.set i (some (.ref l)))) (upd H l ob):=⟨fun a o q n=>by rw [Jb (fun z=>n (by rw [z]; exact hlo))]; exact q,fun b hb=>.inl (sub b hb).1⟩
 refine ⟨⟨fun a o q=>by rw [Jb (Jc q g0)]; exact e.same a o q,by rw [List.length_set,List.length_set,List.length_set]; exact e.len,fun k d hk h=>?_,fun k d hk h=>?_,fun k1 k2 m d1 d2 hk1 hk2 hn h1 h2 h3=>?_⟩,fz⟩
 ·by_cases q:k = i
  ·subst q
   rw [List.getElem?_set_ne hij] at h
   rcases Jn h with ⟨_,hd,hl⟩ | ⟨hn,_⟩
   ·cases hd
    exact ⟨.ref l,List.getElem?_set_self (by rw [e.len]; exact hl),l,xs,rfl,(hD xs g2).mono fun o z=>by rw [Ji fun hm=>(sub l hm).2 rfl]; exact z,g3.mono fz.hid⟩
   ·exact absurd rfl hn
  ·obtain ⟨_,g⟩:=get k d q h
   obtain ⟨v,g1,g2⟩:=e.read k d hk g
   exact ⟨v,by rw [List.getElem?_set_ne (Ne.symm q)]; exact g1,g2.mono fz.hid⟩
 ·have q:k ≠ i:=fun z=>hi (z ▸ hk)
  obtain ⟨nj,g⟩:=get k d q h
  obtain ⟨m,g1,g0',g2'⟩:=e.own k d hk g
  have nm:m ≠ l:=fun z=>e.apart j k l _ _ hj hk (Ne.symm nj) he g hs (z ▸ g1)
  exact ⟨m,by rw [List.getElem?_set_ne (Ne.symm q)]; exact g1,g0',g2'.mono fz.hid fun o z=>by rw [Jb nm]; exact z⟩
 ·have q1:k1 ≠ i:=fun z=>hi (z ▸ hk1)
  have q2:k2 ≠ i:=fun z=>hi (z ▸ hk2)
  rw [List.getElem?_set_ne (Ne.symm q1)] at h3
  rw [List.getElem?_set_ne (Ne.symm q2)]
  exact e.apart k1 k2 m d1 d2 hk1 hk2 hn (get k1 d1 q1 h1).2 (get k2 d2 q2 h2).2 h3
theorem aMovF {py:Pos} (C:Ctx X G N nm) (h:chkA N nm M i x = true) (h':chkO N nm M j y = true) (hs:swapsWith (.Name y py) (some (.Name x px)) pos.line X.env = pure false:=by rfl):PS X (.Assign [.Name x px] (.Name y py) pos) (tS X call M H0 (.movF i j)):=by
 obtain ⟨h1,h2,h3⟩:=chkA.at h
 obtain ⟨g1,g2,g3,g4,g5⟩:=chkO.at h'
 obtain ⟨d1,d2⟩:=plainN.d g3
 obtain ⟨k1,k2⟩:=C.sto x h2
 intro pins s σ H D I ⟨env,e,h⟩
 simp only [exD] at h
 cases q:env[j]? with
 | none=>rw [q] at h; exact h.elim
 | some o=>
  rw [q] at h
  cases o with
  | none=>exact h.elim
  | some d=>
   cases d with
   | dct t z ks vs=>
    cases z with
    | true=>exact h.elim
    | false=>
     obtain ⟨l,hσ,h0,hz,xs,hl,hr⟩:=e.own j _ g4 q
     refine wpAny_mono (Jbd (by rw [C.hN]; exact C.nd) (by rw [C.hN]; exact h1) k1 (JbF (by rw [C.hN]; exact g1) (C.vis y g5) d1 d2) hs k2 pins s σ H ⟨fun σ' H'=>σ' = σ.set i (some (.ref l)) /\ H' = H,fun _ _=>False,fun _ _=>False,fun _ _=>False⟩ I ⟨.ref l,hσ,rfl,rfl⟩) (fun f s1 r=>?_) fun _ _ z=>z
     cases f with
     | next=>
      obtain ⟨σ',H',I',rfl,rfl⟩:=r
      cases t with
      | false=>
       obtain ⟨kvs,w1,rfl,rfl⟩:=hl
       obtain ⟨o,I2⟩:=JkH I' w1
       obtain ⟨e2,f2⟩:=e.moveF (ob:=.frz o (.dK kvs)) h3 g4 q hσ fun xs ⟨kvs',w,e1,e2⟩=>by rw [w1] at w; cases w; exact ⟨kvs,⟨o,Jd⟩,e1,e2⟩
       exact ⟨_,_,I2,h _ _ e2 ⟨f2,fun z=>by cases z⟩⟩
      | true=>
       obtain ⟨kvs,w1,rfl,rfl⟩:=hl
       obtain ⟨o,I2⟩:=JgT I' w1
       obtain ⟨e2,f2⟩:=e.moveF (ob:=.frz o (.dT kvs)) h3 g4 q hσ fun xs ⟨kvs',w,e1,e2⟩=>by rw [w1] at w; cases w; exact ⟨kvs,⟨o,Jd⟩,e1,e2⟩
       exact ⟨_,_,I2,h _ _ e2 ⟨f2,fun z=>by cases z⟩⟩
     | brk=>obtain ⟨_,_,_,z⟩:=r; exact z.elim
     | cont=>obtain ⟨_,_,_,z⟩:=r; exact z.elim
     | ret u=>obtain ⟨_,_,_,_,_,z⟩:=r; exact z.elim
   | _=>exact h.elim
def tPar3 (i j k:Nat) (ta:TA):L2.TS:=fun D σ H=>ta σ H fun vs H1=>∃ v w u,vs = [v,w,u] /\ D.nx (((σ.set i (some v)).set j (some w)).set k (some u)) H1
theorem Jlr {k:Nat} {z:Str} {c:Expr} {ta:TA} {py pz pt:Pos} {kt k2 pt2} (hc:X.calm = true) (hN:X.N.Nodup) (hi:X.N[i]? = some x) (hj:X.N[j]? = some y) (hk:X.N[k]? = some z) (hij:i ≠ j) (hik:i ≠ k) (hjk:j ≠ k)
  (hx:X.env.scope.names.lookup x = some .local) (hy:X.env.scope.names.lookup y = some .local) (hz:X.env.scope.names.lookup z = some .local) (ha:PA X [a,b,c] ta)
  (hw:swappedStores [.Tuple [.Name x px,.Name y py,.Name z pz] kt pt] (.Tuple [a,b,c] k2 pt2) X.env = pure (some [x,y,z]))
  (hs:swapsWithSole [.Tuple [.Name x px,.Name y py,.Name z pz] kt pt] (.Tuple [a,b,c] k2 pt2) pos.line X.env = pure false:=by rfl) :
  PS X (.Assign [.Tuple [.Name x px,.Name y py,.Name z pz] kt pt] (.Tuple [a,b,c] k2 pt2) pos) (tPar3 i j k ta):=by
 intro pins s σ H D I h
 rw [exec_Assign_arm]
 refine wpAny_bind (wpAny_standAt ?_)
 (rw [hs]); (refine wpAny_bind (wpAny_pure ?_)); (rw [if_neg (by decide)])
 refine wpAny_bind (Tuple_ (thn (ha _ pins s σ H _ I h) fun us s1 ⟨vs,H1,I1,r1,q1⟩=>?_))
 obtain ⟨v,w,u,e1,q1⟩:=q1
 subst e1
 obtain ⟨u1,u2,u3,rfl,rv,rw',ru⟩:∃ u1 u2 u3,us = [u1,u2,u3] /\ RelV v u1 /\ RelV w u2 /\ RelV u u3:=by
  cases r1 with
  | cons p q=>
   cases q with
   | cons p' q'=>
    cases q' with
    | cons p'' q''=>
     cases q''
     exact ⟨_,_,_,rfl,p,p',p''⟩
 refine wpAny_newObj_type ?_ (by show 3 <= sizeLine; decide)
 have I2:Inv X pins σ H1 { s1 with heap:=s1.heap.push { cls:=.type "tuple",data:=.seq [u1,u2,u3].toArray } }:=I1.kept (t':=s1.toks) fun b o e=>Heap.get?_push_of_some _ e
 (rw [hw]); (refine wpAny_bind (wpAny_pure ?_))
 show wpAny (model X.prog X.w) X.A (do rule "assign.swapped-stores"; let items <- unpackItems (.ref s1.heap.objs.size) 3 none; assignInOrder [fun v=>bindName X.env z v,fun v=>bindName X.env y v,fun v=>bindName X.env x v] items.reverse; pure Flow.next) _ _ _
 refine wpAny_bind (wpAny_rule (wpAny_bind (unpackItems_tuple (items:=#[u1,u2,u3]) (I.ok.hd hc) (IsTup.new s1.heap _) fun h' hx'=>?_)))
 have I3:=I2.kept (h':=h') (t':=s1.toks) fun b o e=>hx' b o (Nat.ne_of_lt (Heap.lt_size e)) e
 show wpAny _ _ (assignInOrder [fun v=>bindName X.env z v,fun v=>bindName X.env y v,fun v=>bindName X.env x v] [u3,u2,u1] >>= fun _=>pure Flow.next) _ _ _
 refine wpAny_bind (assignInOrder_cons (wpAny_bindName (JR I3 hN hk (.inl hz) ru (fun s2 I4=>?_) (.inr hz))))
 refine assignInOrder_cons (wpAny_bindName (JR I4 hN hj (.inl hy) rw' (fun s3 I5=>?_) (.inr hy)))
 refine assignInOrder_cons (wpAny_bindName (JR I5 hN hi (.inl hx) rv (fun s4 I6=>assignInOrder_nil (wpAny_pure ?_)) (.inr hx)))
 rw [List.set_comm _ _ (Ne.symm hij),List.set_comm _ _ (Ne.symm hik),List.set_comm _ _ (Ne.symm hjk)] at I6
 exact ⟨_,H1,I6,q1⟩
theorem aTri {k:Nat} {z:Str} {py pz pt pd pl:Pos} {kt k2 pt2} (C:Ctx X G N nm) (hx:HX X nm) (h:chkA N nm M i x = true) (h':chkO N nm M j y = true) (h'':chkO N nm M k z = true) (hl:(nm.lookup x == some .local && nm.lookup y == some .local && nm.lookup z == some .local && decide (j ≠ k)) = true)
  (ha:PE X a (tI X call pa)) (h1:sepP M pa = true:=by rfl) (hw:swappedStores [.Tuple [.Name x px,.Name y py,.Name z pz] kt pt] (.Tuple [a,.Dict [] [] pd,.List [] pl] k2 pt2) X.env = pure (some [x,y,z]):=by rfl)
  (hs:swapsWithSole [.Tuple [.Name x px,.Name y py,.Name z pz] kt pt] (.Tuple [a,.Dict [] [] pd,.List [] pl] k2 pt2) pos.line X.env = pure false:=by rfl) (hs1:starEach [a,.Dict [] [] pd,.List [] pl] X.env = (false,eval a X.env) :: starEach [.Dict [] [] pd,.List [] pl] X.env:=by rfl) :
  PS X (.Assign [.Tuple [.Name x px,.Name y py,.Name z pz] kt pt] (.Tuple [a,.Dict [] [] pd,.List [] pl] k2 pt2) pos) (tS X call M H0 (.seq (.set false i pa) (.seq (.ownD false j) (.own k (.dis .nil))))):=by
 obtain ⟨g1,g2,g3⟩:=chkA.at h
 obtain ⟨f1,f2,f3,f4,f5⟩:=chkO.at h'
 obtain ⟨e1,e2,e3,e4,e5⟩:=chkO.at h''
 simp only [Bool.and_eq_true,beq_iff_eq,decide_eq_true_eq] at hl
 obtain ⟨⟨⟨l1,l2⟩,l3⟩,l4⟩:=hl
 refine PS.weak (Jlr C.calm (by rw [C.hN]; exact C.nd) (by rw [C.hN]; exact g1) (by rw [C.hN]; exact f1) (by rw [C.hN]; exact e1) (fun z=>g3 (by rw [z]; exact f4)) (fun z=>g3 (by rw [z]; exact e4)) l4 (by rw [hx.sc]; exact l1) (by rw [hx.sc]; exact l2) (by rw [hx.sc]; exact l3) (Jt (JcZ ha) (Jt JbU (Jt (Jaq (call:=call) Jj) JaN rfl) rfl) hs1) hw hs) fun D σ H ⟨env,e,h⟩=>?_
 simp only [exD,evD,Pu.D.asL,Rs.bind_ok,Bool.false_and,Bool.false_eq_true,if_false,List.length_nil,Nat.zero_le,if_true,imms,Bool.not_true] at h
 refine ⟨blankD M 0 env,Ow M env σ,e.ows,e.readHid,?_⟩
 rw [JC call env h1]
 cases q1:evD call pa env with
 | stuck=>rw [q1] at h; exact h.elim
 | ex c=>rw [q1] at h; exact (show XW X H0 c from h).mono e.same0
 | ok d1=>
  rw [q1] at h
  simp only [Rs.bind_ok] at h
  intro v H1 s1 k1 r1 l h0
  have t1:Same H1 (upd H1 l (.dK [])):=fun b o q=>by rw [Jb (Jc q h0)]; exact q
  have p1:=(e.grow s1).put g3 r1
  obtain ⟨p2,f2'⟩:=p1.putOwn t1 (i:=j) (d:=.dct false false [] []) h0 fun Hh tp=>⟨rfl,[],⟨[],Jd,rfl,rfl⟩,rfl⟩
  refine ⟨[],fun i d q=>by simp at q,[],rfl,fun l2 xs H3 t2 n2 g5 g6=>⟨v,.ref l,.ref l2,rfl,?_⟩⟩
  cases g6
  obtain ⟨p3,f3'⟩:=p2.putOwn t2 (i:=k) (d:=.lst []) n2 fun Hh tp=>⟨[],g5,rfl⟩
  refine h _ _ p3 ⟨?_,fun _=>(s1.trans t1).trans t2⟩
  have fz:=(f2'.trans f3')
  rw [Jaa g3] at fz
  exact (Fz.sm s1).trans fz
theorem JjK {z:Str} {py pz pt pt2:Pos} {kt k2:Nat} {env:PySem.Env} {c:Expr} (h:env.kindOf x ≠ some .local):swappedStores [.Tuple [.Name x px,.Name y py,.Name z pz] kt pt] (.Tuple [a,b,c] k2 pt2) env = pure none:=by
 have hx:(env.kindOf x == some .local) = false:=by simpa using h
 unfold swappedStores
 simp only [List.filterMap_cons,hx,Bool.false_and,Bool.false_eq_true,if_false,List.filterMap_nil]
 cases q:(env.kindOf y == some NameKind.local && py.line == (Option.map (fun x=>x.pos.line) [Expr.Name x px,Expr.Name y py,Expr.Name z pz].head?).getD 0) <;> cases q2:(env.kindOf z == some NameKind.local && pz.line == (Option.map (fun x=>x.pos.line) [Expr.Name x px,Expr.Name y py,Expr.Name z pz].head?).getD 0) <;> simp only [q,q2,Bool.false_eq_true,if_false,if_true] <;> (split <;> first | rfl | (split <;> rfl))
theorem Jnj {k:Nat} {z:Str} {py pz pt pd pl:Pos} {kt k2:Nat} {pt2:Pos} (C:Ctx X G N nm) (h:chkA N nm M i x = true) (h':chkO N nm M j y = true) (h'':chkO N nm M k z = true) (hcl:celB nm x = true) (hl:decide (j ≠ k) = true)
  (ha:PE X a (tI X call pa)) (h1:sepP M pa = true:=by rfl)
  (hs:swapsWithSole [.Tuple [.Name x px,.Name y py,.Name z pz] kt pt] (.Tuple [a,.Dict [] [] pd,.List [] pl] k2 pt2) pos.line X.env = pure false:=by rfl) (hs1:starEach [a,.Dict [] [] pd,.List [] pl] X.env = (false,eval a X.env) :: starEach [.Dict [] [] pd,.List [] pl] X.env:=by rfl)
  (ht:(assignEach [.Tuple [.Name x px,.Name y py,.Name z pz] kt pt] X.env).map (·.2) = [assign (.Tuple [.Name x px,.Name y py,.Name z pz] kt pt) X.env]:=by rfl) :
  PS X (.Assign [.Tuple [.Name x px,.Name y py,.Name z pz] kt pt] (.Tuple [a,.Dict [] [] pd,.List [] pl] k2 pt2) pos) (tS X call M H0 (.seq (.set false i pa) (.seq (.ownD false j) (.own k (.dis .nil))))):=by
 obtain ⟨g1,g2,g3⟩:=chkA.at h
 obtain ⟨f1,f2,f3,f4,f5⟩:=chkO.at h'
 obtain ⟨e1,e2,e3,e4,e5⟩:=chkO.at h''
 obtain ⟨c1,c2⟩:=C.sto x g2
 obtain ⟨c3,c4⟩:=C.sto y f2
 obtain ⟨c5,c6⟩:=C.sto z e2
 refine PS.weak (JmN (Jkb (Jt (JcZ ha) (Jt JbU (Jt (Jaq (call:=call) Jj) JaN rfl) rfl) hs1)) (Jhp C.calm (JJ (JI (i:=i) (by rw [C.hN]; exact C.nd) (by rw [C.hN]; exact g1) c1 c2) (JJ (JI (i:=j) (by rw [C.hN]; exact C.nd) (by rw [C.hN]; exact f1) c3 c4) (JJ (JI (i:=k) (by rw [C.hN]; exact C.nd) (by rw [C.hN]; exact e1) c5 c6) Jec))) rfl rfl) hs (JjK fun z=>by
  have:=C.cel x hcl
  rw [z] at this
  rcases this with w | w <;> cases w) ht) fun D σ H ⟨env,e,h⟩=>?_
 simp only [exD,evD,Pu.D.asL,Rs.bind_ok,Bool.false_and,Bool.false_eq_true,if_false,List.length_nil,Nat.zero_le,if_true,imms,Bool.not_true] at h
 refine ⟨blankD M 0 env,Ow M env σ,e.ows,e.readHid,?_⟩
 rw [JC call env h1]
 cases q1:evD call pa env with
 | stuck=>rw [q1] at h; exact h.elim
 | ex c=>rw [q1] at h; exact (show XW X H0 c from h).mono e.same0
 | ok d1=>
  rw [q1] at h
  simp only [Rs.bind_ok] at h
  intro v H1 s1 k1 r1 l h0
  have t1:Same H1 (upd H1 l (.dK [])):=fun b o q=>by rw [Jb (Jc q h0)]; exact q
  have p1:=(e.grow s1).put g3 r1
  obtain ⟨p2,f2'⟩:=p1.putOwn t1 (i:=j) (d:=.dct false false [] []) h0 fun Hh tp=>⟨rfl,[],⟨[],Jd,rfl,rfl⟩,rfl⟩
  refine ⟨[],fun i d q=>by simp at q,[],rfl,fun l2 xs H3 t2 n2 g5 g6=>⟨by show 3 <= sizeLine; decide,fun T hT=>?_⟩⟩
  cases g6
  obtain ⟨p3,f3'⟩:=p2.putOwn t2 (i:=k) (d:=.lst []) n2 fun Hh tp=>⟨[],g5,rfl⟩
  have t3:Same H3 (upd H3 T (.tup [v,.ref l,.ref l2])):=fun b o q=>by rw [Jb (Jc q hT)]; exact q
  refine ⟨T,_,rfl,SqT.of Jd,rfl,v,_,rfl,.ref l,_,rfl,.ref l2,_,rfl,rfl,h _ _ (p3.grow t3) ⟨?_,fun _=>((s1.trans t1).trans t2).trans t3⟩⟩
  have fz:=(f2'.trans f3').trans (Fz.sm t3)
  rw [Jaa g3] at fz
  exact (Fz.sm s1).trans fz
end
section
variable {prog:Program} {w:World} {A:Around} {E:Value -> Shared -> Prop} {s:Shared} {t:Addr}
theorem JiB {xs:Array (Int × Tok)} {Q:Value -> Shared -> Prop} (hh:A.handled = none) (ht:s.heap.IsList t (intItems xs))
  (h:∀ h' tk t',(∀ b o,s.heap.get? b = some o -> h'.get? b = some o) -> Q (.int (preSum (numAt xs) xs.size) t') { s with heap:=h',toks:=tk }):wpAny (model prog w) A (call (.builtin "sum") [.ref t]) Q E s:=by
 obtain ⟨o,ho,hc,n,hd⟩:=id ht
 have hne:t ≠ s.heap.objs.size:=Nat.ne_of_lt (Heap.lt_size ho)
 have hsz:(intItems xs).size = xs.size:=by simp [intItems]
 have W:=(Walks.list (prog:=prog) (w:=w) (A:=A.in1) hh s.heap.objs.size t hne (intItems xs)).toS
 rw [hsz] at W
 refine call_sum_walkAnyS (wpAny_pyIter_list ht ?_)
 refine ⟨s.heap.objs.size,_,_,_,_,_,_,numAt xs,rfl,W,⟨⟨_,Heap.get?_push_size _ rfl,rfl,rfl⟩,ht.at fun o e=>Heap.get?_push_of_some _ e⟩,fun b hb=>?_,fun i v hP=>intItems_at hP,fun s' t' hm=>?_⟩
 ·(rcases List.mem_cons.mp hb with rfl | hb); (exact Heap.lt_size (Heap.get?_push_size _ rfl)); (obtain rfl:=List.mem_singleton.mp hb); (exact Heap.lt_size (Heap.get?_push_of_some _ ho))
 ·obtain ⟨h',g',d',tk',os'⟩:=s'
  (have e1:g' = s.gens:=hm.gens); (have e2:d' = s.drawn:=hm.drawn); (have e3:os' = s.os:=hm.os); subst e1 e2 e3
  exact h h' tk' t' fun b o e=>hm.heap b o (fun hb=>absurd (Heap.lt_size e) ((List.mem_singleton.mp hb) ▸ Nat.lt_irrefl _)) (Heap.get?_push_of_some _ e)
end
section
variable {X:Cx} {call:CallD} {G:Gw} {N:List Str} {nm:List (Str × NameKind)} {pos p1:Pos} {a:Expr} {pa:Px}
theorem JkM (hc:X.calm = true):CallR X (.builtin "sum") (rC1 X .sumI):=by
 intro pins s σ H xs us Q I rv ⟨x,d,e,r,h⟩
 subst e
 obtain ⟨u,rfl,rx⟩:=JaP rv
 cases d with
 | lst d=>
  obtain ⟨p,ys,rfl,h1,h2⟩:=r
  cases rx
  simp only [op1] at h
  cases q:intsOf d with
  | none=>rw [q] at h; exact h.elim
  | some is=>
   rw [q] at h
   simp only at h
   split at h
   ·have e1:=JeK q h2
    subst e1
    obtain ⟨its,r',pl,hz⟩:=I.list h1
    have hi:IntsAre its is:=JfN r'
    have hl:s.heap.IsList p its.toArray:=pl.isList
    obtain ⟨zs,hx⟩:=hi.allInts.items
    have hn:numsOf its.toArray.toList = is:=by rw [show its.toArray.toList = its from rfl,hi.numsOf]
    rw [hx] at hl hn
    rw [nums_intItems] at hn
    refine JiB (I.ok.hd hc) hl fun h' tk t' hk=>?_
    rw [preSum_eq,List.take_of_length_le (by simp),hn]
    exact ⟨.int is.sum,H,I.kept hk,⟨t',rfl⟩,Out.now h rfl⟩
   ·exact h.elim
 | _=>exact (show False from h).elim
theorem JnA (C:Ctx X G N nm) (hm:G.mg "sum" = none) (ha:PE X a (tI X call pa)) (hg:gloB nm "sum" = true) (hs:starEach [a] X.env = (false,eval a X.env) :: starEach [] X.env:=by rfl):PE X (.Call (.Name "sum" p1) [a] [] pos) (tI X call (.un .sumI pa)):=JeS C (JkM C.calm) ha hg hm boot_sum (by decide +kernel) (by decide +kernel) hs
end
end Rd
namespace Rd
open PySem PySem.Spec PyProof.Rows L2 Pu PySem.W
section
variable {X:Cx} {pins:List (Addr × Obj)} {σ:L2.St} {H:Hp} {s:Shared}
end
section
variable {P:Program} {w:World} {K:PySem.W.Frag} {mg:Str -> Option Value} {base:Heap} {A:Around} {outer:List Env} {s:Shared} {H:Hp} {Q:VK} {E:XK} {N:List Str} {f:Addr} {params:Arguments} {body:Expr} {scope:Scope} {q:Str} {clos:List (Str × Addr)} {σ2:L2.St} {call:CallD} {p:Px} {env:Fm}
end
end Rd
namespace Rd
open PySem PySem.Spec PyProof.Rows L2 Pu PySem.W
structure CtxN (X:Cx) (G:Gw) (N:List Str) (nm:List (Str × NameKind)):Prop where
 g:gwOf X = G
 hN:X.N = N
 nd:N.Nodup
 vis:∀ x,visB nm x = true -> Vis X.env.scope x
 glo:∀ x,gloB nm x = true -> Gl X x
 sto:∀ x,locB nm x = true -> Loc X.env.scope x /\ (X.fn x = true \/ X.env.scope.names.lookup x = some .local)
 un:X.A.units + 64 < cLine
section
variable {X:Cx} {call:CallD} {G:Gw} {N:List Str} {nm:List (Str × NameKind)} {e a b:Expr} {p pa pb:Px} {pos p1 p2 px apos:Pos} {x t:Str} {cs:List Str} {M:List Nat} {H0:Hp} {i:Nat}
theorem CtxN.mg (C:CtxN X G N nm):X.mg = G.mg:=by rw [<- C.g]; rfl
end
section
variable {P:Program} {w:World} {K:PySem.W.Frag} {mg:Str -> Option Value} {base:Heap} {defs:List DefD} {fi k:Nat} {d:DefD} {A:Around} {outer:List Env} {s s1:Shared} {H:Hp} {E:XK}
end
end Rd
namespace Rd
open PySem PySem.Spec PyProof.Rows L2 Pu PySem.W
section
variable {X:Cx} {pins:List (Addr × Obj)} {H:Hp} {s:Shared} {E:Value -> Shared -> Prop} {C CRa a:Addr} {rn en:Str} {np hp p2:Pos} {je:Nat} {D:Ends} {ex:Expr} {te:TE}
end
section
variable {X:Cx} {fc:Addr} {fdc:FuncData} {pc cn en:Str} {call:CallD} {fi je:Nat} {p1 p2 pos:Pos}
end
section
variable {P:Program} {w:World} {K:PySem.W.Frag} {mg:Str -> Option Value} {base:Heap} {A:Around} {outer:List Env} {s:Shared} {H:Hp} {Q:VK} {E:XK} {call:CallD} {p:Px} {env:Fm} {x qual dn en rn cn pc:Str} {st:Stmt} {f fl fc CRa:Addr} {fd fdc:FuncData} {fi:Nat} {cs:List Str}
end
end Rd
namespace Rd
open PySem PySem.Spec PyProof.Rows L2 Pu PySem.W
section
variable {X:Cx} {call:CallD} {G:Gw} {N:List Str} {nm:List (Str × NameKind)} {body:Expr} {params:Arguments} {sc:Scope} {p:Px} {pos p1 lp:Pos} {x:Str} {cs:List Str} {M:List Nat} {fi j:Nat}
end
end Rd
namespace Rd
open PySem PySem.Spec PyProof.Rows L2 Pu PySem.W
section
variable {P:Program} {w:World} {K:PySem.W.Frag} {mg:Str -> Option Value} {base:Heap} {defs:List DefD} {fi k j:Nat} {d:DefD} {c Pt:Addr}
end
end Rd
namespace Rd
open PySem PySem.Spec PyProof.Rows L2 Pu
section
variable {X:Cx} {call:CallD} {G:Gw} {N:List Str} {nm:List (Str × NameKind)} {a b:Expr} {p:Px} {pos px py pt pt2:Pos} {x y:Str} {M ts:List Nat} {H0:Hp} {nt kt k2:Nat}
end
end Rd
namespace Pu
open PySem
section
variable (i j:Int) (x y:Str) (xs ys:List D) (a b:D) (p q:Bool)
@[simp] theorem o_neg:op1 .neg (.int i) = .ok (.int (-i)):=rfl
@[simp] theorem o_not:op1 .not (.bl p) = .ok (.bl !p):=rfl
@[simp] theorem Jow:op1 .truth (.bl p) = .ok (.bl p):=rfl
@[simp] theorem o_lenT:op1 .len (.tup xs) = .ok (.int xs.length):=rfl
@[simp] theorem JnG:op1 .len (.lst xs) = .ok (.int xs.length):=rfl
@[simp] theorem JnY:op1 .tuple (.lst xs) = .ok (.tup xs):=rfl
@[simp] theorem o_tupT:op1 .tuple (.tup xs) = .ok (.tup xs):=rfl
@[simp] theorem o_listL:op1 .list (.lst xs) = .ok (.lst xs):=rfl
@[simp] theorem o_listT:op1 .list (.tup xs) = .ok (.lst xs):=rfl
@[simp] theorem o_enumT:op1 .enum (.tup xs) = .ok (.lst (enumFrom 0 xs)):=rfl
@[simp] theorem o_enumL:op1 .enum (.lst xs) = .ok (.lst (enumFrom 0 xs)):=rfl
@[simp] theorem o_rowsL:op1 .rows (.lst xs) = .ok (.lst xs):=rfl
@[simp] theorem o_rowsT:op1 .rows (.tup xs) = .ok (.tup xs):=rfl
@[simp] theorem Jok:D.walk (.lst xs) = .ok xs:=rfl
@[simp] theorem Jnc:D.walk (.tup xs) = .ok xs:=rfl
@[simp] theorem o_asI:op1 .asI (.int i) = .ok (.int i):=rfl
@[simp] theorem o_asT:op1 .asT (.tup xs) = .ok (.tup xs):=rfl
@[simp] theorem o_isNn:op1 .isN .non = .ok (.bl true):=rfl
@[simp] theorem o_isNl:op1 .isN (.lst xs) = .ok (.bl false):=rfl
@[simp] theorem o_notNn:op1 .notN .non = .ok (.bl false):=rfl
@[simp] theorem o_notNl:op1 .notN (.lst xs) = .ok (.bl true):=rfl
theorem JhV (n:Nat) (h:n <= 1000):op1 .range (.int n) = .ok (.lst (upTo 0 n)):=by
 have:midI n = true:=by
  simp only [midI,Bool.and_eq_true,decide_eq_true_eq]
  omega
 simp [op1,this]
@[simp] theorem o_add:op2 .add (.int i) (.int j) = .ok (.int (i + j)):=rfl
@[simp] theorem o_sub:op2 .sub (.int i) (.int j) = .ok (.int (i - j)):=rfl
@[simp] theorem o_mul (h:smallI i || smallI j):op2 .mul (.int i) (.int j) = .ok (.int (i * j)):=by simp only [op2,h,if_true]
theorem Jos (h:xs.length + ys.length <= lineD):op2 .add (.tup xs) (.tup ys) = .ok (.tup (xs ++ ys)):=by simp only [op2,h,if_true]
theorem Jgf (h:xs.length + ys.length <= lineD):op2 .add (.lst xs) (.lst ys) = .ok (.lst (xs ++ ys)):=by simp only [op2,h,if_true]
@[simp] theorem o_lt:op2 .lt (.int i) (.int j) = .ok (.bl (decide (i < j))):=rfl
@[simp] theorem o_le:op2 .le (.int i) (.int j) = .ok (.bl (decide (i <= j))):=rfl
@[simp] theorem o_gt:op2 .gt (.int i) (.int j) = .ok (.bl (decide (j < i))):=rfl
@[simp] theorem o_ge:op2 .ge (.int i) (.int j) = .ok (.bl (decide (j <= i))):=rfl
theorem o_eq (h:a.dep <= 20) (h':b.dep <= 20):op2 .eq a b = .ok (.bl (a.eqv b)):=by simp [op2,okDep,h,h']
theorem o_ne (h:a.dep <= 20) (h':b.dep <= 20):op2 .ne a b = .ok (.bl (!a.eqv b)):=by simp [op2,okDep,h,h']
@[simp] theorem o_eqS:op2 .eq (.str x) (.str y) = .ok (.bl (x == y)):=rfl
@[simp] theorem o_neS:op2 .ne (.str x) (.str y) = .ok (.bl (!(x == y))):=rfl
@[simp] theorem o_eqI:op2 .eq (.int i) (.int j) = .ok (.bl (i == j)):=rfl
@[simp] theorem o_neI:op2 .ne (.int i) (.int j) = .ok (.bl (!(i == j))):=rfl
@[simp] theorem o_eqB:op2 .eq (.bl p) (.bl q) = .ok (.bl (p == q)):=rfl
@[simp] theorem o_neB:op2 .ne (.bl p) (.bl q) = .ok (.bl (!(p == q))):=rfl
@[simp] theorem JbH:op2 .idx (.tup xs) (.int i) = Rs.ofOpt (atD xs i):=rfl
@[simp] theorem Jfv:op2 .idx (.lst xs) (.int i) = Rs.ofOpt (atD xs i):=rfl
@[simp] theorem o_zipTT:op2 .zip (.tup xs) (.tup ys) = .ok (.lst (zipD xs ys)):=rfl
theorem o_inT (h:deps xs <= 19) (h':a.dep <= 20):op2 .isin a (.tup xs) = .ok (.bl (xs.any fun d=>d.eqv a)):=by
 have:okDep (.tup xs) = true:=by simp [okDep,D.dep,h]
 have h2:okDep a = true:=by simp [okDep,h']
 cases a <;> simp_all [op2]
theorem o_inL (h:deps xs <= 19) (h':a.dep <= 20):op2 .isin a (.lst xs) = .ok (.bl (xs.any fun d=>d.eqv a)):=by
 have:okDep (.lst xs) = true:=by simp [okDep,D.dep,h]
 have h2:okDep a = true:=by simp [okDep,h']
 cases a <;> simp_all [op2]
theorem JnE (h:deps xs <= 19) (h':a.dep <= 20):op2 .notin a (.tup xs) = .ok (.bl (!xs.any fun d=>d.eqv a)):=by
 have:okDep (.tup xs) = true:=by simp [okDep,D.dep,h]
 have h2:okDep a = true:=by simp [okDep,h']
 cases a <;> simp_all [op2]
theorem atN (n:Nat) (h:n < xs.length):atD xs (n:Int) = some xs[n]:=by
 have h2:(n:Int) < xs.length:=by omega
 have h3:(0:Int) <= n:=by omega
 simp [atD,ixn,h2,h3,h]
@[simp] theorem at0:atD (a :: xs) 0 = some a:=by
 have:=atN (a :: xs) 0 (by simp)
 simpa using this
@[simp] theorem at1:atD (a :: b :: xs) 1 = some b:=by
 have:=atN (a :: b :: xs) 1 (by simp)
 simpa using this
@[simp] theorem at2 (c:D):atD (a :: b :: c :: xs) 2 = some c:=by
 have:=atN (a :: b :: c :: xs) 2 (by simp)
 simpa using this
@[simp] theorem ofSome {α:Type} (a:α):Rs.ofOpt (some a) = .ok a:=rfl
end
section
variable (call:CallD) (env:Fm)
@[simp] theorem JgV (i:Nat):evD call (.var i) env = match env[i]? with
  | some (some d)=>.ok d
  | _=>.stuck:=rfl
@[simp] theorem e_con (d:D):evD call (.con d) env = .ok d:=rfl
@[simp] theorem e_un (o:O1) (a:Px):evD call (.un o a) env = (evD call a env).bind (op1 o):=rfl
@[simp] theorem e_bi (o:O2) (a b:Px):evD call (.bi o a b) env = (evD call a env).bind fun x=>(evD call b env).bind fun y=>op2 o x y:=rfl
@[simp] theorem e_and (a b:Px):evD call (.and a b) env = (evD call a env).bind fun x=>match x with
  | .bl true=>evD call b env
  | .bl false=>.ok (.bl false)
  | _=>.stuck:=rfl
@[simp] theorem e_or (a b:Px):evD call (.or a b) env = (evD call a env).bind fun x=>match x with
  | .bl true=>.ok (.bl true)
  | .bl false=>evD call b env
  | _=>.stuck:=rfl
@[simp] theorem JnZ (c a b:Px):evD call (.ite c a b) env = (evD call c env).bind fun x=>match x with
  | .bl true=>evD call a env
  | .bl false=>evD call b env
  | _=>.stuck:=rfl
@[simp] theorem e_nil:evD call .nil env = .ok (.lst []):=rfl
@[simp] theorem JjZ (a as:Px):evD call (.cons a as) env = (evD call a env).bind fun x=>(evD call as env).bind fun y=>y.asL.bind fun ds=>.ok (.lst (x :: ds)):=rfl
@[simp] theorem e_tup (as:Px):evD call (.tup as) env = (evD call as env).bind fun y=>y.asL.bind fun ds=>if ds.length <= lineD then .ok (.tup ds) else .stuck:=rfl
@[simp] theorem e_dis (as:Px):evD call (.dis as) env = (evD call as env).bind fun y=>y.asL.bind fun ds=>if ds.length <= lineD then .ok (.lst ds) else .stuck:=rfl
@[simp] theorem Jks (f:Nat) (as:Px):evD call (.call f as) env = (evD call as env).bind fun y=>y.asL.bind fun ds=>call f ds:=rfl
@[simp] theorem e_sl (a lo hi:Px):evD call (.sl a lo hi) env = (evD call a env).bind fun x=>(evD call lo env).bind fun l=>l.bound.bind fun l=>(evD call hi env).bind fun h=>h.bound.bind fun h=>match x with
  | .tup ds=>.ok (.tup (cutD ds l h))
  | .lst ds=>.ok (.lst (cutD ds l h))
  | .str x=>if x.length <= 1000 then .ok (.str (mkS (cutD x.cps.toList l h))) else .stuck
  | _=>.stuck:=rfl
@[simp] theorem JcD (a:Px):evD call (.walk a) env = (evD call a env).bind fun x=>x.walk.bind fun ds=>.ok (.lst ds):=rfl
theorem JeR (nt:Nat) (src c e:Px):evD call (.comp nt src c e) env = (evD call src env).bind fun s=>s.asL.bind fun ds=>if ds.length <= lineD then (compL nt (evD call c) (evD call e) env ds).bind fun ys=>.ok (.lst ys) else .stuck:=rfl
end
@[simp] theorem JG (ds:List D):D.asL (.lst ds) = .ok ds:=rfl
@[simp] theorem Jie:D.bound .non = .ok none:=rfl
@[simp] theorem JgQ (i:Int):D.bound (.int i) = .ok (some i):=rfl
section
variable (call:CallD) (env:Fm)
@[simp] theorem ans_nx:answerD (.ok (.nx,env)) = .ok .non:=rfl
@[simp] theorem ans_rt (d:D):answerD (.ok (.rt d,env)) = .ok d:=rfl
@[simp] theorem JnQ:answerD .stuck = .stuck:=rfl
@[simp] theorem ans_ex (c:Str):answerD (.ex c) = .ex c:=rfl
@[simp] theorem x_skip:exD call .skip env = .ok (.nx,env):=rfl
@[simp] theorem Jdx (a b:Sx):exD call (.seq a b) env = (exD call a env).bind fun r=>match r with
  | (.nx,env2)=>exD call b env2
  | r=>.ok r:=rfl
@[simp] theorem Jlt (m:Bool) (i:Nat) (e:Px):exD call (.set m i e) env = (evD call e env).bind fun d=>if m && !d.imm then .stuck else .ok (.nx,env.set i (some d)):=rfl
@[simp] theorem x_own (i:Nat) (e:Px):exD call (.own i e) env = (evD call e env).bind fun d=>match d with
  | .lst ds=>if !imms ds then .stuck else .ok (.nx,env.set i (some (.lst ds)))
  | _=>.stuck:=rfl
@[simp] theorem x_app (m:Bool) (i:Nat) (e:Px):exD call (.app m i e) env = match env[i]? with
  | some (some (.lst ds))=>(evD call e env).bind fun d=>if (m && !d.imm) || !decide (ds.length < lineD) then .stuck else .ok (.nx,env.set i (some (.lst (ds ++ [d]))))
  | _=>.stuck:=rfl
@[simp] theorem x_ext (m:Bool) (i:Nat) (e:Px):exD call (.ext m i e) env = match env[i]? with
  | some (some (.lst ds))=>(evD call e env).bind fun y=>y.asL.bind fun es=>if (m && !imms es) || !decide (ds.length + es.length <= lineD) then .stuck else .ok (.nx,env.set i (some (.lst (ds ++ es))))
  | _=>.stuck:=rfl
@[simp] theorem x_ownD (t:Bool) (i:Nat):exD call (.ownD t i) env = .ok (.nx,env.set i (some (.dct t false [] []))):=rfl
@[simp] theorem x_retF (i:Nat):exD call (.retF i) env = match env[i]? with
  | some (some (.dct t false ks vs))=>.ok (.rt (.dct t true ks vs),env)
  | _=>.stuck:=rfl
@[simp] theorem x_put (m t':Bool) (i:Nat) (k v:Px):exD call (.put m t' i k v) env = match env[i]? with
  | some (some (.dct t false ks vs))=>(evD call v env).bind fun y=>(evD call k env).bind fun x=>if (m && !y.imm) || !(t == t') || !keyD t x || !decide (ks.length < 1000) then .stuck else .ok (.nx,env.set i (some (.dct t false (putD x y ks vs).1 (putD x y ks vs).2)))
  | _=>.stuck:=rfl
@[simp] theorem x_raise (c:Str) (p:Px):exD call (.raise c p) env = (evD call p env).bind fun d=>if msgOk d then .ex c else .stuck:=rfl
@[simp] theorem x_tryC (i:Nat) (e:Px) (j:Nat) (cs:List Str):exD call (.tryC i e j cs) env = catchC j cs env ((evD call e env).bind fun d=>.ok (.nx,env.set i (some d))):=rfl
@[simp] theorem x_mov (i j:Nat):exD call (.mov i j) env = match env[j]? with
  | some (some (.lst ds))=>.ok (.nx,(env.set i (some (.lst ds))).set j none)
  | _=>.stuck:=rfl
theorem x_whl (n:Nat) (c:Px) (b:Sx):exD call (.whl n c b) env = whlL (evD call c) (exD call b) n env:=rfl
@[simp] theorem x_eff (e:Px):exD call (.eff e) env = (evD call e env).bind fun _=>.ok (.nx,env):=rfl
@[simp] theorem JmZ (e:Px):exD call (.ret e) env = (evD call e env).bind fun d=>.ok (.rt d,env):=rfl
@[simp] theorem x_retN:exD call .retN env = .ok (.rt .non,env):=rfl
@[simp] theorem Jlm (c:Px) (a b:Sx):exD call (.ite c a b) env = (evD call c env).bind fun x=>match x with
  | .bl true=>exD call a env
  | .bl false=>exD call b env
  | _=>.stuck:=rfl
@[simp] theorem Jfm (m:Bool) (ts:List Nat) (nt:Nat) (src:Px) (body:Sx):exD call (.loop m ts nt src body) env = (evD call src env).bind fun s=>s.asL.bind fun ds=>if m && (mutS body || !imms ds) then .stuck else forL ts nt (exD call body) ds env:=rfl
@[simp] theorem x_brk:exD call .brk env = .ok (.bk,env):=rfl
@[simp] theorem x_cnt:exD call .cnt env = .ok (.ct,env):=rfl
end
theorem JiR (ns:List Int):deps (ns.map D.int) = 0:=by
 induction ns with
 | nil=>rfl
 | cons a t ih=>simp [deps,D.dep,ih]
theorem JV (ns:List Str):deps (ns.map D.str) = 0:=by
 induction ns with
 | nil=>rfl
 | cons a t ih=>simp [deps,D.dep,ih]
theorem JiD (ns:List Int):imms (ns.map D.int) = true:=by
 induction ns with
 | nil=>rfl
 | cons a t ih=>simp [imms,D.imm,ih]
theorem Jjq (ns:List Str):imms (ns.map D.str) = true:=by
 induction ns with
 | nil=>rfl
 | cons a t ih=>simp [imms,D.imm,ih]
theorem JmQ (nt:Nat) (c e:Fm -> Rs D) (env:Fm):compL nt c e env [] = .ok []:=rfl
theorem JT (nt:Nat) (c e:Fm -> Rs D) (env:Fm) (d:D) (ds:List D) {new:Fm} (hb:bindT nt d = .ok new) {p:Bool} (hc:c (new ++ env) = .ok (.bl p)) {y:D} (he:p = true -> e (new ++ env) = .ok y)
  {ys:List D} (hr:compL nt c e env ds = .ok ys):compL nt c e env (d :: ds) = .ok (if p then y :: ys else ys):=by
 cases p <;> simp [compL,hb,hc,hr,he]
theorem Jbt (c e:Fm -> Rs D) (env:Fm) (f:Nat -> D):∀ (n lo:Nat),(∀ k,lo <= k -> k < lo + n -> c (some (.int k) :: env) = .ok (.bl true) /\ e (some (.int k) :: env) = .ok (f k)) ->
  compL 0 c e env ((List.range' lo n).map fun k:Nat=>D.int k) = .ok ((List.range' lo n).map f)
 | 0,lo,h=>rfl
 | n + 1,lo,h=>by
  obtain ⟨hc,ey⟩:=h lo (Nat.le_refl _) (by omega)
  have e1:=Jbt c e env f n (lo + 1) fun k h1 h2=>h k (by omega) (by omega)
  have hb:bindT 0 (D.int lo) = .ok [some (.int lo)]:=rfl
  have:=JT 0 c e env (.int lo) _ hb (p:=true) hc (fun _=>ey) e1
  simpa [List.range'_succ] using this
theorem JhC (n:Nat):upTo 0 n = (List.range' 0 n).map fun k:Nat=>D.int k:=by
 simp [upTo,List.range_eq_range']
theorem JiH (n:Nat) (hb:n <= 1000):(upTo 0 n).length <= lineD:=by
 have h:(upTo 0 n).length = n:=by simp [upTo]
 rw [h]
 exact Nat.le_trans hb (by decide)
theorem Jej (call:CallD) (env:Fm) (ne e:Px) (n:Nat) (hn:evD call ne env = .ok (.int n)) (hb:n <= 1000) (f:Nat -> D) (h:∀ k,k < n -> evD call e (some (.int k) :: env) = .ok (f k)) :
  evD call (.comp 0 (.un .range ne) (.con (.bl true)) e) env = .ok (.lst ((List.range n).map f)):=by
 have:=Jbt (evD call (.con (.bl true))) (evD call e) env f n 0 fun k h1 h2=>⟨rfl,h k (by omega)⟩
 rw [List.range_eq_range',JeR,e_un,hn,Rs.bind_ok,JhV n hb,Rs.bind_ok]
 show (if (upTo 0 n).length <= lineD then _ else _) = _
 rw [if_pos (JiH n hb),JhC,this]
 rfl
end Pu
namespace Pu
open PySem
section
variable (call:CallD) (env:Fm)
theorem Jan (e:Px):answerD (exD call (.ret e) env) = evD call e env:=by
 rw [JmZ]
 cases evD call e env <;> rfl
theorem Jw {c:Px} {p:Bool} (e:Px) (rest:Sx) (hc:evD call c env = .ok (.bl p)):answerD (exD call (.seq (.ite c (.ret e) .skip) rest) env) = if p then evD call e env else answerD (exD call rest env):=by
 rw [Jdx,Jlm,hc]
 cases p with
 | true=>
  simp only [Rs.bind_ok,JmZ,if_true]
  cases evD call e env <;> rfl
 | false=>simp
theorem JaF {i:Nat} {e:Px} {d:D} (rest:Sx) (hd:evD call e env = .ok d):answerD (exD call (.seq (.set false i e) rest) env) = answerD (exD call rest (env.set i (some d))):=by
 rw [Jdx,Jlt,hd]
 rfl
theorem a_own {i:Nat} {e:Px} {ds:List D} (rest:Sx) (hd:evD call e env = .ok (.lst ds)) (hi:imms ds = true):answerD (exD call (.seq (.own i e) rest) env) = answerD (exD call rest (env.set i (some (.lst ds)))):=by
 rw [Jdx,x_own,hd]
 simp [hi]
theorem Jaj {a:Sx} {env2:Fm} (rest:Sx) (h:exD call a env = .ok (.nx,env2)):answerD (exD call (.seq a rest) env) = answerD (exD call rest env2):=by
 rw [Jdx,h]
 rfl
theorem JD {a b:Px} {p q:Bool} (ha:evD call a env = .ok (.bl p)) (hb:p = true -> evD call b env = .ok (.bl q)):evD call (.and a b) env = .ok (.bl (p && q)):=by
 rw [e_and,ha]
 cases p with
 | true=>simpa using hb rfl
 | false=>rfl
theorem JhH {a b:Px} {p q:Bool} (ha:evD call a env = .ok (.bl p)) (hb:p = false -> evD call b env = .ok (.bl q)):evD call (.or a b) env = .ok (.bl (p || q)):=by
 rw [e_or,ha]
 cases p with
 | false=>simpa using hb rfl
 | true=>rfl
theorem Jkf {a:Px} {p:Bool} (ha:evD call a env = .ok (.bl p)):evD call (.un .not a) env = .ok (.bl (!p)):=by
 rw [e_un,ha]; rfl
theorem JfI {a:Px} {p:Bool} (ha:evD call a env = .ok (.bl p)):evD call (.un .truth a) env = .ok (.bl p):=by
 rw [e_un,ha]; rfl
theorem Jg {o:O2} {a b:Px} {x y z:D} (ha:evD call a env = .ok x) (hb:evD call b env = .ok y) (ho:op2 o x y = .ok z):evD call (.bi o a b) env = .ok z:=by
 rw [e_bi,ha,Rs.bind_ok,hb,Rs.bind_ok,ho]
theorem Jx {o:O1} {a:Px} {x z:D} (ha:evD call a env = .ok x) (ho:op1 o x = .ok z):evD call (.un o a) env = .ok z:=by
 rw [e_un,ha,Rs.bind_ok,ho]
theorem JdO {f:Nat} {a:Px} {x:D} {r:Rs D} (ha:evD call a env = .ok x) (hf:call f [x] = r):evD call (.call f (.cons a .nil)) env = r:=by
 rw [Jks,JjZ,ha]
 exact hf
end
theorem Jcy {α:Type} (f:α -> Bool):∀ ds:List α,blsOf (ds.map fun d=>.bl (f d)) = some (ds.map f)
 | []=>rfl
 | d :: ds=>by simp [blsOf,Jcy f ds]
mutual
def D.small:D -> Bool
 | .str x=>decide (x.length <= 1000)
 | .tup ds=>decide (ds.length <= 1000) && smalls ds
 | .lst ds=>decide (ds.length <= 1000) && smalls ds
 | _=>true
def smalls:List D -> Bool
 | []=>true
 | d :: ds=>D.small d && smalls ds
end
theorem Jcd:∀ {ds:List D} {n:Nat},(∀ d ∈ ds,d.dep <= n) -> deps ds <= n
 | [],_,_=>Nat.zero_le _
 | x :: xs,n,h=>by
  have h1:=h x (by simp)
  have h2:=Jcd (ds:=xs) (n:=n) fun d hd=>h d (List.mem_cons_of_mem _ hd)
  simp only [deps]
  omega
theorem JE {n:Nat} (h:n <= 1000):n <= lineD:=Nat.le_trans h (by decide)
theorem Jr (call:CallD) (env:Fm) {as:Px} {ds:List D} (h:evD call as env = .ok (.lst ds)) (hl:ds.length <= 1000):evD call (.tup as) env = .ok (.tup ds):=by
 rw [e_tup,h,Rs.bind_ok,JG,Rs.bind_ok,if_pos (JE hl)]
theorem Jab (call:CallD) (env:Fm) {as:Px} {ds:List D} (h:evD call as env = .ok (.lst ds)) (hl:ds.length <= 1000):evD call (.dis as) env = .ok (.lst ds):=by
 rw [e_dis,h,Rs.bind_ok,JG,Rs.bind_ok,if_pos (JE hl)]
theorem Je (call:CallD) (env:Fm) {a as:Px} {d:D} {ds:List D} (h1:evD call a env = .ok d) (h2:evD call as env = .ok (.lst ds)):evD call (.cons a as) env = .ok (.lst (d :: ds)):=by
 rw [JjZ,h1,Rs.bind_ok,h2]
 rfl
theorem Jk (call:CallD) (env:Fm) {f:Nat} {as:Px} {ds:List D} {r:Rs D} (h:evD call as env = .ok (.lst ds)) (hf:call f ds = r):evD call (.call f as) env = r:=by
 rw [Jks,h]
 exact hf
theorem JlH {xs ys:List D} (h:xs.length + ys.length <= 1000):op2 .add (.tup xs) (.tup ys) = .ok (.tup (xs ++ ys)):=Jos _ _ (JE h)
theorem Jih (call:CallD) (env:Fm) {i:Nat} {e:Px} {ds es:List D} (hi:env[i]? = some (some (.lst ds))) (he:evD call e env = .ok (.lst es)) (hl:ds.length + es.length <= 1000) :
  exD call (.ext false i e) env = .ok (.nx,env.set i (some (.lst (ds ++ es)))):=by
 rw [x_ext,hi]
 simp only [he,Rs.bind_ok,JG,Bool.false_and,Bool.false_or,decide_eq_true (JE hl),Bool.not_true,Bool.false_eq_true,if_false]
theorem JkX (call:CallD) (env:Fm) {i:Nat} {e:Px} {ds:List D} {d:D} (hi:env[i]? = some (some (.lst ds))) (he:evD call e env = .ok d) (hl:ds.length <= 1000) :
  exD call (.app false i e) env = .ok (.nx,env.set i (some (.lst (ds ++ [d])))):=by
 have:ds.length < lineD:=Nat.lt_of_le_of_lt hl (by decide)
 rw [x_app,hi]
 simp only [he,Rs.bind_ok,Bool.false_and,Bool.false_or,decide_eq_true this,Bool.not_true,Bool.false_eq_true,if_false]
def twice (l:List Str):Bool:=decide ((sortS l).length < l.length)
end Pu
namespace Pu
open PySem
theorem JaL {α:Type} (c e:Fm -> Rs D) (env:Fm) (f:α -> D) (p:α -> Bool) (g:α -> D):∀ rs:List α,(∀ r ∈ rs,c (some (f r) :: env) = .ok (.bl (p r)) /\ (p r = true -> e (some (f r) :: env) = .ok (g r))) -> compL 0 c e env (rs.map f) = .ok ((rs.filter p).map g)
 | [],_=>rfl
 | r :: rs,h=>by
  have ih:=JaL c e env f p g rs fun x hx=>h x (by simp [hx])
  have h1:=h r (by simp)
  have:=JT 0 c e env (f r) (rs.map f) (new:=[some (f r)]) rfl h1.1 h1.2 ih
  rw [List.map_cons,this]
  cases hp:p r <;> simp [List.filter_cons,hp]
theorem Jap {α:Type} (c e:Fm -> Rs D) (env:Fm) (f1 f2:α -> D) (p:α -> Bool) (g:α -> D):∀ rs:List α,(∀ r ∈ rs,c (some (f1 r) :: some (f2 r) :: env) = .ok (.bl (p r)) /\ (p r = true -> e (some (f1 r) :: some (f2 r) :: env) = .ok (g r))) -> compL 2 c e env (rs.map fun r=>.tup [f1 r,f2 r]) = .ok ((rs.filter p).map g)
 | [],_=>rfl
 | r :: rs,h=>by
  have ih:=Jap c e env f1 f2 p g rs fun x hx=>h x (by simp [hx])
  have h1:=h r (by simp)
  have:=JT 2 c e env (.tup [f1 r,f2 r]) (rs.map fun r=>.tup [f1 r,f2 r]) (new:=[some (f1 r),some (f2 r)]) rfl h1.1 h1.2 ih
  rw [List.map_cons,this]
  cases hp:p r <;> simp [List.filter_cons,hp]
theorem Jae {α:Type} (call:CallD) (env:Fm) {src c e:Px} {rs:List α} (f:α -> D) (p:α -> Bool) (g:α -> D) (hs:evD call src env = .ok (.lst (rs.map f))) (hl:rs.length <= 1000)
  (h:∀ r ∈ rs,evD call c (some (f r) :: env) = .ok (.bl (p r)) /\ (p r = true -> evD call e (some (f r) :: env) = .ok (g r))):evD call (.comp 0 src c e) env = .ok (.lst ((rs.filter p).map g)):=by
 rw [JeR,hs,Rs.bind_ok,JG,Rs.bind_ok,if_pos (by rw [List.length_map]; exact JE hl),JaL _ _ env f p g rs h]; rfl
theorem Jjr {α:Type} (call:CallD) (env:Fm) {src c e:Px} {rs:List α} (f1 f2:α -> D) (p:α -> Bool) (g:α -> D) (hs:evD call src env = .ok (.lst (rs.map fun r=>.tup [f1 r,f2 r]))) (hl:rs.length <= 1000)
  (h:∀ r ∈ rs,evD call c (some (f1 r) :: some (f2 r) :: env) = .ok (.bl (p r)) /\ (p r = true -> evD call e (some (f1 r) :: some (f2 r) :: env) = .ok (g r))):evD call (.comp 2 src c e) env = .ok (.lst ((rs.filter p).map g)):=by
 rw [JeR,hs,Rs.bind_ok,JG,Rs.bind_ok,if_pos (by rw [List.length_map]; exact JE hl),Jap _ _ env f1 f2 p g rs h]; rfl
theorem Jbm {α:Type} (rs:List α):rs.filter (fun _=>true) = rs:=by simp
theorem Jai {α:Type} (call:CallD) (env:Fm) {src e:Px} {rs:List α} (f:α -> D) (g:α -> D) (hs:evD call src env = .ok (.lst (rs.map f))) (hl:rs.length <= 1000)
  (h:∀ r ∈ rs,evD call e (some (f r) :: env) = .ok (g r)):evD call (.comp 0 src (.con (.bl true)) e) env = .ok (.lst (rs.map g)):=by
 rw [Jae call env f (fun _=>true) g hs hl fun r hr=>⟨rfl,fun _=>h r hr⟩,Jbm]
theorem JeQ {α:Type} (call:CallD) (env:Fm) {src e:Px} {rs:List α} (f1 f2:α -> D) (g:α -> D) (hs:evD call src env = .ok (.lst (rs.map fun r=>.tup [f1 r,f2 r]))) (hl:rs.length <= 1000)
  (h:∀ r ∈ rs,evD call e (some (f1 r) :: some (f2 r) :: env) = .ok (g r)):evD call (.comp 2 src (.con (.bl true)) e) env = .ok (.lst (rs.map g)):=by
 rw [Jjr call env f1 f2 (fun _=>true) g hs hl fun r hr=>⟨rfl,fun _=>h r hr⟩,Jbm]
mutual
theorem Jgv:∀ d:D,d.dep <= 900 -> d.eqv d = true
 | .non,_=>rfl
 | .bl b,_=>by simp [D.eqv]
 | .int i,_=>by simp [D.eqv]
 | .str x,_=>by simp [D.eqv]
 | .tup ds,h=>by
  simp only [D.dep] at h
  simp [D.eqv,JdK ds (by omega)]
 | .lst ds,h=>by
  simp only [D.dep] at h
  simp [D.eqv,JdK ds (by omega)]
 | .dct _ _ _ _,h=>by simp only [D.dep] at h; omega
 | .exc _,h=>by simp only [D.dep] at h; omega
 | .fn _ _,h=>by simp only [D.dep] at h; omega
 | .obj _ _ _,h=>by simp only [D.dep] at h; omega
theorem JdK:∀ ds:List D,deps ds <= 900 -> eqvs ds ds = true
 | [],_=>rfl
 | d :: ds,h=>by
  simp only [deps] at h
  simp [eqvs,Jgv d (by omega),JdK ds (by omega)]
end
theorem Jkx (d:D) (h:d.dep <= 20):op2 .ne d d = .ok (.bl false):=by
 rw [o_ne _ _ h h,Jgv d (by omega)]; rfl
theorem Jip (d:D) (h:d.dep <= 20):op2 .eq d d = .ok (.bl true):=by
 rw [o_eq _ _ h h,Jgv d (by omega)]
theorem JeF:∀ xs ys:List D,deps (xs ++ ys) = max (deps xs) (deps ys)
 | [],ys=>by simp [deps]
 | x :: xs,ys=>by
  simp only [List.cons_append,deps,JeF xs ys]
  omega
section
variable (call:CallD) (env:Fm)
theorem JcV {i:Nat} {e:Px} {d:D} (rest:Sx) (hd:evD call e env = .ok d):exD call (.seq (.set false i e) rest) env = exD call rest (env.set i (some d)):=by
 rw [Jdx,Jlt,hd]
 rfl
theorem JlZ {c:Px} (a:Sx) (rest:Sx) (hc:evD call c env = .ok (.bl false)):exD call (.seq (.ite c a .skip) rest) env = exD call rest env:=by
 rw [Jdx,Jlm,hc]
 rfl
theorem JeP {a:Sx} {env2:Fm} (rest:Sx) (h:exD call a env = .ok (.nx,env2)):exD call (.seq a rest) env = exD call rest env2:=by
 rw [Jdx,h]
 rfl
theorem n_if {c:Px} {b:Bool} (A B:Sx) (hc:evD call c env = .ok (.bl b)):exD call (.ite c A B) env = if b then exD call A env else exD call B env:=by
 rw [Jlm,hc]
 cases b <;> rfl
theorem e_if {c x y:Px} {b:Bool} (hc:evD call c env = .ok (.bl b)):evD call (.ite c x y) env = if b then evD call x env else evD call y env:=by
 rw [JnZ,hc]
 cases b <;> rfl
end
theorem Jla (x y:Str):op2 .eq (.str x) (.str y) = .ok (.bl (x == y)):=by
 rw [o_eq _ _ (by simp [D.dep]) (by simp [D.dep])]; rfl
theorem JlK (x y:Str):op2 .ne (.str x) (.str y) = .ok (.bl (!(x == y))):=by
 rw [o_ne _ _ (by simp [D.dep]) (by simp [D.dep])]; rfl
theorem Jff (n:Nat) (h:n <= 1000):op1 .range (.int (n:Int)) = .ok (.lst ((List.range' 0 n).map fun k:Nat=>D.int k)):=by
 rw [JhV n h,JhC]
end Pu
namespace Pu
open PySem
mutual
def sdD:D -> Bool
 | .non=>true
 | .str _=>true
 | .int _=>true
 | .tup ds=>sdDs ds
 | _=>false
def sdDs:List D -> Bool
 | []=>true
 | d :: ds=>sdD d && sdDs ds
end
mutual
theorem Jkp:∀ (a b:D),sdD a = true -> sdD b = true -> (a.eqv b = true ↔ a = b)
 | .non,b,_,hb=>by cases b <;> first | (simp [sdD] at hb; done) | simp [D.eqv]
 | .str x,b,_,hb=>by cases b <;> first | (simp [sdD] at hb; done) | simp [D.eqv]
 | .int i,b,_,hb=>by cases b <;> first | (simp [sdD] at hb; done) | simp [D.eqv]
 | .tup ds,b,ha,hb=>by
  cases b with
  | tup es=>
   simp only [sdD] at ha hb
   simp only [D.eqv,JgN ds es ha hb,D.tup.injEq]
  | _=>first | (simp [sdD] at hb; done) | simp [D.eqv]
 | .bl _,_,ha,_=>by simp [sdD] at ha
 | .lst _,_,ha,_=>by simp [sdD] at ha
 | .dct _ _ _ _,_,ha,_=>by simp [sdD] at ha
 | .exc _,_,ha,_=>by simp [sdD] at ha
 | .fn _ _,_,ha,_=>by simp [sdD] at ha
 | .obj _ _ _,_,ha,_=>by simp [sdD] at ha
theorem JgN:∀ (a b:List D),sdDs a = true -> sdDs b = true -> (eqvs a b = true ↔ a = b)
 | [],[],_,_=>by simp [eqvs]
 | [],_ :: _,_,_=>by simp [eqvs]
 | _ :: _,[],_,_=>by simp [eqvs]
 | x :: a,y :: b,ha,hb=>by
  simp only [sdDs,Bool.and_eq_true] at ha hb
  simp only [eqvs,Bool.and_eq_true,Jkp x y ha.1 hb.1,JgN a b ha.2 hb.2,List.cons.injEq]
end
def Inj {α:Type} (g:α -> D):Prop:=∀ a b,(g a).eqv (g b) = true ↔ a = b
theorem Inj.of {α:Type} {g:α -> D} (hs:∀ a,sdD (g a) = true) (hi:∀ a b,g a = g b -> a = b):Inj g:=fun a b=>(Jkp _ _ (hs a) (hs b)).trans ⟨hi a b,fun e=>by rw [e]⟩
section
variable {α:Type} (g:α -> D)
def bump (k:α) (c:Int):List (α × Int) -> List (α × Int)
 | []=>[(k,c)]
 | (a,n) :: r=>if (g a).eqv (g k) then (a,n + c) :: r else (a,n) :: bump k c r
def ksOf (dd:List (α × Int)):List D:=dd.map fun p=>g p.1
def vsOf (dd:List (α × Int)):List D:=dd.map fun p=>.int p.2
def getN (k:α):List (α × Int) -> Int
 | []=>0
 | (a,n) :: r=>if (g a).eqv (g k) then n else getN k r
def wt (f:α -> Int) (dd:List (α × Int)):Int:=(dd.map fun p=>p.2 * f p.1).sum
def Dst (dd:List (α × Int)):Prop:=(dd.map (·.1)).Nodup
variable {g}
theorem JaT (k:α):∀ dd:List (α × Int),(lookD (g k) (ksOf g dd) (vsOf dd)).getD (.int 0) = .int (getN g k dd)
 | []=>rfl
 | (a,n) :: r=>by
  have ih:=JaT k r
  simp only [ksOf,vsOf,List.map_cons,lookD,getN] at ih ⊢
  split
  ·rfl
  ·exact ih
theorem JfZ (hg:Inj g) (f:α -> Int) (k:α) (c:Int):∀ dd:List (α × Int),wt f (bump g k c dd) = wt f dd + c * f k
 | []=>by simp [bump,wt]
 | (a,n) :: r=>by
  have ih:=JfZ hg f k c r
  simp only [bump]
  split
  ·rename_i h
   have:=(hg _ _).mp h
   subst this
   simp only [wt,List.map_cons,List.sum_cons,Int.add_mul]
   omega
  ·simp only [wt,List.map_cons,List.sum_cons] at ih ⊢
   rw [ih]; omega
theorem Jex (k:α) (c:Int):∀ dd:List (α × Int),(bump g k c dd).length <= dd.length + 1
 | []=>by simp [bump]
 | (a,n) :: r=>by
  have ih:=Jex k c r
  simp only [bump]
  split
  ·simp
  ·simp only [List.length_cons]; omega
theorem Jct (k:α) (c:Int):∀ (dd:List (α × Int)) (p:α × Int),p ∈ bump g k c dd -> p.1 = k \/ ∃ q ∈ dd,q.1 = p.1
 | [],p,h=>by simp [bump] at h; exact .inl (by rw [h])
 | (a,n) :: r,p,h=>by
  simp only [bump] at h
  split at h
  ·rcases List.mem_cons.mp h with rfl | h
   ·exact .inr ⟨_,List.mem_cons_self,rfl⟩
   ·exact .inr ⟨p,List.mem_cons_of_mem _ h,rfl⟩
  ·rcases List.mem_cons.mp h with rfl | h
   ·exact .inr ⟨_,List.mem_cons_self,rfl⟩
   ·rcases Jct k c r p h with h | ⟨q,h1,h2⟩
    ·exact .inl h
    ·exact .inr ⟨q,List.mem_cons_of_mem _ h1,h2⟩
theorem Jfg (hg:Inj g) (k:α) (c:Int):∀ dd:List (α × Int),Dst dd -> Dst (bump g k c dd)
 | [],_=>by simp [bump,Dst]
 | (a,n) :: r,h=>by
  have h':a ∉ r.map (·.1) /\ Dst r:=by simpa [Dst] using h
  have ih:=Jfg hg k c r h'.2
  simp only [bump]
  split
  ·exact h
  ·rename_i hn
   simp only [Dst,List.map_cons,List.nodup_cons]
   refine ⟨fun hm=>?_,ih⟩
   obtain ⟨p,hp,e⟩:=List.mem_map.mp hm
   rcases Jct k c r p hp with h | ⟨q,h1,h2⟩
   ·exact hn ((hg _ _).mpr (e.symm.trans h))
   ·exact h'.1 (List.mem_map.mpr ⟨q,h1,h2.trans e⟩)
theorem Jhh (hg:Inj g) [DecidableEq α] (k:α):∀ dd:List (α × Int),Dst dd -> getN g k dd = wt (fun a=>if a = k then 1 else 0) dd
 | [],_=>rfl
 | (a,n) :: r,h=>by
  have h':a ∉ r.map (·.1) /\ Dst r:=by simpa [Dst] using h
  have ih:=Jhh hg k r h'.2
  simp only [getN,wt,List.map_cons,List.sum_cons] at ih ⊢
  split
  ·rename_i e
   have:=(hg _ _).mp e
   subst this
   have z:(r.map fun p=>p.2 * (if p.1 = a then (1:Int) else 0)).sum = 0:=by
    have:∀ l:List (α × Int),a ∉ l.map (·.1) -> (l.map fun p=>p.2 * (if p.1 = a then (1:Int) else 0)).sum = 0:=fun l=>by
     induction l with
     | nil=>intro; rfl
     | cons x l ih=>
      intro hm
      simp only [List.map_cons,List.mem_cons,not_or] at hm
      simp [List.map_cons,List.sum_cons,Ne.symm hm.1,ih hm.2]
    exact this r h'.1
   simp [z]
  ·rename_i e
   have:a ≠ k:=fun z=>e ((hg _ _).mpr z)
   simp [this,ih]
theorem JiN (hg:Inj g) (k:α) (c:Int) (dd:List (α × Int)) (h:Dst dd):putD (g k) (.int (getN g k dd + c)) (ksOf g dd) (vsOf dd) = (ksOf g (bump g k c dd),vsOf (bump g k c dd)):=by
 have A:∀ dd:List (α × Int),((ksOf g dd).any fun d=>d.eqv (g k)) = false -> bump g k c dd = dd ++ [(k,c)] /\ getN g k dd = 0 /\ ∀ v,setD (g k) v (ksOf g dd) (vsOf dd) = vsOf dd:=fun dd=>by
  induction dd with
  | nil=>intro; exact ⟨rfl,rfl,fun v=>rfl⟩
  | cons p r ih=>
   obtain ⟨a,n⟩:=p
   intro h
   simp only [ksOf,List.map_cons,List.any_cons,Bool.or_eq_false_iff] at h
   obtain ⟨i1,i2,i3⟩:=ih h.2
   simp only [ksOf,vsOf] at i3
   exact ⟨by simp [bump,h.1,i1],by simp [getN,h.1,i2],fun v=>by simp only [ksOf,vsOf,List.map_cons,setD,h.1,i3,Bool.false_eq_true,if_false]⟩
 have B:∀ dd:List (α × Int),Dst dd -> ((ksOf g dd).any fun d=>d.eqv (g k)) = true -> ksOf g (bump g k c dd) = ksOf g dd /\ setD (g k) (.int (getN g k dd + c)) (ksOf g dd) (vsOf dd) = vsOf (bump g k c dd):=fun dd=>by
  induction dd with
  | nil=>intro _ h; simp [ksOf] at h
  | cons p r ih=>
   obtain ⟨a,n⟩:=p
   intro hd h
   have h':a ∉ r.map (·.1) /\ Dst r:=by simpa [Dst] using hd
   by_cases e:(g a).eqv (g k) = true
   ·have:=(hg _ _).mp e
    subst this
    have hr:((ksOf g r).any fun d=>d.eqv (g a)) = false:=by
     rw [List.any_eq_false]
     intro x hx hz
     obtain ⟨q,hq,rfl⟩:=List.mem_map.mp hx
     exact h'.1 (List.mem_map.mpr ⟨q,hq,(hg _ _).mp hz⟩)
    have i3:=(A r hr).2.2
    simp only [ksOf,vsOf] at i3
    simp only [bump,getN,e,if_true,ksOf,vsOf,List.map_cons,setD,i3,and_self]
   ·have e':(g a).eqv (g k) = false:=by simpa using e
    simp only [ksOf,List.map_cons,List.any_cons,e',Bool.false_or] at h
    obtain ⟨i1,i2⟩:=ih h'.2 h
    simp only [ksOf,vsOf] at i1 i2
    simp only [bump,getN,e',Bool.false_eq_true,if_false,ksOf,vsOf,List.map_cons,setD,i1,i2,and_self]
 unfold putD
 cases q:(ksOf g dd).any fun d=>d.eqv (g k) with
 | true=>
  obtain ⟨b1,b2⟩:=B dd h q
  rw [if_pos rfl,b1,b2]
 | false=>
  obtain ⟨a1,a2,_⟩:=A dd q
  rw [if_neg Bool.false_ne_true,a1,a2]
  simp [ksOf,vsOf]
def bumps {β:Type} (g:α -> D) (key:β -> α) (c:β -> Int) (xs:List β) (dd:List (α × Int)):List (α × Int):=xs.foldl (fun dd x=>bump g (key x) (c x) dd) dd
theorem JaR (hg:Inj g) {β:Type} (key:β -> α) (c:β -> Int) (f:α -> Int):∀ (xs:List β) (dd:List (α × Int)),wt f (bumps g key c xs dd) = wt f dd + (xs.map fun x=>c x * f (key x)).sum
 | [],dd=>by simp [bumps]
 | x :: xs,dd=>by
  have ih:=JaR hg key c f xs (bump g (key x) (c x) dd)
  simp only [bumps,List.foldl_cons,List.map_cons,List.sum_cons] at ih ⊢
  rw [ih,JfZ hg]; omega
theorem Ju (hg:Inj g) {β:Type} (key:β -> α) (c:β -> Int):∀ (xs:List β) (dd:List (α × Int)),Dst dd -> Dst (bumps g key c xs dd)
 | [],dd,h=>h
 | x :: xs,dd,h=>Ju hg key c xs _ (Jfg hg _ _ _ h)
theorem JQ {β:Type} (key:β -> α) (c:β -> Int):∀ (xs:List β) (dd:List (α × Int)),(bumps g key c xs dd).length <= dd.length + xs.length
 | [],dd=>by simp [bumps]
 | x :: xs,dd=>by
  have ih:=JQ key c xs (bump g (key x) (c x) dd)
  have:=Jex (g:=g) (key x) (c x) dd
  simp only [bumps,List.foldl_cons,List.length_cons] at ih ⊢
  omega
theorem JcH {β:Type} (key:β -> α) (c:β -> Int) (P:α -> Prop):∀ (xs:List β) (dd:List (α × Int)),(∀ p ∈ dd,P p.1) -> (∀ x ∈ xs,P (key x)) -> ∀ p ∈ bumps g key c xs dd,P p.1
 | [],dd,h,_=>h
 | x :: xs,dd,h,hx=>JcH key c P xs _ (fun p hp=>by
   rcases Jct _ _ dd p hp with e | ⟨q,h1,h2⟩
   ·rw [e]; exact hx x List.mem_cons_self
   ·rw [<- h2]; exact h q h1) fun y hy=>hx y (List.mem_cons_of_mem _ hy)
end
theorem JdU (call:CallD) (env:Fm) {α:Type} {g:α -> D} (hg:Inj g) {t:Bool} {i:Nat} {kp vp:Px} {k:α} {c:Int} {dd:List (α × Int)} (hi:env[i]? = some (some (.dct t false (ksOf g dd) (vsOf dd)))) (hk:evD call kp env = .ok (g k)) (hv:evD call vp env = .ok (.int c)) (hd:Dst dd) (hl:dd.length < 1000) (hK:keyD t (g k) = true) :
  exD call (.put true t i kp (.bi .add (.bi (.dGz t) (.var i) kp) vp)) env = .ok (.nx,env.set i (some (.dct t false (ksOf g (bump g k c dd)) (vsOf (bump g k c dd))))):=by
 have e1:evD call (.bi (.dGz t) (.var i) kp) env = .ok (.int (getN g k dd)):=by
  refine Jg _ _ (x:=.dct t false (ksOf g dd) (vsOf dd)) (y:=g k) (by rw [JgV,hi]) hk ?_
  simp only [op2,hK,and_self,if_true,JaT]
 have e2:evD call (.bi .add (.bi (.dGz t) (.var i) kp) vp) env = .ok (.int (getN g k dd + c)):=Jg _ _ e1 hv rfl
 rw [x_put,hi]
 have hl':(ksOf g dd).length < 1000:=by simpa [ksOf] using hl
 simp only [e2,hk,Rs.bind_ok,hK,D.imm,beq_self_eq_true,hl',decide_true,Bool.not_true,Bool.and_false,Bool.or_false,Bool.or_self,Bool.false_eq_true,if_false,JiN hg k c dd hd]
def ev (ws:List Str):Nat -> List (List Str)
 | 0=>[[]]
 | n + 1=>(ev ws n).flatMap fun a=>ws.map fun w=>a ++ [w]
theorem JbI {ws:List Str}:∀ {n:Nat} {a:List Str},a ∈ ev ws n -> a.length = n /\ ∀ w ∈ a,w ∈ ws
 | 0,a,h=>by simp [ev] at h; subst h; simp
 | n + 1,a,h=>by
  simp only [ev,List.mem_flatMap,List.mem_map] at h
  obtain ⟨b,hb,w,hw,rfl⟩:=h
  obtain ⟨i1,i2⟩:=JbI hb
  refine ⟨by simp [i1],fun v hv=>?_⟩
  rcases List.mem_append.mp hv with hv | hv
  ·exact i2 v hv
  ·simp at hv; subst hv; exact hw
theorem Jhc (ws:List Str):∀ n,(ev ws n).length = ws.length ^ n
 | 0=>rfl
 | n + 1=>by
  have h:∀ l:List (List Str),(l.flatMap fun a=>ws.map fun w=>a ++ [w]).length = l.length * ws.length:=fun l=>by
   induction l with
   | nil=>simp
   | cons a l ih=>simp [ih,Nat.succ_mul,Nat.add_comm]
  rw [ev,h,Jhc ws n,Nat.pow_succ]
theorem JeY {ws:List Str} {n:Nat} (hw:ws.length <= 4) (hn:n <= 4):(ev ws n).length <= 256:=by
 rw [Jhc]
 exact Nat.le_trans (Nat.pow_le_pow_left hw n) (Nat.le_trans (Nat.pow_le_pow_right (by omega) hn) (by decide))
def allAt (f:Nat -> Str -> Bool):Nat -> List Str -> Bool
 | _,[]=>true
 | k,w :: a=>f k w && allAt f (k + 1) a
theorem JbE (f:Nat -> Str -> Bool) (w:Str):∀ (a:List Str) (k:Nat),allAt f k (a ++ [w]) = (allAt f k a && f (k + a.length) w)
 | [],k=>by simp [allAt]
 | v :: a,k=>by
  simp only [List.cons_append,allAt,JbE f w a (k + 1),List.length_cons,Bool.and_assoc]
  rw [show k + 1 + a.length = k + (a.length + 1) by omega]
def prodN (ws:List Str) (f:Nat -> Str -> Bool):Nat -> Nat
 | 0=>1
 | n + 1=>prodN ws f n * (ws.filter (f n)).length
theorem Jay (ws:List Str) (f:Nat -> Str -> Bool):∀ n,((ev ws n).filter (allAt f 0)).length = prodN ws f n
 | 0=>rfl
 | n + 1=>by
  have h:∀ l:List (List Str),(∀ a ∈ l,a.length = n) -> ((l.flatMap fun a=>ws.map fun w=>a ++ [w]).filter (allAt f 0)).length = (l.filter (allAt f 0)).length * (ws.filter (f n)).length:=fun l=>by
   induction l with
   | nil=>intro _; simp
   | cons a l ih=>
    intro hl
    have ha:=hl a List.mem_cons_self
    have i:=ih fun b hb=>hl b (List.mem_cons_of_mem _ hb)
    rw [List.flatMap_cons,List.filter_append,List.length_append,i,List.filter_map]
    have e:(allAt f 0 ∘ fun w=>a ++ [w]) = fun w=>allAt f 0 a && f n w:=funext fun w=>by
     simp only [Function.comp_def,JbE,ha,Nat.zero_add]
    rw [e,List.filter_cons]
    cases allAt f 0 a with
    | true=>simp only [Bool.true_and,List.length_map,if_true,List.length_cons,Nat.succ_mul]; exact Nat.add_comm _ _
    | false=>simp
  rw [ev,h _ fun a ha=>(JbI ha).1,Jay ws f n,prodN]
theorem Jet {α:Type} (call:CallD) (body:Sx) (ts:List Nat) (nt:Nat) (f:α -> D) (xs:List α) (F:List α -> Fm -> Prop)
  (h:∀ pre x post env,xs = pre ++ x :: post -> F pre env -> ∃ new,bindT nt (f x) = .ok new /\ ∃ env',exD call body (setAll ts new env) = .ok (.nx,env') /\ F (pre ++ [x]) env') (env:Fm) (h0:F [] env):∃ env',forL ts nt (exD call body) (xs.map f) env = .ok (.nx,env') /\ F xs env':=by
 have go:∀ (post pre:List α) (env:Fm),xs = pre ++ post -> F pre env -> ∃ env',forL ts nt (exD call body) (post.map f) env = .ok (.nx,env') /\ F xs env':=fun post=>by
  induction post with
  | nil=>intro pre env e hf; rw [List.append_nil] at e; subst e; exact ⟨env,rfl,hf⟩
  | cons x post ih=>
   intro pre env e hf
   obtain ⟨new,h1,env1,h2,h3⟩:=h pre x post env e hf
   obtain ⟨env2,h4,h5⟩:=ih (pre ++ [x]) env1 (by simp [e]) h3
   exact ⟨env2,by simp only [List.map_cons,forL,h1,Rs.bind_ok,h2,h4],h5⟩
 exact go xs [] env rfl h0
theorem JaZ {n k:Nat} {pre post:List Nat} (e:List.range n = pre ++ k :: post):k = pre.length /\ k < n:=by
 have h1:(List.range n)[pre.length]? = some k:=by rw [e]; simp
 rw [List.getElem?_eq_some_iff] at h1
 obtain ⟨h2,h3⟩:=h1
 rw [List.getElem_range] at h3
 rw [List.length_range] at h2
 exact ⟨h3.symm,by omega⟩
theorem JS (call:CallD) (body:Sx) (i:Nat) (e:Px) (n:Nat) (F:Nat -> Fm -> Prop) (env:Fm) (he:evD call e env = .ok (.int n)) (hn:n <= 1000)
  (h:∀ k env,k < n -> F k env -> ∃ env',exD call body (env.set i (some (.int k))) = .ok (.nx,env') /\ F (k + 1) env') (h0:F 0 env):∃ env',exD call (.loop false [i] 0 (.un .range e) body) env = .ok (.nx,env') /\ F n env':=by
 obtain ⟨env',h1,h2⟩:=Jet call body [i] 0 (fun k:Nat=>D.int k) (List.range n) (fun pre env=>F pre.length env) (fun pre k post env e hf=>by
  obtain ⟨rfl,hk⟩:=JaZ e
  obtain ⟨env',h1,h2⟩:=h _ env hk hf
  exact ⟨_,rfl,env',h1,by rw [List.length_append]; exact h2⟩) env h0
 refine ⟨env',?_,by simpa using h2⟩
 rw [Jfm,e_un,he,Rs.bind_ok,Jff n hn]
 simp only [Rs.bind_ok,JG,Bool.false_and,Bool.false_eq_true,if_false]
 rw [List.range_eq_range'] at h1
 exact h1
theorem JA {α:Type} (call:CallD) (body:Sx) (ts:List Nat) (nt:Nat) (src:Px) (f:α -> D) (xs:List α) (F:List α -> Fm -> Prop) (env:Fm) (hs:evD call src env = .ok (.lst (xs.map f)))
  (h:∀ pre x post env,xs = pre ++ x :: post -> F pre env -> ∃ new,bindT nt (f x) = .ok new /\ ∃ env',exD call body (setAll ts new env) = .ok (.nx,env') /\ F (pre ++ [x]) env') (h0:F [] env):∃ env',exD call (.loop false ts nt src body) env = .ok (.nx,env') /\ F xs env':=by
 obtain ⟨env',h1,h2⟩:=Jet call body ts nt f xs F h env h0
 refine ⟨env',?_,h2⟩
 rw [Jfm,hs]
 simp only [Rs.bind_ok,JG,Bool.false_and,Bool.false_eq_true,if_false]
 exact h1
theorem Jki {α:Type} (call:CallD) (env:Fm) {src e:Px} {rs:List α} (f:α -> D) (p:α -> Bool) (hs:evD call src env = .ok (.lst (rs.map f))) (hl:rs.length <= 1000) (h:∀ r ∈ rs,evD call e (some (f r) :: env) = .ok (.bl (p r))):evD call (.un .all (.comp 0 src (.con (.bl true)) e)) env = .ok (.bl (rs.all p)):=by
 refine Jx _ _ (Jai _ _ f (fun r=>.bl (p r)) hs hl h) ?_
 simp only [op1,Jcy]
 rw [List.all_map]; rfl
theorem Jbc {α:Type} (g:α -> D):∀ cc:List (α × Int),zipD (ksOf g cc) (vsOf cc) = cc.map fun p=>.tup [g p.1,.int p.2]
 | []=>rfl
 | p :: cc=>by
  have:=Jbc g cc
  simp only [ksOf,vsOf] at this
  simp [ksOf,vsOf,zipD,this]
theorem Jnb (n:Nat) (h:n <= 1000):smallI (n:Int) = true:=by
 simp only [smallI,Bool.and_eq_true,decide_eq_true_eq]
 have:((2:Int) ^ 64) = 18446744073709551616:=by decide
 omega
end Pu
namespace K66
open PySem.Str (ofString)
open PySem Pu
def b_has_rest:Sx:=(.ret (.and (.bi .gt (.un .len (.var 0)) (.con (.int 0))) (.bi .eq (.bi .idx (.bi .idx (.var 0) (.un .neg (.con (.int 1)))) (.con (.int 0))) (.con (.str (ofString "rest"))))))
def b_writes_number:Sx:=(.seq (.ite (.or (.bi .eq (.var 0) (.con (.str (ofString "")))) (.un .not (.un .truth (.un .all (.comp 0 (.walk (.var 0)) (.con (.bl true)) (.bi .isin (.var 0) (.con (.str (ofString "0123456789"))))))))) (.ret (.con (.bl false))) .skip)
  (.ret (.or (.bi .eq (.var 0) (.con (.str (ofString "0")))) (.un .not (.bi .starts (.var 0) (.con (.str (ofString "0"))))))))
def b_lets_by:Sx:=(.seq (.ite (.bi .eq (.bi .idx (.var 0) (.con (.int 0))) (.con (.str (ofString "word")))) (.ret (.bi .eq (.var 1) (.bi .idx (.var 0) (.con (.int 1))))) .skip)
  (.seq (.ite (.bi .eq (.bi .idx (.var 0) (.con (.int 0))) (.con (.str (ofString "one")))) (.ret (.bi .isin (.var 1) (.bi .idx (.var 0) (.con (.int 2))))) .skip)
  (.seq (.ite (.bi .eq (.bi .idx (.var 0) (.con (.int 0))) (.con (.str (ofString "number")))) (.ret (.call 1 (.cons (.var 1) .nil))) .skip)
  (.ret (.con (.bl true))))))
def b_has_fitting_length:Sx:=(.seq (.ite (.un .truth (.call 0 (.cons (.var 0) .nil))) (.ret (.bi .ge (.var 1) (.bi .sub (.un .len (.var 0)) (.con (.int 1))))) .skip)
  (.ret (.bi .eq (.var 1) (.un .len (.var 0)))))
def b_does_match:Sx:=(.seq (.ite (.un .not (.un .truth (.call 3 (.cons (.var 0) (.cons (.un .len (.var 1)) .nil))))) (.ret (.con (.bl false))) .skip)
  (.ret (.un .all (.comp 2 (.bi .zip (.var 0) (.var 1)) (.con (.bl true)) (.call 2 (.cons (.var 0) (.cons (.var 1) .nil)))))))
def b_all_rows:Sx:=(.ret (.comp 0 (.walk (.var 0)) (.un .truth (.call 4 (.cons (.bi .idx (.var 0) (.con (.int 1))) (.cons (.var 2) .nil)))) (.bi .idx (.var 0) (.con (.int 0)))))
def b_first:Sx:=(.seq (.set false 2 (.call 5 (.cons (.var 0) (.cons (.var 1) .nil))))
  (.ret (.ite (.bi .gt (.un .len (.var 2)) (.con (.int 0))) (.bi .idx (.var 2) (.con (.int 0))) (.con .non))))
def b_can_begin:Sx:=(.ret (.and (.bi .gt (.un .len (.var 0)) (.con (.int 0))) (.call 2 (.cons (.bi .idx (.var 0) (.con (.int 0))) (.cons (.var 1) .nil)))))
def b_without_first_word:Sx:=(.ret (.ite (.bi .eq (.bi .idx (.bi .idx (.var 0) (.con (.int 0))) (.con (.int 0))) (.con (.str (ofString "rest")))) (.var 0) (.sl (.var 0) (.un .asI (.con (.int 1))) (.con .non))))
def b_below:Sx:=(.ret (.un .tuple (.comp 0 (.walk (.var 0)) (.un .truth (.call 7 (.cons (.bi .idx (.var 0) (.con (.int 1))) (.cons (.var 2) .nil)))) (.tup (.cons (.bi .idx (.var 0) (.con (.int 0))) (.cons (.call 8 (.cons (.bi .idx (.var 0) (.con (.int 1))) .nil)) .nil))))))
def b_part_at:Sx:=(.seq (.ite (.bi .lt (.var 1) (.un .len (.var 0))) (.ret (.bi .idx (.var 0) (.var 1))) .skip)
  (.ret (.ite (.un .truth (.call 0 (.cons (.var 0) .nil))) (.bi .idx (.var 0) (.un .neg (.con (.int 1)))) (.con .non))))
def b_tally_of_all:Sx:=(.seq (.ite (.un .not (.un .truth (.un .all (.comp 0 (.walk (.var 0)) (.con (.bl true)) (.call 3 (.cons (.var 0) (.cons (.var 3) .nil))))))) (.ret (.con (.int 0))) .skip)
  (.seq (.set false 3 (.con (.int 1)))
  (.seq (.loop false [4] 0 (.un .range (.var 2)) (.seq (.set false 5 (.comp 0 (.walk (.var 0)) (.con (.bl true)) (.call 10 (.cons (.var 0) (.cons (.var 5) .nil)))))
  (.set true 3 (.bi .mulI (.var 3) (.un .len (.comp 0 (.walk (.var 1)) (.un .truth (.un .all (.comp 0 (.walk (.var 6)) (.con (.bl true)) (.call 2 (.cons (.var 0) (.cons (.var 1) .nil)))))) (.var 0)))))))
  (.ret (.var 3)))))
def b_tally:Sx:=(.ret (.call 11 (.cons (.dis (.cons (.var 0) .nil)) (.cons (.var 1) (.cons (.var 2) .nil)))))
def b_tallies_below:Sx:=(.seq (.set false 3 (.ite (.bi .ge (.var 2) (.con (.int 0))) (.dsp true (.cons (.var 0) .nil) (.cons (.con (.int 1)) .nil)) (.dsp true .nil .nil)))
  (.seq (.loop false [4] 0 (.un .range (.var 2)) (.seq (.ownD true 5)
  (.seq (.loop false [6,7] 2 (.un .items (.var 3)) (.loop false [8] 0 (.walk (.var 1)) (.seq (.set false 9 (.call 9 (.cons (.var 6) (.cons (.var 8) .nil))))
  (.put true true 5 (.var 9) (.bi .add (.bi (.dGz true) (.var 5) (.var 9)) (.var 7))))))
  (.movF 3 5))))
  (.ret (.var 3))))
def b_tallies:Sx:=(.seq (.ownD false 3)
  (.seq (.loop false [4,5] 2 (.un .items (.call 13 (.cons (.var 0) (.cons (.var 1) (.cons (.var 2) .nil))))) (.seq (.set false 6 (.call 6 (.cons (.var 4) (.cons (.tup .nil) .nil))))
  (.put true false 3 (.var 6) (.bi .add (.bi (.dGz false) (.var 3) (.var 6)) (.var 5)))))
  (.ret (.comp 0 (.walk (.bi .add (.comp 0 (.walk (.var 0)) (.con (.bl true)) (.bi .idx (.var 0) (.con (.int 0)))) (.dis (.cons (.con .non) .nil)))) (.con (.bl true)) (.tup (.cons (.var 0) (.cons (.bi (.dGz false) (.var 4) (.var 0)) .nil)))))))
def b_crossings:Sx:=(.seq (.own 3 (.dis .nil))
  (.seq (.loop false [4,5] 2 (.un .enum (.var 0)) (.loop false [6] 0 (.walk (.sl (.var 0) (.un .asI (.bi .add (.var 4) (.con (.int 1)))) (.con .non))) (.seq (.set false 7 (.call 11 (.cons (.dis (.cons (.bi .idx (.var 5) (.con (.int 1))) (.cons (.bi .idx (.var 6) (.con (.int 1))) .nil))) (.cons (.var 1) (.cons (.var 2) .nil)))))
  (.ite (.bi .gt (.var 7) (.con (.int 0))) (.app false 3 (.tup (.cons (.bi .idx (.var 5) (.con (.int 0))) (.cons (.bi .idx (.var 6) (.con (.int 0))) (.cons (.var 7) .nil))))) .skip))))
  (.ret (.var 3))))
def b_law_cell:Sx:=(.seq (.ite (.bi .lt (.var 1) (.un .len (.var 0))) (.ret (.bi .idx (.var 0) (.var 1))) .skip)
  (.seq (.ite (.bi .eq (.var 0) (.dis .nil)) (.ret (.con (.int 0))) .skip)
  (.ret (.bi .add (.bi .mul (.bi .idx (.var 0) (.bi .mod (.var 1) (.un .len (.var 0)))) (.con (.int 31))) (.var 1)))))
def b_law_pick:Sx:=(.seq (.set false 3 (.bi .mod (.bi .mul (.bi .add (.call 16 (.cons (.var 0) (.cons (.var 1) .nil))) (.bi .mul (.con (.int 6151)) (.bi .add (.var 1) (.con (.int 1))))) (.con (.int 40692))) (.con (.int 2147483399))))
  (.ret (.bi .mod (.bi .mod (.bi .add (.bi .mul (.var 3) (.var 3)) (.bi .fdiv (.var 3) (.con (.int 31)))) (.con (.int 2147483629))) (.var 2))))
def b_law_part:Sx:=(.seq (.set false 3 (.dis (.cons (.con (.str (ofString "a"))) (.cons (.con (.str (ofString "b"))) (.cons (.con (.str (ofString "7"))) (.cons (.con (.str (ofString "0"))) .nil))))))
  (.seq (.set false 4 (.call 17 (.cons (.var 0) (.cons (.var 1) (.cons (.con (.int 8)) .nil)))))
  (.seq (.ite (.bi .lt (.var 4) (.con (.int 4))) (.ret (.tup (.cons (.con (.str (ofString "word"))) (.cons (.bi .idx (.var 3) (.call 17 (.cons (.var 0) (.cons (.bi .add (.var 1) (.con (.int 1))) (.cons (.con (.int 4)) .nil))))) .nil)))) .skip)
  (.seq (.ite (.bi .eq (.var 4) (.con (.int 4))) (.seq (.set false 5 (.comp 0 (.un .range (.bi .add (.con (.int 1)) (.call 17 (.cons (.var 0) (.cons (.bi .add (.var 1) (.con (.int 1))) (.cons (.con (.int 3)) .nil)))))) (.con (.bl true)) (.bi .idx (.var 4) (.call 17 (.cons (.var 1) (.cons (.bi .add (.bi .add (.var 2) (.con (.int 2))) (.var 0)) (.cons (.con (.int 4)) .nil)))))))
  (.ret (.tup (.cons (.con (.str (ofString "one"))) (.cons (.var 2) (.cons (.un .tuple (.un .sset (.var 5))) .nil)))))) .skip)
  (.ret (.tup (.cons (.bi .idx (.dis (.cons (.con (.str (ofString "any"))) (.cons (.con (.str (ofString "number"))) (.cons (.con (.str (ofString "any"))) .nil)))) (.bi .sub (.var 4) (.con (.int 5)))) (.cons (.var 2) .nil))))))))
def b_law_pattern:Sx:=(.seq (.set false 3 (.dis (.cons (.con (.str (ofString "y"))) (.cons (.con (.str (ofString "id"))) (.cons (.con (.str (ofString "z"))) (.cons (.con (.str (ofString "x"))) .nil))))))
  (.seq (.own 4 (.comp 0 (.un .range (.call 17 (.cons (.var 0) (.cons (.var 1) (.cons (.bi .add (.var 2) (.con (.int 1))) .nil))))) (.con (.bl true)) (.call 18 (.cons (.var 1) (.cons (.bi .add (.bi .add (.var 2) (.con (.int 2))) (.bi .mul (.con (.int 5)) (.var 0))) (.cons (.bi .idx (.var 4) (.var 0)) .nil))))))
  (.seq (.ite (.bi .eq (.call 17 (.cons (.var 0) (.cons (.bi .add (.var 1) (.con (.int 1))) (.cons (.con (.int 4)) .nil)))) (.con (.int 0))) (.app false 4 (.tup (.cons (.con (.str (ofString "rest"))) (.cons (.con (.str (ofString "r"))) .nil)))) .skip)
  (.ret (.un .tuple (.var 4))))))
def b_law_table:Sx:=(.seq (.set false 4 (.dis (.cons (.con (.str (ofString "t"))) (.cons (.con (.str (ofString "p"))) (.cons (.con (.str (ofString "v"))) (.cons (.con (.str (ofString "q"))) (.cons (.con (.str (ofString "u"))) (.cons (.con (.str (ofString "s"))) .nil))))))))
  (.seq (.set false 5 (.call 17 (.cons (.var 0) (.cons (.var 1) (.cons (.bi .add (.var 3) (.con (.int 1))) .nil)))))
  (.ret (.un .tuple (.comp 0 (.un .range (.var 5)) (.con (.bl true)) (.tup (.cons (.bi .idx (.var 5) (.var 0)) (.cons (.call 19 (.cons (.var 1) (.cons (.bi .add (.bi .add (.var 2) (.con (.int 1))) (.bi .mul (.con (.int 30)) (.var 0))) (.cons (.var 3) .nil)))) .nil))))))))
def b_law_is_number:Sx:=(.ret (.and (.bi .eq (.comp 0 (.walk (.var 0)) (.bi .notin (.var 0) (.con (.str (ofString "0123456789")))) (.var 0)) (.dis .nil)) (.or (.bi .eq (.var 0) (.con (.str (ofString "0")))) (.bi .ne (.bi .idx (.var 0) (.con (.int 0))) (.con (.str (ofString "0")))))))
def b_law_matched:Sx:=(.seq (.ite (.bi .eq (.var 0) (.tup .nil)) (.ret (.ite (.bi .eq (.var 1) (.tup .nil)) (.dis .nil) (.con .non))) .skip)
  (.seq (.set false 2 (.bi .idx (.var 0) (.con (.int 0))))
  (.seq (.ite (.bi .eq (.bi .idx (.var 2) (.con (.int 0))) (.con (.str (ofString "rest")))) (.ret (.dis (.cons (.tup (.cons (.bi .idx (.var 2) (.con (.int 1))) (.cons (.var 1) .nil))) .nil))) .skip)
  (.seq (.ite (.bi .eq (.var 1) (.tup .nil)) (.ret (.con .non)) .skip)
  (.seq (.set false 3 (.bi .idx (.var 1) (.con (.int 0))))
  (.seq (.ite (.or (.and (.bi .eq (.bi .idx (.var 2) (.con (.int 0))) (.con (.str (ofString "word")))) (.bi .ne (.bi .idx (.var 2) (.con (.int 1))) (.var 3))) (.and (.bi .eq (.bi .idx (.var 2) (.con (.int 0))) (.con (.str (ofString "one")))) (.bi .notin (.var 3) (.bi .idx (.var 2) (.con (.int 2)))))) (.ret (.con .non)) .skip)
  (.seq (.ite (.and (.bi .eq (.bi .idx (.var 2) (.con (.int 0))) (.con (.str (ofString "number")))) (.un .not (.un .truth (.call 21 (.cons (.var 3) .nil))))) (.ret (.con .non)) .skip)
  (.seq (.set false 4 (.call 22 (.cons (.sl (.var 0) (.un .asI (.con (.int 1))) (.con .non)) (.cons (.sl (.var 1) (.un .asI (.con (.int 1))) (.con .non)) .nil))))
  (.seq (.ite (.or (.un .isN (.var 4)) (.bi .eq (.bi .idx (.var 2) (.con (.int 0))) (.con (.str (ofString "word"))))) (.ret (.var 4)) .skip)
  (.ret (.bi .add (.dis (.cons (.tup (.cons (.bi .idx (.var 2) (.con (.int 1))) (.cons (.ite (.bi .eq (.bi .idx (.var 2) (.con (.int 0))) (.con (.str (ofString "number")))) (.un .ints (.var 3)) (.var 3)) .nil))) .nil)) (.var 4))))))))))))
def b_law_every:Sx:=(.seq (.set false 2 (.dis (.cons (.tup .nil) .nil)))
  (.seq (.loop false [3] 0 (.un .range (.var 1)) (.seq (.own 4 (.dis .nil))
  (.seq (.loop false [5] 0 (.walk (.var 2)) (.ext false 4 (.walk (.un .rows (.comp 0 (.walk (.var 0)) (.con (.bl true)) (.bi .add (.var 6) (.tup (.cons (.var 0) .nil))))))))
  (.mov 2 4))))
  (.ret (.var 2))))
def b_law:Sx:=(.seq (.set false 1 (.call 20 (.cons (.var 0) (.cons (.con (.int 100)) (.cons (.con (.int 3)) (.cons (.con (.int 4)) .nil))))))
  (.seq (.set false 2 (.un .tuple (.sl (.sl (.un .sortX (.dis (.cons (.con (.str (ofString "a"))) (.cons (.con (.str (ofString "b"))) (.cons (.con (.str (ofString "7"))) (.cons (.con (.str (ofString "0"))) (.cons (.con (.str (ofString "new"))) (.cons (.con (.str (ofString "01"))) .nil)))))))) (.un .asI (.call 17 (.cons (.var 0) (.cons (.con (.int 1)) (.cons (.con (.int 3)) .nil))))) (.con .non)) (.con .non) (.un .asI (.bi .add (.con (.int 1)) (.call 17 (.cons (.var 0) (.cons (.con (.int 2)) (.cons (.con (.int 4)) .nil)))))))))
  (.seq (.set false 3 (.call 17 (.cons (.var 0) (.cons (.con (.int 3)) (.cons (.con (.int 4)) .nil)))))
  (.seq (.seq (.set false 4 (.call 23 (.cons (.var 2) (.cons (.var 3) .nil)))) (.seq (.ownD false 5) (.own 6 (.dis .nil))))
  (.seq (.set false 7 (.comp 2 (.walk (.un .rows (.var 1))) (.con (.bl true)) (.comp 0 (.walk (.var 6)) (.un .notN (.call 22 (.cons (.var 2) (.cons (.var 0) .nil)))) (.var 0))))
  (.seq (.loop false [8] 0 (.walk (.var 4)) (.seq (.set false 9 (.comp 0 (.un .range (.un .len (.var 1))) (.bi .isin (.var 9) (.bi .idx (.var 8) (.var 0))) (.var 0)))
  (.seq (.set false 10 (.ite (.bi .ne (.var 9) (.dis .nil)) (.bi .idx (.bi .idx (.var 1) (.bi .idx (.var 9) (.con (.int 0)))) (.con (.int 0))) (.con .non)))
  (.put true false 5 (.var 10) (.bi .add (.bi (.dGz false) (.var 5) (.var 10)) (.con (.int 1)))))))
  (.seq (.loop false [11] 0 (.un .range (.un .len (.var 1))) (.seq (.ite (.bi .ne (.call 12 (.cons (.bi .idx (.bi .idx (.var 1) (.var 11)) (.con (.int 1))) (.cons (.var 2) (.cons (.var 3) .nil)))) (.un .len (.bi .idx (.var 7) (.var 11)))) (.ret (.con (.bl false))) .skip)
  (.loop false [12] 0 (.bi .range2 (.bi .add (.var 11) (.con (.int 1))) (.un .len (.var 1))) (.seq (.set false 13 (.comp 0 (.walk (.bi .idx (.var 7) (.var 11))) (.bi .isin (.var 0) (.bi .idx (.var 8) (.var 13))) (.var 0)))
  (.ext false 6 (.walk (.un .rows (.bi .rep (.dis (.cons (.tup (.cons (.bi .idx (.bi .idx (.var 1) (.var 11)) (.con (.int 0))) (.cons (.bi .idx (.bi .idx (.var 1) (.var 12)) (.con (.int 0))) (.cons (.un .len (.var 13)) .nil)))) .nil)) (.un .intB (.bi .ne (.var 13) (.dis .nil)))))))))))
  (.seq (.set false 14 (.call 14 (.cons (.var 1) (.cons (.var 2) (.cons (.var 3) .nil)))))
  (.seq (.ite (.bi .ne (.var 14) (.comp 0 (.walk (.bi .add (.comp 0 (.walk (.var 1)) (.con (.bl true)) (.bi .idx (.var 0) (.con (.int 0)))) (.dis (.cons (.con .non) .nil)))) (.con (.bl true)) (.tup (.cons (.var 0) (.cons (.bi (.dGz false) (.var 6) (.var 0)) .nil))))) (.ret (.con (.bl false))) .skip)
  (.seq (.ite (.bi .ne (.un .sumI (.comp 2 (.walk (.un .rows (.var 14))) (.con (.bl true)) (.var 1))) (.un .len (.var 4))) (.ret (.con (.bl false))) .skip)
  (.ret (.and (.bi .eq (.call 15 (.cons (.var 1) (.cons (.var 2) (.cons (.var 3) .nil)))) (.var 6)) (.bi .eq (.call 14 (.cons (.tup .nil) (.cons (.var 2) (.cons (.var 3) .nil)))) (.dis (.cons (.tup (.cons (.con .non) (.cons (.un .len (.var 4)) .nil))) .nil)))))))))))))))
def defs:List DefD:=[⟨1,1,b_has_rest⟩,⟨1,1,b_writes_number⟩,⟨2,2,b_lets_by⟩,⟨2,2,b_has_fitting_length⟩,⟨2,2,b_does_match⟩,⟨2,2,b_all_rows⟩,⟨3,2,b_first⟩,⟨2,2,b_can_begin⟩,⟨1,1,b_without_first_word⟩,⟨2,2,b_below⟩,⟨2,2,b_part_at⟩,⟨6,3,b_tally_of_all⟩,⟨3,3,b_tally⟩,⟨10,3,b_tallies_below⟩,⟨7,3,b_tallies⟩,⟨8,3,b_crossings⟩,⟨2,2,b_law_cell⟩,⟨4,3,b_law_pick⟩,⟨6,3,b_law_part⟩,⟨5,3,b_law_pattern⟩,⟨6,4,b_law_table⟩,⟨1,1,b_law_is_number⟩,⟨5,2,b_law_matched⟩,⟨6,2,b_law_every⟩,⟨15,1,b_law⟩]
theorem JfP (call:Nat) (x0:D):runD defs (call + 1) 0 [x0] = answerD (exD (runD defs call) b_has_rest [some x0]):=rfl
theorem JgB (call:Nat) (x0:D):runD defs (call + 1) 1 [x0] = answerD (exD (runD defs call) b_writes_number [some x0]):=rfl
theorem Jhd (call:Nat) (x0 x1:D):runD defs (call + 1) 2 [x0,x1] = answerD (exD (runD defs call) b_lets_by [some x0,some x1]):=rfl
theorem JX (call:Nat) (x0 x1:D):runD defs (call + 1) 3 [x0,x1] = answerD (exD (runD defs call) b_has_fitting_length [some x0,some x1]):=rfl
theorem JcU (call:Nat) (x0 x1:D):runD defs (call + 1) 4 [x0,x1] = answerD (exD (runD defs call) b_does_match [some x0,some x1]):=rfl
theorem Jfz (call:Nat) (x0 x1:D):runD defs (call + 1) 5 [x0,x1] = answerD (exD (runD defs call) b_all_rows [some x0,some x1]):=rfl
theorem Jhz (call:Nat) (x0 x1:D):runD defs (call + 1) 6 [x0,x1] = answerD (exD (runD defs call) b_first [some x0,some x1,none]):=rfl
theorem Jei (call:Nat) (x0 x1:D):runD defs (call + 1) 7 [x0,x1] = answerD (exD (runD defs call) b_can_begin [some x0,some x1]):=rfl
theorem JZ (call:Nat) (x0:D):runD defs (call + 1) 8 [x0] = answerD (exD (runD defs call) b_without_first_word [some x0]):=rfl
theorem Jlo (call:Nat) (x0 x1:D):runD defs (call + 1) 9 [x0,x1] = answerD (exD (runD defs call) b_below [some x0,some x1]):=rfl
theorem JhA (call:Nat) (x0 x1:D):runD defs (call + 1) 10 [x0,x1] = answerD (exD (runD defs call) b_part_at [some x0,some x1]):=rfl
theorem JbD (call:Nat) (x0 x1 x2:D):runD defs (call + 1) 11 [x0,x1,x2] = answerD (exD (runD defs call) b_tally_of_all [some x0,some x1,some x2,none,none,none]):=rfl
theorem Jmf (call:Nat) (x0 x1 x2:D):runD defs (call + 1) 12 [x0,x1,x2] = answerD (exD (runD defs call) b_tally [some x0,some x1,some x2]):=rfl
theorem Jbh (call:Nat) (x0 x1 x2:D):runD defs (call + 1) 13 [x0,x1,x2] = answerD (exD (runD defs call) b_tallies_below [some x0,some x1,some x2,none,none,none,none,none,none,none]):=rfl
theorem Jhb (call:Nat) (x0 x1 x2:D):runD defs (call + 1) 14 [x0,x1,x2] = answerD (exD (runD defs call) b_tallies [some x0,some x1,some x2,none,none,none,none]):=rfl
theorem JdS (call:Nat) (x0 x1 x2:D):runD defs (call + 1) 15 [x0,x1,x2] = answerD (exD (runD defs call) b_crossings [some x0,some x1,some x2,none,none,none,none,none]):=rfl
theorem JaI (call:Nat) (x0 x1:D):runD defs (call + 1) 16 [x0,x1] = answerD (exD (runD defs call) b_law_cell [some x0,some x1]):=rfl
theorem JfO (call:Nat) (x0 x1 x2:D):runD defs (call + 1) 17 [x0,x1,x2] = answerD (exD (runD defs call) b_law_pick [some x0,some x1,some x2,none]):=rfl
theorem JB (call:Nat) (x0 x1 x2:D):runD defs (call + 1) 18 [x0,x1,x2] = answerD (exD (runD defs call) b_law_part [some x0,some x1,some x2,none,none,none]):=rfl
theorem Jam (call:Nat) (x0 x1 x2:D):runD defs (call + 1) 19 [x0,x1,x2] = answerD (exD (runD defs call) b_law_pattern [some x0,some x1,some x2,none,none]):=rfl
theorem JdC (call:Nat) (x0 x1 x2 x3:D):runD defs (call + 1) 20 [x0,x1,x2,x3] = answerD (exD (runD defs call) b_law_table [some x0,some x1,some x2,some x3,none,none]):=rfl
theorem Jhn (call:Nat) (x0:D):runD defs (call + 1) 21 [x0] = answerD (exD (runD defs call) b_law_is_number [some x0]):=rfl
theorem Jau (call:Nat) (x0 x1:D):runD defs (call + 1) 22 [x0,x1] = answerD (exD (runD defs call) b_law_matched [some x0,some x1,none,none,none]):=rfl
theorem JdD (call:Nat) (x0 x1:D):runD defs (call + 1) 23 [x0,x1] = answerD (exD (runD defs call) b_law_every [some x0,some x1,none,none,none,none]):=rfl
theorem r_law (call:Nat) (x0:D):runD defs (call + 1) 24 [x0] = answerD (exD (runD defs call) b_law [some x0,none,none,none,none,none,none,none,none,none,none,none,none,none,none]):=rfl
end K66
namespace K66
open PySem.Str (ofString)
open PySem Pu
abbrev S (x:String):Str:=ofString x
abbrev ofN (ns:List Int):D:=.lst (ns.map .int)
theorem cell (ns:List Int) (k:Int) (hk:0 <= k):∃ v:Int,∀ c,runD defs (c + 1) 16 [ofN ns,.int k] = .ok (.int v):=by
 obtain ⟨k,rfl⟩:=Int.eq_ofNat_of_zero_le hk
 by_cases h:k < ns.length
 ·refine ⟨ns[k],fun c=>?_⟩
  have hi:atD (ns.map D.int) k = some (.int ns[k]):=by
   have:=atN (ns.map D.int) k (by simpa using h)
   rw [this]
   simp
  simp [JaI,b_law_cell,h,hi]
 ·have hl:¬ ((k:Int) < (ns.length:Int)):=by omega
  by_cases h0:ns = []
  ·subst h0
   have hl:¬ ((k:Int) < 0):=by omega
   have e:op2 .eq (ofN []) (.lst []) = .ok (.bl true):=rfl
   refine ⟨0,fun c=>?_⟩
   simp [JaI,b_law_cell,hl,e,lineD]
  ·have hp:0 < ns.length:=by
    cases ns with
    | nil=>exact absurd rfl h0
    | cons a t=>simp
   have hm:k % ns.length < ns.length:=Nat.mod_lt _ hp
   refine ⟨ns[k % ns.length] * 31 + k,fun c=>?_⟩
   have hq:((k:Int) % (ns.length:Int)) = ((k % ns.length:Nat):Int):=by omega
   have hi:atD (ns.map D.int) ((k:Int) % (ns.length:Int)) = some (.int ns[k % ns.length]):=by
    rw [hq]
    have:=atN (ns.map D.int) (k % ns.length) (by simpa using hm)
    rw [this]
    simp
   have he:D.eqv (.lst (ns.map D.int)) (.lst []) = false:=by
    cases ns with
    | nil=>exact absurd rfl h0
    | cons a t=>simp [D.eqv,eqvs]
   have he2:op2 .eq (.lst (ns.map D.int)) (.lst []) = .ok (.bl false):=by
    rw [o_eq _ _ (by simp [D.dep,JiR]) (by simp [D.dep,deps]),he]
   have hmod:op2 .mod (.int k) (.int ns.length) = .ok (.int ((k:Int) % (ns.length:Int))):=by
    have:0 < (ns.length:Int):=by omega
    simp [op2,hp]
   simp [JaI,b_law_cell,he2,lineD,hl,hi,hmod,smallI]
theorem pick (ns:List Int) (k m:Int) (hk:0 <= k) (hm:0 < m):∃ r:Nat,(r:Int) < m /\ ∀ c,runD defs (c + 2) 17 [ofN ns,.int k,.int m] = .ok (.int r):=by
 obtain ⟨v,hv⟩:=cell ns k hk
 let d:Int:=(v + 6151 * (k + 1)) * 40692 % 2147483399
 have d0:0 <= d:=Int.emod_nonneg _ (by decide)
 have d1:d < 2147483399:=Int.emod_lt_of_pos _ (by decide)
 have r0:0 <= (d * d + d / 31) % 2147483629 % m:=Int.emod_nonneg _ (by omega)
 have r1:(d * d + d / 31) % 2147483629 % m < m:=Int.emod_lt_of_pos _ (by omega)
 refine ⟨((d * d + d / 31) % 2147483629 % m).toNat,by omega,fun c=>?_⟩
 have hs:smallI d = true:=by
  simp only [smallI,Bool.and_eq_true,decide_eq_true_eq]
  omega
 rw [Int.toNat_of_nonneg r0]
 have hc:(v + 6151 * (k + 1)) * 40692 % 2147483399 = d:=rfl
 have h6:smallI 6151 = true:=by decide
 have h4:smallI 40692 = true:=by decide
 have q1:∀ i:Int,op2 .mod (.int i) (.int 2147483399) = .ok (.int (i % 2147483399)):=fun i=>by simp [op2]
 have q2:∀ i:Int,op2 .mod (.int i) (.int 2147483629) = .ok (.int (i % 2147483629)):=fun i=>by simp [op2]
 have q3:∀ i:Int,op2 .mod (.int i) (.int m) = .ok (.int (i % m)):=fun i=>by simp [op2,hm]
 have q4:∀ i:Int,op2 .fdiv (.int i) (.int 31) = .ok (.int (i / 31)):=fun i=>by simp [op2]
 simp [JfO,b_law_pick,hv,h6,h4,hc,hs,q1,q2,q3,q4]
theorem JaK (a b:String):ofString a = ofString b ↔ a = b:=by
 constructor
 ·intro h
  rw [Str.ofString_eq_toList,Str.ofString_eq_toList] at h
  have h2:=congrArg (fun s:Str=>s.cps.toList) h
  simp only [List.toList_toArray] at h2
  have h3:a.toList = b.toList:=by
   refine List.map_inj_right (f:=Char.toNat) ?_ |>.mp h2
   intro x y hxy
   exact Char.ext (UInt32.toNat_inj.mp hxy)
  exact String.toList_inj.mp h3
 ·rintro rfl
  rfl
@[simp] theorem sb (a b:String):(ofString a == ofString b) = decide (a = b):=by
 by_cases h:a = b
 ·subst h
  simp
 ·have:ofString a ≠ ofString b:=fun e=>h ((JaK a b).mp e)
  simp [h,this]
def ws9:List Str:=[S "a",S "b",S "7",S "0",S "new",S "zz",S "55",S "01",S "-"]
def pool:List Str:=[S "a",S "b",S "7",S "0"]
theorem Jia:∀ w ∈ pool,w ∈ ws9:=by decide +kernel
inductive Part where
 | word (x:Str) | one (n:Str) (ws:List Str) | any (n:Str) | number (n:Str) | rest (n:Str)
def Part.d:Part -> D
 | .word x=>.tup [.str (S "word"),.str x]
 | .one n ws=>.tup [.str (S "one"),.str n,.tup (ws.map .str)]
 | .any n=>.tup [.str (S "any"),.str n]
 | .number n=>.tup [.str (S "number"),.str n]
 | .rest n=>.tup [.str (S "rest"),.str n]
def Part.ok:Part -> Prop
 | .word x=>x ∈ ws9
 | .one _ ws=>(∀ w ∈ ws,w ∈ ws9) /\ ws ≠ []
 | _=>True
def Part.srt:Part -> Prop
 | .word x=>x ∈ pool
 | .one _ ws=>(ws.Pairwise LtS /\ ∀ w ∈ ws,w ∈ pool) /\ ws.length <= 3
 | _=>True
def Part.name:Part -> Str
 | .word x=>x
 | .one n _=>n
 | .any n=>n
 | .number n=>n
 | .rest n=>n
def Part.isWord:Part -> Bool
 | .word _=>true
 | _=>false
def Part.hole (p:Part):List Str:=if p.isWord then [] else [p.name]
def holes (ps:List Part):List Str:=ps.flatMap Part.hole
def Part.isRest:Part -> Bool
 | .rest _=>true
 | _=>false
theorem JbM:∀ ws:List Str,strsOf (ws.map .str) = some ws
 | []=>rfl
 | w :: ws=>by simp [strsOf,JbM ws]
theorem Jnv (ws:List Str) (h:ws.length < 60):op1 .sset (.lst (ws.map .str)) = .ok (.lst ((sortS ws).map .str)):=by
 simp [op1,JbM,h]
theorem JgM (r:Nat) (h:(r:Int) < 4):∃ w ∈ pool,atD [D.str (S "a"),D.str (S "b"),D.str (S "7"),D.str (S "0")] (r:Int) = some (.str w):=by
 match r,h with
 | 0,_=>exact ⟨S "a",by decide +kernel,rfl⟩
 | 1,_=>exact ⟨S "b",by decide +kernel,rfl⟩
 | 2,_=>exact ⟨S "7",by decide +kernel,rfl⟩
 | 3,_=>exact ⟨S "0",by decide +kernel,rfl⟩
 | n + 4,h=>omega
theorem part (ns:List Int) (at_:Int) (h0:0 <= at_) (name:Str):∃ p:Part,p.ok /\ p.isRest = false /\ p.srt /\ p.hole.Sublist [name] /\ ∀ c,runD defs (c + 3) 18 [ofN ns,.int at_,.str name] = .ok p.d:=by
 obtain ⟨r,hr,er⟩:=pick ns at_ 8 h0 (by decide)
 by_cases h4:(r:Int) < 4
 ·obtain ⟨q,hq,eq⟩:=pick ns (at_ + 1) 4 (by omega) (by decide)
  obtain ⟨w,hw,ew⟩:=JgM q hq
  refine ⟨.word w,Jia w hw,rfl,hw,by simp [Part.hole,Part.isWord],fun c=>?_⟩
  simp [JB,b_law_part,er,h4,eq,ew,lineD,Part.d]
 ·by_cases h5:r = 4
  ·subst h5
   obtain ⟨m,hm,em⟩:=pick ns (at_ + 1) 3 (by omega) (by decide)
   have hk:∀ k:Nat,∃ w,w ∈ pool /\ ∃ q:Nat,(∀ c,runD defs (c + 2) 17 [ofN ns,.int (at_ + 2 + k),.int 4] = .ok (.int q)) /\ atD [D.str (S "a"),D.str (S "b"),D.str (S "7"),D.str (S "0")] (q:Int) = some (.str w):=by
    intro k
    obtain ⟨q,hq,eq⟩:=pick ns (at_ + 2 + k) 4 (by omega) (by decide)
    obtain ⟨w,hw,ew⟩:=JgM q hq
    exact ⟨w,hw,q,eq,ew⟩
   obtain ⟨f,hf⟩:=Classical.skolem.mp hk
   have hc:∀ c x,evD (runD defs (c + 2)) (.comp 0 (.un .range (.bi .add (.con (.int 1)) (.call 17 (.cons (.var 0) (.cons (.bi .add (.var 1) (.con (.int 1))) (.cons (.con (.int 3)) .nil)))))) (.con (.bl true)) (.bi .idx (.var 4) (.call 17 (.cons (.var 1) (.cons (.bi .add (.bi .add (.var 2) (.con (.int 2))) (.var 0)) (.cons (.con (.int 4)) .nil))))))
     [some (ofN ns),some (.int at_),some (.str name),some (.lst [D.str (S "a"),D.str (S "b"),D.str (S "7"),D.str (S "0")]),x,none] = .ok (.lst (((List.range (1 + m)).map f).map .str)):=by
    intro c x
    rw [List.map_map]
    refine Jej _ _ _ _ (1 + m) ?_ (by omega) (fun k=>.str (f k)) ?_
    ·simp [em,Int.natCast_add]
    ·intro k hk
     obtain ⟨_,q,e1,e2⟩:=hf k
     simp [e1,e2]
   have hlen:((List.range (1 + m)).map f).length < 60:=by
    simp
    omega
   have hs:=Jnv _ hlen
   refine ⟨.one name (sortS ((List.range (1 + m)).map f)),⟨?_,?_⟩,rfl,⟨⟨JaE _,fun w hw=>by
    rw [JP,List.mem_map] at hw
    obtain ⟨k,_,rfl⟩:=hw
    exact (hf k).1⟩,Nat.le_trans (Jgq _) (by simp; omega)⟩,by simp [Part.hole,Part.isWord,Part.name],fun c=>?_⟩
   ·intro w hw
    rw [JP,List.mem_map] at hw
    obtain ⟨k,_,rfl⟩:=hw
    exact Jia _ (hf k).1
   ·intro hn
    have:f 0 ∈ sortS ((List.range (1 + m)).map f):=by
     rw [JP,List.mem_map]
     exact ⟨0,by rw [List.mem_range]; omega,rfl⟩
    rw [hn] at this
    simp at this
   ·have hc:=hc c
    generalize (List.range (1 + m)).map f = ws at hs hc ⊢
    simp [JB,b_law_part,er,hc,hs,lineD,Part.d]
  ·have h567:r = 5 \/ r = 6 \/ r = 7:=by omega
   rcases h567 with rfl | rfl | rfl
   ·exact ⟨.any name,trivial,rfl,trivial,by simp [Part.hole,Part.isWord,Part.name],fun c=>by simp [JB,b_law_part,er,lineD,Part.d]⟩
   ·exact ⟨.number name,trivial,rfl,trivial,by simp [Part.hole,Part.isWord,Part.name],fun c=>by simp [JB,b_law_part,er,lineD,Part.d]⟩
   ·exact ⟨.any name,trivial,rfl,trivial,by simp [Part.hole,Part.isWord,Part.name],fun c=>by simp [JB,b_law_part,er,lineD,Part.d]⟩
def restLast:List Part -> Prop
 | []=>True
 | p :: ps=>(p.isRest = true -> ps = []) /\ restLast ps
theorem Jjl (p:Part):p.d.imm = true:=by cases p <;> simp [Part.d,D.imm,imms,Jjq]
theorem Jhj (ps:List Part):imms (ps.map Part.d) = true:=by
 induction ps with
 | nil=>rfl
 | cons p ps ih=>simp [imms,Jjl,ih]
theorem JiP (p:Part):p.d.dep <= 2:=by cases p <;> simp [Part.d,D.dep,deps,JV]
theorem JgP (ps:List Part):deps (ps.map Part.d) <= 2:=by
 induction ps with
 | nil=>simp [deps]
 | cons p ps ih=>
  have:=JiP p
  simp only [List.map_cons,deps]
  omega
theorem JcR (l:List Part) (h:∀ p ∈ l,p.isRest = false) (n:Str):restLast (l ++ [.rest n]):=by
 induction l with
 | nil=>simp [restLast]
 | cons p l ih=>
  refine ⟨fun hp=>?_,ih fun p hp=>h p (by simp [hp])⟩
  rw [h p (by simp)] at hp
  cases hp
theorem Jeg (l:List Part) (h:∀ p ∈ l,p.isRest = false):restLast l:=by
 induction l with
 | nil=>trivial
 | cons p l ih=>
  refine ⟨fun hp=>?_,ih fun p hp=>h p (by simp [hp])⟩
  rw [h p (by simp)] at hp
  cases hp
def names4:List Str:=[S "y",S "id",S "z",S "x"]
def nm4 (k:Nat):Str:=names4.getD k (S "")
theorem Jjg (k:Nat) (h:k < 4):atD [D.str (S "y"),D.str (S "id"),D.str (S "z"),D.str (S "x")] (k:Int) = some (.str (nm4 k)):=by
 match k,h with
 | 0,_=>rfl
 | 1,_=>rfl
 | 2,_=>rfl
 | 3,_=>rfl
 | n + 4,h=>omega
theorem Jdu (f:Nat -> Part) (hf:∀ k,(f k).hole.Sublist [nm4 k]):∀ m,m <= 4 -> (holes ((List.range m).map f)).Sublist (names4.take m)
 | 0,_=>by simp [holes]
 | m + 1,h=>by
  have e:names4.take (m + 1) = names4.take m ++ [nm4 m]:=by
   match m,h with
   | 0,_=>rfl
   | 1,_=>rfl
   | 2,_=>rfl
   | 3,_=>rfl
   | n + 4,h=>omega
  rw [e,List.range_succ,List.map_append]
  simp only [holes,List.flatMap_append,List.map_cons,List.map_nil,List.flatMap_cons,List.flatMap_nil,List.append_nil]
  exact (Jdu f hf m (by omega)).append (hf m)
def names5:List Str:=[S "y",S "id",S "z",S "x",S "r"]
theorem patQ (ns:List Int) (at_:Int) (h0:0 <= at_) (M:Nat) (hM:M <= 4):∃ (qs:List Part) (b:Bool),(∀ p ∈ qs,p.ok /\ p.isRest = false /\ p.srt) /\ (holes qs).Sublist names4 /\ qs.length <= M /\ ∀ c,runD defs (c + 4) 19 [ofN ns,.int at_,.int M] = .ok (.tup ((qs ++ if b then [Part.rest (S "r")] else []).map Part.d)):=by
 obtain ⟨m,hm,em⟩:=pick ns at_ ((M:Int) + 1) h0 (by omega)
 have hm:m <= M:=by omega
 have hk:∀ k:Nat,∃ p:Part,p.ok /\ p.isRest = false /\ p.srt /\ p.hole.Sublist [nm4 k] /\ (k < 4 -> ∀ c,runD defs (c + 3) 18 [ofN ns,.int (at_ + 2 + 5 * k),.str (nm4 k)] = .ok p.d):=by
  intro k
  obtain ⟨p,p1,p2,p3,p4,p5⟩:=part ns (at_ + 2 + 5 * k) (by omega) (nm4 k)
  exact ⟨p,p1,p2,p3,p4,fun _=>p5⟩
 obtain ⟨f,hf⟩:=Classical.skolem.mp hk
 have h5:smallI 5 = true:=by decide
 have hc:∀ c,evD (runD defs (c + 3)) (.comp 0 (.un .range (.call 17 (.cons (.var 0) (.cons (.var 1) (.cons (.bi .add (.var 2) (.con (.int 1))) .nil))))) (.con (.bl true)) (.call 18 (.cons (.var 1) (.cons (.bi .add (.bi .add (.var 2) (.con (.int 2))) (.bi .mul (.con (.int 5)) (.var 0))) (.cons (.bi .idx (.var 4) (.var 0)) .nil)))))
   [some (ofN ns),some (.int at_),some (.int M),some (.lst [D.str (S "y"),D.str (S "id"),D.str (S "z"),D.str (S "x")]),none] = .ok (.lst (((List.range m).map f).map Part.d)):=by
  intro c
  rw [List.map_map]
  refine Jej _ _ _ _ m ?_ (by omega) (fun k=>(f k).d) ?_
  ·simp [em]
  ·intro k hk
   obtain ⟨_,_,_,_,h3⟩:=hf k
   have n2:=h3 (by omega) c
   simp [Jjg k (by omega),n2,h5]
 have hO:∀ p ∈ (List.range m).map f,p.ok /\ p.isRest = false /\ p.srt:=by
  intro p hp
  rw [List.mem_map] at hp
  obtain ⟨k,_,rfl⟩:=hp
  exact ⟨(hf k).1,(hf k).2.1,(hf k).2.2.1⟩
 have hH:(holes ((List.range m).map f)).Sublist names4:=(Jdu f (fun k=>(hf k).2.2.2.1) m (by omega)).trans (List.take_sublist _ _)
 have hL:((List.range m).map f).length <= M:=by
  simp
  omega
 generalize (List.range m).map f = qs at hc hO hL hH
 have hL2:qs.length < 16777216:=by omega
 have hI:=Jhj qs
 have hN:=JiD ns
 obtain ⟨q,hq,eq⟩:=pick ns (at_ + 1) 4 (by omega) (by decide)
 refine ⟨qs,decide (q = 0),hO,hH,hL,fun c=>?_⟩
 by_cases q0:q = 0
 ·subst q0
  simp [Jam,b_law_pattern,hc,eq,hI,hN,lineD,hL2,D.imm,imms,Part.d]
 ·have q1:((q:Int) == 0) = false:=by
   rw [beq_eq_false_iff_ne]
   omega
  simp [Jam,b_law_pattern,hc,eq,hI,q1,q0,lineD]
theorem patS (ns:List Int) (at_:Int) (h0:0 <= at_) (M:Nat) (hM:M <= 4):∃ ps:List Part,(∀ p ∈ ps,p.ok) /\ restLast ps /\ ps.length <= M + 1 /\ (∀ p ∈ ps,p.srt) /\ (holes ps).Sublist names5 /\ ((∀ p ∈ ps,p.isRest = false) -> ps.length <= M) /\ ∀ c,runD defs (c + 4) 19 [ofN ns,.int at_,.int M] = .ok (.tup (ps.map Part.d)):=by
 obtain ⟨qs,b,h1,h2,h3,h4⟩:=patQ ns at_ h0 M hM
 refine ⟨_,?_,?_,?_,?_,?_,?_,h4⟩ <;> cases b
 ·simpa using fun p hp=>(h1 p hp).1
 ·simp only [if_true]
  intro p hp
  rcases List.mem_append.mp hp with hp | hp
  ·exact (h1 p hp).1
  ·rw [List.mem_singleton.mp hp]; trivial
 ·simpa using Jeg _ fun p hp=>(h1 p hp).2.1
 ·exact JcR _ (fun p hp=>(h1 p hp).2.1) _
 ·simp; omega
 ·simp; omega
 ·simpa using fun p hp=>(h1 p hp).2.2
 ·simp only [if_true]
  intro p hp
  rcases List.mem_append.mp hp with hp | hp
  ·exact (h1 p hp).2.2
  ·rw [List.mem_singleton.mp hp]; trivial
 ·simp only [Bool.false_eq_true,if_false,List.append_nil]
  exact h2.trans (List.sublist_append_left names4 [S "r"])
 ·simp only [if_true,holes,List.flatMap_append]
  exact h2.append (List.Sublist.refl [S "r"])
 ·simpa using fun _=>h3
 ·exact fun hz=>absurd (hz (.rest (S "r")) (by simp)) (by simp [Part.isRest])
def Part.kind:Part -> Str
 | .word _=>S "word"
 | .one _ _=>S "one"
 | .any _=>S "any"
 | .number _=>S "number"
 | .rest _=>S "rest"
theorem JaD (call:CallD) (env:Fm) (i:Nat) (p:Part) (h:env[i]? = some (some p.d)) (s:Str):evD call (.bi .eq (.bi .idx (.var i) (.con (.int 0))) (.con (.str s))) env = .ok (.bl (p.kind == s)):=by
 refine Jg _ _ (x:=.str p.kind) (Jg _ _ (x:=p.d) (y:=.int 0) (by rw [JgV,h]) rfl ?_) rfl (Jla _ _)
 cases p <;> rfl
theorem Jhk (p:Part):(p.kind == S "rest") = p.isRest:=match p with
 | .word _=>(by decide +kernel:(S "word" == S "rest") = false)
 | .one _ _=>(by decide +kernel:(S "one" == S "rest") = false)
 | .any _=>(by decide +kernel:(S "any" == S "rest") = false)
 | .number _=>(by decide +kernel:(S "number" == S "rest") = false)
 | .rest _=>(by decide +kernel:(S "rest" == S "rest") = true)
theorem Jef (call:CallD) (env:Fm) (i:Nat) (p:Part) (h:env[i]? = some (some p.d)):evD call (.bi .idx (.var i) (.con (.int 1))) env = .ok (.str p.name):=by
 refine Jg _ _ (x:=p.d) (y:=.int 1) (by rw [JgV,h]) rfl ?_
 cases p <;> rfl
end K66
namespace K66
open PySem.Str (ofString)
open PySem Pu
def wsA:List Str:=ws9 ++ [S "x0",S "1"]
theorem ws_A {w:Str} (h:w ∈ ws9):w ∈ wsA:=List.mem_append_left _ h
def numW (w:Str):Bool:=w == S "7" || w == S "0" || w == S "55" || w == S "1"
def num (w:Str):Int:=digs w.cps.toList
theorem wn (w:Str) (hw:w ∈ wsA) (c:Nat):runD defs (c + 1) 1 [.str w] = .ok (.bl (numW w)):=by
 simp only [wsA,ws9,List.cons_append,List.nil_append,List.mem_cons,List.not_mem_nil,or_false] at hw
 rcases hw with rfl | rfl | rfl | rfl | rfl | rfl | rfl | rfl | rfl | rfl | rfl <;> rfl
theorem ln (w:Str) (hw:w ∈ wsA) (c:Nat):runD defs (c + 1) 21 [.str w] = .ok (.bl (numW w)):=by
 simp only [wsA,ws9,List.cons_append,List.nil_append,List.mem_cons,List.not_mem_nil,or_false] at hw
 rcases hw with rfl | rfl | rfl | rfl | rfl | rfl | rfl | rfl | rfl | rfl | rfl <;> rfl
theorem intsW (w:Str) (hw:w ∈ wsA) (h:numW w = true):op1 .ints (.str w) = .ok (.int (num w)):=by
 simp only [wsA,ws9,List.cons_append,List.nil_append,List.mem_cons,List.not_mem_nil,or_false] at hw
 rcases hw with rfl | rfl | rfl | rfl | rfl | rfl | rfl | rfl | rfl | rfl | rfl <;> first | rfl | (exact absurd h (by decide +kernel))
def Part.fits (p:Part) (w:Str):Bool:=match p with
 | .word x=>w == x
 | .one _ ws=>ws.any (fun v=>v == w)
 | .number _=>numW w
 | _=>true
def Part.valD (p:Part) (w:Str):D:=match p with
 | .number _=>.int (num w)
 | _=>.str w
def Part.val (p:Part) (w:Str):List D:=if p.isWord then [] else [.tup [.str p.name,p.valD w]]
def lawM:List Part -> List Str -> Option (List D)
 | [],a=>if a.isEmpty then some [] else none
 | p :: ps,a=>if p.isRest then some [.tup [.str p.name,.tup (a.map .str)]] else match a with
  | []=>none
  | w :: a=>if p.fits w then (lawM ps a).map (p.val w ++ ·) else none
def opt:Option (List D) -> D
 | none=>.non
 | some vs=>.lst vs
theorem JeG (xs:List D) (h:deps xs <= 19):op2 .eq (.tup xs) (.tup []) = .ok (.bl xs.isEmpty):=by
 rw [o_eq _ _ (by simp only [D.dep]; omega) (by simp [D.dep,deps])]
 cases xs <;> simp [D.eqv,eqvs]
theorem o_inS (w:Str) (ws:List Str):op2 .isin (.str w) (.tup (ws.map .str)) = .ok (.bl (ws.any fun v=>v == w)):=by
 rw [o_inT _ _ (by rw [JV]; omega) (Nat.zero_le _)]
 simp only [List.any_map]
 rfl
theorem JnJ (w:Str) (ws:List Str):op2 .notin (.str w) (.tup (ws.map .str)) = .ok (.bl (!ws.any fun v=>v == w)):=by
 rw [JnE _ _ (by rw [JV]; omega) (Nat.zero_le _)]
 simp only [List.any_map]
 rfl
theorem cut1 {α:Type} (x:α) (xs:List α):cutD (x :: xs) (some 1) none = xs:=by
 simp [cutD,six]
theorem Jey:∀ (ps:List Part) (a:List Str) (vs:List D),lawM ps a = some vs -> vs.length <= ps.length
 | [],a,vs,h=>by
  unfold lawM at h
  split at h
  ·cases h; simp
  ·cases h
 | p :: ps,a,vs,h=>by
  unfold lawM at h
  split at h
  ·cases h; simp
  ·split at h
   ·cases h
   ·split at h
    ·rw [Option.map_eq_some_iff] at h
     obtain ⟨us,e,rfl⟩:=h
     have:=Jey ps _ us e
     rw [List.length_append,List.length_cons]
     have h1:∀ w,(p.val w).length <= 1:=by
      intro w
      unfold Part.val
      split <;> simp
     have:=h1 ‹Str›
     omega
    ·cases h
theorem Jdh (p:Part):(p.kind == S "word") = p.isWord:=match p with
 | .word _=>(by decide +kernel:(S "word" == S "word") = true)
 | .one _ _=>(by decide +kernel:(S "one" == S "word") = false)
 | .any _=>(by decide +kernel:(S "any" == S "word") = false)
 | .number _=>(by decide +kernel:(S "number" == S "word") = false)
 | .rest _=>(by decide +kernel:(S "rest" == S "word") = false)
def Part.isNum:Part -> Bool
 | .number _=>true
 | _=>false
theorem JeL (p:Part):(p.kind == S "number") = p.isNum:=match p with
 | .word _=>(by decide +kernel:(S "word" == S "number") = false)
 | .one _ _=>(by decide +kernel:(S "one" == S "number") = false)
 | .any _=>(by decide +kernel:(S "any" == S "number") = false)
 | .number _=>(by decide +kernel:(S "number" == S "number") = true)
 | .rest _=>(by decide +kernel:(S "rest" == S "number") = false)
def Part.bad1 (p:Part) (w:Str):Bool:=match p with
 | .word x=>!(x == w)
 | .one _ ws=>!(ws.any fun v=>v == w)
 | _=>false
theorem JiF (p:Part) (w:Str):p.fits w = (!p.bad1 w && !(p.isNum && !numW w)):=by
 cases p with
 | word x=>simp only [Part.fits,Part.bad1,Part.isNum,Bool.false_and,Bool.not_false,Bool.and_true,Bool.not_not]; exact Bool.beq_comm
 | one n ws=>simp only [Part.fits,Part.bad1,Part.isNum,Bool.false_and,Bool.not_false,Bool.and_true,Bool.not_not]
 | number n=>simp only [Part.fits,Part.bad1,Part.isNum,Bool.true_and,Bool.not_false,Bool.not_not]
 | any n=>rfl
 | rest n=>rfl
theorem JmS (call:CallD) (env:Fm) (p:Part) (w:Str) (h2:env[2]? = some (some p.d)) (h3:env[3]? = some (some (.str w))) :
  evD call (.or (.and (.bi .eq (.bi .idx (.var 2) (.con (.int 0))) (.con (.str (ofString "word")))) (.bi .ne (.bi .idx (.var 2) (.con (.int 1))) (.var 3))) (.and (.bi .eq (.bi .idx (.var 2) (.con (.int 0))) (.con (.str (ofString "one")))) (.bi .notin (.var 3) (.bi .idx (.var 2) (.con (.int 2)))))) env = .ok (.bl (p.bad1 w)):=by
 have v3:evD call (.var 3) env = .ok (.str w):=by rw [JgV,h3]
 have hw:=JaD call env 2 p h2 (S "word")
 have ho:=JaD call env 2 p h2 (S "one")
 have hn:=Jg call env (o:=.ne) (Jef call env 2 p h2) v3 (JlK _ _)
 rw [Jdh] at hw
 cases p with
 | word x=>
  rw [e_or,JD _ _ hw fun _=>hn]
  cases hx:(x == w) with
  | false=>simp [Part.bad1,Part.isWord,Part.name,hx]
  | true=>
   simp only [Part.isWord,Part.name,hx,Bool.not_true,Bool.and_false,Rs.bind_ok,Part.bad1]
   exact JD _ _ (q:=true) ho fun q=>absurd q (by decide +kernel:¬ ((S "word" == S "one") = true))
 | one n ws=>
  have h2':evD call (.bi .idx (.var 2) (.con (.int 2))) env = .ok (.tup (ws.map .str)):=Jg _ _ (x:=Part.d (.one n ws)) (y:=.int 2) (by rw [JgV,h2]) rfl rfl
  rw [show ((Part.one n ws).kind == S "one") = true from (by decide +kernel:(S "one" == S "one") = true)] at ho
  exact JhH call env (p:=false) (q:=!(ws.any fun v=>v == w)) (JD call env (p:=false) (q:=!(n == w)) hw fun _=>hn) fun _=>JD call env (p:=true) (q:=!(ws.any fun v=>v == w)) ho fun _=>Jg call env v3 h2' (JnJ w ws)
 | any n=>exact JhH call env (p:=false) (q:=false) (JD call env (p:=false) (q:=!(n == w)) hw fun _=>hn) fun _=>JD call env (p:=false) (q:=true) (ho.trans (congrArg (fun b=>Rs.ok (D.bl b)) (by decide +kernel:(S "any" == S "one") = false))) fun q=>Bool.noConfusion q
 | number n=>exact JhH call env (p:=false) (q:=false) (JD call env (p:=false) (q:=!(n == w)) hw fun _=>hn) fun _=>JD call env (p:=false) (q:=true) (ho.trans (congrArg (fun b=>Rs.ok (D.bl b)) (by decide +kernel:(S "number" == S "one") = false))) fun q=>Bool.noConfusion q
 | rest n=>exact JhH call env (p:=false) (q:=false) (JD call env (p:=false) (q:=!(n == w)) hw fun _=>hn) fun _=>JD call env (p:=false) (q:=true) (ho.trans (congrArg (fun b=>Rs.ok (D.bl b)) (by decide +kernel:(S "rest" == S "one") = false))) fun q=>Bool.noConfusion q
theorem lm:∀ (ps:List Part) (a:List Str) (c:Nat),(∀ p ∈ ps,p.ok) -> (∀ w ∈ a,w ∈ wsA) -> ps.length <= 1000 ->
  runD defs (c + ps.length + 2) 22 [.tup (ps.map Part.d),.tup (a.map .str)] = .ok (opt (lawM ps a))
 | [],a,c,hp,ha,hl=>by
  have e1:=JeG [] (by simp [deps])
  have e2:=JeG (a.map .str) (by rw [JV]; omega)
  have hg:∀ (call:CallD) (x2 x3 x4:Option D),evD call (.bi .eq (.var 1) (.tup .nil)) [some (.tup []),some (.tup (a.map .str)),x2,x3,x4] = .ok (.bl (a.map D.str).isEmpty):=fun call _ _ _=>Jg _ _ rfl (Jr _ _ (ds:=[]) rfl (Nat.zero_le _)) e2
  rw [Jau,b_law_matched,Jw _ _ (p:=true) _ _ (Jg _ _ rfl (Jr _ _ (ds:=[]) rfl (Nat.zero_le _)) e1),if_pos rfl]
  refine (e_if _ _ (hg _ _ _ _)).trans ?_
  cases a <;> rfl
 | p :: ps,a,c,hp,ha,hl=>by
  have hd:=JgP (p :: ps)
  have e1:=JeG ((p :: ps).map Part.d) (by omega)
  have e2:=JeG (a.map .str) (by rw [JV]; omega)
  have ef:c + (p :: ps).length + 2 = (c + ps.length + 2) + 1:=by
   rw [List.length_cons]
   omega
  have hg:∀ (call:CallD) (x2 x3 x4:Option D),evD call (.bi .eq (.var 1) (.tup .nil)) [some (.tup ((p :: ps).map Part.d)),some (.tup (a.map .str)),x2,x3,x4] = .ok (.bl (a.map D.str).isEmpty):=fun call _ _ _=>Jg _ _ rfl (Jr _ _ (ds:=[]) rfl (Nat.zero_le _)) e2
  rw [ef,Jau,b_law_matched,Jw _ _ (p:=false) _ _ (Jg _ _ rfl (Jr _ _ (ds:=[]) rfl (Nat.zero_le _)) e1),if_neg Bool.false_ne_true]
  rw [JaF _ _ (d:=p.d) _ (Jg _ _ (x:=.tup ((p :: ps).map Part.d)) (y:=.int 0) rfl rfl (by simp))]
  simp only [List.set]
  rw [Jw _ _ _ _ (JaD _ _ 2 p rfl _),Jhk]
  cases hr:p.isRest with
  | true=>
   rw [if_pos rfl,Jab _ _ (ds:=[.tup [.str p.name,.tup (a.map .str)]]) (Je _ _ (Jr _ _ (ds:=[.str p.name,.tup (a.map .str)]) (Je _ _ (Jef _ _ 2 p rfl) rfl) (by simp)) rfl) (by simp)]
   simp only [lawM,hr,if_true,opt]
  | false=>
   rw [if_neg Bool.false_ne_true,Jw _ _ _ _ (hg _ _ _ _)]
   cases a with
   | nil=>
    rw [lawM,hr]
    rfl
   | cons w a=>
    have ih:=lm ps a c (fun p h=>hp p (by simp [h])) (fun w h=>ha w (by simp [h])) (by rw [List.length_cons] at hl; omega)
    have hw:=ha w (by simp)
    have eln:=ln w hw (c + ps.length + 1)
    have hM:lawM (p :: ps) (w :: a) = if p.fits w then (lawM ps a).map (p.val w ++ ·) else none:=by
     rw [lawM,hr]
     rfl
    rw [hM,JiF,List.map_cons,List.isEmpty_cons,if_neg Bool.false_ne_true]
    rw [JaF _ _ (d:=.str w) _ (Jg _ _ (x:=.tup ((w :: a).map .str)) (y:=.int 0) rfl rfl (by simp))]
    simp only [List.set]
    rw [Jw _ _ _ _ (JmS _ _ p w rfl rfl)]
    cases p.bad1 w with
    | true=>rfl
    | false=>
     rw [if_neg Bool.false_ne_true,Jw _ _ (p:=(p.isNum && !numW w)) _ _ (by
      have h1:=JaD (runD defs (c + ps.length + 2)) [some (.tup ((p :: ps).map Part.d)),some (.tup (D.str w :: a.map .str)),some p.d,some (.str w),none] 2 p rfl (S "number")
      rw [JeL] at h1
      exact JD _ _ h1 fun _=>Jkf _ _ (JfI _ _ (JdO _ _ rfl eln)))]
     cases hnum:(p.isNum && !numW w) with
     | true=>rfl
     | false=>
      rw [if_neg Bool.false_ne_true,JaF _ _ (d:=opt (lawM ps a)) _ (Jk _ _ (ds:=[.tup (ps.map Part.d),.tup (a.map .str)]) (Je _ _ (by simp [cut1,op1]) (Je _ _ (by simp [cut1,op1]) rfl)) ih)]
      simp only [List.set]
      have h1:=JaD (runD defs (c + ps.length + 2)) [some (.tup ((p :: ps).map Part.d)),some (.tup (D.str w :: a.map .str)),some p.d,some (.str w),some (opt (lawM ps a))] 2 p rfl (S "word")
      have h2:=JaD (runD defs (c + ps.length + 2)) [some (.tup ((p :: ps).map Part.d)),some (.tup (D.str w :: a.map .str)),some p.d,some (.str w),some (opt (lawM ps a))] 2 p rfl (S "number")
      rw [Jdh] at h1
      rw [JeL] at h2
      have hn:op1 .isN (opt (lawM ps a)) = .ok (.bl (lawM ps a).isNone):=by cases lawM ps a <;> rfl
      rw [Jw _ _ _ _ (JhH _ _ (Jx _ _ rfl hn) fun _=>h1),Jan]
      cases hv:lawM ps a with
      | none=>rfl
      | some vs=>
       have hl1:=Jey ps a vs hv
       rw [List.length_cons] at hl
       rw [hv] at h1 h2
       cases hpw:p.isWord with
       | true=>
        rw [Part.val,hpw]
        rfl
       | false=>
        simp only [Option.isNone_some,Bool.false_or,Bool.false_eq_true,if_false,Part.val,hpw]
        have hval:evD (runD defs (c + ps.length + 2)) (.ite (.bi .eq (.bi .idx (.var 2) (.con (.int 0))) (.con (.str (ofString "number")))) (.un .ints (.var 3)) (.var 3)) [some (.tup ((p :: ps).map Part.d)),some (.tup (D.str w :: a.map .str)),some p.d,some (.str w),some (opt (some vs))] = .ok (p.valD w):=by
         rw [e_if _ _ h2]
         cases p with
         | number n=>
          have:numW w = true:=by simpa [Part.isNum] using hnum
          exact Jx _ _ rfl (intsW w hw this)
         | _=>rfl
        refine Jg _ _ (x:=.lst [.tup [.str p.name,p.valD w]]) (y:=.lst vs) (Jab _ _ (Je _ _ (Jr _ _ (Je _ _ (Jef _ _ 2 p rfl) (Je _ _ hval rfl)) (by simp)) rfl) (by simp)) rfl ?_
        exact Jgf [.tup [.str p.name,p.valD w]] vs (JE (by simp only [List.length_cons,List.length_nil]; omega))
def zbl:List Part -> List Str -> List Bool
 | p :: ps,w :: a=>p.fits w :: zbl ps a
 | _,_=>[]
theorem lets (p:Part) (w:Str) (hw:w ∈ wsA) (c:Nat):runD defs (c + 2) 2 [p.d,.str w] = .ok (.bl (p.fits w)):=by
 have h:=wn w hw c
 cases p <;> simp [Jhd,b_lets_by,Part.d,Part.fits,o_inS,h]
def lastRest (ps:List Part):Bool:=match ps.getLast? with
 | some p=>p.isRest
 | none=>false
theorem has_rest (ps:List Part) (c:Nat):runD defs (c + 1) 0 [.tup (ps.map Part.d)] = .ok (.bl (lastRest ps)):=by
 by_cases h0:ps = []
 ·subst h0
  rfl
 ·have hp:0 < ps.length:=by
   cases ps with
   | nil=>exact absurd rfl h0
   | cons a t=>simp
  have hi:atD (ps.map Part.d) (-1) = some (ps.getLast h0).d:=by
   have h1:¬ ((0:Int) <= -1):=by omega
   have h2:-((ps.map Part.d).length:Int) <= -1:=by
    rw [List.length_map]
    omega
   have h3:(-1 + ((ps.map Part.d).length:Int)).toNat = ps.length - 1:=by
    rw [List.length_map]
    omega
   simp only [atD,ixn,if_neg h1,if_pos h2,h3,Option.bind_some]
   rw [List.getElem?_map,List.getElem?_eq_getElem (by omega),List.getLast_eq_getElem]
   rfl
  have hl:lastRest ps = (ps.getLast h0).isRest:=by
   simp only [lastRest,List.getLast?_eq_some_getLast h0]
  rw [hl]
  have hp2:(0:Int) < ps.length:=by omega
  generalize ps.getLast h0 = p at hi
  cases p <;> simp only [Part.d] at hi <;> simp [JfP,b_has_rest,hp,hi,Part.isRest]
def fit (ps:List Part) (a:List Str):Bool:=if lastRest ps then decide ((ps.length:Int) - 1 <= a.length) else (a.length:Int) == ps.length
theorem Jid (ps:List Part) (a:List Str) (c:Nat):runD defs (c + 2) 3 [.tup (ps.map Part.d),.int a.length] = .ok (.bl (fit ps a)):=by
 have h:=has_rest ps c
 cases hl:lastRest ps <;> rw [hl] at h <;> simp [JX,b_has_fitting_length,h,fit,hl]
theorem JeZ (c:Nat) (env:Fm):∀ (ps:List Part) (a:List Str),(∀ w ∈ a,w ∈ wsA) ->
  compL 2 (evD (runD defs (c + 2)) (.con (.bl true))) (evD (runD defs (c + 2)) (.call 2 (.cons (.var 0) (.cons (.var 1) .nil)))) env (zipD (ps.map Part.d) (a.map .str)) = .ok ((zbl ps a).map .bl)
 | [],a,h=>by cases a <;> rfl
 | p :: ps,[],h=>rfl
 | p :: ps,w :: a,h=>by
  have ih:=JeZ c env ps a fun w hw=>h w (by simp [hw])
  have hl:=lets p w (h w (by simp)) c
  have:=JT 2 (evD (runD defs (c + 2)) (.con (.bl true))) (evD (runD defs (c + 2)) (.call 2 (.cons (.var 0) (.cons (.var 1) .nil)))) env (.tup [p.d,.str w]) (zipD (ps.map Part.d) (a.map .str)) (new:=[some p.d,some (.str w)]) (by simp [bindT]) (p:=true) rfl (y:=.bl (p.fits w)) (fun _=>by simp [hl]) ih
  simpa [zipD,zbl] using this
theorem JgS:∀ bs:List Bool,blsOf (bs.map .bl) = some bs
 | []=>rfl
 | b :: bs=>by simp [blsOf,JgS bs]
theorem Jhq:∀ (xs ys:List D),(zipD xs ys).length <= xs.length
 | [],ys=>by simp [zipD]
 | x :: xs,[]=>by simp [zipD]
 | x :: xs,y :: ys=>by
  have:=Jhq xs ys
  simp only [zipD,List.length_cons]
  omega
theorem Jjf (ps:List Part) (a:List Str) (c:Nat) (ha:∀ w ∈ a,w ∈ wsA) (hl:ps.length <= 1000):runD defs (c + 3) 4 [.tup (ps.map Part.d),.tup (a.map .str)] = .ok (.bl (fit ps a && (zbl ps a).all id)):=by
 have h1:=Jid ps a c
 have h2:=JeZ c [some (.tup (ps.map Part.d)),some (.tup (a.map .str))] ps a ha
 have h3:(zipD (ps.map Part.d) (a.map .str)).length <= 16777216:=by
  have:=Jhq (ps.map Part.d) (a.map .str)
  rw [List.length_map] at this
  omega
 have h4:op1 .all (.lst ((zbl ps a).map .bl)) = .ok (.bl ((zbl ps a).all id)):=by
  simp [op1,JgS]
 cases hf:fit ps a <;> rw [hf] at h1 <;> simp [JcU,b_does_match,h1,JeR,lineD,h2,h3,h4]
theorem Jbj (p:Part) (ps:List Part) (h:p.isRest = false):lastRest (p :: ps) = lastRest ps:=by
 cases ps with
 | nil=>simp [lastRest,h]
 | cons q qs=>simp [lastRest,List.getLast?_cons_cons]
theorem Jbe:∀ (ps:List Part) (a:List Str),restLast ps -> (lawM ps a).isSome = (fit ps a && (zbl ps a).all id)
 | [],a,h=>by
  cases a with
  | nil=>rfl
  | cons w a=>
   have:¬ ((a.length:Int) + 1 = 0):=by omega
   simp [lawM,fit,lastRest,this]
 | p :: ps,a,h=>by
  cases hr:p.isRest with
  | true=>
   have h0:=h.1 hr
   subst h0
   have hf:p.fits = fun _=>true:=by
    cases p <;> simp_all [Part.isRest]
    rfl
   cases a <;> simp [lawM,fit,lastRest,hr,zbl,hf] <;> omega
  | false=>
   cases a with
   | nil=>
    simp only [lawM,hr,fit,Jbj p ps hr]
    cases hl:lastRest ps with
    | true=>
     have:0 < ps.length:=by
      cases ps with
      | nil=>cases hl
      | cons a t=>simp
     have h1:¬ ((((p :: ps).length:Nat):Int) - 1 <= ((([]:List Str).length:Nat):Int)):=by
      simp only [List.length_cons,List.length_nil]
      omega
     rw [if_pos rfl,decide_eq_false h1]
     rfl
    | false=>
     simp
     omega
   | cons w a=>
    have ih:=Jbe ps a h.2
    have hfit:fit (p :: ps) (w :: a) = fit ps a:=by
     simp only [fit,Jbj p ps hr,List.length_cons]
     cases lastRest ps
     ·rw [Bool.eq_iff_iff]
      simp <;> omega
     ·rw [Bool.eq_iff_iff]
      simp
      omega
    simp only [lawM,hr,zbl,hfit]
    cases p.fits w
    ·simp
    ·simp [ih]
end K66
namespace K66
open PySem.Str (ofString)
open PySem Pu
structure Row where
 l:Str
 ps:List Part
def Row.pd (r:Row):D:=.tup (r.ps.map Part.d)
def Row.d (r:Row):D:=.tup [.str r.l,r.pd]
structure Row.Ok (M:Nat) (r:Row):Prop where
 ok:∀ p ∈ r.ps,p.ok
 rl:restLast r.ps
 len:r.ps.length <= M + 1
 srt:∀ p ∈ r.ps,p.srt
 hol:(holes r.ps).Sublist names5
 fix:(∀ p ∈ r.ps,p.isRest = false) -> r.ps.length <= M
def labs:List Str:=[S "t",S "p",S "v",S "q",S "u",S "s"]
def lab (k:Nat):Str:=labs.getD k (S "")
theorem JnK (k:Nat) (h:k < 6):atD [D.str (S "t"),D.str (S "p"),D.str (S "v"),D.str (S "q"),D.str (S "u"),D.str (S "s")] (k:Int) = some (.str (lab k)):=by
 match k,h with
 | 0,_=>rfl
 | 1,_=>rfl
 | 2,_=>rfl
 | 3,_=>rfl
 | 4,_=>rfl
 | 5,_=>rfl
 | n + 6,h=>omega
theorem Jgj (m:Nat) (h:m <= 6):(List.range m).map lab = labs.take m:=by
 match m,h with
 | 0,_=>rfl
 | 1,_=>rfl
 | 2,_=>rfl
 | 3,_=>rfl
 | 4,_=>rfl
 | 5,_=>rfl
 | 6,_=>rfl
 | n + 7,h=>omega
theorem JfQ:labs.Nodup:=by decide +kernel
theorem table (ns:List Int) (at_:Int) (h0:0 <= at_) (M:Nat) (hM:M <= 4) (R:Nat) (hR:R <= 6):∃ rows:List Row,(∀ r ∈ rows,r.Ok M) /\ rows.map Row.l = labs.take rows.length /\ rows.length <= R /\ ∀ c,runD defs (c + 5) 20 [ofN ns,.int at_,.int M,.int R] = .ok (.tup (rows.map Row.d)):=by
 obtain ⟨m,hm,em⟩:=pick ns at_ ((R:Int) + 1) h0 (by omega)
 have hm:m <= R:=by omega
 have hk:∀ k:Nat,∃ r:Row,r.Ok M /\ r.l = lab k /\ ∀ c,runD defs (c + 4) 19 [ofN ns,.int (at_ + 1 + 30 * k),.int M] = .ok r.pd:=by
  intro k
  obtain ⟨ps,p1,p2,p3,p4,p5,p7,p6⟩:=patS ns (at_ + 1 + 30 * k) (by omega) M hM
  exact ⟨⟨lab k,ps⟩,⟨p1,p2,p3,p4,p5,p7⟩,rfl,p6⟩
 obtain ⟨f,hf⟩:=Classical.skolem.mp hk
 have h30:smallI 30 = true:=by decide
 refine ⟨(List.range m).map f,?_,?_,?_,fun c=>?_⟩
 ·intro r hr
  rw [List.mem_map] at hr
  obtain ⟨k,_,rfl⟩:=hr
  exact (hf k).1
 ·rw [List.map_map,List.length_map,List.length_range,<- Jgj m (by omega)]
  exact List.map_congr_left fun k _=>(hf k).2.1
 ·simpa using hm
 ·have hc:=Jej (runD defs (c + 4)) [some (ofN ns),some (.int at_),some (.int M),some (.int R),some (.lst [D.str (S "t"),D.str (S "p"),D.str (S "v"),D.str (S "q"),D.str (S "u"),D.str (S "s")]),some (.int m)] (.var 5)
   (.tup (.cons (.bi .idx (.var 5) (.var 0)) (.cons (.call 19 (.cons (.var 1) (.cons (.bi .add (.bi .add (.var 2) (.con (.int 1))) (.bi .mul (.con (.int 30)) (.var 0))) (.cons (.var 3) .nil)))) .nil))) m (by simp) (by omega) (fun k=>(f k).d) (by
    intro k hk
    have n2:=(hf k).2.2 c
    have n1:=JnK k (by omega)
    refine Jr _ _ (ds:=[.str (f k).l,(f k).pd]) ?_ (by simp)
    rw [(hf k).2.1]
    simp [n1,n2,h30])
  have hs:=em (c + 2)
  rw [JdC,b_law_table]
  rw [JaF _ _ (d:=.lst [D.str (S "t"),D.str (S "p"),D.str (S "v"),D.str (S "q"),D.str (S "u"),D.str (S "s")]) _ rfl,JaF _ _ (d:=.int m) _ (by simp [hs]),Jan]
  rw [List.map_map]
  exact Jx _ _ hc rfl
def hit (a:List Str) (r:Row):Bool:=(lawM r.ps a).isSome
def labD:Option Row -> D
 | none=>.non
 | some r=>.str r.l
theorem row0 (r:Row) (env:Fm) (call:CallD) (i:Nat) (h:env[i]? = some (some r.d)):evD call (.bi .idx (.var i) (.con (.int 0))) env = .ok (.str r.l):=by
 simp [h,Row.d]
theorem row1 (r:Row) (env:Fm) (call:CallD) (i:Nat) (h:env[i]? = some (some r.d)):evD call (.bi .idx (.var i) (.con (.int 1))) env = .ok r.pd:=by
 simp [h,Row.d]
structure Row.Fine (r:Row):Prop where
 rl:restLast r.ps
 len:r.ps.length <= 1000
theorem all_rows (rows:List Row) (h:∀ r ∈ rows,r.Fine) (hl:rows.length <= 1000) (a:List Str) (ha:∀ w ∈ a,w ∈ wsA) (c:Nat):runD defs (c + 4) 5 [.tup (rows.map Row.d),.tup (a.map .str)] = .ok (.lst ((rows.filter (hit a)).map fun r=>.str r.l)):=by
 rw [Jfz,b_all_rows,Jan]
 refine Jae _ _ Row.d (hit a) (fun r=>.str r.l) ?_ hl fun r hr=>⟨?_,fun _=>row0 r _ _ 0 rfl⟩
 ·simp [D.walk]
 ·have h1:=Jjf r.ps a c ha (h r hr).len
  rw [<- Jbe r.ps a (h r hr).rl] at h1
  refine JfI _ _ ?_
  simp [Row.d,Row.pd,h1,hit]
theorem first (rows:List Row) (h:∀ r ∈ rows,r.Fine) (hl:rows.length <= 1000) (a:List Str) (ha:∀ w ∈ a,w ∈ wsA) (c:Nat):runD defs (c + 5) 6 [.tup (rows.map Row.d),.tup (a.map .str)] = .ok (labD (rows.find? (hit a))):=by
 have h1:=all_rows rows h hl a ha c
 rw [<- List.head?_filter]
 generalize rows.filter (hit a) = fs at h1
 cases fs with
 | nil=>simp [Jhz,b_first,h1,labD]
 | cons r fs=>
  have:(0:Int) < (fs.length:Int) + 1:=by omega
  simp [Jhz,b_first,h1,labD,this]
theorem Joi (x y:Str):op2 .eq (.str x) (.str y) = .ok (.bl (x == y)):=by
 rw [o_eq _ _ (by simp [D.dep]) (by simp [D.dep])]; rfl
end K66
namespace K66
open PySem.Str (ofString)
open PySem Pu
def canB (w:Str) (r:Row):Bool:=match r.ps with
 | []=>false
 | p :: _=>p.fits w
def cutR (r:Row):Row:=match r.ps with
 | []=>r
 | p :: ps=>⟨r.l,if p.isRest then p :: ps else ps⟩
theorem can_begin (r:Row) (w:Str) (hw:w ∈ ws9) (c:Nat):runD defs (c + 3) 7 [r.pd,.str w] = .ok (.bl (canB w r)):=by
 obtain ⟨l,ps⟩:=r
 rw [Jei,b_can_begin,Jan]
 cases ps with
 | nil=>rfl
 | cons p ps=>
  have h1:=lets p w (ws_A hw) c
  refine JD _ _ (p:=true) (q:=p.fits w) (Jg _ _ (x:=.int ((ps.length:Int) + 1)) (y:=.int 0) (Jx _ _ rfl (by simp [op1,Row.pd])) rfl ?_) fun _=>Jk _ _ (ds:=[p.d,.str w]) (Je _ _ (Jg _ _ (x:=.tup ((p :: ps).map Part.d)) (y:=.int 0) rfl rfl (by simp)) rfl) h1
  simp only [op2,Rs.ok.injEq,D.bl.injEq,decide_eq_true_eq]
  omega
theorem Jci (r:Row) (h:r.ps ≠ []) (c:Nat):runD defs (c + 1) 8 [r.pd] = .ok (cutR r).pd:=by
 obtain ⟨l,ps⟩:=r
 rw [JZ,b_without_first_word,Jan]
 cases ps with
 | nil=>exact absurd rfl h
 | cons p ps=>
  have h0:evD (runD defs c) (.bi .idx (.var 0) (.con (.int 0))) [some (Row.pd ⟨l,p :: ps⟩)] = .ok p.d:=Jg _ _ (x:=.tup ((p :: ps).map Part.d)) (y:=.int 0) rfl rfl (by simp)
  have h1:evD (runD defs c) (.bi .eq (.bi .idx (.bi .idx (.var 0) (.con (.int 0))) (.con (.int 0))) (.con (.str (S "rest")))) [some (Row.pd ⟨l,p :: ps⟩)] = .ok (.bl p.isRest):=by
   rw [e_bi,e_bi,h0]
   cases p <;> simp [Part.d,Part.isRest,Joi]
  rw [JnZ,h1]
  cases hp:p.isRest with
  | true=>simp [cutR,hp,Row.pd]
  | false=>simp [cutR,hp,Row.pd,cut1,op1]
theorem below (rows:List Row) (hl:rows.length <= 1000) (w:Str) (hw:w ∈ ws9) (c:Nat):runD defs (c + 4) 9 [.tup (rows.map Row.d),.str w] = .ok (.tup (((rows.filter (canB w)).map cutR).map Row.d)):=by
 rw [Jlo,b_below,Jan]
 refine Jx _ _ (Jae _ _ Row.d (canB w) (fun r=>(cutR r).d) rfl hl fun r _=>⟨JfI _ _ (Jk _ _ (ds:=[r.pd,.str w]) (Je _ _ (row1 r _ _ 0 rfl) rfl) (can_begin r w hw c)),fun hc=>?_⟩) (by rw [List.map_map]; rfl)
 have h0:r.ps ≠ []:=fun e=>by rw [canB,e] at hc; cases hc
 have hl:(cutR r).l = r.l:=by unfold cutR; split <;> rfl
 have:=Jci r h0 (c + 2)
 show _ = Rs.ok (D.tup [.str (cutR r).l,(cutR r).pd])
 rw [hl]
 exact Jr _ _ (Je _ _ (row0 r _ _ 0 rfl) (Je _ _ (JdO _ _ (row1 r _ _ 0 rfl) this) rfl)) (by simp)
theorem JkL (w:Str) (a:List Str) (r:Row):(canB w r && hit a (cutR r)) = hit (w :: a) r:=by
 obtain ⟨l,ps⟩:=r
 cases ps with
 | nil=>rfl
 | cons p ps=>
  cases hp:p.isRest with
  | true=>
   have hf:p.fits w = true:=by cases p <;> first | rfl | cases hp
   simp [canB,cutR,hit,hp,hf,lawM]
  | false=>
   cases hf:p.fits w <;> simp [canB,cutR,hit,hp,hf,lawM]
theorem JeN (w:Str) (a:List Str):∀ rows:List Row,labD (((rows.filter (canB w)).map cutR).find? (hit a)) = labD (rows.find? (hit (w :: a)))
 | []=>rfl
 | r :: rows=>by
  have ih:=JeN w a rows
  have h:=JkL w a r
  have hl:(cutR r).l = r.l:=by unfold cutR; split <;> rfl
  rw [List.find?_cons,<- h,List.filter_cons]
  cases hc:canB w r with
  | false=>simpa using ih
  | true=>
   cases hh:hit a (cutR r) with
   | true=>simp [hh,labD,hl]
   | false=>simpa [hh] using ih
theorem Jnk (r:Row) (h:restLast r.ps):restLast (cutR r).ps:=by
 unfold cutR
 split
 ·exact h
 ·rename_i p ps e
  rw [e] at h
  cases hp:p.isRest with
  | true=>simpa [hp] using h
  | false=>simpa [hp] using h.2
theorem JiS (w:Str) (rows:List Row) (h:∀ r ∈ rows,r.Fine):∀ r ∈ (rows.filter (canB w)).map cutR,r.Fine:=by
 intro r hr
 rw [List.mem_map] at hr
 obtain ⟨q,hq,rfl⟩:=hr
 have hq:=h q (List.mem_filter.mp hq).1
 refine ⟨Jnk q hq.rl,Nat.le_trans ?_ hq.len⟩
 unfold cutR
 split
 ·exact Nat.le_refl _
 ·rename_i p ps e
  rw [e]
  simp only []
  split <;> simp
def tabD (rs:List Row):D:=.tup (rs.map Row.d)
theorem JlY (p:Part):sdD p.d = true:=by
 have:∀ ws:List Str,sdDs (ws.map D.str) = true:=fun ws=>by induction ws with
  | nil=>rfl
  | cons w ws ih=>simp [sdDs,sdD,ih]
 cases p <;> simp [Part.d,sdD,sdDs,this]
theorem JiC {p q:Part} (h:p.d = q.d):p = q:=by
 have hs:∀ us vs:List Str,us.map D.str = vs.map D.str -> us = vs:=fun us=>by
  induction us with
  | nil=>intro vs e; cases vs with
   | nil=>rfl
   | cons _ _=>simp at e
  | cons u us ih=>intro vs e; cases vs with
   | nil=>simp at e
   | cons v vs=>
    simp only [List.map_cons,List.cons.injEq,D.str.injEq] at e
    rw [e.1,ih vs e.2]
 have h0:=h
 cases p <;> cases q <;> simp [Part.d,JaK] at h
 ·rw [h]
 ·rename_i n us m vs
  have e:us.map D.str = vs.map D.str:=by
   simp only [Part.d,D.tup.injEq,List.cons.injEq] at h0
   exact h0.2.2.1
  rw [h.1,hs _ _ e]
 ·rw [h]
 ·rw [h]
 ·rw [h]
theorem JjW:∀ {ps qs:List Part},ps.map Part.d = qs.map Part.d -> ps = qs
 | [],[],_=>rfl
 | [],_ :: _,h=>by simp at h
 | _ :: _,[],h=>by simp at h
 | p :: ps,q :: qs,h=>by
  simp only [List.map_cons,List.cons.injEq] at h
  rw [JiC h.1,JjW h.2]
theorem JkB {r q:Row} (h:r.d = q.d):r = q:=by
 obtain ⟨l,ps⟩:=r
 obtain ⟨m,qs⟩:=q
 simp only [Row.d,Row.pd,D.tup.injEq,List.cons.injEq,D.str.injEq,and_true] at h
 rw [h.1,JjW h.2]
theorem JeE:∀ {rs qs:List Row},rs.map Row.d = qs.map Row.d -> rs = qs
 | [],[],_=>rfl
 | [],_ :: _,h=>by simp at h
 | _ :: _,[],h=>by simp at h
 | p :: ps,q :: qs,h=>by
  simp only [List.map_cons,List.cons.injEq] at h
  rw [JkB h.1,JeE h.2]
theorem JnH (rs:List Row):sdD (tabD rs) = true:=by
 have h1:∀ ps:List Part,sdDs (ps.map Part.d) = true:=fun ps=>by induction ps with
  | nil=>rfl
  | cons p ps ih=>simp [sdDs,JlY,ih]
 have h2:∀ rs:List Row,sdDs (rs.map Row.d) = true:=fun rs=>by induction rs with
  | nil=>rfl
  | cons r rs ih=>simp [sdDs,Row.d,Row.pd,sdD,h1,ih]
 exact h2 rs
theorem Jcs:Inj tabD:=Inj.of JnH fun a b h=>by
 simp only [tabD,D.tup.injEq] at h
 exact JeE h
def labO:Option Str -> D
 | none=>.non
 | some x=>.str x
theorem Js:Inj labO:=Inj.of (fun a=>by cases a <;> rfl) fun a b h=>by cases a <;> cases b <;> simp [labO] at h <;> first | rfl | (rw [h])
structure KOk (r:Row):Prop where
 l:r.l ∈ labs
 f:r.Fine
 n:∀ p ∈ r.ps,p.srt /\ p.hole.Sublist names5
theorem Jeo:∀ w ∈ pool,banD w = false:=by decide +kernel
theorem JgO:∀ w ∈ names5,banD w = false:=by decide +kernel
theorem JiI:∀ w ∈ labs,banD w = false:=by decide +kernel
theorem Jit {p:Part} (h1:p.srt) (h2:p.hole.Sublist names5):keyTr p.d = true /\ banC p.d = 0 /\ p.d.dep <= 2:=by
 have hn:p.isWord = false -> banD p.name = false:=fun e=>JgO _ (h2.subset (by simp [Part.hole,e]))
 have one:∀ b:Bool,(if b = true then 1 else 0) <= 1:=fun b=>by cases b <;> decide
 cases p with
 | word x=>
  have:=Jeo x h1
  exact ⟨by simp [Part.d,keyTr,keyTrs,banC,this,one],rfl,by simp [Part.d,D.dep,deps]⟩
 | one n ws=>
  have e:=hn rfl
  have h3:∀ l:List Str,(∀ w ∈ l,w ∈ pool) -> ((l.map D.str).map banC).sum = 0 /\ keyTrs (l.map D.str) = true /\ deps (l.map D.str) = 0:=fun l=>by
   induction l with
   | nil=>intro _; exact ⟨rfl,rfl,rfl⟩
   | cons w l ih=>
    intro hw
    obtain ⟨i1,i2,i3⟩:=ih fun v hv=>hw v (List.mem_cons_of_mem _ hv)
    have:=Jeo w (hw w List.mem_cons_self)
    exact ⟨by simp only [List.map_cons,List.sum_cons,banC,this,i1]; rfl,by simp [keyTrs,keyTr,i2],by simp [deps,D.dep,i3]⟩
  obtain ⟨i1,i2,i3⟩:=h3 ws h1.1.2
  have e:banD n = false:=e
  exact ⟨by simp only [Part.d,keyTr,keyTrs,i1,i2,List.map_cons,List.map_nil,List.sum_cons,List.sum_nil,banC,e]; simp [one],rfl,by simp [Part.d,D.dep,deps,i3]⟩
 | any n=>have e:banD n = false:=hn rfl; exact ⟨by simp [Part.d,keyTr,keyTrs,banC,e,one],rfl,by simp [Part.d,D.dep,deps]⟩
 | number n=>have e:banD n = false:=hn rfl; exact ⟨by simp [Part.d,keyTr,keyTrs,banC,e,one],rfl,by simp [Part.d,D.dep,deps]⟩
 | rest n=>have e:banD n = false:=hn rfl; exact ⟨by simp [Part.d,keyTr,keyTrs,banC,e,one],rfl,by simp [Part.d,D.dep,deps]⟩
theorem JcJ:∀ {ps:List Part},(∀ p ∈ ps,p.srt /\ p.hole.Sublist names5) -> keyTrs (ps.map Part.d) = true /\ ((ps.map Part.d).map banC).sum = 0 /\ deps (ps.map Part.d) <= 2
 | [],_=>⟨rfl,rfl,Nat.zero_le _⟩
 | p :: ps,h=>by
  obtain ⟨i1,i2,i3⟩:=JcJ (ps:=ps) fun q hq=>h q (List.mem_cons_of_mem _ hq)
  obtain ⟨j1,j2,j3⟩:=Jit (h p List.mem_cons_self).1 (h p List.mem_cons_self).2
  exact ⟨by simp [keyTrs,i1,j1],by simp only [List.map_cons,List.sum_cons,i2,j2],by simp only [List.map_cons,deps]; omega⟩
theorem Jfr:∀ {rs:List Row},(∀ r ∈ rs,KOk r) -> keyTrs (rs.map Row.d) = true /\ ((rs.map Row.d).map banC).sum = 0 /\ deps (rs.map Row.d) <= 4
 | [],_=>⟨rfl,rfl,Nat.zero_le _⟩
 | r :: rs,h=>by
  obtain ⟨i1,i2,i3⟩:=Jfr (rs:=rs) fun q hq=>h q (List.mem_cons_of_mem _ hq)
  obtain ⟨j1,j2,j3⟩:=JcJ (h r List.mem_cons_self).n
  have e:=JiI _ (h r List.mem_cons_self).l
  have z:keyTr r.d = true /\ banC r.d = 0 /\ r.d.dep <= 4:=⟨by simp [Row.d,Row.pd,keyTr,keyTrs,j1,j2,banC,e,-List.map_map],rfl,by simp only [Row.d,Row.pd,D.dep,deps]; omega⟩
  exact ⟨by simp [keyTrs,i1,z.1],by simp only [List.map_cons,List.sum_cons,i2,z.2.1],by simp only [List.map_cons,deps]; have:=z.2.2; omega⟩
theorem JgC {rs:List Row} (h:∀ r ∈ rs,KOk r):keyD true (tabD rs) = true:=by
 obtain ⟨i1,i2,i3⟩:=Jfr h
 simp only [tabD,keyD,keyTr,i1,i2,Bool.true_and,Bool.and_true]
 have:decide (deps (rs.map Row.d) <= 7) = true:=decide_eq_true (by omega)
 simp [this]
theorem JbT (o:Option Str):keyD false (labO o) = true:=by cases o <;> rfl
def belw (rs:List Row) (w:Str):List Row:=(rs.filter (canB w)).map cutR
theorem Jgb {rs:List Row} (h:∀ r ∈ rs,KOk r) (w:Str):∀ r ∈ belw rs w,KOk r:=fun r hr=>by
 have hf:=JiS w rs (fun r hr=>(h r hr).f) r hr
 obtain ⟨q,hq,rfl⟩:=List.mem_map.mp hr
 have hq:=h q (List.mem_filter.mp hq).1
 refine ⟨?_,hf,fun p hp=>hq.n p ?_⟩
 ·have:(cutR q).l = q.l:=by unfold cutR; split <;> rfl
  rw [this]; exact hq.l
 ·unfold cutR at hp
  split at hp
  ·exact hp
  ·rename_i p' ps e
   rw [e]
   split at hp
   ·exact hp
   ·exact List.mem_cons_of_mem _ hp
theorem Jjc (rs:List Row) (w:Str):(belw rs w).length <= rs.length:=by
 rw [belw,List.length_map]; exact List.length_filter_le _ _
def bel (rs:List Row):List Str -> List Row
 | []=>rs
 | w :: a=>bel (belw rs w) a
theorem Jfi (w:Str):∀ (a:List Str) (rs:List Row),bel rs (a ++ [w]) = belw (bel rs a) w
 | [],rs=>rfl
 | v :: a,rs=>Jfi w a (belw rs v)
def fl (rs:List Row) (a:List Str):Option Str:=(rs.find? (hit a)).map Row.l
theorem JdH (o:Option Row):labD o = labO (o.map Row.l):=by cases o <;> rfl
theorem Jnz (w:Str) (a:List Str) (rs:List Row):fl (belw rs w) a = fl rs (w :: a):=by
 have:=JeN w a rs
 rw [JdH,JdH] at this
 exact (Js _ _).mp (by
  show (labO (((rs.filter (canB w)).map cutR).find? (hit a) |>.map Row.l)).eqv (labO ((rs.find? (hit (w :: a))).map Row.l)) = true
  rw [this]; exact (Js _ _).mpr rfl)
theorem Jkm (b:List Str):∀ (a:List Str) (rs:List Row),fl (bel rs a) b = fl rs (a ++ b)
 | [],rs=>rfl
 | w :: a,rs=>by rw [bel,Jkm b a,Jnz]; rfl
end K66
namespace K66
open PySem.Str (ofString)
open PySem Pu
def ptAt (ps:List Part) (i:Nat):Part:=(ps[i]?).getD ((ps.getLast?).getD (.rest (S "")))
theorem JjG (ps:List Part) (h0:ps ≠ []):atD (ps.map Part.d) (-1) = some (ps.getLast h0).d:=by
 have hp:0 < ps.length:=List.length_pos_iff.mpr h0
 have h1:¬ ((0:Int) <= -1):=by omega
 have h2:-((ps.map Part.d).length:Int) <= -1:=by rw [List.length_map]; omega
 have h3:(-1 + ((ps.map Part.d).length:Int)).toNat = ps.length - 1:=by rw [List.length_map]; omega
 simp only [atD,ixn,if_neg h1,if_pos h2,h3,Option.bind_some]
 rw [List.getElem?_map,List.getElem?_eq_getElem (by omega),List.getLast_eq_getElem]
 rfl
theorem JdL (ps:List Part) (i:Nat) (h:i < ps.length \/ lastRest ps = true) (c:Nat):runD defs (c + 2) 10 [.tup (ps.map Part.d),.int i] = .ok (ptAt ps i).d:=by
 rw [JhA,b_part_at,Jw (p:=decide ((i:Int) < (ps.length:Int))) _ _ _ _ (Jg _ _ (x:=.int i) (y:=.int ps.length) rfl (Jx _ _ (x:=.tup (ps.map Part.d)) rfl (by simp)) rfl)]
 by_cases q:i < ps.length
 ·rw [decide_eq_true (by omega),if_pos rfl]
  refine Jg _ _ (x:=.tup (ps.map Part.d)) (y:=.int i) rfl rfl ?_
  rw [JbH,atN _ _ (by simpa using q)]
  simp [ptAt,q]
 ·have hr:=h.resolve_left q
  have h0:ps ≠ []:=fun e=>by subst e; cases hr
  rw [decide_eq_false (by omega),if_neg Bool.false_ne_true,Jan,e_if _ _ (JfI _ _ (JdO _ _ (x:=.tup (ps.map Part.d)) rfl (has_rest ps c))),hr,if_pos rfl]
  refine Jg _ _ (x:=.tup (ps.map Part.d)) (y:=.int (-1)) rfl rfl ?_
  rw [JbH,JjG ps h0]
  simp [ptAt,List.getElem?_eq_none (Nat.le_of_not_lt q),List.getLast?_eq_some_getLast h0]
def fitN (ps:List Part) (n:Nat):Bool:=fit ps (List.replicate n (S ""))
theorem JiU (ps:List Part) (n:Nat) (c:Nat):runD defs (c + 2) 3 [.tup (ps.map Part.d),.int n] = .ok (.bl (fitN ps n)):=by
 have:=Jid ps (List.replicate n (S "")) c
 rwa [List.length_replicate] at this
theorem JlF (ps:List Part) (a:List Str):fitN ps a.length = fit ps a:=by
 unfold fitN fit
 rw [List.length_replicate]
theorem Jly {ps:List Part} {n i:Nat} (h:fitN ps n = true) (hi:i < n):i < ps.length \/ lastRest ps = true:=by
 unfold fitN fit at h
 rw [List.length_replicate] at h
 cases q:lastRest ps with
 | true=>exact .inr rfl
 | false=>
  rw [q] at h
  have:(n:Int) = ps.length:=by simpa using h
  exact .inl (by omega)
def fA (pss:List (List Part)) (i:Nat) (w:Str):Bool:=pss.all fun ps=>(ptAt ps i).fits w
def patsD (pss:List (List Part)):List D:=pss.map fun ps=>.tup (ps.map Part.d)
def talN (pss:List (List Part)) (ws:List Str) (n:Nat):Nat:=if pss.all (fun ps=>fitN ps n) then prodN ws (fA pss) n else 0
theorem JcX (pss:List (List Part)) (ws:List Str) (n:Nat) (hw:∀ w ∈ ws,w ∈ ws9) (hl:ws.length <= 1000) (hn:n <= 1000) (hp:pss.length <= 1000) (c:Nat):runD defs (c + 3) 11 [.lst (patsD pss),.tup (ws.map .str),.int n] = .ok (.int (talN pss ws n)):=by
 have g:evD (runD defs (c + 2)) (.un .all (.comp 0 (.walk (.var 0)) (.con (.bl true)) (.call 3 (.cons (.var 0) (.cons (.var 3) .nil))))) [some (.lst (patsD pss)),some (.tup (ws.map .str)),some (.int n),none,none,none] = .ok (.bl (pss.all fun ps=>fitN ps n)):=
  Jki _ _ (fun ps:List Part=>D.tup (ps.map Part.d)) (fun ps=>fitN ps n) rfl hp fun ps _=>Jk _ _ (ds:=[.tup (ps.map Part.d),.int n]) rfl (JiU ps n c)
 rw [JbD,b_tally_of_all,Jw _ _ _ _ (Jkf _ _ (JfI _ _ g)),talN]
 cases q:pss.all fun ps=>fitN ps n with
 | false=>rfl
 | true=>
  simp only [Bool.not_true,Bool.false_eq_true,if_false,if_true]
  rw [JaF _ _ _ (d:=.int 1) rfl]
  simp only [List.set_cons_succ,List.set_cons_zero]
  obtain ⟨env',h1,x4,x5,rfl⟩:=JS (runD defs (c + 2)) (.seq (.set false 5 (.comp 0 (.walk (.var 0)) (.con (.bl true)) (.call 10 (.cons (.var 0) (.cons (.var 5) .nil)))))
   (.set true 3 (.bi .mulI (.var 3) (.un .len (.comp 0 (.walk (.var 1)) (.un .truth (.un .all (.comp 0 (.walk (.var 6)) (.con (.bl true)) (.call 2 (.cons (.var 0) (.cons (.var 1) .nil)))))) (.var 0)))))) 4 (.var 2) n
   (fun k env=>∃ x4 x5,env = [some (.lst (patsD pss)),some (.tup (ws.map .str)),some (.int n),some (.int (prodN ws (fA pss) k)),x4,x5]) [some (.lst (patsD pss)),some (.tup (ws.map .str)),some (.int n),some (.int 1),none,none] rfl hn (by
    rintro k env hk ⟨x4,x5,rfl⟩
    refine ⟨_,?_,some (.int k),some (.lst (pss.map fun ps=>(ptAt ps k).d)),rfl⟩
    have e1:evD (runD defs (c + 2)) (.comp 0 (.walk (.var 0)) (.con (.bl true)) (.call 10 (.cons (.var 0) (.cons (.var 5) .nil)))) [some (.lst (patsD pss)),some (.tup (ws.map .str)),some (.int n),some (.int (prodN ws (fA pss) k)),some (.int k),x5] = .ok (.lst (pss.map fun ps=>(ptAt ps k).d)):=
     Jai _ _ (fun ps:List Part=>D.tup (ps.map Part.d)) (fun ps=>(ptAt ps k).d) rfl hp fun ps hps=>Jk _ _ (ds:=[.tup (ps.map Part.d),.int k]) rfl (JdL ps k (Jly (List.all_eq_true.mp q ps hps) hk) c)
    have e2:evD (runD defs (c + 2)) (.comp 0 (.walk (.var 1)) (.un .truth (.un .all (.comp 0 (.walk (.var 6)) (.con (.bl true)) (.call 2 (.cons (.var 0) (.cons (.var 1) .nil)))))) (.var 0)) [some (.lst (patsD pss)),some (.tup (ws.map .str)),some (.int n),some (.int (prodN ws (fA pss) k)),some (.int k),some (.lst (pss.map fun ps=>(ptAt ps k).d))] = .ok (.lst ((ws.filter (fA pss k)).map .str)):=
     Jae _ _ D.str (fA pss k) D.str rfl hl fun w hw'=>⟨JfI _ _ (Jki _ _ (fun ps=>(ptAt ps k).d) (fun ps=>(ptAt ps k).fits w) rfl hp fun ps _=>Jk _ _ (ds:=[(ptAt ps k).d,.str w]) rfl (lets _ w (ws_A (hw w hw')) c)),fun _=>rfl⟩
    have hf:(ws.filter (fA pss k)).length <= 1000:=Nat.le_trans (List.length_filter_le _ _) hl
    have e3:op2 .mulI (.int (prodN ws (fA pss) k)) (.int ((ws.filter (fA pss k)).map D.str).length) = .ok (.int (prodN ws (fA pss) (k + 1))):=by
     simp only [op2,List.length_map,Jnb _ hf,Bool.or_true,if_true,prodN,Int.natCast_mul]
    show exD _ (.seq _ _) [some (.lst (patsD pss)),some (.tup (ws.map .str)),some (.int n),some (.int (prodN ws (fA pss) k)),some (.int k),x5] = _
    rw [JcV _ _ _ e1,Jlt]
    show (evD _ _ [some (.lst (patsD pss)),some (.tup (ws.map .str)),some (.int n),some (.int (prodN ws (fA pss) k)),some (.int k),some (.lst (pss.map fun ps=>(ptAt ps k).d))]).bind _ = _
    rw [Jg _ _ (x:=.int (prodN ws (fA pss) k)) rfl (Jx _ _ e2 (JnG _)) e3]
    rfl) ⟨none,none,rfl⟩
  rw [Jaj _ _ _ h1,Jan]
  rfl
theorem JhF (p:Part) (ps:List Part) (h:ps ≠ []) (i:Nat):ptAt (p :: ps) (i + 1) = ptAt ps i:=by
 unfold ptAt
 rw [List.getElem?_cons_succ,List.getLast?_cons,List.getLast?_eq_some_getLast h]
 simp
theorem Jbl (f:Nat -> Str -> Bool):∀ (a:List Str) (k:Nat),allAt f (k + 1) a = allAt (fun i w=>f (i + 1) w) k a
 | [],_=>rfl
 | w :: a,k=>by simp only [allAt,Jbl f a (k + 1)]
theorem Jag {f g:Nat -> Str -> Bool} (h:∀ i w,f i w = g i w):f = g:=funext fun i=>funext fun w=>h i w
theorem Jgl:∀ (ps:List Part) (a:List Str),restLast ps -> fit ps a = true -> (zbl ps a).all id = allAt (fun i w=>(ptAt ps i).fits w) 0 a
 | [],a,_,h=>by
  have:a = []:=by simpa [fit,lastRest] using h
  subst this; rfl
 | p :: ps,[],_,_=>rfl
 | p :: ps,w :: a,hr,h=>by
  have e0:ptAt (p :: ps) 0 = p:=rfl
  simp only [zbl,List.all_cons,allAt,e0,id]
  cases hp:p.isRest with
  | true=>
   have hps:=hr.1 hp
   subst hps
   have e1:∀ i,ptAt [p] i = p:=fun i=>by cases i <;> rfl
   have hf:∀ w,p.fits w = true:=fun w=>by cases p <;> first | rfl | cases hp
   have:∀ (b:List Str) (k:Nat),allAt (fun i w=>(ptAt [p] i).fits w) k b = true:=fun b=>by
    induction b with
    | nil=>intro k; rfl
    | cons v b ih=>intro k; rw [allAt,ih,e1,hf]; rfl
   simp [hf,zbl,this]
  | false=>
   by_cases q:ps = []
   ·subst q
    have:a = []:=by
     have h':(a.length:Int) + 1 = 1:=by simpa [fit,lastRest,hp] using h
     exact List.length_eq_zero_iff.mp (by omega)
    subst this
    simp [zbl,allAt]
   ·have hf:fit ps a = true:=by
     unfold fit at h ⊢
     rw [Jbj p ps hp] at h
     cases hl:lastRest ps with
     | true=>
      rw [hl] at h
      simp only [List.length_cons,if_true,decide_eq_true_eq] at h ⊢
      omega
     | false=>
      rw [hl] at h
      simp only [List.length_cons,Bool.false_eq_true,if_false,beq_iff_eq] at h ⊢
      omega
    rw [Jgl ps a hr.2 hf,Jbl]
    have:(fun i w=>(ptAt (p :: ps) (i + 1)).fits w) = fun i w=>(ptAt ps i).fits w:=Jag fun i w=>by rw [JhF p ps q]
    rw [this]
theorem Jim (r:Row) (h:restLast r.ps) (a:List Str):hit a r = (fitN r.ps a.length && allAt (fun i w=>(ptAt r.ps i).fits w) 0 a):=by
 rw [hit,Jbe _ _ h,JlF]
 cases q:fit r.ps a with
 | false=>rfl
 | true=>rw [Jgl _ _ h q]
theorem JcT (f g:Nat -> Str -> Bool):∀ (a:List Str) (k:Nat),allAt (fun i w=>f i w && g i w) k a = (allAt f k a && allAt g k a)
 | [],_=>rfl
 | w :: a,k=>by
  simp only [allAt,JcT f g a (k + 1)]
  cases f k w <;> cases g k w <;> cases allAt f (k + 1) a <;> cases allAt g (k + 1) a <;> rfl
theorem JM {α:Type} {p q:α -> Bool}:∀ {l:List α},(∀ a ∈ l,p a = q a) -> l.filter p = l.filter q:=fun {l} h=>List.filter_congr h
theorem JkQ (r:Row) (h:restLast r.ps) (ws:List Str) (n:Nat):talN [r.ps] ws n = ((ev ws n).filter fun a=>hit a r).length:=by
 rw [JM (q:=fun a=>fitN r.ps n && allAt (fA [r.ps]) 0 a) fun a ha=>by
  rw [Jim r h,(JbI ha).1]
  have:(fun i w=>(ptAt r.ps i).fits w) = fA [r.ps]:=Jag fun i w=>by simp [fA]
  rw [this]]
 unfold talN
 simp only [List.all_cons,List.all_nil,Bool.and_true]
 cases fitN r.ps n with
 | true=>simp only [if_true,Bool.true_and]; exact (Jay ws _ n).symm
 | false=>simp only [Bool.false_eq_true,if_false,Bool.false_and]; rw [List.filter_eq_nil_iff.mpr fun _ _=>Bool.false_ne_true]; rfl
theorem Jll (r q:Row) (h:restLast r.ps) (h':restLast q.ps) (ws:List Str) (n:Nat):talN [r.ps,q.ps] ws n = ((ev ws n).filter fun a=>hit a r && hit a q).length:=by
 rw [JM (q:=fun a=>(fitN r.ps n && fitN q.ps n) && allAt (fA [r.ps,q.ps]) 0 a) fun a ha=>by
  rw [Jim r h,Jim q h',(JbI ha).1]
  have:fA [r.ps,q.ps] = fun i w=>(ptAt r.ps i).fits w && (ptAt q.ps i).fits w:=Jag fun i w=>by simp [fA]
  rw [this,JcT]
  cases fitN r.ps n <;> cases fitN q.ps n <;> simp]
 unfold talN
 simp only [List.all_cons,List.all_nil,Bool.and_true]
 cases fitN r.ps n && fitN q.ps n with
 | true=>simp only [if_true,Bool.true_and]; exact (Jay ws _ n).symm
 | false=>simp only [Bool.false_eq_true,if_false,Bool.false_and]; rw [List.filter_eq_nil_iff.mpr fun _ _=>Bool.false_ne_true]; rfl
end K66
namespace K66
open PySem.Str (ofString)
open PySem Pu
abbrev Cnt:=List (List Row × Int)
def stp (ws:List Str) (cc:Cnt):Cnt:=cc.foldl (fun fu p=>bumps tabD (fun w=>belw p.1 w) (fun _=>p.2) ws fu) []
theorem Jak (ws:List Str) (cc:Cnt) (p:List Row × Int):stp ws (cc ++ [p]) = bumps tabD (fun w=>belw p.1 w) (fun _=>p.2) ws (stp ws cc):=by
 simp [stp]
theorem JaW {α:Type} {P:List α -> Prop} (h0:P []) (h1:∀ l x,P l -> P (l ++ [x])):∀ l,P l:=fun l=>by
 have:∀ m:List α,P m.reverse:=fun m=>by
  induction m with
  | nil=>exact h0
  | cons x m ih=>rw [List.reverse_cons]; exact h1 _ _ ih
 simpa using this l.reverse
theorem JfY (ws:List Str):∀ cc:Cnt,(stp ws cc).length <= cc.length * ws.length:=
 JaW (Nat.zero_le _) fun cc p ih=>by
  rw [Jak,List.length_append,Nat.add_mul]
  have:=JQ (g:=tabD) (fun w=>belw p.1 w) (fun _=>p.2) ws (stp ws cc)
  simp only [List.length_cons,List.length_nil]
  omega
theorem Jlw (ws:List Str):∀ cc:Cnt,Dst (stp ws cc):=JaW (by simp [stp,Dst]) fun cc p ih=>by
 rw [Jak]; exact Ju Jcs _ _ _ _ ih
def KRs (N:Nat) (rs:List Row):Prop:=(∀ r ∈ rs,KOk r) /\ rs.length <= N
theorem JmV (ws:List Str) {N:Nat}:∀ cc:Cnt,(∀ p ∈ cc,KRs N p.1) -> ∀ p ∈ stp ws cc,KRs N p.1:=JaW (fun _ p h=>by simp [stp] at h) fun cc p ih h=>by
 rw [Jak]
 refine JcH _ _ (KRs N) _ _ (ih fun q hq=>h q (by simp [hq])) fun w _=>?_
 have hp:=h p (by simp)
 exact ⟨Jgb hp.1 w,Nat.le_trans (Jjc _ _) hp.2⟩
theorem Jfl {α:Type} (f:α -> List Int):∀ l:List α,(l.flatMap f).sum = (l.map fun a=>(f a).sum).sum
 | []=>rfl
 | a :: l=>by rw [List.flatMap_cons,List.sum_append,Jfl f l]; rfl
theorem JhJ (c:Int):∀ l:List Int,(l.map fun x=>c * x).sum = c * l.sum
 | []=>by simp
 | x :: l=>by simp only [List.map_cons,List.sum_cons,JhJ c l,Int.mul_add]
theorem Jmw (ws:List Str) (f:List Row -> Int):∀ cc:Cnt,wt f (stp ws cc) = wt (fun rs=>(ws.map fun w=>f (belw rs w)).sum) cc:=JaW rfl fun cc p ih=>by
 rw [Jak,JaR Jcs,ih]
 have:(ws.map fun w=>p.2 * f (belw p.1 w)).sum = p.2 * (ws.map fun w=>f (belw p.1 w)).sum:=by rw [<- JhJ,List.map_map]; rfl
 rw [this]
 simp [wt]
def cntT (ws:List Str) (T:List Row):Nat -> Cnt
 | 0=>[(T,1)]
 | n + 1=>stp ws (cntT ws T n)
theorem Jed (ws:List Str) (T:List Row):∀ n,(cntT ws T n).length <= ws.length ^ n
 | 0=>Nat.le_refl _
 | n + 1=>Nat.le_trans (JfY ws _) (by rw [Nat.pow_succ]; exact Nat.mul_le_mul_right _ (Jed ws T n))
theorem Jhy (ws:List Str) {T:List Row} {N:Nat} (h:KRs N T):∀ n,∀ p ∈ cntT ws T n,KRs N p.1
 | 0=>fun p hp=>by simp [cntT] at hp; rw [hp]; exact h
 | n + 1=>JmV ws _ (Jhy ws h n)
theorem JjT (ws:List Str) (T:List Row):∀ (n:Nat) (f:List Row -> Int),wt f (cntT ws T n) = ((ev ws n).map fun a=>f (bel T a)).sum
 | 0,f=>by simp [cntT,wt,ev,bel]
 | n + 1,f=>by
  rw [cntT,Jmw,JjT ws T n,ev,List.map_flatMap,Jfl]
  simp only [List.map_map,Function.comp_def,Jfi]
theorem Jov {x n:Nat} (hx:x <= 4) (hn:n <= 4):x ^ n <= 256:=Nat.le_trans (Nat.pow_le_pow_left hx n) (Nat.le_trans (Nat.pow_le_pow_right (by omega) hn) (by decide))
def dcT (z:Bool) (cc:Cnt):D:=.dct true z (ksOf tabD cc) (vsOf cc)
def tbW:Sx:=(.seq (.set false 9 (.call 9 (.cons (.var 6) (.cons (.var 8) .nil))))
  (.put true true 5 (.var 9) (.bi .add (.bi (.dGz true) (.var 5) (.var 9)) (.var 7))))
def tbT:Sx:=(.seq (.ownD true 5)
  (.seq (.loop false [6,7] 2 (.un .items (.var 3)) (.loop false [8] 0 (.walk (.var 1)) tbW))
  (.movF 3 5)))
theorem JiE (ws:List Str) (hw:∀ w ∈ ws,w ∈ ws9) {rs:List Row} {N:Nat} (hr:KRs N rs) (hN:N <= 1000) (cn:Int) (fu:Cnt) (hd:Dst fu) (hl:fu.length + ws.length < 1000) (c:Nat) (x0 x2 x3 x4 x8 x9:Option D) :
  ∃ y8 y9,exD (runD defs (c + 4)) (.loop false [8] 0 (.walk (.var 1)) tbW) [x0,some (.tup (ws.map .str)),x2,x3,x4,some (dcT false fu),some (tabD rs),some (.int cn),x8,x9] = .ok (.nx,[x0,some (.tup (ws.map .str)),x2,x3,x4,some (dcT false (bumps tabD (fun w=>belw rs w) (fun _=>cn) ws fu)),some (tabD rs),some (.int cn),y8,y9]):=by
 obtain ⟨env',h1,y8,y9,rfl⟩:=JA (runD defs (c + 4)) tbW [8] 0 (.walk (.var 1)) D.str ws (fun pre env=>∃ y8 y9,env = [x0,some (.tup (ws.map .str)),x2,x3,x4,some (dcT false (bumps tabD (fun w=>belw rs w) (fun _=>cn) pre fu)),some (tabD rs),some (.int cn),y8,y9]) [x0,some (.tup (ws.map .str)),x2,x3,x4,some (dcT false fu),some (tabD rs),some (.int cn),x8,x9] rfl (by
  rintro pre w post env e ⟨y8,y9,rfl⟩
  refine ⟨_,rfl,_,?_,some (.str w),some (tabD (belw rs w)),rfl⟩
  have hl2:(bumps tabD (fun w=>belw rs w) (fun _=>cn) pre fu).length < 1000:=by
   have:=JQ (g:=tabD) (fun w=>belw rs w) (fun _=>cn) pre fu
   have:pre.length < ws.length:=by rw [e]; simp
   omega
  show exD _ (.seq _ _) [x0,some (.tup (ws.map .str)),x2,x3,x4,some (dcT false (bumps tabD (fun w=>belw rs w) (fun _=>cn) pre fu)),some (tabD rs),some (.int cn),some (.str w),y9] = _
  rw [JcV _ _ _ (Jk _ _ (ds:=[tabD rs,.str w]) rfl (below rs (Nat.le_trans hr.2 hN) w (hw w (by rw [e]; simp)) c))]
  show exD _ _ [x0,some (.tup (ws.map .str)),x2,x3,x4,some (dcT false (bumps tabD (fun w=>belw rs w) (fun _=>cn) pre fu)),some (tabD rs),some (.int cn),some (.str w),some (tabD (belw rs w))] = _
  rw [JdU _ _ Jcs (k:=belw rs w) (c:=cn) rfl rfl rfl (Ju Jcs _ _ _ _ hd) hl2 (JgC (Jgb hr.1 w))]
  simp only [List.set_cons_succ,List.set_cons_zero,bumps,List.foldl_append,List.foldl_cons,List.foldl_nil]
  rfl) ⟨x8,x9,rfl⟩
 exact ⟨y8,y9,h1⟩
theorem JlO (ws:List Str) (hw:∀ w ∈ ws,w ∈ ws9) (cc:Cnt) {N:Nat} (hc:∀ p ∈ cc,KRs N p.1) (hN:N <= 1000) (hl:cc.length * ws.length + ws.length < 1000) (c:Nat) (x0 x2 x4 x5 x6 x7 x8 x9:Option D) :
  ∃ y6 y7 y8 y9,exD (runD defs (c + 4)) tbT [x0,some (.tup (ws.map .str)),x2,some (dcT true cc),x4,x5,x6,x7,x8,x9] = .ok (.nx,[x0,some (.tup (ws.map .str)),x2,some (dcT true (stp ws cc)),x4,none,y6,y7,y8,y9]):=by
 obtain ⟨env',h1,y6,y7,y8,y9,rfl⟩:=JA (runD defs (c + 4)) (.loop false [8] 0 (.walk (.var 1)) tbW) [6,7] 2 (.un .items (.var 3)) (fun p:List Row × Int=>D.tup [tabD p.1,.int p.2]) cc (fun pre env=>∃ y6 y7 y8 y9,env = [x0,some (.tup (ws.map .str)),x2,some (dcT true cc),x4,some (dcT false (stp ws pre)),y6,y7,y8,y9]) [x0,some (.tup (ws.map .str)),x2,some (dcT true cc),x4,some (dcT false []),x6,x7,x8,x9] (by
   show Rs.ok (D.lst (zipD (ksOf tabD cc) (vsOf cc))) = _
   rw [Jbc]) (by
  rintro pre p post env e ⟨y6,y7,y8,y9,rfl⟩
  have hp:=hc p (by rw [e]; simp)
  have hl2:(stp ws pre).length + ws.length < 1000:=by
   have:=JfY ws pre
   have h2:pre.length <= cc.length:=by rw [e]; simp
   have:=Nat.mul_le_mul_right ws.length h2
   omega
  obtain ⟨z8,z9,h⟩:=JiE ws hw hp hN p.2 (stp ws pre) (Jlw ws pre) hl2 c x0 x2 (some (dcT true cc)) x4 y8 y9
  exact ⟨_,rfl,_,h,some (tabD p.1),some (.int p.2),z8,z9,by rw [Jak]⟩) ⟨x6,x7,x8,x9,rfl⟩
 refine ⟨y6,y7,y8,y9,?_⟩
 show exD _ (.seq _ _) _ = _
 rw [JeP _ _ _ (env2:=[x0,some (.tup (ws.map .str)),x2,some (dcT true cc),x4,some (dcT false []),x6,x7,x8,x9]) rfl,JeP _ _ _ h1]
 rfl
theorem JfH (ws:List Str) (hw:∀ w ∈ ws,w ∈ ws9) (hl:ws.length <= 4) (T:List Row) {N:Nat} (hT:KRs N T) (hN:N <= 1000) (n:Nat) (hn:n <= 4) (c:Nat):runD defs (c + 5) 13 [tabD T,.tup (ws.map .str),.int n] = .ok (dcT true (cntT ws T n)):=by
 rw [Jbh,b_tallies_below]
 have e0:evD (runD defs (c + 4)) (.ite (.bi .ge (.var 2) (.con (.int 0))) (.dsp true (.cons (.var 0) .nil) (.cons (.con (.int 1)) .nil)) (.dsp true .nil .nil)) [some (tabD T),some (.tup (ws.map .str)),some (.int n),none,none,none,none,none,none,none] = .ok (dcT true [(T,1)]):=by
  rw [e_if (b:=true) _ _ (Jg _ _ (x:=.int n) (y:=.int 0) rfl rfl (by simp only [op2,Rs.ok.injEq,D.bl.injEq,decide_eq_true_eq]; omega)),if_pos rfl]
  have:=JgC hT.1
  show dspD true [tabD T] [.int 1] = _
  simp only [dspD,this,if_true]
  rfl
 rw [JaF _ _ _ e0]
 obtain ⟨env',h1,x4,x5,x6,x7,x8,x9,rfl⟩:=JS (runD defs (c + 4)) tbT 4 (.var 2) n (fun k env=>∃ x4 x5 x6 x7 x8 x9,env = [some (tabD T),some (.tup (ws.map .str)),some (.int n),some (dcT true (cntT ws T k)),x4,x5,x6,x7,x8,x9]) [some (tabD T),some (.tup (ws.map .str)),some (.int n),some (dcT true [(T,1)]),none,none,none,none,none,none] rfl (by omega) (by
  rintro k env hk ⟨x4,x5,x6,x7,x8,x9,rfl⟩
  have h4:(cntT ws T k).length * ws.length + ws.length < 1000:=by
   have a1:(cntT ws T k).length <= 64:=Nat.le_trans (Jed ws T k) (Nat.le_trans (Nat.pow_le_pow_left hl k) (Nat.le_trans (Nat.pow_le_pow_right (by omega) (show k <= 3 by omega)) (by decide)))
   have:=Nat.mul_le_mul a1 hl
   omega
  obtain ⟨y6,y7,y8,y9,h⟩:=JlO ws hw (cntT ws T k) (Jhy ws hT k) hN h4 c (some (tabD T)) (some (.int n)) (some (.int k)) x5 x6 x7 x8 x9
  exact ⟨_,h,some (.int k),none,y6,y7,y8,y9,rfl⟩) ⟨none,none,none,none,none,none,rfl⟩
 show answerD (exD _ (.seq (.loop false [4] 0 (.un .range (.var 2)) tbT) (.ret (.var 3))) [some (tabD T),some (.tup (ws.map .str)),some (.int n),some (dcT true [(T,1)]),none,none,none,none,none,none]) = _
 rw [Jaj _ _ _ h1,Jan]
 rfl
abbrev Lcn:=List (Option Str × Int)
def dcL (z:Bool) (cc:Lcn):D:=.dct false z (ksOf labO cc) (vsOf cc)
def lcn (cc:Cnt):Lcn:=bumps labO (fun p:List Row × Int=>fl p.1 []) (fun p=>p.2) cc []
def nLed (ws:List Str) (T:List Row) (n:Nat) (o:Option Str):Int:=((ev ws n).map fun a=>if fl T a = o then (1:Int) else 0).sum
theorem JkW (ws:List Str) (T:List Row) (n:Nat) (o:Option Str):getN labO o (lcn (cntT ws T n)) = nLed ws T n o:=by
 rw [lcn,Jhh Js o _ (Ju Js _ _ _ _ (by simp [Dst])),JaR Js]
 have:=JjT ws T n fun rs=>if fl rs [] = o then 1 else 0
 unfold wt at this
 simp only [wt,List.map_nil,List.sum_nil,Int.zero_add]
 rw [this,nLed]
 refine congrArg List.sum (List.map_congr_left fun a _=>?_)
 rw [Jkm,List.append_nil]
def toldD (T:List Row) (N:Option Str -> Int):D:=.lst (((T.map fun r:Row=>some r.l) ++ [none]).map fun o=>.tup [labO o,.int (N o)])
theorem tall (ws:List Str) (hw:∀ w ∈ ws,w ∈ ws9) (hl:ws.length <= 4) (T:List Row) {N:Nat} (hT:KRs N T) (hN:N <= 100) (n:Nat) (hn:n <= 4) (c:Nat):runD defs (c + 6) 14 [tabD T,.tup (ws.map .str),.int n] = .ok (toldD T (nLed ws T n)):=by
 rw [Jhb,b_tallies,Jaj (env2:=[some (tabD T),some (.tup (ws.map .str)),some (.int n),some (dcL false []),none,none,none]) _ _ _ rfl]
 have hlen:(cntT ws T n).length <= 256:=Nat.le_trans (Jed ws T n) (Jov hl hn)
 obtain ⟨env',h1,x4,x5,x6,rfl⟩:=JA (runD defs (c + 5)) (.seq (.set false 6 (.call 6 (.cons (.var 4) (.cons (.tup .nil) .nil))))
  (.put true false 3 (.var 6) (.bi .add (.bi (.dGz false) (.var 3) (.var 6)) (.var 5)))) [4,5] 2 (.un .items (.call 13 (.cons (.var 0) (.cons (.var 1) (.cons (.var 2) .nil))))) (fun p:List Row × Int=>D.tup [tabD p.1,.int p.2]) (cntT ws T n) (fun pre env=>∃ x4 x5 x6,env = [some (tabD T),some (.tup (ws.map .str)),some (.int n),some (dcL false (lcn pre)),x4,x5,x6]) [some (tabD T),some (.tup (ws.map .str)),some (.int n),some (dcL false []),none,none,none]
  (Jx _ _ (Jk _ _ (ds:=[tabD T,.tup (ws.map .str),.int n]) rfl (JfH ws hw hl T hT (by omega) n hn c)) (by
   show Rs.ok (D.lst (zipD (ksOf tabD _) (vsOf _))) = _
   rw [Jbc])) (by
  rintro pre p post env e ⟨x4,x5,x6,rfl⟩
  have hp:=Jhy ws hT n p (by rw [e]; simp)
  refine ⟨_,rfl,_,?_,some (tabD p.1),some (.int p.2),some (labO (fl p.1 [])),rfl⟩
  have hl2:(lcn pre).length < 1000:=by
   have:=JQ (g:=labO) (fun p:List Row × Int=>fl p.1 []) (fun p=>p.2) pre []
   have:pre.length < (cntT ws T n).length:=by rw [e]; simp
   simp only [lcn,List.length_nil] at *
   omega
  have e1:evD (runD defs (c + 5)) (.call 6 (.cons (.var 4) (.cons (.tup .nil) .nil))) [some (tabD T),some (.tup (ws.map .str)),some (.int n),some (dcL false (lcn pre)),some (tabD p.1),some (.int p.2),x6] = .ok (labO (fl p.1 [])):=by
   refine Jk _ _ (ds:=[tabD p.1,.tup []]) (Je _ _ rfl (Je _ _ (Jr _ _ (ds:=[]) rfl (by simp)) rfl)) ?_
   have:=first p.1 (fun r hr=>(hp.1 r hr).f) (by have:=hp.2; omega) [] (by simp) c
   rw [JdH] at this
   exact this
  show exD _ (.seq _ _) [some (tabD T),some (.tup (ws.map .str)),some (.int n),some (dcL false (lcn pre)),some (tabD p.1),some (.int p.2),x6] = _
  rw [JcV _ _ _ e1]
  show exD _ _ [some (tabD T),some (.tup (ws.map .str)),some (.int n),some (dcL false (lcn pre)),some (tabD p.1),some (.int p.2),some (labO (fl p.1 []))] = _
  rw [JdU _ _ Js (k:=fl p.1 []) (c:=p.2) rfl rfl rfl (Ju Js _ _ _ _ (by simp [Dst])) hl2 (JbT _)]
  simp only [List.set_cons_succ,List.set_cons_zero,lcn,bumps,List.foldl_append,List.foldl_cons,List.foldl_nil]
  rfl) ⟨none,none,none,rfl⟩
 rw [Jaj _ _ _ h1,Jan]
 have hT4:=hT.2
 have e2:evD (runD defs (c + 5)) (.bi .add (.comp 0 (.walk (.var 0)) (.con (.bl true)) (.bi .idx (.var 0) (.con (.int 0)))) (.dis (.cons (.con .non) .nil))) [some (tabD T),some (.tup (ws.map .str)),some (.int n),some (dcL false (lcn (cntT ws T n))),x4,x5,x6] = .ok (.lst (((T.map fun r:Row=>some r.l) ++ [none]).map labO)):=by
  refine Jg _ _ (Jai _ _ Row.d (fun r:Row=>D.str r.l) rfl (by omega) fun r _=>row0 r _ _ 0 rfl) (y:=.lst [.non]) (Jab _ _ (ds:=[.non]) rfl (by simp)) ?_
  rw [Jgf _ _ (JE (by simp; omega))]
  simp [labO,List.map_map,Function.comp_def]
 refine Jai _ _ labO (fun o=>D.tup [labO o,.int (nLed ws T n o)]) (by rw [JcD,e2]; rfl) (by simp; omega) fun o _=>?_
 refine Jr _ _ (Je _ _ rfl (Je _ _ (Jg _ _ (x:=dcL false (lcn (cntT ws T n))) (y:=labO o) rfl rfl ?_) rfl)) (by simp)
 have:=JaT (g:=labO) o (lcn (cntT ws T n))
 simp only [op2,dcL,JbT,and_self,if_true,this,JkW]
end K66
namespace K66
open PySem.Str (ofString)
open PySem Pu
def cr1 (cn:Row -> Row -> Nat) (r:Row) (q:Row):List D:=if 0 < cn r q then [.tup [.str r.l,.str q.l,.int (cn r q)]] else []
def crs (cn:Row -> Row -> Nat):List Row -> List D
 | []=>[]
 | r :: rs=>rs.flatMap (cr1 cn r) ++ crs cn rs
def cnN (ws:List Str) (n:Nat) (r q:Row):Nat:=talN [r.ps,q.ps] ws n
theorem Jcm (cn:Row -> Row -> Nat) (r:Row):∀ rs:List Row,(rs.flatMap (cr1 cn r)).length <= rs.length
 | []=>Nat.le_refl _
 | q :: rs=>by
  have ih:=Jcm cn r rs
  rw [List.flatMap_cons,List.length_append,List.length_cons]
  have:(cr1 cn r q).length <= 1:=by unfold cr1; split <;> simp
  omega
def crB:Sx:=(.seq (.set false 7 (.call 11 (.cons (.dis (.cons (.bi .idx (.var 5) (.con (.int 1))) (.cons (.bi .idx (.var 6) (.con (.int 1))) .nil))) (.cons (.var 1) (.cons (.var 2) .nil)))))
  (.ite (.bi .gt (.var 7) (.con (.int 0))) (.app false 3 (.tup (.cons (.bi .idx (.var 5) (.con (.int 0))) (.cons (.bi .idx (.var 6) (.con (.int 0))) (.cons (.var 7) .nil))))) .skip))
theorem Jns (ws:List Str) (hw:∀ w ∈ ws,w ∈ ws9) (hl:ws.length <= 1000) (n:Nat) (hn:n <= 1000) (r:Row) (c:Nat) (x0 x4:Option D):∀ (qs:List Row) (acc:List D) (x6 x7:Option D),acc.length + qs.length <= 1000 ->
  ∃ y6 y7,forL [6] 0 (exD (runD defs (c + 3)) crB) (qs.map Row.d) [x0,some (.tup (ws.map .str)),some (.int n),some (.lst acc),x4,some r.d,x6,x7] = .ok (.nx,[x0,some (.tup (ws.map .str)),some (.int n),some (.lst (acc ++ qs.flatMap (cr1 (cnN ws n) r))),x4,some r.d,y6,y7])
 | [],acc,x6,x7,_=>⟨x6,x7,by simp [forL]⟩
 | q :: qs,acc,x6,x7,h=>by
  have e1:evD (runD defs (c + 3)) (.call 11 (.cons (.dis (.cons (.bi .idx (.var 5) (.con (.int 1))) (.cons (.bi .idx (.var 6) (.con (.int 1))) .nil))) (.cons (.var 1) (.cons (.var 2) .nil)))) [x0,some (.tup (ws.map .str)),some (.int n),some (.lst acc),x4,some r.d,some q.d,x7] = .ok (.int (cnN ws n r q)):=
   Jk _ _ (ds:=[.lst (patsD [r.ps,q.ps]),.tup (ws.map .str),.int n]) (Je _ _ (Jab _ _ (ds:=[r.pd,q.pd]) (Je _ _ (row1 r _ _ 5 rfl) (Je _ _ (row1 q _ _ 6 rfl) rfl)) (by simp)) rfl) (JcX [r.ps,q.ps] ws n hw hl hn (by simp) c)
  have e2:∃ z7,exD (runD defs (c + 3)) crB [x0,some (.tup (ws.map .str)),some (.int n),some (.lst acc),x4,some r.d,some q.d,x7] = .ok (.nx,[x0,some (.tup (ws.map .str)),some (.int n),some (.lst (acc ++ cr1 (cnN ws n) r q)),x4,some r.d,some q.d,z7]):=by
   refine ⟨some (.int (cnN ws n r q)),?_⟩
   rw [crB,JcV _ _ _ e1,n_if (b:=decide (0 < cnN ws n r q)) _ _ _ _ (Jg _ _ (x:=.int (cnN ws n r q)) (y:=.int 0) rfl rfl (by
    simp only [op2,Rs.ok.injEq,D.bl.injEq]
    exact decide_eq_decide.mpr ⟨fun z=>by omega,fun z=>by omega⟩))]
   by_cases g:0 < cnN ws n r q
   ·rw [decide_eq_true g,if_pos rfl,JkX _ _ (ds:=acc) (d:=.tup [.str r.l,.str q.l,.int (cnN ws n r q)]) rfl (Jr _ _ (Je _ _ (row0 r _ _ 5 rfl) (Je _ _ (row0 q _ _ 6 rfl) (Je _ _ rfl rfl))) (by simp)) (by simp at h; omega)]
    simp [cr1,g]
   ·rw [decide_eq_false g,if_neg Bool.false_ne_true]
    simp [cr1,g]
  obtain ⟨z7,e2⟩:=e2
  have hc:(cr1 (cnN ws n) r q).length <= 1:=by unfold cr1; split <;> simp
  obtain ⟨y6,y7,ih⟩:=Jns ws hw hl n hn r c x0 x4 qs (acc ++ cr1 (cnN ws n) r q) (some q.d) z7 (by simp at h ⊢; omega)
  refine ⟨y6,y7,?_⟩
  simp only [List.map_cons,forL,bindT,if_true,Rs.bind_ok,setAll,List.set_cons_succ,List.set_cons_zero,e2,ih,List.flatMap_cons,List.append_assoc]
theorem Jjm (pre:List Row) (r:Row) (post:List Row):cutD ((pre ++ r :: post).map Row.d) (some ((pre.length:Int) + 1)) none = post.map Row.d:=by
 have h1:six ((pre ++ r :: post).map Row.d).length 0 (some ((pre.length:Int) + 1)) = pre.length + 1:=by
  simp only [six,List.length_map,List.length_append,List.length_cons]
  rw [if_neg (by omega)]
  omega
 unfold cutD
 rw [h1]
 have h2:((pre ++ r :: post).map Row.d).drop (pre.length + 1) = post.map Row.d:=by
  rw [show pre ++ r :: post = (pre ++ [r]) ++ post by simp,List.map_append]
  exact List.drop_left' (by simp)
 rw [h2]
 refine List.take_of_length_le ?_
 simp only [six,List.length_map,List.length_append,List.length_cons]
 omega
theorem JhS (cn:Row -> Row -> Nat):∀ rs:List Row,(crs cn rs).length <= rs.length * rs.length
 | []=>Nat.le_refl _
 | r :: rs=>by
  have:=JhS cn rs
  have:=Jcm cn r rs
  rw [crs,List.length_append,List.length_cons,Nat.succ_mul,Nat.mul_succ]
  omega
theorem JbZ (ws:List Str) (hw:∀ w ∈ ws,w ∈ ws9) (hl:ws.length <= 1000) (n:Nat) (hn:n <= 1000) (T:List Row) (hT:T.length <= 20) (c:Nat):runD defs (c + 4) 15 [tabD T,.tup (ws.map .str),.int n] = .ok (.lst (crs (cnN ws n) T)):=by
 have go:∀ (post pre:List Row) (acc:List D) (x4 x5 x6 x7:Option D),T = pre ++ post -> acc.length + (crs (cnN ws n) post).length <= 500 -> ∃ y4 y5 y6 y7,forL [4,5] 2 (exD (runD defs (c + 3)) (.loop false [6] 0 (.walk (.sl (.var 0) (.un .asI (.bi .add (.var 4) (.con (.int 1)))) (.con .non))) crB)) (enumFrom pre.length (post.map Row.d)) [some (tabD T),some (.tup (ws.map .str)),some (.int n),some (.lst acc),x4,x5,x6,x7] = .ok (.nx,[some (tabD T),some (.tup (ws.map .str)),some (.int n),some (.lst (acc ++ crs (cnN ws n) post)),y4,y5,y6,y7]):=fun post=>by
  induction post with
  | nil=>intro pre acc x4 x5 x6 x7 _ _; exact ⟨x4,x5,x6,x7,by simp [crs,enumFrom,forL]⟩
  | cons r post ih=>
   intro pre acc x4 x5 x6 x7 e hb
   have hpl:post.length <= 20:=by rw [e] at hT; simp at hT; omega
   rw [crs,List.length_append] at hb
   obtain ⟨y6,y7,h1⟩:=Jns ws hw hl n hn r c (some (tabD T)) (some (.int pre.length)) post acc x6 x7 (by omega)
   have e1:evD (runD defs (c + 3)) (.walk (.sl (.var 0) (.un .asI (.bi .add (.var 4) (.con (.int 1)))) (.con .non))) [some (tabD T),some (.tup (ws.map .str)),some (.int n),some (.lst acc),some (.int pre.length),some r.d,x6,x7] = .ok (.lst (post.map Row.d)):=by
    show Rs.ok (D.lst (cutD (T.map Row.d) (some ((pre.length:Int) + 1)) none)) = _
    rw [e,Jjm]
   have e2:exD (runD defs (c + 3)) (.loop false [6] 0 (.walk (.sl (.var 0) (.un .asI (.bi .add (.var 4) (.con (.int 1)))) (.con .non))) crB) [some (tabD T),some (.tup (ws.map .str)),some (.int n),some (.lst acc),some (.int pre.length),some r.d,x6,x7] = .ok (.nx,[some (tabD T),some (.tup (ws.map .str)),some (.int n),some (.lst (acc ++ post.flatMap (cr1 (cnN ws n) r))),some (.int pre.length),some r.d,y6,y7]):=by
    rw [Jfm,e1]
    simp only [Rs.bind_ok,JG,Bool.false_and,Bool.false_eq_true,if_false]
    exact h1
   obtain ⟨z4,z5,z6,z7,h2⟩:=ih (pre ++ [r]) (acc ++ post.flatMap (cr1 (cnN ws n) r)) (some (.int pre.length)) (some r.d) y6 y7 (by simp [e]) (by rw [List.length_append]; omega)
   refine ⟨z4,z5,z6,z7,?_⟩
   rw [List.length_append] at h2
   have hb2:bindT 2 (.tup [.int pre.length,r.d]) = .ok [some (.int pre.length),some r.d]:=rfl
   simp only [List.map_cons,enumFrom,forL,hb2,Rs.bind_ok,setAll,List.set_cons_succ,List.set_cons_zero,e2,crs]
   rw [<- List.append_assoc]
   exact h2
 have hcl:(crs (cnN ws n) T).length <= 400:=Nat.le_trans (JhS _ T) (Nat.le_trans (Nat.mul_le_mul hT hT) (by decide))
 obtain ⟨y4,y5,y6,y7,h⟩:=go T [] [] none none none none rfl (by simpa using by omega)
 rw [JdS,b_crossings,a_own _ _ _ (ds:=[]) rfl rfl]
 show answerD (exD _ (.seq (.loop false [4,5] 2 (.un .enum (.var 0)) (.loop false [6] 0 (.walk (.sl (.var 0) (.un .asI (.bi .add (.var 4) (.con (.int 1)))) (.con .non))) crB)) (.ret (.var 3))) [some (tabD T),some (.tup (ws.map .str)),some (.int n),some (.lst []),none,none,none,none]) = _
 rw [Jaj _ _ _ (env2:=[some (tabD T),some (.tup (ws.map .str)),some (.int n),some (.lst ([] ++ crs (cnN ws n) T)),y4,y5,y6,y7]) (by
  rw [Jfm,Jx _ _ (x:=tabD T) (z:=.lst (enumFrom 0 (T.map Row.d))) rfl rfl]
  simp only [Rs.bind_ok,JG,Bool.false_and,Bool.false_eq_true,if_false]
  exact h),Jan]
 rfl
end K66
namespace K66
open PySem.Str (ofString)
open PySem Pu
def aD (a:List Str):D:=.tup (a.map .str)
def evB:Sx:=(.ext false 4 (.walk (.un .rows (.comp 0 (.walk (.var 0)) (.con (.bl true)) (.bi .add (.var 6) (.tup (.cons (.var 0) .nil)))))))
def evT:Sx:=(.seq (.own 4 (.dis .nil)) (.seq (.loop false [5] 0 (.walk (.var 2)) evB) (.mov 2 4)))
theorem JlQ (ws:List Str) (hl:ws.length <= 4) (E:List (List Str)) (n:Nat) (hn:n <= 100) (hE:∀ a ∈ E,a.length <= n) (hm:E.length * ws.length <= 900) (hE2:E.length <= 900) (call:CallD) (x1 x3 x4 x5:Option D) :
  ∃ y5,exD call evT [some (aD ws),x1,some (.lst (E.map aD)),x3,x4,x5] = .ok (.nx,[some (aD ws),x1,some (.lst ((E.flatMap fun a=>ws.map fun w=>a ++ [w]).map aD)),x3,none,y5]):=by
 obtain ⟨env',h1,y5,rfl⟩:=JA call evB [5] 0 (.walk (.var 2)) aD E (fun pre env=>∃ y5,env = [some (aD ws),x1,some (.lst (E.map aD)),x3,some (.lst ((pre.flatMap fun a=>ws.map fun w=>a ++ [w]).map aD)),y5]) [some (aD ws),x1,some (.lst (E.map aD)),x3,some (.lst []),x5] rfl (by
  rintro pre a post env e ⟨y5,rfl⟩
  refine ⟨_,rfl,_,?_,some (aD a),rfl⟩
  have ha:=hE a (by rw [e]; simp)
  have e1:evD call (.comp 0 (.walk (.var 0)) (.con (.bl true)) (.bi .add (.var 6) (.tup (.cons (.var 0) .nil)))) [some (aD ws),x1,some (.lst (E.map aD)),x3,some (.lst ((pre.flatMap fun a=>ws.map fun w=>a ++ [w]).map aD)),some (aD a)] = .ok (.lst ((ws.map fun w=>a ++ [w]).map aD)):=by
   rw [List.map_map]
   refine Jai _ _ D.str _ rfl (by omega) fun w _=>?_
   refine Jg _ _ (x:=aD a) (y:=.tup [.str w]) rfl (Jr _ _ (ds:=[.str w]) rfl (by simp)) ?_
   rw [aD,JlH (by simp; omega)]
   simp [aD]
  have hlen:∀ l:List (List Str),(l.flatMap fun a=>ws.map fun w=>a ++ [w]).length = l.length * ws.length:=fun l=>by
   induction l with
   | nil=>simp
   | cons a l ih=>simp [ih,Nat.succ_mul,Nat.add_comm]
  show exD _ evB [some (aD ws),x1,some (.lst (E.map aD)),x3,some (.lst ((pre.flatMap fun a=>ws.map fun w=>a ++ [w]).map aD)),some (aD a)] = _
  have hb:pre.length * ws.length + ws.length <= 1000:=by
   have:pre.length <= E.length:=by rw [e]; simp
   have:=Nat.mul_le_mul_right ws.length this
   omega
  rw [evB,Jih _ _ (ds:=(pre.flatMap fun a=>ws.map fun w=>a ++ [w]).map aD) (es:=(ws.map fun w=>a ++ [w]).map aD) rfl (by
   rw [JcD,e_un,e1]; rfl) (by simp only [List.length_map,hlen]; omega)]
  simp only [List.set_cons_succ,List.set_cons_zero,List.flatMap_append,List.flatMap_cons,List.flatMap_nil,List.append_nil,List.map_append]) ⟨x5,rfl⟩
 refine ⟨y5,?_⟩
 rw [evT,JeP _ _ _ (env2:=[some (aD ws),x1,some (.lst (E.map aD)),x3,some (.lst []),x5]) rfl,JeP _ _ _ h1]
 rfl
theorem Jhu (ws:List Str) (hl:ws.length <= 4) (n:Nat) (hn:n <= 4) (c:Nat):runD defs (c + 1) 23 [aD ws,.int n] = .ok (.lst ((ev ws n).map aD)):=by
 rw [JdD,b_law_every,JaF _ _ _ (d:=.lst [.tup []]) (Jab _ _ (ds:=[.tup []]) (Je _ _ (Jr _ _ (ds:=[]) rfl (by simp)) rfl) (by simp))]
 obtain ⟨env',h1,x3,x4,x5,rfl⟩:=JS (runD defs c) evT 3 (.var 1) n (fun k env=>∃ x3 x4 x5,env = [some (aD ws),some (.int n),some (.lst ((ev ws k).map aD)),x3,x4,x5]) [some (aD ws),some (.int n),some (.lst [.tup []]),none,none,none] rfl (by omega) (by
  rintro k env hk ⟨x3,x4,x5,rfl⟩
  have a1:(ev ws k).length <= 64:=by
   rw [Jhc]
   exact Nat.le_trans (Nat.pow_le_pow_left hl k) (Nat.le_trans (Nat.pow_le_pow_right (by omega) (show k <= 3 by omega)) (by decide))
  have:=Nat.mul_le_mul a1 hl
  obtain ⟨y5,h⟩:=JlQ ws hl (ev ws k) k (by omega) (fun a ha=>by rw [(JbI ha).1]; exact Nat.le_refl _) (by omega) (by omega) (runD defs c) (some (.int n)) (some (.int k)) x4 x5
  exact ⟨_,h,some (.int k),none,y5,rfl⟩) ⟨none,none,none,rfl⟩
 show answerD (exD _ (.seq (.loop false [3] 0 (.un .range (.var 1)) evT) (.ret (.var 2))) [some (aD ws),some (.int n),some (.lst [.tup []]),none,none,none]) = _
 rw [Jaj _ _ _ h1,Jan]
 rfl
def srt6:List Str:=[S "0",S "01",S "7",S "a",S "b",S "new"]
theorem sort6:op1 .sortX (.lst [.str (S "a"),.str (S "b"),.str (S "7"),.str (S "0"),.str (S "new"),.str (S "01")]) = .ok (.lst (srt6.map .str)):=by rfl
theorem Jja (p q:Nat) (hp:p < 3) (hq:q < 4):∃ ws:List Str,(∀ w ∈ ws,w ∈ ws9) /\ ws.length <= 4 /\ cutD (cutD (srt6.map D.str) (some (p:Int)) none) none (some (1 + (q:Int))) = ws.map .str:=by
 refine ⟨(srt6.drop p).take (q + 1),?_,by simp; omega,?_⟩
 ·match p,hp with
  | 0,_=>exact fun w hw=>(by decide +kernel:∀ w ∈ srt6,w ∈ ws9) w (List.mem_of_mem_drop (List.mem_of_mem_take hw))
  | 1,_=>exact fun w hw=>(by decide +kernel:∀ w ∈ srt6,w ∈ ws9) w (List.mem_of_mem_drop (List.mem_of_mem_take hw))
  | 2,_=>exact fun w hw=>(by decide +kernel:∀ w ∈ srt6,w ∈ ws9) w (List.mem_of_mem_drop (List.mem_of_mem_take hw))
 ·match p,hp,q,hq with
  | 0,_,0,_=>rfl
  | 0,_,1,_=>rfl
  | 0,_,2,_=>rfl
  | 0,_,3,_=>rfl
  | 1,_,0,_=>rfl
  | 1,_,1,_=>rfl
  | 1,_,2,_=>rfl
  | 1,_,3,_=>rfl
  | 2,_,0,_=>rfl
  | 2,_,1,_=>rfl
  | 2,_,2,_=>rfl
  | 2,_,3,_=>rfl
theorem lmN (ps:List Part) (a:List Str) (c:Nat) (hp:∀ p ∈ ps,p.ok) (ha:∀ w ∈ a,w ∈ ws9) (hl:ps.length <= 5):runD defs (c + 11) 22 [.tup (ps.map Part.d),aD a] = .ok (opt (lawM ps a)):=by
 have:=lm ps a (c + 9 - ps.length) hp (fun w hw=>ws_A (ha w hw)) (by omega)
 rwa [show c + 9 - ps.length + ps.length + 2 = c + 11 by omega] at this
def hitsD (rows:List Row) (E:List (List Str)):List D:=rows.map fun r=>.lst ((E.filter fun a=>hit a r).map aD)
theorem Jku:Inj aD:=Inj.of (fun a=>by
 have:∀ ws:List Str,sdDs (ws.map D.str) = true:=fun ws=>by induction ws with
  | nil=>rfl
  | cons w ws ih=>simp [sdDs,sdD,ih]
 simp [aD,sdD,this]) fun a b h=>by
 have hs:∀ us vs:List Str,us.map D.str = vs.map D.str -> us = vs:=fun us=>by
  induction us with
  | nil=>intro vs e; cases vs with
   | nil=>rfl
   | cons _ _=>simp at e
  | cons u us ih=>intro vs e; cases vs with
   | nil=>simp at e
   | cons v vs=>
    simp only [List.map_cons,List.cons.injEq,D.str.injEq] at e
    rw [e.1,ih vs e.2]
 simp only [aD,D.tup.injEq] at h
 exact hs _ _ h
theorem JjV (a:List Str):(aD a).dep <= 1:=by simp [aD,D.dep,JV]
theorem Jiq (l:List (List Str)):deps (l.map aD) <= 1:=Jcd fun d hd=>by
 obtain ⟨a,_,rfl⟩:=List.mem_map.mp hd
 exact JjV a
theorem Jii {E:List (List Str)} {a:List Str} (ha:a ∈ E) (p:List Str -> Bool):op2 .isin (aD a) (.lst ((E.filter p).map aD)) = .ok (.bl (p a)):=by
 rw [o_inL _ _ (Nat.le_trans (Jiq _) (by decide)) (Nat.le_trans (JjV _) (by decide)),List.any_map]
 congr 2
 cases hp:p a with
 | true=>exact List.any_eq_true.mpr ⟨a,List.mem_filter.mpr ⟨ha,hp⟩,(Jku a a).mpr rfl⟩
 | false=>
  rw [List.any_eq_false]
  intro b hb hz
  have:=(Jku b a).mp hz
  subst this
  rw [(List.mem_filter.mp hb).2] at hp
  cases hp
theorem Jck (rows:List Row) (E:List (List Str)) (k:Nat) (h:k < rows.length):atD (hitsD rows E) (k:Int) = some (.lst ((E.filter fun a=>hit a rows[k]).map aD)):=by
 rw [atN _ _ (by simpa [hitsD] using h)]
 simp [hitsD]
theorem Jcp (rows:List Row) (k:Nat) (h:k < rows.length):atD (rows.map Row.d) (k:Int) = some (rows[k]).d:=by
 rw [atN _ _ (by simpa using h)]
 simp
def pAt (rows:List Row) (p:Row -> Bool) (k:Nat):Bool:=match rows[k]? with
 | some r=>p r
 | none=>false
theorem Jdg (p:Row -> Bool):∀ rows:List Row,match (List.range rows.length).filter (pAt rows p) with
  | []=>rows.find? p = none
  | k :: _=>∃ r,rows[k]? = some r /\ rows.find? p = some r
 | []=>rfl
 | r :: rows=>by
  have ih:=Jdg p rows
  rw [List.length_cons,List.range_succ_eq_map,List.filter_cons]
  have e0:pAt (r :: rows) p 0 = p r:=rfl
  have e1:(pAt (r :: rows) p ∘ Nat.succ) = pAt rows p:=funext fun k=>rfl
  rw [e0,List.find?_cons]
  cases hp:p r with
  | true=>exact ⟨r,rfl,rfl⟩
  | false=>
   simp only [Bool.false_eq_true,if_false]
   rw [List.filter_map,e1]
   cases q:(List.range rows.length).filter (pAt rows p) with
   | nil=>rw [q] at ih; exact ih
   | cons k l=>
    rw [q] at ih
    exact ih
end K66
namespace K66
open PySem.Str (ofString)
open PySem Pu
abbrev nn:Option D:=none
def bk (T:List Row) (E:List (List Str)):Lcn:=bumps labO (fl T) (fun _=>1) E []
theorem JmK (T:List Row) (ws:List Str) (n:Nat) (o:Option Str):getN labO o (bk T (ev ws n)) = nLed ws T n o:=by
 rw [bk,Jhh Js o _ (Ju Js _ _ _ _ (by simp [Dst])),JaR Js]
 simp [wt,nLed]
def bkB:Sx:=(.seq (.set false 9 (.comp 0 (.un .range (.un .len (.var 1))) (.bi .isin (.var 9) (.bi .idx (.var 8) (.var 0))) (.var 0)))
  (.seq (.set false 10 (.ite (.bi .ne (.var 9) (.dis .nil)) (.bi .idx (.bi .idx (.var 1) (.bi .idx (.var 9) (.con (.int 0)))) (.con (.int 0))) (.con .non)))
  (.put true false 5 (.var 10) (.bi .add (.bi (.dGz false) (.var 5) (.var 10)) (.con (.int 1))))))
theorem JhT (T:List Row) (hT:T.length <= 20) (E:List (List Str)) (hE:E.length <= 300) (call:CallD) (x0 x2 x3 x6 x8 x9 x10:Option D) :
  ∃ y8 y9 y10,exD call (.loop false [8] 0 (.walk (.var 4)) bkB) [x0,some (tabD T),x2,x3,some (.lst (E.map aD)),some (dcL false []),x6,some (.lst (hitsD T E)),x8,x9,x10,nn,nn,nn,nn] = .ok (.nx,[x0,some (tabD T),x2,x3,some (.lst (E.map aD)),some (dcL false (bk T E)),x6,some (.lst (hitsD T E)),y8,y9,y10,nn,nn,nn,nn]):=by
 obtain ⟨env',h1,y8,y9,y10,rfl⟩:=JA call bkB [8] 0 (.walk (.var 4)) aD E (fun pre env=>∃ y8 y9 y10,env = [x0,some (tabD T),x2,x3,some (.lst (E.map aD)),some (dcL false (bk T pre)),x6,some (.lst (hitsD T E)),y8,y9,y10,nn,nn,nn,nn]) [x0,some (tabD T),x2,x3,some (.lst (E.map aD)),some (dcL false []),x6,some (.lst (hitsD T E)),x8,x9,x10,nn,nn,nn,nn] rfl (by
  rintro pre a post env e ⟨y8,y9,y10,rfl⟩
  have ha:a ∈ E:=by rw [e]; simp
  refine ⟨_,rfl,_,?_,some (aD a),some (.lst (((List.range T.length).filter (pAt T (hit a))).map fun k:Nat=>D.int k)),some (labO (fl T a)),rfl⟩
  have e1:evD call (.comp 0 (.un .range (.un .len (.var 1))) (.bi .isin (.var 9) (.bi .idx (.var 8) (.var 0))) (.var 0)) [x0,some (tabD T),x2,x3,some (.lst (E.map aD)),some (dcL false (bk T pre)),x6,some (.lst (hitsD T E)),some (aD a),y9,y10,nn,nn,nn,nn] = .ok (.lst (((List.range T.length).filter (pAt T (hit a))).map fun k:Nat=>D.int k)):=by
   refine Jae _ _ (fun k:Nat=>D.int k) (pAt T (hit a)) (fun k:Nat=>D.int k) ?_ (by simp; omega) fun k hk=>?_
   ·rw [Jx _ _ (x:=.int T.length) (Jx _ _ (x:=tabD T) rfl (by simp [tabD])) (Jff T.length (by omega)),List.range_eq_range']
   ·have hk:k < T.length:=by simpa using hk
    refine ⟨Jg _ _ (x:=aD a) (y:=.lst ((E.filter fun b=>hit b T[k]).map aD)) rfl (Jg _ _ (x:=.lst (hitsD T E)) (y:=.int k) rfl rfl (by rw [Jfv,Jck T E k hk]; rfl)) ?_,fun _=>rfl⟩
    rw [Jii ha]
    simp [pAt,hk]
  have e2:evD call (.ite (.bi .ne (.var 9) (.dis .nil)) (.bi .idx (.bi .idx (.var 1) (.bi .idx (.var 9) (.con (.int 0)))) (.con (.int 0))) (.con .non)) [x0,some (tabD T),x2,x3,some (.lst (E.map aD)),some (dcL false (bk T pre)),x6,some (.lst (hitsD T E)),some (aD a),some (.lst (((List.range T.length).filter (pAt T (hit a))).map fun k:Nat=>D.int k)),y10,nn,nn,nn,nn] = .ok (labO (fl T a)):=by
   have hf:=Jdg (hit a) T
   have hd:∀ l:List Nat,deps (l.map fun k:Nat=>D.int k) = 0:=fun l=>by induction l with
    | nil=>rfl
    | cons k l ih=>simp [deps,D.dep,ih]
   cases q:(List.range T.length).filter (pAt T (hit a)) with
   | nil=>
    rw [q] at hf
    rw [e_if (b:=false) _ _ (Jg _ _ (x:=.lst []) (y:=.lst []) rfl rfl rfl),if_neg Bool.false_ne_true]
    simp [fl,hf,labO]
   | cons k l=>
    rw [q] at hf
    obtain ⟨r,h1,h2⟩:=hf
    rw [e_if (b:=true) _ _ (Jg _ _ (x:=.lst ((k :: l).map fun k:Nat=>D.int k)) (y:=.lst []) rfl rfl (by
     rw [o_ne _ _ (by simp only [D.dep,hd]; decide) (by decide)]; rfl)),if_pos rfl]
    have hk:k < T.length:=(List.getElem?_eq_some_iff.mp h1).1
    have hr:T[k] = r:=(List.getElem?_eq_some_iff.mp h1).2
    refine Jg _ _ (x:=r.d) (y:=.int 0) (Jg _ _ (x:=tabD T) (y:=.int k) rfl (Jg _ _ (x:=.lst ((k :: l).map fun k:Nat=>D.int k)) (y:=.int 0) rfl rfl (by simp)) ?_) rfl ?_
    ·rw [tabD,JbH,Jcp T k hk,hr]; rfl
    ·simp [Row.d,fl,h2,labO]
  have hl2:(bk T pre).length < 1000:=by
   have:=JQ (g:=labO) (fl T) (fun _=>1) pre []
   have:pre.length < E.length:=by rw [e]; simp
   simp only [bk,List.length_nil] at *
   omega
  show exD _ (.seq _ _) [x0,some (tabD T),x2,x3,some (.lst (E.map aD)),some (dcL false (bk T pre)),x6,some (.lst (hitsD T E)),some (aD a),y9,y10,nn,nn,nn,nn] = _
  rw [JcV _ _ _ e1]
  show exD _ (.seq _ _) [x0,some (tabD T),x2,x3,some (.lst (E.map aD)),some (dcL false (bk T pre)),x6,some (.lst (hitsD T E)),some (aD a),some (.lst (((List.range T.length).filter (pAt T (hit a))).map fun k:Nat=>D.int k)),y10,nn,nn,nn,nn] = _
  rw [JcV _ _ _ e2]
  show exD _ _ [x0,some (tabD T),x2,x3,some (.lst (E.map aD)),some (dcL false (bk T pre)),x6,some (.lst (hitsD T E)),some (aD a),some (.lst (((List.range T.length).filter (pAt T (hit a))).map fun k:Nat=>D.int k)),some (labO (fl T a)),nn,nn,nn,nn] = _
  rw [JdU _ _ Js (k:=fl T a) (c:=1) rfl rfl rfl (Ju Js _ _ _ _ (by simp [Dst])) hl2 (JbT _)]
  simp only [List.set_cons_succ,List.set_cons_zero,bk,bumps,List.foldl_append,List.foldl_cons,List.foldl_nil]
  rfl) ⟨x8,x9,x10,rfl⟩
 exact ⟨y8,y9,y10,h1⟩
def dueB:Sx:=(.seq (.set false 13 (.comp 0 (.walk (.bi .idx (.var 7) (.var 11))) (.bi .isin (.var 0) (.bi .idx (.var 8) (.var 13))) (.var 0)))
  (.ext false 6 (.walk (.un .rows (.bi .rep (.dis (.cons (.tup (.cons (.bi .idx (.bi .idx (.var 1) (.var 11)) (.con (.int 0))) (.cons (.bi .idx (.bi .idx (.var 1) (.var 12)) (.con (.int 0))) (.cons (.un .len (.var 13)) .nil)))) .nil)) (.un .intB (.bi .ne (.var 13) (.dis .nil))))))))
theorem JmB (T:List Row) (hT:T.length <= 20) (hr:∀ r ∈ T,restLast r.ps) (ws:List Str) (n:Nat) (hE:(ev ws n).length <= 300) (call:CallD) (k:Nat) (hk:k < T.length) (acc:List D) (ha:acc.length <= 500) (x0 x2 x3 x5 x8 x9 x10 x12 x13:Option D) :
  ∃ y12 y13,exD call (.loop false [12] 0 (.bi .range2 (.bi .add (.var 11) (.con (.int 1))) (.un .len (.var 1))) dueB) [x0,some (tabD T),x2,x3,some (.lst ((ev ws n).map aD)),x5,some (.lst acc),some (.lst (hitsD T (ev ws n))),x8,x9,x10,some (.int k),x12,x13,nn] = .ok (.nx,[x0,some (tabD T),x2,x3,some (.lst ((ev ws n).map aD)),x5,some (.lst (acc ++ (T.drop (k + 1)).flatMap (cr1 (cnN ws n) T[k]))),some (.lst (hitsD T (ev ws n))),x8,x9,x10,some (.int k),y12,y13,nn]):=by
 obtain ⟨env',h1,y12,y13,rfl⟩:=JA call dueB [12] 0 (.bi .range2 (.bi .add (.var 11) (.con (.int 1))) (.un .len (.var 1))) (fun j:Nat=>D.int ((k:Int) + 1 + j)) (List.range (T.length - (k + 1))) (fun pre env=>∃ y12 y13,env = [x0,some (tabD T),x2,x3,some (.lst ((ev ws n).map aD)),x5,some (.lst (acc ++ ((T.drop (k + 1)).take pre.length).flatMap (cr1 (cnN ws n) T[k]))),some (.lst (hitsD T (ev ws n))),x8,x9,x10,some (.int k),y12,y13,nn]) [x0,some (tabD T),x2,x3,some (.lst ((ev ws n).map aD)),x5,some (.lst acc),some (.lst (hitsD T (ev ws n))),x8,x9,x10,some (.int k),x12,x13,nn] (by
   refine Jg _ _ (x:=.int ((k:Int) + 1)) (y:=.int T.length) rfl (Jx _ _ (x:=tabD T) rfl (by simp [tabD])) ?_
   have m1:midI ((k:Int) + 1) = true:=by
    simp only [midI,Bool.and_eq_true,decide_eq_true_eq]
    have:((2:Int) ^ 62) = 4611686018427387904:=by decide
    omega
   have m2:midI (T.length:Int) = true:=by
    simp only [midI,Bool.and_eq_true,decide_eq_true_eq]
    have:((2:Int) ^ 62) = 4611686018427387904:=by decide
    omega
   simp only [op2,m1,m2,Bool.and_self,if_true,Pu.upTo]
   rw [show ((T.length:Int) - ((k:Int) + 1)).toNat = T.length - (k + 1) by omega]) (by
  rintro pre j post env e ⟨y12,y13,rfl⟩
  obtain ⟨rfl,hj⟩:=JaZ e
  have hj2:k + 1 + pre.length < T.length:=by omega
  refine ⟨_,rfl,_,?_,some (.int ((k:Int) + 1 + pre.length)),some (.lst ((((ev ws n).filter fun a=>hit a T[k]).filter fun a=>hit a T[k + 1 + pre.length]).map aD)),rfl⟩
  have ec:((k:Int) + 1 + (pre.length:Int)) = ((k + 1 + pre.length:Nat):Int):=by omega
  have e1:evD call (.comp 0 (.walk (.bi .idx (.var 7) (.var 11))) (.bi .isin (.var 0) (.bi .idx (.var 8) (.var 13))) (.var 0)) [x0,some (tabD T),x2,x3,some (.lst ((ev ws n).map aD)),x5,some (.lst (acc ++ ((T.drop (k + 1)).take pre.length).flatMap (cr1 (cnN ws n) T[k]))),some (.lst (hitsD T (ev ws n))),x8,x9,x10,some (.int k),some (.int ((k:Int) + 1 + pre.length)),y13,nn] = .ok (.lst ((((ev ws n).filter fun a=>hit a T[k]).filter fun a=>hit a T[k + 1 + pre.length]).map aD)):=by
   refine Jae _ _ aD (fun a=>hit a T[k + 1 + pre.length]) aD ?_ (Nat.le_trans (List.length_filter_le _ _) (by omega)) fun a ha=>⟨?_,fun _=>rfl⟩
   ·rw [JcD,Jg _ _ (x:=.lst (hitsD T (ev ws n))) (y:=.int k) rfl rfl (by rw [Jfv,Jck T _ k hk]; rfl)]
    rfl
   ·refine Jg _ _ (x:=aD a) (y:=.lst (((ev ws n).filter fun b=>hit b T[k + 1 + pre.length]).map aD)) rfl (Jg _ _ (x:=.lst (hitsD T (ev ws n))) (y:=.int ((k:Int) + 1 + pre.length)) rfl rfl (by rw [Jfv,ec,Jck T _ _ hj2]; rfl)) ?_
    exact Jii (List.mem_filter.mp ha).1 _
  have hcn:cnN ws n T[k] T[k + 1 + pre.length] = (((ev ws n).filter fun a=>hit a T[k]).filter fun a=>hit a T[k + 1 + pre.length]).length:=by
   rw [cnN,Jll _ _ (hr _ (List.getElem_mem _)) (hr _ (List.getElem_mem _)),List.filter_filter]
   congr 1
   exact List.filter_congr fun a _=>Bool.and_comm _ _
  generalize hS:(((ev ws n).filter fun a=>hit a T[k]).filter fun a=>hit a T[k + 1 + pre.length]) = So at e1 hcn
  have hSl:So.length <= 300:=by rw [<- hS]; exact Nat.le_trans (List.length_filter_le _ _) (Nat.le_trans (List.length_filter_le _ _) hE)
  show exD _ (.seq _ _) [x0,some (tabD T),x2,x3,some (.lst ((ev ws n).map aD)),x5,some (.lst (acc ++ ((T.drop (k + 1)).take pre.length).flatMap (cr1 (cnN ws n) T[k]))),some (.lst (hitsD T (ev ws n))),x8,x9,x10,some (.int k),some (.int ((k:Int) + 1 + pre.length)),y13,nn] = _
  rw [JcV _ _ _ e1]
  show exD _ _ [x0,some (tabD T),x2,x3,some (.lst ((ev ws n).map aD)),x5,some (.lst (acc ++ ((T.drop (k + 1)).take pre.length).flatMap (cr1 (cnN ws n) T[k]))),some (.lst (hitsD T (ev ws n))),x8,x9,x10,some (.int k),some (.int ((k:Int) + 1 + pre.length)),some (.lst (So.map aD)),nn] = _
  have e2:evD call (.bi .rep (.dis (.cons (.tup (.cons (.bi .idx (.bi .idx (.var 1) (.var 11)) (.con (.int 0))) (.cons (.bi .idx (.bi .idx (.var 1) (.var 12)) (.con (.int 0))) (.cons (.un .len (.var 13)) .nil)))) .nil)) (.un .intB (.bi .ne (.var 13) (.dis .nil)))) [x0,some (tabD T),x2,x3,some (.lst ((ev ws n).map aD)),x5,some (.lst (acc ++ ((T.drop (k + 1)).take pre.length).flatMap (cr1 (cnN ws n) T[k]))),some (.lst (hitsD T (ev ws n))),x8,x9,x10,some (.int k),some (.int ((k:Int) + 1 + pre.length)),some (.lst (So.map aD)),nn] = .ok (.lst (cr1 (cnN ws n) T[k] T[k + 1 + pre.length])):=by
   have f1:=Jg call [x0,some (tabD T),x2,x3,some (.lst ((ev ws n).map aD)),x5,some (.lst (acc ++ ((T.drop (k + 1)).take pre.length).flatMap (cr1 (cnN ws n) T[k]))),some (.lst (hitsD T (ev ws n))),x8,x9,x10,some (.int k),some (.int ((k:Int) + 1 + pre.length)),some (.lst (So.map aD)),nn] (o:=.idx) (a:=.bi .idx (.var 1) (.var 11)) (b:=.con (.int 0)) (x:=(T[k]).d) (y:=.int 0) (z:=.str (T[k]).l) (Jg _ _ (x:=tabD T) (y:=.int k) rfl rfl (by rw [tabD,JbH,Jcp T k hk]; rfl)) rfl (by simp [Row.d])
   have f2:=Jg call [x0,some (tabD T),x2,x3,some (.lst ((ev ws n).map aD)),x5,some (.lst (acc ++ ((T.drop (k + 1)).take pre.length).flatMap (cr1 (cnN ws n) T[k]))),some (.lst (hitsD T (ev ws n))),x8,x9,x10,some (.int k),some (.int ((k:Int) + 1 + pre.length)),some (.lst (So.map aD)),nn] (o:=.idx) (a:=.bi .idx (.var 1) (.var 12)) (b:=.con (.int 0)) (x:=(T[k + 1 + pre.length]).d) (y:=.int 0) (z:=.str (T[k + 1 + pre.length]).l) (Jg _ _ (x:=tabD T) (y:=.int ((k:Int) + 1 + pre.length)) rfl rfl (by rw [tabD,JbH,ec,Jcp T _ hj2]; rfl)) rfl (by simp [Row.d])
   have f3:evD call (.un .intB (.bi .ne (.var 13) (.dis .nil))) [x0,some (tabD T),x2,x3,some (.lst ((ev ws n).map aD)),x5,some (.lst (acc ++ ((T.drop (k + 1)).take pre.length).flatMap (cr1 (cnN ws n) T[k]))),some (.lst (hitsD T (ev ws n))),x8,x9,x10,some (.int k),some (.int ((k:Int) + 1 + pre.length)),some (.lst (So.map aD)),nn] = .ok (.int (if So.isEmpty then 0 else 1)):=by
    refine Jx _ _ (x:=.bl (!So.isEmpty)) (Jg _ _ (x:=.lst (So.map aD)) (y:=.lst []) rfl rfl ?_) (by cases So.isEmpty <;> rfl)
    rw [o_ne _ _ (by simp only [D.dep]; have:=Jiq So; omega) (by decide)]
    cases So <;> rfl
   refine Jg _ _ (Jab _ _ (ds:=[.tup [.str (T[k]).l,.str (T[k + 1 + pre.length]).l,.int So.length]]) (Je _ _ (Jr _ _ (Je _ _ f1 (Je _ _ f2 (Je _ _ (Jx _ _ (x:=.lst (So.map aD)) rfl (by simp)) rfl))) (by simp)) rfl) (by simp)) f3 ?_
   unfold cr1
   rw [hcn]
   cases So with
   | nil=>rfl
   | cons a l=>
    have:(0:Nat) < (a :: l).length:=by simp
    rw [if_pos this]
    rfl
  have hb:((T.drop (k + 1)).take pre.length).length <= 20:=by simp; omega
  have hb2:=Jcm (cnN ws n) T[k] ((T.drop (k + 1)).take pre.length)
  have hb3:(cr1 (cnN ws n) T[k] T[k + 1 + pre.length]).length <= 1:=by unfold cr1; split <;> simp
  rw [Jih _ _ (ds:=acc ++ ((T.drop (k + 1)).take pre.length).flatMap (cr1 (cnN ws n) T[k])) (es:=cr1 (cnN ws n) T[k] T[k + 1 + pre.length]) rfl (by rw [JcD,e_un,e2]; rfl) (by rw [List.length_append]; omega)]
  have ht:(T.drop (k + 1)).take (pre ++ [pre.length]).length = (T.drop (k + 1)).take pre.length ++ [T[k + 1 + pre.length]]:=by
   rw [List.length_append,List.length_cons,List.length_nil,Nat.zero_add,List.take_succ]
   congr 1
   rw [List.getElem?_drop,List.getElem?_eq_getElem hj2]
   rfl
  rw [ht,List.flatMap_append]
  simp only [List.set_cons_succ,List.set_cons_zero,List.flatMap_cons,List.flatMap_nil,List.append_nil,List.append_assoc]) ⟨x12,x13,by simp⟩
 refine ⟨y12,y13,?_⟩
 rw [h1]
 have:(T.drop (k + 1)).take (List.range (T.length - (k + 1))).length = T.drop (k + 1):=List.take_of_length_le (by simp)
 rw [this]
def dueL (cn:Row -> Row -> Nat) (T:List Row) (m:Nat):List D:=(List.range m).flatMap fun i=>match T[i]? with
 | some r=>(T.drop (i + 1)).flatMap (cr1 cn r)
 | none=>[]
theorem JgE (cn:Row -> Row -> Nat):∀ T:List Row,dueL cn T T.length = crs cn T
 | []=>rfl
 | r :: T=>by
  have ih:=JgE cn T
  rw [dueL,List.length_cons,List.range_succ_eq_map,List.flatMap_cons,crs]
  congr 1
  rw [List.flatMap_map]
  exact ih
theorem Jjw (cn:Row -> Row -> Nat) (T:List Row) (k:Nat) (hk:k < T.length):dueL cn T (k + 1) = dueL cn T k ++ (T.drop (k + 1)).flatMap (cr1 cn T[k]):=by
 rw [dueL,List.range_succ,List.flatMap_append]
 simp [dueL,hk]
theorem Jgd (cn:Row -> Row -> Nat) (T:List Row):∀ m,(dueL cn T m).length <= m * T.length
 | 0=>Nat.zero_le _
 | m + 1=>by
  have:=Jgd cn T m
  rw [dueL,List.range_succ,List.flatMap_append,List.length_append,Nat.succ_mul]
  have h2:([m].flatMap fun i=>match T[i]? with
   | some r=>(T.drop (i + 1)).flatMap (cr1 cn r)
   | none=>[]).length <= T.length:=by
   simp only [List.flatMap_cons,List.flatMap_nil,List.append_nil]
   split
   ·exact Nat.le_trans (Jcm cn _ _) (by simp)
   ·exact Nat.zero_le _
  simp only [dueL] at this
  omega
end K66
namespace K66
open PySem.Str (ofString)
open PySem Pu
theorem JgL (r:Row) (ws:List Str) (n:Nat) (hw:∀ w ∈ ws,w ∈ ws9) (hl:ws.length <= 1000) (hn:n <= 1000) (c:Nat):runD defs (c + 4) 12 [r.pd,aD ws,.int n] = .ok (.int (talN [r.ps] ws n)):=by
 rw [Jmf,b_tally,Jan]
 exact Jk _ _ (ds:=[.lst (patsD [r.ps]),aD ws,.int n]) (Je _ _ (Jab _ _ (ds:=[r.pd]) rfl (by simp)) rfl) (JcX [r.ps] ws n hw hl hn (by simp) c)
def dueS:Sx:=(.seq (.ite (.bi .ne (.call 12 (.cons (.bi .idx (.bi .idx (.var 1) (.var 11)) (.con (.int 1))) (.cons (.var 2) (.cons (.var 3) .nil)))) (.un .len (.bi .idx (.var 7) (.var 11)))) (.ret (.con (.bl false))) .skip)
  (.loop false [12] 0 (.bi .range2 (.bi .add (.var 11) (.con (.int 1))) (.un .len (.var 1))) dueB))
theorem JjI (T:List Row) (hT:T.length <= 20) (hr:∀ r ∈ T,restLast r.ps) (ws:List Str) (hw:∀ w ∈ ws,w ∈ ws9) (hl:ws.length <= 4) (n:Nat) (hn:n <= 4) (c:Nat) (x0 x5 x8 x9 x10:Option D) :
  ∃ y11 y12 y13,exD (runD defs (c + 4)) (.loop false [11] 0 (.un .range (.un .len (.var 1))) dueS) [x0,some (tabD T),some (aD ws),some (.int n),some (.lst ((ev ws n).map aD)),x5,some (.lst []),some (.lst (hitsD T (ev ws n))),x8,x9,x10,nn,nn,nn,nn] = .ok (.nx,[x0,some (tabD T),some (aD ws),some (.int n),some (.lst ((ev ws n).map aD)),x5,some (.lst (crs (cnN ws n) T)),some (.lst (hitsD T (ev ws n))),x8,x9,x10,y11,y12,y13,nn]):=by
 have hE:(ev ws n).length <= 300:=Nat.le_trans (JeY hl hn) (by decide)
 obtain ⟨env',h1,y11,y12,y13,rfl⟩:=JS (runD defs (c + 4)) dueS 11 (.un .len (.var 1)) T.length (fun k env=>∃ y11 y12 y13,env = [x0,some (tabD T),some (aD ws),some (.int n),some (.lst ((ev ws n).map aD)),x5,some (.lst (dueL (cnN ws n) T k)),some (.lst (hitsD T (ev ws n))),x8,x9,x10,y11,y12,y13,nn]) [x0,some (tabD T),some (aD ws),some (.int n),some (.lst ((ev ws n).map aD)),x5,some (.lst []),some (.lst (hitsD T (ev ws n))),x8,x9,x10,nn,nn,nn,nn] (Jx _ _ (x:=tabD T) rfl (by simp [tabD])) (by omega) (by
  rintro k env hk ⟨y11,y12,y13,rfl⟩
  have hd:=Jgd (cnN ws n) T k
  have:k * T.length <= 20 * 20:=Nat.mul_le_mul (by omega) hT
  obtain ⟨z12,z13,h⟩:=JmB T hT hr ws n hE (runD defs (c + 4)) k hk (dueL (cnN ws n) T k) (by omega) x0 (some (aD ws)) (some (.int n)) x5 x8 x9 x10 y12 y13
  refine ⟨_,?_,some (.int k),z12,z13,by rw [Jjw _ _ _ hk]⟩
  show exD _ dueS [x0,some (tabD T),some (aD ws),some (.int n),some (.lst ((ev ws n).map aD)),x5,some (.lst (dueL (cnN ws n) T k)),some (.lst (hitsD T (ev ws n))),x8,x9,x10,some (.int k),y12,y13,nn] = _
  rw [dueS,JlZ _ _ _ _ (Jg _ _ (x:=.int (talN [(T[k]).ps] ws n)) (y:=.int ((ev ws n).filter fun a=>hit a T[k]).length) (Jk _ _ (ds:=[(T[k]).pd,aD ws,.int n]) (Je _ _ (Jg _ _ (x:=(T[k]).d) (y:=.int 1) (z:=(T[k]).pd) (Jg _ _ (x:=tabD T) (y:=.int k) rfl rfl (by rw [tabD,JbH,Jcp T k hk]; rfl)) rfl (by simp [Row.d])) rfl) (JgL T[k] ws n hw (by omega) (by omega) c)) (Jx _ _ (Jg _ _ (x:=.lst (hitsD T (ev ws n))) (y:=.int k) rfl rfl (by rw [Jfv,Jck T _ k hk]; rfl)) (by simp)) (by rw [JkQ _ (hr _ (List.getElem_mem _))]; simp))]
  exact h) ⟨nn,nn,nn,rfl⟩
 exact ⟨y11,y12,y13,by rw [h1,JgE]⟩
theorem JlN (ws:List Str) (T:List Row) (n:Nat) (o:Option Str):0 <= nLed ws T n o /\ nLed ws T n o <= (ev ws n).length:=by
 have:∀ l:List (List Str),0 <= (l.map fun a=>if fl T a = o then (1:Int) else 0).sum /\ (l.map fun a=>if fl T a = o then (1:Int) else 0).sum <= l.length:=fun l=>by
  induction l with
  | nil=>simp
  | cons a l ih=>
   simp only [List.map_cons,List.sum_cons,List.length_cons]
   split <;> omega
 exact this _
theorem JmJ {o:Option Str}:∀ {ls:List Str},ls.Nodup -> (∀ x,o = some x -> x ∈ ls) -> ((ls.map fun l=>if o = some l then (1:Int) else 0).sum + if o = none then 1 else 0) = 1:=by
 intro ls hn ho
 cases o with
 | none=>
  have:∀ l:List Str,(l.map fun x=>if (none:Option Str) = some x then (1:Int) else 0).sum = 0:=fun l=>by induction l with
   | nil=>rfl
   | cons x l ih=>rw [List.map_cons,List.sum_cons,ih,if_neg (fun e=>nomatch e)]; rfl
  rw [this]; rfl
 | some x=>
  have hx:=ho x rfl
  have z:∀ l:List Str,x ∉ l -> (l.map fun y=>if some x = some y then (1:Int) else 0).sum = 0:=fun l=>by induction l with
   | nil=>intro _; rfl
   | cons y l ih=>
    intro h
    simp only [List.mem_cons,not_or] at h
    rw [List.map_cons,List.sum_cons,ih h.2,if_neg (fun e=>h.1 (by injection e))]; rfl
  have:∀ l:List Str,l.Nodup -> x ∈ l -> (l.map fun y=>if some x = some y then (1:Int) else 0).sum = 1:=fun l=>by induction l with
   | nil=>intro _ h; cases h
   | cons y l ih=>
    intro hn h
    obtain ⟨n1,n2⟩:=List.nodup_cons.mp hn
    rcases List.mem_cons.mp h with rfl | h
    ·rw [List.map_cons,List.sum_cons,z l n1,if_pos rfl]; rfl
    ·have:x ≠ y:=fun e=>n1 (e ▸ h)
     rw [List.map_cons,List.sum_cons,ih n2 h,if_neg (fun e=>this (by injection e))]; rfl
  rw [this ls hn hx]; rfl
theorem JdZ {α:Type} (f g:α -> Int):∀ l:List α,(l.map fun a=>f a + g a).sum = (l.map f).sum + (l.map g).sum
 | []=>rfl
 | a :: l=>by simp only [List.map_cons,List.sum_cons,JdZ f g l]; omega
theorem Jez {α β:Type} (f:α -> β -> Int) (ys:List β):∀ xs:List α,(xs.map fun x=>(ys.map fun y=>f x y).sum).sum = (ys.map fun y=>(xs.map fun x=>f x y).sum).sum
 | []=>by
  have:∀ l:List β,(l.map fun _=>([]:List Int).sum).sum = 0:=fun l=>by induction l with
   | nil=>rfl
   | cons x l ih=>rw [List.map_cons,List.sum_cons,ih]; rfl
  exact (this ys).symm
 | x :: xs=>by simp only [List.map_cons,List.sum_cons,Jez f ys xs,JdZ]
theorem Jbr {α:Type}:∀ l:List α,(l.map fun _=>(1:Int)).sum = l.length
 | []=>rfl
 | _ :: l=>by simp only [List.map_cons,List.sum_cons,Jbr l,List.length_cons]; omega
theorem JkU (ws:List Str) (T:List Row) (hT:(T.map Row.l).Nodup) (n:Nat):(((T.map fun r:Row=>some r.l) ++ [none]).map (nLed ws T n)).sum = ((ev ws n).length:Int):=by
 rw [List.map_append,List.sum_append]
 have e1:((T.map fun r:Row=>some r.l).map (nLed ws T n)).sum = ((ev ws n).map fun a=>((T.map Row.l).map fun l=>if fl T a = some l then (1:Int) else 0).sum).sum:=by
  rw [Jez (fun (a:List Str) (l:Str)=>if fl T a = some l then (1:Int) else 0),List.map_map,List.map_map]
  rfl
 have e2:([none].map (nLed ws T n)).sum = ((ev ws n).map fun a=>if fl T a = none then (1:Int) else 0).sum:=by simp [nLed]
 rw [e1,e2,<- JdZ]
 have:((ev ws n).map fun a=>((T.map Row.l).map fun l=>if fl T a = some l then (1:Int) else 0).sum + if fl T a = none then (1:Int) else 0) = (ev ws n).map fun _=>(1:Int):=List.map_congr_left fun a _=>JmJ hT fun x hx=>by
  simp only [fl,Option.map_eq_some_iff] at hx
  obtain ⟨r,h1,rfl⟩:=hx
  exact List.mem_map.mpr ⟨r,List.mem_of_find?_eq_some h1,rfl⟩
 rw [this,Jbr]
theorem Jep {α:Type} (f:α -> Int):∀ l:List α,intsOf (l.map fun a=>D.int (f a)) = some (l.map f)
 | []=>rfl
 | a :: l=>by simp [intsOf,Jep f l]
theorem JjF (T:List Row) (N:Option Str -> Int):(toldD T N).dep <= 3:=by
 have:deps (((T.map fun r:Row=>some r.l) ++ [none]).map fun o=>.tup [labO o,.int (N o)]) <= 1:=Jcd fun d hd=>by
  obtain ⟨o,_,rfl⟩:=List.mem_map.mp hd
  cases o <;> simp [D.dep,deps,labO]
 simp only [toldD,D.dep]
 omega
theorem Jht (cn:Row -> Row -> Nat):∀ T:List Row,deps (crs cn T) <= 1
 | []=>Nat.zero_le _
 | r :: T=>by
  rw [crs,JeF]
  have h1:deps (T.flatMap (cr1 cn r)) <= 1:=Jcd fun d hd=>by
   obtain ⟨q,_,hq⟩:=List.mem_flatMap.mp hd
   unfold cr1 at hq
   split at hq
   ·simp at hq; subst hq; simp [D.dep,deps]
   ·cases hq
  have:=Jht cn T
  omega
theorem JiK (ns:List Int) (c:Nat):runD defs (c + 12) 24 [ofN ns] = .ok (.bl true):=by
 obtain ⟨T,hok,hlab,hlen,ht⟩:=table ns 100 (by decide) 3 (by decide) 4 (by decide)
 obtain ⟨p,hp,hp2⟩:=pick ns 1 3 (by decide) (by decide)
 obtain ⟨q,hq,hq2⟩:=pick ns 2 4 (by decide) (by decide)
 obtain ⟨n,hn,hn2⟩:=pick ns 3 4 (by decide) (by decide)
 obtain ⟨ws,hw,hl,hcut⟩:=Jja p q (by omega) (by omega)
 have hnd:(T.map Row.l).Nodup:=by rw [hlab]; exact List.Sublist.nodup (List.take_sublist _ _) JfQ
 have hK:KRs 4 T:=⟨fun r hr=>⟨by
  have:r.l ∈ T.map Row.l:=List.mem_map.mpr ⟨r,hr,rfl⟩
  rw [hlab] at this
  exact List.mem_of_mem_take this,⟨(hok r hr).rl,by have:=(hok r hr).len; omega⟩,fun x hx=>⟨(hok r hr).srt x hx,by
   unfold Part.hole
   split
   ·exact List.nil_sublist _
   ·rename_i hwd
    refine List.singleton_sublist.mpr ((hok r hr).hol.subset ?_)
    refine List.mem_flatMap.mpr ⟨x,hx,?_⟩
    simp [Part.hole,hwd]⟩⟩,hlen⟩
 have hrl:∀ r ∈ T,restLast r.ps:=fun r hr=>(hok r hr).rl
 have hE:(ev ws n).length <= 256:=JeY hl (by omega)
 have g1:evD (runD defs (c + 11)) (.call 20 (.cons (.var 0) (.cons (.con (.int 100)) (.cons (.con (.int 3)) (.cons (.con (.int 4)) .nil))))) [some (ofN ns),nn,nn,nn,nn,nn,nn,nn,nn,nn,nn,nn,nn,nn,nn] = .ok (tabD T):=Jk _ _ (ds:=[ofN ns,.int 100,.int 3,.int 4]) rfl (ht (c + 6))
 rw [r_law,b_law,JaF _ _ _ g1]
 simp only [List.set_cons_succ,List.set_cons_zero]
 have g2:evD (runD defs (c + 11)) (.un .tuple (.sl (.sl (.un .sortX (.dis (.cons (.con (.str (ofString "a"))) (.cons (.con (.str (ofString "b"))) (.cons (.con (.str (ofString "7"))) (.cons (.con (.str (ofString "0"))) (.cons (.con (.str (ofString "new"))) (.cons (.con (.str (ofString "01"))) .nil)))))))) (.un .asI (.call 17 (.cons (.var 0) (.cons (.con (.int 1)) (.cons (.con (.int 3)) .nil))))) (.con .non)) (.con .non) (.un .asI (.bi .add (.con (.int 1)) (.call 17 (.cons (.var 0) (.cons (.con (.int 2)) (.cons (.con (.int 4)) .nil)))))))) [some (ofN ns),some (tabD T),nn,nn,nn,nn,nn,nn,nn,nn,nn,nn,nn,nn,nn] = .ok (aD ws):=by
  have s1:evD (runD defs (c + 11)) (.un .sortX (.dis (.cons (.con (.str (ofString "a"))) (.cons (.con (.str (ofString "b"))) (.cons (.con (.str (ofString "7"))) (.cons (.con (.str (ofString "0"))) (.cons (.con (.str (ofString "new"))) (.cons (.con (.str (ofString "01"))) .nil)))))))) [some (ofN ns),some (tabD T),nn,nn,nn,nn,nn,nn,nn,nn,nn,nn,nn,nn,nn] = .ok (.lst (srt6.map .str)):=Jx _ _ (Jab _ _ (ds:=[.str (S "a"),.str (S "b"),.str (S "7"),.str (S "0"),.str (S "new"),.str (S "01")]) rfl (by simp)) sort6
  have s2:evD (runD defs (c + 11)) (.call 17 (.cons (.var 0) (.cons (.con (.int 1)) (.cons (.con (.int 3)) .nil)))) [some (ofN ns),some (tabD T),nn,nn,nn,nn,nn,nn,nn,nn,nn,nn,nn,nn,nn] = .ok (.int p):=Jk _ _ (ds:=[ofN ns,.int 1,.int 3]) rfl (hp2 (c + 9))
  have s3:evD (runD defs (c + 11)) (.call 17 (.cons (.var 0) (.cons (.con (.int 2)) (.cons (.con (.int 4)) .nil)))) [some (ofN ns),some (tabD T),nn,nn,nn,nn,nn,nn,nn,nn,nn,nn,nn,nn,nn] = .ok (.int q):=Jk _ _ (ds:=[ofN ns,.int 2,.int 4]) rfl (hq2 (c + 9))
  rw [e_un,e_sl,e_sl,s1,e_un,s2,e_un,e_bi,s3]
  simp only [Rs.bind_ok,o_asI,JgQ,e_con,Jie,o_add,JnY,hcut,aD]
 rw [JaF _ _ _ g2]
 simp only [List.set_cons_succ,List.set_cons_zero]
 rw [JaF _ _ _ (Jk _ _ (ds:=[ofN ns,.int 3,.int 4]) rfl (hn2 (c + 9)))]
 simp only [List.set_cons_succ,List.set_cons_zero]
 have g4:exD (runD defs (c + 11)) (.seq (.set false 4 (.call 23 (.cons (.var 2) (.cons (.var 3) .nil)))) (.seq (.ownD false 5) (.own 6 (.dis .nil)))) [some (ofN ns),some (tabD T),some (aD ws),some (.int n),nn,nn,nn,nn,nn,nn,nn,nn,nn,nn,nn] = .ok (.nx,[some (ofN ns),some (tabD T),some (aD ws),some (.int n),some (.lst ((ev ws n).map aD)),some (dcL false []),some (.lst []),nn,nn,nn,nn,nn,nn,nn,nn]):=by
  rw [JcV _ _ _ (Jk _ _ (ds:=[aD ws,.int n]) rfl (Jhu ws hl n (by omega) (c + 10)))]
  rfl
 rw [Jaj _ _ _ g4]
 have g5:evD (runD defs (c + 11)) (.comp 2 (.walk (.un .rows (.var 1))) (.con (.bl true)) (.comp 0 (.walk (.var 6)) (.un .notN (.call 22 (.cons (.var 2) (.cons (.var 0) .nil)))) (.var 0))) [some (ofN ns),some (tabD T),some (aD ws),some (.int n),some (.lst ((ev ws n).map aD)),some (dcL false []),some (.lst []),nn,nn,nn,nn,nn,nn,nn,nn] = .ok (.lst (hitsD T (ev ws n))):=by
  refine JeQ _ _ (fun r:Row=>D.str r.l) Row.pd (fun r=>.lst (((ev ws n).filter fun a=>hit a r).map aD)) rfl (by omega) fun r hr=>?_
  refine Jae _ _ aD (fun a=>hit a r) aD rfl (by omega) fun a ha=>⟨?_,fun _=>rfl⟩
  refine Jx _ _ (Jk _ _ (ds:=[r.pd,aD a]) rfl (lmN r.ps a c (hok r hr).ok (fun w hw'=>hw w ((JbI ha).2 w hw')) (by have:=(hok r hr).len; omega))) ?_
  rw [hit]
  cases lawM r.ps a <;> rfl
 rw [JaF _ _ _ g5]
 simp only [List.set_cons_succ,List.set_cons_zero]
 obtain ⟨y8,y9,y10,g6⟩:=JhT T (by omega) (ev ws n) (by omega) (runD defs (c + 11)) (some (ofN ns)) (some (aD ws)) (some (.int n)) (some (.lst [])) nn nn nn
 rw [bkB] at g6
 rw [Jaj _ _ _ g6]
 obtain ⟨y11,y12,y13,g7⟩:=JjI T (by omega) hrl ws hw hl n (by omega) (c + 7) (some (ofN ns)) (some (dcL false (bk T (ev ws n)))) y8 y9 y10
 rw [dueS,dueB] at g7
 rw [Jaj _ _ _ g7]
 rw [JaF _ _ _ (Jk _ _ (ds:=[tabD T,aD ws,.int n]) rfl (tall ws hw hl T hK (by decide) n (by omega) (c + 5)))]
 simp only [List.set_cons_succ,List.set_cons_zero]
 have g8:evD (runD defs (c + 11)) (.comp 0 (.walk (.bi .add (.comp 0 (.walk (.var 1)) (.con (.bl true)) (.bi .idx (.var 0) (.con (.int 0)))) (.dis (.cons (.con .non) .nil)))) (.con (.bl true)) (.tup (.cons (.var 0) (.cons (.bi (.dGz false) (.var 6) (.var 0)) .nil)))) [some (ofN ns),some (tabD T),some (aD ws),some (.int n),some (.lst ((ev ws n).map aD)),some (dcL false (bk T (ev ws n))),some (.lst (crs (cnN ws n) T)),some (.lst (hitsD T (ev ws n))),y8,y9,y10,y11,y12,y13,some (toldD T (nLed ws T n))] = .ok (toldD T (nLed ws T n)):=by
  have e2:evD (runD defs (c + 11)) (.bi .add (.comp 0 (.walk (.var 1)) (.con (.bl true)) (.bi .idx (.var 0) (.con (.int 0)))) (.dis (.cons (.con .non) .nil))) [some (ofN ns),some (tabD T),some (aD ws),some (.int n),some (.lst ((ev ws n).map aD)),some (dcL false (bk T (ev ws n))),some (.lst (crs (cnN ws n) T)),some (.lst (hitsD T (ev ws n))),y8,y9,y10,y11,y12,y13,some (toldD T (nLed ws T n))] = .ok (.lst (((T.map fun r:Row=>some r.l) ++ [none]).map labO)):=by
   refine Jg _ _ (Jai _ _ Row.d (fun r:Row=>D.str r.l) rfl (by omega) fun r _=>row0 r _ _ 0 rfl) (y:=.lst [.non]) (Jab _ _ (ds:=[.non]) rfl (by simp)) ?_
   rw [Jgf _ _ (JE (by simp; omega))]
   simp [labO,List.map_map,Function.comp_def]
  refine Jai _ _ labO (fun o=>D.tup [labO o,.int (nLed ws T n o)]) (by rw [JcD,e2]; rfl) (by simp; omega) fun o _=>?_
  refine Jr _ _ (Je _ _ rfl (Je _ _ (Jg _ _ (x:=dcL false (bk T (ev ws n))) (y:=labO o) rfl rfl ?_) rfl)) (by simp)
  have:=JaT (g:=labO) o (bk T (ev ws n))
  simp only [op2,dcL,JbT,and_self,if_true,this,JmK]
 rw [Jw _ _ _ _ (Jg _ _ (x:=toldD T (nLed ws T n)) rfl g8 (Jkx _ (Nat.le_trans (JjF _ _) (by decide)))),if_neg Bool.false_ne_true]
 have g9:evD (runD defs (c + 11)) (.un .sumI (.comp 2 (.walk (.un .rows (.var 14))) (.con (.bl true)) (.var 1))) [some (ofN ns),some (tabD T),some (aD ws),some (.int n),some (.lst ((ev ws n).map aD)),some (dcL false (bk T (ev ws n))),some (.lst (crs (cnN ws n) T)),some (.lst (hitsD T (ev ws n))),y8,y9,y10,y11,y12,y13,some (toldD T (nLed ws T n))] = .ok (.int (ev ws n).length):=by
  refine Jx _ _ (JeQ _ _ labO (fun o=>D.int (nLed ws T n o)) (fun o=>D.int (nLed ws T n o)) (rs:=(T.map fun r:Row=>some r.l) ++ [none]) rfl (by simp; omega) fun o _=>rfl) ?_
  simp only [op1,Jep]
  rw [if_pos,JkU ws T hnd n]
  simp only [Bool.and_eq_true,decide_eq_true_eq,List.all_eq_true,List.length_map,List.length_append,List.length_cons,List.length_nil]
  refine ⟨fun x hx=>?_,by omega⟩
  obtain ⟨o,_,rfl⟩:=List.mem_map.mp hx
  have:=JlN ws T n o
  omega
 rw [Jw (p:=false) _ _ _ _ (Jg _ _ g9 (y:=.int (ev ws n).length) (Jx _ _ (x:=.lst ((ev ws n).map aD)) rfl (by simp)) (by simp)),if_neg Bool.false_ne_true,Jan]
 have hcd:(D.lst (crs (cnN ws n) T)).dep <= 20:=by have:=Jht (cnN ws n) T; simp only [D.dep]; omega
 refine JD _ _ (p:=true) (q:=true) (Jg _ _ (x:=.lst (crs (cnN ws n) T)) (Jk _ _ (ds:=[tabD T,aD ws,.int n]) rfl (JbZ ws hw (by omega) n (by omega) T (by omega) (c + 7))) rfl (Jip _ hcd)) fun _=>?_
 have h0:nLed ws [] n none = ((ev ws n).length:Int):=by
  have:((ev ws n).map fun a=>if fl [] a = none then (1:Int) else 0) = (ev ws n).map fun _=>(1:Int):=List.map_congr_left fun a _=>if_pos rfl
  rw [nLed,this,Jbr]
 have hz:=tall ws hw hl [] (N:=4) ⟨fun r hr=>(by cases hr),Nat.zero_le _⟩ (by decide) n (by omega) (c + 5)
 have ez:toldD [] (nLed ws [] n) = .lst [.tup [.non,.int (ev ws n).length]]:=by simp [toldD,labO,h0]
 rw [ez] at hz
 refine Jg _ _ (x:=.lst [.tup [.non,.int (ev ws n).length]]) (y:=.lst [.tup [.non,.int (ev ws n).length]]) (Jk _ _ (ds:=[tabD [],aD ws,.int n]) (Je _ _ (Jr _ _ (ds:=[]) rfl (by simp)) rfl) hz) (Jab _ _ (ds:=[.tup [.non,.int (ev ws n).length]]) (Je _ _ (Jr _ _ (ds:=[.non,.int (ev ws n).length]) (Je _ _ rfl (Je _ _ (Jx _ _ (x:=.lst ((ev ws n).map aD)) rfl (by simp)) rfl)) (by simp)) rfl) (by simp)) (Jip _ (by simp [D.dep,deps]))
end K66
namespace K66
open PySem.Str (ofString)
open PySem PySem.Spec PyProof.Rows L2 Pu Rd
abbrev row:Program:=PySem.Challenge.pw_routeboard_k66_whole_tallies
def stAt (i:Nat):Stmt:=row.main.body.getD i (.Pass ⟨0,0,0,0⟩)
abbrev s_has_rest:Stmt:=stAt 2
abbrev N_has_rest:List Str:=[(ofString "pattern")]
abbrev s_writes_number:Stmt:=stAt 3
abbrev N_writes_number:List Str:=[(ofString "word")]
abbrev s_lets_by:Stmt:=stAt 4
abbrev N_lets_by:List Str:=[(ofString "part"),(ofString "word")]
abbrev s_has_fitting_length:Stmt:=stAt 5
abbrev N_has_fitting_length:List Str:=[(ofString "pattern"),(ofString "many")]
abbrev s_does_match:Stmt:=stAt 6
abbrev N_does_match:List Str:=[(ofString "pattern"),(ofString "address")]
abbrev s_all_rows:Stmt:=stAt 8
abbrev N_all_rows:List Str:=[(ofString "table"),(ofString "address")]
abbrev s_first:Stmt:=stAt 9
abbrev N_first:List Str:=[(ofString "table"),(ofString "address"),(ofString "labels")]
abbrev s_can_begin:Stmt:=stAt 11
abbrev N_can_begin:List Str:=[(ofString "pattern"),(ofString "word")]
abbrev s_without_first_word:Stmt:=stAt 12
abbrev N_without_first_word:List Str:=[(ofString "pattern")]
abbrev s_below:Stmt:=stAt 13
abbrev N_below:List Str:=[(ofString "table"),(ofString "word")]
abbrev s_part_at:Stmt:=stAt 15
abbrev N_part_at:List Str:=[(ofString "pattern"),(ofString "at")]
abbrev s_tally_of_all:Stmt:=stAt 17
abbrev N_tally_of_all:List Str:=[(ofString "patterns"),(ofString "words"),(ofString "many"),(ofString "count"),(ofString "at"),(ofString "parts")]
abbrev s_tally:Stmt:=stAt 18
abbrev N_tally:List Str:=[(ofString "pattern"),(ofString "words"),(ofString "many")]
abbrev s_tallies_below:Stmt:=stAt 19
abbrev N_tallies_below:List Str:=[(ofString "table"),(ofString "words"),(ofString "many"),(ofString "counts"),(ofString "turn"),(ofString "further"),(ofString "rows"),(ofString "count"),(ofString "word"),(ofString "left")]
abbrev s_tallies:Stmt:=stAt 20
abbrev N_tallies:List Str:=[(ofString "table"),(ofString "words"),(ofString "many"),(ofString "counts"),(ofString "rows"),(ofString "count"),(ofString "label")]
abbrev s_crossings:Stmt:=stAt 21
abbrev N_crossings:List Str:=[(ofString "table"),(ofString "words"),(ofString "many"),(ofString "found"),(ofString "at"),(ofString "row"),(ofString "other"),(ofString "count")]
abbrev s_law_cell:Stmt:=stAt 23
abbrev N_law_cell:List Str:=[(ofString "_law_script"),(ofString "_law_k")]
abbrev s_law_pick:Stmt:=stAt 24
abbrev N_law_pick:List Str:=[(ofString "_law_script"),(ofString "_law_k"),(ofString "_law_many"),(ofString "_law_drawn")]
abbrev s_law_part:Stmt:=stAt 25
abbrev N_law_part:List Str:=[(ofString "_law_script"),(ofString "_law_at"),(ofString "_law_name"),(ofString "_law_pool"),(ofString "_law_way"),(ofString "_law_some")]
abbrev s_law_pattern:Stmt:=stAt 26
abbrev N_law_pattern:List Str:=[(ofString "_law_script"),(ofString "_law_at"),(ofString "_law_most"),(ofString "_law_names"),(ofString "_law_made")]
abbrev s_law_table:Stmt:=stAt 27
abbrev N_law_table:List Str:=[(ofString "_law_script"),(ofString "_law_at"),(ofString "_law_most"),(ofString "_law_rows"),(ofString "_law_labels"),(ofString "_law_many")]
abbrev s_law_is_number:Stmt:=stAt 28
abbrev N_law_is_number:List Str:=[(ofString "_law_word")]
abbrev s_law_matched:Stmt:=stAt 29
abbrev N_law_matched:List Str:=[(ofString "_law_pattern_here"),(ofString "_law_address"),(ofString "_law_part_here"),(ofString "_law_word"),(ofString "_law_rest")]
abbrev s_law_every:Stmt:=stAt 30
abbrev N_law_every:List Str:=[(ofString "_law_words"),(ofString "_law_many"),(ofString "_law_made"),(ofString "_law_place"),(ofString "_law_longer"),(ofString "_law_ahead")]
abbrev s_law:Stmt:=stAt 31
abbrev N_law:List Str:=[(ofString "_law_script"),(ofString "_law_table_here"),(ofString "_law_words"),(ofString "_law_many"),(ofString "_law_every_here"),(ofString "_law_book"),(ofString "_law_due"),(ofString "_law_hits"),(ofString "_law_here"),(ofString "_law_rows"),(ofString "_law_label"),(ofString "_law_k"),(ofString "_law_j"),(ofString "_law_some"),(ofString "_law_told")]
structure Env (G:Gw) (call:CallD):Prop where
 f_has_rest:Callee G call 0 (ofString "has_rest")
 f_writes_number:Callee G call 1 (ofString "writes_number")
 f_lets_by:Callee G call 2 (ofString "lets_by")
 f_has_fitting_length:Callee G call 3 (ofString "has_fitting_length")
 f_does_match:Callee G call 4 (ofString "does_match")
 f_all_rows:Callee G call 5 (ofString "all_rows")
 f_first:Callee G call 6 (ofString "first")
 f_can_begin:Callee G call 7 (ofString "can_begin")
 f_without_first_word:Callee G call 8 (ofString "without_first_word")
 f_below:Callee G call 9 (ofString "below")
 f_part_at:Callee G call 10 (ofString "part_at")
 f_tally_of_all:Callee G call 11 (ofString "tally_of_all")
 f_tally:Callee G call 12 (ofString "tally")
 f_tallies_below:Callee G call 13 (ofString "tallies_below")
 f_tallies:Callee G call 14 (ofString "tallies")
 f_crossings:Callee G call 15 (ofString "crossings")
 f_law_cell:Callee G call 16 (ofString "_law_cell")
 f_law_pick:Callee G call 17 (ofString "_law_pick")
 f_law_part:Callee G call 18 (ofString "_law_part")
 f_law_pattern:Callee G call 19 (ofString "_law_pattern")
 f_law_table:Callee G call 20 (ofString "_law_table")
 f_law_is_number:Callee G call 21 (ofString "_law_is_number")
 f_law_matched:Callee G call 22 (ofString "_law_matched")
 f_law_every:Callee G call 23 (ofString "_law_every")
 f_law:Callee G call 24 (ofString "law")
 b_all:G.mg (ofString "all") = none
 b_enumerate:G.mg (ofString "enumerate") = none
 b_int:G.mg (ofString "int") = none
 b_len:G.mg (ofString "len") = none
 b_range:G.mg (ofString "range") = none
 b_set:G.mg (ofString "set") = none
 b_sorted:G.mg (ofString "sorted") = none
 b_sum:G.mg (ofString "sum") = none
 b_tuple:G.mg (ofString "tuple") = none
 b_zip:G.mg (ofString "zip") = none
 c_FIGURES:GlobC G (ofString "FIGURES") (.str (ofString "0123456789"))
 k_T:NoKT G.K
section
variable {X:Cx} {G:Gw} {call:CallD} {H0:Hp}
set_option hygiene false in
local macro_rules
| `(tactic| sleep 1)=>`(tactic| first
 | with_reducible refine @vV _ _ _ _ _ _ _ C _ ?_
 | with_reducible refine @Ja _ _ _ _ _ _ ?_ ?_ ?_
 | with_reducible refine @Jj _ _
 | with_reducible refine @Jm _ _ _ _ _
 | with_reducible refine @Jbq _ _ _ _ _
 | with_reducible refine @JjA _ _ _ _ _
 | with_reducible refine @Jes _ _ _ _
 | with_reducible refine @JaO _ _ _ _ _ _ ?_
 | with_reducible refine @Jl _ _ _ _ _ _ _ _ ?_ ?_
 | with_reducible refine @Jft _ _ _ _
 | with_reducible refine @Jdj _ _ _ _ _ _ _ ?_
 | with_reducible refine @Jir _ _ _ _ _ _ _ _ _ _ _ ?_ ?_ ?_
 | with_reducible refine @cF _ _ _ _ _ _ _ _ _ _ _ C _ ?_ ?_ ?_ ?_ ?_
 | with_reducible refine @eIx _ _ _ _ _ _ _ ?_ ?_ ?_
 | with_reducible refine @Jcc _ _ _ _ _ _ _ _ _ _ ?_ ?_ ?_
 | with_reducible refine @eAdd _ _ _ _ _ _ _ ?_ ?_
 | with_reducible refine @eSub _ _ _ _ _ _ _ ?_ ?_
 | with_reducible refine @eMul _ _ _ _ _ _ _ ?_ ?_
 | with_reducible refine @eMod _ _ _ _ _ _ _ ?_ ?_
 | with_reducible refine @eDiv _ _ _ _ _ _ _ ?_ ?_
 | with_reducible refine @Jdt _ _ _ _ _ _ ?_
 | with_reducible refine @aApp _ _ _ _ _ _ _ _ _ _ _ _ _ _ _ C ?_ ?_ ?_ ?_ ?_
 | with_reducible refine @aExt _ _ _ _ _ _ _ _ _ _ _ _ _ _ _ C ?_ ?_ ?_ ?_ ?_
 | with_reducible refine @aOwnC _ _ _ _ _ _ _ _ _ _ _ _ _ _ _ _ _ _ _ _ _ C ?_ ?_ ?_ ?_ ?_ ?_ ?_
 | with_reducible refine @aOwn _ _ _ _ _ _ _ _ _ _ _ _ _ C ?_ ?_ ?_
 | with_reducible refine @Jiv _ _ _ _ _ _ _ _ _ _ _ _ _ _ _ _ _ _ _ _ _ C ?_ ?_ ?_ ?_ ?_ ?_ ?_ ?_
 | with_reducible refine @aSet _ _ _ _ _ _ _ _ _ _ _ _ _ C ?_ ?_ ?_ ?_
 | with_reducible refine @cAll _ _ _ _ _ _ _ _ _ C E.b_all ?_ ?_ ?_
 | with_reducible refine @cInt _ _ _ _ _ _ _ _ _ C E.b_int ?_ ?_ ?_
 | with_reducible refine @cLen _ _ _ _ _ _ _ _ _ C E.b_len ?_ ?_ ?_
 | with_reducible refine @Jkk _ _ _ _ _ _ _ _ _ C E.b_tuple ?_ ?_ ?_
 | with_reducible refine @eEq _ _ _ _ _ _ _ _ _ _ C ?_ ?_
 | with_reducible refine @eGe _ _ _ _ _ _ _ ?_ ?_
 | with_reducible refine @eGt _ _ _ _ _ _ _ ?_ ?_
 | with_reducible refine @eIn _ _ _ _ _ _ _ _ _ _ C ?_ ?_ ?_
 | with_reducible refine @eNe _ _ _ _ _ _ _ _ _ _ C ?_ ?_
 | with_reducible refine @eRep _ _ _ _ _ _ _ ?_ ?_ ?_
 | with_reducible refine @Jig _ _ _ _ _ _ _ _ _ _ _ _ _ _ _ C ?_ ?_ ?_ ?_ ?_ ?_
 | with_reducible refine @Jaq _ _ _ _ _ ?_
 | with_reducible refine @Jkj _ _ _ _ _ _ _ _ ?_ ?_
 | with_reducible refine @JmX _ _ _ _ _ _ _ _ _ ?_ ?_ ?_
 | with_reducible refine @JmH _ _ _ _ _ ?_
 | with_reducible refine @Jmz _ _ _ _ _ ?_
 | with_reducible refine @Jkg _ _ _ _ _ _ ?_
 | with_reducible refine @pI_or _ _ _ _ _ _ _ _ ?_ ?_
 | with_reducible refine @JkI _ _ _ _ _ _ _ _ _ _ _ C ?_ ?_ ?_ ?_ ?_ ?_
 | with_reducible refine @Jib _ _ _ _ _ _ _ _ ?_ ?_ ?_ ?_ ?_ ?_
 | with_reducible refine @JdM _ _
 | with_reducible refine @Jel _ _ _ _ ?_
 | with_reducible refine @Jod _ _ _ _ _ _ _ ?_
 | with_reducible refine @JnO _ _ _ _ _ ?_
 | with_reducible refine @Jhx _ _ _ _ _ _ _ ?_
 | with_reducible refine @Jou _ _ _ _ _ _ _ _ ?_ ?_
 | with_reducible refine @Jme _ _ _ _ _ _ _ _ _ _ _ _ C ?_ ?_ ?_ ?_
 | with_reducible refine @Jop _ _ _ _ _ _ ?_
 | with_reducible refine @pW_or _ _ _ _ _ _ _ _ ?_ ?_
 | with_reducible refine @Jbp _ _ _ _ _ _ _ _ _ _ C ?_ ?_ ?_ ?_
 | with_reducible refine @JbJ _ _ _ _ _ _ ?_
 | with_reducible refine @JdG _ _ _ _ _ _ _ ?_
 | with_reducible refine @JnT _ _ _ _ _ _ _ _ _ _ _ _ _ _ C ?_ ?_ ?_ ?_ ?_ ?_
 | with_reducible refine @JaY _ _
 | with_reducible refine @Jcl _ _ _ _ ?_
 | with_reducible refine @JeJ _ _ _ _ _ _ _ _ _ _ _ _ _ _ _ C ?_ ?_ ?_ ?_ ?_ ?_
 | with_reducible refine @tEq _ _ _ _ _ _ _ _ _ _ C ?_ ?_
 | with_reducible refine @tGe _ _ _ _ _ _ _ ?_ ?_
 | with_reducible refine @tGt _ _ _ _ _ _ _ ?_ ?_
 | with_reducible refine @tIn _ _ _ _ _ _ _ _ _ _ C ?_ ?_ ?_
 | with_reducible refine @tLt _ _ _ _ _ _ _ ?_ ?_
 | with_reducible refine @tNe _ _ _ _ _ _ _ _ _ _ C ?_ ?_
 | with_reducible refine @tNi _ _ _ _ _ _ _ _ _ _ C ?_ ?_ ?_
 | with_reducible refine @vG _ _ _ _ _ _ _ C _ ?_ ?_
 | with_reducible refine @aMov _ _ _ _ _ _ _ _ _ _ _ _ _ _ C ?_ ?_ ?_
 | with_reducible refine @Joo _ _ _ _ _ _ _ _ _ _ _ _ C ?_ ?_
 | with_reducible refine @Jmx _ _ _ _ _ _ _ _ _ _ _ _ C ?_ ?_
 | with_reducible refine @eDsp1 _ _ _ _ _ _ _ _ _ _ C ?_ ?_ ?_
 | with_reducible refine @JiM _ _ _ _ _ _ _ _ _ ?_ ?_ ?_
 | with_reducible refine @Jor _ _ _ _ _ _ _ _ _ C E.b_int ?_ ?_ ?_
 | with_reducible refine @Jdm _ _ _ _ _ _ _ _ _ _ _ _ C ?_ ?_ ?_ ?_ ?_ ?_
 | with_reducible refine @aMulA _ _ _ _ _ _ _ _ _ _ _ _ _ C ?_ ?_ ?_
 | with_reducible refine @JnD _ _ _ _ _ _ _ _ _ C E.b_sorted ?_ ?_ ?_
 | with_reducible refine @JkO _ _ _ _ _ _ _ _ _ _ _ _ C _ ?_ ?_ ?_ ?_ _ ?_
 | with_reducible refine @eDsp0 _ _ _
 | with_reducible refine @JmP _ _ _ _ _ _ _ _ _ _ _ _ _ _ _ _ C _ ?_ ?_ ?_ ?_ ?_
 | with_reducible refine @aMovF _ _ _ _ _ _ _ _ _ _ _ _ _ _ C ?_ ?_ ?_
 | with_reducible refine @Jnj _ _ _ _ _ _ _ _ _ _ _ _ _ _ _ _ _ _ _ _ _ _ _ _ _ C ?_ ?_ ?_ ?_ ?_ ?_ ?_ ?_ ?_ ?_
 | with_reducible refine @JnA _ _ _ _ _ _ _ _ _ C E.b_sum ?_ ?_ ?_
 | with_reducible refine @Jq _ _ _ _ ?_ ?_
 | with_reducible refine @JmU _ _ _ _ ?_ ?_
 | with_reducible refine @PW.pt _ _ _ ?_
 | ((with_reducible show _ = _); first | exact dk | exact rfl | (first | exact E.b_all | exact E.b_enumerate | exact E.b_int | exact E.b_len | exact E.b_range | exact E.b_set | exact E.b_sorted | exact E.b_sum | exact E.b_tuple | exact E.b_zip))
 | ((with_reducible show True); exact True.intro)
 | ((with_reducible show _ = true -> NoKT _); first | (intro _; exact E.k_T) | (intro z; cases z))
 | ((with_reducible show NoKT _); exact E.k_T)
 | ((with_reducible show ExcC _ _); fail)
 | ((with_reducible show Takes _ _ _); fail)
 | ((with_reducible show IsaC _ _ _); fail)
 | with_reducible intro _ C
 | ((with_reducible intro _); exact rfl)
 | ((with_reducible show _ ≠ _); exact dk)
 | ((with_reducible show _ <= _); exact dk)
 | ((with_reducible show PlainIx _); intro _ _; exact rfl)
 | ((with_reducible show NoSl _); intro _ _; exact rfl)
 | ((with_reducible show M2 _ _ _ _ _ _ _); exact ⟨rfl,rfl,rfl,rfl⟩)
 | ((with_reducible show OpR _ _ _); first | exact Joe | exact JjP | exact JgH | exact JhZ)
 | ((with_reducible show Callee _ _ _ _); first | exact E.f_has_rest | exact E.f_writes_number | exact E.f_lets_by | exact E.f_has_fitting_length | exact E.f_does_match | exact E.f_all_rows | exact E.f_first | exact E.f_can_begin | exact E.f_without_first_word | exact E.f_below | exact E.f_part_at | exact E.f_tally_of_all | exact E.f_tally | exact E.f_tallies_below | exact E.f_tallies | exact E.f_crossings | exact E.f_law_cell | exact E.f_law_pick | exact E.f_law_part | exact E.f_law_pattern | exact E.f_law_table | exact E.f_law_is_number | exact E.f_law_matched | exact E.f_law_every | exact E.f_law)
 | ((with_reducible show GlobC _ _ _); first | exact E.c_FIGURES)
 | ((with_reducible show TgOk _ _ _ _); first | exact gOne C dk | exact gTwo C dk dk)
 | ((with_reducible show PG _ _ _); first | exact lOne C dk | exact lTwo C dk dk | exact lThree C dk dk dk)
 | with_reducible exact hx.pass)
theorem JfT (E:Env G call) (C:Ctx X G N_has_rest (defScope s_has_rest).names) (hx:HX X (defScope s_has_rest).names):PSs X (defBody s_has_rest) (tS X call [] H0 b_has_rest):=by
 conv=>(arg 2; whnf)
 conv=>(arg 3; arg 5; whnf)
 repeat' sleep 1
theorem Jbw (E:Env G call) (C:Ctx X G N_writes_number (defScope s_writes_number).names) (hx:HX X (defScope s_writes_number).names):PSs X (defBody s_writes_number) (tS X call [] H0 b_writes_number):=by
 conv=>(arg 2; whnf)
 conv=>(arg 3; arg 5; whnf)
 repeat' sleep 1
theorem Jhs (E:Env G call) (C:Ctx X G N_lets_by (defScope s_lets_by).names) (hx:HX X (defScope s_lets_by).names):PSs X (defBody s_lets_by) (tS X call [] H0 b_lets_by):=by
 conv=>(arg 2; whnf)
 conv=>(arg 3; arg 5; whnf)
 repeat' sleep 1
theorem JW (E:Env G call) (C:Ctx X G N_has_fitting_length (defScope s_has_fitting_length).names) (hx:HX X (defScope s_has_fitting_length).names):PSs X (defBody s_has_fitting_length) (tS X call [] H0 b_has_fitting_length):=by
 conv=>(arg 2; whnf)
 conv=>(arg 3; arg 5; whnf)
 repeat' sleep 1
theorem Jds (E:Env G call) (C:Ctx X G N_does_match (defScope s_does_match).names) (hx:HX X (defScope s_does_match).names):PSs X (defBody s_does_match) (tS X call [] H0 b_does_match):=by
 conv=>(arg 2; whnf)
 conv=>(arg 3; arg 5; whnf)
 repeat' sleep 1
theorem JfM (E:Env G call) (C:Ctx X G N_all_rows (defScope s_all_rows).names) (hx:HX X (defScope s_all_rows).names):PSs X (defBody s_all_rows) (tS X call [] H0 b_all_rows):=by
 conv=>(arg 2; whnf)
 conv=>(arg 3; arg 5; whnf)
 repeat' sleep 1
theorem Jli (E:Env G call) (C:Ctx X G N_first (defScope s_first).names) (hx:HX X (defScope s_first).names):PSs X (defBody s_first) (tS X call [] H0 b_first):=by
 conv=>(arg 2; whnf)
 conv=>(arg 3; arg 5; whnf)
 repeat' sleep 1
theorem JdI (E:Env G call) (C:Ctx X G N_can_begin (defScope s_can_begin).names) (hx:HX X (defScope s_can_begin).names):PSs X (defBody s_can_begin) (tS X call [] H0 b_can_begin):=by
 conv=>(arg 2; whnf)
 conv=>(arg 3; arg 5; whnf)
 repeat' sleep 1
theorem JY (E:Env G call) (C:Ctx X G N_without_first_word (defScope s_without_first_word).names) (hx:HX X (defScope s_without_first_word).names):PSs X (defBody s_without_first_word) (tS X call [] H0 b_without_first_word):=by
 conv=>(arg 2; whnf)
 conv=>(arg 3; arg 5; whnf)
 repeat' sleep 1
theorem Jlc (E:Env G call) (C:Ctx X G N_below (defScope s_below).names) (hx:HX X (defScope s_below).names):PSs X (defBody s_below) (tS X call [] H0 b_below):=by
 conv=>(arg 2; whnf)
 conv=>(arg 3; arg 5; whnf)
 repeat' sleep 1
theorem JhE (E:Env G call) (C:Ctx X G N_part_at (defScope s_part_at).names) (hx:HX X (defScope s_part_at).names):PSs X (defBody s_part_at) (tS X call [] H0 b_part_at):=by
 conv=>(arg 2; whnf)
 conv=>(arg 3; arg 5; whnf)
 repeat' sleep 1
theorem JbC (E:Env G call) (C:Ctx X G N_tally_of_all (defScope s_tally_of_all).names) (hx:HX X (defScope s_tally_of_all).names):PSs X (defBody s_tally_of_all) (tS X call [] H0 b_tally_of_all):=by
 conv=>(arg 2; whnf)
 conv=>(arg 3; arg 5; whnf)
 repeat' sleep 1
theorem JlI (E:Env G call) (C:Ctx X G N_tally (defScope s_tally).names) (hx:HX X (defScope s_tally).names):PSs X (defBody s_tally) (tS X call [] H0 b_tally):=by
 conv=>(arg 2; whnf)
 conv=>(arg 3; arg 5; whnf)
 repeat' sleep 1
theorem Jbb (E:Env G call) (C:Ctx X G N_tallies_below (defScope s_tallies_below).names) (hx:HX X (defScope s_tallies_below).names):PSs X (defBody s_tallies_below) (tS X call [5] H0 b_tallies_below):=by
 conv=>(arg 2; whnf)
 conv=>(arg 3; arg 5; whnf)
 repeat' sleep 1
theorem Jil (E:Env G call) (C:Ctx X G N_tallies (defScope s_tallies).names) (hx:HX X (defScope s_tallies).names):PSs X (defBody s_tallies) (tS X call [3] H0 b_tallies):=by
 conv=>(arg 2; whnf)
 conv=>(arg 3; arg 5; whnf)
 repeat' sleep 1
theorem JdR (E:Env G call) (C:Ctx X G N_crossings (defScope s_crossings).names) (hx:HX X (defScope s_crossings).names):PSs X (defBody s_crossings) (tS X call [3] H0 b_crossings):=by
 conv=>(arg 2; whnf)
 conv=>(arg 3; arg 5; whnf)
 repeat' sleep 1
theorem JfD (E:Env G call) (C:Ctx X G N_law_cell (defScope s_law_cell).names) (hx:HX X (defScope s_law_cell).names):PSs X (defBody s_law_cell) (tS X call [] H0 b_law_cell):=by
 conv=>(arg 2; whnf)
 conv=>(arg 3; arg 5; whnf)
 repeat' sleep 1
theorem JfE (E:Env G call) (C:Ctx X G N_law_pick (defScope s_law_pick).names) (hx:HX X (defScope s_law_pick).names):PSs X (defBody s_law_pick) (tS X call [] H0 b_law_pick):=by
 conv=>(arg 2; whnf)
 conv=>(arg 3; arg 5; whnf)
 repeat' sleep 1
theorem JfB (E:Env G call) (C:Ctx X G N_law_part (defScope s_law_part).names) (hx:HX X (defScope s_law_part).names):PSs X (defBody s_law_part) (tS X call [] H0 b_law_part):=by
 conv=>(arg 2; whnf)
 conv=>(arg 3; arg 5; whnf)
 repeat' sleep 1
theorem JbY (E:Env G call) (C:Ctx X G N_law_pattern (defScope s_law_pattern).names) (hx:HX X (defScope s_law_pattern).names):PSs X (defBody s_law_pattern) (tS X call [4] H0 b_law_pattern):=by
 conv=>(arg 2; whnf)
 conv=>(arg 3; arg 5; whnf)
 repeat' sleep 1
theorem Jee (E:Env G call) (C:Ctx X G N_law_table (defScope s_law_table).names) (hx:HX X (defScope s_law_table).names):PSs X (defBody s_law_table) (tS X call [] H0 b_law_table):=by
 conv=>(arg 2; whnf)
 conv=>(arg 3; arg 5; whnf)
 repeat' sleep 1
theorem Jbf (E:Env G call) (C:Ctx X G N_law_is_number (defScope s_law_is_number).names) (hx:HX X (defScope s_law_is_number).names):PSs X (defBody s_law_is_number) (tS X call [] H0 b_law_is_number):=by
 conv=>(arg 2; whnf)
 conv=>(arg 3; arg 5; whnf)
 repeat' sleep 1
theorem Jcv (E:Env G call) (C:Ctx X G N_law_matched (defScope s_law_matched).names) (hx:HX X (defScope s_law_matched).names):PSs X (defBody s_law_matched) (tS X call [] H0 b_law_matched):=by
 conv=>(arg 2; whnf)
 conv=>(arg 3; arg 5; whnf)
 repeat' sleep 1
theorem JdB (E:Env G call) (C:Ctx X G N_law_every (defScope s_law_every).names) (hx:HX X (defScope s_law_every).names):PSs X (defBody s_law_every) (tS X call [4] H0 b_law_every):=by
 conv=>(arg 2; whnf)
 conv=>(arg 3; arg 5; whnf)
 repeat' sleep 1
theorem d_law (E:Env G call) (C:Ctx X G N_law (defScope s_law).names) (hx:HX X (defScope s_law).names):PSs X (defBody s_law) (tS X call [5,6] H0 b_law):=by
 refine @Jl _ _ _ _ _ _ _ _ ?_ ?_
 refine @aSet _ _ _ _ _ _ _ _ _ _ _ _ _ C (by decide +kernel) ?_ rfl rfl
 refine @cF _ _ _ _ _ _ _ _ _ _ _ C _ E.f_law_table (by decide +kernel) ?_ rfl rfl
 refine @Ja _ _ _ _ _ _ ?_ ?_ rfl
 exact vV C (by decide +kernel)
 refine @Ja _ _ _ _ _ _ Jm ?_ rfl
 exact @Ja _ _ _ _ _ _ Jm (@Ja _ _ _ _ _ _ Jm Jj rfl) rfl
 refine @Jl _ _ _ _ _ _ _ _ ?_ ?_
 refine @aSet _ _ _ _ _ _ _ _ _ _ _ _ _ C (by decide +kernel) ?_ rfl rfl
 refine @Jkk _ _ _ _ _ _ _ _ _ C E.b_tuple ?_ (by decide +kernel) rfl
 refine @Jcc _ _ _ _ _ _ _ _ _ _ ?_ JdM ?_
 refine @Jcc _ _ _ _ _ _ _ _ _ _ ?_ ?_ JdM
 refine @JnD _ _ _ _ _ _ _ _ _ C E.b_sorted ?_ (by decide +kernel) rfl
 refine @Jq _ _ _ _ ?_ rfl
 refine @Jaq _ _ _ _ _ ?_
 refine @Ja _ _ _ _ _ _ Jbq ?_ rfl
 refine @Ja _ _ _ _ _ _ Jbq ?_ rfl
 refine @Ja _ _ _ _ _ _ Jbq ?_ rfl
 refine @Ja _ _ _ _ _ _ Jbq ?_ rfl
 exact @Ja _ _ _ _ _ _ Jbq (@Ja _ _ _ _ _ _ Jbq Jj rfl) rfl
 refine @Jel _ _ _ _ ?_
 refine @cF _ _ _ _ _ _ _ _ _ _ _ C _ E.f_law_pick (by decide +kernel) ?_ rfl rfl
 refine @Ja _ _ _ _ _ _ ?_ ?_ rfl
 exact vV C (by decide +kernel)
 exact @Ja _ _ _ _ _ _ Jm (@Ja _ _ _ _ _ _ Jm Jj rfl) rfl
 refine @Jel _ _ _ _ ?_
 refine @eAdd _ _ _ _ _ _ _ Jm ?_
 refine @cF _ _ _ _ _ _ _ _ _ _ _ C _ E.f_law_pick (by decide +kernel) ?_ rfl rfl
 refine @Ja _ _ _ _ _ _ ?_ ?_ rfl
 exact vV C (by decide +kernel)
 exact @Ja _ _ _ _ _ _ Jm (@Ja _ _ _ _ _ _ Jm Jj rfl) rfl
 refine @Jl _ _ _ _ _ _ _ _ ?_ ?_
 refine @aSet _ _ _ _ _ _ _ _ _ _ _ _ _ C (by decide +kernel) ?_ rfl rfl
 refine @cF _ _ _ _ _ _ _ _ _ _ _ C _ E.f_law_pick (by decide +kernel) ?_ rfl rfl
 refine @Ja _ _ _ _ _ _ ?_ ?_ rfl
 exact vV C (by decide +kernel)
 exact @Ja _ _ _ _ _ _ Jm (@Ja _ _ _ _ _ _ Jm Jj rfl) rfl
 refine @Jl _ _ _ _ _ _ _ _ ?_ ?_
 refine @Jnj _ _ _ _ _ _ _ _ _ _ _ _ _ _ _ _ _ _ _ _ _ _ _ _ _ C (by decide +kernel) (by decide +kernel) (by decide +kernel) (by decide +kernel) (by decide +kernel) ?_ rfl rfl rfl rfl
 refine @cF _ _ _ _ _ _ _ _ _ _ _ C _ E.f_law_every (by decide +kernel) ?_ rfl rfl
 refine @Ja _ _ _ _ _ _ ?_ ?_ rfl
 exact vV C (by decide +kernel)
 refine @Ja _ _ _ _ _ _ ?_ Jj rfl
 exact vV C (by decide +kernel)
 refine @Jl _ _ _ _ _ _ _ _ ?_ ?_
 refine @Jiv _ _ _ _ _ _ _ _ _ _ _ _ _ _ _ _ _ _ _ _ _ C (by decide +kernel) (by decide +kernel) ?_ ?_ (fun _ C'=>JaY) ?_ rfl (fun _=>rfl)
 refine @JdG _ _ _ _ _ _ _ ?_
 exact vV C (by decide +kernel)
 exact (fun _ C'=>gTwo C' (by decide +kernel) (by decide +kernel))
 intro _ C'
 refine @Jq _ _ _ _ ?_ rfl
 refine @Jig _ _ _ _ _ _ _ _ _ _ _ _ _ _ _ C' (by decide +kernel) ?_ ?_ ?_ ?_ (fun _=>rfl)
 refine @JbJ _ _ _ _ _ _ ?_
 exact vV C' (by decide +kernel)
 exact (fun _ C''=>gOne C'' (by decide +kernel))
 intro _ C''
 refine @Jcl _ _ _ _ ?_
 refine @Jhx _ _ _ _ _ _ _ ?_
 refine @cF _ _ _ _ _ _ _ _ _ _ _ C'' _ E.f_law_matched (by decide +kernel) ?_ rfl rfl
 refine @Ja _ _ _ _ _ _ ?_ ?_ rfl
 exact vV C'' (by decide +kernel)
 refine @Ja _ _ _ _ _ _ ?_ Jj rfl
 exact vV C'' (by decide +kernel)
 intro _ C''
 exact vV C'' (by decide +kernel)
 refine @Jl _ _ _ _ _ _ _ _ ?_ ?_
 refine @JeJ _ _ _ _ _ _ _ _ _ _ _ _ _ _ _ C hx.pass ?_ ?_ ?_ rfl (fun _=>rfl)
 refine @JbJ _ _ _ _ _ _ ?_
 exact vV C (by decide +kernel)
 exact @lOne _ _ _ _ _ _ _ _ _ C (by decide +kernel)
 refine @Jl _ _ _ _ _ _ _ _ ?_ ?_
 refine @Jiv _ _ _ _ _ _ _ _ _ _ _ _ _ _ _ _ _ _ _ _ _ C (by decide +kernel) (by decide +kernel) ?_ ?_ ?_ ?_ rfl (fun _=>rfl)
 refine @Jbp _ _ _ _ _ _ _ _ _ _ C ?_ (by decide +kernel) E.b_range rfl
 refine @cLen _ _ _ _ _ _ _ _ _ C E.b_len ?_ (by decide +kernel) rfl
 exact vV C (by decide +kernel)
 exact (fun _ C'=>gOne C' (by decide +kernel))
 intro _ C'
 refine @Jcl _ _ _ _ ?_
 refine @tIn _ _ _ _ _ _ _ _ _ _ C' ?_ ?_ rfl
 exact vV C' (by decide +kernel)
 refine @eIx _ _ _ _ _ _ _ ?_ ?_ (fun _ _=>rfl)
 exact vV C' (by decide +kernel)
 exact vV C' (by decide +kernel)
 intro _ C'
 exact vV C' (by decide +kernel)
 refine @Jl _ _ _ _ _ _ _ _ ?_ ?_
 refine @aSet _ _ _ _ _ _ _ _ _ _ _ _ _ C (by decide +kernel) ?_ rfl rfl
 refine @JmX _ _ _ _ _ _ _ _ _ ?_ ?_ Jes
 refine @tNe _ _ _ _ _ _ _ _ _ _ C ?_ ?_
 exact vV C (by decide +kernel)
 exact @Jq _ _ _ _ (@Jaq _ _ _ _ _ Jj) rfl
 refine @eIx _ _ _ _ _ _ _ ?_ Jm (fun _ _=>rfl)
 refine @eIx _ _ _ _ _ _ _ ?_ ?_ (fun _ _=>rfl)
 exact vV C (by decide +kernel)
 refine @eIx _ _ _ _ _ _ _ ?_ Jm (fun _ _=>rfl)
 exact vV C (by decide +kernel)
 refine @JaO _ _ _ _ _ _ ?_
 refine @JmP _ _ _ _ _ _ _ _ _ _ _ _ _ _ _ _ C _ (fun z=>Bool.noConfusion z) (by decide +kernel) ?_ ?_ rfl
 exact vV C (by decide +kernel)
 refine @eAdd _ _ _ _ _ _ _ ?_ Jm
 refine @JkO _ _ _ _ _ _ _ _ _ _ _ _ C _ (fun z=>Bool.noConfusion z) ?_ ?_ rfl _ (M2.mk rfl rfl rfl rfl)
 exact vV C (by decide +kernel)
 exact vV C (by decide +kernel)
 refine @Jl _ _ _ _ _ _ _ _ ?_ ?_
 refine @JeJ _ _ _ _ _ _ _ _ _ _ _ _ _ _ _ C hx.pass ?_ ?_ ?_ rfl (fun _=>rfl)
 refine @Jbp _ _ _ _ _ _ _ _ _ _ C ?_ (by decide +kernel) E.b_range rfl
 refine @cLen _ _ _ _ _ _ _ _ _ C E.b_len ?_ (by decide +kernel) rfl
 exact vV C (by decide +kernel)
 exact @lOne _ _ _ _ _ _ _ _ _ C (by decide +kernel)
 refine @Jl _ _ _ _ _ _ _ _ ?_ ?_
 refine @Jir _ _ _ _ _ _ _ _ _ _ _ ?_ ?_ Jft
 refine @tNe _ _ _ _ _ _ _ _ _ _ C ?_ ?_
 refine @cF _ _ _ _ _ _ _ _ _ _ _ C _ E.f_tally (by decide +kernel) ?_ rfl rfl
 refine @Ja _ _ _ _ _ _ ?_ ?_ rfl
 refine @eIx _ _ _ _ _ _ _ ?_ Jm (fun _ _=>rfl)
 refine @eIx _ _ _ _ _ _ _ ?_ ?_ (fun _ _=>rfl)
 exact vV C (by decide +kernel)
 exact vV C (by decide +kernel)
 refine @Ja _ _ _ _ _ _ ?_ ?_ rfl
 exact vV C (by decide +kernel)
 refine @Ja _ _ _ _ _ _ ?_ Jj rfl
 exact vV C (by decide +kernel)
 refine @cLen _ _ _ _ _ _ _ _ _ C E.b_len ?_ (by decide +kernel) rfl
 refine @eIx _ _ _ _ _ _ _ ?_ ?_ (fun _ _=>rfl)
 exact vV C (by decide +kernel)
 exact vV C (by decide +kernel)
 exact @JaO _ _ _ _ _ _ (@Jdj _ _ _ _ _ _ _ JjA)
 refine @JaO _ _ _ _ _ _ ?_
 refine @JeJ _ _ _ _ _ _ _ _ _ _ _ _ _ _ _ C hx.pass ?_ ?_ ?_ rfl (fun _=>rfl)
 refine @Jdm _ _ _ _ _ _ _ _ _ _ _ _ C ?_ ?_ (by decide +kernel) E.b_range rfl rfl
 refine @eAdd _ _ _ _ _ _ _ ?_ Jm
 exact vV C (by decide +kernel)
 refine @cLen _ _ _ _ _ _ _ _ _ C E.b_len ?_ (by decide +kernel) rfl
 exact vV C (by decide +kernel)
 exact @lOne _ _ _ _ _ _ _ _ _ C (by decide +kernel)
 refine @Jl _ _ _ _ _ _ _ _ ?_ ?_
 refine @Jiv _ _ _ _ _ _ _ _ _ _ _ _ _ _ _ _ _ _ _ _ _ C (by decide +kernel) (by decide +kernel) ?_ ?_ ?_ ?_ rfl (fun _=>rfl)
 refine @JbJ _ _ _ _ _ _ ?_
 refine @eIx _ _ _ _ _ _ _ ?_ ?_ (fun _ _=>rfl)
 exact vV C (by decide +kernel)
 exact vV C (by decide +kernel)
 exact (fun _ C'=>gOne C' (by decide +kernel))
 intro _ C'
 refine @Jcl _ _ _ _ ?_
 refine @tIn _ _ _ _ _ _ _ _ _ _ C' ?_ ?_ rfl
 exact vV C' (by decide +kernel)
 refine @eIx _ _ _ _ _ _ _ ?_ ?_ (fun _ _=>rfl)
 exact vV C' (by decide +kernel)
 exact vV C' (by decide +kernel)
 intro _ C'
 exact vV C' (by decide +kernel)
 refine @JaO _ _ _ _ _ _ ?_
 refine @aExt _ _ _ _ _ _ _ _ _ _ _ _ _ _ _ C (by decide +kernel) ?_ rfl rfl rfl
 refine @eRep _ _ _ _ _ _ _ rfl ?_ ?_
 refine @Jaq _ _ _ _ _ ?_
 refine @Ja _ _ _ _ _ _ ?_ Jj rfl
 refine @Jdt _ _ _ _ _ _ ?_
 refine @Ja _ _ _ _ _ _ ?_ ?_ rfl
 refine @eIx _ _ _ _ _ _ _ ?_ Jm (fun _ _=>rfl)
 refine @eIx _ _ _ _ _ _ _ ?_ ?_ (fun _ _=>rfl)
 exact vV C (by decide +kernel)
 exact vV C (by decide +kernel)
 refine @Ja _ _ _ _ _ _ ?_ ?_ rfl
 refine @eIx _ _ _ _ _ _ _ ?_ Jm (fun _ _=>rfl)
 refine @eIx _ _ _ _ _ _ _ ?_ ?_ (fun _ _=>rfl)
 exact vV C (by decide +kernel)
 exact vV C (by decide +kernel)
 refine @Ja _ _ _ _ _ _ ?_ Jj rfl
 refine @cLen _ _ _ _ _ _ _ _ _ C E.b_len ?_ (by decide +kernel) rfl
 exact vV C (by decide +kernel)
 refine @Jor _ _ _ _ _ _ _ _ _ C E.b_int ?_ (by decide +kernel) rfl
 refine @eNe _ _ _ _ _ _ _ _ _ _ C ?_ ?_
 exact vV C (by decide +kernel)
 exact @Jq _ _ _ _ (@Jaq _ _ _ _ _ Jj) rfl
 refine @Jl _ _ _ _ _ _ _ _ ?_ ?_
 refine @aSet _ _ _ _ _ _ _ _ _ _ _ _ _ C (by decide +kernel) ?_ rfl rfl
 refine @cF _ _ _ _ _ _ _ _ _ _ _ C _ E.f_tallies (by decide +kernel) ?_ rfl rfl
 refine @Ja _ _ _ _ _ _ ?_ ?_ rfl
 exact vV C (by decide +kernel)
 refine @Ja _ _ _ _ _ _ ?_ ?_ rfl
 exact vV C (by decide +kernel)
 refine @Ja _ _ _ _ _ _ ?_ Jj rfl
 exact vV C (by decide +kernel)
 refine @Jl _ _ _ _ _ _ _ _ ?_ ?_
 refine @Jir _ _ _ _ _ _ _ _ _ _ _ ?_ ?_ Jft
 refine @tNe _ _ _ _ _ _ _ _ _ _ C ?_ ?_
 exact vV C (by decide +kernel)
 refine @Jq _ _ _ _ ?_ rfl
 refine @Jig _ _ _ _ _ _ _ _ _ _ _ _ _ _ _ C (by decide +kernel) ?_ ?_ (fun _ C'=>JaY) ?_ (fun _=>rfl)
 refine @JbJ _ _ _ _ _ _ ?_
 refine @eAdd _ _ _ _ _ _ _ ?_ ?_
 refine @Jq _ _ _ _ ?_ rfl
 refine @Jig _ _ _ _ _ _ _ _ _ _ _ _ _ _ _ C (by decide +kernel) ?_ ?_ (fun _ C'=>JaY) ?_ (fun _=>rfl)
 refine @JbJ _ _ _ _ _ _ ?_
 exact vV C (by decide +kernel)
 exact (fun _ C'=>gOne C' (by decide +kernel))
 intro _ C'
 refine @eIx _ _ _ _ _ _ _ ?_ Jm (fun _ _=>rfl)
 exact vV C' (by decide +kernel)
 refine @Jq _ _ _ _ ?_ rfl
 exact @Jaq _ _ _ _ _ (@Ja _ _ _ _ _ _ Jes Jj rfl)
 exact (fun _ C'=>gOne C' (by decide +kernel))
 intro _ C'
 refine @Jdt _ _ _ _ _ _ ?_
 refine @Ja _ _ _ _ _ _ ?_ ?_ rfl
 exact vV C' (by decide +kernel)
 refine @Ja _ _ _ _ _ _ ?_ Jj rfl
 refine @JkO _ _ _ _ _ _ _ _ _ _ _ _ C' _ (fun z=>Bool.noConfusion z) ?_ ?_ rfl _ (M2.mk rfl rfl rfl rfl)
 exact vV C' (by decide +kernel)
 exact vV C' (by decide +kernel)
 exact @JaO _ _ _ _ _ _ (@Jdj _ _ _ _ _ _ _ JjA)
 refine @Jl _ _ _ _ _ _ _ _ ?_ ?_
 refine @Jir _ _ _ _ _ _ _ _ _ _ _ ?_ ?_ Jft
 refine @tNe _ _ _ _ _ _ _ _ _ _ C ?_ ?_
 refine @JnA _ _ _ _ _ _ _ _ _ C E.b_sum ?_ (by decide +kernel) rfl
 refine @Jq _ _ _ _ ?_ rfl
 refine @Jig _ _ _ _ _ _ _ _ _ _ _ _ _ _ _ C (by decide +kernel) ?_ ?_ (fun _ C'=>JaY) ?_ (fun _=>rfl)
 refine @JdG _ _ _ _ _ _ _ ?_
 exact vV C (by decide +kernel)
 exact (fun _ C'=>gTwo C' (by decide +kernel) (by decide +kernel))
 intro _ C'
 exact vV C' (by decide +kernel)
 refine @cLen _ _ _ _ _ _ _ _ _ C E.b_len ?_ (by decide +kernel) rfl
 exact vV C (by decide +kernel)
 exact @JaO _ _ _ _ _ _ (@Jdj _ _ _ _ _ _ _ JjA)
 refine @JaO _ _ _ _ _ _ ?_
 refine @Jdj _ _ _ _ _ _ _ ?_
 refine @Jkj _ _ _ _ _ _ _ _ ?_ ?_
 refine @eEq _ _ _ _ _ _ _ _ _ _ C ?_ ?_
 refine @cF _ _ _ _ _ _ _ _ _ _ _ C _ E.f_crossings (by decide +kernel) ?_ rfl rfl
 refine @Ja _ _ _ _ _ _ ?_ ?_ rfl
 exact vV C (by decide +kernel)
 refine @Ja _ _ _ _ _ _ ?_ ?_ rfl
 exact vV C (by decide +kernel)
 refine @Ja _ _ _ _ _ _ ?_ Jj rfl
 exact vV C (by decide +kernel)
 exact vV C (by decide +kernel)
 refine @Jkg _ _ _ _ _ _ ?_
 refine @eEq _ _ _ _ _ _ _ _ _ _ C ?_ ?_
 refine @cF _ _ _ _ _ _ _ _ _ _ _ C _ E.f_tallies (by decide +kernel) ?_ rfl rfl
 refine @Ja _ _ _ _ _ _ (@Jdt _ _ _ _ _ _ Jj) ?_ rfl
 refine @Ja _ _ _ _ _ _ ?_ ?_ rfl
 exact vV C (by decide +kernel)
 refine @Ja _ _ _ _ _ _ ?_ Jj rfl
 exact vV C (by decide +kernel)
 refine @Jq _ _ _ _ ?_ rfl
 refine @Jaq _ _ _ _ _ ?_
 refine @Ja _ _ _ _ _ _ ?_ Jj rfl
 refine @Jdt _ _ _ _ _ _ ?_
 refine @Ja _ _ _ _ _ _ Jes ?_ rfl
 refine @Ja _ _ _ _ _ _ ?_ Jj rfl
 refine @cLen _ _ _ _ _ _ _ _ _ C E.b_len ?_ (by decide +kernel) rfl
 exact vV C (by decide +kernel)
end
end K66
namespace K66
open PySem.Str (ofString)
open PySem PySem.Spec PyProof.Rows L2 Pu Rd
abbrev T:List DefE:=[((ofString "has_rest"),s_has_rest,[(ofString "pattern")]),
 ((ofString "writes_number"),s_writes_number,[(ofString "word")]),
 ((ofString "lets_by"),s_lets_by,[(ofString "part"),(ofString "word")]),
 ((ofString "has_fitting_length"),s_has_fitting_length,[(ofString "pattern"),(ofString "many")]),
 ((ofString "does_match"),s_does_match,[(ofString "pattern"),(ofString "address")]),
 ((ofString "all_rows"),s_all_rows,[(ofString "table"),(ofString "address")]),
 ((ofString "first"),s_first,[(ofString "table"),(ofString "address")]),
 ((ofString "can_begin"),s_can_begin,[(ofString "pattern"),(ofString "word")]),
 ((ofString "without_first_word"),s_without_first_word,[(ofString "pattern")]),
 ((ofString "below"),s_below,[(ofString "table"),(ofString "word")]),
 ((ofString "part_at"),s_part_at,[(ofString "pattern"),(ofString "at")]),
 ((ofString "tally_of_all"),s_tally_of_all,[(ofString "patterns"),(ofString "words"),(ofString "many")]),
 ((ofString "tally"),s_tally,[(ofString "pattern"),(ofString "words"),(ofString "many")]),
 ((ofString "tallies_below"),s_tallies_below,[(ofString "table"),(ofString "words"),(ofString "many")]),
 ((ofString "tallies"),s_tallies,[(ofString "table"),(ofString "words"),(ofString "many")]),
 ((ofString "crossings"),s_crossings,[(ofString "table"),(ofString "words"),(ofString "many")]),
 ((ofString "_law_cell"),s_law_cell,[(ofString "_law_script"),(ofString "_law_k")]),
 ((ofString "_law_pick"),s_law_pick,[(ofString "_law_script"),(ofString "_law_k"),(ofString "_law_many")]),
 ((ofString "_law_part"),s_law_part,[(ofString "_law_script"),(ofString "_law_at"),(ofString "_law_name")]),
 ((ofString "_law_pattern"),s_law_pattern,[(ofString "_law_script"),(ofString "_law_at"),(ofString "_law_most")]),
 ((ofString "_law_table"),s_law_table,[(ofString "_law_script"),(ofString "_law_at"),(ofString "_law_most"),(ofString "_law_rows")]),
 ((ofString "_law_is_number"),s_law_is_number,[(ofString "_law_word")]),
 ((ofString "_law_matched"),s_law_matched,[(ofString "_law_pattern_here"),(ofString "_law_address")]),
 ((ofString "_law_every"),s_law_every,[(ofString "_law_words"),(ofString "_law_many")]),
 ((ofString "law"),s_law,[(ofString "_law_script")])]
abbrev B:List Str:=[(ofString "all"),(ofString "enumerate"),(ofString "int"),(ofString "len"),(ofString "range"),(ofString "set"),(ofString "sorted"),(ofString "sum"),(ofString "tuple"),(ofString "zip")]
theorem bnd:BsOk T:=by
 repeat' apply And.intro
 all_goals first | exact True.intro | exact (fun _ _ _ _ _ _ us hl=>match us,hl with | [_],_=>rfl) | exact (fun _ _ _ _ _ _ us hl=>match us,hl with | [_,_],_=>rfl) | exact (fun _ _ _ _ _ _ us hl=>match us,hl with | [_,_,_],_=>rfl) | exact (fun _ _ _ _ _ _ us hl=>match us,hl with | [_,_,_,_],_=>rfl)
section
variable {P:Program} {w:World} {K:PySem.W.Frag} {mg:Str -> Option Value} {base:Heap}
theorem Jni (hT:HasD K mg T) (hB:BlN mg B)
 (y0:∃ u,mg (ofString "FIGURES") = some u /\ ∃ v,RelV v u /\ ∀ H,Rep K H (.str (ofString "0123456789")) v)
 (xT:NoKT K):∀ k,OkD P w K mg base defs k 0 T:=by
 intro k
 induction k with
 | zero=>exact JeM _ _
 | succ k ih=>
  have E:∀ A,Room (3 * k + 2) A -> Env ⟨P,w,K,mg,base,A⟩ (runD defs k):=fun A hr=>by
   have c:=@JhB P w K mg base defs T k A hT ih hr
   exact ⟨c 0 rfl,c 1 rfl,c 2 rfl,c 3 rfl,c 4 rfl,c 5 rfl,c 6 rfl,c 7 rfl,c 8 rfl,c 9 rfl,c 10 rfl,c 11 rfl,c 12 rfl,c 13 rfl,c 14 rfl,c 15 rfl,c 16 rfl,c 17 rfl,c 18 rfl,c 19 rfl,c 20 rfl,c 21 rfl,c 22 rfl,c 23 rfl,c 24 rfl,JO 0 hB rfl,JO 1 hB rfl,JO 2 hB rfl,JO 3 hB rfl,JO 4 hB rfl,JO 5 hB rfl,JO 6 hB rfl,JO 7 hB rfl,JO 8 hB rfl,JO 9 hB rfl,(by obtain ⟨u,e,v,r,g⟩:=y0; exact ⟨v,u,e,r,g⟩),xT⟩
  exact ⟨fo E @JfT,fo E @Jbw,fo E @Jhs,fo E @JW,fo E @Jds,fo E @JfM,fo E @Jli,fo E @JdI,fo E @JY,fo E @Jlc,fo E @JhE,fo E @JbC,fo E @JlI,fo E @Jbb,fo E @Jil,fo E @JdR,fo E @JfD,fo E @JfE,fo E @JfB,fo E @JbY,fo E @Jee,fo E @Jbf,fo E @Jcv,fo E @JdB,fo E @d_law,trivial⟩
end
theorem JnV {l:PySem.W.OpenLaw} {w:World} {K:PySem.W.Frag} {h:Heap} {mg:Str -> Option Value} {fa:Addr} (X:K.In h) (G:h.Ns mainGlobals mg) (hfa:mg "law" = some (.ref fa)) (dT:DsIn K T) (dB:BlIn K B)
  {t0:Tok} (y0:PySem.W.nsIn K mainGlobals (ofString "FIGURES") = some (some (.str (ofString "0123456789") t0)))
  (gT:noKTB K = true)
  : ∃ fd:FuncData,(∀ (s:Shared) (v:Value),BindsTo s fd ⟨[v],[]⟩ [((ofString "_law_script"),v)]) /\ ∀ base:Heap,K.In base -> base.Ns mainGlobals mg -> FnOk l.prog w K mg base (CXr l.prog w) 36 fa fd [(ofString "_law_script")] (sp0 K (runD defs 12) 24):=by
 exact Jmp (n:=12) X G hfa dT bnd (fl:=24) rfl fun base hT=>Jni (P:=l.prog) (w:=w) (base:=base) hT (JmY X G dB) ⟨_,PySem.W.mg_of X G y0,.str (ofString "0123456789"),⟨_,rfl⟩,fun H=>rfl⟩  (JlA gT)
end K66
def PySem.W.Fast.tw1687116255663154160:=0
def PySem.W.Fast.tw13776249320699981710:=0
def PySem.W.Fast.tw299696250226713916:=0
def PySem.W.Fast.tw11224415603563702542:=0
def PySem.W.Fast.tw5068804246342518468:=0
def PySem.W.Fast.tw3348686736697985321:=0
def PySem.W.Fast.tw4124834653102259566:=0
def PySem.W.Fast.tw10974991464682285653:=0
def PySem.W.Fast.tw8179654538466520066:=0
def PySem.W.Fast.tw12942346811898315659:=0
def PySem.W.Fast.tw18407889870691212946:=0
def PySem.W.Fast.tw16120636690189515886:=0
def PySem.W.Fast.tw2144198144797298546:=0
def PySem.W.Fast.tw2063949058805136839:=0
def PySem.W.Fast.tw8024083080810025511:=0
def PySem.W.Fast.tw4642540005472284558:=0
def PySem.W.Fast.tw8100526311597675317:=0
def PySem.W.Fast.tw15877733355364636286:=0
def PySem.W.Fast.tw1271848743718691490:=0
def PySem.W.Fast.tw8494141626717774728:=0
def PySem.W.Fast.tw8045408722101423784:=0
def PySem.W.Fast.tw2450495799554721055:=0
def PySem.W.Fast.tw9669369336020907635:=0
def PySem.W.Fast.tw8457541384096462427:=0
def PySem.W.Fast.tw10802516118933592076:=0
def PySem.W.Fast.tw10486379717746939738:=0
def PySem.W.Fast.tw14942311795886744823:=0
def PySem.W.Fast.tw12468017561922424638:=0
def PySem.W.Fast.tw7207879788198772064:=0
def PySem.W.Fast.tw7732772014644810919:=0
def PySem.W.Fast.tw18065456480906361629:=0
def PySem.W.Fast.tw8683797337210333066:=0
def PySem.W.Fast.tw8033053408280986982:=0
def PySem.W.Fast.tw4016203319577127852:=0
def PySem.W.Fast.tw13575355013058493238:=0
def PySem.W.Fast.tw975210982309113827:=0
def PySem.W.Fast.tw16013087654980732913:=0
def PySem.W.Fast.tw7076792668305989573:=0
def PySem.W.Fast.tw16329792514739396303:=0
def PySem.W.Fast.tw5766398726760399388:=0
def PySem.W.Fast.tw4511662588836857047:=0
def PySem.W.Fast.tw16332064929887347168:=0
def PySem.W.Fast.tw5941485493238575560:=0
def PySem.W.Fast.tw3127358757657006834:=0
def PySem.W.Fast.tw3705130517650030198:=0
def PySem.W.Fast.tw6349904974315019715:=0
def PySem.W.Fast.tw8727056371914227739:=0
def PySem.W.Fast.tw2480768643752991426:=0
def PySem.W.Fast.tw13962640747535764690:=0
def PySem.W.Fast.tw1392522521477228234:=0
def PySem.W.Fast.tw8521094392628961909:=0
def PySem.W.Fast.tw13800867319143407289:=0
def PySem.W.Fast.tw9733073136979305432:=0
def PySem.W.Fast.tw7881401217384439023:=0
open PySem PySem.W PyProof.Rows
theorem PySem.Challenge.cw_routeboard_k66_whole_tallies_holds : PySem.Challenge.rw_routeboard_k66_whole_tallies.Holds := by
 w_on; o_law; k_head; (case hw=>w_witness2)
 k_fill
 refine L2.Jls (l:=PySem.Challenge.rw_routeboard_k66_whole_tallies) (n:=63) (k:=36) (x:=(Str.ofString "_law_script")) (CX:=fun w=>Rd.CXr PySem.Challenge.rw_routeboard_k66_whole_tallies.prog w) (sp:=fun w=>Rd.sp0 _ (Pu.runD K66.defs 12) 24) rfl (by decide) rfl ⟨rfl,by decide,by decide⟩ (fun w h Y=>PySem.W.kIn_of Y) ?F (fun w H a ns hl _ hS=>Rd.Jgm hS (K66.JiK ns 0)) fun _ _ _ _ _ z=>Rd.noCX z
 case F=>
  intro w mg fa h KX G hmg
  refine' K66.JnV KX G hmg ?dT ?dB ?y0 ?gT
  (case dT=>(repeat' refine And.intro ⟨_,_,Rd.def_mk (by k_is) (by k_is) (by k_is) (by k_is)⟩ ?_); exact True.intro)
  (case dB=>(repeat' refine And.intro (by k_is) ?_); exact True.intro)
  (case y0=>k_is)
  (case gT=>kernel_rfl)
