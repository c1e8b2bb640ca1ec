import PyProof.Rows.All
import Wide.All
import OpenK.AllK
import Wide.FinOn
import Lean
import PyProof.EqAt
import PyProof.EqKinds
import PyProof.TupleCall
import PyProof.NeKinds
import PyProof.ListMulRoad
import PyProof.FactsAll.tuple
import PyProof.SetKind
import PyProof.DictKinds
import PyProof.Rows.SetFrom
import PyProof.Rows.SortStr
import PyProof.FactsAll.set
import KE.KDictOf
import PyProof.AttrMissHeap
import PyProof.WalksMore
import PyProof.ListRange
import PyProof.TupleOfSeq
import PyProof.Rows.TupDisplay
import PyProof.DictItems
import KE.KMinBuiltin
import KE.KTupSum
import PyProof.DictWalks
import KE.KSortTup
import PySem.Challenge.RW_routeboard_k92_whole_edges_by_hand
set_option Elab.async false
set_option linter.all false
set_option maxRecDepth 100000
set_option maxHeartbeats 0
noncomputable section
namespace L2
open PySem PySem.Spec PyProof.Rows
abbrev Key:=Sum Int Str
def keyIs:Key -> Value -> Bool
 | .inl k,v=>Value.isInt k v
 | .inr x,v=>Value.isStrOf x v
def keyH (w:World):Key -> Int
 | .inl k=>hashInt k
 | .inr x=>hashStr w x
theorem keyIs_shape:∀ {k:Key} {v:Value},keyIs k v = true -> (∃ i t,k = Sum.inl i /\ v = Value.int i t) \/ (∃ x t,k = Sum.inr x /\ v = Value.str x t)
 | .inl i,v,h=>by
  obtain ⟨t,e⟩:=Value.isInt_shape (k:=i) (v:=v) h
  exact .inl ⟨i,t,rfl,e⟩
 | .inr x,v,h=>by
  obtain ⟨t,e⟩:=Value.isStrOf_shape (x:=x) (v:=v) h
  exact .inr ⟨x,t,rfl,e⟩
theorem keyIs_int (i:Int) (t:Tok):keyIs (.inl i) (.int i t) = true:=by simp [keyIs,Value.isInt]
theorem keyIs_str (x:Str) (t:Tok):keyIs (.inr x) (.str x t) = true:=by simp [keyIs,Value.isStrOf]
theorem key_ll (a b:Int):decide ((Sum.inl a:Key) = Sum.inl b) = (a == b):=by
 by_cases e:a = b
 ·subst e; simp
 ·have h:¬ (Sum.inl a:Key) = Sum.inl b:=fun q=>e (Sum.inl.inj q)
  rw [decide_eq_false h]
  exact (beq_eq_false_iff_ne.mpr e).symm
theorem key_rr (a b:Str):decide ((Sum.inr a:Key) = Sum.inr b) = decide (a = b):=by
 by_cases e:a = b
 ·subst e; simp
 ·have h:¬ (Sum.inr a:Key) = Sum.inr b:=fun q=>e (Sum.inr.inj q)
  rw [decide_eq_false h,decide_eq_false e]
theorem key_lr (a:Int) (b:Str):decide ((Sum.inl a:Key) = Sum.inr b) = false:=decide_eq_false (fun q=>nomatch q)
theorem key_rl (a:Str) (b:Int):decide ((Sum.inr a:Key) = Sum.inl b) = false:=decide_eq_false (fun q=>nomatch q)
def mixKind (prog:Program) (w:World):PySem.KeyKind prog w Key where
 is:=keyIs
 hash:=keyH w
 inj:=fun v a b ha hb=>by
  rcases keyIs_shape ha with ⟨i,t,rfl,rfl⟩ | ⟨x,t,rfl,rfl⟩
  ·rcases keyIs_shape hb with ⟨j,u,rfl,e⟩ | ⟨y,u,rfl,e⟩
   ·injection e with e1 _; rw [e1]
   ·exact nomatch e
  ·rcases keyIs_shape hb with ⟨j,u,rfl,e⟩ | ⟨y,u,rfl,e⟩
   ·exact nomatch e
   ·injection e with e1 _; rw [e1]
 byValue:=fun k v h=>by
  rcases keyIs_shape h with ⟨i,t,rfl,rfl⟩ | ⟨x,t,rfl,rfl⟩ <;> rfl
 pyHash:=fun hv h=>by
  rcases keyIs_shape hv with ⟨i,t,rfl,rfl⟩ | ⟨x,t,rfl,rfl⟩
  ·exact wpAny_pyHash_int h
  ·exact wpAny_pyHash_str h
 eqBool:=fun hu hv h=>by
  rcases keyIs_shape hu with ⟨i,t,rfl,rfl⟩ | ⟨x,t,rfl,rfl⟩
  ·rcases keyIs_shape hv with ⟨j,u,rfl,rfl⟩ | ⟨y,u,rfl,rfl⟩
   ·rw [key_ll] at h; exact wpAny_eqBool_int h
   ·rw [key_lr] at h; exact SeqAt.EqAt.int_str i t y u _ _ _ _ h
  ·rcases keyIs_shape hv with ⟨j,u,rfl,rfl⟩ | ⟨y,u,rfl,rfl⟩
   ·rw [key_rl] at h; exact SeqAt.EqAt.str_int x t j u _ _ _ _ h
   ·rw [key_rr] at h; exact wpAny_eqBool_str h
 «strs»:=fun k x t v h=>by
  rcases keyIs_shape h with ⟨i,u,rfl,e⟩ | ⟨y,u,rfl,e⟩
  ·exact nomatch e
  ·injection e with e1 _
   subst e1
   cases v <;> rfl
theorem mixKind_int (prog:Program) (w:World) (i:Int) (t:Tok):(mixKind prog w).is (.inl i) (.int i t) = true:=keyIs_int i t
theorem mixKind_str (prog:Program) (w:World) (x:Str) (t:Tok):(mixKind prog w).is (.inr x) (.str x t) = true:=keyIs_str x t
end L2
namespace L2
open PySem PySem.Spec PyProof.Rows
inductive V where
 | non | bl (b:Bool) | int (i:Int) | str (x:Str) | byt (b:Array UInt8) | flt (b:UInt64) | ref (a:Addr) | ty (n:String)
 deriving DecidableEq
def RelV:V -> Value -> Prop
 | .non,u=>u = Value.none
 | .bl b,u=>u = Value.bool b
 | .int i,u=>∃ t,u = Value.int i t
 | .str x,u=>∃ t,u = Value.str x t
 | .byt b,u=>∃ t,u = Value.bytes b t
 | .flt b,u=>∃ t,u = Value.float b t
 | .ref a,u=>u = Value.ref a
 | .ty n,u=>u = Value.type n
abbrev Vals:List V -> List Value -> Prop:=Paired RelV
theorem Vals.length {xs:List V} {us:List Value} (r:Vals xs us):xs.length = us.length:=Paired.length r
theorem Vals.get:∀ {xs:List V} {us:List Value} {i:Nat} {x:V},Vals xs us -> xs[i]? = some x -> ∃ u,us[i]? = some u /\ RelV x u
 | _,_,_,_,.nil,e=>by simp at e
 | _,_,0,_,.cons r _,e=>by simp at e; subst e; exact ⟨_,rfl,r⟩
 | _,_,i + 1,x,.cons _ t,e=>by
  obtain ⟨u,h1,h2⟩:=Vals.get (i:=i) (x:=x) t (by simpa using e)
  exact ⟨u,by simpa using h1,h2⟩
theorem Vals.set {x:V} {u:Value} (r:RelV x u):∀ {xs:List V} {us:List Value} (i:Nat),Vals xs us -> Vals (xs.set i x) (us.set i u)
 | _,_,_,.nil=>.nil
 | _,_,0,.cons _ t=>.cons r t
 | _,_,i + 1,.cons q t=>.cons q (Vals.set r i t)
theorem Vals.append:∀ {xs ys:List V} {us ws:List Value},Vals xs us -> Vals ys ws -> Vals (xs ++ ys) (us ++ ws)
 | _,_,_,_,.nil,s=>s
 | _,_,_,_,.cons r t,s=>.cons r (Vals.append t s)
theorem Vals.take:∀ {xs:List V} {us:List Value} (n:Nat),Vals xs us -> Vals (xs.take n) (us.take n)
 | _,_,0,_=>.nil
 | _,_,_ + 1,.nil=>.nil
 | _,_,n + 1,.cons r t=>.cons r (Vals.take n t)
theorem Vals.drop:∀ {xs:List V} {us:List Value} (n:Nat),Vals xs us -> Vals (xs.drop n) (us.drop n)
 | _,_,0,r=>r
 | _,_,_ + 1,.nil=>.nil
 | _,_,n + 1,.cons _ t=>Vals.drop n t
theorem Vals.none_of:∀ {xs:List V} {us:List Value} {i:Nat},Vals xs us -> xs[i]? = none -> us[i]? = none:=fun {xs us i} r e=>by
 have h1:=r.length
 have h2:xs.length <= i:=List.getElem?_eq_none_iff.mp e
 exact List.getElem?_eq_none_iff.mpr (by omega)
def RelO:Option V -> Option Value -> Prop
 | some v,some u=>RelV v u
 | none,none=>True
 | _,_=>False
def KV {κ:Type}:List (κ × V) -> List (κ × Value) -> Prop:=Paired fun (p:κ × V) (q:κ × Value)=>p.1 = q.1 /\ RelV p.2 q.2
def kV:Key -> V
 | .inl i=>.int i
 | .inr x=>.str x
inductive HO where
 /-- a list -/
 | lst (xs:List V)
 /-- a tuple (never changes) -/
 | tup (xs:List V)
 /-- a dict whose keys are ints and texts; one whose keys are tuples of ints and texts (the empty one is both) -/
 | dK (kvs:List (Key × V)) | dT (kvs:List (List Key × V))
 /-- a set of ints: its members,its size -/
 | set (S:Int -> Bool) (n:Nat)
 /-- an instance of the class at C,its dict at dx,its attributes -/
 | ins (C dx:Addr) (fs:List (Str × V))
 /-- the dict of the instance at x -/
 | own (x:Addr)
 /-- the dict of an exception -/
 | xd (fs:List (Str × V))
 /-- a bound method,f of x -/
 | met (f x:Addr)
 /-- a range object lo,lo + 1,.. below hi -/
 | rng (lo hi:Int)
 /-- a thing that is known to the object (the script; a dict while a loop walks it): read,never written while it is so -/
 | frz (o:Obj) (u:HO)
 /-- a code object's table -/
 | tbl (ps:Array Value)
 /-- any other thing,by what is true of its one object (a def of one's own: SetO a S n:=HO.ext fun h=>..) -/
 | ext (φ:Heap -> Prop)
abbrev Hp:=Addr -> Option HO
def upd (H:Hp) (a:Addr) (o:HO):Hp:=fun b=>if b = a then some o else H b
theorem upd_same {H:Hp} {a:Addr} {o:HO}:upd H a o a = some o:=by unfold upd; rw [if_pos rfl]
theorem upd_ne {H:Hp} {a b:Addr} {o:HO} (h:b ≠ a):upd H a o b = H b:=by unfold upd; rw [if_neg h]
theorem ne_of {H:Hp} {a b:Addr} {o u:HO} (h:H a = some o) (h':H b = some u) (d:o ≠ u):a ≠ b:=by
 intro e; subst e; rw [h] at h'; exact d (Option.some.inj h')
theorem ne_of_none {H:Hp} {a b:Addr} {o:HO} (h:H a = some o) (h':H b = none):a ≠ b:=by
 intro e; subst e; rw [h] at h'; cases h'
section
variable (P:Program) (w:World)
def ObjOk (H:Hp) (h:Heap) (a:Addr):HO -> Prop
 | .lst xs=>xs.length <= sizeLine /\ ∃ (its:List Value) (n:Nat),Vals xs its /\ h.get? a = some { cls:=.type "list",data:=.seq its.toArray n }
 | .tup xs=>(xs.length <= sizeLine /\ ∀ o,h.get? a = some o -> o.dict = none) /\ ∃ its:List Value,Vals xs its /\ IsTup h a its.toArray
 | .dK kvs=>kvs.length <= sizeLine /\ (a == sysModules) = false /\ ∃ vs,KV kvs vs /\ h.DictOf (mixKind P w) a vs
 | .dT kvs=>kvs.length <= sizeLine /\ (a == sysModules) = false /\ ∃ xs:List (List Key × Addr × Value),
   Paired (fun (p:List Key × V) (q:List Key × Addr × Value)=>p.1 = q.1 /\ H q.2.1 = some (.tup (p.1.map kV)) /\ RelV p.2 q.2.2) kvs xs /\
   ∃ o es ep,h.get? a = some o /\ o.ExactDict /\ o.data = .dict es ep /\ es.toList = xs.map (entryOfKey (tupleKind (mixKind P w))) /\ (xs.map (·.1)).Nodup
 | .set S n=>h.SetOf (intKind P w) a S n
 | .ins C dx fs=>H dx = some (.own a) /\ fs.length <= 1000 /\ dx ≠ a /\ h.get? a = some (PySem.W.instObj C dx) /\
   ∃ mA,h.Ns1 dx mA /\ (∀ f,RelO (fs.lookup f) (mA f)) /\ PySem.Within mA (fs.map (·.1))
 | .own _=>∃ o,h.get? a = some o
 | .xd fs=>∃ mA,h.Ns1 a mA /\ ∀ f,RelO (fs.lookup f) (mA f)
 | .rng lo hi=>∃ t u v,h.get? a = some { cls:=.type "range",data:=.fields #[.int lo t,.int hi u,.int 1 v] }
 | .frz o u=>h.get? a = some o /\ ObjOk H h a u
 | .tbl ps=>h.get? a = some { cls:=.none,data:=.fields ps }
 | .met f x=>h.get? a = some (PySem.W.methodObj (.ref f) (.ref x))
 | .ext φ=>φ h /\ (∃ o,h.get? a = some o) /\ ∀ h1 h2:Heap,φ h1 -> (∀ o,h1.get? a = some o -> h2.get? a = some o) -> φ h2
theorem nodict {h:Heap} {z:Array Value} {n:Nat} (o:Obj) (q:(h.push { cls:=.type "tuple",data:=.seq z n }).get? h.objs.size = some o):o.dict = none:=by
 rw [Heap.get?_push_size _ rfl] at q; cases q; rfl
def HOk (H:Hp) (h:Heap):Prop:=∀ a o,H a = some o -> ObjOk P w H h a o
end
section
variable {P:Program} {w:World} {H H':Hp} {h h':Heap} {a:Addr} {o:HO}
theorem ObjOk.lt (x:ObjOk P w H h a o):a < h.objs.size:=by
 cases o with
 | lst xs=>obtain ⟨_,_,_,_,e⟩:=x; exact Heap.lt_size e
 | tup xs=>obtain ⟨_,_,_,p⟩:=x; exact p.lt
 | dK kvs=>obtain ⟨_,_,_,_,o,_,_,e,_⟩:=x; exact Heap.lt_size e
 | dT kvs=>obtain ⟨_,_,_,_,o,_,_,e,_⟩:=x; exact Heap.lt_size e
 | set S n=>obtain ⟨o,_,_,_,e,_⟩:=x; exact Heap.lt_size e
 | ins C dx fs=>obtain ⟨_,_,_,e,_⟩:=x; exact Heap.lt_size e
 | own y=>obtain ⟨_,e⟩:=x; exact Heap.lt_size e
 | xd fs=>obtain ⟨_,⟨_,_,_,e,_⟩,_⟩:=x; exact Heap.lt_size e
 | rng lo hi=>obtain ⟨_,_,_,e⟩:=x; exact Heap.lt_size e
 | frz ob u=>obtain ⟨e,_⟩:=x; exact Heap.lt_size e
 | tbl ps=>exact Heap.lt_size (show h.get? a = some _ from x)
 | met f y=>exact Heap.lt_size (show h.get? a = some _ from x)
 | ext φ=>obtain ⟨_,⟨_,e⟩,_⟩:=x; exact Heap.lt_size e
theorem Paired.mapP {α β:Type} {F G:α -> β -> Prop}:∀ {l₁:List α} {l₂:List β},Paired F l₁ l₂ -> (∀ a b,F a b -> G a b) -> Paired G l₁ l₂
 | _,_,.nil,_=>.nil
 | _,_,.cons r t,f=>.cons (f _ _ r) (Paired.mapP t f)
theorem ObjOk.stay (x:ObjOk P w H h a o) (k:∀ b u,(b = a \/ H b = some (.own a)) -> h.get? b = some u -> h'.get? b = some u)
  (ho:∀ b,H b = some (.own a) -> H' b = some (.own a)) (ht:∀ b xs,H b = some (.tup xs) -> H' b = some (.tup xs)):ObjOk P w H' h' a o:=by
 induction o with
 | lst xs=>obtain ⟨z,its,n,r,e⟩:=x; exact ⟨z,its,n,r,k _ _ (.inl rfl) e⟩
 | tup xs=>obtain ⟨⟨z,zd⟩,its,r,ob,e,c⟩:=x; exact ⟨⟨z,fun o q=>by rw [k _ _ (.inl rfl) e] at q; cases q; exact zd _ e⟩,its,r,ob,k _ _ (.inl rfl) e,c⟩
 | dK kvs=>obtain ⟨z,y,vs,r,ob,es,ep,e,c⟩:=x; exact ⟨z,y,vs,r,ob,es,ep,k _ _ (.inl rfl) e,c⟩
 | dT kvs=>
  obtain ⟨z,y,xs,r,ob,es,ep,e,c⟩:=x
  exact ⟨z,y,xs,Paired.mapP r fun p q z=>⟨z.1,ht _ _ z.2.1,z.2.2⟩,ob,es,ep,k _ _ (.inl rfl) e,c⟩
 | set S n=>obtain ⟨ob,es,ep,t,e,c⟩:=x; exact ⟨ob,es,ep,t,k _ _ (.inl rfl) e,c⟩
 | ins C dx fs=>
  obtain ⟨d,z,ne,e,mA,⟨od,es,ep,e2,c⟩,r⟩:=x
  exact ⟨ho _ d,z,ne,k _ _ (.inl rfl) e,mA,⟨od,es,ep,k _ _ (.inr d) e2,c⟩,r⟩
 | own y=>obtain ⟨ob,e⟩:=x; exact ⟨ob,k _ _ (.inl rfl) e⟩
 | xd fs=>obtain ⟨mA,⟨od,es,ep,e,c⟩,r⟩:=x; exact ⟨mA,⟨od,es,ep,k _ _ (.inl rfl) e,c⟩,r⟩
 | rng lo hi=>obtain ⟨t,u,v,e⟩:=x; exact ⟨t,u,v,k _ _ (.inl rfl) e⟩
 | frz ob u ih=>obtain ⟨e,q⟩:=x; exact ⟨k _ _ (.inl rfl) e,ih q⟩
 | tbl ps=>
  have e:h.get? a = some { cls:=.none,data:=.fields ps }:=x
  show h'.get? a = some { cls:=.none,data:=.fields ps }
  exact k a _ (.inl rfl) e
 | met f y=>
  have e:h.get? a = some (PySem.W.methodObj (.ref f) (.ref y)):=x
  show h'.get? a = some (PySem.W.methodObj (.ref f) (.ref y))
  exact k a _ (.inl rfl) e
 | ext φ=>obtain ⟨p,⟨o,e⟩,st⟩:=x; exact ⟨st _ _ p fun o q=>k _ _ (.inl rfl) q,⟨o,k _ _ (.inl rfl) e⟩,st⟩
theorem HOk.lt (x:HOk P w H h) (e:H a = some o):a < h.objs.size:=(x a o e).lt
theorem HOk.fresh (x:HOk P w H h) (e:h.objs.size <= a):H a = none:=by
 cases q:H a with
 | none=>rfl
 | some u=>exact absurd (Nat.lt_of_lt_of_le (x.lt q) e) (Nat.lt_irrefl _)
theorem HOk.kept (x:HOk P w H h) (k:∀ b u,h.get? b = some u -> h'.get? b = some u):HOk P w H h':=fun a o e=>
 (x a o e).stay (fun b u _ q=>k b u q) (fun _ q=>q) fun _ _ q=>q
theorem HOk.laid (x:HOk P w H h) (k:∀ b u,h.get? b = some u -> h'.get? b = some u) (hp:h.objs.size <= a) (new:ObjOk P w (upd H a o) h' a o):HOk P w (upd H a o) h':=fun b u e=>by
 have hn:=x.fresh hp
 by_cases hb:b = a
 ·subst hb; rw [upd_same] at e; cases e; exact new
 ·rw [upd_ne hb] at e
  exact (x b u e).stay (fun c v _ q=>k c v q) (fun c q=>by rw [upd_ne (ne_of_none q hn)]; exact q) fun c xs q=>by rw [upd_ne (ne_of_none q hn)]; exact q
end
def Rd (H:Hp) (a:Addr) (u:HO):Prop:=H a = some u \/ ∃ o,H a = some (.frz o u)
theorem Rd.ok {P:Program} {w:World} {H:Hp} {h:Heap} {a:Addr} {u:HO} (r:Rd H a u) (x:HOk P w H h):ObjOk P w H h a u:=by
 rcases r with r | ⟨o,r⟩
 ·exact x a u r
 ·obtain ⟨_,q⟩:=x a _ r
  exact q
def Mut:Option HO -> Prop
 | some (.lst _)=>True
 | some (.dK _)=>True
 | some (.dT _)=>True
 | some (.set _ _)=>True
 | some (.ins _ _ _)=>True
 | some (.ext _)=>True
 | _=>False
section
variable {P:Program} {w:World} {H:Hp} {h h':Heap} {x e:Addr} {o':HO}
theorem HOk.write (ok:HOk P w H h) (mu:Mut (H x)) (he:e = x \/ H e = some (.own x)) (k:∀ b u,b ≠ e -> h.get? b = some u -> h'.get? b = some u) (heo:∃ u,h'.get? e = some u)
  (new:ObjOk P w (upd H x o') h' x o'):HOk P w (upd H x o') h':=fun b u q=>by
 have nown:∀ c y,H c = some (.own y) -> c ≠ x:=fun c y r z=>by subst z; rw [r] at mu; exact mu
 have ntup:∀ c xs,H c = some (.tup xs) -> c ≠ x:=fun c xs r z=>by subst z; rw [r] at mu; exact mu
 by_cases hb:b = x
 ·subst hb; rw [upd_same] at q; cases q; exact new
 ·rw [upd_ne hb] at q
  by_cases hbe:b = e
  ·have q':H b = some (.own x):=by
    rcases he with z | z
    ·exact absurd (hbe.trans z) hb
    ·rw [hbe]; exact z
   rw [q] at q'; cases q'
   obtain ⟨v,hv⟩:=heo
   exact ⟨v,by rw [hbe]; exact hv⟩
  ·refine (ok b u q).stay (fun c v hc r=>k c v ?_ r) (fun c r=>by rw [upd_ne (nown c b r)]; exact r) fun c xs r=>by rw [upd_ne (ntup c xs r)]; exact r
   rcases hc with rfl | hc
   ·exact hbe
   ·rintro rfl
    rcases he with z | z
    ·exact nown c b hc z
    ·rw [hc] at z; cases z; exact hb rfl
end
structure Un (fs ex:List Addr) (H H':Hp) (h h':Heap):Prop where
 keep:∀ b o,h.get? b = some o -> H b = none -> b ∉ fs -> b ∉ ex -> h'.get? b = some o
 slot:∀ b o,h.get? b = some o -> H b = none -> b ∈ fs -> b ∉ ex -> ∃ sl,h'.get? b = some { o with slots:=sl }
 free:∀ b o,h.get? b = some o -> H b = none -> b ∉ ex -> H' b = none
 there:∀ b o,h.get? b = some o -> b ∉ ex -> ∃ o',h'.get? b = some o'
 tups:∀ b xs,H b = some (.tup xs) -> H' b = some (.tup xs)
 frzs:∀ b o u,H b = some (.frz o u) -> H' b = some (.frz o u)
 tbls:∀ b ps,H b = some (.tbl ps) -> ∃ more,H' b = some (.tbl (ps ++ more))
section
variable {fs fs' ex ex':List Addr} {H H1 H2:Hp} {h h1 h2 h':Heap} {a x e:Addr} {o:HO}
theorem Un.any (u:Un fs ex H H1 h h1) {b:Addr} {ob:Obj} (q:h.get? b = some ob) (n:H b = none) (hx:b ∉ ex):∃ sl,h1.get? b = some { ob with slots:=sl }:=by
 by_cases hb:b ∈ fs
 ·exact u.slot b ob q n hb hx
 ·exact ⟨ob.slots,u.keep b ob q n hb hx⟩
theorem Un.trans (a:Un fs ex H H1 h h1) (b:Un fs ex H1 H2 h1 h2):Un fs ex H H2 h h2 where
 keep:=fun c ob q n hc hx=>b.keep c ob (a.keep c ob q n hc hx) (a.free c ob q n hx) hc hx
 slot:=fun c ob q n hc hx=>by
  obtain ⟨sl,e1⟩:=a.slot c ob q n hc hx
  obtain ⟨sl',e2⟩:=b.slot c _ e1 (a.free c ob q n hx) hc hx
  exact ⟨sl',e2⟩
 free:=fun c ob q n hx=>by
  obtain ⟨o',e1⟩:=a.there c ob q hx
  exact b.free c o' e1 (a.free c ob q n hx) hx
 there:=fun c ob q hx=>by
  obtain ⟨o',e1⟩:=a.there c ob q hx
  exact b.there c o' e1 hx
 tups:=fun c xs q=>b.tups c xs (a.tups c xs q)
 frzs:=fun c ob xs q=>b.frzs c ob xs (a.frzs c ob xs q)
 tbls:=fun c ps q=>by
  obtain ⟨m1,e1⟩:=a.tbls c ps q
  obtain ⟨m2,e2⟩:=b.tbls c _ e1
  exact ⟨m1 ++ m2,by rw [e2,Array.append_assoc]⟩
theorem Un.kept (k:∀ b u,h.get? b = some u -> h'.get? b = some u):Un fs ex H H h h':=
 ⟨fun b ob q _ _ _=>k b ob q,fun b ob q _ _ _=>⟨ob.slots,k b ob q⟩,fun _ _ _ n _=>n,fun b ob q _=>⟨ob,k b ob q⟩,fun _ _ q=>q,fun _ _ _ q=>q,fun _ ps q=>⟨#[],by rw [q]; simp⟩⟩
theorem Un.refl:Un fs ex H H h h:=Un.kept fun _ _ q=>q
theorem Un.laid (k:∀ b u,h.get? b = some u -> h'.get? b = some u) (hp:h.objs.size <= a) (hn:H a = none):Un fs ex H (upd H a o) h h' where
 keep:=fun b u q _ _ _=>k b u q
 slot:=fun b u q _ _ _=>⟨u.slots,k b u q⟩
 free:=fun b u q n _=>by rw [upd_ne (Nat.ne_of_lt (Nat.lt_of_lt_of_le (Heap.lt_size q) hp))]; exact n
 there:=fun b u q _=>⟨u,k b u q⟩
 tups:=fun b xs q=>by rw [upd_ne (ne_of_none q hn)]; exact q
 frzs:=fun b u xs q=>by rw [upd_ne (ne_of_none q hn)]; exact q
 tbls:=fun b ps q=>⟨#[],by rw [upd_ne (ne_of_none q hn),q]; simp⟩
theorem Un.write (mu:Mut (H x)) (he:e = x \/ H e = some (.own x)) (k:∀ b u,b ≠ e -> h.get? b = some u -> h'.get? b = some u) (heo:∃ u,h'.get? e = some u):Un fs ex H (upd H x o) h h':=by
 have hx:∀ b,H b = none -> b ≠ x:=fun b n z=>by subst z; rw [n] at mu; exact mu
 have hb:∀ b,H b = none -> b ≠ e:=fun b n z=>by
  subst z
  rcases he with r | r
  ·exact hx b n r
  ·rw [n] at r; cases r
 have hm:∀ b u,H b = some u -> ¬ Mut (some u) -> b ≠ x:=fun b u q nm z=>by subst z; rw [q] at mu; exact nm mu
 refine ⟨fun b u q n _ _=>k b u (hb b n) q,fun b u q n _ _=>⟨u.slots,k b u (hb b n) q⟩,fun b u q n _=>by rw [upd_ne (hx b n)]; exact n,fun b u q _=>?_,
  fun b xs q=>by rw [upd_ne (hm b _ q fun z=>z)]; exact q,fun b u xs q=>by rw [upd_ne (hm b _ q fun z=>z)]; exact q,fun b ps q=>⟨#[],by rw [upd_ne (hm b _ q fun z=>z),q]; simp⟩⟩
 by_cases hbe:b = e
 ·subst hbe; exact heo
 ·exact ⟨u,k b u hbe q⟩
end
def trk (h:Heap) (H:Hp):List Addr:=(List.range h.objs.size).filter fun a=>(H a).isSome
def hidT (h:Heap) (H:Hp):Heap:=PySem.W.hideAll h (trk h H)
theorem hidT_size (h:Heap) (H:Hp):(hidT h H).objs.size = h.objs.size:=PySem.W.hideAll_size _ _
theorem hidT_get {h:Heap} {H:Hp} {b:Addr} {o:Obj} (e:h.get? b = some o) (n:H b = none):(hidT h H).get? b = some o:=
 PySem.W.hideAll_get _ e fun hm=>by
  have q:(H b).isSome = true:=(List.mem_filter.mp hm).2
  rw [n] at q; simp at q
theorem of_hidT {h:Heap} {H:Hp} {b:Addr} {o:Obj} (e:(hidT h H).get? b = some o):h.get? b = some o /\ H b = none:=by
 have e':h.get? b = some o:=PySem.W.of_hideAll (trk h H) e
 refine ⟨e',?_⟩
 cases q:H b with
 | none=>rfl
 | some x=>
  have hm:b ∈ trk h H:=List.mem_filter.mpr ⟨List.mem_range.mpr (Heap.lt_size e'),by simp [q]⟩
  have z:(hidT h H).get? b = none:=PySem.W.hideAll_none (trk h H) hm
  rw [z] at e; cases e
def allNews (g h:Heap) (L:Addr):List (Addr × Obj):=(List.range h.objs.size).filterMap fun a=>if a = L \/ (g.get? a).isSome = true then none else (h.get? a).map fun o=>(a,o)
def rest (g h:Heap) (L d:Addr):List (Addr × Obj):=(allNews g h L).filter fun p=>decide (p.1 ≠ d)
end L2
namespace L2
open PySem PySem.Spec PyProof.Rows
structure Mod (K:PySem.W.Frag) (mg:Str -> Option Value) (base:Heap):Prop where
 kin:K.In base
 glob:base.Ns mainGlobals mg
 blt:∃ mb,base.Ns builtinsNs mb /\ ∀ x:Str,x ≠ "__name__" -> mb x = bootBuiltins x
 nolimit:base.NoLimit
structure Cx where
 prog:Program
 w:World
 K:PySem.W.Frag
 mg:Str -> Option Value
 base:Heap
 A:Around
 N:List Str
 s₀:Shared
 H₀:Hp
 env:Env
 outer:List Env
 stack:List Env
 ex:List Addr
 fn:Str -> Bool
 calm:Bool
 pn:List (Addr × Obj)
 xe:Value -> Shared -> Prop
def frs (l:List Env):List Addr:=l.filterMap (·.frame)
abbrev Cx.fs (X:Cx):List Addr:=frs X.outer
def Vis (sc:Scope) (x:Str):Prop:=sc.names.lookup x = some .local \/ sc.names.lookup x = some .cell \/ sc.names.lookup x = some .free
def Loc (sc:Scope) (x:Str):Prop:=sc.names.lookup x = some .local \/ sc.names.lookup x = some .cell
def Look (env:Env) (h:Heap) (m:Str -> Option Value) (x:Str) (u:Value):Prop:=
 (env.kindOf x = some .local /\ m x = some u) \/ ((env.kindOf x = some .cell \/ env.kindOf x = some .free) /\ ∃ c,env.cells.lookup x = some c /\ h.IsCell c (some u))
structure Cx.Ok (X:Cx):Prop where
 mod:Mod X.K X.mg X.base
 kind:X.env.scope.kind = .function
 glob:X.env.globals = mainGlobals
 blt:X.env.builtins = builtinsNs
 above:X.s₀.heap.objs.size <= X.env.locals
 inj:∀ x y c,X.env.cells.lookup x = some c -> X.env.cells.lookup y = some c -> x = y
 has:∀ x,(X.env.kindOf x = some .cell \/ X.env.kindOf x = some .free) -> ∃ c,X.env.cells.lookup x = some c
 cab:∀ x c,X.fn x = true -> X.env.cells.lookup x = some c -> X.s₀.heap.objs.size <= c
 hd:X.calm = true -> X.A.handled = none
 frames:X.A.frames = some X.stack
 stk:X.stack = X.outer \/ (X.stack = X.env :: X.outer /\ X.env.frame = some X.env.locals)
 exf:∀ b ∈ X.ex,b ≠ X.env.locals /\ ∀ x c,X.env.cells.lookup x = some c -> c ≠ b
 bs:∀ b o,X.base.get? b = some o -> X.s₀.heap.get? b = some o /\ X.H₀ b = none
 bsz:X.base.objs.size <= X.s₀.heap.objs.size
 noex:∀ b o,X.base.get? b = some o -> b ∉ X.ex
 exfs:∀ b ∈ X.ex,b ∉ X.fs
 funs:X.s₀.heap.FunFrames X.base X.outer
 frf:∀ b ∈ X.fs,X.H₀ b = none
structure Inv (X:Cx) (pins:List (Addr × Obj)) (σ:List (Option V)) (H:Hp) (s:Shared):Prop where
 ok:X.Ok
 os:s.os = X.s₀.os
 bare:AllBare s.gens
 base:Un X.fs X.ex X.H₀ H X.s₀.heap s.heap
 loc:∃ m,s.heap.Ns X.env.locals m /\ ∀ (i:Nat) (x:Str) (v:V),X.N[i]? = some x -> σ[i]? = some (some v) -> Vis X.env.scope x -> ∃ u,RelV v u /\ Look X.env s.heap m x u
 cell:∀ x c,X.env.cells.lookup x = some c -> ∃ v,s.heap.IsCell c v
 free:H X.env.locals = none
 freeC:∀ x c,X.env.cells.lookup x = some c -> H c = none
 pin:∀ p ∈ X.pn ++ pins,s.heap.get? p.1 = some p.2 /\ H p.1 = none /\ p.1 ≠ X.env.locals /\ p.1 ∉ X.fs /\ ∀ v,p.2.data ≠ .cell v
 hok:HOk X.prog X.w H s.heap
 len:σ.length = X.N.length
section
variable {X:Cx} {pins:List (Addr × Obj)} {σ:List (Option V)} {H H':Hp} {s:Shared} {h':Heap}
theorem Cx.Ok.nofr (ok:X.Ok) {b:Addr} {o:Obj} (e:X.base.get? b = some o):b ∉ X.fs:=fun hb=>by
 have:=(ok.funs.mem hb).1
 rw [e] at this; cases this
theorem Inv.bs (I:Inv X pins σ H s):∀ b o,X.base.get? b = some o -> s.heap.get? b = some o /\ H b = none:=fun b o e=>
 ⟨I.base.keep b o (I.ok.bs b o e).1 (I.ok.bs b o e).2 (I.ok.nofr e) (I.ok.noex b o e),I.base.free b o (I.ok.bs b o e).1 (I.ok.bs b o e).2 (I.ok.noex b o e)⟩
theorem Inv.bk (I:Inv X pins σ H s):∀ b o,X.base.get? b = some o -> s.heap.get? b = some o:=fun b o e=>(I.bs b o e).1
theorem Inv.mod (I:Inv X pins σ H s):Mod X.K X.mg X.base:=I.ok.mod
theorem Inv.kIn (I:Inv X pins σ H s):X.K.In s.heap:=I.ok.mod.kin.keeps I.bk
theorem Inv.lt (I:Inv X pins σ H s):X.env.locals < s.heap.objs.size:=let ⟨_,hn,_⟩:=I.loc; hn.lt
theorem Inv.sz (I:Inv X pins σ H s):X.s₀.heap.objs.size <= s.heap.objs.size:=Nat.le_trans I.ok.above (Nat.le_of_lt I.lt)
theorem Inv.nofs (I:Inv X pins σ H s) {a:Addr} (h:s.heap.objs.size <= a):a ∉ X.fs:=fun hb=>by
 obtain ⟨_,o,ho,_⟩:=I.ok.funs.mem hb
 exact absurd (Nat.lt_of_lt_of_le (Heap.lt_size ho) (Nat.le_trans I.sz h)) (Nat.lt_irrefl _)
theorem Inv.cne (I:Inv X pins σ H s):∀ x c,X.env.cells.lookup x = some c -> c ≠ X.env.locals:=fun x c e z=>by
 obtain ⟨v,o,ho,hd⟩:=I.cell x c e
 obtain ⟨m,⟨o',es,ep,ho',hd',_⟩,_⟩:=I.loc
 rw [z,ho'] at ho; cases ho; rw [hd'] at hd; cases hd
theorem Inv.funs (I:Inv X pins σ H s):s.heap.FunFrames X.base X.outer:=by
 have all:∀ (l:List Env),(∀ b ∈ frs l,b ∈ X.fs) -> X.s₀.heap.FunFrames X.base l -> s.heap.FunFrames X.base l:=by
  intro l
  induction l with
  | nil=>intro _ _; trivial
  | cons env r ih=>
   intro hs hl
   obtain ⟨hk,⟨L,o,hf,hn,ho,hd⟩,hr⟩:=hl
   have hL:L ∈ X.fs:=hs L (by unfold frs; rw [List.filterMap_cons,hf]; exact List.mem_cons_self)
   obtain ⟨sl,e⟩:=I.base.slot L o ho (I.ok.frf L hL) hL fun z=>I.ok.exfs L z hL
   exact ⟨hk,⟨L,_,hf,hn,e,hd⟩,ih (fun b hb=>hs b (by unfold frs; rw [List.filterMap_cons,hf]; exact List.mem_cons_of_mem _ hb)) hr⟩
 exact all X.outer (fun _ hb=>hb) I.ok.funs
theorem Inv.stack (I:Inv X pins σ H s):s.heap.FunFrames X.base X.stack:=by
 rcases I.ok.stk with e | ⟨e,hf⟩
 ·rw [e]; exact I.funs
 ·rw [e]
  obtain ⟨m,hn,_⟩:=I.loc
  refine .cons (by rw [I.ok.kind]; decide) hf hn ?_ I.funs
  exact Heap.get?_none_of_le (Nat.le_trans I.ok.bsz I.ok.above)
theorem Inv.stkSub (I:Inv X pins σ H s):∀ b ∈ frs X.stack,b ∈ X.env.locals :: X.fs:=fun b hb=>by
 rcases I.ok.stk with e | ⟨e,hf⟩
 ·rw [e] at hb; exact List.mem_cons_of_mem _ hb
 ·rw [e] at hb
  unfold frs at hb
  rw [List.filterMap_cons,hf] at hb
  exact hb
theorem Inv.stkFree (I:Inv X pins σ H s):∀ b ∈ frs X.stack,H b = none:=fun b hb=>by
 rcases List.mem_cons.mp (I.stkSub b hb) with e | hb
 ·rw [e]; exact I.free
 ·obtain ⟨_,o,ho,_⟩:=I.ok.funs.mem hb
  exact I.base.free b o ho (I.ok.frf b hb) fun z=>I.ok.exfs b z hb
theorem Inv.step {g':Array GenState} {t':Nat} {d':Drawn} {ch:List Addr} (I:Inv X pins σ H s)
  (hch:∀ b ∈ ch,(b ∈ X.ex \/ X.s₀.heap.objs.size <= b) /\ b ≠ X.env.locals /\ (∀ x c,X.env.cells.lookup x = some c -> c ≠ b) /\ ∀ p ∈ X.pn ++ pins,p.1 ≠ b)
  (keep:∀ b o,b ≠ X.env.locals -> b ∉ X.fs -> b ∉ ch -> s.heap.get? b = some o -> H b = none -> h'.get? b = some o)
  (slot:∀ b o,b ≠ X.env.locals -> b ∈ X.fs -> b ∉ ch -> s.heap.get? b = some o -> H b = none -> ∃ sl,h'.get? b = some { o with slots:=sl }) (free:∀ b o,b ∉ ch -> s.heap.get? b = some o -> H b = none -> H' b = none)
  (there:∀ b o,b ∉ ch -> s.heap.get? b = some o -> ∃ o',h'.get? b = some o')
  (tups:∀ b xs,H b = some (.tup xs) -> H' b = some (.tup xs)) (frzs:∀ b o u,H b = some (.frz o u) -> H' b = some (.frz o u)) (tbls:∀ b ps,H b = some (.tbl ps) -> ∃ more,H' b = some (.tbl (ps ++ more)))
  (ns:∀ m,s.heap.Ns X.env.locals m -> h'.Ns X.env.locals m) (hok:HOk X.prog X.w H' h') (hg:AllBare g') :
  Inv X pins σ H' { s with heap:=h',gens:=g',drawn:=d',toks:=t' }:=by
 have neL:∀ b o,X.s₀.heap.get? b = some o -> b ≠ X.env.locals:=fun b o e=>Nat.ne_of_lt (Nat.lt_of_lt_of_le (Heap.lt_size e) I.ok.above)
 have neC:∀ b o,X.s₀.heap.get? b = some o -> b ∉ X.ex -> b ∉ ch:=fun b o e hx hb=>by
  rcases (hch b hb).1 with z | z
  ·exact hx z
  ·exact absurd (Nat.lt_of_lt_of_le (Heap.lt_size e) z) (Nat.lt_irrefl _)
 have cellK:∀ x c,X.env.cells.lookup x = some c -> ∀ v,s.heap.IsCell c v -> h'.IsCell c v:=fun x c e v ⟨o,ho,hd⟩=>by
  have nch:c ∉ ch:=fun z=>(hch c z).2.2.1 x c e rfl
  by_cases hc:c ∈ X.fs
  ·obtain ⟨sl,q⟩:=slot c o (I.cne x c e) hc nch ho (I.freeC x c e)
   exact ⟨_,q,hd⟩
  ·exact ⟨o,keep c o (I.cne x c e) hc nch ho (I.freeC x c e),hd⟩
 refine ⟨I.ok,I.os,hg,⟨fun b o e n hb hx=>?_,fun b o e n hb hx=>?_,fun b o e n hx=>?_,fun b o e hx=>?_,fun b xs e=>tups b xs (I.base.tups b xs e),fun b o xs e=>frzs b o xs (I.base.frzs b o xs e),fun b ps e=>?_⟩,?_,fun x c e=>?_,?_,fun x c e=>?_,fun p hp=>?_,hok,I.len⟩
 ·exact keep b o (neL b o e) hb (neC b o e hx) (I.base.keep b o e n hb hx) (I.base.free b o e n hx)
 ·obtain ⟨sl,e1⟩:=I.base.slot b o e n hb hx
  obtain ⟨sl',e2⟩:=slot b _ (neL b o e) hb (neC b o e hx) e1 (I.base.free b o e n hx)
  exact ⟨sl',e2⟩
 ·obtain ⟨o',e1⟩:=I.base.there b o e hx
  exact free b o' (neC b o e hx) e1 (I.base.free b o e n hx)
 ·obtain ⟨o',e1⟩:=I.base.there b o e hx
  exact there b o' (neC b o e hx) e1
 ·obtain ⟨m1,e1⟩:=I.base.tbls b ps e
  obtain ⟨m2,e2⟩:=tbls b _ e1
  exact ⟨m1 ++ m2,by rw [e2,Array.append_assoc]⟩
 ·obtain ⟨m,hn,hl⟩:=I.loc
  refine ⟨m,ns m hn,fun i x v e1 e2 e3=>?_⟩
  obtain ⟨u,r,l⟩:=hl i x v e1 e2 e3
  refine ⟨u,r,?_⟩
  rcases l with l | ⟨k,c,e,z⟩
  ·exact .inl l
  ·exact .inr ⟨k,c,e,cellK x c e _ z⟩
 ·obtain ⟨v,z⟩:=I.cell x c e
  exact ⟨v,cellK x c e v z⟩
 ·obtain ⟨m,⟨o,_,_,ho,_⟩,_⟩:=I.loc
  exact free _ o (fun z=>(hch _ z).2.1 rfl) ho I.free
 ·obtain ⟨v,o,ho,hd⟩:=I.cell x c e
  exact free c o (fun z=>(hch c z).2.2.1 x c e rfl) ho (I.freeC x c e)
 ·obtain ⟨e,n,ne,nf,d⟩:=I.pin p hp
  have nch:p.1 ∉ ch:=fun z=>(hch p.1 z).2.2.2 p hp rfl
  exact ⟨keep p.1 p.2 ne nf nch e n,free p.1 p.2 nch e n,ne,nf,d⟩
theorem Inv.un {t':Nat} (I:Inv X pins σ H s) (u:Un X.fs [] H H' s.heap h') (hok:HOk X.prog X.w H' h'):Inv X pins σ H' { s with heap:=h',toks:=t' }:=by
 obtain ⟨m,⟨o,es,ep,ho,r⟩,_⟩:=id I.loc
 obtain ⟨sl,hL⟩:=u.any ho I.free (by simp)
 exact I.step (g':=s.gens) (d':=s.drawn) (ch:=[]) (fun _ z=>nomatch z) (fun b o _ hb _ e n=>u.keep b o e n hb (by simp)) (fun b o _ hb _ e n=>u.slot b o e n hb (by simp)) (fun b o _ e n=>u.free b o e n (by simp)) (fun b o _ e=>u.there b o e (by simp)) u.tups u.frzs u.tbls (fun m' hm=>by
  obtain ⟨o',es',ep',ho',r'⟩:=hm
  rw [ho] at ho'; cases ho'
  exact ⟨_,es',ep',hL,r'⟩) hok I.bare
theorem Inv.call {g':Array GenState} {t':Nat} {d':Drawn} {ch:List Addr} (I:Inv X pins σ H s) (u:Un (frs X.stack) ch H H' s.heap h') (hok:HOk X.prog X.w H' h') (hg:AllBare g')
  (hch:∀ b ∈ ch,(b ∈ X.ex \/ X.s₀.heap.objs.size <= b) /\ b ≠ X.env.locals /\ (∀ x c,X.env.cells.lookup x = some c -> c ≠ b) /\ ∀ p ∈ X.pn ++ pins,p.1 ≠ b) :
  Inv X pins σ H' { s with heap:=h',gens:=g',drawn:=d',toks:=t' }:=by
 obtain ⟨m,⟨o,es,ep,ho,r⟩,_⟩:=id I.loc
 obtain ⟨sl,hL⟩:=u.any ho I.free fun z=>(hch _ z).2.1 rfl
 exact I.step (ch:=ch) hch (fun b o hL hb hc e n=>u.keep b o e n (fun z=>(List.mem_cons.mp (I.stkSub b z)).elim hL hb) hc) (fun b o _ _ hc e n=>u.any e n hc) (fun b o hc e n=>u.free b o e n hc) (fun b o hc e=>u.there b o e hc) u.tups u.frzs u.tbls (fun m' hm=>by
  obtain ⟨o',es',ep',ho',r'⟩:=hm
  rw [ho] at ho'; cases ho'
  exact ⟨_,es',ep',hL,r'⟩) hok hg
theorem Inv.turned {t':Nat} {it:Addr} (I:Inv X pins σ H s) (k:∀ b o,b ≠ it -> s.heap.get? b = some o -> h'.get? b = some o) (hn:H it = none) (hL:it ≠ X.env.locals)
  (h1:it ∈ X.ex \/ X.s₀.heap.objs.size <= it) (h2:∀ x c,X.env.cells.lookup x = some c -> c ≠ it) (h3:∀ p ∈ X.pn ++ pins,p.1 ≠ it):Inv X pins σ H { s with heap:=h',toks:=t' }:=by
 have nit:∀ b u,H b = some u -> b ≠ it:=fun b u e z=>by rw [z,hn] at e; cases e
 refine I.step (g':=s.gens) (d':=s.drawn) (ch:=[it]) (fun b hb=>?_) (fun b o _ _ hc e _=>k b o (fun z=>hc (by simp [z])) e) (fun b o _ _ hc e _=>⟨o.slots,k b o (fun z=>hc (by simp [z])) e⟩) (fun _ _ _ _ n=>n)
  (fun b o hc e=>⟨o,k b o (fun z=>hc (by simp [z])) e⟩) (fun _ _ e=>e) (fun _ _ _ e=>e) (fun b ps e=>⟨#[],by rw [e]; simp⟩) (fun m hm=>?_) (fun b u e=>?_) I.bare
 ·have e:b = it:=by simpa using hb
  subst e
  exact ⟨h1,hL,h2,h3⟩
 ·obtain ⟨o,es,ep,ho,r⟩:=hm
  exact ⟨o,es,ep,k _ o (Ne.symm hL) ho,r⟩
 ·refine (I.hok b u e).stay (fun c v hc q=>k c v ?_ q) (fun _ q=>q) fun _ _ q=>q
  rcases hc with z | z
  ·rw [z]; exact nit b u e
  ·exact nit c _ z
theorem Inv.tok (I:Inv X pins σ H s) (t:Nat):Inv X pins σ H { s with toks:=t }:=I.un (h':=s.heap) (t':=t) Un.refl I.hok
theorem Inv.kept {t':Nat} (I:Inv X pins σ H s) (k:∀ b u,s.heap.get? b = some u -> h'.get? b = some u):Inv X pins σ H { s with heap:=h',toks:=t' }:=I.un (Un.kept k) (I.hok.kept k)
theorem Inv.laid {a:Addr} {o:HO} {t':Nat} (I:Inv X pins σ H s) (k:∀ b u,s.heap.get? b = some u -> h'.get? b = some u) (hp:s.heap.objs.size <= a) (new:ObjOk X.prog X.w (upd H a o) h' a o) :
  Inv X pins σ (upd H a o) { s with heap:=h',toks:=t' }:=I.un (Un.laid k hp (I.hok.fresh hp)) (I.hok.laid k hp new)
theorem Inv.write {x e:Addr} {o:HO} {t':Nat} (I:Inv X pins σ H s) (mu:Mut (H x)) (he:e = x \/ H e = some (.own x)) (k:∀ b u,b ≠ e -> s.heap.get? b = some u -> h'.get? b = some u) (heo:∃ u,h'.get? e = some u)
  (new:ObjOk X.prog X.w (upd H x o) h' x o):Inv X pins σ (upd H x o) { s with heap:=h',toks:=t' }:=I.un (Un.write mu he k heo) (I.hok.write mu he k heo new)
theorem Inv.pins_of {pins':List (Addr × Obj)} (I:Inv X pins σ H s) (h:∀ p ∈ pins',s.heap.get? p.1 = some p.2 /\ H p.1 = none /\ p.1 ≠ X.env.locals /\ p.1 ∉ X.fs /\ ∀ v,p.2.data ≠ .cell v):Inv X pins' σ H s:=
 ⟨I.ok,I.os,I.bare,I.base,I.loc,I.cell,I.free,I.freeC,fun p hp=>(List.mem_append.mp hp).elim (fun z=>I.pin p (List.mem_append_left _ z)) (h p),I.hok,I.len⟩
theorem nodup_ix {N:List Str} (hN:N.Nodup) {i j:Nat} {x:Str} (a:N[i]? = some x) (b:N[j]? = some x):i = j:=by
 obtain ⟨h1,e1⟩:=List.getElem?_eq_some_iff.mp a
 obtain ⟨h2,e2⟩:=List.getElem?_eq_some_iff.mp b
 exact (List.getElem_inj hN).mp (e1.trans e2.symm)
theorem store_ok2 {M:Model} {A:Around} {E:Value -> Shared -> Prop} {i:Nat} {x:Str} {v:V} {u:Value} {Q:Unit -> Shared -> Prop} (I:Inv X pins σ H s) (hN:X.N.Nodup) (hi:X.N[i]? = some x) (hx:Loc X.env.scope x) (r:RelV v u)
  (h:∀ s',Inv X pins (σ.set i (some v)) H s' -> (∃ a,Heap.SameBut a s.heap s'.heap /\ (a = X.env.locals \/ X.env.cells.lookup x = some a)) -> Q () s') (hf:X.fn x = true \/ X.env.scope.names.lookup x = some .local:=by first | exact .inl rfl | exact .inr rfl | assumption):wpAny M A (storeName X.env x u) Q E s:=by
 obtain ⟨m,hn,hl⟩:=id I.loc
 have hcls:(X.env.scope.kind == .class || (X.env.scope.kind == .module && X.env.locals != X.env.globals)) = false:=by rw [I.ok.kind]; rfl
 have hiσ:i < σ.length:=by rw [I.len]; exact (List.getElem?_eq_some_iff.mp hi).1
 have cne:=I.cne
 have tracked:∀ {a:Addr} {h':Heap},(∃ o,s.heap.get? a = some o /\ H a = none) -> Heap.SameBut a s.heap h' -> HOk X.prog X.w H h':=fun {a h'} ha hs b ob e=>by
  obtain ⟨_,_,hfree⟩:=ha
  refine (I.hok b ob e).stay (fun c w' hc q=>(hs.2 c ?_).trans q) (fun _ q=>q) fun _ _ q=>q
  rintro rfl
  rcases hc with rfl | hc
  ·rw [hfree] at e; cases e
  ·rw [hfree] at hc; cases hc
 rcases hx with hk | hk
 ·refine wpAny_storeName_local hk hn (fun h' hn' hs=>?_) hcls
  obtain ⟨oL,_,_,hoL,_⟩:=id hn
  refine h _ ⟨I.ok,I.os,I.bare,⟨fun b o e n hb hx=>?_,fun b o e n hb hx=>?_,I.base.free,fun b o e hx=>?_,I.base.tups,I.base.frzs,I.base.tbls⟩,⟨_,hn',fun j y v' e1 e2 e3=>?_⟩,fun y c e=>?_,I.free,I.freeC,fun p hp=>?_,tracked ⟨oL,hoL,I.free⟩ hs,by simpa using I.len⟩ ⟨_,hs,.inl rfl⟩
  ·exact (hs.2 b (Nat.ne_of_lt (Nat.lt_of_lt_of_le (Heap.lt_size e) I.ok.above))).trans (I.base.keep b o e n hb hx)
  ·obtain ⟨sl,e1⟩:=I.base.slot b o e n hb hx
   exact ⟨sl,(hs.2 b (Nat.ne_of_lt (Nat.lt_of_lt_of_le (Heap.lt_size e) I.ok.above))).trans e1⟩
  ·obtain ⟨o',e1⟩:=I.base.there b o e hx
   exact ⟨o',(hs.2 b (Nat.ne_of_lt (Nat.lt_of_lt_of_le (Heap.lt_size e) I.ok.above))).trans e1⟩
  ·by_cases hj:j = i
   ·subst hj
    rw [hi] at e1; cases e1
    rw [List.getElem?_set_self hiσ] at e2
    cases e2
    exact ⟨u,r,.inl ⟨hk,by simp⟩⟩
   ·rw [List.getElem?_set_ne (Ne.symm hj)] at e2
    obtain ⟨u',r',q⟩:=hl j y v' e1 e2 e3
    refine ⟨u',r',?_⟩
    rcases q with ⟨k,e⟩ | ⟨k,c,e,z⟩
    ·refine .inl ⟨k,?_⟩
     have:y ≠ x:=fun e=>hj (nodup_ix hN e1 (e ▸ hi))
     simp [this,e]
    ·exact .inr ⟨k,c,e,z.sameBut hs (cne y c e)⟩
  ·obtain ⟨w',z⟩:=I.cell y c e
   exact ⟨w',z.sameBut hs (cne y c e)⟩
  ·obtain ⟨e,n,ne,nf,d⟩:=I.pin p hp
   exact ⟨(hs.2 p.1 ne).trans e,n,ne,nf,d⟩
 ·have hfn:X.fn x = true:=by
   rcases hf with z | z
   ·exact z
   ·rw [z] at hk; cases hk
  obtain ⟨c,hc⟩:=I.ok.has x (.inl hk)
  obtain ⟨w',z⟩:=I.cell x c hc
  refine wpAny_storeName_cell I.ok.kind hk hc z (fun h' hc' hs=>?_)
  obtain ⟨oc,hoc,hocd⟩:=id z
  refine h { s with heap:=h' } ⟨I.ok,I.os,I.bare,⟨fun b o e n hb hx=>?_,fun b o e n hb hx=>?_,I.base.free,fun b o e hx=>?_,I.base.tups,I.base.frzs,I.base.tbls⟩,⟨m,hn.sameBut hs (Ne.symm (cne x c hc)),fun j y v' e1 e2 e3=>?_⟩,fun y c' e=>?_,I.free,I.freeC,fun p hp=>?_,tracked ⟨oc,hoc,I.freeC x c hc⟩ hs,by simpa using I.len⟩ ⟨c,hs,.inr hc⟩
  ·exact (hs.2 b (Nat.ne_of_lt (Nat.lt_of_lt_of_le (Heap.lt_size e) (I.ok.cab x c hfn hc)))).trans (I.base.keep b o e n hb hx)
  ·obtain ⟨sl,e1⟩:=I.base.slot b o e n hb hx
   exact ⟨sl,(hs.2 b (Nat.ne_of_lt (Nat.lt_of_lt_of_le (Heap.lt_size e) (I.ok.cab x c hfn hc)))).trans e1⟩
  ·obtain ⟨o',e1⟩:=I.base.there b o e hx
   exact ⟨o',(hs.2 b (Nat.ne_of_lt (Nat.lt_of_lt_of_le (Heap.lt_size e) (I.ok.cab x c hfn hc)))).trans e1⟩
  ·by_cases hj:j = i
   ·subst hj
    rw [hi] at e1; cases e1
    rw [List.getElem?_set_self hiσ] at e2
    cases e2
    exact ⟨u,r,.inr ⟨.inl hk,c,hc,hc'⟩⟩
   ·rw [List.getElem?_set_ne (Ne.symm hj)] at e2
    obtain ⟨u',r',q⟩:=hl j y v' e1 e2 e3
    refine ⟨u',r',?_⟩
    rcases q with q | ⟨k,c',e,z'⟩
    ·exact .inl q
    ·refine .inr ⟨k,c',e,z'.sameBut hs ?_⟩
     rintro rfl
     exact hj (nodup_ix hN e1 (I.ok.inj _ _ _ e hc ▸ hi))
  ·by_cases hcc:c' = c
   ·subst hcc; exact ⟨_,hc'⟩
   ·obtain ⟨w2,z2⟩:=I.cell y c' e
    exact ⟨w2,z2.sameBut hs hcc⟩
  ·obtain ⟨e,n,ne,nf,d⟩:=I.pin p hp
   refine ⟨(hs.2 p.1 ?_).trans e,n,ne,nf,d⟩
   intro q
   rw [q,hoc] at e
   have q':oc = p.2:=Option.some.inj e
   exact d w' (by rw [<- q']; exact hocd)
theorem store_ok {M:Model} {A:Around} {E:Value -> Shared -> Prop} {i:Nat} {x:Str} {v:V} {u:Value} {Q:Unit -> Shared -> Prop} (I:Inv X pins σ H s) (hN:X.N.Nodup) (hi:X.N[i]? = some x) (hx:Loc X.env.scope x) (r:RelV v u)
  (h:∀ s',Inv X pins (σ.set i (some v)) H s' -> Q () s') (hf:X.fn x = true \/ X.env.scope.names.lookup x = some .local:=by first | exact .inl rfl | exact .inr rfl | assumption):wpAny M A (storeName X.env x u) Q E s:=
 store_ok2 I hN hi hx r (fun s' I' _=>h s' I') hf
theorem Inv.call' {s':Shared} {ch:List Addr} (I:Inv X pins σ H s) (ho:s'.os = s.os) (u:Un (frs X.stack) ch H H' s.heap s'.heap) (hok:HOk X.prog X.w H' s'.heap) (hg:AllBare s'.gens)
  (hch:∀ b ∈ ch,(b ∈ X.ex \/ X.s₀.heap.objs.size <= b) /\ b ≠ X.env.locals /\ (∀ x c,X.env.cells.lookup x = some c -> c ≠ b) /\ ∀ p ∈ X.pn ++ pins,p.1 ≠ b):Inv X pins σ H' s':=by
 obtain ⟨h',g',d',t',o'⟩:=s'
 have e:o' = s.os:=ho
 subst e
 exact I.call (g':=g') (t':=t') (d':=d') u hok hg hch
end
abbrev XK:=Value -> Option Addr -> Hp -> Prop
abbrev St:=List (Option V)
abbrev VK:=V -> Hp -> Prop
abbrev TE:=St -> Hp -> VK -> Prop
abbrev TT:=St -> Hp -> (Bool -> Hp -> Prop) -> Prop
abbrev TA:=St -> Hp -> (List V -> Hp -> Prop) -> Prop
structure Ends where
 nx:St -> Hp -> Prop
 rt:VK
 bk:St -> Hp -> Prop:=fun _ _=>False
 ct:St -> Hp -> Prop:=fun _ _=>False
abbrev TS:=Ends -> St -> Hp -> Prop
def EP (X:Cx) (pins:List (Addr × Obj)) (σ:St) (Q:VK) (u:Value) (s':Shared):Prop:=∃ v H',Inv X pins σ H' s' /\ RelV v u /\ Q v H'
def TP (X:Cx) (pins:List (Addr × Obj)) (σ:St) (Q:Bool -> Hp -> Prop) (b:Bool) (s':Shared):Prop:=∃ H',Inv X pins σ H' s' /\ Q b H'
def AP (X:Cx) (pins:List (Addr × Obj)) (σ:St) (Q:List V -> Hp -> Prop) (us:List Value) (s':Shared):Prop:=∃ vs H',Inv X pins σ H' s' /\ Vals vs us /\ Q vs H'
def SP (X:Cx) (pins:List (Addr × Obj)) (D:Ends) (f:Flow) (s':Shared):Prop:=
 match f with
 | .next=>∃ σ' H',Inv X pins σ' H' s' /\ D.nx σ' H'
 | .brk=>∃ σ' H',Inv X pins σ' H' s' /\ D.bk σ' H'
 | .cont=>∃ σ' H',Inv X pins σ' H' s' /\ D.ct σ' H'
 | .ret u=>∃ v σ' H',Inv X pins σ' H' s' /\ RelV v u /\ D.rt v H'
def PE (X:Cx) (e:Expr) (t:TE):Prop:=
 ∀ (pins:List (Addr × Obj)) (s:Shared) (σ:St) (H:Hp) (Q:VK),Inv X pins σ H s -> t σ H Q -> wpAny (model X.prog X.w) X.A (eval e X.env) (EP X pins σ Q) X.xe s
def PT (X:Cx) (e:Expr) (t:TT):Prop:=
 ∀ (pins:List (Addr × Obj)) (s:Shared) (σ:St) (H:Hp) (Q:Bool -> Hp -> Prop),Inv X pins σ H s -> t σ H Q -> wpAny (model X.prog X.w) X.A (isTrue e X.env (eval e X.env)) (TP X pins σ Q) X.xe s
def PW (X:Cx) (e:Expr) (t:TT):Prop:=
 ∀ (whole:Sem Value) (pins:List (Addr × Obj)) (s:Shared) (σ:St) (H:Hp) (Q:Bool -> Hp -> Prop),Inv X pins σ H s -> t σ H Q -> wpAny (model X.prog X.w) X.A (isTrue e X.env whole) (TP X pins σ Q) X.xe s
theorem PW.pt {X:Cx} {e:Expr} {t:TT} (h:PW X e t):PT X e t:=h _
def PA (X:Cx) (es:List Expr) (t:TA):Prop:=
 ∀ (pos:Pos) (pins:List (Addr × Obj)) (s:Shared) (σ:St) (H:Hp) (Q:List V -> Hp -> Prop),Inv X pins σ H s -> t σ H Q -> wpAny (model X.prog X.w) X.A (spliced (backTo pos (starEach es X.env))) (AP X pins σ Q) X.xe s
def PS (X:Cx) (st:Stmt) (t:TS):Prop:=
 ∀ (pins:List (Addr × Obj)) (s:Shared) (σ:St) (H:Hp) (D:Ends),Inv X pins σ H s -> t D σ H -> wpAny (model X.prog X.w) X.A (exec st X.env) (SP X pins D) X.xe s
def PSs (X:Cx) (st:List Stmt) (t:TS):Prop:=
 ∀ (pins:List (Addr × Obj)) (s:Shared) (σ:St) (H:Hp) (D:Ends),Inv X pins σ H s -> t D σ H -> wpAny (model X.prog X.w) X.A (execs st X.env) (SP X pins D) X.xe s
theorem thn {α:Type} {t:Sem α} {Q Q':α -> Shared -> Prop} {M:Model} {A:Around} {E:Value -> Shared -> Prop} {s:Shared} (h:wpAny M A t Q E s) (hQ:∀ a s,Q a s -> Q' a s):wpAny M A t Q' E s:=wpAny_mono h hQ fun _ _ x=>x
end L2
namespace L2
open PySem PySem.Spec PyProof.Rows
section
variable {X:Cx}
theorem bin {a b:Expr} {ta tb:TE} (ha:PE X a ta) (hb:PE X b tb) {pins:List (Addr × Obj)} {s:Shared} {σ:St} {H:Hp} {R:V -> V -> Hp -> Prop} (I:Inv X pins σ H s) (h:ta σ H fun x H1=>tb σ H1 fun y H2=>R x y H2)
  {α:Type} {Q:α -> Shared -> Prop} {f:Value -> Value -> Sem α}
  (hf:∀ v u s2 x y H2,Inv X pins σ H2 s2 -> RelV x v -> RelV y u -> R x y H2 -> wpAny (model X.prog X.w) X.A (f v u) Q X.xe s2) :
  wpAny (model X.prog X.w) X.A (eval a X.env) (fun v s₁=>wpAny (model X.prog X.w) X.A (eval b X.env) (fun u s₂=>wpAny (model X.prog X.w) X.A (f v u) Q X.xe s₂) X.xe s₁) X.xe s:=by
 refine thn (ha pins s σ H _ I h) fun v s1 ⟨x,H1,I1,r1,q1⟩=>?_
 refine thn (hb pins s1 σ H1 _ I1 q1) fun u s2 ⟨y,H2,I2,r2,q2⟩=>?_
 exact hf v u s2 x y H2 I2 r1 r2 q2
def tVar (i:Nat):TE:=fun σ H Q=>∃ v,σ[i]? = some (some v) /\ Q v H
def tC (v:V):TE:=fun _ H Q=>Q v H
theorem pe_var {i:Nat} {x:Str} {pos:Pos} (hN:X.N[i]? = some x) (hv:Vis X.env.scope x) (hd:(x == ("__debug__" : Str)) = false:=by decide) (hcd:(x == ("__classdict__" : Str)) = false:=by decide):PE X (.Name x pos) (tVar i):=by
 intro pins s σ H Q I h
 obtain ⟨v,e,h⟩:=h
 obtain ⟨m,hn,hl⟩:=I.loc
 obtain ⟨u,r,l⟩:=hl i x v hN e hv
 have fin:EP X pins σ Q u s:=⟨v,H,I,r,h⟩
 rcases l with ⟨hk,hm⟩ | ⟨hk,c,hc,hcell⟩
 ·exact wpAny_Name (wpAny_loadName_local I.ok.kind hk hn hm fin) hd
 ·rcases hk with hk | hk
  ·exact wpAny_Name (wpAny_loadName_cell I.ok.kind hk hc hcell fin) hd
  ·exact wpAny_Name (wpAny_loadName_free I.ok.kind hk hc hcell fin hcd) hd
theorem pe_int {i j pos}:PE X (.Constant (.int i) j pos) (tC (.int i)):=fun _ _ _ H _ I h=>wpAny_Constant_int ⟨.int i,H,I.tok _,⟨_,rfl⟩,h⟩
theorem pe_bl {b j pos}:PE X (.Constant (.bool b) j pos) (tC (.bl b)):=fun _ _ _ H _ I h=>Constant_bool ⟨.bl b,H,I,rfl,h⟩
theorem pe_non {j pos}:PE X (.Constant .none j pos) (tC .non):=fun _ _ _ H _ I h=>Constant_none ⟨.non,H,I,rfl,h⟩
theorem pe_str {x j pos}:PE X (.Constant (.str x) j pos) (tC (.str x)):=fun _ _ _ H _ I h=>Calls.Constant_str ⟨.str x,H,I.tok _,⟨_,rfl⟩,h⟩
def Gl (X:Cx) (x:Str):Prop:=X.env.kindOf x = some .globalImplicit
theorem ld_glob {E:Value -> Shared -> Prop} {pins:List (Addr × Obj)} {s:Shared} {σ:St} {H:Hp} {x:Str} {u:Value} {pos:Pos} {Q:Value -> Shared -> Prop} (I:Inv X pins σ H s) (hg:Gl X x) (hm:X.mg x = some u) (h:Q u s)
  (hd:(x == ("__debug__" : Str)) = false:=by decide):wpAny (model X.prog X.w) X.A (eval (.Name x pos) X.env) Q E s:=
 Calls.Name_function_global I.ok.kind hg (Calls.loadGlobal_global (by rw [I.ok.glob]; exact I.mod.glob.keeps I.bk) hm h) hd
theorem ld_blt {E:Value -> Shared -> Prop} {pins:List (Addr × Obj)} {s:Shared} {σ:St} {H:Hp} {x:Str} {u:Value} {pos:Pos} {Q:Value -> Shared -> Prop} (I:Inv X pins σ H s) (hg:Gl X x) (hm:X.mg x = none) (hv:bootBuiltins x = some u) (h:Q u s)
  (hn:x ≠ "__name__":=by decide) (hd:(x == ("__debug__" : Str)) = false:=by decide):wpAny (model X.prog X.w) X.A (eval (.Name x pos) X.env) Q E s:=by
 obtain ⟨mb,h1,h2⟩:=I.mod.blt
 exact Calls.Name_function_global I.ok.kind hg (Calls.loadGlobal_builtin (by rw [I.ok.glob]; exact I.mod.glob.keeps I.bk) hm (by rw [I.ok.blt]; exact h1.keeps I.bk) ((h2 x hn).trans hv) h) hd
theorem pe_glob {x:Str} {v:V} {u:Value} {pos:Pos} (hg:Gl X x) (hm:X.mg x = some u) (r:RelV v u) (hd:(x == ("__debug__" : Str)) = false:=by decide):PE X (.Name x pos) (tC v):=
 fun _ _ _ H _ I h=>ld_glob I hg hm ⟨v,H,I,r,h⟩ hd
def t2I (ta tb:TE) (k:Int -> Int -> Hp -> Prop):St -> Hp -> Prop:=fun σ H=>ta σ H fun x H1=>tb σ H1 fun y H2=>∃ i j,x = .int i /\ y = .int j /\ k i j H2
variable {a b:Expr} {ta tb:TE} {pos:Pos}
def PC (X:Cx) (op:CmpOp) (a b:Expr) (t:TE):Prop:=
 ∀ (pins:List (Addr × Obj)) (s:Shared) (σ:St) (H:Hp) (Q:VK),Inv X pins σ H s -> t σ H Q ->
  wpAny (model X.prog X.w) X.A (eval a X.env) (fun v s₁=>wpAny (model X.prog X.w) X.A (eval b X.env) (fun u s₂=>wpAny (model X.prog X.w) X.A (compareOp op v u) (EP X pins σ Q) X.xe s₂) X.xe s₁) X.xe s
theorem nobehind (b:Expr) {op:CmpOp} (h:op ≠ .In) (h2:op ≠ .NotIn):behindInMarks op b = false:=by
 have e1:(op == CmpOp.In) = false:=by cases op <;> first | rfl | exact absurd rfl h
 have e2:(op == CmpOp.NotIn) = false:=by cases op <;> first | rfl | exact absurd rfl h2
 cases b <;> simp [behindInMarks,e1,e2]
def tCmp (p:Int -> Int -> Bool) (ta tb:TE):TE:=fun σ H Q=>t2I ta tb (fun i j H2=>Q (.bl (p i j)) H2) σ H
abbrev tLt:TE -> TE -> TE:=tCmp fun i j=>decide (i < j)
abbrev tGt:TE -> TE -> TE:=tCmp fun i j=>decide (j < i)
def tIsN (ta:TE):TE:=fun σ H Q=>ta σ H fun x H1=>Q (.bl (decide (x = .non))) H1
def tNotN (ta:TE):TE:=fun σ H Q=>ta σ H fun x H1=>Q (.bl (!decide (x = .non))) H1
theorem RelV.none_iff {x:V} {v:Value} (r:RelV x v):(v == Value.none) = decide (x = .non):=by
 cases x with
 | non=>cases r; rfl
 | bl _=>cases r; rfl
 | int _=>obtain ⟨t,rfl⟩:=r; rfl
 | str _=>obtain ⟨t,rfl⟩:=r; rfl
 | byt _=>obtain ⟨t,rfl⟩:=r; rfl
 | flt _=>obtain ⟨t,rfl⟩:=r; rfl
 | ref _=>cases r; rfl
 | ty _=>cases r; rfl
theorem pc_isN {j pos'} (ha:PE X a ta):PC X .Is a (.Constant .none j pos') (tIsN ta):=by
 intro pins s σ H Q I h
 refine thn (ha pins s σ H _ I h) fun v s1 ⟨x,H1,I1,r1,q1⟩=>?_
 exact Constant_none (is_none_gen ⟨.bl _,H1,I1,by rw [r1.none_iff]; rfl,q1⟩)
theorem pc_notN {j pos'} (ha:PE X a ta):PC X .IsNot a (.Constant .none j pos') (tNotN ta):=by
 intro pins s σ H Q I h
 refine thn (ha pins s σ H _ I h) fun v s1 ⟨x,H1,I1,r1,q1⟩=>?_
 exact Constant_none (isnot_none_gen ⟨.bl _,H1,I1,by rw [r1.none_iff]; rfl,q1⟩)
def tB (t:TE):TT:=fun σ H Q=>t σ H fun x H1=>∃ c,x = .bl c /\ Q c H1
theorem pe_cmp {op:CmpOp} {t:TE} (h:PC X op a b t) (h1:behindInMarks op b = false:=by first | exact nobehind _ (by decide) (by decide) | rfl):PE X (.Compare a [op] [b] pos) t:=fun pins s σ H Q I hw=>wpAny_Compare1 (h pins s σ H Q I hw) h1
theorem pt_cmp {op:CmpOp} {t:TE} (h:PC X op a b t) (h1:behindInMarks op b = false:=by first | exact nobehind _ (by decide) (by decide) | rfl):PT X (.Compare a [op] [b] pos) (tB t):=by
 intro pins s σ H Q I hw
 refine wpAny_isTrue_Compare1 (thn (h pins s σ H _ I hw) fun v s1 h1=>thn h1 fun u s2 h2=>thn h2 fun c s3 ⟨x,H1,I1,r1,q1⟩=>?_) h1
 obtain ⟨d,rfl,q⟩:=q1
 cases r1
 exact wpAny_truthy_bool ⟨H1,I1,q⟩
variable {tA tB':TT} {rest:List Expr}
def tAnd (t u:TT):TT:=fun σ H Q=>t σ H fun c H1=>if c = true then u σ H1 Q else Q false H1
def tOr (t u:TT):TT:=fun σ H Q=>t σ H fun c H1=>if c = true then Q true H1 else u σ H1 Q
def tNot (t:TT):TT:=fun σ H Q=>t σ H fun c H1=>Q (!c) H1
theorem pw_and1 (ha:PT X a tA):PW X (.BoolOp .And [a] pos) tA:=by
 intro wh pins s σ H Q I h
 refine isTrue_and (thn (ha pins s σ H Q I h) fun c s1 e=>?_)
 cases c with
 | true=>exact isTrue_and_nil e
 | false=>exact e
theorem pw_or1 (ha:PT X a tA):PW X (.BoolOp .Or [a] pos) tA:=by
 intro wh pins s σ H Q I h
 refine isTrue_or (thn (ha pins s σ H Q I h) fun c s1 e=>?_)
 cases c with
 | false=>exact isTrue_or_nil e
 | true=>exact e
theorem pw_and (ha:PT X a tA) (hb:PW X (.BoolOp .And (b :: rest) pos) tB'):PW X (.BoolOp .And (a :: b :: rest) pos) (tAnd tA tB'):=by
 intro wh pins s σ H Q I h
 refine isTrue_and (thn (ha pins s σ H _ I h) fun c s1 ⟨H1,I1,q1⟩=>?_)
 cases c with
 | true=>exact hb wh pins s1 σ H1 Q I1 q1
 | false=>exact ⟨H1,I1,q1⟩
theorem pw_or (ha:PT X a tA) (hb:PW X (.BoolOp .Or (b :: rest) pos) tB'):PW X (.BoolOp .Or (a :: b :: rest) pos) (tOr tA tB'):=by
 intro wh pins s σ H Q I h
 refine isTrue_or (thn (ha pins s σ H _ I h) fun c s1 ⟨H1,I1,q1⟩=>?_)
 cases c with
 | true=>exact ⟨H1,I1,q1⟩
 | false=>exact hb wh pins s1 σ H1 Q I1 q1
theorem pt_not (ha:PT X a tA):PT X (.UnaryOp .Not a pos) (tNot tA):=by
 intro pins s σ H Q I h
 exact isTrue_not (ha pins s σ H (fun c H1=>Q (!c) H1) I h)
def tAndV (ta tb:TE):TE:=fun σ H Q=>ta σ H fun x H1=>∃ c,x = .bl c /\ if c = true then tb σ H1 Q else Q (.bl false) H1
def tOrV (ta tb:TE):TE:=fun σ H Q=>ta σ H fun x H1=>∃ c,x = .bl c /\ if c = true then Q (.bl true) H1 else tb σ H1 Q
def tNotV (ta:TE):TE:=fun σ H Q=>ta σ H fun x H1=>∃ c,x = .bl c /\ Q (.bl (!c)) H1
theorem pe_one {op} {t:TE} (h:PE X a t):PE X (.BoolOp op [a] pos) t:=fun pins s σ H Q I hw=>BoolOp_one (h pins s σ H Q I hw)
theorem pe_and (ha:PE X a ta) (hb:PE X (.BoolOp .And (b :: rest) pos) tb):PE X (.BoolOp .And (a :: b :: rest) pos) (tAndV ta tb):=by
 intro pins s σ H Q I h
 refine BoolOp_and (thn (ha pins s σ H _ I h) fun v s1 ⟨x,H1,I1,r1,q1⟩=>?_)
 obtain ⟨c,rfl,q1⟩:=q1
 cases r1
 refine wpAny_truthy_bool ?_
 cases c with
 | true=>exact hb pins s1 σ H1 Q I1 q1
 | false=>exact ⟨.bl false,H1,I1,rfl,q1⟩
theorem pe_or (ha:PE X a ta) (hb:PE X (.BoolOp .Or (b :: rest) pos) tb):PE X (.BoolOp .Or (a :: b :: rest) pos) (tOrV ta tb):=by
 intro pins s σ H Q I h
 refine BoolOp_or (thn (ha pins s σ H _ I h) fun v s1 ⟨x,H1,I1,r1,q1⟩=>?_)
 obtain ⟨c,rfl,q1⟩:=q1
 cases r1
 refine wpAny_truthy_bool ?_
 cases c with
 | false=>exact hb pins s1 σ H1 Q I1 q1
 | true=>exact ⟨.bl true,H1,I1,rfl,q1⟩
theorem pe_not (ha:PE X a ta):PE X (.UnaryOp .Not a pos) (tNotV ta):=by
 intro pins s σ H Q I h
 refine UnaryOp_ (thn (ha pins s σ H _ I h) fun v s1 ⟨x,H1,I1,r1,q1⟩=>?_)
 obtain ⟨c,rfl,q1⟩:=q1
 cases r1
 exact not_of (wpAny_truthy_bool ⟨.bl (!c),H1,I1,rfl,q1⟩)
def tIf (t:TT) (ta tb:TE):TE:=fun σ H Q=>t σ H fun c H1=>if c = true then ta σ H1 Q else tb σ H1 Q
theorem pe_ifExp {c:Expr} (hc:PT X c tA) (ha:PE X a ta) (hb:PE X b tb):PE X (.IfExp c a b pos) (tIf tA ta tb):=by
 intro pins s σ H Q I h
 refine wpAny_IfExp (thn (hc pins s σ H _ I h) fun d s1 ⟨H1,I1,q1⟩=>?_)
 cases d with
 | true=>exact ha pins s1 σ H1 Q I1 q1
 | false=>exact hb pins s1 σ H1 Q I1 q1
end
end L2
namespace L2
open PySem PySem.Spec PyProof.Rows
def SqL (K:PySem.W.Frag) (H:Hp) (a:Addr) (xs:List V):Prop:=
 Rd H a (.lst xs) \/
  ∃ (o:Obj) (its:Array Value) (n:Nat),K.lookup a = some o /\ o.cls = .type "list" /\ o.dict = none /\ o.data = .seq its n /\ its.size <= sizeLine /\ Vals xs its.toList
def SqT (K:PySem.W.Frag) (H:Hp) (a:Addr) (xs:List V):Prop:=
 H a = some (.tup xs) \/
  ∃ (y:Str) (o:Obj) (its:Array Value) (n:Nat),PySem.W.nsIn K mainGlobals y = some (some (.ref a)) /\ K.lookup a = some o /\ o.cls = .type "tuple" /\ o.dict = none /\ o.data = .seq its n /\ its.size <= sizeLine /\ Vals xs its.toList
def absV:Value -> Option V
 | .none=>some .non
 | .bool b=>some (.bl b)
 | .int i _=>some (.int i)
 | .str x _=>some (.str x)
 | .bytes b _=>some (.byt b)
 | .float b _=>some (.flt b)
 | .ref a=>some (.ref a)
 | .type n=>some (.ty n)
 | _=>none
theorem RelV.abs {x:V} {u:Value} (r:RelV x u):absV u = some x:=by
 cases x with
 | non=>cases r; rfl
 | bl _=>cases r; rfl
 | int _=>obtain ⟨t,rfl⟩:=r; rfl
 | str _=>obtain ⟨t,rfl⟩:=r; rfl
 | byt _=>obtain ⟨t,rfl⟩:=r; rfl
 | flt _=>obtain ⟨t,rfl⟩:=r; rfl
 | ref _=>cases r; rfl
 | ty _=>cases r; rfl
theorem RelV.inj {x y:V} {u:Value} (r:RelV x u) (q:RelV y u):x = y:=Option.some.inj (r.abs.symm.trans q.abs)
theorem Vals.inj:∀ {xs ys:List V} {us:List Value},Vals xs us -> Vals ys us -> xs = ys
 | _,_,_,.nil,.nil=>rfl
 | _,_,_,.cons r t,.cons r' t'=>by rw [r.inj r',Vals.inj t t']
section
variable {X:Cx} {pins:List (Addr × Obj)} {σ:St} {H:Hp} {s:Shared} {a:Addr} {xs ys:List V}
theorem SqL.of {K:PySem.W.Frag} (h:H a = some (.lst xs)):SqL K H a xs:=.inl (.inl h)
theorem SqT.of {K:PySem.W.Frag} (h:H a = some (.tup xs)):SqT K H a xs:=.inl h
theorem Inv.list (I:Inv X pins σ H s) (h:SqL X.K H a xs):∃ its:List Value,Vals xs its /\ PlainL s.heap a its.toArray /\ xs.length <= sizeLine:=by
 rcases h with h | ⟨o,its,n,hk,hc,hd,hs,hz,r⟩
 ·obtain ⟨z,its,n,r,e⟩:=h.ok I.hok
  exact ⟨its,r,⟨_,n,e,rfl,rfl,rfl⟩,z⟩
 ·refine ⟨its.toList,r,⟨o,n,I.kIn a o hk,hc,hd,by simpa using hs⟩,?_⟩
  have e:=r.length
  simp only [Array.length_toList] at e
  omega
theorem Inv.tuple (I:Inv X pins σ H s) (h:SqT X.K H a xs):∃ its:List Value,Vals xs its /\ IsTup s.heap a its.toArray /\ xs.length <= sizeLine:=by
 rcases h with h | ⟨_,o,its,n,_,hk,hc,_,hs,hz,r⟩
 ·obtain ⟨⟨z,_⟩,its,r,p⟩:=I.hok a _ h
  exact ⟨its,r,p,z⟩
 ·refine ⟨its.toList,r,⟨o,I.kIn a o hk,hc,n,by simpa using hs⟩,?_⟩
  have e:=r.length
  simp only [Array.length_toList] at e
  omega
theorem Inv.tupleD (I:Inv X pins σ H s) (h:SqT X.K H a xs):∃ (its:List Value) (o:Obj) (n:Nat),Vals xs its /\ s.heap.get? a = some o /\ o.cls = .type "tuple" /\ o.dict = none /\ o.data = .seq its.toArray n /\ xs.length <= sizeLine:=by
 rcases h with h | ⟨_,o,its,n,_,hk,hc,hd,hs,hz,r⟩
 ·obtain ⟨⟨z,zd⟩,its,r,o,e,c,n,d⟩:=I.hok a _ h
  exact ⟨its,o,n,r,e,c,zd _ e,d,z⟩
 ·refine ⟨its.toList,o,n,r,I.kIn a o hk,hc,hd,by simpa using hs,?_⟩
  have e:=r.length
  simp only [Array.length_toList] at e
  omega
theorem Inv.list_inj (I:Inv X pins σ H s) (h:SqL X.K H a xs) (h':SqL X.K H a ys):xs = ys:=by
 obtain ⟨its,r,⟨o,n,e,_,_,d⟩,_⟩:=I.list h
 obtain ⟨its',r',⟨o',n',e',_,_,d'⟩,_⟩:=I.list h'
 rw [e] at e'; cases e'
 rw [d] at d'
 injection d' with d1 _
 have:its = its':=by simpa using congrArg Array.toList d1
 subst this
 exact r.inj r'
theorem Inv.tuple_inj (I:Inv X pins σ H s) (h:SqT X.K H a xs) (h':SqT X.K H a ys):xs = ys:=by
 obtain ⟨its,r,⟨o,e,_,n,d⟩,_⟩:=I.tuple h
 obtain ⟨its',r',⟨o',e',_,n',d'⟩,_⟩:=I.tuple h'
 rw [e] at e'; cases e'
 rw [d] at d'
 injection d' with d1 _
 have:its = its':=by simpa using congrArg Array.toList d1
 subst this
 exact r.inj r'
end
section
variable {X:Cx} {pins:List (Addr × Obj)} {σ:St} {H:Hp} {s:Shared} {E:Value -> Shared -> Prop}
end
section
variable {X:Cx} {st:Stmt} {rest:List Stmt} {t u:TS} {e:Expr} {te:TE} {pos:Pos}
def tNext:TS:=fun D σ H=>D.nx σ H
def tSeq (t u:TS):TS:=fun D σ H=>t { D with nx:=u D } σ H
theorem pss_nil:PSs X [] tNext:=fun _ _ σ H _ I h=>wpAny_execs_nil ⟨σ,H,I,h⟩
theorem pss_cons (h1:PS X st t) (h2:PSs X rest u):PSs X (st :: rest) (tSeq t u):=by
 intro pins s σ H D I h
 refine wpAny_execs_cons (thn (h1 pins s σ H { D with nx:=u D } I h) fun f s1 q=>?_)
 cases f with
 | next=>
  obtain ⟨σ',H',I',q⟩:=q
  exact h2 pins s1 σ' H' D I' q
 | ret v=>exact q
 | brk=>exact q
 | cont=>exact q
theorem pss_one (h1:PS X st t):PSs X [st] t:=by
 intro pins s σ H D I h
 refine wpAny_execs_cons (thn (h1 pins s σ H D I h) fun f s1 q=>?_)
 cases f with
 | next=>exact wpAny_execs_nil q
 | ret v=>exact q
 | brk=>exact q
 | cont=>exact q
theorem Inv.quiet {pins:List (Addr × Obj)} {σ:St} {H:Hp} {s:Shared} (I:Inv X pins σ H s):interactive X.env = false:=by simp [interactive,I.ok.kind]
def tDrop (te:TE):TS:=fun D σ H=>te σ H fun _ H1=>D.nx σ H1
theorem ps_expr (he:PE X e te) (hs:swapsWith e none pos.line X.env = pure false:=by rfl):PS X (.Expr e pos) (tDrop te):=by
 intro pins s σ H D I h
 exact wpAny_Expr_any (thn (he pins s σ H _ I h) fun v s1 ⟨x,H1,I1,r1,q1⟩=>⟨σ,H1,I1,q1⟩) I.quiet hs
def tRet (te:TE):TS:=fun D σ H=>te σ H D.rt
theorem ps_ret (he:PE X e te):PS X (.Return (some e) pos) (tRet te):=by
 intro pins s σ H D I h
 exact wpAny_Return_some (thn (he pins s σ H _ I h) fun v s1 ⟨x,H1,I1,r1,q1⟩=>⟨x,σ,H1,I1,r1,q1⟩)
def tIfS (c:TT) (t u:TS):TS:=fun D σ H=>c σ H fun b H1=>if b = true then t D σ H1 else u D σ H1
theorem ps_if {c:Expr} {a b:List Stmt} {tc:TT} (hc:PT X c tc) (ha:PSs X a t) (hb:PSs X b u):PS X (.If c a b pos) (tIfS tc t u):=by
 intro pins s σ H D I h
 refine wpAny_If (thn (hc pins s σ H _ I h) fun d s1 ⟨H1,I1,q1⟩=>?_)
 cases d with
 | true=>exact ha pins s1 σ H1 D I1 q1
 | false=>exact hb pins s1 σ H1 D I1 q1
end
abbrev TG:=V -> St -> Hp -> (St -> Hp -> Prop) -> Prop
abbrev TGs:=List V -> St -> Hp -> (St -> Hp -> Prop) -> Prop
def PG (X:Cx) (target:Expr) (t:TG):Prop:=
 ∀ (pins:List (Addr × Obj)) (s:Shared) (σ:St) (H:Hp) (v:V) (u:Value) (Q:St -> Hp -> Prop),Inv X pins σ H s -> RelV v u -> t v σ H Q ->
  wpAny (model X.prog X.w) X.A (assign target X.env u) (fun _ s'=>∃ σ' H',Inv X pins σ' H' s' /\ Q σ' H') X.xe s
def PGs (X:Cx) (ts:List Expr) (t:TGs):Prop:=
 ∀ (pins:List (Addr × Obj)) (s:Shared) (σ:St) (H:Hp) (vs:List V) (us:List Value) (Q:St -> Hp -> Prop),Inv X pins σ H s -> Vals vs us -> t vs σ H Q ->
  wpAny (model X.prog X.w) X.A (assignInOrder ((assignEach ts X.env).map (·.2)) us) (fun _ s'=>∃ σ' H',Inv X pins σ' H' s' /\ Q σ' H') X.xe s
abbrev TIp:=V -> V -> Hp -> VK -> Prop
def PIp (X:Cx) (op:Operator) (t:TIp):Prop:=
 ∀ (pins:List (Addr × Obj)) (s:Shared) (σ:St) (H:Hp) (x y:V) (v u:Value) (Q:VK),Inv X pins σ H s -> RelV x v -> RelV y u -> t x y H Q ->
  wpAny (model X.prog X.w) X.A (inplaceOp op v u) (EP X pins σ Q) X.xe s
section
variable {X:Cx} {pos:Pos}
def gName (i:Nat):TG:=fun v σ H Q=>Q (σ.set i (some v)) H
theorem pg_name {i:Nat} {x:Str} (hN:X.N.Nodup) (hi:X.N[i]? = some x) (hx:Loc X.env.scope x) (hf:X.fn x = true \/ X.env.scope.names.lookup x = some .local:=by first | exact .inl rfl | exact .inr rfl | assumption):PG X (.Name x pos) (gName i):=by
 intro pins s σ H v u Q I r h
 exact wpAny_assign_Name (store_ok I hN hi hx r (fun s' I'=>⟨_,H,I',h⟩) hf)
def gNil:TGs:=fun vs σ H Q=>vs = [] /\ Q σ H
def gCons (t:TG) (u:TGs):TGs:=fun vs σ H Q=>∃ v r,vs = v :: r /\ t v σ H fun σ' H'=>u r σ' H' Q
theorem pgs_nil:PGs X [] gNil:=by
 intro pins s σ H vs us Q I r h
 obtain ⟨e,h⟩:=h
 subst e
 cases r
 exact assignInOrder_nil ⟨σ,H,I,h⟩
theorem pgs_cons {e:Expr} {es:List Expr} {t:TG} {u:TGs} (h1:PG X e t) (h2:PGs X es u)
  (hs:(assignEach (e :: es) X.env).map (·.2) = assign e X.env :: (assignEach es X.env).map (·.2):=by rfl):PGs X (e :: es) (gCons t u):=by
 intro pins s σ H vs us Q I r h
 obtain ⟨v,vr,e1,h⟩:=h
 subst e1
 cases r with
 | cons r rr=>
  rw [hs]
  refine assignInOrder_cons (thn (h1 pins s σ H _ _ _ I r h) fun _ s1 ⟨σ1,H1,I1,q1⟩=>?_)
  exact h2 pins s1 σ1 H1 _ _ Q I1 rr q1
def gTup (K:PySem.W.Frag) (n:Nat) (t:TGs):TG:=fun v σ H Q=>∃ a xs,v = .ref a /\ SqT K H a xs /\ xs.length = n /\ t xs σ H Q
theorem pg_tup {es:List Expr} {k:Nat} {t:TGs} {n:Nat} (hc:X.calm = true) (h:PGs X es t)
  (hn:(assignEach es X.env).length = n:=by rfl) (hst:(assignEach es X.env).findIdx? (·.1) = none:=by rfl):PG X (.Tuple es k pos) (gTup X.K n t):=by
 intro pins s σ H v u Q I r hw
 obtain ⟨a,xs,e1,hq,hl,hw⟩:=hw
 subst e1
 cases r
 obtain ⟨its,rv,ht,hz⟩:=I.tuple hq
 refine assign_Tuple_tuple (I.ok.hd hc) ht (by simp [hn,<- hl,rv.length]) hst fun h' hx=>?_
 have I1:Inv X pins σ H { s with heap:=h' }:=I.kept (t':=s.toks) fun b o e=>hx b o (Nat.ne_of_lt (Heap.lt_size e)) e
 exact h pins _ σ H xs _ Q I1 (by simpa using rv) hw
def tAsg (te:TE) (g:TG):TS:=fun D σ H=>te σ H fun x H1=>g x σ H1 D.nx
theorem ps_set {i:Nat} {x:Str} {e:Expr} {te:TE} {pos':Pos} (hN:X.N.Nodup) (hi:X.N[i]? = some x) (hx:Loc X.env.scope x) (he:PE X e te) (hs:swapsWith e (some (.Name x pos')) pos.line X.env = pure false:=by rfl) (hf:X.fn x = true \/ X.env.scope.names.lookup x = some .local:=by first | exact .inl rfl | exact .inr rfl | assumption) :
  PS X (.Assign [.Name x pos'] e pos) (tAsg te (gName i)):=by
 intro pins s σ H D I h
 refine wpAny_Assign_Name (thn (he pins s σ H _ I h) fun v s1 ⟨y,H1,I1,r1,q1⟩=>?_) hs
 exact store_ok I1 hN hi hx r1 (fun s2 I2=>⟨_,H1,I2,q1⟩) hf
def tAug (i:Nat) (te:TE) (ti:TIp):TS:=fun D σ H=>∃ x,σ[i]? = some (some x) /\ te σ H fun y H1=>ti x y H1 fun z H2=>D.nx (σ.set i (some z)) H2
theorem ps_aug {i:Nat} {x:Str} {e:Expr} {te:TE} {op:Operator} {ti:TIp} {pos':Pos} (hN:X.N.Nodup) (hi:X.N[i]? = some x) (hx:Loc X.env.scope x) (he:PE X e te) (ho:PIp X op ti) (hf:X.fn x = true \/ X.env.scope.names.lookup x = some .local:=by first | exact .inl rfl | exact .inr rfl | assumption) :
  PS X (.AugAssign (.Name x pos') op e pos) (tAug i te ti):=by
 intro pins s σ H D I h
 obtain ⟨v,e1,h⟩:=h
 obtain ⟨m,hn,hl⟩:=I.loc
 have vis:Vis X.env.scope x:=by rcases hx with k | k; exact .inl k; exact .inr (.inl k)
 obtain ⟨u,r,l⟩:=hl i x v hi e1 vis
 refine wpAny_AugAssign_Name ?_
 have go:wpAny (model X.prog X.w) X.A (eval e X.env) (fun w s₂=>wpAny (model X.prog X.w) X.A (inplaceOp op u w) (fun r s₃=>wpAny (model X.prog X.w) X.A (storeName X.env x r) (fun _=>SP X pins D .next) X.xe s₃) X.xe s₂) X.xe s:=by
  refine thn (he pins s σ H _ I h) fun w s1 ⟨y,H1,I1,r1,q1⟩=>?_
  refine thn (ho pins s1 σ H1 v y u w _ I1 r r1 q1) fun z s2 ⟨zv,H2,I2,r2,q2⟩=>?_
  exact store_ok I2 hN hi hx r2 (fun s3 I3=>⟨_,H2,I3,q2⟩) hf
 rcases l with ⟨hk,hm⟩ | ⟨hk,c,hc,hcell⟩
 ·exact wpAny_loadName_local I.ok.kind hk hn hm go
 ·rcases hk with hk | hk
  ·exact wpAny_loadName_cell I.ok.kind hk hc hcell go
  ·rcases hx with k | k
   ·have:X.env.scope.names.lookup x = some .free:=hk
    rw [k] at this; cases this
   ·have:X.env.scope.names.lookup x = some .free:=hk
    rw [k] at this; cases this
def ipI (f:Int -> Int -> Int):TIp:=fun x y H Q=>∃ i j,x = .int i /\ y = .int j /\ Q (.int (f i j)) H
theorem ip_add:PIp X .Add (ipI fun i j=>i + j):=by
 intro pins s σ H x y v u Q I r1 r2 h
 obtain ⟨i,j,e1,e2,q⟩:=h
 subst e1; subst e2
 obtain ⟨t,rfl⟩:=r1
 obtain ⟨t',rfl⟩:=r2
 exact iadd_int ⟨.int _,H,I.tok _,⟨_,rfl⟩,q⟩
end
section
variable {X:Cx} {pos:Pos}
def tWhile (c:TT) (tb:TS):TS:=fun D σ H=>∃ W:Nat -> St -> Hp -> Prop,(∃ m,W m σ H) /\ ∀ m σ H,W m σ H ->
 c σ H fun b H1=>if b = true then ∃ N:St -> Hp -> Prop,(∀ σ' H',N σ' H' -> ∃ m',m' < m /\ W m' σ' H') /\ tb { D with nx:=N,ct:=N,bk:=D.nx } σ H1 else D.nx σ H1
theorem ps_while {c:Expr} {body:List Stmt} {tc:TT} {tb:TS} (hp:PassesOwn (model X.prog X.w) X.A X.env X.xe) (hc:PT X c tc) (hb:PSs X body tb):PS X (.While c body [] pos) (tWhile tc tb):=by
 intro pins s σ H D I h
 obtain ⟨W,⟨m0,w0⟩,turn⟩:=h
 refine wpAny_While (codeAny_whileLoop (fun n s'=>∃ σ' H',Inv X pins σ' H' s' /\ W n σ' H') ?_ m0 ⟨σ,H,I,w0⟩)
 rintro n s1 ⟨σ1,H1,I1,w1⟩
 refine wpAny_passesOwn hp (thn (hc pins s1 σ1 H1 _ I1 (turn n σ1 H1 w1)) fun b s2 ⟨H2,I2,q2⟩=>?_)
 cases b with
 | true=>
  obtain ⟨N,hN,q2⟩:=q2
  rw [if_pos rfl]
  refine wpAny_passesOwn hp (thn (hb pins s2 σ1 H2 _ I2 q2) fun f s3 q3=>?_)
  cases f with
  | next=>
   obtain ⟨σ3,H3,I3,n3⟩:=q3
   obtain ⟨m',hm,w3⟩:=hN σ3 H3 n3
   exact ⟨m',hm,σ3,H3,I3,w3⟩
  | cont=>
   obtain ⟨σ3,H3,I3,n3⟩:=q3
   obtain ⟨m',hm,w3⟩:=hN σ3 H3 n3
   exact ⟨m',hm,σ3,H3,I3,w3⟩
  | brk=>exact q3
  | ret v=>exact q3
 | false=>
  rw [if_neg Bool.false_ne_true]
  exact wpAny_execs_nil ⟨σ1,H2,I2,q2⟩
end
structure It where
 go:Nat -> Hp -> Prop
 yld:Nat -> Hp -> V -> Hp -> Prop
 stop:Nat -> Hp -> Prop
def FpOk (X:Cx) (pins:List (Addr × Obj)) (H:Hp) (b:Addr):Prop:=
 H b = none /\ b ≠ X.env.locals /\ b ∉ X.fs /\ (b ∈ X.ex \/ X.s₀.heap.objs.size <= b) /\ (∀ x c,X.env.cells.lookup x = some c -> c ≠ b) /\ ∀ p ∈ X.pn ++ pins,p.1 ≠ b
theorem Inv.fpOk {X:Cx} {pins:List (Addr × Obj)} {σ:St} {H H':Hp} {s:Shared} {b:Addr} (I:Inv X pins σ H s) (hb:s.heap.objs.size <= b) (hn:H' b = none):FpOk X pins H' b:=by
 refine ⟨hn,Nat.ne_of_gt (Nat.lt_of_lt_of_le I.lt hb),I.nofs hb,.inr (Nat.le_trans I.sz hb),fun x c e z=>?_,fun p hp z=>?_⟩
 ·obtain ⟨v,q⟩:=I.cell x c e
  exact absurd (Nat.lt_of_lt_of_le q.lt (by rw [z]; exact hb)) (Nat.lt_irrefl _)
 ·exact absurd (Nat.lt_of_lt_of_le (Heap.lt_size (I.pin p hp).1) (by rw [z]; exact hb)) (Nat.lt_irrefl _)
structure Turn (P:Program) (w:World) (K:PySem.W.Frag) (tg:Expr) (J:It) (fp:List Addr) (it:Addr) (tn:Nat -> Heap -> Prop):Prop where
 mem:it ∈ fp
 obj:∀ i h,tn i h -> ∀ b ∈ fp,∃ o,h.get? b = some o /\ ∀ v,o.data ≠ .cell v
 keep:∀ i h h',tn i h -> (∀ b ∈ fp,∀ o,h.get? b = some o -> h'.get? b = some o) -> tn i h'
 item:∀ (X:Cx),X.prog = P -> X.w = w -> X.K = K -> X.calm = true -> ∀ (i:Nat) (pins:List (Addr × Obj)) (s:Shared) (σ:St) (H:Hp) (E:Value -> Shared -> Prop),Inv X pins σ H s -> (∀ b ∈ fp,FpOk X pins H b) -> tn i s.heap -> J.go i H ->
  wpAny (model P w) X.A (pyNext (.ref it)) (fun r s1=>∃ u,r = some u /\
   wpAny (model P w) X.A (letOwnedTupleGo tg (.ref it) u) (fun _ s2=>∃ x H',Inv X pins σ H' s2 /\ RelV x u /\ J.yld i H x H' /\ tn (i + 1) s2.heap /\ ∀ b ∈ fp,H' b = none) E s1) E s
 done:∀ (X:Cx),X.prog = P -> X.w = w -> X.K = K -> X.calm = true -> ∀ (i:Nat) (pins:List (Addr × Obj)) (s:Shared) (σ:St) (H:Hp) (E:Value -> Shared -> Prop),Inv X pins σ H s -> (∀ b ∈ fp,FpOk X pins H b) -> tn i s.heap -> J.stop i H ->
  wpAny (model P w) X.A (pyNext (.ref it)) (fun r s1=>r = none /\ Inv X pins σ H s1) E s
 self:∀ (A:Around) (i:Nat) (s:Shared) (Q:Value -> Shared -> Prop) (E:Value -> Shared -> Prop),tn i s.heap -> Q (.ref it) s -> wpAny (model P w) A (pyIter (.ref it)) Q E s
abbrev TI:=St -> Hp -> (It -> Hp -> Prop) -> Prop
def PIE (X:Cx) (pins:List (Addr × Obj)) (σ:St) (tg:Expr) (R:It -> Hp -> Prop) (itv:Value) (s2:Shared):Prop:=
 ∃ (it:Addr) (fp:List Addr) (tn:Nat -> Heap -> Prop) (J:It) (H':Hp),itv = .ref it /\ Inv X pins σ H' s2 /\ Turn X.prog X.w X.K tg J fp it tn /\ tn 0 s2.heap /\ (∀ b ∈ fp,FpOk X pins H' b) /\ R J H'
def PI (X:Cx) (tg iter:Expr) (wi:TI):Prop:=
 ∀ (pins:List (Addr × Obj)) (s:Shared) (σ:St) (H:Hp) (R:It -> Hp -> Prop),Inv X pins σ H s -> wi σ H R ->
  wpAny (model X.prog X.w) X.A (eval iter X.env) (fun v s1=>wpAny (model X.prog X.w) X.A (pyIter v) (PIE X pins σ tg R) X.xe s1) X.xe s
theorem go_of {M:Model} {A:Around} {E:Value -> Shared -> Prop} {s:Shared} {tg:Expr} {it:Addr} {u:Value} {o:Obj} {n:String} {vs:Array Value} {Q:Unit -> Shared -> Prop} (ho:s.heap.get? it = some o) (hc:o.cls = .type n) (hd:o.data = .fields vs)
  (hn:["enumerate","zip","dict_itemiterator","dict_reverseitemiterator","odict_iterator","itertools.zip_longest","itertools.pairwise"].contains n = false) (hQ:Q () s):wpAny M A (letOwnedTupleGo tg (.ref it) u) Q E s:=by
 unfold letOwnedTupleGo
 cases tg <;> first
  | exact wpAny_pure hQ
  | (cases u <;> first
    | exact wpAny_pure hQ
    | (refine wpAny_bind (wpAny_load ho ?_); rw [hc,hd]; show wpAny M A (if (["enumerate","zip","dict_itemiterator","dict_reverseitemiterator","odict_iterator","itertools.zip_longest","itertools.pairwise"].contains n && vs[0]? == some (rawInt _)) = true then _ else _) Q E s; rw [if_neg (by intro h; rw [hn,Bool.false_and] at h; cases h)]; exact wpAny_pure hQ))
def Itl (K:PySem.W.Frag) (a:Addr):It:=
 ⟨fun i H=>∃ xs x,SqL K H a xs /\ xs[i]? = some x,fun i H x H'=>H' = H /\ ∀ xs,SqL K H a xs -> xs[i]? = some x,fun i H=>∃ xs,SqL K H a xs /\ xs.length <= i⟩
def Itt (K:PySem.W.Frag) (a:Addr):It:=
 ⟨fun i H=>∃ xs x,SqT K H a xs /\ xs[i]? = some x,fun i H x H'=>H' = H /\ ∀ xs,SqT K H a xs -> xs[i]? = some x,fun i H=>∃ xs,SqT K H a xs /\ xs.length <= i⟩
def Itr (lo:Int) (n:Nat):It:=⟨fun i _=>i < n,fun i H x H'=>H' = H /\ x = .int (lo + i),fun i _=>n <= i⟩
theorem turn_list {P:Program} {w:World} {K:PySem.W.Frag} {tg:Expr} (a it:Addr):Turn P w K tg (Itl K a) [it] it (fun i h=>h.IsListIter it a i) where
 mem:=by simp
 obj:=fun i h st b hb=>by
  have e:b = it:=by simpa using hb
  subst e
  obtain ⟨o,e,c,d⟩:=st
  exact ⟨o,e,fun v z=>by rw [d] at z; cases z⟩
 keep:=fun i h h' st k=>st.at fun o e=>k it (by simp) o e
 item:=by
  intro X hP hw hK hc i pins s σ H E I hf st hg
  subst hP hw hK
  obtain ⟨xs,x,hq,hx⟩:=hg
  obtain ⟨its,rv,p,hz⟩:=I.list hq
  obtain ⟨u,hu,ru⟩:=rv.get hx
  obtain ⟨f0,f1,f2,f3,f4,f5⟩:=hf it (by simp)
  refine wpAny_pyNext_list_item st p.isList (x:=u) (by simpa using hu) fun h' st' sb=>?_
  have I1:Inv X pins σ H { s with heap:=h' }:=I.turned (t':=s.toks) (fun b o hb e=>(sb.2 b hb).trans e) f0 f1 f3 f4 f5
  obtain ⟨o,e,c,d⟩:=id st'
  exact ⟨u,rfl,go_of (s:={ s with heap:=h' }) e c d (by decide) ⟨x,H,I1,ru,⟨rfl,fun ys hy=>by rw [I.list_inj hy hq]; exact hx⟩,st',fun b hb=>(hf b hb).1⟩⟩
 done:=by
  intro X hP hw hK hc i pins s σ H E I hf st hg
  subst hP hw hK
  obtain ⟨xs,hq,hx⟩:=hg
  obtain ⟨its,rv,p,hz⟩:=I.list hq
  obtain ⟨f0,f1,f2,f3,f4,f5⟩:=hf it (by simp)
  have hl:=rv.length
  exact wpAny_pyNext_list_end (I.ok.hd hc) st p.isList (by simp; omega) fun h' eb=>⟨rfl,I.turned (t':=s.toks) (fun b o hb e=>eb b o hb e) f0 f1 f3 f4 f5⟩
 self:=fun _ _ _ _ _ st h=>wpAny_pyIter_listiter st h
theorem turn_tuple {P:Program} {w:World} {K:PySem.W.Frag} {tg:Expr} (a it:Addr):Turn P w K tg (Itt K a) [it] it (fun i h=>h.IsTupleIter it a i) where
 mem:=by simp
 obj:=fun i h st b hb=>by
  have e:b = it:=by simpa using hb
  subst e
  obtain ⟨o,e,c,d⟩:=st
  exact ⟨o,e,fun v z=>by rw [d] at z; cases z⟩
 keep:=fun i h h' st k=>st.at fun o e=>k it (by simp) o e
 item:=by
  intro X hP hw hK hc i pins s σ H E I hf st hg
  subst hP hw hK
  obtain ⟨xs,x,hq,hx⟩:=hg
  obtain ⟨its,rv,p,hz⟩:=I.tuple hq
  obtain ⟨u,hu,ru⟩:=rv.get hx
  obtain ⟨f0,f1,f2,f3,f4,f5⟩:=hf it (by simp)
  refine wpAny_pyNext_tuple_item st (show s.heap.IsTuple a its.toArray from p) (x:=u) (by simpa using hu) fun h' st' sb=>?_
  have I1:Inv X pins σ H { s with heap:=h' }:=I.turned (t':=s.toks) (fun b o hb e=>(sb.2 b hb).trans e) f0 f1 f3 f4 f5
  obtain ⟨o,e,c,d⟩:=id st'
  exact ⟨u,rfl,go_of (s:={ s with heap:=h' }) e c d (by decide) ⟨x,H,I1,ru,⟨rfl,fun ys hy=>by rw [I.tuple_inj hy hq]; exact hx⟩,st',fun b hb=>(hf b hb).1⟩⟩
 done:=by
  intro X hP hw hK hc i pins s σ H E I hf st hg
  subst hP hw hK
  obtain ⟨xs,hq,hx⟩:=hg
  obtain ⟨its,rv,p,hz⟩:=I.tuple hq
  obtain ⟨f0,f1,f2,f3,f4,f5⟩:=hf it (by simp)
  have hl:=rv.length
  exact wpAny_pyNext_tuple_end (I.ok.hd hc) st (show s.heap.IsTuple a its.toArray from p) (by simp; omega) fun h' eb=>⟨rfl,I.turned (t':=s.toks) (fun b o hb e=>eb b o hb e) f0 f1 f3 f4 f5⟩
 self:=fun _ _ _ _ _ st h=>wpAny_pyIter_tupleiter st h
theorem turn_range {P:Program} {w:World} {K:PySem.W.Frag} {tg:Expr} (it:Addr) (lo:Int) (n:Nat):Turn P w K tg (Itr lo n) [it] it (fun i h=>IsRangeIter h it (lo + (i:Nat) * 1) ((n:Int) - (i:Nat)) 1) where
 mem:=by simp
 obj:=fun i h st b hb=>by
  have e:b = it:=by simpa using hb
  subst e
  exact ⟨_,st,fun v z=>by
   have z':Data.fields _ = Data.cell v:=z
   cases z'⟩
 keep:=fun i h h' st k=>k it (by simp) _ st
 item:=by
  intro X hP hw hK hc i pins s σ H E I hf st hg
  subst hP hw hK
  obtain ⟨f0,f1,f2,f3,f4,f5⟩:=hf it (by simp)
  have W:=Walks.range (prog:=X.prog) (w:=X.w) (I.ok.hd hc) it lo 1 n
  refine W.item i s _ _ hg st fun v h' tk hv st' kk=>?_
  obtain ⟨t,rfl⟩:=hv
  have I1:Inv X pins σ H { s with heap:=h',toks:=tk }:=I.turned (fun b o hb e=>kk b o (by simpa using hb) e) f0 f1 f3 f4 f5
  refine ⟨_,rfl,go_of (s:={ s with heap:=h',toks:=tk }) (n:="range_iterator") st' rfl rfl (by decide) ⟨.int (lo + i),H,I1,⟨t,?_⟩,⟨rfl,rfl⟩,st',fun b hb=>(hf b hb).1⟩⟩
  rw [Int.mul_one]
 done:=by
  intro X hP hw hK hc i pins s σ H E I hf st hg
  subst hP hw hK
  obtain ⟨f0,f1,f2,f3,f4,f5⟩:=hf it (by simp)
  exact wpAny_pyNext_range_end (I.ok.hd hc) st (by have:n <= i:=hg; omega) fun h' eb=>⟨rfl,I.turned (t':=s.toks) (fun b o hb e=>eb b o hb e) f0 f1 f3 f4 f5⟩
 self:=fun _ _ _ _ _ st h=>wpAny_pyIter_rangeiter st h
end L2
namespace L2
open PySem PySem.Spec PyProof.Rows
section
variable {X:Cx} {tg:Expr}
theorem range_it {pins:List (Addr × Obj)} {σ:St} {H:Hp} {s:Shared} {R:It -> Hp -> Prop} {E:Value -> Shared -> Prop} {lo hi:Int} {t u v:Tok} {tk:Nat} (I:Inv X pins σ H s) (h1:-(2 ^ 62) <= lo) (h2:lo < 2 ^ 62) (h3:-(2 ^ 62) <= hi) (h4:hi < 2 ^ 62)
  (q:R (Itr lo (hi - lo).toNat) H):wpAny (model X.prog X.w) X.A (pyIter (.ref s.heap.objs.size)) (PIE X pins σ tg R) E { s with heap:=s.heap.push { cls:=.type "range",data:=.fields #[.int lo t,.int hi u,.int 1 v] },toks:=tk }:=by
 refine wpAny_pyIter_range (IsRange.new ..) (small_one h1 h2 h3 h4) ?_
 have I1:Inv X pins σ H { s with heap:=s.heap.push { cls:=.type "range",data:=.fields #[.int lo t,.int hi u,.int 1 v] },toks:=tk }:=I.kept fun b o e=>Heap.get?_push_of_some _ e
 refine ⟨(s.heap.push { cls:=.type "range",data:=.fields #[.int lo t,.int hi u,.int 1 v] }).objs.size,[(s.heap.push { cls:=.type "range",data:=.fields #[.int lo t,.int hi u,.int 1 v] }).objs.size],_,_,H,rfl,
  I1.kept (t':=tk) fun b o e=>Heap.get?_push_of_some _ e,turn_range _ lo (hi - lo).toNat,?_,fun b hb=>?_,q⟩
 ·have e1:lo + ((0:Nat):Int) * 1 = lo:=by simp
  have e2:(((hi - lo).toNat:Nat):Int) - ((0:Nat):Int) = Builtin.Range.rangeSize lo hi 1:=by rw [rangeSize_one]; split <;> omega
  show IsRangeIter _ _ (lo + ((0:Nat):Int) * 1) ((((hi - lo).toNat:Nat):Int) - ((0:Nat):Int)) 1
  rw [e1,e2]
  exact Heap.get?_push_size _ rfl
 ·have e:b = (s.heap.push { cls:=.type "range",data:=.fields #[.int lo t,.int hi u,.int 1 v] }).objs.size:=by simpa using hb
  subst e
  exact I1.fpOk (Nat.le_refl _) (I1.hok.fresh (Nat.le_refl _))
def iRng1 (ta:TA):TI:=fun σ H R=>ta σ H fun vs H1=>∃ j:Int,vs = [.int j] /\ -(2 ^ 62) <= j /\ j < 2 ^ 62 /\ R (Itr 0 j.toNat) H1
theorem pi_range1 {a:Expr} {ta:TA} {p pos:Pos} (hg:Gl X "range") (hm:X.mg "range" = none) (ha:PA X [a] ta) (hs:starEach [a] X.env = [(false,eval a X.env)]:=by rfl):PI X tg (.Call (.Name "range" p) [a] [] pos) (iRng1 ta):=by
 intro pins s σ H R I h
 refine Call_ (ld_blt I hg hm boot_range (PyProof.Rows.callWith_type1 (thn (ha pos pins s σ H _ I h) fun us s1 ⟨vs,H1,I1,r1,q1⟩=>?_) hs rfl))
 obtain ⟨j,e,q1,q2,q⟩:=q1
 subst e
 cases r1 with
 | cons r rr=>
  cases rr
  obtain ⟨t,rfl⟩:=r
  exact call_range_1 (range_it I1 (by omega) (by omega) q1 q2 (by simpa using q))
def tFor (wi:TI) (g:TG) (tb:TS):TS:=fun D σ H=>wi σ H fun J H1=>∃ W:Nat -> Nat -> St -> Hp -> Prop,(∃ m,W 0 m σ H1) /\ ∀ i m σ H,W i m σ H ->
 (J.stop i H /\ D.nx σ H) \/ (J.go i H /\ ∃ N:St -> Hp -> Prop,(∀ σ' H',N σ' H' -> ∃ m',m' < m /\ W (i + 1) m' σ' H') /\ ∀ x H',J.yld i H x H' -> g x σ H' fun σ2 H2=>tb { D with nx:=N,ct:=N,bk:=D.nx } σ2 H2)
def pinsAt (fp:List Addr) (h:Heap):List (Addr × Obj):=fp.filterMap fun b=>(h.get? b).map fun o=>(b,o)
theorem mem_pinsAt {fp:List Addr} {h:Heap} {b:Addr} {o:Obj} (hb:b ∈ fp) (e:h.get? b = some o):(b,o) ∈ pinsAt fp h:=List.mem_filterMap.mpr ⟨b,hb,by rw [e]; rfl⟩
theorem of_pinsAt {fp:List Addr} {h:Heap} {p:Addr × Obj} (hp:p ∈ pinsAt fp h):p.1 ∈ fp /\ h.get? p.1 = some p.2:=by
 obtain ⟨b,hb,e⟩:=List.mem_filterMap.mp hp
 cases q:h.get? b with
 | none=>rw [q] at e; cases e
 | some o=>
  rw [q] at e
  have e':(b,o) = p:=Option.some.inj e
  subst e'
  exact ⟨hb,q⟩
theorem Inv.pinned {pins:List (Addr × Obj)} {σ:St} {H:Hp} {s:Shared} {fp:List Addr} (I:Inv X pins σ H s) (hf:∀ b ∈ fp,FpOk X pins H b) (ho:∀ b ∈ fp,∃ o,s.heap.get? b = some o /\ ∀ v,o.data ≠ .cell v):Inv X (pins ++ pinsAt fp s.heap) σ H s:=
 I.pins_of fun p hp=>(List.mem_append.mp hp).elim (fun z=>I.pin p (List.mem_append_right _ z)) fun z=>by
  obtain ⟨hb,e⟩:=of_pinsAt z
  obtain ⟨f0,f1,f2,_⟩:=hf p.1 hb
  obtain ⟨o,e',d⟩:=ho p.1 hb
  rw [e] at e'; cases e'
  exact ⟨e,f0,f1,f2,d⟩
theorem Inv.unpinned {pins pl:List (Addr × Obj)} {σ:St} {H:Hp} {s:Shared} (I:Inv X (pins ++ pl) σ H s):Inv X pins σ H s:=I.pins_of fun p hp=>I.pin p (List.mem_append_right _ (List.mem_append_left _ hp))
theorem ps_for {iter:Expr} {body:List Stmt} {wi:TI} {g:TG} {tb:TS} {pos:Pos} (hp:PassesOwn (model X.prog X.w) X.A X.env X.xe) (hc:X.calm = true) (hi:PI X tg iter wi) (hg:PG X tg g) (hb:PSs X body tb)
  (hs:∀ x,foldedSetIterable iter X.env x = pure x:=by intro _; rfl):PS X (.For tg iter body [] pos) (tFor wi g tb):=by
 intro pins s σ H D I h
 refine wpAny_For (thn (hi pins s σ H _ I h) fun v s1 h1=>thn h1 fun itv s2 h2=>?_) hs
 obtain ⟨it,fp,tn,J,H2,e,I2,T,st2,f2,W,⟨m0,w0⟩,turn⟩:=h2
 subst e
 have stat:∀ {H':Hp},(∀ b ∈ fp,H' b = none) -> ∀ b ∈ fp,FpOk X pins H' b:=fun hn b hb=>⟨hn b hb,(f2 b hb).2⟩
 refine codeAny_forLoop_any (fun n s'=>∃ i σ' H',Inv X pins σ' H' s' /\ tn i s'.heap /\ (∀ b ∈ fp,H' b = none) /\ W i n σ' H') ?_ m0 ⟨0,σ,H2,I2,st2,fun b hb=>(f2 b hb).1,w0⟩
 rintro n s3 ⟨i,σ3,H3,I3,st3,fr3,w3⟩
 rcases turn i n σ3 H3 w3 with ⟨stop,qn⟩ | ⟨go,N,hN,step⟩
 ·refine wpAny_passesOwn hp (thn (T.done X rfl rfl rfl hc i pins s3 σ3 H3 X.xe I3 (stat fr3) st3 stop) fun r s4 ⟨hr,I4⟩=>?_)
  subst hr
  exact wpAny_execs_nil ⟨σ3,H3,I4,qn⟩
 ·refine wpAny_passesOwn hp (thn (T.item X rfl rfl rfl hc i pins s3 σ3 H3 X.xe I3 (stat fr3) st3 go) fun r s4 ⟨u,hr,h4⟩=>?_)
  subst hr
  refine wpAny_passesOwn hp (thn h4 fun _ s5 ⟨x,H5,I5,r5,y5,st5,fr5⟩=>?_)
  have I5':=I5.pinned (stat fr5) (T.obj _ _ st5)
  refine wpAny_passesOwn hp (thn (hg _ s5 σ3 H5 x u _ I5' r5 (step x H5 y5)) fun _ s6 ⟨σ6,H6,I6,q6⟩=>?_)
  refine wpAny_passesOwn hp (thn (hb _ s6 σ6 H6 _ I6 q6) fun f s7 q7=>?_)
  have again:∀ {σ7:St} {H7:Hp},Inv X (pins ++ pinsAt fp s5.heap) σ7 H7 s7 -> N σ7 H7 -> ∃ m,m < n /\ ∃ i σ' H',Inv X pins σ' H' s7 /\ tn i s7.heap /\ (∀ b ∈ fp,H' b = none) /\ W i m σ' H':=fun {σ7 H7} I7 n7=>by
   obtain ⟨m',hm,w7⟩:=hN σ7 H7 n7
   refine ⟨m',hm,i + 1,σ7,H7,I7.unpinned,T.keep _ _ _ st5 fun b hb o e=>(I7.pin (b,o) (List.mem_append_right _ (List.mem_append_right _ (mem_pinsAt hb e)))).1,fun b hb=>?_,w7⟩
   obtain ⟨o,e,d⟩:=T.obj _ _ st5 b hb
   exact (I7.pin (b,o) (List.mem_append_right _ (List.mem_append_right _ (mem_pinsAt hb e)))).2.1
  cases f with
  | next=>obtain ⟨σ7,H7,I7,n7⟩:=q7; exact again I7 n7
  | cont=>obtain ⟨σ7,H7,I7,n7⟩:=q7; exact again I7 n7
  | brk=>obtain ⟨σ7,H7,I7,q7⟩:=q7; exact ⟨σ7,H7,I7.unpinned,q7⟩
  | ret v=>obtain ⟨x7,σ7,H7,I7,r7,q7⟩:=q7; exact ⟨x7,σ7,H7,I7.unpinned,r7,q7⟩
end
end L2
namespace L2
open PySem PySem.Spec PyProof.Rows
abbrev R2:=V -> V -> Hp -> VK -> Prop
def OpR (X:Cx) (f:Value -> Value -> Sem Value) (r:R2):Prop:=
 ∀ (pins:List (Addr × Obj)) (s:Shared) (σ:St) (H:Hp) (x y:V) (v u:Value) (Q:VK),Inv X pins σ H s -> RelV x v -> RelV y u -> r x y H Q ->
  wpAny (model X.prog X.w) X.A (f v u) (EP X pins σ Q) X.xe s
def UnR (X:Cx) (f:Value -> Sem Value) (r:V -> Hp -> VK -> Prop):Prop:=
 ∀ (pins:List (Addr × Obj)) (s:Shared) (σ:St) (H:Hp) (x:V) (v:Value) (Q:VK),Inv X pins σ H s -> RelV x v -> r x H Q ->
  wpAny (model X.prog X.w) X.A (f v) (EP X pins σ Q) X.xe s
def CallR (X:Cx) (f:Value) (r:List V -> Hp -> VK -> Prop):Prop:=
 ∀ (pins:List (Addr × Obj)) (s:Shared) (σ:St) (H:Hp) (xs:List V) (us:List Value) (Q:VK),Inv X pins σ H s -> Vals xs us -> r xs H Q ->
  wpAny (model X.prog X.w) X.A (call f us) (EP X pins σ Q) X.xe s
def TruR (X:Cx) (r:V -> Hp -> (Bool -> Hp -> Prop) -> Prop):Prop:=
 ∀ (pins:List (Addr × Obj)) (s:Shared) (σ:St) (H:Hp) (x:V) (v:Value) (Q:Bool -> Hp -> Prop),Inv X pins σ H s -> RelV x v -> r x H Q ->
  wpAny (model X.prog X.w) X.A (truthy v) (TP X pins σ Q) X.xe s
def tOp (r:R2) (ta tb:TE):TE:=fun σ H Q=>ta σ H fun x H1=>tb σ H1 fun y H2=>r x y H2 Q
def tUn (r:V -> Hp -> VK -> Prop) (ta:TE):TE:=fun σ H Q=>ta σ H fun x H1=>r x H1 Q
def rI (C:Int -> Int -> Prop) (g:Int -> Int -> V):R2:=fun x y H Q=>∃ i j,x = .int i /\ y = .int j /\ C i j /\ Q (g i j) H
def rI0 (g:Int -> Int -> V):R2:=fun x y H Q=>∃ i j,x = .int i /\ y = .int j /\ Q (g i j) H
def rU (g:Int -> V):V -> Hp -> VK -> Prop:=fun x H Q=>∃ i,x = .int i /\ Q (g i) H
section
variable {X:Cx} {a b c:Expr} {ta tb tc:TE} {pos:Pos}
theorem binT (ha:PE X a ta) (hb:PE X b tb) {pins:List (Addr × Obj)} {s:Shared} {σ:St} {H:Hp} {R:V -> V -> Hp -> Prop} (I:Inv X pins σ H s)
  (h:ta σ H fun x H1=>tb σ H1 fun y H2=>R x y H2) {Q:Value -> Shared -> Prop} {f:Value -> Value -> Sem Value}
  (hf:∀ v u s2 x y H2,Inv X pins σ H2 s2 -> RelV x v -> RelV y u -> R x y H2 -> wpAny (model X.prog X.w) X.A (f v u) Q X.xe s2) :
  wpAny (model X.prog X.w) X.A (eval a X.env) (fun v s₁=>wpAny (model X.prog X.w) X.A (eval b X.env) (fun u s₂=>wpAny (model X.prog X.w) X.A (f v u) Q X.xe s₂) X.xe s₁) X.xe s:=by
 refine thn (ha pins s σ H _ I h) fun v s1 ⟨x,H1,I1,r1,q1⟩=>?_
 refine thn (hb pins s1 σ H1 _ I1 q1) fun u s2 ⟨y,H2,I2,r2,q2⟩=>?_
 exact hf v u s2 x y H2 I2 r1 r2 q2
theorem pe_op {op:Operator} {r:R2} (ho:OpR X (binaryOp op) r) (ha:PE X a ta) (hb:PE X b tb):PE X (.BinOp a op b pos) (tOp r ta tb):=by
 intro pins s σ H Q I h
 exact wpAny_BinOp (binT ha hb I h fun v u s2 x y H2 I2 rx ry q=>ho pins s2 σ H2 x y v u Q I2 rx ry q)
theorem pe_un {op:UnaryOp} {r:V -> Hp -> VK -> Prop} (ho:UnR X (unaryOp op) r) (ha:PE X a ta):PE X (.UnaryOp op a pos) (tUn r ta):=by
 intro pins s σ H Q I h
 exact UnaryOp_ (thn (ha pins s σ H _ I h) fun v s1 ⟨x,H1,I1,r1,q1⟩=>ho pins s1 σ H1 x v Q I1 r1 q1)
theorem opI {f:Value -> Value -> Sem Value} {C:Int -> Int -> Prop} {g:Int -> Int -> Int}
  (rule:∀ (i j:Int) (t u:Tok) (s:Shared) (Q:Value -> Shared -> Prop) (E:Value -> Shared -> Prop),C i j -> Q (.int (g i j) s.toks) { s with toks:=s.toks + 1 } -> wpAny (model X.prog X.w) X.A (f (.int i t) (.int j u)) Q E s) :
  OpR X f (rI C fun i j=>.int (g i j)):=by
 intro pins s σ H x y v u Q I rx ry h
 obtain ⟨i,j,rfl,rfl,hc,q⟩:=h
 obtain ⟨t,rfl⟩:=rx
 obtain ⟨t',rfl⟩:=ry
 exact rule i j t t' s _ _ hc ⟨.int (g i j),H,I.tok _,⟨_,rfl⟩,q⟩
theorem opI0 {f:Value -> Value -> Sem Value} {g:Int -> Int -> Int}
  (rule:∀ (i j:Int) (t u:Tok) (s:Shared) (Q:Value -> Shared -> Prop) (E:Value -> Shared -> Prop),Q (.int (g i j) s.toks) { s with toks:=s.toks + 1 } -> wpAny (model X.prog X.w) X.A (f (.int i t) (.int j u)) Q E s) :
  OpR X f (rI0 fun i j=>.int (g i j)):=by
 intro pins s σ H x y v u Q I rx ry h
 obtain ⟨i,j,rfl,rfl,q⟩:=h
 obtain ⟨t,rfl⟩:=rx
 obtain ⟨t',rfl⟩:=ry
 exact rule i j t t' s _ _ ⟨.int (g i j),H,I.tok _,⟨_,rfl⟩,q⟩
theorem opB0 {f:Value -> Value -> Sem Value} {g:Int -> Int -> Bool}
  (rule:∀ (i j:Int) (t u:Tok) (s:Shared) (Q:Value -> Shared -> Prop) (E:Value -> Shared -> Prop),Q (.bool (g i j)) s -> wpAny (model X.prog X.w) X.A (f (.int i t) (.int j u)) Q E s) :
  OpR X f (rI0 fun i j=>.bl (g i j)):=by
 intro pins s σ H x y v u Q I rx ry h
 obtain ⟨i,j,rfl,rfl,q⟩:=h
 obtain ⟨t,rfl⟩:=rx
 obtain ⟨t',rfl⟩:=ry
 exact rule i j t t' s _ _ ⟨.bl (g i j),H,I,rfl,q⟩
def CDiv (i j:Int):Prop:=0 < j /\ j < 1073741824
def CMul (i j:Int):Prop:=(-(2 ^ 64) < i /\ i < 2 ^ 64) \/ (-(2 ^ 64) < j /\ j < 2 ^ 64)
theorem CMul.ok {i j:Int} (h:CMul i j):IntMulOk i j:=by
 rcases h with ⟨h1,h2⟩ | ⟨h1,h2⟩
 ·exact .of_left (intBits_le_64 h1 h2)
 ·exact .of_right (intBits_le_64 h1 h2)
theorem op_add:OpR X (binaryOp .Add) (rI0 fun i j=>.int (i + j)):=opI0 fun _ _ _ _ _ _ _ q=>add_int q
theorem op_sub:OpR X (binaryOp .Sub) (rI0 fun i j=>.int (i - j)):=opI0 fun _ _ _ _ _ _ _ q=>sub_int q
theorem op_mul:OpR X (binaryOp .Mult) (rI CMul fun i j=>.int (i * j)):=opI fun _ _ _ _ _ _ _ hc q=>mul_int q hc.ok
theorem op_fdiv:OpR X (binaryOp .FloorDiv) (rI CDiv fun i j=>.int (i / j)):=opI fun i j _ _ _ _ _ hc q=>by
 have h1:(0:Int) < j:=hc.1
 have h2:j < 1073741824:=hc.2
 exact floordiv_int (by omega) (by rw [Int.fdiv_eq_ediv_of_nonneg i (by omega)]; exact q) (.inl (PyProof.noPylong_small (by omega)))
theorem op_mod:OpR X (binaryOp .Mod) (rI (fun _ j=>0 < j) fun i j=>.int (i % j)):=opI fun i j _ _ _ _ _ hc q=>by
 have h1:(0:Int) < j:=hc
 exact mod_int' (by omega) (by rw [Int.fmod_eq_emod_of_nonneg i (by omega)]; exact q)
theorem unI {f:Value -> Sem Value} {g:Int -> Int}
  (rule:∀ (i:Int) (t:Tok) (s:Shared) (Q:Value -> Shared -> Prop) (E:Value -> Shared -> Prop),Q (.int (g i) s.toks) { s with toks:=s.toks + 1 } -> wpAny (model X.prog X.w) X.A (f (.int i t)) Q E s) :
  UnR X f (rU fun i=>.int (g i)):=by
 intro pins s σ H x v Q I rx h
 obtain ⟨i,rfl,q⟩:=h
 obtain ⟨t,rfl⟩:=rx
 exact rule i t s _ _ ⟨.int (g i),H,I.tok _,⟨_,rfl⟩,q⟩
theorem un_neg:UnR X (unaryOp .USub) (rU fun i=>.int (-i)):=unI fun _ _ _ _ _ q=>neg_int q
end
section
variable {X:Cx} {a b c:Expr} {ta tb tc:TE} {pos:Pos}
theorem fin_bl {pins:List (Addr × Obj)} {σ:St} {H:Hp} {s:Shared} {Q:VK} {k k':Bool} (I:Inv X pins σ H s) (q:Q (.bl k) H) (e:k = k'):EP X pins σ Q (.bool k') s:=by
 subst e
 exact ⟨.bl k,H,I,rfl,q⟩
theorem op_lt:OpR X (compareOp .Lt) (rI0 fun i j=>.bl (decide (i < j))):=opB0 fun _ _ _ _ _ _ _ q=>lt_int q
theorem op_le:OpR X (compareOp .LtE) (rI0 fun i j=>.bl (decide (i <= j))):=opB0 fun _ _ _ _ _ _ _ q=>le_int q
theorem op_gt:OpR X (compareOp .Gt) (rI0 fun i j=>.bl (decide (j < i))):=opB0 fun _ _ _ _ _ _ _ q=>gt_int q
theorem op_ge:OpR X (compareOp .GtE) (rI0 fun i j=>.bl (decide (j <= i))):=opB0 fun _ _ _ _ _ _ _ q=>ge_int q
theorem op_lt_str:OpR X (compareOp .Lt) (fun x y H Q=>∃ i j,x = .str i /\ y = .str j /\ Q (.bl (decide (i.cps.toList < j.cps.toList))) H):=by
 intro pins s σ H x y v u Q I rx ry h
 obtain ⟨i,j,rfl,rfl,q⟩:=h
 obtain ⟨t,rfl⟩:=rx
 obtain ⟨t',rfl⟩:=ry
 exact lt_str (fin_bl I q rfl)
theorem op_in_str:OpR X (compareOp .In) (fun x y H Q=>∃ i j,x = .str i /\ y = .str j /\ Q (.bl (!(Builtin.Str.occurrences j i 0 j.length 1).isEmpty)) H):=by
 intro pins s σ H x y v u Q I rx ry h
 obtain ⟨i,j,rfl,rfl,q⟩:=h
 obtain ⟨t,rfl⟩:=rx
 obtain ⟨t',rfl⟩:=ry
 exact in_str (fin_bl I q rfl)
theorem op_notin_str:OpR X (compareOp .NotIn) (fun x y H Q=>∃ i j,x = .str i /\ y = .str j /\ Q (.bl (!(!(Builtin.Str.occurrences j i 0 j.length 1).isEmpty))) H):=by
 intro pins s σ H x y v u Q I rx ry h
 obtain ⟨i,j,rfl,rfl,q⟩:=h
 obtain ⟨t,rfl⟩:=rx
 obtain ⟨t',rfl⟩:=ry
 exact notIn_str (fin_bl I q rfl)
theorem nomark (b:Expr) {op:CmpOp} (h:op ≠ .In:=by decide) (h2:op ≠ .NotIn:=by decide):behindInMarks op b = false:=by
 have e1:(op == CmpOp.In) = false:=by cases op <;> first | rfl | exact absurd rfl h
 have e2:(op == CmpOp.NotIn) = false:=by cases op <;> first | rfl | exact absurd rfl h2
 cases b <;> simp [behindInMarks,e1,e2]
theorem pe_cmpR {op:CmpOp} {r:R2} (ho:OpR X (compareOp op) r) (ha:PE X a ta) (hb:PE X b tb) (hm:behindInMarks op b = false):PE X (.Compare a [op] [b] pos) (tOp r ta tb):=by
 intro pins s σ H Q I h
 exact wpAny_Compare1 (binT ha hb I h fun v u s2 x y H2 I2 rx ry q=>ho pins s2 σ H2 x y v u Q I2 rx ry q) hm
def tTest (t:TE):TT:=fun σ H Q=>t σ H fun x H'=>∃ k,x = .bl k /\ Q k H'
theorem pt_cmpR {op:CmpOp} {r:R2} (ho:OpR X (compareOp op) r) (ha:PE X a ta) (hb:PE X b tb) (hm:behindInMarks op b = false):PT X (.Compare a [op] [b] pos) (tTest (tOp r ta tb)):=by
 intro pins s σ H Q I h
 refine wpAny_isTrue_Compare1 (thn (ha pins s σ H _ I h) fun v s1 ⟨x,H1,I1,r1,q1⟩=>thn (hb pins s1 σ H1 _ I1 q1) fun u s2 ⟨y,H2,I2,r2,q2⟩=>
  thn (ho pins s2 σ H2 x y v u _ I2 r1 r2 q2) fun c s3 ⟨z,H3,I3,r3,k,e,q3⟩=>?_) hm
 subst e
 cases r3
 exact wpAny_truthy_bool ⟨H3,I3,q3⟩
def TruV (K:PySem.W.Frag) (x:V) (H:Hp) (k:Bool):Prop:=
 match x with
 | .non=>k = false
 | .bl b=>k = b
 | .int i=>k = (i != 0)
 | .str y=>y.length <= sizeLine /\ k = ((y.length:Int) != 0)
 | .byt y=>y.size <= sizeLine /\ k = ((y.size:Int) != 0)
 | .ref p=>(∃ xs,SqL K H p xs /\ k = !xs.isEmpty) \/ (∃ xs,SqT K H p xs /\ k = !xs.isEmpty) \/ ∃ kvs,H p = some (.dK kvs) /\ k = !kvs.isEmpty
 | _=>False
theorem isEmpty_kv {κ:Type} {kvs:List (κ × V)} {vs:List (κ × Value)} (r:KV kvs vs):(!vs.isEmpty) = !kvs.isEmpty:=by
 cases r <;> rfl
theorem isEmpty_of {xs:List V} {its:List Value} (r:Vals xs its):(!its.toArray.isEmpty) = !xs.isEmpty:=by
 cases r <;> simp
theorem line63:(sizeLine:Nat) < 2 ^ 63:=by rw [sizeLine_eq]; decide
theorem tru_ok:TruR X (fun x H Q=>∃ k,TruV X.K x H k /\ Q k H):=by
 intro pins s σ H x v Q I rx h
 obtain ⟨k,e,q⟩:=h
 have hl:=line63
 have hs:sizeLine = 16777216:=sizeLine_eq
 cases x with
 | non=>
  cases rx
  have e':k = false:=e
  subst e'
  exact truthy_none ⟨H,I,q⟩
 | bl b=>
  cases rx
  have e':k = b:=e
  subst e'
  exact wpAny_truthy_bool ⟨H,I,q⟩
 | int i=>
  obtain ⟨t,rfl⟩:=rx
  have e':k = (i != 0):=e
  subst e'
  exact PySem.P.truthy_int ⟨H,I,q⟩
 | str y=>
  obtain ⟨t,rfl⟩:=rx
  obtain ⟨hy,e'⟩:y.length <= sizeLine /\ k = ((y.length:Int) != 0):=e
  subst e'
  exact PySem.P.truthy_str (by omega) ⟨H,I.tok _,q⟩
 | byt y=>
  obtain ⟨t,rfl⟩:=rx
  obtain ⟨hy,e'⟩:y.size <= sizeLine /\ k = ((y.size:Int) != 0):=e
  subst e'
  exact PySem.W.truthy_bytes (by omega) ⟨H,I.tok _,q⟩
 | ref p=>
  cases rx
  have e':(∃ xs,SqL X.K H p xs /\ k = !xs.isEmpty) \/ (∃ xs,SqT X.K H p xs /\ k = !xs.isEmpty) \/ ∃ kvs,H p = some (.dK kvs) /\ k = !kvs.isEmpty:=e
  rcases e' with ⟨xs,hx,e'⟩ | ⟨xs,hx,e'⟩ | ⟨kvs,hx,e'⟩
  ·subst e'
   obtain ⟨its,r,pl,hz⟩:=I.list hx
   have hlen:=r.length
   exact wpAny_truthy_list pl.isList (by simp only [List.size_toArray]; omega) ⟨H,I.tok _,by rw [isEmpty_of r]; exact q⟩
  ·subst e'
   obtain ⟨its,r,pl,hz⟩:=I.tuple hx
   have hlen:=r.length
   exact truthy_tuple pl (by simp only [List.size_toArray]; omega) ⟨H,I.tok _,by rw [isEmpty_of r]; exact q⟩
  ·subst e'
   obtain ⟨hz,hS,vs,r,m⟩:kvs.length <= sizeLine /\ (p == sysModules) = false /\ ∃ vs,KV kvs vs /\ s.heap.DictOf (mixKind X.prog X.w) p vs:=I.hok p _ hx
   have hlen:kvs.length = vs.length:=Paired.length r
   exact wpAny_truthy_dict hS m (by omega) ⟨H,I.tok _,by rw [isEmpty_kv r]; exact q⟩
 | _=>exact (show False from e).elim
theorem pt_truth (ha:PE X a ta) (he:∀ whole,isTrue a X.env whole = (do let v <- whole; standAt a.pos; holding [v] (truthy v))) :
  PT X a (fun σ H Q=>ta σ H fun x H'=>∃ k,TruV X.K x H' k /\ Q k H'):=by
 intro pins s σ H Q I h
 exact isTrue_plain (thn (ha pins s σ H _ I h) fun v s1 ⟨x,H1,I1,r1,q1⟩=>tru_ok pins s1 σ H1 x v Q I1 r1 q1) (he _)
theorem op_add_str:OpR X (binaryOp .Add) (fun x y H Q=>∃ i j,x = .str i /\ y = .str j /\ i.length + j.length <= sizeLine /\ Q (.str (i ++ j)) H):=by
 intro pins s σ H x y v u Q I rx ry h
 obtain ⟨i,j,rfl,rfl,hz,q⟩:=h
 obtain ⟨t,rfl⟩:=rx
 obtain ⟨t',rfl⟩:=ry
 exact add_str (fun t' tk=>⟨.str (i ++ j),H,I.tok _,⟨_,rfl⟩,q⟩) hz
theorem vals1 {x:V} {us:List Value} (r:Vals [x] us):∃ u,us = [u] /\ RelV x u:=by
 cases r with
 | cons r1 r2=>cases r2; exact ⟨_,rfl,r1⟩
theorem vals2 {x y:V} {us:List Value} (r:Vals [x,y] us):∃ u w',us = [u,w'] /\ RelV x u /\ RelV y w':=by
 cases r with
 | cons r1 r2=>
  cases r2 with
  | cons r3 r4=>cases r4; exact ⟨_,_,rfl,r1,r3⟩
end
end L2
namespace L2
open PySem PySem.Spec PyProof.Rows
section
variable {prog:Program} {w:World} {A:Around} {E:Value -> Shared -> Prop} {s:Shared} {K:PySem.W.Frag} {x dx C f:Addr} {mA:Str -> Option Value} {name:Str} {v:Value}
end
theorem RelO.some_of {v:V} {o:Option Value} (r:RelO (some v) o):∃ u,o = some u /\ RelV v u:=by
 cases o with
 | none=>exact (show False from r).elim
 | some u=>exact ⟨u,rfl,r⟩
section
variable {P:Program} {w:World} {H H':Hp} {h h':Heap} {a C dx:Addr} {fs fs':List (Str × V)}
end
structure Cls (K:PySem.W.Frag) (C:Addr):Prop where
 pg:PySem.W.plainGet K C Str.empty = true
 hd:PySem.W.hasDictIn K C = true
 po:PySem.W.plainOver K C = true
 sa:PySem.W.findIn K (.ref C) "__setattr__" = some (some (.builtin "object.__setattr__"))
theorem Cls.get {K:PySem.W.Frag} {C:Addr} (c:Cls K C) (f:Str):PySem.W.plainGet K C f = true:=c.pg
section
variable {X:Cx} {pins:List (Addr × Obj)} {σ:St} {H:Hp} {s:Shared} {a C dx:Addr} {fs:List (Str × V)} {f:Str} {v:V} {A:Around} {E:Value -> Shared -> Prop}
end
section
variable {X:Cx} {o e value:Expr} {f:Str} {pos pos' tpos:Pos} {ta tv:TE}
end
section
variable {X:Cx} {pins:List (Addr × Obj)} {σ:St} {H:Hp} {s:Shared} {A:Around} {E:Value -> Shared -> Prop} {Q:Value -> Shared -> Prop} {c:Value} {b:Bool}
end
end L2
namespace L2
open PySem PySem.Spec PyProof.Rows
structure Room (k:Nat) (A:Around):Prop where
 hd:A.handled = none
 dp:A.depth + 3 * k + 5 < recursionLimit
 un:A.units + 16 * k + 200 < cLine
theorem Room.deeper {k:Nat} {A:Around} (r:Room (k + 1) A) (env:Env):Room k (A.deeper env):=
 ⟨r.hd,by have:=r.dp; show A.depth + 1 + 3 * k + 5 < _; omega,by have:=r.un; show A.units + 3 + 16 * k + 200 < _; omega⟩
theorem Room.in1 {k:Nat} {A:Around} (r:Room (k + 1) A):Room k A.in1:=
 ⟨r.hd,by have:=r.dp; show A.depth + 3 * k + 5 < _; omega,by have:=r.un; show A.units + 1 + 16 * k + 200 < _; omega⟩
theorem Room.depth {k:Nat} {A:Around} (r:Room k A):A.depth < recursionLimit:=by have:=r.dp; omega
theorem Room.units {k:Nat} {A:Around} (r:Room k A):A.units + 64 < cLine:=by have:=r.un; omega
def tNil:TA:=fun _ H Q=>Q [] H
def tCons (ta:TE) (tr:TA):TA:=fun σ H Q=>ta σ H fun x H1=>tr σ H1 fun xs H2=>Q (x :: xs) H2
section
variable {X:Cx} {e:Expr} {es:List Expr} {te:TE} {t:TA} {pos:Pos}
theorem pa_nil:PA X [] tNil:=fun _ _ _ _ H Q I h=>Calls.spliced_nil ⟨[],H,I,.nil,h⟩
theorem pa_cons (ha:PE X e te) (hr:PA X es t) (hs:starEach (e :: es) X.env = (false,eval e X.env) :: starEach es X.env:=by rfl):PA X (e :: es) (tCons te t):=by
 intro pos pins s σ H Q I h
 rw [hs]
 show wpAny _ _ (spliced ((false,eval e X.env) :: backTo pos (starEach es X.env))) _ _ s
 refine Calls.spliced_cons (thn (ha pins s σ H _ I h) fun u s1 ⟨x,H1,I1,r1,q1⟩=>?_)
 exact thn (hr pos pins s1 σ H1 _ I1 q1) fun us s2 ⟨xs,H2,I2,r2,q2⟩=>⟨x :: xs,H2,I2,.cons r1 r2,q2⟩
def tTup (t:TA):TE:=fun σ H Q=>t σ H fun xs H1=>xs.length <= sizeLine /\ ∀ p,H1 p = none -> Q (.ref p) (upd H1 p (.tup xs))
def tLst (t:TA):TE:=fun σ H Q=>t σ H fun xs H1=>xs.length <= sizeLine /\ ∀ p,H1 p = none -> Q (.ref p) (upd H1 p (.lst xs))
theorem pe_tup {x1} (h:PA X es t):PE X (.Tuple es x1 pos) (tTup t):=by
 intro pins s σ H Q I hq
 refine wpAny_Tuple_spliced (thn (h pos pins s σ H _ I hq) fun us s1 ⟨xs,H1,I1,r,z,q⟩=>⟨by rw [<- r.length]; exact z,?_⟩)
 have hf:H1 s1.heap.objs.size = none:=I1.hok.fresh (Nat.le_refl _)
 refine ⟨.ref s1.heap.objs.size,upd H1 s1.heap.objs.size (.tup xs),I1.laid (t':=s1.toks) (fun b u e=>Heap.get?_push_of_some _ e) (Nat.le_refl _) ?_,rfl,q _ hf⟩
 exact ⟨⟨z,nodict⟩,us,r,⟨_,Heap.get?_push_size _ rfl,rfl,_,rfl⟩⟩
theorem pe_lst (h:PA X es t):PE X (.List es pos) (tLst t):=by
 intro pins s σ H Q I hq
 refine wpAny_List_spliced (thn (h pos pins s σ H _ I hq) fun us s1 ⟨xs,H1,I1,r,z,q⟩=>⟨by rw [<- r.length]; exact z,?_⟩)
 have hf:H1 s1.heap.objs.size = none:=I1.hok.fresh (Nat.le_refl _)
 refine ⟨.ref s1.heap.objs.size,upd H1 s1.heap.objs.size (.lst xs),I1.laid (t':=s1.toks) (fun b u e=>Heap.get?_push_of_some _ e) (Nat.le_refl _) ?_,rfl,q _ hf⟩
 exact ⟨z,us,0,r,Heap.get?_push_size _ rfl⟩
end
abbrev Sp:=List V -> Hp -> VK -> XK -> Prop
abbrev CXT:=List Env -> Hp -> Shared -> XK -> Value -> Shared -> Prop
structure Env0 (P:Program) (w:World) (K:PySem.W.Frag) (mg:Str -> Option Value) (base:Heap) (A:Around) (outer:List Env) (s:Shared) (H:Hp):Prop where
 frames:A.frames = some outer
 mod:Mod K mg base
 bs:∀ b o,base.get? b = some o -> s.heap.get? b = some o /\ H b = none
 bsz:base.objs.size <= s.heap.objs.size
 funs:s.heap.FunFrames base outer
 frf:∀ b ∈ frs outer,H b = none
 hok:HOk P w H s.heap
 bare:AllBare s.gens
def CE (outer:List Env) (P:Program) (w:World) (H:Hp) (s:Shared) (Q:VK) (u:Value) (s':Shared):Prop:=
 ∃ v H',s'.os = s.os /\ AllBare s'.gens /\ Un (frs outer) [] H H' s.heap s'.heap /\ HOk P w H' s'.heap /\ RelV v u /\ Q v H'
def CR (CX:CXT) (outer:List Env) (P:Program) (w:World) (H:Hp) (s:Shared) (Q:VK) (E:XK) (r:Result) (s':Shared):Prop:=
 match r with
 | .ok (.ret u)=>CE outer P w H s Q u s'
 | .ok _=>False
 | .error e=>CX outer H s E e s'
structure FnOk (P:Program) (w:World) (K:PySem.W.Frag) (mg:Str -> Option Value) (base:Heap) (CX:CXT) (k:Nat) (f:Addr) (fd:FuncData) (ps:List Str) (sp:Sp):Prop where
 len:∀ vs H Q E,sp vs H Q E -> vs.length = ps.length
 run:∀ (A:Around) (outer:List Env) (s:Shared) (H:Hp) (args:Args) (us:List Value) (vs:List V) (Q:VK) (E:XK),Room k A -> Env0 P w K mg base A outer s H -> BindsTo s fd args (ps.zip us) -> Vals vs us -> sp vs H Q E ->
  codeAny (model P w) A (.call (.ref f) args) (CR CX outer P w H s Q E) s
theorem FnOk.imp {P:Program} {w:World} {K:PySem.W.Frag} {mg:Str -> Option Value} {base:Heap} {CX:CXT} {k:Nat} {f:Addr} {fd:FuncData} {ps:List Str} {sp sp':Sp} (F:FnOk P w K mg base CX k f fd ps sp)
  (h:∀ vs H Q E,sp' vs H Q E -> sp vs H Q E):FnOk P w K mg base CX k f fd ps sp':=
 ⟨fun vs H Q E q=>F.len vs H Q E (h _ _ _ _ q),fun A outer s H args us vs Q E hr he hb hv hs=>F.run A outer s H args us vs Q E hr he hb hv (h _ _ _ _ hs)⟩
section
variable {X:Cx} {pins:List (Addr × Obj)} {σ:St} {H:Hp} {s s':Shared}
theorem Inv.env0 (I:Inv X pins σ H s):Env0 X.prog X.w X.K X.mg X.base X.A X.stack s H:=
 ⟨I.ok.frames,I.ok.mod,I.bs,Nat.le_trans I.ok.bsz I.sz,I.stack,I.stkFree,I.hok,I.bare⟩
theorem Inv.after {Q:VK} {u:Value} (I:Inv X pins σ H s) (h:CE X.stack X.prog X.w H s Q u s'):EP X pins σ Q u s':=by
 obtain ⟨v,H',os,bare,un,hok,r,q⟩:=h
 obtain ⟨hh,g,d,t,os'⟩:=s'
 obtain rfl:os' = s.os:=os
 exact ⟨v,H',I.call (h':=hh) (g':=g) (d':=d) (t':=t) (ch:=[]) un hok bare (fun b z=>absurd z (by simp)),r,q⟩
end
def tCall (sp:Sp) (dvs:List V) (E:XK) (t:TA):TE:=fun σ H Q=>t σ H fun vs H1=>sp (vs ++ dvs) H1 Q E
def Binds (K:PySem.W.Frag) (fd:FuncData) (ps:List Str) (ds:List Value):Prop:=
 ∀ (s:Shared) (us:List Value),K.In s.heap -> (us ++ ds).length = ps.length -> BindsTo s fd ⟨us,[]⟩ (ps.zip (us ++ ds))
theorem Binds.all {K:PySem.W.Frag} {fd:FuncData} {ps:List Str} (h:∀ us:List Value,us.length = ps.length -> bindArgs fd ⟨us,[]⟩ = pure (ps.zip us)):Binds K fd ps []:=fun s us _ hl=>by
 rw [List.append_nil] at hl ⊢
 exact .of_eq (h us hl)
def Passes (CX:CXT) (X:Cx) (E:XK):Prop:=∀ (pins:List (Addr × Obj)) (σ:St) (H:Hp) (s:Shared) (e:Value) (s':Shared),Inv X pins σ H s -> CX X.stack H s E e s' -> X.xe e s'
section
variable {X:Cx} {CX:CXT} {k:Nat} {f C:Addr} {fd:FuncData} {ps:List Str} {sp:Sp} {dvs:List V} {ds:List Value} {E:XK} {x m:Str} {p pos apos:Pos} {e o:Expr} {es:List Expr} {ta:TE} {t:TA}
theorem run_fn {pins:List (Addr × Obj)} {σ:St} {H:Hp} {s:Shared} {Q:VK} {us:List Value} {vs:List V} (F:FnOk X.prog X.w X.K X.mg X.base CX k f fd ps sp) (hr:Room k X.A) (hb:Binds X.K fd ps ds) (hd:Vals dvs ds) (hx:Passes CX X E)
  (I:Inv X pins σ H s) (r:Vals vs us) (h:sp (vs ++ dvs) H Q E):wpAny (model X.prog X.w) X.A (call (.ref f) us) (EP X pins σ Q) X.xe s:=by
 have r2:Vals (vs ++ dvs) (us ++ ds):=r.append hd
 have hl:(us ++ ds).length = ps.length:=by rw [<- r2.length]; exact F.len _ _ _ _ h
 refine wpAny_call (codeAny_mono (F.run X.A X.stack s H ⟨us,[]⟩ (us ++ ds) (vs ++ dvs) Q E hr I.env0 (hb s us I.kIn hl) r2 h) fun r s' hq=>?_)
 cases r with
 | error e=>exact hx pins σ H s e s' I hq
 | ok fl=>
  cases fl with
  | ret u=>exact I.after hq
  | next=>exact False.elim hq
  | brk=>exact False.elim hq
  | cont=>exact False.elim hq
theorem pe_call (F:FnOk X.prog X.w X.K X.mg X.base CX k f fd ps sp) (hr:Room k X.A) (hg:Gl X x) (hm:X.mg x = some (.ref f)) (hk:PySem.W.keepIn X.K (.ref f) = true) (hb:Binds X.K fd ps ds) (hd:Vals dvs ds) (hx:Passes CX X E)
  (ha:PA X (e :: es) t) (hdb:(x == ("__debug__" : Str)) = false:=by decide) (he:starEach (e :: es) X.env = (false,eval e X.env) :: starEach es X.env:=by rfl) (hpl:(backTo pos (starEach es X.env)).any (·.1) = false:=by rfl) :
  PE X (.Call (.Name x p) (e :: es) [] pos) (tCall sp dvs E t):=by
 intro pins s σ H Q I h
 refine wpAny_Call_Name_kw (ld_glob I hg hm ?_ hdb)
 refine PySem.W.callWith_K (h₀:=X.base) I.ok.mod.kin hk (thn (ha pos pins s σ H _ I h) fun us s1 ⟨vs,H1,I1,r,q⟩=>⟨I1.kIn,?_⟩) he hpl
 exact run_fn F hr hb hd hx I1 r q
end
section
variable {X:Cx} {CX:CXT} {k:Nat} {f C:Addr} {fd:FuncData} {ps ks:List Str} {sp:Sp} {E:XK} {x m:Str} {p pos apos kpos:Pos} {e o:Expr} {es:List Expr} {kws:List Keyword} {te ta:TE} {t tk:TA} {nm:Option Str}
variable {g:List Value -> List Value -> List Value} {gV:List V -> List V -> List V}
end
structure FnScope (N P:List Str) (sc:Scope):Prop where
 kind:sc.kind = .function
 co:sc.isCoroutine = false
 gen:sc.isGenerator = false
 nd:N.Nodup
 pre:N.take P.length = P
 par:∀ x ∈ P,sc.names.lookup x = some .local \/ sc.names.lookup x = some .cell
 nofree:∀ y ∈ sc.names,y.2 ≠ .free
theorem bindL_out {kindOf:Str -> Option NameKind} {x:Str}:∀ {binds:List (Str × Value)} {m:Str -> Option Value},(∀ v,(x,v) ∉ binds) -> bindL kindOf binds m x = m x
 | [],_,_=>rfl
 | (n,v) :: r,m,h=>by
  unfold bindL
  rw [bindL_out fun w hw=>h w (List.mem_cons_of_mem _ hw)]
  split
  ·have:x ≠ n:=by rintro rfl; exact h v List.mem_cons_self
   simp [this]
  ·rfl
theorem bindC_out {kindOf:Str -> Option NameKind} {x:Str}:∀ {binds:List (Str × Value)} {m:Str -> Option Value},(∀ v,(x,v) ∉ binds) -> bindC kindOf binds m x = m x
 | [],_,_=>rfl
 | (n,v) :: r,m,h=>by
  unfold bindC
  rw [bindC_out fun w hw=>h w (List.mem_cons_of_mem _ hw)]
  split
  ·rfl
  ·have:x ≠ n:=by rintro rfl; exact h v List.mem_cons_self
   simp [this]
theorem bindL_get {kindOf:Str -> Option NameKind} {x:Str} {v:Value}:∀ {P:List Str} {vs:List Value} {i:Nat} {m:Str -> Option Value},P.Nodup -> P[i]? = some x -> vs[i]? = some v -> kindOf x = some .local ->
  bindL kindOf (P.zip vs) m x = some v
 | [],_,_,_,_,h,_,_=>by simp at h
 | _ :: _,[],_,_,_,_,h,_=>by simp at h
 | p :: P,w :: vs,0,m,nd,h1,h2,hk=>by
  simp at h1 h2; subst h1; subst h2
  show bindL kindOf ((p,w) :: P.zip vs) m p = _
  unfold bindL
  rw [bindL_out fun v hv=>(List.nodup_cons.mp nd).1 (List.of_mem_zip hv).1,if_pos hk]
  simp
 | p :: P,w :: vs,i + 1,m,nd,h1,h2,hk=>by
  show bindL kindOf ((p,w) :: P.zip vs) m x = _
  unfold bindL
  exact bindL_get (i:=i) (List.nodup_cons.mp nd).2 (by simpa using h1) (by simpa using h2) hk
theorem bindC_get {kindOf:Str -> Option NameKind} {x:Str} {v:Value}:∀ {P:List Str} {vs:List Value} {i:Nat} {m:Str -> Option Value},P.Nodup -> P[i]? = some x -> vs[i]? = some v -> kindOf x ≠ some .local ->
  bindC kindOf (P.zip vs) m x = some v
 | [],_,_,_,_,h,_,_=>by simp at h
 | _ :: _,[],_,_,_,_,h,_=>by simp at h
 | p :: P,w :: vs,0,m,nd,h1,h2,hk=>by
  simp at h1 h2; subst h1; subst h2
  show bindC kindOf ((p,w) :: P.zip vs) m p = _
  unfold bindC
  rw [bindC_out fun v hv=>(List.nodup_cons.mp nd).1 (List.of_mem_zip hv).1,if_neg hk]
  simp
 | p :: P,w :: vs,i + 1,m,nd,h1,h2,hk=>by
  show bindC kindOf ((p,w) :: P.zip vs) m x = _
  unfold bindC
  exact bindC_get (i:=i) (List.nodup_cons.mp nd).2 (by simpa using h1) (by simpa using h2) hk
def start (N:List Str) (vs:List V):St:=vs.map some ++ List.replicate (N.length - vs.length) none
def cxOf (CX:CXT) (P:Program) (w:World) (K:PySem.W.Frag) (mg:Str -> Option Value) (base:Heap) (N:List Str) (qual:Str) (scope:Scope) (f:Addr) (cd:Value) (A:Around) (outer:List Env) (s:Shared) (H:Hp) (E:XK):Cx where
 prog:=P
 w:=w
 K:=K
 mg:=mg
 base:=base
 A:=A.deeper (envOfC qual scope s.heap.objs.size f cd)
 N:=N
 s₀:=s
 H₀:=H
 env:=envOfC qual scope s.heap.objs.size f cd
 outer:=outer
 stack:=envOfC qual scope s.heap.objs.size f cd :: outer
 ex:=[]
 calm:=true
 fn:=fun _=>true
 pn:=[]
 xe:=fun e s'=>wpAny (model P w) (A.deeper (envOfC qual scope s.heap.objs.size f cd)) (leaving (envOfC qual scope s.heap.objs.size f cd) e) (fun _ s''=>CX outer H s E e s'') (fun e' s''=>CX outer H s E e' s'') s'
theorem cell_has {sc:Scope} {n:Nat} {x:Str} (h:sc.names.lookup x = some .cell):∃ c,(cellsFrom n sc.names []).lookup x = some c:=by
 have q:=PySem.W.cellsFrom_some sc.names n [] (.inl h)
 exact Option.isSome_iff_exists.mp q
theorem inv_start {CX:CXT} {P:Program} {w:World} {K:PySem.W.Frag} {mg:Str -> Option Value} {base:Heap} {N ps:List Str} {qual:Str} {scope:Scope} {f:Addr} {cd:Value} {A:Around} {outer:List Env} {s s1:Shared} {H:Hp} {E:XK} {us:List Value} {vs:List V}
  (S:FnScope N ps scope) (hd:A.handled = none) (e0:Env0 P w K mg base A outer s H) (hl:vs.length = ps.length) (r:Vals vs us)
  (x:InCallC s s.heap.objs.size (bindL (envOfC qual scope s.heap.objs.size f cd).kindOf (ps.zip us) fun _=>none) (cellsFrom (s.heap.objs.size + 1) scope.names []) (bindC (envOfC qual scope s.heap.objs.size f cd).kindOf (ps.zip us) fun _=>none) s1) :
  Inv (cxOf CX P w K mg base N qual scope f cd A outer s H E) [] (start N vs) H s1:=by
 have hpl:ps.length <= N.length:=by have:=congrArg List.length S.pre; rw [List.length_take] at this; omega
 obtain ⟨h1,tk,rfl,hk⟩:=x.done
 have noA:∀ b:Addr,b ∉ (cxOf CX P w K mg base N qual scope f cd A outer s H E).ex:=fun b z=>absurd (show b ∈ ([]:List Addr) from z) (by simp)
 refine ⟨⟨e0.mod,S.kind,rfl,rfl,Nat.le_refl _,fun y z c h1 h2=>?_,fun y hy=>?_,fun y c _ h=>?_,fun _=>hd,Around.frames_deeper e0.frames,.inr ⟨rfl,rfl⟩,fun b z=>absurd z (noA b),e0.bs,e0.bsz,fun b _ _=>noA b,fun b z=>absurd z (noA b),e0.funs,e0.frf⟩,
  rfl,e0.bare,Un.kept hk,⟨_,x.toInCall.ns,fun i y v h1 h2 h3=>?_⟩,fun y c h=>⟨_,x.cell y c h⟩,e0.hok.fresh (Nat.le_refl _),fun y c h=>?_,fun p hp=>absurd (show p ∈ ([]:List (Addr × Obj)) from hp) (by simp),e0.hok.kept hk,?_⟩
 ·exact name_of_addr x.apart (PySem.mem_of_lookup h1) (PySem.mem_of_lookup h2)
 ·have hy:scope.names.lookup y = some .cell \/ scope.names.lookup y = some .free:=hy
  rcases hy with hy | hy
  ·exact cell_has hy
  ·exact absurd rfl (S.nofree _ (PySem.mem_of_lookup hy))
 ·exact Nat.le_of_lt (x.above y c (PySem.mem_of_lookup h))
 ·have hi:i < vs.length:=by
   unfold start at h2
   by_cases hi:i < vs.length
   ·exact hi
   ·rw [List.getElem?_append_right (by simpa using hi)] at h2
    rw [List.getElem?_replicate] at h2
    split at h2 <;> cases h2
  have ha:vs[i]? = some v:=by
   unfold start at h2
   rw [List.getElem?_append_left (by simpa using hi),List.getElem?_map] at h2
   cases e:vs[i]? with
   | none=>rw [e] at h2; cases h2
   | some a=>rw [e] at h2; cases h2; rfl
  obtain ⟨u,hu,rv⟩:=r.get ha
  have hp:ps[i]? = some y:=by
   rw [<- S.pre,List.getElem?_take_of_lt (by omega)]; exact h1
  have ndP:ps.Nodup:=by rw [<- S.pre]; exact S.nd.sublist (List.take_sublist _ _)
  refine ⟨u,rv,?_⟩
  rcases S.par y (List.mem_of_getElem? hp) with k | k
  ·exact .inl ⟨k,bindL_get ndP hp hu k⟩
  ·obtain ⟨c,e⟩:=cell_has (n:=s.heap.objs.size + 1) k
   refine .inr ⟨.inl k,c,e,?_⟩
   have q:=x.cell y c e
   rw [bindC_get ndP hp hu (by show scope.names.lookup y ≠ _; rw [k]; decide)] at q
   exact q
 ·exact e0.hok.fresh (Nat.le_of_lt (x.above y c (PySem.mem_of_lookup h)))
 ·unfold start
  show _ = N.length
  rw [List.length_append,List.length_map,List.length_replicate]
  omega
theorem fn_of {CX:CXT} {P:Program} {w:World} {K:PySem.W.Frag} {mg:Str -> Option Value} {base:Heap} {k:Nat} {f:Addr} {name qual:Str} {params:Arguments} {body:List Stmt} {scope:Scope} {dV kV doc pm cdv ct oc:Value} {an od:Option Addr}
  {osl:Array (Option Value)} {N ps:List Str} {sp:Sp} (lk:K.lookup f = some ⟨oc,od,.func (PySem.W.fnOf name qual params body scope dV kV doc pm an cdv ct),osl⟩) (hcd:PySem.W.codeIn K cdv qual = true) (S:FnScope N ps scope)
  (len:∀ vs H Q E,sp vs H Q E -> vs.length = ps.length)
  (hbody:∀ (A:Around) (outer:List Env) (s:Shared) (H:Hp) (vs:List V) (Q:VK) (E:XK),Room k (A.deeper (envOfC qual scope s.heap.objs.size f cdv)) -> sp vs H Q E ->
   ∃ t,PSs (cxOf CX P w K mg base N qual scope f cdv A outer s H E) body t /\ t { nx:=fun _ H'=>Q .non H',rt:=Q } (start N vs) H) :
  FnOk P w K mg base CX (k + 1) f (PySem.W.fnOf name qual params body scope dV kV doc pm an cdv ct) ps sp:=by
 refine ⟨len,fun A outer s H args us vs Q E hr e0 hb r hsp=>?_⟩
 have hl:=len _ _ _ _ hsp
 have KX:K.In s.heap:=e0.mod.kin.keeps fun b o e=>(e0.bs b o e).1
 have lim:s.heap.NoLimit:=e0.mod.nolimit.keeps fun b o e=>(e0.bs b o e).1
 have hkind:∀ y ∈ ps.zip us,scope.names.lookup y.1 = some .local \/ (scope.names.lookup y.1 = some .cell /\ ((cellsFrom (s.heap.objs.size + 1) scope.names []).lookup y.1).isSome = true):=fun ⟨n,v⟩ hy=>by
  rcases S.par n (List.of_mem_zip hy).1 with q | q
  ·exact .inl q
  ·exact .inr ⟨q,PySem.W.cellsFrom_some _ _ _ (.inl q)⟩
 refine codeAny_call_function hr.depth (KX _ _ lk) rfl S.co S.gen rfl (PySem.W.codeRec_of KX hcd) (hb _ _ _ _ ?_)
 refine wpAny_newFunctionEnv_cells S.kind hkind fun env he s1 x=>?_
 subst he
 refine ⟨lim.keeps x.toInCall.keep,codeAny_func ?_⟩
 obtain ⟨t,ht,hq⟩:=hbody A outer s H vs Q E (hr.deeper _) hsp
 have I:Inv (cxOf CX P w K mg base N qual scope f cdv A outer s H E) [] (start N vs) H s1:=inv_start S hr.hd e0 hl r x
 refine wpAny_mono (ht [] s1 (start N vs) H _ I hq) (fun fl s' hs=>?_) fun e s' hs=>hs
 have fin:∀ {σ':St} {H':Hp} {v:V} {u:Value},Inv (cxOf CX P w K mg base N qual scope f cdv A outer s H E) [] σ' H' s' -> RelV v u -> Q v H' -> CE outer P w H s Q u s':=
  fun {σ' H' v u} J rv q=>⟨v,H',J.os,J.bare,J.base,J.hok,rv,q⟩
 cases fl with
 | ret u=>
  obtain ⟨v,σ',H',J,rv,q⟩:=hs
  exact fin J rv q
 | next=>
  obtain ⟨σ',H',J,q⟩:=hs
  exact fin (v:=V.non) (u:=Value.none) J rfl q
 | brk=>
  obtain ⟨_,_,_,q⟩:=hs
  exact False.elim q
 | cont=>
  obtain ⟨_,_,_,q⟩:=hs
  exact False.elim q
end L2
namespace L2
open PySem PySem.Spec PyProof.Rows
section
variable {X:Cx} {x:Str} {p pos:Pos} {e:Expr} {es:List Expr} {t:TA} {id T:String} {r:List V -> Hp -> VK -> Prop}
def tCB (r:List V -> Hp -> VK -> Prop) (t:TA):TE:=fun σ H Q=>t σ H fun vs H1=>r vs H1 Q
theorem pe_callB (hc:CallR X (.builtin id) r) (hg:Gl X x) (hm:X.mg x = none) (hv:bootBuiltins x = some (.builtin id)) (ha:PA X (e :: es) t) (hn:x ≠ "__name__":=by decide) (hdb:(x == ("__debug__" : Str)) = false:=by decide)
  (he:starEach (e :: es) X.env = (false,eval e X.env) :: starEach es X.env:=by rfl) (hpl:(backTo pos (starEach es X.env)).any (·.1) = false:=by rfl):PE X (.Call (.Name x p) (e :: es) [] pos) (tCB r t):=by
 intro pins s σ H Q I h
 refine wpAny_Call_Name_kw (ld_blt I hg hm hv ?_ hn hdb)
 exact PyProof.Rows.callWith_builtin1 (thn (ha pos pins s σ H _ I h) fun us s1 ⟨vs,H1,I1,r1,q1⟩=>hc pins s1 σ H1 vs us Q I1 r1 q1) he hpl
theorem pe_callTy (hc:CallR X (.type T) r) (hg:Gl X x) (hm:X.mg x = none) (hv:bootBuiltins x = some (.type T)) (ha:PA X (e :: es) t) (hn:x ≠ "__name__":=by decide) (hdb:(x == ("__debug__" : Str)) = false:=by decide)
  (he:starEach (e :: es) X.env = (false,eval e X.env) :: starEach es X.env:=by rfl) (hpl:(backTo pos (starEach es X.env)).any (·.1) = false:=by rfl):PE X (.Call (.Name x p) (e :: es) [] pos) (tCB r t):=by
 intro pins s σ H Q I h
 refine wpAny_Call_Name_kw (ld_blt I hg hm hv ?_ hn hdb)
 exact PyProof.Rows.callWith_type1 (thn (ha pos pins s σ H _ I h) fun us s1 ⟨vs,H1,I1,r1,q1⟩=>hc pins s1 σ H1 vs us Q I1 r1 q1) he hpl
end
end L2
namespace HT
open PySem PyProof.Rows
section
open PySem.SeqAt
open PySem.AutoSeq1 (wpAny_loadPart')
open PySem.MeetsSeq PySem.MeetsSeq2 PySem.MeetsSeq3
end
section
variable {prog:Program} {w:World} {A:Around} {E:Value -> Shared -> Prop} {s:Shared}
theorem cat_tup {t b:Addr} {vs ws:List Value} {Q:Value -> Shared -> Prop} (ht:IsTup s.heap t vs.toArray) (hb:IsTup s.heap b ws.toArray) (hv:vs ≠ [])
  (h1:ws = [] -> Q (.ref t) s) (h2:ws ≠ [] -> Q (.ref s.heap.objs.size) { s with heap:=s.heap.push { cls:=.type "tuple",data:=.seq (vs ++ ws).toArray } })
  (hsz:vs.length + ws.length <= sizeLine):wpAny (model prog w) A (binaryOp .Add (.ref t) (.ref b)) Q E s:=by
 obtain ⟨⟨cls,dd,data,sl⟩,ho,hc,n,hd⟩:=id ht
 obtain ⟨⟨cls2,dd2,data2,sl2⟩,ho2,hc2,n2,hd2⟩:=id hb
 simp only at hc hd hc2 hd2
 subst hc hd hc2 hd2
 have e:vs.toArray ++ ws.toArray = (vs ++ ws).toArray:=by simp
 by_cases hw:ws = []
 ·exact concat_meets ⟨_,ho,rfl⟩ ⟨_,ho2,rfl⟩ noFill_tuple_add seq_tuple_add PySem.F.slot_tuple_add PySem.F.entry_tuple_add (PySem.F.args_tuple_add_2 _ _)
   (tuple_addW1 t b vs.toArray ws.toArray n n2 dd dd2 sl sl2 (by simpa using hv) (by simp [hw])) ⟨ho,ho2,h1 hw⟩
 ·refine concat_meets ⟨_,ho,rfl⟩ ⟨_,ho2,rfl⟩ noFill_tuple_add seq_tuple_add PySem.F.slot_tuple_add PySem.F.entry_tuple_add (PySem.F.args_tuple_add_2 _ _)
   (tuple_addW2 t b vs.toArray ws.toArray n n2 dd dd2 sl sl2 (by simpa using hv) (by simpa using hw) (by rw [List.size_toArray,List.size_toArray]; exact hsz)) ⟨ho,ho2,?_⟩
  rw [e]
  exact h2 hw
def sIx (n d:Nat):Option Int -> Nat
 | none=>d
 | some v=>if v < 0 then (v + (n:Int)).toNat else min v.toNat n
theorem sIx_le (n d:Nat) (hd:d <= n) (o:Option Int):sIx n d o <= n:=by
 cases o with
 | none=>exact hd
 | some v=>
  show (if v < 0 then (v + (n:Int)).toNat else min v.toNat n) <= n
  by_cases hv:v < 0
  ·rw [if_pos hv]; omega
  ·rw [if_neg hv]; exact Nat.min_le_right _ _
theorem clip_eq (v:Int) (n d:Nat):(if v < 0 then max (v + (n:Int)) 0 else min v (n:Int)) = ((sIx n d (some v):Nat):Int):=by
 show (if v < 0 then max (v + (n:Int)) 0 else min v (n:Int)) = (((if v < 0 then (v + (n:Int)).toNat else min v.toNat n):Nat):Int)
 by_cases hv:v < 0
 ·simp only [if_pos hv]; omega
 ·simp only [if_neg hv]; omega
theorem adjust_gen (lo hi:Option Int) (n:Nat):Builtin.Slice.sliceAdjust lo hi 1 (n:Int) = (((sIx n 0 lo:Nat):Int),((sIx n n hi:Nat):Int)):=by
 have h1:¬ ((1:Int) < 0):=by omega
 unfold Builtin.Slice.sliceAdjust
 simp only [h1,if_false]
 refine Prod.ext ?_ ?_
 ·cases lo with
  | none=>rfl
  | some v=>exact clip_eq v n 0
 ·cases hi with
  | none=>rfl
  | some v=>exact clip_eq v n n
theorem places_gen (i j:Nat):Builtin.Slice.slicePlaces (i:Int) (j:Int) 1 = j - i:=by
 unfold Builtin.Slice.slicePlaces
 have h1:(1:Int) > 0:=by omega
 simp only [h1,if_true,Int.ediv_one]
 split <;> omega
theorem slicePart_ {v:Value} {o:Option Int} {Q:Option Int -> Shared -> Prop} (p:IsPart v o) (h:Q o s):wpAny (model prog w) A (Builtin.Slice.slicePartIndex v) Q E s:=by
 cases p with
 | none=>exact slicePart_none h
 | int i t=>exact slicePart_int h
theorem sliceApplied_gen {sl:Addr} {vl vu:Value} {lo hi:Option Int} {n:Nat} {Q:Int × Int × Nat -> Shared -> Prop} (hs:s.heap.IsSliceOf sl vl vu .none) (pl:IsPart vl lo) (pu:IsPart vu hi)
  (h:Q (((sIx n 0 lo:Nat):Int),1,sIx n n hi - sIx n 0 lo) s):wpAny (model prog w) A (Builtin.Slice.sliceApplied (.ref sl) (pure (n:Int))) Q E s:=by
 obtain ⟨os,hos,hcs,hds⟩:=id hs
 unfold Builtin.Slice.sliceApplied Builtin.Slice.sliceFields
 refine wpAny_bind (wpAny_bind (wpAny_field hos hds (x:=vl) rfl (wpAny_bind (wpAny_field hos hds (x:=vu) rfl (wpAny_bind (wpAny_field hos hds (x:=.none) rfl (wpAny_pure ?_)))))))
 refine wpAny_bind (slicePart_none ?_)
 show wpAny _ _ (if ((1:Int) == 0) = true then _ else _) _ _ s
 rw [if_neg (by decide)]
 refine wpAny_bind (slicePart_ pl (wpAny_bind (slicePart_ pu (wpAny_bind (wpAny_pure ?_)))))
 show wpAny _ _ (match Builtin.Slice.sliceAdjust lo hi 1 (n:Int) with | (lo,hi)=>pure (lo,(1:Int),Builtin.Slice.slicePlaces lo hi 1)) _ _ s
 rw [adjust_gen lo hi n]
 show wpAny _ _ (pure (((sIx n 0 lo:Nat):Int),(1:Int),Builtin.Slice.slicePlaces ((sIx n 0 lo:Nat):Int) ((sIx n n hi:Nat):Int) 1)) _ _ s
 rw [places_gen]
 exact wpAny_pure h
theorem pick_gen (xs:Array Value) (i k:Nat):((List.range k).filterMap fun (m:Nat)=>xs[((i:Int) + (m:Int) * 1).toNat]?).toArray = ((xs.toList.drop i).take k).toArray:=by
 have e:(fun (m:Nat)=>xs[((i:Int) + (m:Int) * 1).toNat]?) = fun m=>xs[i + m]?:=by
  funext m
  have:((i:Int) + (m:Int) * 1).toNat = i + m:=by omega
  rw [this]
 rw [e]
 have:=pick_run xs i k
 rw [List.filterMap_map] at this
 have e2:((fun x=>xs[x]?) ∘ fun x=>i + x) = fun m=>xs[i + m]?:=rfl
 rw [e2] at this
 rw [this]
theorem getItem_tuple_cut {t sl:Addr} {items:Array Value} {vl vu:Value} {lo hi:Option Int} {Q:Value -> Shared -> Prop} (ht:IsTup s.heap t items) (hs:s.heap.IsSliceOf sl vl vu .none) (pl:IsPart vl lo) (pu:IsPart vu hi)
  (hw:¬ (sIx items.size 0 lo = 0 /\ sIx items.size items.size hi = items.size))
  (h:Q (.ref s.heap.objs.size) { s with heap:=s.heap.push { cls:=.type "tuple",data:=.seq ((items.toList.drop (sIx items.size 0 lo)).take (sIx items.size items.size hi - sIx items.size 0 lo)).toArray } })
  (hsz:items.size <= sizeLine):wpAny (model prog w) A (getItem (.ref t) (.ref sl)) Q E s:=by
 have htake:sizeOk (.seq ((items.toList.drop (sIx items.size 0 lo)).take (sIx items.size items.size hi - sIx items.size 0 lo)).toArray):=by
  show ((items.toList.drop (sIx items.size 0 lo)).take (sIx items.size items.size hi - sIx items.size 0 lo)).toArray.size <= sizeLine
  rw [List.size_toArray,List.length_take,List.length_drop,Array.length_toList]
  omega
 have hj:sIx items.size items.size hi <= items.size:=sIx_le _ _ (Nat.le_refl _) hi
 obtain ⟨os,hos,hcs,hds⟩:=id hs
 have hTs:s.TypeIs (.ref sl) "slice":=⟨os,hos,hcs⟩
 unfold getItem
 try with_reducible refine wpAny_holding ?_
 first | refine wpAny_bind (wpAny_pure ?_) | skip
 refine wpAny_bind (wpAny_sequenceKey ht.typeIs (by decide) ?_)
 refine wpAny_bind (wpAny_callSpecial?_slot (name:=Str.ofString "__getitem__") ht.typeIs PyProof.Rows.slot_tuple_getitem
  (wpAny_call_entry PyProof.Rows.slot_tuple_getitem ht.typeIs entry_tuple_getitem ?_ (args_tuple_getitem _ _)))
 show wpAny _ _ (Builtin.Tuple.tupleItemsOf (.ref t) >>= _) _ _ s
 refine wpAny_bind (tupleItemsOf_ ht ?_)
 refine wpAny_bind (wpAny_typeOf hTs ?_)
 rw [if_pos (by decide)]
 refine wpAny_bind (sliceApplied_gen hs pl pu ?_)
 have hno:¬ ((((sIx items.size 0 lo:Nat):Int) == 0 && (1:Int) == 1 && (sIx items.size items.size hi - sIx items.size 0 lo) == items.size) = true):=by
  intro q
  rw [Bool.and_eq_true,Bool.and_eq_true] at q
  have q1:((sIx items.size 0 lo:Nat):Int) = 0:=eq_of_beq q.1.1
  have q2:sIx items.size items.size hi - sIx items.size 0 lo = items.size:=eq_of_beq q.2
  exact hw ⟨by omega,by omega⟩
 show wpAny _ _ (if (((sIx items.size 0 lo:Nat):Int) == 0 && (1:Int) == 1 && (sIx items.size items.size hi - sIx items.size 0 lo) == items.size) = true then _ else _) _ _ s
 rw [if_neg hno,pick_gen]
 first
  | exact wpAny_bind (m:=Builtin.Tuple.tupleExact _) (wpAny_newObj_type (wpAny_pure ⟨_,rfl,wpAny_pure h⟩) htake)
  | exact wpAny_bind (m:=Builtin.Tuple.tupleExact _) (wpAny_newObj_type (wpAny_bind (wpAny_pure (wpAny_pure ⟨_,rfl,wpAny_pure h⟩))) htake)
  | exact wpAny_bind (wpAny_bind (m:=Builtin.Tuple.tupleExact _) (wpAny_newObj_type (wpAny_pure (wpAny_pure ⟨_,rfl,wpAny_pure h⟩)) htake))
  | exact wpAny_bind (wpAny_bind (m:=Builtin.Tuple.tupleExact _) (wpAny_newObj_type (wpAny_pure ⟨_,rfl,wpAny_pure h⟩) htake))
end
end HT
namespace L2
open PySem PySem.Spec PyProof.Rows
abbrev TO:=St -> Hp -> (Option Int -> Hp -> Prop) -> Prop
def PO (X:Cx) (e:Option Expr) (t:TO):Prop:=
 ∀ (pins:List (Addr × Obj)) (s:Shared) (σ:St) (H:Hp) (Q:Option Int -> Hp -> Prop),Inv X pins σ H s -> t σ H Q ->
  wpAny (model X.prog X.w) X.A (evalPart e X.env) (fun u s'=>∃ o H',Inv X pins σ H' s' /\ IsPart u o /\ Q o H') X.xe s
def tNoPart:TO:=fun _ H Q=>Q none H
def tPart (t:TE):TO:=fun σ H Q=>t σ H fun x H1=>∃ i,x = .int i /\ Q (some i) H1
section
variable {X:Cx} {e:Expr} {te:TE} {lo hi:Option Expr} {tl th:TO} {pos p2:Pos}
theorem po_none:PO X none tNoPart:=by
 intro pins s σ H Q I h
 rw [evalPart_none]
 exact wpAny_pure ⟨none,H,I,.none,h⟩
theorem po_some (h:PE X e te):PO X (some e) (tPart te):=by
 intro pins s σ H Q I hw
 rw [evalPart_some]
 refine thn (h pins s σ H _ I hw) fun u s1 ⟨x,H1,I1,r1,q1⟩=>?_
 obtain ⟨i,rfl,q⟩:=q1
 obtain ⟨t,rfl⟩:=r1
 exact ⟨some i,H1,I1,.int i t,q⟩
def SlR (X:Cx) (r:V -> Option Int -> Option Int -> Hp -> VK -> Prop):Prop:=
 ∀ (pins:List (Addr × Obj)) (s:Shared) (σ:St) (H:Hp) (x:V) (v vl vu:Value) (lo hi:Option Int) (sl:Addr) (Q:VK),Inv X pins σ H s -> RelV x v -> s.heap.IsSliceOf sl vl vu .none -> IsPart vl lo -> IsPart vu hi -> r x lo hi H Q ->
  ∃ T id,typeLookup (.type T) "__getitem__" = pure (some (.builtin id)) /\ s.TypeIs v T /\ wpAny (model X.prog X.w) X.A (getItem v (.ref sl)) (EP X pins σ Q) X.xe s
def tSl (r:V -> Option Int -> Option Int -> Hp -> VK -> Prop) (te:TE) (tl th:TO):TE:=fun σ H Q=>te σ H fun x H1=>tl σ H1 fun l H2=>th σ H2 fun u H3=>r x l u H3 Q
theorem pe_slice {r:V -> Option Int -> Option Int -> Hp -> VK -> Prop} (hr:SlR X r) (he:PE X e te) (hl:PO X lo tl) (hu:PO X hi th):PE X (.Subscript e (.Slice lo hi none p2) pos) (tSl r te tl th):=by
 intro pins s σ H Q I h
 refine Subscript_ (thn (he pins s σ H _ I h) fun v s1 ⟨x,H1,I1,r1,q1⟩=>?_)
 refine wpAny_Slice (thn (hl pins s1 σ H1 _ I1 q1) fun vl s2 ⟨l,H2,I2,pl,q2⟩=>thn (hu pins s2 σ H2 _ I2 q2) fun vu s3 ⟨u,H3,I3,pu,q3⟩=>?_)
 rw [evalPart_none]
 refine wpAny_pure ?_
 have I4:Inv X pins σ H3 { s3 with heap:=s3.heap.push { cls:=.type "slice",data:=.fields #[vl,vu,.none] } }:=I3.kept (t':=s3.toks) fun b ob q=>Heap.get?_push_of_some _ q
 obtain ⟨T,id,hT,ht,hg⟩:=hr pins { s3 with heap:=s3.heap.push { cls:=.type "slice",data:=.fields #[vl,vu,.none] } } σ H3 x v vl vu l u s3.heap.objs.size Q I4 r1 (Heap.IsSliceOf.new ..) pl pu q3
 show wpAny (model X.prog X.w) X.A (subscriptTail e (.Slice lo hi none p2) v (.ref s3.heap.objs.size)) (EP X pins σ Q) X.xe { s3 with heap:=s3.heap.push { cls:=.type "slice",data:=.fields #[vl,vu,.none] } }
 exact tail_any (ops:=[.ref s3.heap.objs.size,v]) ht hT hg (by with_unfolding_all rfl)
def cutV (xs:List V) (lo hi:Option Int):List V:=(xs.drop (HT.sIx xs.length 0 lo)).take (HT.sIx xs.length xs.length hi - HT.sIx xs.length 0 lo)
theorem cutV_length (xs:List V) (lo hi:Option Int):(cutV xs lo hi).length <= xs.length:=by
 unfold cutV
 rw [List.length_take,List.length_drop]
 omega
def rSlT (K:PySem.W.Frag):V -> Option Int -> Option Int -> Hp -> VK -> Prop:=fun x lo hi H Q=>∃ a xs,x = .ref a /\ SqT K H a xs /\
 ¬ (HT.sIx xs.length 0 lo = 0 /\ HT.sIx xs.length xs.length hi = xs.length) /\ ∀ p,H p = none -> Q (.ref p) (upd H p (.tup (cutV xs lo hi)))
theorem sl_tup:SlR X (rSlT X.K):=by
 intro pins s σ H x v vl vu lo hi sl Q I rx hs pl pu h
 obtain ⟨a,xs,rfl,hx,hw,q⟩:=h
 cases rx
 obtain ⟨its,r,ht,hz⟩:=I.tuple hx
 have hlen:its.toArray.size = xs.length:=by rw [List.size_toArray]; exact r.length.symm
 refine ⟨"tuple",_,PyProof.Rows.slot_tuple_getitem.lookup,ht.typeIs,?_⟩
 refine HT.getItem_tuple_cut ht hs pl pu (by rw [hlen]; exact hw) ?_ (by rw [hlen]; exact hz)
 rw [hlen]
 refine ⟨.ref s.heap.objs.size,_,I.laid (t':=s.toks) (o:=.tup (cutV xs lo hi)) (fun b ob q=>Heap.get?_push_of_some _ q) (Nat.le_refl _) ?_,rfl,q _ (I.hok.fresh (Nat.le_refl _))⟩
 exact ⟨⟨Nat.le_trans (cutV_length xs lo hi) hz,nodict⟩,_,(r.drop (HT.sIx xs.length 0 lo)).take (HT.sIx xs.length xs.length hi - HT.sIx xs.length 0 lo),IsTup.new _ _⟩
def rCatT (K:PySem.W.Frag):R2:=fun x y H Q=>∃ a b xs ys,x = .ref a /\ y = .ref b /\ SqT K H a xs /\ SqT K H b ys /\ xs ≠ [] /\ xs.length + ys.length <= sizeLine /\
 (ys = [] -> Q (.ref a) H) /\ (ys ≠ [] -> ∀ p,H p = none -> Q (.ref p) (upd H p (.tup (xs ++ ys))))
theorem Vals.nil_iff {xs:List V} {us:List Value} (r:Vals xs us):us = [] ↔ xs = []:=by
 cases r with
 | nil=>simp
 | cons _ _=>simp
theorem op_catT:OpR X (binaryOp .Add) (rCatT X.K):=by
 intro pins s σ H x y v u Q I rx ry h
 obtain ⟨a,b,xs,ys,rfl,rfl,ha,hb,hx,hz,q1,q2⟩:=h
 cases rx
 cases ry
 obtain ⟨its,r1,p1,_⟩:=I.tuple ha
 obtain ⟨its2,r2,p2,_⟩:=I.tuple hb
 refine HT.cat_tup p1 p2 (fun z=>hx (r1.nil_iff.mp z)) (fun z=>⟨.ref a,H,I,rfl,q1 (r2.nil_iff.mp z)⟩) (fun z=>?_) (by rw [<- r1.length,<- r2.length]; exact hz)
 refine ⟨.ref s.heap.objs.size,_,I.laid (t':=s.toks) (o:=.tup (xs ++ ys)) (fun b ob q=>Heap.get?_push_of_some _ q) (Nat.le_refl _) ?_,rfl,q2 (fun w=>z (r2.nil_iff.mpr w)) _ (I.hok.fresh (Nat.le_refl _))⟩
 exact ⟨⟨by rw [List.length_append]; exact hz,nodict⟩,_,r1.append r2,IsTup.new _ _⟩
end
end L2
namespace L2
open PySem PySem.Spec PyProof.Rows
def ixN (n:Nat) (i:Int):Option Nat:=if 0 <= i then (if i < n then some i.toNat else none) else if -(n:Int) <= i then some (i + n).toNat else none
def atI {α:Type} (xs:List α) (i:Int):Option α:=(ixN xs.length i).bind fun j=>xs[j]?
theorem ixN_seq {n:Nat} {i:Int} {j:Nat} (h:ixN n i = some j):seqIndex? i n = some j /\ j < n /\ -(n:Int) <= i /\ i < n:=by
 unfold ixN at h
 by_cases h0:0 <= i
 ·rw [if_pos h0] at h
  by_cases h1:i < n
  ·rw [if_pos h1] at h
   have e:i.toNat = j:=Option.some.inj h
   exact ⟨by rw [seqIndex_of h0 h1,e],by omega,by omega,h1⟩
  ·rw [if_neg h1] at h; cases h
 ·rw [if_neg h0] at h
  by_cases h1:-(n:Int) <= i
  ·rw [if_pos h1] at h
   have e:(i + n).toNat = j:=Option.some.inj h
   exact ⟨by rw [seqIndex_neg (by omega) h1,e],by omega,h1,by omega⟩
  ·rw [if_neg h1] at h; cases h
theorem atI_get {α:Type} {xs:List α} {i:Int} {v:α} (h:atI xs i = some v):∃ j,seqIndex? i xs.length = some j /\ xs[j]? = some v /\ j < xs.length /\ -(xs.length:Int) <= i /\ i < xs.length:=by
 unfold atI at h
 cases e:ixN xs.length i with
 | none=>rw [e] at h; cases h
 | some j=>
  rw [e] at h
  obtain ⟨h1,h2,h3,h4⟩:=ixN_seq e
  exact ⟨j,h1,h,h2,h3,h4⟩
def PlainIx (b:Expr):Prop:=∀ o i,subscripted b false o i = operate [o,i] (getItem o i)
def IxR (X:Cx) (r:R2):Prop:=
 ∀ (value slice:Expr) (pins:List (Addr × Obj)) (s:Shared) (σ:St) (H:Hp) (x y:V) (v u:Value) (Q:VK),Inv X pins σ H s -> RelV x v -> RelV y u -> r x y H Q ->
  subscripted slice false v u = operate [v,u] (getItem v u) -> wpAny (model X.prog X.w) X.A (subscriptTail value slice v u) (EP X pins σ Q) X.xe s
def MtR (X:Cx) (id:String) (r:V -> List V -> Hp -> VK -> Prop):Prop:=
 ∀ (pins:List (Addr × Obj)) (s:Shared) (σ:St) (H:Hp) (x:V) (xs:List V) (v:Value) (us:List Value) (Q:VK),Inv X pins σ H s -> RelV x v -> Vals xs us -> r x xs H Q ->
  wpAny (model X.prog X.w) X.A (call (.builtin id) (v :: us)) (EP X pins σ Q) X.xe s
section
variable {X:Cx} {a b:Expr} {ta tb:TE} {pos:Pos}
theorem pe_ix {r:R2} (hr:IxR X r) (ha:PE X a ta) (hb:PE X b tb) (hs:PlainIx b):PE X (.Subscript a b pos) (tOp r ta tb):=by
 intro pins s σ H Q I h
 exact Subscript_ (binT ha hb I h fun v u s2 x y H2 I2 rx ry q=>hr a b pins s2 σ H2 x y v u Q I2 rx ry q (hs _ _))
def rIxL (K:PySem.W.Frag):R2:=fun x y H Q=>∃ p xs i v,x = .ref p /\ y = .int i /\ SqL K H p xs /\ atI xs i = some v /\ Q v H
def rIxT (K:PySem.W.Frag):R2:=fun x y H Q=>∃ p xs i v,x = .ref p /\ y = .int i /\ SqT K H p xs /\ atI xs i = some v /\ Q v H
def rIxS:R2:=fun x y H Q=>∃ z i c,x = .str z /\ y = .int i /\ z.length <= sizeLine /\ atI z.cps.toList i = some c /\ Q (.str ⟨#[c]⟩) H
theorem ix_list:IxR X (rIxL X.K):=by
 intro value slice pins s σ H x y v u Q I rx ry h hs
 obtain ⟨p,xs,i,z,rfl,rfl,hq,he,q⟩:=h
 cases rx
 obtain ⟨t,rfl⟩:=ry
 obtain ⟨its,r,pl,hz⟩:=I.list hq
 obtain ⟨j,h1,h2,h3,h4,h5⟩:=atI_get he
 obtain ⟨w,ew,rw'⟩:=r.get h2
 have hl:=r.length
 have hn:=line63
 have fin:EP X pins σ Q w s:=⟨z,H,I,rw',q⟩
 by_cases h0:0 <= i
 ·have hj:i.toNat = j:=by
   rw [seqIndex_of h0 h5] at h1
   exact Option.some.inj h1
  exact item_listR pl.isList h0 (by omega) (by rw [hj]; simpa using ew) fin hs
 ·have hj:(i + (its.toArray.size:Int)).toNat = j:=by
   rw [seqIndex_neg (by omega) h4] at h1
   rw [List.size_toArray,<- hl]
   exact Option.some.inj h1
  exact subscriptTail_builtinR (x:=w) pl.isList.typeIs slot_list_getitem.lookup
   (wpAny_getItem_list_neg (Q:=fun r s'=>r = w /\ EP X pins σ Q r s') pl.isList (by omega) (by rw [List.size_toArray] <;> omega) (by omega) (by rw [hj]; simpa using ew) ⟨rfl,fin⟩) hs
theorem ix_tup:IxR X (rIxT X.K):=by
 intro value slice pins s σ H x y v u Q I rx ry h hs
 obtain ⟨p,xs,i,z,rfl,rfl,hq,he,q⟩:=h
 cases rx
 obtain ⟨t,rfl⟩:=ry
 obtain ⟨its,r,pl,hz⟩:=I.tuple hq
 obtain ⟨j,h1,h2,h3,h4,h5⟩:=atI_get he
 obtain ⟨w,ew,rw'⟩:=r.get h2
 have hl:=r.length
 have hn:=line63
 have fin:EP X pins σ Q w s:=⟨z,H,I,rw',q⟩
 exact subscriptTail_builtinR (x:=w) pl.typeIs slot_tuple_getitem.lookup
  (getItem_tuple (j:=j) (Q:=fun r s'=>r = w /\ EP X pins σ Q r s') pl (by omega) (by omega) (by rw [List.size_toArray,<- hl]; exact h1) (by simpa using ew) ⟨rfl,fin⟩) hs
theorem ix_str:IxR X rIxS:=by
 intro value slice pins s σ H x y v u Q I rx ry h hs
 obtain ⟨z,i,c,rfl,rfl,hz,he,q⟩:=h
 obtain ⟨t,rfl⟩:=rx
 obtain ⟨t',rfl⟩:=ry
 obtain ⟨j,h1,h2,h3,h4,h5⟩:=atI_get he
 have hl:z.cps.toList.length = z.length:=by simp [Str.length]
 rw [hl] at h1 h4 h5
 have hn:=line63
 exact tail_any (typeIs_str s z t) slot_str_getitem.lookup (getItem_str (c:=c) (by
  have e1:decide (i < -(2 ^ 63:Int)) = false:=decide_eq_false (by omega)
  have e2:decide (i ≥ 2 ^ 63) = false:=decide_eq_false (by omega)
  rw [e1,e2,Bool.or_false]) (by rw [h1]; simpa using h2) ⟨.str ⟨#[c]⟩,H,I.tok _,⟨_,rfl⟩,q⟩) hs
theorem slice_bounds (lo hi:Option Int) (n:Nat):(sliceBounds lo hi none n).1 = ((HT.sIx n 0 lo:Nat):Int) /\ (sliceBounds lo hi none n).2.1 = ((HT.sIx n n hi:Nat):Int) /\ (sliceBounds lo hi none n).2.2 = 1:=by
 refine ⟨?_,?_,rfl⟩
 ·cases lo with
  | none=>simp [sliceBounds,HT.sIx]
  | some i=>
   simp only [sliceBounds,HT.sIx,Option.getD_none,show (1:Int) > 0 by decide,if_true]
   by_cases h:i < 0
   ·simp only [h,if_true] <;> omega
   ·simp only [h,if_false] <;> omega
 ·cases hi with
  | none=>simp [sliceBounds,HT.sIx]
  | some i=>
   simp only [sliceBounds,HT.sIx,Option.getD_none,show (1:Int) > 0 by decide,if_true]
   by_cases h:i < 0
   ·simp only [h,if_true] <;> omega
   ·simp only [h,if_false] <;> omega
theorem slicePick_cut (its:List Value) (lo hi:Option Int):slicePick its.toArray lo hi none = ((its.drop (HT.sIx its.length 0 lo)).take (HT.sIx its.length its.length hi - HT.sIx its.length 0 lo)).toArray:=by
 obtain ⟨h1,h2,h3⟩:=slice_bounds lo hi its.toArray.size
 unfold slicePick
 rw [h1,h2,h3]
 simp only [sliceRange_one,pick_run,List.size_toArray] <;> rfl
def rSlL (K:PySem.W.Frag):V -> Option Int -> Option Int -> Hp -> VK -> Prop:=fun x lo hi H Q=>∃ a xs,x = .ref a /\ SqL K H a xs /\ ∀ p,H p = none -> Q (.ref p) (upd H p (.lst (cutV xs lo hi)))
theorem sl_list:SlR X (rSlL X.K):=by
 intro pins s σ H x v vl vu lo hi sl Q I rx hs pl pu h
 obtain ⟨a,xs,rfl,hx,q⟩:=h
 cases rx
 obtain ⟨its,r,ht,hz⟩:=I.list hx
 have hlen:=r.length
 refine ⟨"list",_,slot_list_getitem.lookup,ht.isList.typeIs,?_⟩
 refine wpAny_getItem_list_slice ht.isList hs pl pu .none (by simp) ?_ (by rw [List.size_toArray] <;> omega)
 rw [slicePick_cut,<- hlen]
 refine ⟨.ref s.heap.objs.size,_,I.laid (t':=s.toks) (o:=.lst (cutV xs lo hi)) (fun b ob q=>Heap.get?_push_of_some _ q) (Nat.le_refl _) ?_,rfl,q _ (I.hok.fresh (Nat.le_refl _))⟩
 exact ⟨Nat.le_trans (cutV_length xs lo hi) hz,_,0,(r.drop (HT.sIx xs.length 0 lo)).take (HT.sIx xs.length xs.length hi - HT.sIx xs.length 0 lo),Heap.get?_push_size _ rfl⟩
theorem call_len_seq:CallR X (.builtin "len") (fun xs H Q=>∃ p ys,xs = [.ref p] /\ (SqL X.K H p ys \/ SqT X.K H p ys) /\ Q (.int ys.length) H):=by
 intro pins s σ H xs us Q I r h
 obtain ⟨p,ys,rfl,hq,q⟩:=h
 obtain ⟨u,rfl,rx⟩:=vals1 r
 cases rx
 have hn:=line63
 rcases hq with hq | hq
 ·obtain ⟨its,r',pl,hz⟩:=I.list hq
  have hlen:=r'.length
  exact Calls.call_len_list pl.isList (by simp only [List.size_toArray] <;> omega) ⟨.int ys.length,H,I.tok _,⟨s.toks + 1,by rw [List.size_toArray,hlen]⟩,q⟩
 ·obtain ⟨its,r',pl,hz⟩:=I.tuple hq
  have hlen:=r'.length
  exact len_tuple pl (by simp only [List.size_toArray] <;> omega) ⟨.int ys.length,H,I.tok _,⟨s.toks + 1,by rw [List.size_toArray,hlen]⟩,q⟩
theorem call_len_str:CallR X (.builtin "len") (fun xs H Q=>∃ z,xs = [.str z] /\ z.length <= sizeLine /\ Q (.int z.length) H):=by
 intro pins s σ H xs us Q I r h
 obtain ⟨z,rfl,hz,q⟩:=h
 obtain ⟨u,rfl,t,rfl⟩:=vals1 r
 have hn:=line63
 exact len_str (by omega) ⟨.int z.length,H,I.tok _,⟨_,rfl⟩,q⟩
theorem call_tuple_of:CallR X (.type "tuple") (fun xs H Q=>∃ p ys,xs = [.ref p] /\ ((SqL X.K H p ys /\ ∀ l,H l = none -> Q (.ref l) (upd H l (.tup ys))) \/ (SqT X.K H p ys /\ Q (.ref p) H))):=by
 intro pins s σ H xs us Q I r h
 obtain ⟨p,ys,rfl,h⟩:=h
 obtain ⟨u,rfl,rx⟩:=vals1 r
 cases rx
 rcases h with ⟨hq,q⟩ | ⟨hq,q⟩
 ·obtain ⟨its,r',pl,hz⟩:=I.list hq
  have hlen:=r'.length
  refine call_tuple_list pl.isList (fun h' kp=>?_) (by simp only [List.size_toArray] <;> omega)
  have I1:Inv X pins σ H { s with heap:=h' }:=I.kept (t':=s.toks) kp
  have I2:Inv X pins σ (upd H h'.objs.size (.tup ys)) { s with heap:=h'.push { cls:=.type "tuple",data:=.seq its.toArray } }:=
   I1.laid (t':=s.toks) (fun b o e=>Heap.get?_push_of_some _ e) (Nat.le_refl _) (show ObjOk X.prog X.w _ _ _ (.tup ys) from ⟨⟨hz,nodict⟩,its,r',IsTup.new _ _⟩)
  exact ⟨.ref h'.objs.size,_,I2,rfl,q _ (I1.hok.fresh (Nat.le_refl _))⟩
 ·obtain ⟨its,r',pl,hz⟩:=I.tuple hq
  exact call_tuple_same pl ⟨.ref p,H,I,rfl,q⟩
def tyV (K:PySem.W.Frag) (T:String) (x:V) (H:Hp):Prop:=match x with
 | .str _=>T = "str"
 | .int _=>T = "int"
 | .ref p=>(T = "list" /\ ∃ xs,SqL K H p xs) \/ (T = "tuple" /\ ∃ o,K.lookup p = some o /\ o.cls = .type "tuple" /\ o.dict = none) \/
   (T = "dict" /\ ((∃ kvs,H p = some (.dK kvs)) \/ ∃ kvs,H p = some (.dT kvs))) \/ (T = "set" /\ ∃ S n,H p = some (.set S n))
 | _=>False
theorem tyV_is {pins:List (Addr × Obj)} {σ:St} {H:Hp} {s:Shared} {T:String} {x:V} {v:Value} (I:Inv X pins σ H s) (r:RelV x v) (ty:tyV X.K T x H) :
  s.TypeIs v T /\ ∀ a,v = .ref a -> ∃ ob,s.heap.get? a = some ob /\ ob.dict = none:=by
 cases x with
 | str z=>
  obtain ⟨t,rfl⟩:=r
  cases (show T = "str" from ty)
  exact ⟨typeIs_str s z t,fun _ e=>nomatch e⟩
 | int i=>
  obtain ⟨t,rfl⟩:=r
  cases (show T = "int" from ty)
  exact ⟨typeIs_int s i t,fun _ e=>nomatch e⟩
 | ref p=>
  cases r
  rcases ty with ⟨rfl,xs,hq⟩ | ⟨rfl,o,hk,hc,hd⟩ | ⟨rfl,hk⟩ | ⟨rfl,S,n,hk⟩
  ·obtain ⟨its,_,pl,_⟩:=I.list hq
   refine ⟨pl.isList.typeIs,fun a e=>?_⟩
   cases e
   obtain ⟨o,n,e,c,hd,_⟩:=pl
   exact ⟨o,e,hd⟩
  ·refine ⟨⟨o,I.kIn p o hk,hc⟩,fun a e=>?_⟩
   cases e
   exact ⟨o,I.kIn _ o hk,hd⟩
  ·have z:∃ o,s.heap.get? p = some o /\ o.ExactDict:=by
    rcases hk with ⟨kvs,hk⟩ | ⟨kvs,hk⟩
    ·obtain ⟨_,_,_,_,o,_,_,e,ex,_⟩:=I.hok p _ hk
     exact ⟨o,e,ex⟩
    ·obtain ⟨_,_,_,_,o,_,_,e,ex,_⟩:=I.hok p _ hk
     exact ⟨o,e,ex⟩
   obtain ⟨o,e,ex⟩:=z
   refine ⟨⟨o,e,ex.1⟩,fun a e2=>?_⟩
   cases e2
   exact ⟨o,e,ex.2.1⟩
  ·obtain ⟨o,_,_,_,e,ex,_⟩:=I.hok p _ hk
   refine ⟨⟨o,e,ex.1⟩,fun a e2=>?_⟩
   cases e2
   exact ⟨o,e,ex.2.1⟩
 | _=>exact False.elim ty
def tBM (K:PySem.W.Frag) (T:String) (r:V -> List V -> Hp -> VK -> Prop) (to:TE) (t:TA):TE:=fun σ H Q=>to σ H fun x H1=>tyV K T x H1 /\ t σ H1 fun xs H2=>r x xs H2 Q
variable {o e:Expr} {es:List Expr} {to:TE} {t:TA} {name:Str} {apos cpos:Pos} {T id:String} {r:V -> List V -> Hp -> VK -> Prop}
theorem pe_bm (pa:PlainAttrs T) (slot:Slot T name id) (hty:typeOf (.builtin id) = pure (.type "method_descriptor")) (hm:MtR X id r) (ho:PE X o to) (ha:PA X (e :: es) t)
  (hbase:attributeBase o name X.env (eval o X.env) = eval o X.env:=by rfl)
  (hfew:((backTo cpos (starEach (e :: es) X.env)).all (fun x=>!x.1) && (backToKw cpos (keywordEach [] X.env)).all (fun x=>x.1.isSome)
   && decide ((e :: es).length + ([]:List Keyword).length + (if ([]:List Keyword).isEmpty then 0 else 1) < 30)) = true:=by rfl)
  (hline:(apos.endLine == cpos.line) = true:=by rfl) (hs:starEach (e :: es) X.env = (false,eval e X.env) :: starEach es X.env:=by rfl) (hplain:(backTo cpos (starEach es X.env)).any (·.1) = false:=by rfl) :
  PE X (.Call (.Attribute o name apos) (e :: es) [] cpos) (tBM X.K T r to t):=by
 intro pins s σ H Q I h
 refine wpAny_Call_method_late hbase hfew hline rfl (thn (ho pins s σ H _ I h) fun v s1 ⟨x,H1,I1,r1,ty,q1⟩=>?_)
 obtain ⟨h1,h2⟩:=tyV_is I1 r1 ty
 refine ⟨T,id,pa,slot,hty,h1,h2,?_⟩
 have hA:=ha cpos pins s1 σ H1 _ I1 q1
 rw [hs] at hA ⊢
 refine Calls.callWith_builtin (by show (false || (backTo cpos (starEach es X.env)).any (·.1)) = false; rw [hplain] <;> rfl) (Calls.evalArgs_plain ?_)
 exact thn hA fun us s2 ⟨vs,H2,I2,r2,q2⟩=>hm pins s2 σ H2 x vs v us Q I2 r1 r2 q2
end
end L2
namespace L2
open PySem PySem.Spec PyProof.Rows
def MtM (X:Cx) (id:String) (r:V -> List V -> Hp -> VK -> Prop):Prop:=
 ∀ (pins:List (Addr × Obj)) (s:Shared) (σ:St) (H:Hp) (x:V) (xs:List V) (v:Value) (us:List Value) (Q:VK),Inv X pins σ H s -> RelV x v -> Vals xs us -> r x xs H Q ->
  wpAny (model X.prog X.w) X.A (call (.builtin id) (v :: us)) (EP X pins σ Q) X.xe s
theorem Vals.one:∀ {x:V} {us:List Value},Vals [x] us -> ∃ u,us = [u] /\ RelV x u
 | _,_,.cons r .nil=>⟨_,rfl,r⟩
section
variable {X:Cx} {pins:List (Addr × Obj)} {σ:St} {H:Hp} {s:Shared} {l b:Addr} {xs ys zs:List V}
theorem Inv.lset {its its':List Value} {n:Nat} {f:Array Value -> Array Value} {t':Nat} (I:Inv X pins σ H s) (hH:H l = some (.lst xs))
  (e:s.heap.get? l = some { cls:=.type "list",data:=.seq its.toArray n }) (hf:f its.toArray = its'.toArray) (hv:Vals ys its') (hz:ys.length <= sizeLine) :
  Inv X pins σ (upd H l (.lst ys)) { s with heap:=s.heap.update l (Obj.mapSeq f),toks:=t' }:=by
 have q:=PySem.IsL.update e f
 rw [hf] at q
 refine I.write (x:=l) (e:=l) (by rw [hH]; exact trivial) (.inl rfl) (fun b' u hb hu=>(Heap.get?_update_other s.heap (Obj.mapSeq f) (Ne.symm hb)).trans hu) ⟨_,q⟩ ?_
 exact ⟨hz,its',_,hv,q⟩
theorem Inv.lnew {its:List Value} {t':Nat} (I:Inv X pins σ H s) (hv:Vals ys its) (hz:ys.length <= sizeLine) :
  Inv X pins σ (upd H s.heap.objs.size (.lst ys)) { s with heap:=s.heap.push { cls:=.type "list",data:=.seq its.toArray },toks:=t' }:=
 I.laid (fun _ _ q=>Heap.get?_push_of_some _ q) (Nat.le_refl _) ⟨hz,its,0,hv,Heap.get?_push_size _ rfl⟩
theorem Inv.fresh (I:Inv X pins σ H s):H s.heap.objs.size = none:=I.hok.fresh (Nat.le_refl _)
theorem Inv.lstM (I:Inv X pins σ H s) (hH:H l = some (.lst xs)):xs.length <= sizeLine /\ ∃ (its:List Value) (n:Nat),Vals xs its /\ xs.length = its.length /\ s.heap.get? l = some { cls:=.type "list",data:=.seq its.toArray n }:=by
 obtain ⟨z,its,n,r,e⟩:=I.hok l _ hH
 exact ⟨z,its,n,r,r.length,e⟩
theorem notLongL {n:Nat} (h:n <= sizeLine):Builtin.List.listTooLong n = false:=by
 unfold Builtin.List.listTooLong
 exact decide_eq_false (by omega)
end
section
variable {X:Cx}
end
section
variable {prog:Program} {w:World} {A:Around} {E:Value -> Shared -> Prop} {s:Shared}
end
section
variable {X:Cx}
end
end L2
namespace Att
open PySem PySem.W PySem.Calls PyProof.Rows
theorem ints_of_wellAll {P:Params} {h:Heap}:∀ (ns:List Int) (vs:List Value),WellAll P h vs (ns.map WData.int) -> IntsAre vs ns:=by
 intro ns
 induction ns with
 | nil=>
  intro vs w
  rw [List.map_nil] at w
  cases w
  exact .nil
 | cons n ns ih=>
  intro vs w
  rw [List.map_cons] at w
  cases w with
  | cons a b=>
   cases a
   exact .cons _ _ (ih _ b)
theorem script_of {l:OpenLaw} {n:Nat} (hn:l.most = some n) {P:Params} {h:Heap} {args:List WData} {vals:List Value}
  (hpre:l.row.toRowW.claim.pre args = true) (hwl:WellAll P h vals args) :
  ∃ a vs ns,vals = [Value.ref a] /\ args = [WData.list (ns.map WData.int)] /\ h.get? a = some { cls:=.type "list",data:=.seq vs.toArray } /\ IntsAre vs ns /\ ns.length <= n:=by
 have hsh:WShape.hasAll [] args [.list .int] = true:=(pre_splitW hpre).1
 have hc:l.pre.holds [] { args:=args } = true:=(pre_splitW hpre).2
 obtain ⟨d,r,rfl,h1,h2⟩:=hasAllW_cons hsh
 obtain rfl:=hasAllW_nil h2
 obtain ⟨xs,rfl,h3⟩:=hasW_list h1
 obtain ⟨ns,rfl⟩:=items_int h3
 have hlen:ns.length <= n:=by
  unfold OpenLaw.pre at hc
  have h4:(WTm.not (.lt (.lit (.int (n:Int))) (.len (.arg 0)))).holds [] { args:=[.list (ns.map .int)] } = true:=by
   have h4:=(holds_andW hc).1
   rw [hn] at h4
   exact h4
  have h5:=condW_of h4 (w_not (w_lt w_lit (w_len_list (w_arg rfl))))
  rw [List.length_map] at h5
  refine Nat.le_of_not_lt fun q=>?_
  have q':(n:Int) < ((ns.length:Nat):Int):=by omega
  first
   | (rw [decide_eq_true q'] at h5; exact absurd h5 (by decide))
   | (simp at h5; omega)
 cases hwl with
 | cons w1 w2=>
  cases w2
  cases w1 with
  | list ho hall=>exact ⟨_,_,ns,rfl,rfl,ho,ints_of_wellAll ns _ hall,hlen⟩
theorem post_true (l:OpenLaw) (args:List WData):l.row.toRowW.claim.post args (.bool true) args = true:=
 postW_of (r:=l.row.toRowW) (X:=(true == true))
  (show WShape.has [] (.bool true) .bool = true by first | rfl | decide | simp [WShape.has,WShape.arms,WShape.armsAll])
  (show (WTm.eq .res (.lit (.bool true))).value [] { args:=args,res:=some (.bool true),after:=args } = some (.bool (true == true)) from w_eq_bool (w_res rfl) w_lit) rfl
theorem attach_call {l:OpenLaw} {n:Nat} {q:Program} {loose:List Str} {XP:(Str -> Option Value) -> Heap -> Prop} {YP:World -> Heap -> Prop} {d:DefRec}
  (hn:l.most = some n) (hdf:d.params.defaults = [])
  (call:∀ (w:World) (s₀ s₁:Shared) (mg mb:Str -> Option Value) (fa:Addr) (o:Obj) (pm cd doc:Value) (a:Addr) (vs:List Value) (ns:List Int),
   Ground q loose [] XP w s₀ mg mb s₁.heap -> YP w s₁.heap ->
   s₁.heap.get? fa = some o -> o.data = .func (docDef d.name d.params d.body d.scope pm cd doc) -> s₁.heap.CodeRec cd d.name -> mg d.name = some (.ref fa) ->
   s₁.heap.get? a = some { cls:=.type "list",data:=.seq vs.toArray } -> IntsAre vs ns -> ns.length <= n -> s₁.gens = #[] ->
   codeAny (model l.prog w) callerA (.call (.ref fa) ⟨[.ref a],[]⟩) (fun r s'=>r = .ok (.ret (.bool true)) /\ OldK s₁.heap s'.heap /\ s'.os = s₁.os /\ AllBare s'.gens) s₁) :
  WalkO q loose XP YP l.row.toRowW d [] (fun f vs=>PySem.call f vs):=by
 intro w s₀ s₁ mg mb G Y fa o pm cd doc dV kV ho hd hcd hD hmg hg args vals as hpre hlay hrd hwl hlo
 obtain rfl:dV = .none:=Dflts.none hD hdf
 obtain rfl:kV = .none:=Dflts.noKw hD
 obtain ⟨a,vs,ns,rfl,rfl,hobj,hints,hlen⟩:=script_of hn hpre hwl
 refine enter_call (codeAny_mono (call w s₀ s₁ mg mb fa o pm cd doc a vs ns G Y ho (fd_plain hd) hcd hmg hobj hints hlen hg) fun r s' hq=>?_)
 obtain ⟨rfl,h2,h3,h4⟩:=hq
 exact ⟨.inl ⟨.bool true,.bool true,[],rfl,fun _=>rfl,.bool true,post_true l _,fun _=>⟨List.Pairwise.nil,fun _ hm=>(nomatch hm)⟩⟩,h2,h3,h4⟩
section
variable {prog:Program} {w:World} {A:Around} {E:Value -> Shared -> Prop} {s:Shared} {K:Frag}
def ledger (h:Heap) (L d:Addr):List (Addr × Obj):=(List.range h.objs.size).filterMap fun a=>if a = L \/ a = d then none else (h.get? a).map fun o=>(a,o)
end
end Att
namespace L2
open PySem PySem.Spec PyProof.Rows
theorem vals_ints:∀ {vs:List Value} {ns:List Int},IntsAre vs ns -> Vals (ns.map V.int) vs
 | _,_,.nil=>.nil
 | _,_,.cons n t h=>.cons ⟨t,rfl⟩ (vals_ints h)
def Only (H:Hp):Prop:=∀ b,H b = none \/ ∃ o xs,H b = some (.frz o (.lst xs))
theorem law_call {P:Program} {w:World} {K:PySem.W.Frag} {mg mb:Str -> Option Value} {CX:CXT} {k:Nat} {fa a:Addr} {fd:FuncData} {x:Str} {sp:Sp} {s₁:Shared} {vs:List Value} {ns:List Int}
  (KX:K.In s₁.heap) (hns:s₁.heap.Ns mainGlobals mg) (hb:s₁.heap.Ns builtinsNs mb) (hbb:∀ x:Str,x ≠ "__name__" -> mb x = bootBuiltins x) (hlim:s₁.heap.NoLimit) (hg:s₁.gens = #[])
  (ha:s₁.heap.get? a = some { cls:=.type "list",data:=.seq vs.toArray }) (hi:IntsAre vs ns) (hl:ns.length <= sizeLine) (hr:Room k callerA)
  (F:∀ base:Heap,K.In base -> base.Ns mainGlobals mg -> FnOk P w K mg base CX k fa fd [x] sp) (hbind:∀ (s:Shared) (u:Value),BindsTo s fd ⟨[u],[]⟩ [(x,u)])
  (hsp:∀ H:Hp,Only H -> SqL K H a (ns.map V.int) -> sp [.ref a] H (fun v _=>v = .bl true) fun _ _ _=>False)
  (hCX:∀ H e s',CX [] H s₁ (fun _ _ _=>False) e s' -> False) :
  codeAny (model P w) callerA (.call (.ref fa) ⟨[.ref a],[]⟩) (fun r s'=>r = .ok (.ret (.bool true)) /\ OldK s₁.heap s'.heap /\ s'.os = s₁.os /\ AllBare s'.gens) s₁:=by
 have rv:=vals_ints hi
 have lenV:=hi.length
 have core:∀ H:Hp,Only H -> SqL K H a (ns.map V.int) -> HOk P w H s₁.heap -> (∀ b,H b ≠ none -> b = a) -> (H a ≠ none -> K.lookup a = none) ->
   codeAny (model P w) callerA (.call (.ref fa) ⟨[.ref a],[]⟩) (fun r s'=>r = .ok (.ret (.bool true)) /\ OldK s₁.heap s'.heap /\ s'.os = s₁.os /\ AllBare s'.gens) s₁:=by
  intro H hO hS hok hA hK
  have base_of:∀ {b:Addr} {o:Obj},s₁.heap.get? b = some o -> H b = none -> (hidT s₁.heap H).get? b = some o:=fun e n=>hidT_get e n
  have noA:∀ {b:Addr} {o:Obj} {es:Array DictEntry} {ep:Nat},s₁.heap.get? b = some o -> o.data = .dict es ep -> H b = none:=fun {b o es ep} e d=>by
   cases q:H b with
   | none=>rfl
   | some u=>
    have e':b = a:=hA b (by rw [q]; simp)
    subst e'
    rw [ha] at e; cases e
    have d':Data.seq vs.toArray _ = Data.dict es ep:=d
    cases d'
  have nsK:∀ {b:Addr} {m:Str -> Option Value},s₁.heap.Ns b m -> (hidT s₁.heap H).Ns b m:=fun {b m} ⟨o,es,ep,e,d,r⟩=>⟨o,es,ep,base_of e (noA e d),d,r⟩
  have hKb:K.In (hidT s₁.heap H):=fun b o e=>base_of (KX b o e) (by
   cases q:H b with
   | none=>rfl
   | some u=>
    have e':b = a:=hA b (by rw [q]; simp)
    subst e'
    rw [hK (by rw [q]; simp)] at e; cases e)
  have hM:Mod K mg (hidT s₁.heap H):=⟨hKb,nsK hns,⟨mb,nsK hb,hbb⟩,let ⟨mc,h1,h2⟩:=hlim; ⟨mc,nsK h1,h2⟩⟩
  have e0:Env0 P w K mg (hidT s₁.heap H) callerA [] s₁ H:=⟨rfl,hM,fun b o e=>of_hidT e,Nat.le_of_eq (hidT_size _ _),trivial,fun b hb=>absurd (show b ∈ ([]:List Addr) from hb) (by simp),hok,.of_eq hg⟩
  refine codeAny_mono ((F _ hKb (nsK hns)).run callerA [] s₁ H ⟨[.ref a],[]⟩ [.ref a] [.ref a] _ _ hr e0 (hbind s₁ (.ref a)) (.cons rfl .nil) (hsp H hO hS)) fun r s' h=>?_
  cases r with
  | error e=>exact (hCX H e s' h).elim
  | ok fl=>
   cases fl with
   | next=>exact False.elim h
   | brk=>exact False.elim h
   | cont=>exact False.elim h
   | ret u=>
    obtain ⟨v,H',os,bare,un,hok',r',q⟩:=h
    have q':v = .bl true:=q
    subst q'
    obtain rfl:u = Value.bool true:=r'
    refine ⟨rfl,OldK.of_keep fun b o e=>?_,os,bare⟩
    cases q:H b with
    | none=>exact un.keep b o e q (by intro z; exact absurd (show b ∈ ([]:List Addr) from z) (by simp)) (by simp)
    | some u=>
     rcases hO b with z | ⟨ob,xs,z⟩
     ·rw [q] at z; cases z
     ·have z2:=un.frzs b ob _ z
      obtain ⟨e1,_⟩:=hok b _ z
      obtain ⟨e2,_⟩:=hok' b _ z2
      rw [e] at e1; cases e1
      exact e2
 cases hk:K.lookup a with
 | some o=>
  have e:=KX a o hk
  rw [ha] at e
  cases e
  refine core (fun _=>none) (fun _=>.inl rfl) (.inr ⟨_,vs.toArray,_,hk,rfl,rfl,rfl,by rw [List.size_toArray,lenV]; exact hl,by simpa using rv⟩) (fun b u z=>by have z':(none:Option HO) = some u:=z; cases z') (fun b z=>absurd rfl z) fun z=>absurd rfl z
 | none=>
  refine core (fun b=>if b = a then some (.frz { cls:=.type "list",data:=.seq vs.toArray } (.lst (ns.map V.int))) else none) (fun b=>?_) (.inl (.inr ⟨{ cls:=.type "list",data:=.seq vs.toArray },if_pos rfl⟩)) (fun b u z=>?_) (fun b z=>?_) fun _=>hk
  ·by_cases hb:b = a
   ·exact .inr ⟨_,_,if_pos hb⟩
   ·exact .inl (if_neg hb)
  ·by_cases hb:b = a
   ·have z':=(if_pos hb).symm.trans z
    cases z'
    subst hb
    exact ⟨ha,by rw [List.length_map]; exact hl,vs,_,rv,ha⟩
   ·have z':=(if_neg hb).symm.trans z
    cases z'
  ·by_cases hb:b = a
   ·exact hb
   ·exact absurd (if_neg hb) z
end L2
namespace L2
open PySem PySem.Spec PyProof.Rows
abbrev KOf {K:PySem.W.Frag} {h:Heap} (_:K.In h):PySem.W.Frag:=K
theorem walk_of {l:PySem.W.OpenLaw} {n k:Nat} {q:Program} {loose:List Str} {XP:(Str -> Option Value) -> Heap -> Prop} {YP:World -> Heap -> Prop} {d:DefRec} {K:Params -> PySem.W.Frag} {CX:World -> CXT} {sp:World -> Sp} {x:Str}
  (hn:l.most = some n) (hn2:n <= sizeLine) (hdf:d.params.defaults = []) (hr:Room k callerA)
  (hY:∀ (w:World) (h:Heap),YP w h -> (K w.params).In h)
  (F:∀ (w:World) (mg:Str -> Option Value) (fa:Addr) (h:Heap),(K w.params).In h -> h.Ns mainGlobals mg -> mg d.name = some (.ref fa) ->
   ∃ fd:FuncData,(∀ (s:Shared) (u:Value),BindsTo s fd ⟨[u],[]⟩ [(x,u)]) /\
    ∀ base:Heap,(K w.params).In base -> base.Ns mainGlobals mg -> FnOk l.prog w (K w.params) mg base (CX w) k fa fd [x] (sp w))
  (hsp:∀ (w:World) (H:Hp) (a:Addr) (ns:List Int),ns.length <= n -> Only H -> SqL (K w.params) H a (ns.map V.int) -> sp w [.ref a] H (fun v _=>v = .bl true) fun _ _ _=>False)
  (hCX:∀ (w:World) (H:Hp) (s:Shared) (e:Value) (s':Shared),CX w [] H s (fun _ _ _=>False) e s' -> False) :
  PySem.W.WalkO q loose XP YP l.row.toRowW d [] (fun f vs=>PySem.call f vs):=by
 refine Att.attach_call hn hdf fun w s₀ s₁ mg mb fa o pm cd doc a vs ns G Y ho hd hcd hmg hobj hints hlen hg=>?_
 have KX:=hY w _ Y
 obtain ⟨fd,hb,hF⟩:=F w mg fa _ KX G.T.g hmg
 exact law_call KX G.T.g G.T.b G.T.builtins G.T.nolimit hg hobj hints (Nat.le_trans hlen hn2) hr hF hb (fun H hO hS=>hsp w H a ns hlen hO hS) fun H e s'=>hCX w H s₁ e s'
end L2
namespace L2
open PySem PySem.Spec PyProof.Rows
def defArgs (s:Stmt):Arguments:=match s with
 | .FunctionDef _ a _ _ _ _ _ _ _ _=>a
 | _=>{ posonlyargs:=[],args:=[],vararg:=none,kwonlyargs:=[],kw_defaults:=[],kwarg:=none,defaults:=[] }
def defBody (s:Stmt):List Stmt:=match s with
 | .FunctionDef _ _ b _ _ _ _ _ _ _=>b
 | _=>[]
def defScope (s:Stmt):Scope:=match s with
 | .FunctionDef _ _ _ _ _ _ sc _ _ _=>sc
 | _=>{ kind:=.function,names:=[],isGenerator:=false,isCoroutine:=false }
structure Fun (K:PySem.W.Frag) (x qual:Str) (st:Stmt) (f:Addr) (fd:FuncData):Prop where
 ex:∃ (oc:Value) (od:Option Addr) (kV doc pm:Value) (an:Option Addr) (cdv ct:Value) (osl:Array (Option Value)),
  fd = PySem.W.fnOf x qual (defArgs st) (defBody st) (defScope st) .none kV doc pm an cdv ct /\ K.lookup f = some ⟨oc,od,.func fd,osl⟩ /\ PySem.W.codeIn K cdv qual = true
 kp:PySem.W.keepIn K (.ref f) = true
section
variable {P:Program} {w:World} {K:PySem.W.Frag} {mg:Str -> Option Value} {base:Heap}
theorem Fun.binds {x qual:Str} {st:Stmt} {f:Addr} {fd:FuncData} {ps:List Str} (F:Fun K x qual st f fd)
  (h:∀ (kV doc pm:Value) (an:Option Addr) (cdv ct:Value) (us:List Value),us.length = ps.length -> bindArgs (PySem.W.fnOf x qual (defArgs st) (defBody st) (defScope st) .none kV doc pm an cdv ct) ⟨us,[]⟩ = pure (ps.zip us)):Binds K fd ps []:=by
 obtain ⟨oc,od,kV,doc,pm,an,cdv,ct,osl,rfl,lk,hcd⟩:=F.ex
 exact .all (h kV doc pm an cdv ct)
theorem fun_mk {x qual:Str} {st:Stmt} {f:Addr} {oc:Value} {od an:Option Addr} {osl:Array (Option Value)} {kV doc pm cdv ct:Value} (l:K.lookup f = some ⟨oc,od,.func (PySem.W.fnOf x qual (defArgs st) (defBody st) (defScope st) .none kV doc pm an cdv ct),osl⟩)
  (c:PySem.W.codeIn K cdv qual = true) (k:PySem.W.keepIn K (.ref f) = true):Fun K x qual st f (PySem.W.fnOf x qual (defArgs st) (defBody st) (defScope st) .none kV doc pm an cdv ct):=⟨⟨oc,od,kV,doc,pm,an,cdv,ct,osl,rfl,l,c⟩,k⟩
end
section
variable {X:Cx}
theorem pv (i:Nat) {x:Str} {pos:Pos} (hN:X.N[i]? = some x:=by rfl) (hv:Vis X.env.scope x:=by first | exact Or.inl rfl | exact Or.inr (Or.inl rfl) | exact Or.inr (Or.inr rfl)) (hd:(x == ("__debug__" : Str)) = false:=by decide)
  (hcd:(x == ("__classdict__" : Str)) = false:=by decide):PE X (.Name x pos) (tVar i):=pe_var hN hv hd hcd
end
theorem iteF {A B:Prop} (h:B):if false = true then A else B:=by
 rw [if_neg Bool.false_ne_true]
 exact h
theorem iteT {A B:Prop} (h:A):if true = true then A else B:=by
 rw [if_pos rfl]
 exact h
def Same (H H':Hp):Prop:=∀ b o,H b = some o -> H' b = some o
theorem Same.refl (H:Hp):Same H H:=fun _ _ h=>h
theorem Same.trans {H H1 H2:Hp} (a:Same H H1) (b:Same H1 H2):Same H H2:=fun c o h=>b c o (a c o h)
theorem Same.free {H H':Hp} (e:Same H H') {l:Addr} (h:H' l = Option.none):H l = Option.none:=by
 cases q:H l with
 | none=>rfl
 | some o=>
  rw [e l o q] at h
  cases h
theorem Same.seq {K:PySem.W.Frag} {H H':Hp} {a:Addr} {xs:List V} (e:Same H H') (h:SqL K H a xs):SqL K H' a xs:=by
 rcases h with (h | ⟨o,h⟩) | h
 ·exact .inl (.inl (e _ _ h))
 ·exact .inl (.inr ⟨o,e _ _ h⟩)
 ·exact .inr h
end L2
namespace L2
open PySem PySem.Spec PyProof.Rows
section
variable {κ:Type} [DecidableEq κ]
def valV (kvs:List (κ × V)) (k:κ):Option V:=(kvs.find? fun kv=>decide (kv.1 = k)).map (·.2)
def putK (kvs:List (κ × V)) (k:κ) (v:V):List (κ × V):=
 if (kvs.any fun kv=>decide (kv.1 = k)) = true then kvs.map (fun kv=>if kv.1 = k then (kv.1,v) else kv) else kvs ++ [(k,v)]
theorem valV_pos {p:κ × V} {r:List (κ × V)} {k:κ} (e:p.1 = k):valV (p :: r) k = some p.2:=by simp [valV,List.find?_cons,e]
theorem valV_neg {p:κ × V} {r:List (κ × V)} {k:κ} (e:¬ p.1 = k):valV (p :: r) k = valV r k:=by simp [valV,List.find?_cons,e]
theorem valV_any (k:κ):∀ kvs:List (κ × V),(kvs.any fun kv=>decide (kv.1 = k)) = (valV kvs k).isSome
 | []=>rfl
 | p :: r=>by
  rw [List.any_cons]
  by_cases e:p.1 = k
  ·simp only [valV_pos e,decide_eq_true e,Bool.true_or,Option.isSome_some]
  ·rw [valV_neg e,decide_eq_false e,Bool.false_or]; exact valV_any k r
theorem length_putK (kvs:List (κ × V)) (k:κ) (v:V):(putK kvs k v).length <= kvs.length + 1:=by
 unfold putK
 split
 ·rw [List.length_map]; omega
 ·rw [List.length_append,List.length_cons,List.length_nil]; omega
theorem RelO.isSome_eq {o:Option V} {u:Option Value} (r:RelO o u):o.isSome = u.isSome:=by
 cases o with
 | none=>cases u with
  | none=>rfl
  | some _=>exact (show False from r).elim
 | some _=>cases u with
  | none=>exact (show False from r).elim
  | some _=>rfl
theorem KV.val {kvs:List (κ × V)} {vs:List (κ × Value)} (r:KV kvs vs) (k:κ):RelO (valV kvs k) (valueAt vs k):=by
 unfold KV at r
 induction r with
 | nil=>exact True.intro
 | @cons p q ps qs h t ih=>
  obtain ⟨h1,h2⟩:=h
  by_cases e:p.1 = k
  ·have e':q.1 = k:=h1.symm.trans e
   have b:valueAt (q :: qs) k = some q.2:=by simp [valueAt,List.find?_cons,e']
   rw [valV_pos e,b]; exact h2
  ·have e':¬ q.1 = k:=fun z=>e (h1.trans z)
   have b:valueAt (q :: qs) k = valueAt qs k:=by simp [valueAt,List.find?_cons,e']
   rw [valV_neg e,b]; exact ih
theorem KV.any {kvs:List (κ × V)} {vs:List (κ × Value)} (r:KV kvs vs) (k:κ):(kvs.any fun kv=>decide (kv.1 = k)) = vs.any fun kv=>decide (kv.1 = k):=by
 unfold KV at r
 induction r with
 | nil=>rfl
 | cons h t ih=>rw [List.any_cons,List.any_cons,ih,h.1]
theorem KV.repl {kvs:List (κ × V)} {vs:List (κ × Value)} (r:KV kvs vs) (k:κ) {y:V} {u:Value} (ry:RelV y u) :
  KV (kvs.map fun kv=>if kv.1 = k then (kv.1,y) else kv) (vs.map fun kv=>if kv.1 = k then (kv.1,u) else kv):=by
 unfold KV at r ⊢
 induction r with
 | nil=>exact .nil
 | @cons p q ps qs h t ih=>
  rw [List.map_cons,List.map_cons]
  refine .cons ?_ ih
  obtain ⟨h1,h2⟩:=h
  by_cases e:p.1 = k
  ·rw [if_pos e,if_pos (h1.symm.trans e)]; exact ⟨h1,ry⟩
  ·rw [if_neg e,if_neg (fun z=>e (h1.trans z))]; exact ⟨h1,h2⟩
theorem KV.put {kvs:List (κ × V)} {vs:List (κ × Value)} (r:KV kvs vs) (k:κ) {y:V} {u:Value} (ry:RelV y u):KV (putK kvs k y) (stored vs k u):=by
 unfold putK stored
 rw [r.any k]
 by_cases e:(vs.any fun kv=>decide (kv.1 = k)) = true
 ·rw [if_pos e,if_pos e]; exact r.repl k ry
 ·rw [if_neg e,if_neg e]; exact Paired.snoc r ⟨rfl,ry⟩
theorem KV.length {kvs:List (κ × V)} {vs:List (κ × Value)} (r:KV kvs vs):kvs.length = vs.length:=Paired.length r
end
theorem kV_is {P:Program} {w:World} {k:Key} {u:Value} (r:RelV (kV k) u):(mixKind P w).is k u = true:=by
 cases k with
 | inl i=>obtain ⟨t,e⟩:=(show ∃ t,u = Value.int i t from r); subst e; exact mixKind_int P w i t
 | inr x=>obtain ⟨t,e⟩:=(show ∃ t,u = Value.str x t from r); subst e; exact mixKind_str P w x t
theorem items_are {P:Program} {w:World}:∀ {ks:List Key} {us:List Value},Vals (ks.map kV) us -> ItemsAre (mixKind P w) ks us
 | [],_,r=>by rw [List.map_nil] at r; cases r; exact .nil
 | k :: ks,_,r=>by
  rw [List.map_cons] at r
  cases r with
  | cons h t=>exact .cons (kV_is h) (items_are t)
abbrev KT (H:Hp):List (List Key × V) -> List (List Key × Addr × Value) -> Prop:=Paired fun p q=>p.1 = q.1 /\ H q.2.1 = some (.tup (p.1.map kV)) /\ RelV p.2 q.2.2
theorem KT.val {H:Hp} {kvs:List (List Key × V)} {xs:List (List Key × Addr × Value)} (r:KT H kvs xs) (k:List Key):RelO (valV kvs k) ((atKey xs k).map (·.2)):=by
 induction r with
 | nil=>exact True.intro
 | @cons p q ps qs h t ih=>
  obtain ⟨h1,_,h2⟩:=h
  by_cases e:p.1 = k
  ·have e':q.1 = k:=h1.symm.trans e
   have b:atKey (q :: qs) k = some q.2:=by simp [atKey,List.find?_cons,e']
   rw [valV_pos e,b]; exact h2
  ·have e':¬ q.1 = k:=fun z=>e (h1.trans z)
   have b:atKey (q :: qs) k = atKey qs k:=by simp [atKey,List.find?_cons,e']
   rw [valV_neg e,b]; exact ih
theorem KT.repl {H:Hp} {kvs:List (List Key × V)} {xs:List (List Key × Addr × Value)} (r:KT H kvs xs) (k:List Key) {y:V} {u:Value} (ry:RelV y u) :
  KT H (kvs.map fun kv=>if kv.1 = k then (kv.1,y) else kv) (xs.map (putAt k u)):=by
 induction r with
 | nil=>exact .nil
 | @cons p q ps qs h t ih=>
  rw [List.map_cons,List.map_cons]
  refine .cons ?_ ih
  obtain ⟨h1,h2,h3⟩:=h
  unfold putAt
  by_cases e:p.1 = k
  ·rw [if_pos e,if_pos (h1.symm.trans e)]; exact ⟨h1,h2,ry⟩
  ·rw [if_neg e,if_neg (fun z=>e (h1.trans z))]; exact ⟨h1,h2,h3⟩
theorem KT.put {H:Hp} {kvs:List (List Key × V)} {xs:List (List Key × Addr × Value)} (r:KT H kvs xs) (k:List Key) {b:Addr} {y:V} {u:Value} (hb:H b = some (.tup (k.map kV))) (ry:RelV y u) :
  KT H (putK kvs k y) (storedH xs k b u):=by
 have e:(kvs.any fun kv=>decide (kv.1 = k)) = (atKey xs k).isSome:=by
  rw [valV_any,(r.val k).isSome_eq,Option.isSome_map]
 unfold putK storedH
 rw [e]
 by_cases q:(atKey xs k).isSome = true
 ·rw [if_pos q,if_pos q]; exact r.repl k ry
 ·rw [if_neg q,if_neg q]; exact Paired.snoc r ⟨rfl,hb,ry⟩
theorem KT.keeps {H H':Hp} {kvs:List (List Key × V)} {xs:List (List Key × Addr × Value)} (r:KT H kvs xs) (ht:∀ b ys,H b = some (.tup ys) -> H' b = some (.tup ys)):KT H' kvs xs:=
 Paired.mapP r fun _ _ z=>⟨z.1,ht _ _ z.2.1,z.2.2⟩
section
variable {P:Program} {w:World} {H:Hp} {h:Heap} {a:Addr}
theorem rd_of {u:HO} (ok:HOk P w H h) (e:Rd H a u):ObjOk P w H h a u:=e.ok ok
theorem dk_rd {kvs:List (Key × V)} (ok:HOk P w H h) (e:Rd H a (.dK kvs)):kvs.length <= sizeLine /\ (a == sysModules) = false /\ ∃ vs,KV kvs vs /\ h.DictOf (mixKind P w) a vs:=
 show ObjOk P w H h a (.dK kvs) from rd_of ok e
theorem dk_of {kvs:List (Key × V)} (ok:HOk P w H h) (e:H a = some (.dK kvs)):kvs.length <= sizeLine /\ (a == sysModules) = false /\ ∃ vs,KV kvs vs /\ h.DictOf (mixKind P w) a vs:=dk_rd ok (.inl e)
theorem key_of {ks:List Key} (ok:HOk P w H h) (e:H a = some (.tup (ks.map kV))):(tupleKind (mixKind P w)).is h ks a:=by
 obtain ⟨_,its,r,o,h1,h2,n,h3⟩:=(show ObjOk P w H h a (.tup (ks.map kV)) from ok a _ e)
 exact ⟨o,its.toArray,n,h1,h2,h3,by simpa using items_are r⟩
theorem dt_rd {kvs:List (List Key × V)} (ok:HOk P w H h) (e:Rd H a (.dT kvs)):kvs.length <= sizeLine /\ (a == sysModules) = false /\
  ∃ xs,KT H kvs xs /\ h.DictOfH (tupleKind (mixKind P w)) a xs:=by
 obtain ⟨z,y,xs,r,o,es,ep,h1,h2,h3,h4,h5⟩:=(show ObjOk P w H h a (.dT kvs) from rd_of ok e)
 refine ⟨z,y,xs,r,o,es,ep,h1,h2,h3,h4,fun x hx=>?_,h5⟩
 have all:∀ {l:List (List Key × V)} {m:List (List Key × Addr × Value)},KT H l m -> ∀ x ∈ m,(tupleKind (mixKind P w)).is h x.1 x.2.1:=by
  intro l m q
  induction q with
  | nil=>intro x hx; exact nomatch hx
  | @cons p q ps qs hq t ih=>
   intro x hx
   rcases List.mem_cons.mp hx with e | hx
   ·subst e
    exact key_of ok (by rw [<- hq.1]; exact hq.2.1)
   ·exact ih x hx
 exact all r x hx
theorem dt_of {kvs:List (List Key × V)} (ok:HOk P w H h) (e:H a = some (.dT kvs)):kvs.length <= sizeLine /\ (a == sysModules) = false /\
  ∃ xs,KT H kvs xs /\ h.DictOfH (tupleKind (mixKind P w)) a xs:=dt_rd ok (.inl e)
end
def DGet (H:Hp) (a:Addr) (y:V) (r:Option V):Prop:=
 (∃ kvs k,Rd H a (.dK kvs) /\ y = kV k /\ r = valV kvs k) \/ ∃ kvs k b,Rd H a (.dT kvs) /\ y = .ref b /\ H b = some (.tup (k.map kV)) /\ r = valV kvs k
def DPut (H:Hp) (a:Addr) (y v:V) (H':Hp):Prop:=
 (∃ kvs k,H a = some (.dK kvs) /\ y = kV k /\ kvs.length < sizeLine /\ H' = upd H a (.dK (putK kvs k v))) \/
 ∃ kvs k b,H a = some (.dT kvs) /\ y = .ref b /\ H b = some (.tup (k.map kV)) /\ kvs.length < sizeLine /\ H' = upd H a (.dT (putK kvs k v))
theorem DPut.k {H:Hp} {a:Addr} {kvs:List (Key × V)} {k:Key} {v:V} (e:H a = some (.dK kvs)) (hl:kvs.length < sizeLine):DPut H a (kV k) v (upd H a (.dK (putK kvs k v))):=.inl ⟨kvs,k,e,rfl,hl,rfl⟩
theorem DPut.t {H:Hp} {a b:Addr} {kvs:List (List Key × V)} {k:List Key} {v:V} (e:H a = some (.dT kvs)) (eb:H b = some (.tup (k.map kV))) (hl:kvs.length < sizeLine) :
  DPut H a (.ref b) v (upd H a (.dT (putK kvs k v))):=.inr ⟨kvs,k,b,e,rfl,eb,hl,rfl⟩
section
variable {X:Cx} {pins:List (Addr × Obj)} {σ:St} {H:Hp} {s:Shared} {a:Addr} {y v:V} {u r:Value} {o:Option V} {A:Around} {E:Value -> Shared -> Prop}
theorem Inv.big (I:Inv X pins σ H s):sysModules < s.heap.objs.size:=by
 have h:mainGlobals < s.heap.objs.size:=(I.mod.glob.keeps I.bk).lt
 exact Nat.lt_trans (by decide) h
theorem d_getItem {Q:Value -> Shared -> Prop} (hu:A.units + 1 < cLine) (I:Inv X pins σ H s) (g:DGet H a y (some v)) (ry:RelV y u) (h:∀ w' s',Inv X pins σ H s' -> RelV v w' -> Q w' s') :
  wpAny (model X.prog X.w) A (getItem (.ref a) u) Q E s:=by
 rcases g with ⟨kvs,k,e,ey,l⟩ | ⟨kvs,k,b,e,ey,eb,l⟩
 ·subst ey
  obtain ⟨z,hd,vs,rel,dd⟩:=dk_rd I.hok e
  obtain ⟨w',hw,rw'⟩:=RelO.some_of (v:=v) (o:=valueAt vs k) (by rw [l]; exact rel.val k)
  exact wpAny_getItem_of (kV_is ry) dd.mapOf hw (h w' _ (I.tok _) rw')
 ·subst ey
  cases (show u = Value.ref b from ry)
  obtain ⟨z,hd,xs,rel,dd⟩:=dt_rd I.hok e
  obtain ⟨w',hw,rw'⟩:=RelO.some_of (v:=v) (o:=(atKey xs k).map (·.2)) (by rw [l]; exact rel.val k)
  obtain ⟨p,hp,hp2⟩:=Option.map_eq_some_iff.mp hw
  refine wpAny_getItem_heap (tupleKind_room_in1 hu) (key_of I.hok eb) dd hp ?_
  rw [hp2]
  exact h w' _ (I.tok _) rw'
theorem d_write {h':Heap} {t':Nat} {ob:HO} (I:Inv X pins σ H s) (mu:Mut (H a)) (hs:Heap.SameBut a s.heap h') (he:∃ q,h'.get? a = some q) (new:ObjOk X.prog X.w (upd H a ob) h' a ob) :
  Inv X pins σ (upd H a ob) { s with heap:=h',toks:=t' }:=
 I.write (x:=a) (e:=a) mu (.inl rfl) (fun b q hb z=>(hs.2 b hb).trans z) he new
theorem dk_new {P:Program} {w:World} {H':Hp} {h':Heap} {kvs:List (Key × V)} {vs:List (Key × Value)} (z:kvs.length <= sizeLine) (hd:(a == sysModules) = false) (rel:KV kvs vs) (dd:h'.DictOf (mixKind P w) a vs) :
  ObjOk P w H' h' a (.dK kvs):=⟨z,hd,vs,rel,dd⟩
theorem d_setItem {H':Hp} {Q:Unit -> Shared -> Prop} (hu:A.units + 1 < cLine) (I:Inv X pins σ H s) (g:DPut H a y v H') (ry:RelV y u) (rv:RelV v r) (h:∀ s',Inv X pins σ H' s' -> Q () s') :
  wpAny (model X.prog X.w) A (setItem (.ref a) u r) Q E s:=by
 rcases g with ⟨kvs,k,e,ey,l,eH⟩ | ⟨kvs,k,b,e,ey,eb,l,eH⟩
 ·subst ey eH
  obtain ⟨z,hd,vs,rel,dd⟩:=dk_of I.hok e
  have hz:vs.length <= sizeLine:=by rw [<- rel.length]; exact z
  have hl:(putK kvs k v).length <= sizeLine:=by have:=length_putK kvs k v; omega
  refine wpAny_setItem_pairs (hsz:=hz) (kV_is ry) dd fun h' dd' hs=>h _ ?_
  have he:∃ q,h'.get? a = some q:=let ⟨q,_,_,hq,_⟩:=dd'; ⟨q,hq⟩
  exact d_write I (by rw [e]; exact True.intro) hs he (dk_new hl hd (rel.put k rv) dd')
 ·subst ey eH
  cases (show u = Value.ref b from ry)
  obtain ⟨z,hd,xs,rel,dd⟩:=dt_of I.hok e
  have hz:xs.length <= sizeLine:=by rw [<- Paired.length rel]; exact z
  have hl:(putK kvs k v).length <= sizeLine:=by have:=length_putK kvs k v; omega
  refine wpAny_setItem_heap (hsz:=hz) (tupleKind_room_in1 hu) (key_of I.hok eb) dd fun h' dd' hs=>h _ ?_
  obtain ⟨q,es,ep,hq,h2,h3,h4,_,h5⟩:=dd'
  refine d_write I (by rw [e]; exact True.intro) hs ⟨q,hq⟩ ⟨hl,hd,_,(rel.put k eb rv).keeps fun c ys ec=>?_,q,es,ep,hq,h2,h3,h4,h5⟩
  rw [upd_ne (ne_of ec e (fun z=>nomatch z))]
  exact ec
end
section
variable {X:Cx} {pins:List (Addr × Obj)} {σ:St} {H:Hp} {s:Shared} {a:Addr} {kvs:List (Key × V)} {k:Key} {u:Value} {A:Around} {E:Value -> Shared -> Prop}
theorem d_len {Q:Value -> Shared -> Prop} (I:Inv X pins σ H s) (e:Rd H a (.dK kvs)) (h:∀ t s',Inv X pins σ H s' -> Q (.int kvs.length t) s'):wpAny (model X.prog X.w) A (call (.builtin "len") [.ref a]) Q E s:=by
 obtain ⟨z,hd,vs,rel,dd⟩:=dk_rd I.hok e
 refine call_len_dict hd dd (by rw [<- rel.length]; rw [sizeLine_eq] at z; omega) ?_
 rw [<- rel.length]
 exact h _ _ (I.tok _)
end
def NoSl (i:Expr):Prop:=∀ ov iv,subscripted i false ov iv = operate [ov,iv] (getItem ov iv)
theorem subD_of {prog:Program} {w:World} {A:Around} {E:Value -> Shared -> Prop} {s:Shared} {env:Env} {value slice:Expr} {pos:Pos} {T id:String} {Q:Value -> Shared -> Prop}
  (hl:typeLookup (.type T) "__getitem__" = pure (some (.builtin id))) (hs:NoSl slice)
  (h:wpAny (model prog w) A (eval value env) (fun o s₁=>wpAny (model prog w) A (eval slice env) (fun i s₂=>s₂.TypeIs o T /\ wpAny (model prog w) A (getItem o i) Q E s₂) E s₁) E s) :
  wpAny (model prog w) A (eval (.Subscript value slice pos) env) Q E s:=by
 refine Subscript_ (wpAny_mono h (fun o s₁ h₁=>wpAny_mono h₁ (fun i s₂ h₂=>?_) fun _ _ x=>x) fun _ _ x=>x)
 obtain ⟨hT,h₂⟩:=h₂
 unfold subscriptTail
 refine wpAny_bind ?_
 rw [getitemInPython_of_ne hT.not_modules]
 refine wpAny_bind (wpAny_specialOf hT hl ?_)
 have fin:wpAny (model prog w) A (subscripted slice false o i) (fun r s₃=>wpAny (model prog w) A (letTemporaryGo value o r >>= fun _=>pure r) Q E s₃) E s₂:=by
  rw [hs o i]
  exact wpAny_operating (wpAny_mono h₂ (fun r s₃ h₃=>wpAny_bind (wpAny_letTemporaryGo (wpAny_pure h₃))) fun _ _ x=>x)
 first
  | exact wpAny_pure (wpAny_bind fin)
  | exact wpAny_bind (wpAny_pure (wpAny_bind fin))
  | exact wpAny_bind fin
theorem dict_typeIs {X:Cx} {pins:List (Addr × Obj)} {σ:St} {H:Hp} {s:Shared} {a:Addr} {y:V} {o:Option V} (I:Inv X pins σ H s) (g:DGet H a y o):s.TypeIs (.ref a) "dict":=by
 rcases g with ⟨kvs,k,e,_,_⟩ | ⟨kvs,k,b,e,_,_,_⟩
 ·obtain ⟨_,_,vs,_,dd⟩:=dk_rd I.hok e
  exact dd.typeIs
 ·obtain ⟨_,_,xs,_,dd⟩:=dt_rd I.hok e
  exact dd.typeIs
def tDGet (td ty:TE):TE:=fun σ H Q=>td σ H fun x H1=>ty σ H1 fun y H2=>∃ a v,x = .ref a /\ DGet H2 a y (some v) /\ Q v H2
def sDPut (td ty tv:TE):TS:=fun D σ H=>tv σ H fun v H1=>td σ H1 fun x H2=>ty σ H2 fun y H3=>∃ a H4,x = .ref a /\ DPut H3 a y v H4 /\ D.nx σ H4
section
variable {X:Cx} {o i e value:Expr} {pos pos' tpos:Pos} {td ty tv:TE}
theorem pe_dget (hu:X.A.units + 1 < cLine) (ho:PE X o td) (hi:PE X i ty) (hs:NoSl i):PE X (.Subscript o i pos) (tDGet td ty):=by
 intro pins s σ H Q I h
 refine subD_of PySem.F.slot_dict_getitem.lookup hs (thn (ho pins s σ H _ I h) fun u s1 ⟨x,H1,I1,rx,q1⟩=>thn (hi pins s1 σ H1 _ I1 q1) fun iv s2 ⟨y,H2,I2,ry,a,v,ex,g,q2⟩=>?_)
 subst ex
 obtain rfl:u = Value.ref a:=rx
 exact ⟨dict_typeIs I2 g,d_getItem hu I2 g ry fun w' s3 I3 rw'=>⟨v,H2,I3,rw',q2⟩⟩
theorem ps_dput (hu:X.A.units + 1 < cLine) (ho:PE X o td) (hi:PE X i ty) (hv:PE X value tv) (hs:swapsWith value (some (.Subscript o i pos')) pos.line X.env = pure false) :
  PS X (.Assign [.Subscript o i pos'] value pos) (sDPut td ty tv):=by
 intro pins s σ H D I h
 refine wpAny_Assign_Subscript (thn (hv pins s σ H _ I h) fun r s1 ⟨v,H1,I1,rv,q1⟩=>thn (ho pins s1 σ H1 _ I1 q1) fun u s2 ⟨x,H2,I2,rx,q2⟩=>thn (hi pins s2 σ H2 _ I2 q2) fun iv s3 ⟨y,H3,I3,ry,a,H4,ex,g,q3⟩=>?_) hs
 subst ex
 obtain rfl:u = Value.ref a:=rx
 exact d_setItem hu I3 g ry rv fun s4 I4=>⟨σ,H4,I4,q3⟩
end
theorem dt_empty {P:Program} {w:World} {H:Hp} (h:Heap) (hb:sysModules < h.objs.size):ObjOk P w H (h.push { cls:=.type "dict",data:=.dict #[] }) h.objs.size (.dT []):=
 ⟨Nat.zero_le _,beq_eq_false_iff_ne.mpr (Ne.symm (Nat.ne_of_lt hb)),[],.nil,_,#[],0,Heap.get?_push_size _ rfl,⟨rfl,rfl,rfl⟩,rfl,rfl,List.nodup_nil⟩
def tDNewT:TE:=fun _ H Q=>∀ p,H p = none -> Q (.ref p) (upd H p (.dT []))
section
variable {X:Cx} {pos:Pos}
theorem pe_dnewT:PE X (.Dict [] [] pos) tDNewT:=fun pins s σ H Q I h=>
 wpAny_Dict_empty ⟨.ref s.heap.objs.size,_,I.laid (a:=s.heap.objs.size) (o:=.dT []) (t':=s.toks) (fun _ _ q=>Heap.get?_push_of_some _ q) (Nat.le_refl _) (dt_empty s.heap I.big),rfl,h _ (I.hok.fresh (Nat.le_refl _))⟩
end
structure M2 (X:Cx) (o:Expr) (m:Str) (apos:Pos) (e f:Expr) (cpos:Pos):Prop where
 base:attributeBase o m X.env (eval o X.env) = eval o X.env
 few:((backTo cpos (starEach [e,f] X.env)).all (fun x=>!x.1) && (backToKw cpos (keywordEach [] X.env)).all (fun x=>x.1.isSome)
  && decide (([e,f]:List Expr).length + ([]:List Keyword).length + (if ([]:List Keyword).isEmpty then 0 else 1) < 30)) = true
 line:(apos.endLine == cpos.line) = true
 trees:backTo cpos (starEach [e,f] X.env) = [(false,eval e X.env),(false,eval f X.env)]
section
variable {X:Cx} {pins:List (Addr × Obj)} {σ:St} {H:Hp} {s:Shared} {a:Addr} {y d:V} {u r:Value} {o:Option V} {A:Around} {E:Value -> Shared -> Prop}
end
section
variable {X:Cx} {o e f:Expr} {apos cpos:Pos} {td ty tx:TE}
end
section
variable {X:Cx} {pins:List (Addr × Obj)} {σ:St} {H:Hp} {s:Shared} {a:Addr} {kvs:List (Key × V)} {A:Around} {E:Value -> Shared -> Prop}
end
section
variable {X:Cx} {pins:List (Addr × Obj)} {σ:St} {H:Hp} {s:Shared} {a:Addr} {y:V} {u:Value} {A:Around} {E:Value -> Shared -> Prop}
end
end L2
namespace L2
open PySem PySem.Spec PyProof.Rows
section
variable {X:Cx}
end
end L2
namespace Pu
open PySem
inductive D where
 | non | bl (b:Bool) | int (i:Int) | str (x:Str) | tup (ds:List D) | lst (ds:List D)
 /-- a dict,whose keys are tuples (t) or ints and texts,that no one changes any more (z) or not; a refusal that was taken; a def -/
 | dct (t z:Bool) (ks vs:List D) | exc (c:Str) | fn (x:Str) (i:Nat)
 deriving Inhabited
inductive Rs (α:Type) where
 | ok (a:α) | ex (c:Str) | stuck
def Rs.bind {α β:Type}:Rs α -> (α -> Rs β) -> Rs β
 | .ok a,f=>f a
 | .ex c,_=>.ex c
 | .stuck,_=>.stuck
def Rs.calm {α:Type}:Rs α -> Rs α
 | .ok a=>.ok a
 | .ex _=>.stuck
 | .stuck=>.stuck
@[simp] theorem Rs.calm_ok {α:Type} (a:α):(Rs.ok a).calm = .ok a:=rfl
def Rs.Good {α:Type} (r:Rs α) (P:α -> Prop) (E:Str -> Prop):Prop:=
 match r with
 | .ok a=>P a
 | .ex c=>E c
 | .stuck=>False
@[simp] theorem Rs.bind_ok {α β:Type} (a:α) (f:α -> Rs β):(Rs.ok a).bind f = f a:=rfl
@[simp] theorem Rs.bind_ex {α β:Type} (c:Str) (f:α -> Rs β):(Rs.ex c:Rs α).bind f = .ex c:=rfl
@[simp] theorem Rs.bind_stuck {α β:Type} (f:α -> Rs β):(Rs.stuck:Rs α).bind f = .stuck:=rfl
theorem Rs.bind_assoc {α β γ:Type} (r:Rs α) (f:α -> Rs β) (g:β -> Rs γ):(r.bind f).bind g = r.bind fun a=>(f a).bind g:=by
 cases r <;> rfl
theorem Rs.good_bind {α β:Type} {r:Rs α} {f:α -> Rs β} {P:β -> Prop} {E:Str -> Prop}:(r.bind f).Good P E ↔ r.Good (fun a=>(f a).Good P E) E:=by
 cases r <;> rfl
theorem Rs.good_calm {α:Type} {r:Rs α} {P:α -> Prop} {E E':Str -> Prop} (h:r.calm.Good P E):r.Good P E':=by
 cases r with
 | ok a=>exact h
 | ex c=>exact h.elim
 | stuck=>exact h
theorem Rs.Good.mono {α:Type} {r:Rs α} {P P':α -> Prop} {E E':Str -> Prop} (h:r.Good P E) (hp:∀ a,P a -> P' a) (he:∀ c,E c -> E' c):r.Good P' E':=by
 cases r with
 | ok a=>exact hp a h
 | ex c=>exact he c h
 | stuck=>exact h
theorem Rs.Good.imp {α:Type} {r:Rs α} {P P':α -> Prop} {E:Str -> Prop} (h:r.Good P E) (hp:∀ a,P a -> P' a):r.Good P' E:=h.mono hp fun _ x=>x
mutual
def D.eqv:D -> D -> Bool
 | .non,.non=>true
 | .bl a,.bl b=>a == b
 | .bl a,.int b=>(if a then 1 else 0) == b
 | .int a,.bl b=>a == (if b then 1 else 0)
 | .int a,.int b=>a == b
 | .str a,.str b=>a == b
 | .tup as,.tup bs=>eqvs as bs
 | .lst as,.lst bs=>eqvs as bs
 | _,_=>false
def eqvs:List D -> List D -> Bool
 | [],[]=>true
 | a :: as,b :: bs=>D.eqv a b && eqvs as bs
 | _,_=>false
end
mutual
def D.imm:D -> Bool
 | .tup ds=>imms ds
 | .lst _=>false
 | .dct _ z _ vs=>z && imms vs
 | _=>true
def imms:List D -> Bool
 | []=>true
 | d :: ds=>D.imm d && imms ds
end
mutual
def D.dep:D -> Nat
 | .tup ds=>deps ds + 1
 | .lst ds=>deps ds + 1
 | .dct _ _ _ _=>1000
 | .exc _=>1000
 | .fn _ _=>1000
 | _=>0
def deps:List D -> Nat
 | []=>0
 | d :: ds=>max (D.dep d) (deps ds)
end
def ixn (n:Nat) (i:Int):Option Nat:=if 0 <= i then (if i < n then some i.toNat else none) else if -(n:Int) <= i then some (i + n).toNat else none
def atD {α:Type} (xs:List α) (i:Int):Option α:=(ixn xs.length i).bind fun j=>xs[j]?
def six (n d:Nat):Option Int -> Nat
 | none=>d
 | some v=>if v < 0 then (v + (n:Int)).toNat else min v.toNat n
def cutD {α:Type} (xs:List α) (lo hi:Option Int):List α:=(xs.drop (six xs.length 0 lo)).take (six xs.length xs.length hi - six xs.length 0 lo)
def lineD:Nat:=16777216
def Rs.ofOpt {α:Type}:Option α -> Rs α
 | some a=>.ok a
 | none=>.stuck
def chars (x:Str):List D:=x.cps.toList.map fun c=>.str ⟨#[c]⟩
def D.walk:D -> Rs (List D)
 | .tup ds=>.ok ds
 | .lst ds=>.ok ds
 | .str x=>.ok (chars x)
 | _=>.stuck
def D.truth:D -> Rs Bool
 | .non=>.ok false
 | .bl b=>.ok b
 | .int i=>.ok (i != 0)
 | .str x=>if x.length <= lineD then .ok ((x.length:Int) != 0) else .stuck
 | .tup ds=>.ok (!ds.isEmpty)
 | .lst ds=>.ok (!ds.isEmpty)
 | _=>.stuck
def D.bound:D -> Rs (Option Int)
 | .non=>.ok none
 | .int i=>.ok (some i)
 | _=>.stuck
def ltS (a b:Str):Bool:=decide (a.cps.toList < b.cps.toList)
def insS (x:Str):List Str -> List Str
 | []=>[x]
 | y :: ys=>if x == y then y :: ys else if ltS x y then x :: y :: ys else y :: insS x ys
def sortS:List Str -> List Str
 | []=>[]
 | x :: xs=>insS x (sortS xs)
def strsOf:List D -> Option (List Str)
 | []=>some []
 | .str x :: ds=>(strsOf ds).map (x :: ·)
 | _ :: _=>none
inductive O1 where
 | neg | not | isN | notN | isT | notT | isF | notF | len | all | any | tuple | list | sset | lset | truth | isStr | isTup | isLst | isInt | isBool | range | enum | ints | asI | rows | asT
 | isC (cs:List Str) (c:Str) | items | dictP | rev | strI | join | rngT | dLen | minL | sortT | sumI | revT | dKeys
 deriving DecidableEq
inductive O2 where
 | add | sub | mul | fdiv | mod | pow | eq | ne | lt | le | gt | ge | isin | notin | idx | zip | starts | range2 | rep | repT | index | count | addI | dIn (t:Bool) | dNi (t:Bool) | dGet (t:Bool) | ltL | gtT | indexT | mulI
 deriving DecidableEq
def smallI (i:Int):Bool:=decide (-(2 ^ 64) < i) && decide (i < 2 ^ 64)
def midI (i:Int):Bool:=decide (-(2 ^ 62) <= i) && decide (i < 2 ^ 62)
def okDep (a:D):Bool:=decide (a.dep <= 20)
def upTo (lo:Int) (n:Nat):List D:=(List.range n).map fun (k:Nat)=>D.int (lo + (k:Int))
def enumFrom (k:Nat):List D -> List D
 | []=>[]
 | d :: ds=>.tup [.int k,d] :: enumFrom (k + 1) ds
def zipD:List D -> List D -> List D
 | a :: as,b :: bs=>.tup [a,b] :: zipD as bs
 | _,_=>[]
def blsOf:List D -> Option (List Bool)
 | []=>some []
 | .bl b :: ds=>(blsOf ds).map (b :: ·)
 | _ :: _=>none
def digs (cs:List Nat):Nat:=cs.foldl (fun acc c=>acc * 10 + (c - 48)) 0
def isFig (c:Nat):Bool:=decide (48 <= c) && decide (c <= 57)
def pieceD:D -> Option Str
 | .str x=>if x.length <= 1000 then some x else none
 | .int i=>if i.natAbs < 2 ^ 64 then some (toString i:String) else none
 | _=>none
def joinD:List D -> Option Str
 | []=>some Str.empty
 | d :: ds=>match pieceD d,joinD ds with
  | some x,some y=>if x.length + y.length <= 2000 then some (x ++ y) else none
  | _,_=>none
def rowsD:List D -> Option (List D × List D)
 | []=>some ([],[])
 | .tup [.str k,v] :: ds=>match rowsD ds with
  | some (ks,vs)=>some (.str k :: ks,v :: vs)
  | none=>none
 | _ :: _=>none
def banD (x:Str):Bool:=x == Str.ofString "any" || x == Str.ofString "number" || x == Str.ofString "one" || x == Str.ofString "rest" || x == Str.ofString "word"
def keyB:D -> Bool
 | .int _=>true
 | .str _=>true
 | _=>false
def keyI:D -> Bool
 | .int _=>true
 | _=>false
def keyS:D -> Bool
 | .str x=>!banD x
 | _=>false
def keyD (t:Bool):D -> Bool
 | .tup ds=>t && (ds.all keyI || ds.all keyS)
 | d=>!t && keyB d
def lookD (k:D):List D -> List D -> Option D
 | a :: ks,v :: vs=>if a.eqv k then some v else lookD k ks vs
 | _,_=>none
def setD (k v:D):List D -> List D -> List D
 | a :: ks,u :: vs=>(if a.eqv k then v else u) :: setD k v ks vs
 | _,vs=>vs
def putD (k v:D) (ks vs:List D):List D × List D:=if ks.any fun a=>a.eqv k then (ks,setD k v ks vs) else (ks ++ [k],vs ++ [v])
def idxD (x:D):List D -> Option Nat
 | []=>none
 | d :: ds=>if d.eqv x then some 0 else (idxD x ds).map (· + 1)
def minLen:List D -> Option (List D)
 | []=>none
 | .tup xs :: ds=>match minLen ds with
  | some ys=>if ys.length < xs.length then some ys else some xs
  | none=>if ds.isEmpty then some xs else none
 | _ :: _=>none
def intsOf:List D -> Option (List Int)
 | []=>some []
 | .int i :: ds=>(intsOf ds).map (i :: ·)
 | _ :: _=>none
def lexI:List Int -> List Int -> Bool
 | [],[]=>false
 | [],_ :: _=>true
 | _ :: _,[]=>false
 | i :: is,j :: js=>if i = j then lexI is js else decide (i < j)
def insK (x:List Int × D):List (List Int × D) -> List (List Int × D)
 | []=>[x]
 | y :: ys=>if lexI y.1 x.1 then y :: insK x ys else x :: y :: ys
def sortK:List (List Int × D) -> List (List Int × D)
 | []=>[]
 | x :: xs=>insK x (sortK xs)
def keysOf:List D -> Option (List (List Int))
 | []=>some []
 | .tup ks :: ds=>match intsOf ks,keysOf ds with
  | some k,some r=>some (k :: r)
  | _,_=>none
 | _ :: _=>none
def headsOf:List D -> Option (List Str)
 | []=>some []
 | .tup (.str x :: _) :: ds=>(headsOf ds).map (x :: ·)
 | _ :: _=>none
def insT (x:Str × D):List (Str × D) -> List (Str × D)
 | []=>[x]
 | y :: ys=>if ltS y.1 x.1 then y :: insT x ys else x :: y :: ys
def sortT:List (Str × D) -> List (Str × D)
 | []=>[]
 | x :: xs=>insT x (sortT xs)
def dictPD (ds:List D):Rs D:=match rowsD ds with
 | some (ks,vs)=>if ks.Pairwise (fun a b=>a.eqv b = false) /\ ks.length <= 1000 then .ok (.dct false true ks vs) else .stuck
 | none=>.stuck
def dspD (t:Bool) (ks vs:List D):Rs D:=match t with
 | true=>match ks,vs with
  | [k],[v]=>if keyD true k then .ok (.dct true true [k] [v]) else .stuck
  | _,_=>.stuck
 | false=>if ks.all keyB && decide (ks.Pairwise fun a b=>a.eqv b = false) && decide (ks.length = vs.length) && decide (ks.length <= 15) then .ok (.dct false true ks vs) else .stuck
def isiD (f:D -> Bool):D -> Rs D
 | .dct _ _ _ _=>.stuck
 | .exc _=>.stuck
 | .fn _ _=>.stuck
 | d=>.ok (.bl (f d))
def op1 (o:O1) (d:D):Rs D:=
 match o with
 | .neg=>match d with
  | .int i=>.ok (.int (-i))
  | _=>.stuck
 | .not=>match d with
  | .bl b=>.ok (.bl !b)
  | _=>.stuck
 | .isN=>match d with
  | .non=>.ok (.bl true)
  | _=>.ok (.bl false)
 | .notN=>match d with
  | .non=>.ok (.bl false)
  | _=>.ok (.bl true)
 | .isT=>match d with
  | .bl b=>.ok (.bl b)
  | _=>.stuck
 | .notT=>match d with
  | .bl b=>.ok (.bl !b)
  | _=>.stuck
 | .isF=>match d with
  | .bl b=>.ok (.bl !b)
  | _=>.stuck
 | .notF=>match d with
  | .bl b=>.ok (.bl b)
  | _=>.stuck
 | .len=>match d with
  | .tup ds=>.ok (.int ds.length)
  | .lst ds=>.ok (.int ds.length)
  | .str x=>if x.length <= lineD then .ok (.int x.length) else .stuck
  | _=>.stuck
 | .all=>match d with
  | .lst ds=>match blsOf ds with
   | some bs=>.ok (.bl (bs.all id))
   | none=>.stuck
  | _=>.stuck
 | .any=>match d with
  | .lst ds=>match blsOf ds with
   | some bs=>.ok (.bl (bs.any id))
   | none=>.stuck
  | _=>.stuck
 | .tuple=>match d with
  | .tup ds=>.ok (.tup ds)
  | .lst ds=>.ok (.tup ds)
  | _=>.stuck
 | .list=>match d with
  | .tup ds=>.ok (.lst ds)
  | .lst ds=>.ok (.lst ds)
  | _=>.stuck
 | .sset=>match d with
  | .lst ds=>match strsOf ds with
   | some ss=>if ss.length < 60 then .ok (.lst ((sortS ss).map .str)) else .stuck
   | none=>.stuck
  | _=>.stuck
 | .lset=>match d with
  | .lst ds=>match strsOf ds with
   | some ss=>if ss.length < 60 then .ok (.int (sortS ss).length) else .stuck
   | none=>.stuck
  | _=>.stuck
 | .truth=>d.truth.bind fun b=>.ok (.bl b)
 | .isStr=>isiD (fun d=>match d with
   | .str _=>true
   | _=>false) d
 | .isTup=>isiD (fun d=>match d with
   | .tup _=>true
   | _=>false) d
 | .isLst=>isiD (fun d=>match d with
   | .lst _=>true
   | _=>false) d
 | .isInt=>isiD (fun d=>match d with
   | .int _=>true
   | .bl _=>true
   | _=>false) d
 | .isBool=>isiD (fun d=>match d with
   | .bl _=>true
   | _=>false) d
 | .range=>match d with
  | .int i=>if midI i then .ok (.lst (upTo 0 i.toNat)) else .stuck
  | _=>.stuck
 | .enum=>match d with
  | .tup ds=>.ok (.lst (enumFrom 0 ds))
  | .lst ds=>.ok (.lst (enumFrom 0 ds))
  | _=>.stuck
 | .ints=>match d with
  | .str x=>if x.cps.toList.all isFig && decide (x.cps.toList ≠ []) && decide (x.cps.toList.length <= 640) then .ok (.int (digs x.cps.toList)) else .stuck
  | _=>.stuck
 | .asI=>match d with
  | .int i=>.ok (.int i)
  | _=>.stuck
 | .rows=>match d with
  | .tup ds=>.ok (.tup ds)
  | .lst ds=>.ok (.lst ds)
  | _=>.stuck
 | .asT=>match d with
  | .tup ds=>.ok (.tup ds)
  | _=>.stuck
 | .dKeys=>match d with
  | .dct true _ ks _=>.ok (.lst ks)
  | _=>.stuck
 | .dLen=>match d with
  | .dct _ _ ks _=>.ok (.int ks.length)
  | _=>.stuck
 | .isC cs c=>match d with
  | .exc c'=>if cs.contains c' then .ok (.bl (c == Str.ofString "ValueError" || c' == c)) else .stuck
  | _=>.stuck
 | .items=>match d with
  | .dct _ true ks vs=>.ok (.lst (zipD ks vs))
  | _=>.stuck
 | .dictP=>match d with
  | .tup ds=>dictPD ds
  | .lst ds=>dictPD ds
  | _=>.stuck
 | .rev=>match d with
  | .lst ds=>.ok (.lst ds.reverse)
  | _=>.stuck
 | .strI=>match d with
  | .str x=>if x.length <= 1000 then .ok (.str x) else .stuck
  | .int i=>if i.natAbs < 2 ^ 64 then .ok (.str (toString i:String)) else .stuck
  | _=>.stuck
 | .join=>match d with
  | .lst ds=>match joinD ds with
   | some x=>.ok (.str x)
   | none=>.stuck
  | _=>.stuck
 | .minL=>match d with
  | .lst []=>.ok .non
  | .lst (d :: ds)=>match minLen (d :: ds) with
   | some xs=>.ok (.tup xs)
   | none=>.stuck
  | _=>.stuck
 | .sortT=>match d with
  | .lst ds=>match headsOf ds with
   | some xs=>if xs.Nodup /\ ds.length < 60 then .ok (.lst ((sortT (xs.zip ds)).map (·.2))) else .stuck
   | none=>.stuck
  | _=>.stuck
 | .revT=>match d with
  | .tup ds=>.ok (.tup ds.reverse)
  | _=>.stuck
 | .sumI=>match d with
  | .lst ds=>match intsOf ds with
   | some is=>if is.all (fun i=>decide (0 <= i /\ i <= 1000000)) && decide (is.length <= 1000) then .ok (.int is.sum) else .stuck
   | none=>.stuck
  | _=>.stuck
 | .rngT=>match d with
  | .int i=>if 0 <= i /\ i <= 1000 then .ok (.tup (upTo 0 i.toNat)) else .stuck
  | _=>.stuck
def repS (x:Str) (k:Int):Str:=⟨(List.replicate k.toNat x.cps).foldl (· ++ ·) #[]⟩
def hasSign (x:Str) (c:Nat):Bool:=decide (c ∈ x.cps.toList)
def op2 (o:O2) (a b:D):Rs D:=
 match o with
 | .add=>match a,b with
  | .int i,.int j=>.ok (.int (i + j))
  | .str x,.str y=>if x.length + y.length <= lineD then .ok (.str (x ++ y)) else .stuck
  | .tup xs,.tup ys=>if xs.length + ys.length <= lineD then .ok (.tup (xs ++ ys)) else .stuck
  | .lst xs,.lst ys=>if xs.length + ys.length <= lineD then .ok (.lst (xs ++ ys)) else .stuck
  | _,_=>.stuck
 | .addI=>match a,b with
  | .int i,.int j=>.ok (.int (i + j))
  | _,_=>.stuck
 | .sub=>match a,b with
  | .int i,.int j=>.ok (.int (i - j))
  | _,_=>.stuck
 | .mul=>match a,b with
  | .int i,.int j=>if smallI i || smallI j then .ok (.int (i * j)) else .stuck
  | .str x,.int k=>if 2 <= k /\ k <= 1000 /\ 1 <= x.length /\ x.length <= 1000 then .ok (.str (repS x k)) else .stuck
  | _,_=>.stuck
 | .fdiv=>match a,b with
  | .int i,.int j=>if 0 < j /\ j < 1073741824 then .ok (.int (i / j)) else .stuck
  | _,_=>.stuck
 | .mod=>match a,b with
  | .int i,.int j=>if 0 < j then .ok (.int (i % j)) else .stuck
  | _,_=>.stuck
 | .pow=>match a,b with
  | .int i,.int j=>if 0 <= j /\ j <= 1000000 /\ i.natAbs < 2 ^ 64 then .ok (.int (i ^ j.toNat)) else .stuck
  | _,_=>.stuck
 | .eq=>if okDep a && okDep b then .ok (.bl (a.eqv b)) else .stuck
 | .ne=>if okDep a && okDep b then .ok (.bl (!a.eqv b)) else .stuck
 | .lt=>match a,b with
  | .int i,.int j=>.ok (.bl (decide (i < j)))
  | .str x,.str y=>.ok (.bl (ltS x y))
  | _,_=>.stuck
 | .ltL=>match a,b with
  | .lst xs,.lst ys=>match intsOf xs,intsOf ys with
   | some is,some js=>if is.length <= 1000 /\ js.length <= 1000 then .ok (.bl (lexI is js)) else .stuck
   | _,_=>.stuck
  | _,_=>.stuck
 | .gtT=>match a,b with
  | .tup [.lst xs,.int i],.tup [.lst ys,.int j]=>match intsOf xs,intsOf ys with
   | some is,some js=>if is.length <= 1000 /\ js.length <= 1000 then .ok (.bl (if is = js then decide (j < i) else lexI js is)) else .stuck
   | _,_=>.stuck
  | _,_=>.stuck
 | .le=>match a,b with
  | .int i,.int j=>.ok (.bl (decide (i <= j)))
  | _,_=>.stuck
 | .gt=>match a,b with
  | .int i,.int j=>.ok (.bl (decide (j < i)))
  | _,_=>.stuck
 | .ge=>match a,b with
  | .int i,.int j=>.ok (.bl (decide (j <= i)))
  | _,_=>.stuck
 | .isin=>match a,b with
  | .str x,.str y=>if x.cps = #[x.cps.getD 0 0] then .ok (.bl (hasSign y (x.cps.getD 0 0))) else .stuck
  | a,.tup ds=>if okDep (.tup ds) && okDep a then .ok (.bl (ds.any fun d=>d.eqv a)) else .stuck
  | a,.lst ds=>if okDep (.lst ds) && okDep a then .ok (.bl (ds.any fun d=>d.eqv a)) else .stuck
  | _,_=>.stuck
 | .notin=>match a,b with
  | .str x,.str y=>if x.cps = #[x.cps.getD 0 0] then .ok (.bl (!hasSign y (x.cps.getD 0 0))) else .stuck
  | a,.tup ds=>if okDep (.tup ds) && okDep a then .ok (.bl (!ds.any fun d=>d.eqv a)) else .stuck
  | a,.lst ds=>if okDep (.lst ds) && okDep a then .ok (.bl (!ds.any fun d=>d.eqv a)) else .stuck
  | _,_=>.stuck
 | .idx=>match a,b with
  | .tup ds,.int i=>Rs.ofOpt (atD ds i)
  | .lst ds,.int i=>Rs.ofOpt (atD ds i)
  | .str x,.int i=>if x.length <= lineD then Rs.ofOpt ((atD x.cps.toList i).map fun c=>.str ⟨#[c]⟩) else .stuck
  | _,_=>.stuck
 | .zip=>match a,b with
  | .tup xs,.tup ys=>.ok (.lst (zipD xs ys))
  | .lst xs,.lst ys=>.ok (.lst (zipD xs ys))
  | .tup xs,.lst ys=>.ok (.lst (zipD xs ys))
  | .lst xs,.tup ys=>.ok (.lst (zipD xs ys))
  | _,_=>.stuck
 | .starts=>match a,b with
  | .str x,.str y=>.ok (.bl (decide (0 + y.length <= x.length) && (x.cps.extract 0 (0 + y.length) == y.cps)))
  | _,_=>.stuck
 | .rep=>match a,b with
  | .lst ds,.int k=>if midI k && decide (ds.length * k.toNat <= lineD) then .ok (.lst (List.replicate k.toNat ds).flatten) else .stuck
  | _,_=>.stuck
 | .repT=>match a,b with
  | .tup ds,.int k=>if decide (2 <= k) && decide (ds ≠ []) && decide (ds.length * k.toNat <= lineD) then .ok (.tup (List.replicate k.toNat ds).flatten) else .stuck
  | _,_=>.stuck
 | .dIn t'=>match a,b with
  | k,.dct t _ ks _=>if t = t' /\ keyD t k = true then .ok (.bl (ks.any fun d=>d.eqv k)) else .stuck
  | _,_=>.stuck
 | .dNi t'=>match a,b with
  | k,.dct t _ ks _=>if t = t' /\ keyD t k = true then .ok (.bl (!ks.any fun d=>d.eqv k)) else .stuck
  | _,_=>.stuck
 | .dGet t'=>match a,b with
  | .dct t _ ks vs,k=>if t = t' /\ keyD t k = true then Rs.ofOpt (lookD k ks vs) else .stuck
  | _,_=>.stuck
 | .mulI=>match a,b with
  | .int i,.int j=>if smallI i || smallI j then .ok (.int (i * j)) else .stuck
  | _,_=>.stuck
 | .indexT=>match a,b with
  | .tup ds,x=>if okDep (.tup ds) && okDep x && decide (ds.length <= 1000) then Rs.ofOpt ((idxD x ds).map fun n=>.int n) else .stuck
  | _,_=>.stuck
 | .index=>match a,b with
  | .lst ds,x=>if okDep (.lst ds) && okDep x && decide (ds.length <= 1000) then Rs.ofOpt ((idxD x ds).map fun n=>.int n) else .stuck
  | _,_=>.stuck
 | .count=>match a,b with
  | .lst ds,x=>if okDep (.lst ds) && okDep x && decide (ds.length <= 1000) then .ok (.int (ds.countP fun d=>d.eqv x)) else .stuck
  | _,_=>.stuck
 | .range2=>match a,b with
  | .int i,.int j=>if midI i && midI j then .ok (.lst (upTo i (j - i).toNat)) else .stuck
  | _,_=>.stuck
inductive Px where
 | var (i:Nat) | con (d:D)
 | un (o:O1) (a:Px) | bi (o:O2) (a b:Px)
 | and (a b:Px) | or (a b:Px) | ite (c a b:Px)
 | nil | cons (a as:Px) | tup (as:Px) | dis (as:Px)
 | call (f:Nat) (as:Px)
 | sl (a lo hi:Px)
 | walk (a:Px)
 | comp (nt:Nat) (src c e:Px)
 | dsp (t:Bool) (ks vs:Px)
 /-- a call of what is in a name; sorted by a def -/
 | callv (fs:List (Str × Nat)) (a as:Px) | sortK (f:Nat) (a:Px)
 deriving Inhabited
def usesP:Px -> Nat -> Bool
 | .var j,i=>j == i
 | .con _,_=>false
 | .un _ a,i=>usesP a i
 | .bi _ a b,i=>usesP a i || usesP b i
 | .and a b,i=>usesP a i || usesP b i
 | .or a b,i=>usesP a i || usesP b i
 | .ite c a b,i=>usesP c i || usesP a i || usesP b i
 | .nil,_=>false
 | .cons a b,i=>usesP a i || usesP b i
 | .tup a,i=>usesP a i
 | .dis a,i=>usesP a i
 | .call _ a,i=>usesP a i
 | .sl a b c,i=>usesP a i || usesP b i || usesP c i
 | .walk a,i=>usesP a i
 | .comp nt s c e,i=>usesP s i || usesP c (i + (if nt = 0 then 1 else nt)) || usesP e (i + (if nt = 0 then 1 else nt))
 | .dsp _ a b,i=>usesP a i || usesP b i
 | .callv _ a b,i=>usesP a i || usesP b i
 | .sortK _ a,i=>usesP a i
def sepP (M:List Nat) (p:Px):Bool:=M.all fun i=>!usesP p i
abbrev Fm:=List (Option D)
def bindT (nt:Nat) (d:D):Rs Fm:=
 if nt = 0 then .ok [some d] else match d with
  | .tup ds=>if ds.length = nt then .ok (ds.map some) else .stuck
  | _=>.stuck
theorem bindT_ex {nt:Nat} {d:D} {c:Str} (h:bindT nt d = .ex c):False:=by
 unfold bindT at h
 split at h
 ·cases h
 ·split at h
  ·split at h <;> cases h
  ·cases h
def compL (nt:Nat) (c e:Fm -> Rs D) (env:Fm):List D -> Rs (List D)
 | []=>.ok []
 | d :: ds=>(bindT nt d).bind fun new=>(c (new ++ env)).calm.bind fun b=>match b with
  | .bl true=>(e (new ++ env)).calm.bind fun y=>(compL nt c e env ds).bind fun ys=>.ok (y :: ys)
  | .bl false=>compL nt c e env ds
  | _=>.stuck
abbrev CallD:=Nat -> List D -> Rs D
def D.asL:D -> Rs (List D)
 | .lst ds=>.ok ds
 | _=>.stuck
def mapR (f:D -> Rs D):List D -> Rs (List D)
 | []=>.ok []
 | d :: ds=>(f d).bind fun y=>(mapR f ds).bind fun ys=>.ok (y :: ys)
def evD (call:CallD):Px -> Fm -> Rs D
 | .var i,env=>match env[i]? with
  | some (some d)=>.ok d
  | _=>.stuck
 | .con d,_=>.ok d
 | .un o a,env=>(evD call a env).bind (op1 o)
 | .bi o a b,env=>(evD call a env).bind fun x=>(evD call b env).bind fun y=>op2 o x y
 | .and a b,env=>(evD call a env).bind fun x=>match x with
  | .bl true=>evD call b env
  | .bl false=>.ok (.bl false)
  | _=>.stuck
 | .or a b,env=>(evD call a env).bind fun x=>match x with
  | .bl true=>.ok (.bl true)
  | .bl false=>evD call b env
  | _=>.stuck
 | .ite c a b,env=>(evD call c env).bind fun x=>match x with
  | .bl true=>evD call a env
  | .bl false=>evD call b env
  | _=>.stuck
 | .nil,_=>.ok (.lst [])
 | .cons a as,env=>(evD call a env).bind fun x=>(evD call as env).bind fun y=>y.asL.bind fun ds=>.ok (.lst (x :: ds))
 | .tup as,env=>(evD call as env).bind fun y=>y.asL.bind fun ds=>if ds.length <= lineD then .ok (.tup ds) else .stuck
 | .dis as,env=>(evD call as env).bind fun y=>y.asL.bind fun ds=>if ds.length <= lineD then .ok (.lst ds) else .stuck
 | .call f as,env=>(evD call as env).bind fun y=>y.asL.bind fun ds=>call f ds
 | .sl a lo hi,env=>(evD call a env).bind fun x=>(evD call lo env).bind fun l=>l.bound.bind fun l=>(evD call hi env).bind fun h=>h.bound.bind fun h=>match x with
  | .tup ds=>.ok (.tup (cutD ds l h))
  | .lst ds=>.ok (.lst (cutD ds l h))
  | _=>.stuck
 | .walk a,env=>(evD call a env).bind fun x=>x.walk.bind fun ds=>.ok (.lst ds)
 | .comp nt src c e,env=>(evD call src env).bind fun s=>s.asL.bind fun ds=>if ds.length <= lineD then (compL nt (evD call c) (evD call e) env ds).bind fun ys=>.ok (.lst ys) else .stuck
 | .dsp t k v,env=>(evD call k env).bind fun x=>(evD call v env).bind fun y=>x.asL.bind fun ks=>y.asL.bind fun vs=>dspD t ks vs
 | .callv fs a as,env=>(evD call a env).bind fun x=>match x with
  | .fn n i=>if fs.contains (n,i) then (evD call as env).bind fun y=>y.asL.bind fun ds=>call i ds else .stuck
  | _=>.stuck
 | .sortK f a,env=>(evD call a env).bind fun x=>x.walk.bind fun ds=>(mapR (fun d=>call f [d]) ds).calm.bind fun ks=>match keysOf ks with
  | some is=>if 2 <= ds.length /\ ds.length <= 5 /\ is.all (fun k=>!k.isEmpty) = true then .ok (.lst ((sortK (is.zip ds)).map (·.2))) else .stuck
  | none=>.stuck
inductive Sx where
 | skip | seq (a b:Sx)
 /-- m: the expression reads what is changed here; then nothing that can be changed comes out of it -/
 | set (m:Bool) (i:Nat) (e:Px) | own (i:Nat) (e:Px)
 | app (m:Bool) (i:Nat) (e:Px) | ext (m:Bool) (i:Nat) (e:Px)
 | eff (e:Px) | ret (e:Px) | retN
 | ite (c:Px) (a b:Sx)
 | loop (m:Bool) (ts:List Nat) (nt:Nat) (src:Px) (body:Sx)
 | brk | cnt | raise (c:Str) (p:Px)
 | whl (n:Nat) (c:Px) (body:Sx)
 | put (m t:Bool) (i:Nat) (k v:Px) | ownD (t:Bool) (i:Nat) | retF (i:Nat)
 | tryC (i:Nat) (e:Px) (j:Nat) (cs:List Str)
 | mov (i j:Nat)
 /-- a list's item set,taken out,put in -/
 | seti (i:Nat) (k v:Px) | popi (t i:Nat) (k:Px) | insi (i:Nat) (k v:Px)
 /-- from here on other places are own ones; those in is are forgotten -/
 | sw (is:List Nat) (b:Sx)
 deriving Inhabited
inductive Fw where
 | nx | rt (d:D) | bk | ct
def setAll:List Nat -> List (Option D) -> Fm -> Fm
 | i :: is,s :: ss,env=>setAll is ss (env.set i s)
 | _,_,env=>env
def forL (ts:List Nat) (nt:Nat) (body:Fm -> Rs (Fw × Fm)):List D -> Fm -> Rs (Fw × Fm)
 | [],env=>.ok (.nx,env)
 | d :: ds,env=>(bindT nt d).bind fun new=>(body (setAll ts new env)).bind fun r=>match r with
  | (.nx,env2)=>forL ts nt body ds env2
  | (.ct,env2)=>forL ts nt body ds env2
  | (.bk,env2)=>.ok (.nx,env2)
  | (.rt d,env2)=>.ok (.rt d,env2)
def whlL (c:Fm -> Rs D) (body:Fm -> Rs (Fw × Fm)):Nat -> Fm -> Rs (Fw × Fm)
 | 0,_=>.stuck
 | n + 1,env=>(c env).bind fun b=>match b with
  | .bl true=>(body env).bind fun r=>match r with
   | (.nx,env2)=>whlL c body n env2
   | (.ct,env2)=>whlL c body n env2
   | (.bk,env2)=>.ok (.nx,env2)
   | (.rt d,env2)=>.ok (.rt d,env2)
  | .bl false=>.ok (.nx,env)
  | _=>.stuck
def txtOk:D -> Bool
 | .str x=>decide (x.length <= 1000) && x.cps.toList.all fun c=>decide (c < 256)
 | _=>false
def msgOk:D -> Bool
 | .lst ds=>ds.all txtOk
 | _=>false
def catchC (j:Nat) (cs:List Str) (env:Fm):Rs (Fw × Fm) -> Rs (Fw × Fm)
 | .ex c=>if cs.contains c then .ok (.nx,(env.map fun _=>none).set j (some (.exc c))) else .stuck
 | r=>r
def mutS:Sx -> Bool
 | .seq a b=>mutS a || mutS b
 | .app _ _ _=>true
 | .ext _ _ _=>true
 | .ite _ a b=>mutS a || mutS b
 | .loop _ _ _ _ b=>mutS b
 | .whl _ _ b=>mutS b
 | .put _ _ _ _ _=>true
 | .seti _ _ _=>true
 | .popi _ _ _=>true
 | .insi _ _ _=>true
 | _=>false
def blankD (M:List Nat):Nat -> Fm -> Fm
 | _,[]=>[]
 | j,s :: env=>(if j ∈ M then none else s) :: blankD M (j + 1) env
def swOut:Rs (Fw × Fm) -> Rs (Fw × Fm)
 | .ok (.rt d,env)=>.ok (.rt d,env)
 | .ok _=>.stuck
 | .ex c=>.ex c
 | .stuck=>.stuck
def exD (call:CallD):Sx -> Fm -> Rs (Fw × Fm)
 | .skip,env=>.ok (.nx,env)
 | .seq a b,env=>(exD call a env).bind fun r=>match r with
  | (.nx,env2)=>exD call b env2
  | r=>.ok r
 | .set m i e,env=>(evD call e env).bind fun d=>if m && !d.imm then .stuck else .ok (.nx,env.set i (some d))
 | .own i e,env=>(evD call e env).bind fun d=>match d with
  | .lst ds=>if !imms ds then .stuck else .ok (.nx,env.set i (some (.lst ds)))
  | _=>.stuck
 | .ownD t i,env=>.ok (.nx,env.set i (some (.dct t false [] [])))
 | .retF i,env=>match env[i]? with
  | some (some (.dct t false ks vs))=>.ok (.rt (.dct t true ks vs),env)
  | _=>.stuck
 | .app m i e,env=>match env[i]? with
  | some (some (.lst ds))=>(evD call e env).bind fun d=>if (m && !d.imm) || !decide (ds.length < lineD) then .stuck else .ok (.nx,env.set i (some (.lst (ds ++ [d]))))
  | _=>.stuck
 | .ext m i e,env=>match env[i]? with
  | some (some (.lst ds))=>(evD call e env).bind fun y=>y.asL.bind fun es=>if (m && !imms es) || !decide (ds.length + es.length <= lineD) then .stuck else .ok (.nx,env.set i (some (.lst (ds ++ es))))
  | _=>.stuck
 | .eff e,env=>(evD call e env).bind fun _=>.ok (.nx,env)
 | .ret e,env=>(evD call e env).bind fun d=>.ok (.rt d,env)
 | .retN,env=>.ok (.rt .non,env)
 | .ite c a b,env=>(evD call c env).bind fun x=>match x with
  | .bl true=>exD call a env
  | .bl false=>exD call b env
  | _=>.stuck
 | .loop m ts nt src body,env=>(evD call src env).bind fun s=>s.asL.bind fun ds=>if m && (mutS body || !imms ds) then .stuck else forL ts nt (exD call body) ds env
 | .brk,env=>.ok (.bk,env)
 | .cnt,env=>.ok (.ct,env)
 | .raise c p,env=>(evD call p env).bind fun d=>if msgOk d then .ex c else .stuck
 | .whl n c body,env=>whlL (evD call c) (exD call body) n env
 | .put m t' i k v,env=>match env[i]? with
  | some (some (.dct t false ks vs))=>(evD call v env).bind fun y=>(evD call k env).bind fun x=>if (m && !y.imm) || !(t == t') || !keyD t x || !decide (ks.length < 1000) then .stuck else .ok (.nx,env.set i (some (.dct t false (putD x y ks vs).1 (putD x y ks vs).2)))
  | _=>.stuck
 | .tryC i e j cs,env=>catchC j cs env ((evD call e env).bind fun d=>.ok (.nx,env.set i (some d)))
 | .mov i j,env=>match env[j]? with
  | some (some (.lst ds))=>.ok (.nx,(env.set i (some (.lst ds))).set j none)
  | _=>.stuck
 | .sw is b,env=>swOut (exD call b (blankD is 0 env))
 | .seti i k v,env=>match env[i]? with
  | some (some (.lst ds))=>(evD call v env).bind fun y=>(evD call k env).bind fun x=>match x with
   | .int n=>match ixn ds.length n with
    | some j=>.ok (.nx,env.set i (some (.lst (ds.set j y))))
    | none=>.stuck
   | _=>.stuck
  | _=>.stuck
 | .popi t i k,env=>match env[i]? with
  | some (some (.lst ds))=>(evD call k env).bind fun x=>match x with
   | .int n=>match ixn ds.length n with
    | some j=>match ds[j]? with
     | some d=>.ok (.nx,(env.set i (some (.lst (ds.eraseIdx j)))).set t (some d))
     | none=>.stuck
    | none=>.stuck
   | _=>.stuck
  | _=>.stuck
 | .insi i k v,env=>match env[i]? with
  | some (some (.lst ds))=>(evD call k env).bind fun x=>(evD call v env).bind fun y=>match x with
   | .int n=>if midI n && decide (ds.length < 1000) then .ok (.nx,env.set i (some (.lst (cutD ds none (some n) ++ y :: cutD ds (some n) none)))) else .stuck
   | _=>.stuck
  | _=>.stuck
theorem blank_get {M:List Nat}:∀ (env:Fm) (j i:Nat),(blankD M j env)[i]? = (env[i]?).map fun s=>if j + i ∈ M then none else s
 | [],_,_=>by simp [blankD]
 | s :: env,j,0=>by simp [blankD]
 | s :: env,j,i + 1=>by
  have:=blank_get (M:=M) env (j + 1) i
  simp only [blankD,List.getElem?_cons_succ,this]
  rw [show j + 1 + i = j + (i + 1) by omega]
theorem bindT_len {nt:Nat} {d:D} {new:Fm} (h:bindT nt d = .ok new):new.length = if nt = 0 then 1 else nt:=by
 unfold bindT at h
 split at h
 ·rename_i q; cases h; simp [q]
 ·rename_i q
  split at h
  ·split at h
   ·rename_i e; cases h; simp [q,e]
   ·cases h
  ·cases h
theorem compL_congr {nt:Nat} {c e c' e':Fm -> Rs D} {env env':Fm} (hc:∀ new:Fm,new.length = (if nt = 0 then 1 else nt) -> c (new ++ env) = c' (new ++ env')) (he:∀ new:Fm,new.length = (if nt = 0 then 1 else nt) -> e (new ++ env) = e' (new ++ env')) :
  ∀ ds,compL nt c e env ds = compL nt c' e' env' ds
 | []=>rfl
 | d :: ds=>by
  have ih:=compL_congr hc he ds
  unfold compL
  cases hb:bindT nt d with
  | ok new=>
   have hl:=bindT_len hb
   simp only [Rs.bind_ok,hc new hl,he new hl,ih]
  | ex x=>rfl
  | stuck=>rfl
theorem evD_congr (call:CallD):∀ (p:Px) (env env':Fm),(∀ i,usesP p i = true -> env[i]? = env'[i]?) -> evD call p env = evD call p env':=by
 intro p
 induction p with
 | var j=>intro env env' h; simp only [evD,h j (by simp [usesP])]
 | con d=>intro env env' h; rfl
 | un o a iha=>intro env env' h; simp only [evD,iha env env' fun i q=>h i (by simp [usesP,q])]
 | bi o a b iha ihb=>intro env env' h; simp only [evD,iha env env' fun i q=>h i (by simp [usesP,q]),ihb env env' fun i q=>h i (by simp [usesP,q])]
 | and a b iha ihb=>intro env env' h; simp only [evD,iha env env' fun i q=>h i (by simp [usesP,q]),ihb env env' fun i q=>h i (by simp [usesP,q])]
 | or a b iha ihb=>intro env env' h; simp only [evD,iha env env' fun i q=>h i (by simp [usesP,q]),ihb env env' fun i q=>h i (by simp [usesP,q])]
 | ite c a b ihc iha ihb=>intro env env' h; simp only [evD,ihc env env' fun i q=>h i (by simp [usesP,q]),iha env env' fun i q=>h i (by simp [usesP,q]),ihb env env' fun i q=>h i (by simp [usesP,q])]
 | nil=>intro env env' h; rfl
 | cons a b iha ihb=>intro env env' h; simp only [evD,iha env env' fun i q=>h i (by simp [usesP,q]),ihb env env' fun i q=>h i (by simp [usesP,q])]
 | tup a iha=>intro env env' h; simp only [evD,iha env env' fun i q=>h i (by simp [usesP,q])]
 | dis a iha=>intro env env' h; simp only [evD,iha env env' fun i q=>h i (by simp [usesP,q])]
 | call f a iha=>intro env env' h; simp only [evD,iha env env' fun i q=>h i (by simp [usesP,q])]
 | sl a b c iha ihb ihc=>intro env env' h; simp only [evD,iha env env' fun i q=>h i (by simp [usesP,q]),ihb env env' fun i q=>h i (by simp [usesP,q]),ihc env env' fun i q=>h i (by simp [usesP,q])]
 | walk a iha=>intro env env' h; simp only [evD,iha env env' fun i q=>h i (by simp [usesP,q])]
 | dsp t a b iha ihb=>intro env env' h; simp only [evD,iha env env' fun i q=>h i (by simp [usesP,q]),ihb env env' fun i q=>h i (by simp [usesP,q])]
 | callv fs a b iha ihb=>intro env env' h; simp only [evD,iha env env' fun i q=>h i (by simp [usesP,q]),ihb env env' fun i q=>h i (by simp [usesP,q])]
 | sortK f a iha=>intro env env' h; simp only [evD,iha env env' fun i q=>h i (by simp [usesP,q])]
 | comp nt s c e ihs ihc ihe=>
  intro env env' h
  have app:∀ (u:Px),(∀ i,usesP u (i + (if nt = 0 then 1 else nt)) = true -> env[i]? = env'[i]?) -> ∀ new:Fm,new.length = (if nt = 0 then 1 else nt) -> ∀ i,usesP u i = true -> (new ++ env)[i]? = (new ++ env')[i]?:=fun u hu new hl i hi=>by
   by_cases q:i < new.length
   ·rw [List.getElem?_append_left q,List.getElem?_append_left q]
   ·rw [List.getElem?_append_right (by omega),List.getElem?_append_right (by omega)]
    refine hu _ ?_
    rw [show i - new.length + (if nt = 0 then 1 else nt) = i by omega]
    exact hi
  simp only [evD,ihs env env' fun i q=>h i (by simp [usesP,q])]
  rw [show compL nt (evD call c) (evD call e) env = compL nt (evD call c) (evD call e) env' from funext fun ds=>compL_congr (fun new hl=>ihc _ _ (app c (fun i q=>h i (by simp [usesP,q])) new hl)) (fun new hl=>ihe _ _ (app e (fun i q=>h i (by simp [usesP,q])) new hl)) ds]
theorem evD_blank (call:CallD) {M:List Nat} {p:Px} (env:Fm) (h:sepP M p = true):evD call p (blankD M 0 env) = evD call p env:=by
 refine evD_congr call p _ _ fun i hi=>?_
 have hn:i ∉ M:=fun hm=>by
  have:=List.all_eq_true.mp h i hm
  rw [hi] at this; simp at this
 rw [blank_get]
 simp only [Nat.zero_add,if_neg hn]
 cases env[i]? <;> rfl
def answerD:Rs (Fw × Fm) -> Rs D
 | .ok (.nx,_)=>.ok .non
 | .ok (.rt d,_)=>.ok d
 | .ok _=>.stuck
 | .ex c=>.ex c
 | .stuck=>.stuck
structure DefD where
 slots:Nat
 params:Nat
 body:Sx
def startD (n:Nat) (ds:List D):Fm:=ds.map some ++ List.replicate (n - ds.length) none
def runD (defs:List DefD):Nat -> CallD
 | 0=>fun _ _=>.stuck
 | k + 1=>fun f ds=>match defs[f]? with
  | some d=>if ds.length = d.params then answerD (exD (runD defs k) d.body (startD d.slots ds)) else .stuck
  | none=>.stuck
end Pu
namespace Pu
open PySem
theorem Rs.ofOpt_ex {α:Type} {o:Option α} {c:Str}:Rs.ofOpt o ≠ .ex c:=by cases o <;> simp [Rs.ofOpt]
theorem op2_ex (o:O2) (a b:D) (c:Str):op2 o a b ≠ .ex c:=by
 unfold op2
 split
 all_goals repeat' (first | (intro h; cases h; done) | exact Rs.ofOpt_ex | split)
theorem truth_ex' (d:D) (c:Str):d.truth ≠ .ex c:=by
 unfold D.truth
 split
 all_goals repeat' (first | (intro h; cases h; done) | split)
theorem isiD_ex (f:D -> Bool) (d:D) (c:Str):isiD f d ≠ .ex c:=by
 unfold isiD
 split <;> (intro h; cases h)
theorem dictPD_ex (ds:List D) (c:Str):dictPD ds ≠ .ex c:=by
 unfold dictPD
 repeat' (first | (intro h; cases h; done) | split)
theorem op1_ex (o:O1) (d:D) (c:Str):op1 o d ≠ .ex c:=by
 unfold op1
 split
 all_goals repeat' (first | (intro h; cases h; done) | exact isiD_ex _ _ _ | exact dictPD_ex _ _ | (intro h; cases q:D.truth _ with | ok b=>(rw [q] at h; cases h) | ex e=>exact truth_ex' _ _ q | stuck=>(rw [q] at h; cases h)) | split)
def noEx:Px -> Bool
 | .var _=>true
 | .con _=>true
 | .un _ a=>noEx a
 | .bi _ a b=>noEx a && noEx b
 | _=>false
theorem noEx_ev (call:CallD):∀ (p:Px) (env:Fm) (c:Str),noEx p = true -> evD call p env ≠ .ex c
 | .var i,env,c,_=>by
  simp only [evD]
  cases env[i]? with
  | none=>intro h; cases h
  | some o=>cases o <;> (intro h; cases h)
 | .con d,env,c,_=>by simp only [evD]; intro h; cases h
 | .un o a,env,c,h=>by
  simp only [evD]
  cases q:evD call a env with
  | ok d=>exact op1_ex o d c
  | ex e=>exact absurd q (noEx_ev call a env e h)
  | stuck=>intro h; cases h
 | .bi o a b,env,c,h=>by
  simp only [noEx,Bool.and_eq_true] at h
  simp only [evD]
  cases q:evD call a env with
  | ok d=>
   simp only [Rs.bind_ok]
   cases q2:evD call b env with
   | ok d2=>exact op2_ex o d d2 c
   | ex e=>exact absurd q2 (noEx_ev call b env e h.2)
   | stuck=>intro h; cases h
  | ex e=>exact absurd q (noEx_ev call a env e h.1)
  | stuck=>intro h; cases h
end Pu
namespace Pu
open PySem
def LtS (a b:Str):Prop:=a.cps.toList < b.cps.toList
theorem LtS.trans {a b c:Str} (h:LtS a b) (h':LtS b c):LtS a c:=List.lt_trans h h'
end Pu
namespace Rd
open PySem PySem.Spec PyProof.Rows L2 PySem.W
theorem HOk.onB {P:Program} {w:World} {H:Hp} {B h h':Heap} (ok:HOk P w H h) (tr:∀ b u,H b = some u -> ∃ o,B.get? b = some o) (k1:B.StaysIn h) (k2:B.StaysIn h'):HOk P w H h':=fun a o e=>
 ObjOk.stay (ok a o e) (fun b u hb q=>by
  have ht:∃ o,B.get? b = some o:=by
   rcases hb with rfl | hb
   ·exact tr _ _ e
   ·exact tr _ _ hb
  obtain ⟨ob,hob⟩:=ht
  have h1:=k1 b ob hob
  rw [q] at h1
  cases h1
  exact k2 b _ hob) (fun _ z=>z) (fun _ _ z=>z)
theorem ObjOk.has {P:Program} {w:World} {H:Hp} {h:Heap} {a:Addr} {o:HO} (x:ObjOk P w H h a o):∃ ob,h.get? a = some ob:=by
 cases o with
 | lst xs=>obtain ⟨_,_,_,_,e⟩:=x; exact ⟨_,e⟩
 | tup xs=>obtain ⟨_,_,_,ob,e,_⟩:=x; exact ⟨_,e⟩
 | dK kvs=>obtain ⟨_,_,_,_,ob,_,_,e,_⟩:=x; exact ⟨_,e⟩
 | dT kvs=>obtain ⟨_,_,_,_,ob,_,_,e,_⟩:=x; exact ⟨_,e⟩
 | set S n=>obtain ⟨ob,_,_,_,e,_⟩:=x; exact ⟨_,e⟩
 | ins C dx fs=>obtain ⟨_,_,_,e,_⟩:=x; exact ⟨_,e⟩
 | own y=>obtain ⟨_,e⟩:=x; exact ⟨_,e⟩
 | xd fs=>obtain ⟨_,⟨_,_,_,e,_⟩,_⟩:=x; exact ⟨_,e⟩
 | rng lo hi=>obtain ⟨_,_,_,e⟩:=x; exact ⟨_,e⟩
 | frz ob u=>obtain ⟨e,_⟩:=x; exact ⟨_,e⟩
 | tbl ps=>exact ⟨_,(show h.get? a = some _ from x)⟩
 | met f y=>exact ⟨_,(show h.get? a = some _ from x)⟩
 | ext φ=>obtain ⟨_,⟨_,e⟩,_⟩:=x; exact ⟨_,e⟩
theorem HOk.has {P:Program} {w:World} {H:Hp} {h:Heap} (ok:HOk P w H h) {b:Addr} {u:HO} (e:H b = some u):∃ o,h.get? b = some o:=ObjOk.has (ok b u e)
def CXr (P:Program) (w:World):CXT:=fun outer H s E e s'=>∃ (a C:Addr) (H':Hp) (B:Heap) (a0:Value),e = .ref a /\ s'.os = s.os /\ AllBare s'.gens /\ Un (frs outer) [] H H' s.heap s'.heap /\ HOk P w H' s'.heap /\
 Heap.FlyingW B outer a (.ref C) a0 s'.heap /\ (∀ b u,H' b = some u -> ∃ o,B.get? b = some o) /\ (∀ b o,s.heap.get? b = some o -> b ∉ frs outer -> (H b = none -> B.get? b = some o) /\ ∃ o',B.get? b = some o') /\ E (.ref C) none H'
structure FlyIn (X:Cx) (C a:Addr) (H':Hp) (s':Shared):Prop where
 inv:∃ pins σ,Inv X pins σ H' s' /\ ((∃ h vs,Heap.MadeExcOf h s'.heap a (.ref C) vs /\ Inv X pins σ H' { s' with heap:=h }) \/
  ∃ B a0,Heap.FlyingW B X.stack a (.ref C) a0 s'.heap /\ (∀ b u,H' b = some u -> ∃ o,B.get? b = some o) /\ (∀ b o,X.s₀.heap.get? b = some o -> b ∉ frs X.stack -> b ∉ X.ex -> (X.H₀ b = none -> B.get? b = some o) /\ ∃ o',B.get? b = some o') /\ ∀ p ∈ X.pn,B.get? p.1 = some p.2)
section
variable {P:Program} {w:World} {K:PySem.W.Frag} {mg:Str -> Option Value} {base:Heap} {N:List Str} {qual:Str} {scope:Scope} {f:Addr} {cd:Value} {A:Around} {outer:List Env} {s:Shared} {H H':Hp} {E:XK} {C a:Addr} {s':Shared}
theorem left_ok {pins:List (Addr × Obj)} {σ:L2.St} {B h1 h':Heap} {a0:Value} (I:Inv (cxOf (CXr P w) P w K mg base N qual scope f cd A outer s H E) pins σ H' { s' with heap:=h1 })
  (fl:Heap.FlyingW B outer a (.ref C) a0 h') (k1:B.StaysIn h1) (up:h1.UpToSlots h') (tr:∀ b u,H' b = some u -> ∃ o,B.get? b = some o)
  (kp:∀ b o,s.heap.get? b = some o -> b ∉ frs (envOfC qual scope s.heap.objs.size f cd :: outer) -> (H b = none -> B.get? b = some o) /\ ∃ o',B.get? b = some o') (hE:E (.ref C) none H'):CXr P w outer H s E (.ref a) { s' with heap:=h' }:=by
 have hloc:∀ b o,s.heap.get? b = some o -> b ∉ frs outer -> b ∉ frs (envOfC qual scope s.heap.objs.size f cd :: outer):=fun b o hb hn hm=>by
  have hf:(envOfC qual scope s.heap.objs.size f cd).frame = some s.heap.objs.size:=rfl
  unfold frs at hm
  rw [List.filterMap_cons,hf] at hm
  rcases List.mem_cons.mp hm with e | hm
  ·have:=Heap.lt_size hb
   rw [e] at this
   exact absurd this (Nat.lt_irrefl _)
  ·exact hn hm
 have u:=I.base
 refine ⟨a,C,H',B,a0,rfl,I.os,I.bare,⟨?_,?_,?_,?_,u.tups,u.frzs,u.tbls⟩,HOk.onB I.hok tr k1 fl.1,fl,tr,fun b o hb hn=>kp b o hb (hloc b o hb hn),hE⟩
 ·intro b o hb hn hf _
  exact fl.1 b o ((kp b o hb (hloc b o hb hf)).1 hn)
 ·intro b o hb hn hf _
  obtain ⟨sl,e1⟩:=u.slot b o hb hn hf (by show b ∉ ([]:List Addr); simp)
  obtain ⟨_,o1,ho1,hd⟩:=(show s.heap.FunFrames base outer from I.ok.funs).mem hf
  rw [hb] at ho1
  cases ho1
  obtain ⟨sl2,e2⟩:=up b _ e1 hd
  exact ⟨sl2,e2⟩
 ·intro b o hb hn _
  exact u.free b o hb hn (by show b ∉ ([]:List Addr); simp)
 ·intro b o hb _
  by_cases hf:b ∈ frs outer
  ·obtain ⟨_,o1,ho1,hd⟩:=(show s.heap.FunFrames base outer from I.ok.funs).mem hf
   rw [hb] at ho1
   cases ho1
   obtain ⟨sl,e1⟩:=u.slot b o hb (I.ok.frf b hf) hf (by show b ∉ ([]:List Addr); simp)
   obtain ⟨sl2,e2⟩:=up b _ e1 hd
   exact ⟨_,e2⟩
  ·obtain ⟨o',e⟩:=(kp b o hb (hloc b o hb hf)).2
   exact ⟨o',fl.1 b o' e⟩
theorem xe_leave (F:FlyIn (cxOf (CXr P w) P w K mg base N qual scope f cd A outer s H E) C a H' s') (hE:E (.ref C) none H'):(cxOf (CXr P w) P w K mg base N qual scope f cd A outer s H E).xe (.ref a) s':=by
 obtain ⟨pins,σ,I,hx⟩:=F.inv
 have hst:(cxOf (CXr P w) P w K mg base N qual scope f cd A outer s H E).stack = envOfC qual scope s.heap.objs.size f cd :: outer:=rfl
 show wpAny (model P w) (A.deeper (envOfC qual scope s.heap.objs.size f cd)) (leaving (envOfC qual scope s.heap.objs.size f cd) (.ref a)) _ _ s'
 have hfr:(A.deeper (envOfC qual scope s.heap.objs.size f cd)).frames = some (envOfC qual scope s.heap.objs.size f cd :: outer):=I.ok.frames
 rcases hx with ⟨h,vs,hm,Ih⟩ | ⟨B,a0,fl,tr,kp,_⟩
 ·have hin:∀ env ∈ (envOfC qual scope s.heap.objs.size f cd :: outer),∀ b,env.frame = some b -> b ∈ frs (envOfC qual scope s.heap.objs.size f cd :: outer):=fun env he b hb=>List.mem_filterMap.mpr ⟨env,he,hb⟩
  have hk:(hideAll h (frs (envOfC qual scope s.heap.objs.size f cd :: outer))).StaysIn h:=fun b o q=>of_hideAll _ q
  refine wpAny_leaves_madeW hfr rfl hk (funFrames_hide Ih.stack hin) hm fun h' t fl _ _ up=>?_
  refine left_ok (B:=hideAll h (frs (envOfC qual scope s.heap.objs.size f cd :: outer))) (h1:=h) Ih fl hk ((Heap.UpToSlots.of_keeps hm.keeps).trans up) (fun b u e=>?_) (fun b o hb hn=>⟨fun h0=>?_,?_⟩) hE
  ·obtain ⟨o,ho⟩:=HOk.has Ih.hok e
   exact ⟨o,hideAll_get _ ho fun z=>by rw [Ih.stkFree b z] at e; cases e⟩
  ·refine hideAll_get _ (Ih.base.keep b o hb h0 (fun z=>hn ?_) (by show b ∉ ([]:List Addr); simp)) hn
   exact List.mem_filterMap.mpr (by obtain ⟨e,he,hf⟩:=List.mem_filterMap.mp z; exact ⟨e,.tail _ he,hf⟩)
  ·obtain ⟨o',e⟩:=Ih.base.there b o hb (by show b ∉ ([]:List Addr); simp)
   exact ⟨o',hideAll_get _ e hn⟩
 ·refine wpAny_leaves_onW hfr rfl fl fun h' fl' up=>?_
  exact left_ok (h1:=s'.heap) I fl' fl.1 up tr (fun b o hb hn=>kp b o hb hn (by show b ∉ ([]:List Addr); simp)) hE
end
theorem fly_call {X:Cx} {pins:List (Addr × Obj)} {σ:L2.St} {H:Hp} {s s':Shared} {E:XK} {e:Value} (I:Inv X pins σ H s) (h:CXr X.prog X.w X.stack H s E e s'):∃ a C H',e = .ref a /\ FlyIn X C a H' s' /\ E (.ref C) none H':=by
 obtain ⟨a,C,H',B,a0,rfl,ho,hg,u,hok,fl,tr,kp,hE⟩:=h
 have I':Inv X pins σ H' s':=I.call' ho u hok hg (fun b z=>absurd z (by simp))
 have hstk:∀ b,b ∉ X.fs -> b ≠ X.env.locals -> b ∉ frs X.stack:=fun b h1 h2 hm=>by
  rcases List.mem_cons.mp (I.stkSub b hm) with e | e
  ·exact h2 e
  ·exact h1 e
 refine ⟨a,C,H',rfl,⟨pins,σ,I',.inr ⟨B,a0,fl,tr,fun b o hb hn hnx=>?_,fun p hp=>?_⟩⟩,hE⟩
 rotate_left
 ·obtain ⟨q1,q2,q3,q4,_⟩:=I.pin p (List.mem_append_left _ hp)
  exact (kp p.1 p.2 q1 (hstk p.1 q4 q3)).1 q2
 have hnf:b ∉ X.fs:=fun z=>hn (by
  rcases I.ok.stk with e | ⟨e,_⟩
  ·rw [e]; exact z
  ·rw [e]
   obtain ⟨e',he,hf⟩:=List.mem_filterMap.mp z
   exact List.mem_filterMap.mpr ⟨e',.tail _ he,hf⟩)
 constructor
 ·intro h0
  have e1:=I.base.keep b o hb h0 hnf hnx
  exact (kp b o e1 hn).1 (I.base.free b o hb h0 hnx)
 ·obtain ⟨o1,e1⟩:=I.base.there b o hb hnx
  exact (kp b o1 e1 hn).2
theorem exc_obj {K:PySem.W.Frag} {h:Heap} {C:Addr} {bs0:List Value} {nid:String} (kin:K.In h) (q:excIn K C bs0 nid = true) :
  ∃ (tl:List Value) (N:Addr) (nm qn:Str) (bs:List Value) (hd:Bool) (sn:List Str) (sub:List Value) (ab:Bool) (col:Option Bool) (dd:Option Addr) (k0 k1 k2 k3 k5:Option Value) (mN:Str -> Option Value),
   h.get? C = some (excClassObj nm qn C N bs tl hd sn sub ab col dd k0 k1 k2 k3 k5 nid) /\ h.Ns N mN /\ mN "__init__" = none /\ OwnTail h bs0 tl:=by
 unfold excIn at q
 split at q
 case h_2=>cases q
 case h_1 dd cd sl look=>
  split at q
  case h_2=>cases q
  case h_1 C1 tl k0 k1 k2 k3 n k5 hm hs=>
   simp only [Bool.and_eq_true,beq_iff_eq,Bool.not_eq_true'] at q
   have e1:=q.1.1.1.1.1
   have e2:=q.1.1.1.1.2
   have hdel:=q.1.1.1.2
   have ht:=q.1.1.2
   have hok:=q.1.2
   have hni:=q.2
   cases e1
   cases e2
   cases cd with
   | mk nm bs mro ns qn hd sn sub ab col del=>
    dsimp only at hm hdel hok hni
    cases hm
    cases hdel
    have hsl:sl = #[k0,k1,k2,k3,some (.builtin nid),k5]:=by
     cases sl with
     | mk l=>simp only at hs; rw [hs]
    cases hsl
    exact ⟨tl,ns,nm,qn,bs,hd,sn,sub,ab,col,dd,k0,k1,k2,k3,k5,_,kin _ _ look,.of_isNs (isNs_of_in kin hok),nsMap_none_of_in kin hok hni,tail_of_in kin ht⟩
section
variable {X:Cx} {x:Str} {C:Addr} {e:Expr} {te:TE} {np cpos pos:Pos} {bs0:List Value} {Bn nid iid:String}
theorem ps_raise (hcalm:X.calm = true) (hg:Gl X x) (hm:X.mg x = some (.ref C)) (hq:excIn X.K C bs0 nid = true) (FB:ExcBaseFacts Bn nid iid bs0) (ha:PE X e te) (hdb:(x == ("__debug__" : Str)) = false)
  (hs:starEach [e] X.env = (false,eval e X.env) :: starEach [] X.env:=by rfl):PS X (.Raise (some (.Call (.Name x np) [e] [] cpos)) none pos) (fun D σ H=>te σ H fun v H'=>([v]:List V).length = 1 /\ ∀ a s',FlyIn X C a H' s' -> X.xe (.ref a) s'):=by
 intro pins s σ H D I h
 obtain ⟨tl,N,nm,qn,bs,hd,sn,sub,ab,col,dd,k0,k1,k2,k3,k5,mN,hC,hN,hni,T⟩:=exc_obj I.ok.mod.kin hq
 refine wpAny_Raise_call_subT (C:=C) (nm:=nm) (q:=qn) (N:=N) (bs:=bs) (bm:=tl) (hdct:=hd) (sn:=sn) (sub:=sub) (ab:=ab) (col:=col) (dd:=dd) (k0:=k0) (k1:=k1) (k2:=k2) (k3:=k3) (k5:=k5)
  FB (mN:=mN) (T.hasType FB.hasBase) (I.ok.hd hcalm) (by rw [hs]; rfl) hni (ld_glob I hg hm ⟨rfl,?_⟩ hdb)
 have hA:=(pa_cons ha pa_nil hs) cpos pins s σ H (fun vs H'=>vs.length = 1 /\ ∀ a s',FlyIn X C a H' s' -> X.xe (.ref a) s') I h
 rw [hs] at hA ⊢
 refine Calls.evalArgs_plain (wpAny_mono hA (fun us s2 hp=>?_) fun _ _ z=>z)
 obtain ⟨vs,H2,I2,rv,hv,hx⟩:=hp
 have hl:us.length <= sizeLine:=by rw [<- rv.length,hv]; decide
 refine ⟨rfl,hl,I2.bk _ _ hC,hN.keeps I2.bk,T.keeps I2.bk,fun h' a hmade=>?_⟩
 exact hx a _ ⟨pins,σ,I2.kept (t':=s2.toks) hmade.keeps,.inl ⟨s2.heap,us,hmade,I2⟩⟩
end
end Rd
namespace Rd
open PySem PySem.Spec PyProof.Rows L2 Pu
def keyV:L2.Key -> D
 | .inl n=>.int n
 | .inr x=>.str x
def DK (H:Hp) (a:Addr) (t z:Bool) (ks:List D) (xs:List V):Prop:=match t with
 | true=>∃ kvs:List (List L2.Key × V),(match z with
  | true=>∃ o,H a = some (.frz o (.dT kvs))
  | false=>H a = some (.dT kvs)) /\ ks = kvs.map (fun p=>.tup (p.1.map keyV)) /\ xs = kvs.map (·.2)
 | false=>∃ kvs:List (L2.Key × V),(match z with
  | true=>∃ o,H a = some (.frz o (.dK kvs))
  | false=>H a = some (.dK kvs)) /\ ks = kvs.map (fun p=>keyV p.1) /\ xs = kvs.map (·.2)
theorem DK.mono {H H':Hp} {a:Addr} {t z:Bool} {ks:List D} {xs:List V} (e:∀ o,H a = some o -> H' a = some o) (h:DK H a t z ks xs):DK H' a t z ks xs:=by
 cases t <;> cases z <;> obtain ⟨kvs,h1,h2⟩:=h
 ·exact ⟨kvs,e _ h1,h2⟩
 ·exact ⟨kvs,let ⟨o,h⟩:=h1; ⟨o,e _ h⟩,h2⟩
 ·exact ⟨kvs,e _ h1,h2⟩
 ·exact ⟨kvs,let ⟨o,h⟩:=h1; ⟨o,e _ h⟩,h2⟩
mutual
def Rep (K:PySem.W.Frag) (H:Hp):D -> V -> Prop
 | .non,v=>v = .non
 | .bl b,v=>v = .bl b
 | .int i,v=>v = .int i
 | .str x,v=>v = .str x
 | .tup ds,v=>∃ a xs,v = .ref a /\ SqT K H a xs /\ Reps K H ds xs
 | .lst ds,v=>∃ a xs,v = .ref a /\ SqL K H a xs /\ Reps K H ds xs
 | .dct t z ks vs,v=>∃ a xs,v = .ref a /\ DK H a t z ks xs /\ Reps K H vs xs
 | .exc c,v=>∃ a o C,v = .ref a /\ H a = some (.frz o (.ext fun _=>True)) /\ o.cls = .ref C /\ PySem.W.nsIn K mainGlobals c = some (some (.ref C))
 | .fn x _,v=>∃ f,v = .ref f /\ PySem.W.nsIn K mainGlobals x = some (some (.ref f))
def Reps (K:PySem.W.Frag) (H:Hp):List D -> List V -> Prop
 | [],xs=>xs = []
 | d :: ds,xs=>∃ x r,xs = x :: r /\ Rep K H d x /\ Reps K H ds r
end
theorem SqT.same {K:PySem.W.Frag} {H H':Hp} {a:Addr} {xs:List V} (e:Same H H') (h:SqT K H a xs):SqT K H' a xs:=by
 rcases h with h | h
 ·exact .inl (e _ _ h)
 ·exact .inr h
mutual
theorem Rep.mono {K:PySem.W.Frag} {H H':Hp} (e:Same H H'):∀ (d:D) {v:V},Rep K H d v -> Rep K H' d v
 | .non,_,h=>h
 | .bl _,_,h=>h
 | .int _,_,h=>h
 | .str _,_,h=>h
 | .tup ds,_,⟨a,xs,e1,h1,h2⟩=>⟨a,xs,e1,SqT.same e h1,Reps.mono e ds h2⟩
 | .lst ds,_,⟨a,xs,e1,h1,h2⟩=>⟨a,xs,e1,e.seq h1,Reps.mono e ds h2⟩
 | .dct t z ks vs,_,⟨a,xs,e1,h1,h2⟩=>⟨a,xs,e1,h1.mono (e a),Reps.mono e vs h2⟩
 | .exc c,_,⟨a,o,C,e1,h1,h2⟩=>⟨a,o,C,e1,e _ _ h1,h2⟩
 | .fn x _,_,h=>h
theorem Reps.mono {K:PySem.W.Frag} {H H':Hp} (e:Same H H'):∀ (ds:List D) {xs:List V},Reps K H ds xs -> Reps K H' ds xs
 | [],_,h=>h
 | d :: ds,_,⟨x,r,e1,h1,h2⟩=>⟨x,r,e1,Rep.mono e d h1,Reps.mono e ds h2⟩
end
theorem Reps.length {K:PySem.W.Frag} {H:Hp}:∀ {ds:List D} {xs:List V},Reps K H ds xs -> xs.length = ds.length
 | [],_,h=>by cases h; rfl
 | d :: ds,_,⟨x,r,e1,h1,h2⟩=>by subst e1; simp [Reps.length h2]
theorem Reps.get {K:PySem.W.Frag} {H:Hp}:∀ {ds:List D} {xs:List V} {i:Nat} {d:D},Reps K H ds xs -> ds[i]? = some d -> ∃ x,xs[i]? = some x /\ Rep K H d x
 | [],_,_,_,_,e=>by simp at e
 | d :: ds,_,0,d',⟨x,r,e1,h1,h2⟩,e=>by subst e1; simp at e; subst e; exact ⟨x,rfl,h1⟩
 | d :: ds,_,i + 1,d',⟨x,r,e1,h1,h2⟩,e=>by
  subst e1
  obtain ⟨y,h3,h4⟩:=Reps.get (i:=i) h2 (by simpa using e)
  exact ⟨y,by simpa using h3,h4⟩
theorem Reps.get' {K:PySem.W.Frag} {H:Hp}:∀ {ds:List D} {xs:List V} {i:Nat} {x:V},Reps K H ds xs -> xs[i]? = some x -> ∃ d,ds[i]? = some d /\ Rep K H d x
 | [],_,_,_,h,e=>by cases h; simp at e
 | d :: ds,_,0,d',⟨x,r,e1,h1,h2⟩,e=>by subst e1; simp at e; subst e; exact ⟨d,rfl,h1⟩
 | d :: ds,_,i + 1,d',⟨x,r,e1,h1,h2⟩,e=>by
  subst e1
  obtain ⟨y,h3,h4⟩:=Reps.get' (i:=i) h2 (by simpa using e)
  exact ⟨y,by simpa using h3,h4⟩
theorem Reps.append {K:PySem.W.Frag} {H:Hp}:∀ {ds es:List D} {xs ys:List V},Reps K H ds xs -> Reps K H es ys -> Reps K H (ds ++ es) (xs ++ ys)
 | [],_,_,_,h,h'=>by cases h; exact h'
 | d :: ds,es,_,ys,⟨x,r,e1,h1,h2⟩,h'=>by subst e1; exact ⟨x,r ++ ys,rfl,h1,Reps.append h2 h'⟩
theorem Reps.take {K:PySem.W.Frag} {H:Hp}:∀ (n:Nat) {ds:List D} {xs:List V},Reps K H ds xs -> Reps K H (ds.take n) (xs.take n)
 | 0,_,_,h=>by simp [Reps]
 | n + 1,[],_,h=>by cases h; simp [Reps]
 | n + 1,d :: ds,_,⟨x,r,e1,h1,h2⟩=>by subst e1; exact ⟨x,r.take n,rfl,h1,Reps.take n h2⟩
theorem Reps.drop {K:PySem.W.Frag} {H:Hp}:∀ (n:Nat) {ds:List D} {xs:List V},Reps K H ds xs -> Reps K H (ds.drop n) (xs.drop n)
 | 0,_,_,h=>by simpa using h
 | n + 1,[],_,h=>by cases h; simp [Reps]
 | n + 1,d :: ds,_,⟨x,r,e1,h1,h2⟩=>by subst e1; exact Reps.drop n h2
theorem Reps.nil_iff {K:PySem.W.Frag} {H:Hp} {ds:List D} {xs:List V} (h:Reps K H ds xs):xs = [] ↔ ds = []:=by
 have:=h.length
 constructor
 ·intro e; subst e; cases ds with
  | nil=>rfl
  | cons _ _=>simp at this
 ·intro e; subst e; exact h
theorem Reps.one {K:PySem.W.Frag} {H:Hp} {d:D} {v:V} (h:Rep K H d v):Reps K H [d] [v]:=⟨v,[],rfl,h,rfl⟩
def Tups (K:PySem.W.Frag) (H H':Hp):Prop:=(∀ a xs,SqT K H a xs -> SqT K H' a xs) /\ ∀ a o u,H a = some (.frz o u) -> H' a = some (.frz o u)
theorem Tups.of {K:PySem.W.Frag} {H H':Hp} (e:Same H H'):Tups K H H':=⟨fun _ _ h=>SqT.same e h,fun _ _ _ h=>e _ _ h⟩
theorem Tups.trans {K:PySem.W.Frag} {H H1 H2:Hp} (a:Tups K H H1) (b:Tups K H1 H2):Tups K H H2:=⟨fun c o h=>b.1 c o (a.1 c o h),fun c o u h=>b.2 c o u (a.2 c o u h)⟩
mutual
theorem Rep.tups {K:PySem.W.Frag} {H H':Hp} (e:Tups K H H'):∀ (d:D) {v:V},d.imm = true -> Rep K H d v -> Rep K H' d v
 | .non,_,_,h=>h
 | .bl _,_,_,h=>h
 | .int _,_,_,h=>h
 | .str _,_,_,h=>h
 | .tup ds,_,i,⟨a,xs,e1,h1,h2⟩=>⟨a,xs,e1,e.1 _ _ h1,Reps.tups e ds (by simpa [D.imm] using i) h2⟩
 | .lst ds,_,i,_=>by simp [D.imm] at i
 | .dct t z ks vs,_,i,⟨a,xs,e1,h1,h2⟩=>by
  simp only [D.imm,Bool.and_eq_true] at i
  refine ⟨a,xs,e1,?_,Reps.tups e vs i.2 h2⟩
  obtain ⟨rfl,_⟩:=i
  cases t <;> obtain ⟨kvs,⟨o,h3⟩,h4⟩:=h1
  ·exact ⟨kvs,⟨o,e.2 _ _ _ h3⟩,h4⟩
  ·exact ⟨kvs,⟨o,e.2 _ _ _ h3⟩,h4⟩
 | .exc c,_,_,⟨a,o,C,e1,h1,h2⟩=>⟨a,o,C,e1,e.2 _ _ _ h1,h2⟩
 | .fn x _,_,_,h=>h
theorem Reps.tups {K:PySem.W.Frag} {H H':Hp} (e:Tups K H H'):∀ (ds:List D) {xs:List V},imms ds = true -> Reps K H ds xs -> Reps K H' ds xs
 | [],_,_,h=>h
 | d :: ds,_,i,⟨x,r,e1,h1,h2⟩=>by
  simp only [imms,Bool.and_eq_true] at i
  exact ⟨x,r,e1,Rep.tups e d i.1 h1,Reps.tups e ds i.2 h2⟩
end
def hid (L:List Addr) (H:Hp):Hp:=fun a=>if a ∈ L then none else H a
def Chgb:HO -> Prop
 | .lst _=>True
 | .dK _=>True
 | .dT _=>True
 | _=>False
def Ows (L:List Addr) (H:Hp):Prop:=∀ a ∈ L,∃ o,H a = some o /\ Chgb o
def ItOk (J:It):Prop:=∀ (L:List Addr) (i:Nat) (H:Hp) (x:V) (H':Hp),Ows L H -> J.yld i H x H' -> J.yld i (hid L H) x (hid L H')
section
variable {L L':List Addr} {H H' H1:Hp} {a:Addr} {o:HO}
theorem hid_in (h:a ∉ L):hid L H a = H a:=by unfold hid; rw [if_neg h]
theorem hid_out (h:a ∈ L):hid L H a = none:=by unfold hid; rw [if_pos h]
theorem hid_some (h:hid L H a = some o):a ∉ L /\ H a = some o:=by
 unfold hid at h
 split at h
 ·cases h
 ·rename_i q; exact ⟨q,h⟩
theorem hid_same:Same (hid L H) H:=fun a o h=>(hid_some h).2
theorem hid_mono (k:∀ a o,H a = some o -> a ∉ L -> H' a = some o /\ a ∉ L'):Same (hid L H) (hid L' H'):=fun a o h=>by
 obtain ⟨h1,h2⟩:=hid_some h
 obtain ⟨q1,q2⟩:=k a o h2 h1
 rw [hid_in q2]; exact q1
theorem hid_nil:hid [] H = H:=by funext a; exact hid_in (by simp)
theorem hid_upd (h:a ∉ L):hid L (upd H a o) = upd (hid L H) a o:=by
 funext b
 by_cases q:b = a
 ·subst q; rw [hid_in h,upd_same,upd_same]
 ·rw [upd_ne q]
  by_cases r:b ∈ L
  ·rw [hid_out r,hid_out r]
  ·rw [hid_in r,hid_in r,upd_ne q]
end
def ReadOk (K:PySem.W.Frag) (H:Hp) (σ:L2.St) (env:Fm):Prop:=∀ (i:Nat) (d:D),env[i]? = some (some d) -> ∃ v,σ[i]? = some (some v) /\ Rep K H d v
theorem ReadOk.mono {K:PySem.W.Frag} {H H':Hp} {σ:L2.St} {env:Fm} (r:ReadOk K H σ env) (e:Same H H'):ReadOk K H' σ env:=fun i d h=>
 let ⟨v,h1,h2⟩:=r i d h
 ⟨v,h1,h2.mono e⟩
def XE (X:Cx) (C:Addr) (H:Hp):Prop:=∀ a s',FlyIn X C a H s' -> X.xe (.ref a) s'
def XW (X:Cx) (H:Hp) (c:Str):Prop:=∀ C H',X.mg c = some (.ref C) -> Same H H' -> XE X C H'
theorem XW.mono {X:Cx} {H H':Hp} {c:Str} (e:Same H H') (h:XW X H c):XW X H' c:=fun C H2 hm s=>h C H2 hm (e.trans s)
def Out (X:Cx) (H:Hp) (Q:VK) (d:D):Prop:=∀ v H',Same H H' -> Rep X.K H' d v -> Q v H'
theorem Out.mono {X:Cx} {H H1:Hp} {Q:VK} {d:D} (h:Out X H Q d) (e:Same H H1):Out X H1 Q d:=fun v H' e' r=>h v H' (e.trans e') r
theorem Out.now {X:Cx} {H:Hp} {Q:VK} {d:D} {v:V} (h:Out X H Q d) (r:Rep X.K H d v):Q v H:=h v H (Same.refl H) r
def tI (X:Cx) (call:CallD) (p:Px):TE:=fun σ H Q=>∃ env,ReadOk X.K H σ env /\ (evD call p env).Good (Out X H Q) (XW X H)
def tT (X:Cx) (call:CallD) (p:Px):TT:=fun σ H Q=>∃ env,ReadOk X.K H σ env /\ (evD call p env).Good (fun d=>∃ b,d = .bl b /\ ∀ H',Same H H' -> Q b H') (XW X H)
def tA (X:Cx) (call:CallD) (p:Px):TA:=fun σ H Q=>∃ env,ReadOk X.K H σ env /\ (evD call p env).Good (fun d=>∃ ds,d = .lst ds /\ ∀ vs H',Same H H' -> Reps X.K H' ds vs -> Q vs H') (XW X H)
section
variable {X:Cx} {call:CallD} {e a b c:Expr} {es:List Expr} {p pa pb pc:Px} {pos:Pos}
theorem PE.weak {t t':TE} (h:PE X e t) (hm:∀ σ H Q,t' σ H Q -> t σ H Q):PE X e t':=fun pins s σ H Q I hw=>h pins s σ H Q I (hm σ H Q hw)
theorem PT.weak {t t':TT} (h:PT X e t) (hm:∀ σ H Q,t' σ H Q -> t σ H Q):PT X e t':=fun pins s σ H Q I hw=>h pins s σ H Q I (hm σ H Q hw)
theorem PW.weak {t t':TT} (h:PW X e t) (hm:∀ σ H Q,t' σ H Q -> t σ H Q):PW X e t':=fun w pins s σ H Q I hw=>h w pins s σ H Q I (hm σ H Q hw)
theorem PA.weak {t t':TA} (h:PA X es t) (hm:∀ σ H Q,t' σ H Q -> t σ H Q):PA X es t':=fun p pins s σ H Q I hw=>h p pins s σ H Q I (hm σ H Q hw)
theorem tI.then {σ:L2.St} {H:Hp} {env:Fm} {Q:VK} {k:D -> Rs D} (r:ReadOk X.K H σ env) (h:((evD call p env).bind k).Good (Out X H Q) (XW X H)) {Q':VK}
  (hk:∀ d v H',Same H H' -> Rep X.K H' d v -> ReadOk X.K H' σ env -> (k d).Good (Out X H' Q) (XW X H') -> Q' v H'):tI X call p σ H Q':=by
 refine ⟨env,r,(Rs.good_bind.mp h).imp fun d hd v H' s rv=>hk d v H' s rv (r.mono s) (hd.mono (fun d' o=>o.mono s) fun c x=>x.mono s)⟩
theorem pI_var {i:Nat} {x:Str} (hN:X.N[i]? = some x) (hv:Vis X.env.scope x) (hd:(x == ("__debug__" : Str)) = false) (hcd:(x == ("__classdict__" : Str)) = false):PE X (.Name x pos) (tI X call (.var i)):=by
 refine PE.weak (pe_var hN hv hd hcd) fun σ H Q ⟨env,r,h⟩=>?_
 simp only [evD] at h
 cases q:env[i]? with
 | none=>rw [q] at h; exact h.elim
 | some o=>
  cases o with
  | none=>rw [q] at h; exact h.elim
  | some d=>
   rw [q] at h
   obtain ⟨v,h1,h2⟩:=r i d q
   exact ⟨v,h1,Out.now h h2⟩
theorem pI_int {i:Int} {j}:PE X (.Constant (.int i) j pos) (tI X call (.con (.int i))):=PE.weak pe_int fun σ H Q ⟨env,r,h⟩=>Out.now h rfl
theorem pI_bl {i:Bool} {j}:PE X (.Constant (.bool i) j pos) (tI X call (.con (.bl i))):=PE.weak pe_bl fun σ H Q ⟨env,r,h⟩=>Out.now h rfl
theorem pI_non {j}:PE X (.Constant .none j pos) (tI X call (.con .non)):=PE.weak pe_non fun σ H Q ⟨env,r,h⟩=>Out.now h rfl
theorem pI_str {x:Str} {j}:PE X (.Constant (.str x) j pos) (tI X call (.con (.str x))):=PE.weak pe_str fun σ H Q ⟨env,r,h⟩=>Out.now h rfl
def GlobIs (X:Cx) (x:Str) (d:D):Prop:=∃ v u,X.mg x = some u /\ RelV v u /\ ∀ H,Rep X.K H d v
theorem pI_glob {x:Str} {d:D} (hg:Gl X x) (h:GlobIs X x d) (hd:(x == ("__debug__" : Str)) = false):PE X (.Name x pos) (tI X call (.con d)):=by
 obtain ⟨v,u,hm,r,hv⟩:=h
 exact PE.weak (pe_glob hg hm r hd) fun σ H Q ⟨env,r,h⟩=>Out.now h (hv H)
def rD2 (X:Cx) (o:O2):R2:=fun x y H Q=>∃ dx dy,Rep X.K H dx x /\ Rep X.K H dy y /\ (op2 o dx dy).Good (Out X H Q) (XW X H)
theorem tI.two {o:O2} {σ:L2.St} {H:Hp} {Q:VK} (h:tI X call (.bi o pa pb) σ H Q):tOp (rD2 X o) (tI X call pa) (tI X call pb) σ H Q:=by
 obtain ⟨env,r,h⟩:=h
 simp only [evD] at h
 refine tI.then r h fun dx x H1 s1 r1 q1 h1=>?_
 refine tI.then q1 h1 fun dy y H2 s2 r2 q2 h2=>?_
 exact ⟨dx,dy,r1.mono s2,r2,h2⟩
theorem pI_bin {o:O2} {op:Operator} (ho:OpR X (binaryOp op) (rD2 X o)) (ha:PE X a (tI X call pa)) (hb:PE X b (tI X call pb)):PE X (.BinOp a op b pos) (tI X call (.bi o pa pb)):=
 PE.weak (pe_op ho ha hb) fun σ H Q h=>h.two
theorem pI_cmp {o:O2} {op:CmpOp} (ho:OpR X (compareOp op) (rD2 X o)) (ha:PE X a (tI X call pa)) (hb:PE X b (tI X call pb)) (hm:behindInMarks op b = false):PE X (.Compare a [op] [b] pos) (tI X call (.bi o pa pb)):=
 PE.weak (pe_cmpR ho ha hb hm) fun σ H Q h=>h.two
theorem tT.asTest {σ:L2.St} {H:Hp} {Q:Bool -> Hp -> Prop} (h:tT X call p σ H Q):tI X call p σ H fun x H'=>∃ k,x = .bl k /\ Q k H':=by
 obtain ⟨env,r,h⟩:=h
 refine ⟨env,r,h.imp fun d hd v H' s rv=>?_⟩
 obtain ⟨b,e,q⟩:=hd
 subst e
 exact ⟨b,rv,q H' s⟩
theorem pT_cmp {o:O2} {op:CmpOp} (ho:OpR X (compareOp op) (rD2 X o)) (ha:PE X a (tI X call pa)) (hb:PE X b (tI X call pb)) (hm:behindInMarks op b = false):PT X (.Compare a [op] [b] pos) (tT X call (.bi o pa pb)):=
 PT.weak (pt_cmpR ho ha hb hm) fun σ H Q h=>h.asTest.two
theorem pI_ix {o:O2} (hr:IxR X (rD2 X o)) (ha:PE X a (tI X call pa)) (hb:PE X b (tI X call pb)) (hs:PlainIx b):PE X (.Subscript a b pos) (tI X call (.bi o pa pb)):=
 PE.weak (pe_ix hr ha hb hs) fun σ H Q h=>h.two
theorem tT.and {σ:L2.St} {H:Hp} {Q:Bool -> Hp -> Prop} (h:tT X call (.and pa pb) σ H Q):tAnd (tT X call pa) (tT X call pb) σ H Q:=by
 obtain ⟨env,r,h⟩:=h
 simp only [evD] at h
 refine ⟨env,r,(Rs.good_bind.mp h).imp fun d hd=>?_⟩
 cases d with
 | bl b=>
  refine ⟨b,rfl,fun H' s=>?_⟩
  cases b with
  | true=>exact iteT ⟨env,r.mono s,hd.mono (fun d ⟨b',e,q⟩=>⟨b',e,fun H2 s2=>q H2 (s.trans s2)⟩) fun c x=>x.mono s⟩
  | false=>
   obtain ⟨b',e,q⟩:=hd
   cases e
   exact iteF (q H' s)
 | _=>exact hd.elim
theorem tT.or {σ:L2.St} {H:Hp} {Q:Bool -> Hp -> Prop} (h:tT X call (.or pa pb) σ H Q):tOr (tT X call pa) (tT X call pb) σ H Q:=by
 obtain ⟨env,r,h⟩:=h
 simp only [evD] at h
 refine ⟨env,r,(Rs.good_bind.mp h).imp fun d hd=>?_⟩
 cases d with
 | bl b=>
  refine ⟨b,rfl,fun H' s=>?_⟩
  cases b with
  | false=>exact iteF ⟨env,r.mono s,hd.mono (fun d ⟨b',e,q⟩=>⟨b',e,fun H2 s2=>q H2 (s.trans s2)⟩) fun c x=>x.mono s⟩
  | true=>
   obtain ⟨b',e,q⟩:=hd
   cases e
   exact iteT (q H' s)
 | _=>exact hd.elim
theorem pW_one {op} (ha:PT X a (tT X call pa)):PW X (.BoolOp op [a] pos) (tT X call pa):=by
 cases op
 ·exact pw_and1 ha
 ·exact pw_or1 ha
theorem pW_and {rest:List Expr} (ha:PT X a (tT X call pa)) (hb:PW X (.BoolOp .And (b :: rest) pos) (tT X call pb)):PW X (.BoolOp .And (a :: b :: rest) pos) (tT X call (.and pa pb)):=
 PW.weak (pw_and ha hb) fun σ H Q h=>h.and
theorem pW_or {rest:List Expr} (ha:PT X a (tT X call pa)) (hb:PW X (.BoolOp .Or (b :: rest) pos) (tT X call pb)):PW X (.BoolOp .Or (a :: b :: rest) pos) (tT X call (.or pa pb)):=
 PW.weak (pw_or ha hb) fun σ H Q h=>h.or
theorem pT_not (ha:PT X a (tT X call pa)):PT X (.UnaryOp .Not a pos) (tT X call (.un .not pa)):=by
 refine PT.weak (pt_not ha) fun σ H Q ⟨env,r,h⟩=>?_
 simp only [evD] at h
 refine ⟨env,r,(Rs.good_bind.mp h).imp fun d hd=>?_⟩
 cases d with
 | bl b=>
  obtain ⟨b',e,q⟩:=hd
  cases e
  exact ⟨b,rfl,q⟩
 | _=>exact hd.elim
theorem truV_of {K:PySem.W.Frag} {H:Hp} {d:D} {v:V} {b:Bool} (r:Rep K H d v) (h:d.truth = .ok b):TruV K v H b:=by
 cases d with
 | non=>cases r; simp only [D.truth] at h; cases h; rfl
 | bl c=>cases r; simp only [D.truth] at h; cases h; rfl
 | int i=>cases r; simp only [D.truth] at h; cases h; rfl
 | str x=>
  cases r
  simp only [D.truth] at h
  split at h
  ·rename_i q
   cases h
   exact ⟨by rw [sizeLine_eq]; exact q,rfl⟩
  ·cases h
 | tup ds=>
  obtain ⟨a,xs,rfl,h1,h2⟩:=r
  simp only [D.truth] at h
  cases h
  refine .inr (.inl ⟨xs,h1,?_⟩)
  have:=h2.length
  cases ds <;> cases xs <;> simp_all
 | lst ds=>
  obtain ⟨a,xs,rfl,h1,h2⟩:=r
  simp only [D.truth] at h
  cases h
  refine .inl ⟨xs,h1,?_⟩
  have:=h2.length
  cases ds <;> cases xs <;> simp_all
 | _=>simp only [D.truth] at h; cases h
theorem truth_ex {d:D} {c:Str} (h:d.truth = .ex c):False:=by
 cases d <;> simp only [D.truth] at h <;> first | cases h | (split at h <;> cases h)
theorem walk_ex {d:D} {c:Str} (h:d.walk = .ex c):False:=by
 cases d <;> simp only [D.walk] at h <;> cases h
theorem pT_val (ha:PE X a (tI X call pa)) (he:∀ whole,isTrue a X.env whole = (do let v <- whole; standAt a.pos; holding [v] (truthy v))):PT X a (tT X call (.un .truth pa)):=by
 refine PT.weak (pt_truth ha he) fun σ H Q ⟨env,r,h⟩=>?_
 simp only [evD] at h
 refine ⟨env,r,(Rs.good_bind.mp h).imp fun d hd v H' s rv=>?_⟩
 simp only [op1] at hd
 cases ht:d.truth with
 | ok b=>
  rw [ht] at hd
  obtain ⟨b',e,q⟩:=hd
  cases e
  exact ⟨b,truV_of rv ht,q H' s⟩
 | ex c=>exact (truth_ex ht).elim
 | stuck=>rw [ht] at hd; exact hd.elim
theorem pI_one {op} (ha:PE X a (tI X call pa)):PE X (.BoolOp op [a] pos) (tI X call pa):=pe_one ha
theorem pI_and {rest:List Expr} (ha:PE X a (tI X call pa)) (hb:PE X (.BoolOp .And (b :: rest) pos) (tI X call pb)):PE X (.BoolOp .And (a :: b :: rest) pos) (tI X call (.and pa pb)):=by
 refine PE.weak (pe_and ha hb) fun σ H Q ⟨env,r,h⟩=>?_
 simp only [evD] at h
 refine tI.then r h fun d v H' s rv q hd=>?_
 cases d with
 | bl b=>
  cases rv
  refine ⟨b,rfl,?_⟩
  cases b with
  | true=>exact iteT ⟨env,q,hd⟩
  | false=>exact iteF (Out.now hd rfl)
 | _=>exact hd.elim
theorem pI_or {rest:List Expr} (ha:PE X a (tI X call pa)) (hb:PE X (.BoolOp .Or (b :: rest) pos) (tI X call pb)):PE X (.BoolOp .Or (a :: b :: rest) pos) (tI X call (.or pa pb)):=by
 refine PE.weak (pe_or ha hb) fun σ H Q ⟨env,r,h⟩=>?_
 simp only [evD] at h
 refine tI.then r h fun d v H' s rv q hd=>?_
 cases d with
 | bl b=>
  cases rv
  refine ⟨b,rfl,?_⟩
  cases b with
  | true=>exact iteT (Out.now hd rfl)
  | false=>exact iteF ⟨env,q,hd⟩
 | _=>exact hd.elim
theorem pI_not (ha:PE X a (tI X call pa)):PE X (.UnaryOp .Not a pos) (tI X call (.un .not pa)):=by
 refine PE.weak (pe_not ha) fun σ H Q ⟨env,r,h⟩=>?_
 simp only [evD] at h
 refine tI.then r h fun d v H' s rv q hd=>?_
 cases d with
 | bl b=>cases rv; exact ⟨b,rfl,Out.now hd rfl⟩
 | _=>exact hd.elim
theorem pI_if (hc:PT X c (tT X call pc)) (ha:PE X a (tI X call pa)) (hb:PE X b (tI X call pb)):PE X (.IfExp c a b pos) (tI X call (.ite pc pa pb)):=by
 refine PE.weak (pe_ifExp hc ha hb) fun σ H Q ⟨env,r,h⟩=>?_
 simp only [evD] at h
 refine ⟨env,r,(Rs.good_bind.mp h).imp fun d hd=>?_⟩
 cases d with
 | bl b=>
  refine ⟨b,rfl,fun H' s=>?_⟩
  cases b with
  | true=>exact iteT ⟨env,r.mono s,hd.mono (fun d o=>o.mono s) fun c x=>x.mono s⟩
  | false=>exact iteF ⟨env,r.mono s,hd.mono (fun d o=>o.mono s) fun c x=>x.mono s⟩
 | _=>exact hd.elim
theorem pA_nil:PA X [] (tA X call .nil):=by
 refine PA.weak pa_nil fun σ H Q ⟨env,r,h⟩=>?_
 obtain ⟨ds,e,q⟩:=h
 cases e
 exact q [] H (Same.refl H) rfl
theorem pA_cons (ha:PE X e (tI X call pa)) (hr:PA X es (tA X call pb)) (hs:starEach (e :: es) X.env = (false,eval e X.env) :: starEach es X.env:=by rfl):PA X (e :: es) (tA X call (.cons pa pb)):=by
 refine PA.weak (pa_cons ha hr hs) fun σ H Q ⟨env,r,h⟩=>?_
 simp only [evD] at h
 refine ⟨env,r,(Rs.good_bind.mp h).imp fun d hd v H' s rv=>?_⟩
 refine ⟨env,r.mono s,((Rs.good_bind.mp hd).imp fun y hy=>?_).mono (fun _ x=>x) fun c x=>x.mono s⟩
 cases y with
 | lst ds=>
  refine ⟨ds,rfl,fun vs H2 s2 rs=>?_⟩
  obtain ⟨ds',e,q⟩:=hy
  cases e
  exact q (v :: vs) H2 (s.trans s2) ⟨v,vs,rfl,rv.mono s2,rs⟩
 | _=>exact hy.elim
theorem laidT {H:Hp} {a:Addr} {ds:List D} {xs:List V} {K:PySem.W.Frag} (h:H a = none) (r:Reps K H ds xs):Same H (upd H a (.tup xs)) /\ Rep K (upd H a (.tup xs)) (.tup ds) (.ref a):=by
 have s:Same H (upd H a (.tup xs)):=fun b o e=>by rw [upd_ne (ne_of_none e h)]; exact e
 exact ⟨s,a,xs,rfl,SqT.of upd_same,r.mono s⟩
theorem laidL {H:Hp} {a:Addr} {ds:List D} {xs:List V} {K:PySem.W.Frag} (h:H a = none) (r:Reps K H ds xs):Same H (upd H a (.lst xs)) /\ Rep K (upd H a (.lst xs)) (.lst ds) (.ref a):=by
 have s:Same H (upd H a (.lst xs)):=fun b o e=>by rw [upd_ne (ne_of_none e h)]; exact e
 exact ⟨s,a,xs,rfl,SqL.of upd_same,r.mono s⟩
theorem pI_tup {k:Nat} (h:PA X es (tA X call p)):PE X (.Tuple es k pos) (tI X call (.tup p)):=by
 refine PE.weak (pe_tup h) fun σ H Q ⟨env,r,h⟩=>?_
 simp only [evD] at h
 refine ⟨env,r,(Rs.good_bind.mp h).imp fun d hd=>?_⟩
 cases d with
 | lst ds=>
  simp only [D.asL,Rs.bind_ok] at hd
  refine ⟨ds,rfl,fun vs H' s rs=>?_⟩
  split at hd
  ·rename_i hz
   refine ⟨by rw [rs.length,sizeLine_eq]; exact hz,fun a ha=>?_⟩
   obtain ⟨s2,r2⟩:=laidT ha rs
   exact hd _ _ (s.trans s2) r2
  ·exact hd.elim
 | _=>exact hd.elim
def OutF (X:Cx) (H:Hp) (Q:VK) (d:D):Prop:=∃ ds,d = .lst ds /\ ∀ l xs H',Same H H' -> H l = none -> H' l = some (.lst xs) -> Reps X.K H' ds xs -> Q (.ref l) H'
def tF (X:Cx) (call:CallD) (p:Px):TE:=fun σ H Q=>∃ env,ReadOk X.K H σ env /\ (evD call p env).Good (OutF X H Q) (XW X H)
end
end Rd
namespace Rd
open PySem PySem.Spec PyProof.Rows L2 Pu
structure Gw where
 prog:Program
 w:World
 K:PySem.W.Frag
 mg:Str -> Option Value
 base:Heap
 A:Around
def gwOf (X:Cx):Gw:=⟨X.prog,X.w,X.K,X.mg,X.base,X.A⟩
def visB (nm:List (Str × NameKind)) (x:Str):Bool:=match nm.lookup x with
 | some .local=>true
 | some .cell=>true
 | some .free=>true
 | _=>false
def celB (nm:List (Str × NameKind)) (x:Str):Bool:=match nm.lookup x with
 | some .cell=>true
 | some .free=>true
 | _=>false
def locB (nm:List (Str × NameKind)) (x:Str):Bool:=match nm.lookup x with
 | some .local=>true
 | some .cell=>true
 | _=>false
def gloB (nm:List (Str × NameKind)) (x:Str):Bool:=match nm.lookup x with
 | some .globalImplicit=>true
 | _=>false
structure Ctx (X:Cx) (G:Gw) (N:List Str) (nm:List (Str × NameKind)):Prop where
 g:gwOf X = G
 hN:X.N = N
 nd:N.Nodup
 vis:∀ x,visB nm x = true -> Vis X.env.scope x
 cel:∀ x,celB nm x = true -> X.env.kindOf x = some .cell \/ X.env.kindOf x = some .free
 glo:∀ x,gloB nm x = true -> Gl X x
 sto:∀ x,locB nm x = true -> Loc X.env.scope x /\ (X.fn x = true \/ X.env.scope.names.lookup x = some .local)
 calm:X.calm = true
 un:X.A.units + 64 < cLine
theorem Ctx.K {X:Cx} {G:Gw} {N:List Str} {nm:List (Str × NameKind)} (C:Ctx X G N nm):X.K = G.K:=by rw [<- C.g]; rfl
theorem Ctx.mg {X:Cx} {G:Gw} {N:List Str} {nm:List (Str × NameKind)} (C:Ctx X G N nm):X.mg = G.mg:=by rw [<- C.g]; rfl
def Walk (K:PySem.W.Frag) (J:It) (H:Hp) (ds:List D):Prop:=∀ H',Same H H' ->
 (∀ i,i < ds.length -> J.go i H') /\ J.stop ds.length H' /\ ∀ i x H'',i < ds.length -> J.yld i H' x H'' -> Same H' H'' /\ ∃ d,ds[i]? = some d /\ Rep K H'' d x
def tW (X:Cx) (call:CallD) (p:Px):TI:=fun σ H R=>∃ env,ReadOk X.K H σ env /\ (evD call p env).Good (fun d=>∃ ds,d = .lst ds /\ ∀ J H',Same H H' -> Walk X.K J H' ds -> ItOk J -> R J H') (XW X H)
def closL (cs:List (Str × Addr)):List (Str × NameKind) -> List (Str × Addr) -> List (Str × Addr)
 | [],acc=>acc
 | (n,k) :: r,acc=>match k,cs.lookup n with
  | .free,some a=>closL cs r ((n,a) :: acc)
  | _,_=>closL cs r acc
theorem closureFor_eq {env:Env}:∀ (names:List (Str × NameKind)) (acc:List (Str × Addr)),(∀ y ∈ names,y.2 = .free -> ∃ c,env.cells.lookup y.1 = some c) ->
  (forIn names acc fun x r=>if (x.2 == NameKind.free) = true then do let a <- cellOf env x.1; pure (ForInStep.yield ((x.1,a) :: r)) else pure (ForInStep.yield r):Sem (List (Str × Addr))) = pure (closL env.cells names acc)
 | [],acc,_=>rfl
 | (n,k) :: r,acc,h=>by
  rw [List.forIn_cons]
  by_cases hk:k = .free
  ·subst hk
   obtain ⟨c,hc⟩:=h (n,.free) (.head _) rfl
   have hc':env.cells.lookup n = some c:=hc
   have e1:cellOf env n = pure c:=by unfold cellOf; rw [hc']
   simp only [beq_self_eq_true,if_true,e1]
   have ih:=closureFor_eq r ((n,c) :: acc) fun y hy=>h y (.tail _ hy)
   simp only [closL,hc']
   exact ih
  ·have hb:(k == NameKind.free) = false:=by simpa using hk
   simp only [hb,Bool.false_eq_true,if_false]
   have ih:=closureFor_eq r acc fun y hy=>h y (.tail _ hy)
   have e2:closL env.cells ((n,k) :: r) acc = closL env.cells r acc:=by
    cases k <;> first | rfl | exact absurd rfl hk
   rw [e2]
   exact ih
theorem closure_eq {scope:Scope} {env:Env} (h:∀ y ∈ scope.names,y.2 = .free -> ∃ c,env.cells.lookup y.1 = some c):closureFor scope env = pure (closL env.cells scope.names []):=by
 have e:=closureFor_eq (env:=env) scope.names [] h
 unfold closureFor
 simp only [bind_pure]
 exact e
theorem closL_sub {cs:List (Str × Addr)}:∀ (names:List (Str × NameKind)) (acc:List (Str × Addr)),(∀ x c,acc.lookup x = some c -> cs.lookup x = some c) -> ∀ x c,(closL cs names acc).lookup x = some c -> cs.lookup x = some c
 | [],acc,h=>h
 | (n,k) :: r,acc,h=>by
  intro x c
  have keep:=closL_sub r acc h x c
  unfold closL
  split
  ·rename_i a ha
   refine closL_sub r _ (fun y d e=>?_) x c
   by_cases hy:y = n
   ·subst hy
    simp only [List.lookup_cons,beq_self_eq_true] at e
    cases e
    exact ha
   ·have hb:(y == n) = false:=by simpa using hy
    simp only [List.lookup_cons,hb] at e
    exact h y d e
  ·exact keep
theorem closL_keep {cs:List (Str × Addr)}:∀ (names:List (Str × NameKind)) (acc:List (Str × Addr)) (x:Str),(∃ c,acc.lookup x = some c) -> ∃ c,(closL cs names acc).lookup x = some c
 | [],acc,x,h=>h
 | (n,k) :: r,acc,x,h=>by
  unfold closL
  split
  ·refine closL_keep r _ x ?_
   by_cases hy:x = n
   ·subst hy; exact ⟨_,by simp only [List.lookup_cons,beq_self_eq_true]; rfl⟩
   ·have hb:(x == n) = false:=by simpa using hy
    obtain ⟨c,hc⟩:=h
    exact ⟨c,by simp only [List.lookup_cons,hb]; exact hc⟩
  ·exact closL_keep r acc x h
theorem closL_has {cs:List (Str × Addr)}:∀ (names:List (Str × NameKind)) (acc:List (Str × Addr)) (x:Str),(x,NameKind.free) ∈ names -> (∃ c,cs.lookup x = some c) -> ∃ c,(closL cs names acc).lookup x = some c
 | [],acc,x,h,_=>nomatch h
 | (n,k) :: r,acc,x,h,hc=>by
  rcases List.mem_cons.mp h with e | h'
  ·cases e
   obtain ⟨c,hc⟩:=hc
   unfold closL
   rw [hc]
   exact closL_keep r _ _ ⟨c,by simp only [List.lookup_cons,beq_self_eq_true]⟩
  ·unfold closL
   split
   ·exact closL_has r _ x h' hc
   ·exact closL_has r acc x h' hc
def relk (env:Env) (p:Str × NameKind):Str × NameKind:=if (p.2 == NameKind.free && env.scope.kind == .function && env.kindOf p.1 == some .cell) = true then (p.1,NameKind.cell) else (p.1,p.2)
theorem relk_is (env:Env) (n:Str) (k:NameKind):relk env (n,k) = (n,k) \/ (k = .free /\ relk env (n,k) = (n,.cell)):=by
 unfold relk
 split
 ·rename_i hc
  simp only [Bool.and_eq_true,beq_iff_eq] at hc
  exact .inr ⟨hc.1.1,rfl⟩
 ·exact .inl rfl
theorem relabel_names (scope:Scope) (env:Env):(relabel scope env).names = scope.names.map (relk env):=rfl
theorem relk_lookup {env:Env} {x:Str}:∀ {names:List (Str × NameKind)} {k:NameKind},names.lookup x = some k -> (names.map (relk env)).lookup x = some k \/ (k = .free /\ (names.map (relk env)).lookup x = some .cell)
 | [],_,h=>by simp at h
 | (n,k') :: r,k,h=>by
  rw [List.map_cons]
  by_cases hx:x = n
  ·subst hx
   simp only [List.lookup_cons,beq_self_eq_true] at h
   cases h
   rcases relk_is env x k' with e | ⟨e1,e⟩
   ·rw [e]; exact .inl (by simp only [List.lookup_cons,beq_self_eq_true])
   ·rw [e]; exact .inr ⟨e1,by simp only [List.lookup_cons,beq_self_eq_true]⟩
  ·have hb:(x == n) = false:=by simpa using hx
   simp only [List.lookup_cons,hb] at h
   have ih:=relk_lookup (env:=env) h
   rcases relk_is env n k' with e | ⟨_,e⟩ <;> rw [e] <;> simp only [List.lookup_cons,hb] <;> exact ih
theorem relk_none {env:Env} {x:Str}:∀ {names:List (Str × NameKind)},names.lookup x = none -> (names.map (relk env)).lookup x = none
 | [],_=>rfl
 | (n,k') :: r,h=>by
  rw [List.map_cons]
  by_cases hx:x = n
  ·subst hx; simp only [List.lookup_cons,beq_self_eq_true] at h; cases h
  ·have hb:(x == n) = false:=by simpa using hx
   simp only [List.lookup_cons,hb] at h
   have ih:=relk_none (env:=env) h
   rcases relk_is env n k' with e | ⟨_,e⟩ <;> rw [e] <;> simp only [List.lookup_cons,hb] <;> exact ih
theorem relabel_lookup {scope:Scope} {env:Env} {x:Str} {k:NameKind} (h:scope.names.lookup x = some k):(relabel scope env).names.lookup x = some k \/ (k = .free /\ (relabel scope env).names.lookup x = some .cell):=relk_lookup h
theorem relabel_inv {scope:Scope} {env:Env} {x:Str} {k:NameKind} (h:(relabel scope env).names.lookup x = some k):scope.names.lookup x = some k \/ (k = .cell /\ scope.names.lookup x = some .free):=by
 rw [relabel_names] at h
 cases q:scope.names.lookup x with
 | none=>rw [relk_none q] at h; cases h
 | some k'=>
  rcases relk_lookup (env:=env) q with z | ⟨z1,z2⟩
  ·rw [z] at h; cases h; exact .inl rfl
  ·rw [z2] at h; cases h; subst z1; exact .inr ⟨rfl,rfl⟩
theorem mem_of_lookup {α:Type}:∀ {l:List (Str × α)} {x:Str} {a:α},l.lookup x = some a -> (x,a) ∈ l
 | [],_,_,h=>by simp at h
 | (n,b) :: r,x,a,h=>by
  by_cases hx:x = n
  ·subst hx; simp only [List.lookup_cons,beq_self_eq_true] at h; cases h; exact .head _
  ·have hb:(x == n) = false:=by simpa using hx
   simp only [List.lookup_cons,hb] at h
   exact .tail _ (mem_of_lookup h)
theorem compLoop_any {prog:Program} {w:World} {A:Around} {R:Result -> Shared -> Prop} {s:Shared} {elt target iter:Expr} {ifs:List Expr} {scope:Scope} {pos:Pos} {it acc:Value} {env:Env} (I:Nat -> Shared -> Prop)
  (turn:∀ n s,I n s -> wpAny (model prog w) A (pyNext it) (fun r s₁=>match r with
   | none=>R (.ok .next) s₁
   | some v=>wpAny (model prog w) A (letOwnedTupleGo target it v) (fun _ s₁'=>wpAny (model prog w) A (assign target env v) (fun _ s₂=>
     wpAny (model prog w) A (forIn ifs true fun c r=>if r = true then do let ok <- isTrue c env (eval c env); pure (ForInStep.yield ok) else pure (ForInStep.yield r)) (fun ok s₃=>
      if ok = true then wpAny (model prog w) A (eval elt env) (fun x s₄=>
       wpAny (model prog w) A (PySem.call (.builtin "list.append") [acc,x]) (fun _ s₅=>∃ m,m < n /\ I m s₅) (notedBy (model prog w) A env fun e s'=>R (.error e) s') s₄) (notedBy (model prog w) A env fun e s'=>R (.error e) s') s₃
      else ∃ m,m < n /\ I m s₃) (notedBy (model prog w) A env fun e s'=>R (.error e) s') s₂) (notedBy (model prog w) A env fun e s'=>R (.error e) s') s₁') (notedBy (model prog w) A env fun e s'=>R (.error e) s') s₁) (notedBy (model prog w) A env fun e s'=>R (.error e) s') s)
  (n:Nat) (h:I n s) :
  codeAny (model prog w) A (.compLoop (.ListComp elt [⟨target,iter,ifs,0⟩] scope pos) 0 it acc env) R s:=by
 refine codeAny_loop rfl I (fun n s hI=>?_) n h
 show wpAny _ A ((compTurn (.ListComp elt [⟨target,iter,ifs,0⟩] scope pos) 0 it acc env).onRaise (fun x=>do noteFrame x env; theTreesLotGoes x)) _ _ s
 refine wpAny_noted ?_
 rw [compTurn_list]
 refine wpAny_bind (wpAny_standAt (wpAny_bind (wpAny_mono (turn n s hI) (fun r s₁ h₁=>?_) fun _ _ h'=>h')))
 cases r with
 | none=>exact wpAny_pure h₁
 | some v=>
  refine wpAny_bind (wpAny_mono h₁ (fun _ s₁' h₁'=>?_) fun _ _ h'=>h')
  refine wpAny_bind (wpAny_mono h₁' (fun _ s₂ h₂=>wpAny_bind (wpAny_mono h₂ (fun ok s₃ h₃=>?_) fun _ _ h'=>h')) fun _ _ h'=>h')
  cases ok with
  | false=>exact wpAny_pure ⟨rfl,h₃⟩
  | true=>
   exact wpAny_bind (wpAny_bind (wpAny_mono h₃ (fun x s₄ h₄=>wpAny_bind (wpAny_mono h₄ (fun _ s₅ h₅=>wpAny_pure (wpAny_pure ⟨rfl,h₅⟩)) fun _ _ h'=>h')) fun _ _ h'=>h'))
def dum (n:Str):Str:=⟨n.cps.push 0⟩
def hidN (ls N:List Str):List Str:=N.map fun n=>if ls.contains n then dum n else n
theorem cf_from:∀ (names:List (Str × NameKind)) (n:Nat) (acc:List (Str × Addr)) (x:Str) (c:Addr),(cellsFrom n names acc).lookup x = some c -> acc.lookup x = some c \/ (n <= c /\ (x,NameKind.cell) ∈ names)
 | [],_,_,_,_,h=>.inl h
 | (y,k) :: r,n,acc,x,c,h=>by
  unfold cellsFrom at h
  split at h
  ·rename_i hk
   rw [beq_iff_eq] at hk
   subst hk
   rcases cf_from r (n + 1) _ x c h with q | ⟨q1,q2⟩
   ·by_cases hx:x = y
    ·subst hx
     simp only [List.lookup_cons,beq_self_eq_true,Option.some.injEq] at q
     subst q
     exact .inr ⟨Nat.le_refl _,by simp⟩
    ·have hb:(x == y) = false:=by simpa using hx
     simp only [List.lookup_cons,hb] at q
     exact .inl q
   ·exact .inr ⟨Nat.le_of_succ_le q1,by simp [q2]⟩
  ·rcases cf_from r n acc x c h with q | ⟨q1,q2⟩
   ·exact .inl q
   ·exact .inr ⟨q1,by simp [q2]⟩
theorem cf_inj:∀ (names:List (Str × NameKind)) (n:Nat) (acc:List (Str × Addr)),(∀ x c,acc.lookup x = some c -> c < n) -> (∀ x y c,acc.lookup x = some c -> acc.lookup y = some c -> x = y) -> ∀ x y c,(cellsFrom n names acc).lookup x = some c -> (cellsFrom n names acc).lookup y = some c -> x = y
 | [],_,_,_,h=>h
 | (z,k) :: r,n,acc,hlt,h=>by
  unfold cellsFrom
  split
  ·refine cf_inj r (n + 1) _ (fun x c e=>?_) fun x y c e1 e2=>?_
   ·by_cases hx:x = z
    ·subst hx
     simp only [List.lookup_cons,beq_self_eq_true,Option.some.injEq] at e
     subst e; exact Nat.lt_succ_self _
    ·have hb:(x == z) = false:=by simpa using hx
     simp only [List.lookup_cons,hb] at e
     exact Nat.lt_succ_of_lt (hlt x c e)
   ·by_cases hx:x = z <;> by_cases hy:y = z
    ·rw [hx,hy]
    ·subst hx
     have hb:(y == x) = false:=by simpa using hy
     simp only [List.lookup_cons,beq_self_eq_true,Option.some.injEq] at e1
     simp only [List.lookup_cons,hb] at e2
     subst e1
     exact absurd (hlt y _ e2) (Nat.lt_irrefl _)
    ·subst hy
     have hb:(x == y) = false:=by simpa using hx
     simp only [List.lookup_cons,beq_self_eq_true,Option.some.injEq] at e2
     simp only [List.lookup_cons,hb] at e1
     subst e2
     exact absurd (hlt x _ e1) (Nat.lt_irrefl _)
    ·have hb:(x == z) = false:=by simpa using hx
     have hb2:(y == z) = false:=by simpa using hy
     simp only [List.lookup_cons,hb] at e1
     simp only [List.lookup_cons,hb2] at e2
     exact h x y c e1 e2
  ·exact cf_inj r n acc hlt h
theorem cf_same:∀ (names:List (Str × NameKind)) (n:Nat) (acc:List (Str × Addr)) (x:Str),(x,NameKind.cell) ∉ names -> (cellsFrom n names acc).lookup x = acc.lookup x
 | [],_,_,_,_=>rfl
 | (y,k) :: r,n,acc,x,h=>by
  unfold cellsFrom
  split
  ·rename_i hk
   rw [beq_iff_eq] at hk
   rw [cf_same r _ _ x fun q=>h (by simp [q])]
   have hx:x ≠ y:=fun e=>h (by simp [e,hk])
   have hb:(x == y) = false:=by simpa using hx
   simp only [List.lookup_cons,hb]
  ·exact cf_same r _ _ x fun q=>h (by simp [q])
theorem cf_keep:∀ (names:List (Str × NameKind)) (n:Nat) (acc:List (Str × Addr)) (x:Str),(∃ c,acc.lookup x = some c) -> ∃ c,(cellsFrom n names acc).lookup x = some c
 | [],_,_,_,h=>h
 | (y,k) :: r,n,acc,x,h=>by
  unfold cellsFrom
  split
  ·refine cf_keep r _ _ x ?_
   by_cases hx:x = y
   ·exact ⟨n,by simp [List.lookup_cons,hx]⟩
   ·have hb:(x == y) = false:=by simpa using hx
    simpa only [List.lookup_cons,hb] using h
  ·exact cf_keep r _ _ x h
theorem cf_has:∀ (names:List (Str × NameKind)) (n:Nat) (acc:List (Str × Addr)) (x:Str),(x,NameKind.cell) ∈ names -> ∃ c,(cellsFrom n names acc).lookup x = some c
 | [],_,_,_,h=>by cases h
 | (y,k) :: r,n,acc,x,h=>by
  unfold cellsFrom
  rcases List.mem_cons.mp h with q | q
  ·cases q
   simp only [beq_self_eq_true,if_true]
   exact cf_keep r _ _ _ ⟨n,by simp [List.lookup_cons]⟩
  ·split <;> exact cf_has r _ _ x q
theorem cf_cell:∀ (names:List (Str × NameKind)) (h:Heap) (acc:List (Str × Addr)) (x:Str) (c:Addr),(cellsFrom h.objs.size names acc).lookup x = some c -> acc.lookup x = some c \/ (h.objs.size <= c /\ (pushCells h names).IsCell c none)
 | [],_,_,_,_,e=>.inl e
 | (y,k) :: r,h,acc,x,c,e=>by
  unfold cellsFrom at e
  unfold pushCells
  split at e
  ·rename_i hk
   rw [if_pos hk]
   have hsz:(h.push { cls:=.type "cell",data:=.cell none }).objs.size = h.objs.size + 1:=Heap.size_push ..
   rw [<- hsz] at e
   rcases cf_cell r (h.push { cls:=.type "cell",data:=.cell none }) _ x c e with q | ⟨q1,q2⟩
   ·by_cases hx:x = y
    ·subst hx
     simp only [List.lookup_cons,beq_self_eq_true,Option.some.injEq] at q
     subst q
     exact .inr ⟨Nat.le_refl _,_,pushCells_keeps _ _ _ _ (Heap.get?_push_size _ rfl),rfl⟩
    ·have hb:(x == y) = false:=by simpa using hx
     simp only [List.lookup_cons,hb] at q
     exact .inl q
   ·exact .inr ⟨by omega,q2⟩
  ·rename_i hk
   rw [if_neg hk]
   exact cf_cell r h acc x c e
theorem cf_new {lo:Nat}:∀ (names:List (Str × NameKind)) (n:Nat) (acc:List (Str × Addr)) (x:Str),lo <= n -> ((x,NameKind.cell) ∈ names \/ ∀ c,acc.lookup x = some c -> lo <= c) -> ∀ c,(cellsFrom n names acc).lookup x = some c -> lo <= c
 | [],_,_,_,_,h,c,e=>by
  rcases h with h | h
  ·cases h
  ·exact h c e
 | (y,k) :: r,n,acc,x,hn,h,c,e=>by
  unfold cellsFrom at e
  split at e
  ·refine cf_new r (n + 1) _ x (Nat.le_succ_of_le hn) ?_ c e
   by_cases hx:x = y
   ·refine .inr fun c' e'=>?_
    subst hx
    simp only [List.lookup_cons,beq_self_eq_true,Option.some.injEq] at e'
    subst e'; exact hn
   ·have hb:(x == y) = false:=by simpa using hx
    rcases h with h | h
    ·rcases List.mem_cons.mp h with q | q
     ·cases q; exact absurd rfl hx
     ·exact .inl q
    ·refine .inr fun c' e'=>?_
     simp only [List.lookup_cons,hb] at e'
     exact h c' e'
  ·rename_i hk
   refine cf_new r n acc x hn ?_ c e
   rcases h with h | h
   ·rcases List.mem_cons.mp h with q | q
    ·cases q; exact absurd (beq_self_eq_true _) hk
    ·exact .inl q
   ·exact .inr h
def cxComp (X:Cx) (ls:List Str) (scope:Scope) (C:Addr) (s:Shared) (H:Hp) (fp:List Addr) (E:Value -> Shared -> Prop):Cx:=
 { X with N:=ls ++ hidN ls X.N,s₀:=s,H₀:=H,env:=compEnvC scope (cellsFrom (C + 1) scope.names (closL X.env.cells scope.names [])) C X.env,outer:=X.stack,ex:=fp,fn:=fun x=>scope.names.lookup x == some .cell,pn:=[],xe:=E }
def scOkB (N:List Str) (nm:List (Str × NameKind)) (ls:List Str) (sc:List (Str × NameKind)):Bool:=
 sc.all fun y=>(y.2 != .cell || (sc.lookup y.1 == some .cell && ls.contains y.1)) && (y.2 != .free || celB nm y.1) && (y.2 != .local || (sc.lookup y.1 == some .local && (ls.contains y.1 || !N.contains y.1)))
structure ScOk (N:List Str) (nm:List (Str × NameKind)) (ls:List Str) (sc:Scope):Prop where
 kind:sc.kind = .function
 nd:(ls ++ hidN ls N).Nodup
 all:scOkB N nm ls sc.names = true
 no:∀ n ∈ N,ls.contains n = true -> sc.names.lookup (dum n) = none
section
variable {N:List Str} {nm:List (Str × NameKind)} {ls:List Str} {sc:Scope}
theorem ScOk.at (h:ScOk N nm ls sc) {y:Str × NameKind} (hy:y ∈ sc.names):(y.2 = .cell -> sc.names.lookup y.1 = some .cell /\ y.1 ∈ ls) /\ (y.2 = .free -> celB nm y.1 = true) /\ (y.2 = .local -> sc.names.lookup y.1 = some .local /\ (y.1 ∈ ls \/ y.1 ∉ N)):=by
 have q:=List.all_eq_true.mp h.all y hy
 simp only [Bool.and_eq_true,bne_iff_ne,Bool.or_eq_true,beq_iff_eq,Bool.not_eq_true',List.contains_eq_mem,decide_eq_true_eq,decide_eq_false_iff_not] at q
 refine ⟨fun e=>?_,fun e=>?_,fun e=>?_⟩
 ·rcases q.1.1 with z | z
  ·exact absurd e z
  ·exact z
 ·rcases q.1.2 with z | z
  ·exact absurd e z
  ·exact z
 ·rcases q.2 with z | z
  ·exact absurd e z
  ·exact z
theorem ScOk.fcell (h:ScOk N nm ls sc) {x:Str} (hx:sc.names.lookup x = some .free):(x,NameKind.cell) ∉ sc.names:=fun q=>by
 have:=((h.at q).1 rfl).1
 rw [hx] at this; cases this
variable {X:Cx} {G:Gw}
theorem ScOk.cells (h:ScOk N nm ls sc) (C:Ctx X G N nm) (ok:X.Ok):∀ y ∈ sc.names,y.2 = .free -> ∃ c,X.env.cells.lookup y.1 = some c:=fun y hy e=>ok.has _ (C.cel _ ((h.at hy).2.1 e))
theorem ctx_comp {Cd:Addr} {s:Shared} {H:Hp} {fp:List Addr} {E:Value -> Shared -> Prop} (C:Ctx X G N nm) (h:ScOk N nm ls sc):Ctx (cxComp X ls sc Cd s H fp E) G (ls ++ hidN ls N) sc.names where
 g:=C.g
 hN:=by show ls ++ hidN ls X.N = _; rw [C.hN]
 nd:=h.nd
 vis:=fun x hx=>by
  show Vis (relabel sc X.env) x
  unfold visB at hx
  split at hx
  ·rename_i e
   rcases relabel_lookup (env:=X.env) e with z | ⟨z,_⟩
   ·exact .inl z
   ·cases z
  ·rename_i e
   rcases relabel_lookup (env:=X.env) e with z | ⟨z,_⟩
   ·exact .inr (.inl z)
   ·cases z
  ·rename_i e
   rcases relabel_lookup (env:=X.env) e with z | ⟨_,z⟩
   ·exact .inr (.inr z)
   ·exact .inr (.inl z)
  ·cases hx
 cel:=fun x hx=>by
  show (relabel sc X.env).names.lookup x = some .cell \/ (relabel sc X.env).names.lookup x = some .free
  unfold celB at hx
  split at hx
  ·rename_i e
   rcases relabel_lookup (env:=X.env) e with z | ⟨z,_⟩
   ·exact .inl z
   ·cases z
  ·rename_i e
   rcases relabel_lookup (env:=X.env) e with z | ⟨_,z⟩
   ·exact .inr z
   ·exact .inl z
  ·cases hx
 glo:=fun x hx=>by
  show (relabel sc X.env).names.lookup x = some .globalImplicit
  unfold gloB at hx
  split at hx
  ·rename_i e
   rcases relabel_lookup (env:=X.env) e with z | ⟨z,_⟩
   ·exact z
   ·cases z
  ·cases hx
 sto:=fun x hx=>by
  show Loc (relabel sc X.env) x /\ ((sc.names.lookup x == some .cell) = true \/ (relabel sc X.env).names.lookup x = some .local)
  unfold locB at hx
  split at hx
  ·rename_i e
   rcases relabel_lookup (env:=X.env) e with z | ⟨z,_⟩
   ·exact ⟨.inl z,.inr z⟩
   ·cases z
  ·rename_i e
   rcases relabel_lookup (env:=X.env) e with z | ⟨z,_⟩
   ·exact ⟨.inr z,.inl (by rw [e]; rfl)⟩
   ·cases z
  ·cases hx
 calm:=C.calm
 un:=C.un
abbrev listObj (its:List Value) (n:Nat):Obj:={ cls:=.type "list",dict:=none,data:=.seq its.toArray n }
theorem inv_comp {pins:List (Addr × Obj)} {σ:L2.St} {H:Hp} {s:Shared} {h₁:Heap} {tk:Nat} {fp:List Addr} {E:Value -> Shared -> Prop} {m:Str -> Option Value} {Cd:Addr} {h0:Heap} (C:Ctx X G N nm) (h:ScOk N nm ls sc) (hh:h₁ = pushCells h0 sc.names) (h0s:h0.objs.size = Cd + 1) (I:Inv X pins σ H s)
  (hf:∀ b ∈ fp,FpOk X pins H b) (ho:∀ b ∈ fp,∃ o,s.heap.get? b = some o) (hC:Cd = s.heap.objs.size + 1) (hns:h₁.Ns Cd m) (keep:∀ b o,s.heap.get? b = some o -> h₁.get? b = some o)
  (hacc:h₁.get? s.heap.objs.size = some (listObj [] 0)) :
  Inv (cxComp X ls sc Cd s H fp E) [(s.heap.objs.size,listObj [] 0)] (List.replicate ls.length none ++ σ) H { s with heap:=h₁,toks:=tk }:=by
 subst hC
 have sub:∀ x c,(closL X.env.cells sc.names []).lookup x = some c -> X.env.cells.lookup x = some c:=closL_sub sc.names [] fun x c e=>by simp at e
 have old':∀ x c,(closL X.env.cells sc.names []).lookup x = some c -> c < s.heap.objs.size:=fun x c e=>by
  obtain ⟨v,o,h1,h2⟩:=I.cell x c (sub x c e)
  exact Heap.lt_size h1
 have sub':∀ x c,(cellsFrom (s.heap.objs.size + 1 + 1) sc.names (closL X.env.cells sc.names [])).lookup x = some c -> X.env.cells.lookup x = some c \/ (s.heap.objs.size + 1 + 1 <= c /\ h₁.IsCell c none):=fun x c e=>by
  rw [<- h0s] at e
  rcases cf_cell sc.names h0 _ x c e with q | ⟨q1,q2⟩
  ·exact .inl (sub x c q)
  ·exact .inr ⟨h0s ▸ q1,hh ▸ q2⟩
 have stk:∀ b ∈ frs X.stack,b < s.heap.objs.size:=fun b hb=>by
  obtain ⟨_,o,ho,_⟩:=I.stack.mem hb
  exact Heap.lt_size ho
 refine ⟨⟨I.ok.mod,h.kind,I.ok.glob,I.ok.blt,Nat.le_succ _,cf_inj _ _ _ (fun x c e=>Nat.lt_succ_of_lt (Nat.lt_succ_of_lt (old' x c e))) fun x y c e1 e2=>I.ok.inj x y c (sub x c e1) (sub y c e2),fun x hk=>?_,fun x c z e=>?_,I.ok.hd,I.ok.frames,.inl rfl,fun b hb=>?_,I.bs,Nat.le_trans I.ok.bsz I.sz,fun b o e hb=>?_,fun b hb hz=>?_,I.stack,I.stkFree⟩,
  rfl,I.bare,Un.kept keep,⟨m,hns,fun i x v hN hσ hv=>?_⟩,fun x c e=>?_,?_,fun x c e=>?_,fun p hp=>?_,I.hok.kept keep,?_⟩
 ·-- every cell name has its cell
  have hk':(relabel sc X.env).names.lookup x = some .cell \/ (relabel sc X.env).names.lookup x = some .free:=hk
  have hfr:sc.names.lookup x = some .free \/ sc.names.lookup x = some .cell:=by
   rcases hk' with z | z
   ·rcases relabel_inv z with q | ⟨_,q⟩
    ·exact .inr q
    ·exact .inl q
   ·rcases relabel_inv z with q | ⟨q,_⟩
    ·exact .inl q
    ·cases q
  rcases hfr with hfr | hfr
  ·have hm:=mem_of_lookup hfr
   exact cf_keep _ _ _ _ (closL_has sc.names [] x hm (h.cells C I.ok (x,.free) hm rfl))
  ·exact cf_has _ _ _ _ (mem_of_lookup hfr)
 ·have z':sc.names.lookup x = some .cell:=by
   have z2:(sc.names.lookup x == some .cell) = true:=z
   simpa using z2
  have e':(cellsFrom (s.heap.objs.size + 1 + 1) sc.names (closL X.env.cells sc.names [])).lookup x = some c:=e
  have:=cf_new (lo:=s.heap.objs.size + 1 + 1) _ _ _ _ (Nat.le_refl _) (.inl (mem_of_lookup z')) c e'
  show s.heap.objs.size <= c
  omega
 ·obtain ⟨o,e⟩:=ho b hb
  refine ⟨Nat.ne_of_lt (Nat.lt_succ_of_lt (Heap.lt_size e)),fun x c e'=>?_⟩
  rcases sub' x c e' with q | ⟨q,_⟩
  ·exact (hf b hb).2.2.2.2.1 x c q
  ·have:=Heap.lt_size e
   exact fun ee=>Nat.lt_irrefl _ (Nat.lt_of_lt_of_le (Nat.lt_succ_of_lt (Nat.lt_succ_of_lt this)) (ee ▸ q))
 ·rcases (hf b hb).2.2.2.1 with z | z
  ·exact I.ok.noex b o e z
  ·exact absurd (Nat.lt_of_lt_of_le (Heap.lt_size (I.ok.bs b o e).1) z) (Nat.lt_irrefl _)
 ·rcases List.mem_cons.mp (I.stkSub b hz) with z | z
  ·exact (hf b hb).2.1 z
  ·exact (hf b hb).2.2.1 z
 ·-- a name that the block sees
  have hN':(ls ++ hidN ls X.N)[i]? = some x:=hN
  by_cases hi:i < ls.length
  ·rw [List.getElem?_append_left (by simpa using hi)] at hσ
   rw [List.getElem?_replicate] at hσ
   split at hσ <;> cases hσ
  ·have hi':ls.length <= i:=Nat.le_of_not_lt hi
   rw [List.getElem?_append_right hi'] at hN'
   rw [List.getElem?_append_right (by simpa using hi')] at hσ
   rw [List.length_replicate] at hσ
   obtain ⟨hN',hxl⟩:X.N[i - ls.length]? = some x /\ x ∉ ls:=by
    unfold hidN at hN'
    rw [List.getElem?_map] at hN'
    cases q:X.N[i - ls.length]? with
    | none=>rw [q] at hN'; cases hN'
    | some n=>
     rw [q] at hN'
     simp only [Option.map_some,Option.some.injEq] at hN'
     by_cases hc:ls.contains n = true
     ·rw [if_pos hc] at hN'
      have hno:=h.no n (by rw [<- C.hN]; exact List.mem_of_getElem? q) hc
      rw [hN'] at hno
      have hv':(relabel sc X.env).names.lookup x = some .local \/ (relabel sc X.env).names.lookup x = some .cell \/ (relabel sc X.env).names.lookup x = some .free:=hv
      exfalso
      rcases hv' with z | z | z <;> rcases relabel_inv z with q | ⟨_,q⟩ <;> (rw [hno] at q; cases q)
     ·rw [if_neg hc] at hN'
      subst hN'
      exact ⟨rfl,by simpa using hc⟩
   have hxN:x ∈ N:=by rw [<- C.hN]; exact List.mem_of_getElem? hN'
   have hfr:sc.names.lookup x = some .free:=by
    have hv':(relabel sc X.env).names.lookup x = some .local \/ (relabel sc X.env).names.lookup x = some .cell \/ (relabel sc X.env).names.lookup x = some .free:=hv
    rcases hv' with z | z | z
    ·rcases relabel_inv z with q | ⟨q,_⟩
     ·have w:=((h.at (mem_of_lookup q)).2.2 rfl).2
      rcases w with w | w
      ·exact absurd w hxl
      ·exact absurd hxN w
     ·cases q
    ·rcases relabel_inv z with q | ⟨_,q⟩
     ·exact absurd ((h.at (mem_of_lookup q)).1 rfl).2 hxl
     ·exact q
    ·rcases relabel_inv z with q | ⟨q,_⟩
     ·exact q
     ·cases q
   have hm:=mem_of_lookup hfr
   have hk:=C.cel x ((h.at hm).2.1 rfl)
   have hvX:Vis X.env.scope x:=by
    rcases hk with z | z
    ·exact .inr (.inl z)
    ·exact .inr (.inr z)
   obtain ⟨m0,_,hl⟩:=I.loc
   obtain ⟨u,r,l⟩:=hl (i - ls.length) x v hN' hσ hvX
   refine ⟨u,r,.inr ⟨?_,?_⟩⟩
   ·show (relabel sc X.env).names.lookup x = some .cell \/ (relabel sc X.env).names.lookup x = some .free
    rcases relabel_lookup (env:=X.env) hfr with z | ⟨_,z⟩
    ·exact .inr z
    ·exact .inl z
   ·rcases l with ⟨z,_⟩ | ⟨_,c,e,z⟩
    ·rcases hk with w | w <;> (rw [w] at z; cases z)
    ·obtain ⟨c',e'⟩:=closL_has (cs:=X.env.cells) sc.names [] x hm ⟨c,e⟩
     have e2:=sub x c' e'
     rw [e] at e2
     cases e2
     obtain ⟨o,h1,h2⟩:=z
     exact ⟨c,(cf_same _ _ _ _ (h.fcell hfr)).trans e',o,keep _ _ h1,h2⟩
 ·rcases sub' x c e with q | ⟨_,q⟩
  ·obtain ⟨v,o,h1,h2⟩:=I.cell x c q
   exact ⟨v,o,keep _ _ h1,h2⟩
  ·exact ⟨none,q⟩
 ·exact I.hok.fresh (Nat.le_succ _)
 ·rcases sub' x c e with q | ⟨q,_⟩
  ·exact I.freeC x c q
  ·exact I.hok.fresh (by omega)
 ·have e:p = (s.heap.objs.size,listObj [] 0):=by simpa [cxComp] using hp
  subst e
  exact ⟨hacc,I.hok.fresh (Nat.le_refl _),Nat.ne_of_lt (Nat.lt_succ_self _),fun hb=>Nat.lt_irrefl _ (stk _ hb),fun v z=>(by cases z)⟩
 ·show (List.replicate ls.length none ++ σ).length = (ls ++ hidN ls X.N).length
  rw [List.length_append,List.length_append,List.length_replicate,I.len]
  unfold hidN
  rw [List.length_map]
end
end Rd
namespace Rd
open PySem PySem.Spec PyProof.Rows L2 Pu
open PySem.SeqAt (EqAt RcAt RcNeAt)
mutual
theorem eqv_refl:∀ d:D,d.dep < 1000 -> d.eqv d = true
 | .non,_=>rfl
 | .bl b,_=>by simp [D.eqv]
 | .int i,_=>by simp [D.eqv]
 | .str x,_=>by simp [D.eqv]
 | .tup ds,h=>by simp only [D.dep] at h; simp [D.eqv,eqvs_refl ds (by omega)]
 | .lst ds,h=>by simp only [D.dep] at h; simp [D.eqv,eqvs_refl ds (by omega)]
 | .dct _ _ _ _,h=>by simp [D.dep] at h
 | .exc _,h=>by simp [D.dep] at h
 | .fn _ _,h=>by simp [D.dep] at h
theorem eqvs_refl:∀ ds:List D,deps ds < 1000 -> eqvs ds ds = true
 | [],_=>rfl
 | d :: ds,h=>by simp only [deps] at h; simp [eqvs,eqv_refl d (by omega),eqvs_refl ds (by omega)]
end
theorem eqvs_len:∀ {as bs:List D},eqvs as bs = true -> as.length = bs.length
 | [],[],_=>rfl
 | [],_ :: _,h=>by simp [eqvs] at h
 | _ :: _,[],h=>by simp [eqvs] at h
 | a :: as,b :: bs,h=>by
  simp only [eqvs,Bool.and_eq_true] at h
  simp [eqvs_len h.2]
theorem eqvs_range:∀ as bs:List D,as.length = bs.length -> eqvs as bs = (List.range as.length).all fun j=>(as.getD j .non).eqv (bs.getD j .non)
 | [],[],_=>rfl
 | a :: as,b :: bs,h=>by
  have ih:=eqvs_range as bs (by simpa using h)
  rw [List.length_cons,List.range_succ_eq_map,List.all_cons,List.all_map]
  simp only [eqvs,ih]
  rfl
theorem eqvs_ne {as bs:List D} (h:as.length ≠ bs.length):eqvs as bs = false:=by
 cases e:eqvs as bs with
 | false=>rfl
 | true=>exact absurd (eqvs_len e) h
theorem dep_get:∀ {ds:List D} {n j:Nat},deps ds <= n -> (ds.getD j .non).dep <= n
 | [],n,j,_=>by simp [D.dep]
 | d :: ds,n,0,h=>by simp only [deps] at h; simp; omega
 | d :: ds,n,j + 1,h=>by
  simp only [deps] at h
  have:=dep_get (ds:=ds) (n:=n) (j:=j) (by omega)
  simpa using this
section
variable {X:Cx} {pins:List (Addr × Obj)} {σ:L2.St} {H:Hp} {s:Shared}
theorem seq_apart (I:L2.Inv X pins σ H s) {a:Addr} {xs ys:List V} (h1:SqL X.K H a xs) (h2:SqT X.K H a ys):False:=by
 obtain ⟨its,_,p1,_⟩:=I.list h1
 obtain ⟨its2,_,p2,_⟩:=I.tuple h2
 obtain ⟨o,e,c,_⟩:=p1.isList
 obtain ⟨o2,e2,c2,_⟩:=p2
 rw [e] at e2
 cases e2
 rw [c] at c2
 injection c2 with c3
 exact absurd c3 (by decide)
mutual
theorem Rep.inj (I:L2.Inv X pins σ H s):∀ (d:D) {d':D} {v:V},d.dep < 1000 -> d'.dep < 1000 -> Rep X.K H d v -> Rep X.K H d' v -> d = d'
 | .dct _ _ _ _,_,_,p,_,_,_=>by simp [D.dep] at p
 | .exc _,_,_,p,_,_,_=>by simp [D.dep] at p
 | .fn _ _,_,_,p,_,_,_=>by simp [D.dep] at p
 | .non,d',v,p,p',h,h'=>by
  cases h
  cases d' <;> first | rfl | (simp [D.dep] at p'; done) | (cases h'; done) | (obtain ⟨_,_,e,_⟩:=h'; cases e)
 | .bl b,d',v,p,p',h,h'=>by
  cases h
  cases d' <;> first | (simp [D.dep] at p'; done) | (cases h'; rfl) | (cases h'; done) | (obtain ⟨_,_,e,_⟩:=h'; cases e)
 | .int b,d',v,p,p',h,h'=>by
  cases h
  cases d' <;> first | (simp [D.dep] at p'; done) | (cases h'; rfl) | (cases h'; done) | (obtain ⟨_,_,e,_⟩:=h'; cases e)
 | .str b,d',v,p,p',h,h'=>by
  cases h
  cases d' <;> first | (simp [D.dep] at p'; done) | (cases h'; rfl) | (cases h'; done) | (obtain ⟨_,_,e,_⟩:=h'; cases e)
 | .tup ds,d',v,p,p',⟨a,xs,e,h1,h2⟩,h'=>by
  subst e
  simp only [D.dep] at p
  cases d' with
  | tup es=>
   simp only [D.dep] at p'
   obtain ⟨a',ys,e',h3,h4⟩:=h'
   cases e'
   have:=I.tuple_inj h1 h3
   subst this
   rw [Reps.inj I ds (by omega) (by omega) h2 h4]
  | lst es=>
   obtain ⟨a',ys,e',h3,h4⟩:=h'
   cases e'
   exact (seq_apart I h3 h1).elim
  | dct _ _ _ _=>simp [D.dep] at p'
  | exc _=>simp [D.dep] at p'
  | fn _ _=>simp [D.dep] at p'
  | _=>cases h'
 | .lst ds,d',v,p,p',⟨a,xs,e,h1,h2⟩,h'=>by
  subst e
  simp only [D.dep] at p
  cases d' with
  | lst es=>
   simp only [D.dep] at p'
   obtain ⟨a',ys,e',h3,h4⟩:=h'
   cases e'
   have:=I.list_inj h1 h3
   subst this
   rw [Reps.inj I ds (by omega) (by omega) h2 h4]
  | tup es=>
   obtain ⟨a',ys,e',h3,h4⟩:=h'
   cases e'
   exact (seq_apart I h1 h3).elim
  | dct _ _ _ _=>simp [D.dep] at p'
  | exc _=>simp [D.dep] at p'
  | fn _ _=>simp [D.dep] at p'
  | _=>cases h'
theorem Reps.inj (I:L2.Inv X pins σ H s):∀ (ds:List D) {es:List D} {xs:List V},deps ds < 1000 -> deps es < 1000 -> Reps X.K H ds xs -> Reps X.K H es xs -> ds = es
 | [],es,xs,_,_,h,h'=>by
  cases h
  have:=Reps.length h'
  cases es with
  | nil=>rfl
  | cons _ _=>simp at this
 | d :: ds,es,xs,p,p',⟨x,r,e,h1,h2⟩,h'=>by
  subst e
  cases es with
  | nil=>cases h'
  | cons e' es=>
   simp only [deps] at p p'
   obtain ⟨x',r',e1,h3,h4⟩:=h'
   cases e1
   rw [Rep.inj I d (by omega) (by omega) h1 h3,Reps.inj I ds (by omega) (by omega) h2 h4]
end
theorem items_at (I:L2.Inv X pins σ H s) {ds:List D} {xs:List V} {its:List Value} (hr:Reps X.K H ds xs) (hv:Vals xs its) {j:Nat} (h:j < its.toArray.size):∃ v,Rep X.K H (ds.getD j .non) v /\ RelV v its.toArray[j]:=by
 have h':j < its.length:=by simpa using h
 have l1:=hv.length
 have l2:=hr.length
 have hd:ds[j]? = some (ds.getD j .non):=by
  rw [List.getD_eq_getElem?_getD,List.getElem?_eq_getElem (by omega)]
  rfl
 obtain ⟨v,h1,h2⟩:=hr.get hd
 obtain ⟨u,h3,h4⟩:=hv.get h1
 refine ⟨v,h2,?_⟩
 have:its.toArray[j] = u:=by
  have e:its[j]? = some u:=h3
  rw [List.getElem?_eq_getElem h'] at e
  simpa using e
 rw [this]
 exact h4
theorem eqAll (I:L2.Inv X pins σ H s):∀ (n:Nat) (A:Around) (d d':D) {v v':V} {u u':Value},d.dep <= n -> d.dep < 1000 -> d'.dep < 1000 -> Rep X.K H d v -> Rep X.K H d' v' -> RelV v u -> RelV v' u' -> A.units + n + 1 < cLine ->
  RcAt A s u u' (d.eqv d') /\ RcNeAt A s u u' (!d.eqv d') /\ EqAt A s u u' (d.eqv d'):=by
 intro n
 induction n with
 | zero=>
  intro A d d' v v' u u' hd pd pd' r r' q q' hu
  have hu0:A.units < cLine:=by omega
  cases d with
  | tup ds=>simp [D.dep] at hd
  | lst ds=>simp [D.dep] at hd
  | dct _ _ _ _=>simp [D.dep] at hd
  | exc _=>simp [D.dep] at hd
  | fn _ _=>simp [D.dep] at hd
  | non=>
   cases r; cases q
   cases d' with
   | dct _ _ _ _=>simp [D.dep] at pd'
   | exc _=>simp [D.dep] at pd'
   | fn _ _=>simp [D.dep] at pd'
   | non=>cases r'; cases q'; exact ⟨RcAt.none_none,RcNeAt.none_none,EqAt.same _⟩
   | bl b=>cases r'; cases q'; exact ⟨RcAt.none_bool b,RcNeAt.none_bool b,EqAt.none_bool b⟩
   | int b=>cases r'; obtain ⟨t,rfl⟩:=q'; exact ⟨RcAt.none_int b t,RcNeAt.none_int b t,EqAt.none_int b t⟩
   | str b=>cases r'; obtain ⟨t,rfl⟩:=q'; exact ⟨RcAt.none_str b t,RcNeAt.none_str b t,EqAt.none_str b t⟩
   | tup es=>obtain ⟨a,xs,rfl,h1,_⟩:=r'; cases q'; obtain ⟨its,_,p,_⟩:=I.tuple h1; exact ⟨RcAt.none_tuple p hu0,RcNeAt.none_tuple p hu0,EqAt.none_tuple p hu0⟩
   | lst es=>obtain ⟨a,xs,rfl,h1,_⟩:=r'; cases q'; obtain ⟨its,_,p,_⟩:=I.list h1; exact ⟨RcAt.none_list p.isList hu0,RcNeAt.none_list p.isList hu0,EqAt.none_list p.isList hu0⟩
  | bl c=>
   cases r; cases q
   cases d' with
   | dct _ _ _ _=>simp [D.dep] at pd'
   | exc _=>simp [D.dep] at pd'
   | fn _ _=>simp [D.dep] at pd'
   | non=>cases r'; cases q'; exact ⟨RcAt.bool_none c,RcNeAt.bool_none c,EqAt.bool_none c⟩
   | bl b=>cases r'; cases q'; exact ⟨RcAt.bool_bool c b,RcNeAt.bool_bool c b,EqAt.bool_bool c b⟩
   | int b=>cases r'; obtain ⟨t,rfl⟩:=q'; exact ⟨RcAt.bool_int c b t,RcNeAt.bool_int c b t,EqAt.bool_int c b t⟩
   | str b=>cases r'; obtain ⟨t,rfl⟩:=q'; exact ⟨RcAt.bool_str c b t,RcNeAt.bool_str c b t,EqAt.bool_str c b t⟩
   | tup es=>obtain ⟨a,xs,rfl,h1,_⟩:=r'; cases q'; obtain ⟨its,_,p,_⟩:=I.tuple h1; exact ⟨RcAt.bool_tuple c p hu0,RcNeAt.bool_tuple c p hu0,EqAt.bool_tuple c p hu0⟩
   | lst es=>obtain ⟨a,xs,rfl,h1,_⟩:=r'; cases q'; obtain ⟨its,_,p,_⟩:=I.list h1; exact ⟨RcAt.bool_list c p.isList hu0,RcNeAt.bool_list c p.isList hu0,EqAt.bool_list c p.isList hu0⟩
  | int c=>
   cases r; obtain ⟨w,rfl⟩:=q
   cases d' with
   | dct _ _ _ _=>simp [D.dep] at pd'
   | exc _=>simp [D.dep] at pd'
   | fn _ _=>simp [D.dep] at pd'
   | non=>cases r'; cases q'; exact ⟨RcAt.int_none c w,RcNeAt.int_none c w,EqAt.int_none c w⟩
   | bl b=>cases r'; cases q'; exact ⟨RcAt.int_bool c w b,RcNeAt.int_bool c w b,EqAt.int_bool c w b⟩
   | int b=>cases r'; obtain ⟨t,rfl⟩:=q'; exact ⟨RcAt.int_int c w b t,RcNeAt.int_int c w b t,EqAt.int_int c w b t⟩
   | str b=>cases r'; obtain ⟨t,rfl⟩:=q'; exact ⟨RcAt.int_str c w b t,RcNeAt.int_str c w b t,EqAt.int_str c w b t⟩
   | tup es=>obtain ⟨a,xs,rfl,h1,_⟩:=r'; cases q'; obtain ⟨its,_,p,_⟩:=I.tuple h1; exact ⟨RcAt.int_tuple c w p hu0,RcNeAt.int_tuple c w p hu0,EqAt.int_tuple c w p hu0⟩
   | lst es=>obtain ⟨a,xs,rfl,h1,_⟩:=r'; cases q'; obtain ⟨its,_,p,_⟩:=I.list h1; exact ⟨RcAt.int_list c w p.isList hu0,RcNeAt.int_list c w p.isList hu0,EqAt.int_list c w p.isList hu0⟩
  | str c=>
   cases r; obtain ⟨w,rfl⟩:=q
   cases d' with
   | dct _ _ _ _=>simp [D.dep] at pd'
   | exc _=>simp [D.dep] at pd'
   | fn _ _=>simp [D.dep] at pd'
   | non=>cases r'; cases q'; exact ⟨RcAt.str_none c w,RcNeAt.str_none c w,EqAt.str_none c w⟩
   | bl b=>cases r'; cases q'; exact ⟨RcAt.str_bool c w b,RcNeAt.str_bool c w b,EqAt.str_bool c w b⟩
   | int b=>cases r'; obtain ⟨t,rfl⟩:=q'; exact ⟨RcAt.str_int c w b t,RcNeAt.str_int c w b t,EqAt.str_int c w b t⟩
   | str b=>cases r'; obtain ⟨t,rfl⟩:=q'; exact ⟨RcAt.str_str c w b t,RcNeAt.str_str c w b t,EqAt.str_str c w b t⟩
   | tup es=>obtain ⟨a,xs,rfl,h1,_⟩:=r'; cases q'; obtain ⟨its,_,p,_⟩:=I.tuple h1; exact ⟨RcAt.str_tuple c w p hu0,RcNeAt.str_tuple c w p hu0,EqAt.str_tuple c w p hu0⟩
   | lst es=>obtain ⟨a,xs,rfl,h1,_⟩:=r'; cases q'; obtain ⟨its,_,p,_⟩:=I.list h1; exact ⟨RcAt.str_list c w p.isList hu0,RcNeAt.str_list c w p.isList hu0,EqAt.str_list c w p.isList hu0⟩
 | succ n ih=>
  intro A d d' v v' u u' hd pd pd' r r' q q' hu
  have hu0:A.units < cLine:=by omega
  have flat:d.dep <= n -> _:=fun h=>ih A d d' h pd pd' r r' q q' (by omega)
  have hin:A.in1.units + n + 1 < cLine:=by show A.units + 1 + n + 1 < cLine; omega
  cases d with
  | non=>exact flat (Nat.zero_le _)
  | bl _=>exact flat (Nat.zero_le _)
  | int _=>exact flat (Nat.zero_le _)
  | str _=>exact flat (Nat.zero_le _)
  | dct _ _ _ _=>simp [D.dep] at pd
  | exc _=>simp [D.dep] at pd
  | fn _ _=>simp [D.dep] at pd
  | tup ds=>
   have hds:deps ds <= n:=by simp only [D.dep] at hd; omega
   have pds:deps ds < 1000:=by simp only [D.dep] at pd; omega
   obtain ⟨a,xs,rfl,h1,h2⟩:=id r
   cases q
   obtain ⟨its,rv,p,_⟩:=I.tuple h1
   cases d' with
   | dct _ _ _ _=>simp [D.dep] at pd'
   | exc _=>simp [D.dep] at pd'
   | fn _ _=>simp [D.dep] at pd'
   | non=>cases r'; cases q'; exact ⟨RcAt.tuple_none p hu0,RcNeAt.tuple_none p hu0,EqAt.tuple_none p hu0⟩
   | bl b=>cases r'; cases q'; exact ⟨RcAt.tuple_bool b p hu0,RcNeAt.tuple_bool b p hu0,EqAt.tuple_bool b p hu0⟩
   | int b=>cases r'; obtain ⟨t,rfl⟩:=q'; exact ⟨RcAt.tuple_int b t p hu0,RcNeAt.tuple_int b t p hu0,EqAt.tuple_int b t p hu0⟩
   | str b=>cases r'; obtain ⟨t,rfl⟩:=q'; exact ⟨RcAt.tuple_str b t p hu0,RcNeAt.tuple_str b t p hu0,EqAt.tuple_str b t p hu0⟩
   | lst es=>obtain ⟨a',ys,rfl,h3,_⟩:=r'; cases q'; obtain ⟨its2,_,p2,_⟩:=I.list h3; exact ⟨RcAt.tuple_list p p2.isList hu0,RcNeAt.tuple_list p p2.isList hu0,EqAt.tuple_list p p2.isList hu0⟩
   | tup es=>
    have pes:deps es < 1000:=by simp only [D.dep] at pd'; omega
    obtain ⟨a',ys,rfl,h3,h4⟩:=id r'
    cases q'
    obtain ⟨its2,rv2,p2,_⟩:=I.tuple h3
    have l1:its.toArray.size = ds.length:=by rw [List.size_toArray,<- rv.length,h2.length]
    have l2:its2.toArray.size = es.length:=by rw [List.size_toArray,<- rv2.length,h4.length]
    have he:∀ j (g1:j < its.toArray.size) (g2:j < its2.toArray.size),EqAt A.in1 s its.toArray[j] its2.toArray[j] ((ds.getD j .non).eqv (es.getD j .non)):=fun j g1 g2=>by
     obtain ⟨w1,k1,k2⟩:=items_at I h2 rv g1
     obtain ⟨w2,k3,k4⟩:=items_at I h4 rv2 g2
     exact (ih A.in1 _ _ (dep_get hds) (Nat.lt_of_le_of_lt (dep_get (Nat.le_refl _)) pds) (Nat.lt_of_le_of_lt (dep_get (Nat.le_refl _)) pes) k1 k3 k2 k4 hin).2.2
    have ev:((List.range (min its.toArray.size its2.toArray.size)).all (fun j=>(ds.getD j .non).eqv (es.getD j .non)) && its.toArray.size == its2.toArray.size) = (D.tup ds).eqv (.tup es):=by
     rw [l1,l2]
     show _ = eqvs ds es
     by_cases hl:ds.length = es.length
     ·rw [eqvs_range ds es hl,<- hl,Nat.min_self]; simp
     ·rw [eqvs_ne hl]; simp [hl]
    have R1:=RcAt.tuples (e:=fun j=>(ds.getD j .non).eqv (es.getD j .non)) p p2 hu0 he
    have R2:=RcNeAt.tuples (e:=fun j=>(ds.getD j .non).eqv (es.getD j .non)) p p2 hu0 he
    rw [ev] at R1 R2
    refine ⟨R1,R2,?_⟩
    by_cases hab:a = a'
    ·subst hab
     have:=Rep.inj I _ pd pd' r r'
     rw [<- this,eqv_refl _ pd]
     exact EqAt.same _
    ·exact EqAt.of_refs hab R1
  | lst ds=>
   have hds:deps ds <= n:=by simp only [D.dep] at hd; omega
   have pds:deps ds < 1000:=by simp only [D.dep] at pd; omega
   obtain ⟨a,xs,rfl,h1,h2⟩:=id r
   cases q
   obtain ⟨its,rv,p,_⟩:=I.list h1
   have pl:=p.isList
   cases d' with
   | dct _ _ _ _=>simp [D.dep] at pd'
   | exc _=>simp [D.dep] at pd'
   | fn _ _=>simp [D.dep] at pd'
   | non=>cases r'; cases q'; exact ⟨RcAt.list_none pl hu0,RcNeAt.list_none pl hu0,EqAt.list_none pl hu0⟩
   | bl b=>cases r'; cases q'; exact ⟨RcAt.list_bool b pl hu0,RcNeAt.list_bool b pl hu0,EqAt.list_bool b pl hu0⟩
   | int b=>cases r'; obtain ⟨t,rfl⟩:=q'; exact ⟨RcAt.list_int b t pl hu0,RcNeAt.list_int b t pl hu0,EqAt.list_int b t pl hu0⟩
   | str b=>cases r'; obtain ⟨t,rfl⟩:=q'; exact ⟨RcAt.list_str b t pl hu0,RcNeAt.list_str b t pl hu0,EqAt.list_str b t pl hu0⟩
   | tup es=>obtain ⟨a',ys,rfl,h3,_⟩:=r'; cases q'; obtain ⟨its2,_,p2,_⟩:=I.tuple h3; exact ⟨RcAt.list_tuple pl p2 hu0,RcNeAt.list_tuple pl p2 hu0,EqAt.list_tuple pl p2 hu0⟩
   | lst es=>
    have pes:deps es < 1000:=by simp only [D.dep] at pd'; omega
    obtain ⟨a',ys,rfl,h3,h4⟩:=id r'
    cases q'
    obtain ⟨its2,rv2,p2,_⟩:=I.list h3
    have l1:its.toArray.size = ds.length:=by rw [List.size_toArray,<- rv.length,h2.length]
    have l2:its2.toArray.size = es.length:=by rw [List.size_toArray,<- rv2.length,h4.length]
    have R12:RcAt A s (.ref a) (.ref a') ((D.lst ds).eqv (.lst es)) /\ RcNeAt A s (.ref a) (.ref a') (!(D.lst ds).eqv (.lst es)):=by
     show RcAt A s (.ref a) (.ref a') (eqvs ds es) /\ RcNeAt A s (.ref a) (.ref a') (!eqvs ds es)
     by_cases hl:ds.length = es.length
     ·have he:∀ j (g1:j < its.toArray.size) (g2:j < its2.toArray.size),EqAt A.in1 s its.toArray[j] its2.toArray[j] ((ds.getD j .non).eqv (es.getD j .non)):=fun j g1 g2=>by
       obtain ⟨w1,k1,k2⟩:=items_at I h2 rv g1
       obtain ⟨w2,k3,k4⟩:=items_at I h4 rv2 g2
       exact (ih A.in1 _ _ (dep_get hds) (Nat.lt_of_le_of_lt (dep_get (Nat.le_refl _)) pds) (Nat.lt_of_le_of_lt (dep_get (Nat.le_refl _)) pes) k1 k3 k2 k4 hin).2.2
      have R1:=RcAt.lists (e:=fun j=>(ds.getD j .non).eqv (es.getD j .non)) pl p2.isList (by rw [l1,l2,hl]) hu0 he
      have R2:=RcNeAt.lists (e:=fun j=>(ds.getD j .non).eqv (es.getD j .non)) pl p2.isList (by rw [l1,l2,hl]) hu0 he
      rw [l1,<- eqvs_range ds es hl] at R1 R2
      exact ⟨R1,R2⟩
     ·rw [eqvs_ne hl]
      have hb:(its.toArray.size != its2.toArray.size) = true:=by rw [l1,l2]; simpa using hl
      exact ⟨RcAt.lists_lengths pl p2.isList hb hu0,RcNeAt.lists_lengths pl p2.isList hb hu0⟩
    refine ⟨R12.1,R12.2,?_⟩
    by_cases hab:a = a'
    ·subst hab
     have:=Rep.inj I _ pd pd' r r'
     rw [<- this,eqv_refl _ pd]
     exact EqAt.same _
    ·exact EqAt.of_refs hab R12.1
end
end Rd
namespace Rd
open PySem PySem.Spec PyProof.Rows L2 Pu
section
variable {X:Cx} {call:CallD} {c:Expr} {p:Px} {pos:Pos}
def PIf (X:Cx) (ifs:List Expr) (t:TT):Prop:=∀ (pins:List (Addr × Obj)) (s:Shared) (σ:L2.St) (H:Hp) (Q:Bool -> Hp -> Prop),L2.Inv X pins σ H s -> t σ H Q ->
 wpAny (model X.prog X.w) X.A (forIn ifs true fun c r=>if r = true then do let ok <- isTrue c X.env (eval c X.env); pure (ForInStep.yield ok) else pure (ForInStep.yield r)) (TP X pins σ Q) X.xe s
theorem pif_nil:PIf X [] (tT X call (.con (.bl true))):=fun pins s σ H Q I ⟨env,r,b,e,q⟩=>by
 cases e
 exact wpAny_tests_nil ⟨H,I,q H (Same.refl H)⟩
theorem pif_one (h:PT X c (tT X call p)):PIf X [c] (tT X call p):=fun pins s σ H Q I w=>wpAny_tests_one (h pins s σ H Q I w)
def TgOk (X:Cx) (tg:Expr) (nt m:Nat):Prop:=∀ (pins:List (Addr × Obj)) (s:Shared) (lo hi:L2.St) (H:Hp) (d:D) (v:V) (u:Value) (new:Fm) (Q:L2.St -> Hp -> Prop),lo.length = m -> L2.Inv X pins (lo ++ hi) H s -> RelV v u -> Rep X.K H d v -> bindT nt d = .ok new ->
 (∀ lo':L2.St,lo'.length = m -> new.length = m -> (∀ (i:Nat) (d':D),new[i]? = some (some d') -> ∃ w,lo'[i]? = some (some w) /\ Rep X.K H d' w) -> Q (lo' ++ hi) H) ->
 wpAny (model X.prog X.w) X.A (assign tg X.env u) (fun _ s'=>∃ σ' H',L2.Inv X pins σ' H' s' /\ Q σ' H') X.xe s
theorem tg_one {x:Str} (hN:X.N[0]? = some x) (nd:X.N.Nodup) (hx:Loc X.env.scope x) (hf:X.fn x = true \/ X.env.scope.names.lookup x = some .local):TgOk X (.Name x pos) 0 1:=by
 intro pins s lo hi H d v u new Q hl I r rd hb h
 refine pg_name (pos:=pos) nd hN hx hf pins s (lo ++ hi) H v u Q I r ?_
 match lo,hl with
 | [l0],_=>
  simp only [bindT,if_true] at hb
  cases hb
  refine h [some v] rfl rfl fun i d' e=>?_
  match i,e with
  | 0,e=>simp at e; subst e; exact ⟨v,rfl,rd⟩
  | i + 1,e=>simp at e
theorem tg_two {x y:Str} {k:Nat} {p1 p2:Pos} (hN:X.N[0]? = some x) (hN2:X.N[1]? = some y) (nd:X.N.Nodup) (hx:Loc X.env.scope x) (hf:X.fn x = true \/ X.env.scope.names.lookup x = some .local)
  (hy:Loc X.env.scope y) (hg:X.fn y = true \/ X.env.scope.names.lookup y = some .local) (hc:X.calm = true):TgOk X (.Tuple [.Name x p1,.Name y p2] k pos) 2 2:=by
 intro pins s lo hi H d v u new Q hl I r rd hb h
 refine pg_tup (pos:=pos) hc (pgs_cons (pg_name (pos:=p1) nd hN hx hf) (pgs_cons (pg_name (pos:=p2) nd hN2 hy hg) pgs_nil)) rfl rfl pins s (lo ++ hi) H v u Q I r ?_
 unfold bindT at hb
 rw [if_neg (by decide)] at hb
 cases d with
 | tup ds=>
  dsimp only at hb
  split at hb
  ·rename_i hd
   cases hb
   obtain ⟨a,xs,rfl,hq,hr⟩:=rd
   match ds,hd with
   | [d0,d1],_=>
    obtain ⟨x0,r0,e0,h0,x1,r1,e1,h1,e2⟩:=hr
    subst e1; subst e2; subst e0
    refine ⟨a,[x0,x1],rfl,hq,rfl,x0,[x1],rfl,x1,[],rfl,rfl,?_⟩
    match lo,hl with
    | [l0,l1],_=>
     refine h [some x0,some x1] rfl rfl fun i d' e=>?_
     match i,e with
     | 0,e=>simp at e; subst e; exact ⟨x0,rfl,h0⟩
     | 1,e=>simp at e; subst e; exact ⟨x1,rfl,h1⟩
     | i + 2,e=>simp at e
  ·cases hb
 | _=>cases hb
end
theorem drop_cons {α:Type} {ds:List α} {i:Nat} {d:α} (h:ds[i]? = some d):ds.drop i = d :: ds.drop (i + 1):=by
 obtain ⟨h1,h2⟩:=List.getElem?_eq_some_iff.mp h
 rw [List.drop_eq_getElem_cons h1,h2]
theorem ReadOk.front {K:PySem.W.Frag} {H:Hp} {lo hi:L2.St} {new env:Fm} (hl:lo.length = new.length) (hn:∀ (i:Nat) (d':D),new[i]? = some (some d') -> ∃ w,lo[i]? = some (some w) /\ Rep K H d' w) (r:ReadOk K H hi env):ReadOk K H (lo ++ hi) (new ++ env):=by
 intro i d e
 by_cases hi':i < new.length
 ·rw [List.getElem?_append_left hi'] at e
  obtain ⟨w,h1,h2⟩:=hn i d e
  exact ⟨w,by rw [List.getElem?_append_left (by omega)]; exact h1,h2⟩
 ·rw [List.getElem?_append_right (by omega)] at e
  obtain ⟨w,h1,h2⟩:=r _ d e
  exact ⟨w,by rw [List.getElem?_append_right (by omega),hl]; exact h1,h2⟩
section
variable {X:Cx} {G:Gw} {N:List Str} {nm:List (Str × NameKind)} {ls:List Str} {sc:Scope} {call:CallD}
theorem wpAny_newEnvComp {M:Model} {A:Around} {E:Value -> Shared -> Prop} {s:Shared} {scope:Scope} {globals:Addr} {closure:List (Str × Addr)} {qual:Str} {func:Option Addr} {code:Value} {outer:Env} {builtins:Addr} {Q:Env -> Shared -> Prop}
  (hQ:Q (newEnv scope s.heap.objs.size globals (cellsFrom (s.heap.objs.size + 1) scope.names closure) qual func code (some outer) builtins) { s with heap:=pushCells (s.heap.push { cls:=.type "dict",data:=.dict #[] }) scope.names }) :
  wpAny M A (newFunctionEnv scope globals closure [] qual func code (some outer) builtins) Q E s:=by
 simp only [newFunctionEnv,Option.isSome_some,if_true]
 refine wpAny_bind (wpAny_alloc ?_)
 refine wpAny_bind (wpAny_layCells _ (fun name kind cells=>by cases hkc:kind == NameKind.cell <;> simp [hkc]) _ _ _ _ ?_)
 rw [show ({ s with heap:=s.heap.push { cls:=.type "dict",data:=.dict #[] } }:Shared).heap.objs.size = s.heap.objs.size + 1 from Heap.size_push ..]
 rw [List.forIn_nil]
 exact wpAny_bind (wpAny_pure (wpAny_pure hQ))
theorem comp_core {elt tg iter:Expr} {ifs:List Expr} {pos:Pos} {nt:Nat} {ps pc pe:Px} {pins:List (Addr × Obj)} {s:Shared} {σ:L2.St} {H:Hp} {env:Fm} {Gd:List D -> Prop} {RR0:Value -> Addr -> Result -> Shared -> Prop} (C:Ctx X G N nm) (h:ScOk N nm ls sc) (hsrc:PI X tg iter (tW X call ps))
  (htg:∀ X',Ctx X' G (ls ++ hidN ls N) sc.names -> TgOk X' tg nt ls.length) (hif:∀ X',Ctx X' G (ls ++ hidN ls N) sc.names -> PIf X' ifs (tT X' call pc)) (helt:∀ X',Ctx X' G (ls ++ hidN ls N) sc.names -> PE X' elt (tI X' call pe))
  (I:L2.Inv X pins σ H s) (r:ReadOk X.K H σ env) (hw:tW X call ps σ H fun J H'=>∃ ds,Walk X.K J H' ds /\ Same H H' /\ ds.length <= lineD /\ (compL nt (evD call pc) (evD call pe) env ds).Good Gd (XW X H))
  (hok:∀ (acc:Addr) (ys:List V) (Hf:Hp) (Cd:Addr) (m:Str -> Option Value) (s4:Shared) (dn:List D),L2.Inv X pins σ Hf s4 -> s4.heap.Ns Cd m -> FpOk X pins Hf Cd -> Hf acc = some (.lst ys) -> H acc = none -> Same H Hf -> Reps X.K Hf dn ys -> Gd dn -> RR0 (.ref acc) Cd (.ok .next) s4) :
  wpAny (model X.prog X.w) X.A (eval iter X.env) (fun x s₁=>wpAny (model X.prog X.w) X.A (pyIter x) (fun it s₂=>wpAny (model X.prog X.w) X.A (newList []) (fun acc s₃=>
   wpAny (model X.prog X.w) X.A (newFunctionEnv sc X.env.globals (closL X.env.cells sc.names []) [] X.env.qual none .none (some X.env)) (fun cenv s₄=>
    codeAny (model X.prog X.w) X.A (.compStart (.ListComp elt [⟨tg,iter,ifs,0⟩] sc pos) 0 it acc { cenv with scope:=relabel sc X.env }) (RR0 acc cenv.locals) s₄) X.xe s₃) X.xe s₂) X.xe s₁) X.xe s:=by
 refine thn (hsrc pins s σ H _ I hw) fun v s1 h1=>thn h1 fun itv s2 h2=>?_
 obtain ⟨it,fp,tn,J,H2,rfl,I2,T,st2,f2,ds,hW,s02,hz,hG2⟩:=h2
 refine wpAny_newObj_type (wpAny_newEnvComp ?_)
 dsimp only
 generalize hH2:s2.heap.push { cls:=.type "list",dict:=none,data:=.seq ([]:List Value).toArray } = Hh
 obtain ⟨h₁,hh₁⟩:∃ h₁,h₁ = pushCells (Hh.push { cls:=.type "dict",data:=.dict #[] }) sc.names:=⟨_,rfl⟩
 rw [<- hh₁]
 have hns₁:h₁.Ns Hh.objs.size (fun _=>none):=hh₁ ▸ (Heap.Ns.new Hh (.type "dict")).keeps (pushCells_keeps _ _)
 have hC:Hh.objs.size = s2.heap.objs.size + 1:=by rw [<- hH2,Heap.size_push]
 have hlt:∀ b o,s2.heap.get? b = some o -> b < s2.heap.objs.size:=fun b o e=>Heap.lt_size e
 have old:∀ b o,s2.heap.get? b = some o -> h₁.get? b = some o:=fun b o e=>by
  rw [hh₁]
  exact pushCells_keeps _ _ _ _ (Heap.get?_push_of_some _ (hH2 ▸ Heap.get?_push_of_some _ e))
 have hacc:h₁.get? s2.heap.objs.size = some (listObj [] 0):=by
  rw [hh₁]
  exact pushCells_keeps _ _ _ _ (Heap.get?_push_of_some _ (hH2 ▸ Heap.get?_push_size _ rfl))
 have fpl:∀ b ∈ fp,b < s2.heap.objs.size:=fun b hb=>by
  obtain ⟨o,e,_⟩:=T.obj _ _ st2 b hb
  exact hlt b o e
 let RR:Result -> Shared -> Prop:=RR0 (.ref s2.heap.objs.size) Hh.objs.size
 let ce:Env:=compEnvC sc (cellsFrom (Hh.objs.size + 1) sc.names (closL X.env.cells sc.names [])) Hh.objs.size X.env
 let E':Value -> Shared -> Prop:=notedBy (model X.prog X.w) X.A ce fun e s'=>RR (.error e) s'
 let X':Cx:=cxComp X ls sc Hh.objs.size s2 H2 fp E'
 have C':Ctx X' G (ls ++ hidN ls N) sc.names:=ctx_comp C h
 have I4:L2.Inv X' [(s2.heap.objs.size,listObj [] 0)] (List.replicate ls.length none ++ σ) H2 { s2 with heap:=h₁ }:=
  inv_comp C h hh₁ (Heap.size_push ..) I2 f2 (fun b hb=>let ⟨o,e,_⟩:=T.obj _ _ st2 b hb; ⟨o,e⟩) hC hns₁ old hacc
 have sub:∀ x c,(closL X.env.cells sc.names []).lookup x = some c -> X.env.cells.lookup x = some c:=closL_sub sc.names [] fun x c e=>by simp at e
 have stat:∀ {H':Hp} {o:Obj},(∀ b ∈ fp,H' b = none) -> ∀ b ∈ fp,FpOk X' [(s2.heap.objs.size,o)] H' b:=fun {H' o} hn b hb=>by
  have hb':=fpl b hb
  refine ⟨hn b hb,?_,I4.ok.exfs b hb,.inl hb,(I4.ok.exf b hb).2,fun p hp=>?_⟩
  ·show b ≠ Hh.objs.size
   rw [hC]; exact Nat.ne_of_lt (Nat.lt_succ_of_lt hb')
  ·have e:p = (s2.heap.objs.size,o):=by simpa [X',cxComp] using hp
   rw [e]
   exact Nat.ne_of_gt hb'
 have loop:∀ s₃:Shared,s₃ = { s2 with heap:=h₁ } ->
   codeAny (model X.prog X.w) X.A (.compLoop (.ListComp elt [⟨tg,iter,ifs,0⟩] sc pos) 0 (.ref it) (.ref s2.heap.objs.size) ce) RR s₃:=by
  rintro s₃ rfl
  refine compLoop_any (fun n s'=>∃ (i:Nat) (lo:L2.St) (H':Hp) (its:List Value) (k:Nat) (ys:List V) (done:List D),L2.Inv X' [(s2.heap.objs.size,listObj its k)] (lo ++ σ) H' s' /\ lo.length = ls.length /\ tn i s'.heap /\ (∀ b ∈ fp,H' b = none) /\
   Same H2 H' /\ Vals ys its /\ Reps X.K H' done ys /\ done.length <= i /\ i <= ds.length /\ n = ds.length - i /\ (compL nt (evD call pc) (evD call pe) env (ds.drop i)).Good (fun rest=>Gd (done ++ rest)) (XW X H)) ?_ ds.length
   ⟨0,List.replicate ls.length none,H2,[],0,[],[],I4,List.length_replicate,T.keep _ _ _ st2 (fun b hb o e=>old b o e),fun b hb=>(f2 b hb).1,Same.refl _,.nil,rfl,Nat.le_refl _,Nat.zero_le _,rfl,by simpa using hG2⟩
  rintro n s' ⟨i,lo,H',its,k,ys,done,I',hlo,st,fr,sm,hv,hr,hdl,hil,rfl,hg⟩
  by_cases hi:i < ds.length
  ·have go:=(hW H' sm).1 i hi
   refine thn (T.item X' rfl rfl rfl C'.calm i _ s' (lo ++ σ) H' X'.xe I' (stat fr) st go) fun r' s4 ⟨u,hr',h4⟩=>?_
   subst hr'
   refine thn h4 fun _ s5 ⟨x,H5,I5,r5,y5,st5,fr5⟩=>?_
   obtain ⟨s45,d,hd,rd⟩:=(hW H' sm).2.2 i x H5 hi y5
   rw [drop_cons hd] at hg
   simp only [compL] at hg
   replace hg:=Rs.good_bind.mp hg
   cases hb:bindT nt d with
   | stuck=>rw [hb] at hg; exact hg.elim
   | ex c=>exact (bindT_ex hb).elim
   | ok new=>
    rw [hb] at hg
    replace hg:=Rs.good_bind.mp hg
    have I5p:=I5.pinned (stat fr5) (T.obj _ _ st5)
    refine thn (htg X' C' _ s5 lo σ H5 d x u new (fun σ' H''=>∃ lo':L2.St,σ' = lo' ++ σ /\ lo'.length = ls.length /\ H5 = H'' /\ ReadOk X.K H5 (lo' ++ σ) (new ++ env)) hlo I5p r5 rd hb fun lo' l1 l2 hn=>
     ⟨lo',rfl,l1,rfl,ReadOk.front (l1.trans l2.symm) hn (r.mono ((s02.trans sm).trans s45))⟩) fun _ s6 ⟨σ6,H6,I6,lo',e6,l6,e7,rd6⟩=>?_
    subst e6; subst e7
    refine thn (hif X' C' _ s6 _ _ (fun b H7=>Same H5 H7 /\ (if b = true then ((evD call pe (new ++ env)).calm.bind fun y=>(compL nt (evD call pc) (evD call pe) env (ds.drop (i + 1))).bind fun ys=>Rs.ok (y :: ys)).Good (fun rest=>Gd (done ++ rest)) (XW X H)
     else (compL nt (evD call pc) (evD call pe) env (ds.drop (i + 1))).Good (fun rest=>Gd (done ++ rest)) (XW X H))) I6 ⟨new ++ env,rd6,Rs.good_calm (hg.mono (fun d' hd'=>?_) fun c z=>z)⟩) fun ok s7 ⟨H7,I7,s57,q7⟩=>?_
    ·cases d' with
     | bl b=>
      refine ⟨b,rfl,fun H7 s57=>⟨s57,?_⟩⟩
      cases b with
      | true=>exact iteT hd'
      | false=>exact iteF hd'
     | _=>exact hd'.elim
    have tn7:∀ {s9:Shared} {H9:Hp} {o:Obj} {σ9:L2.St},L2.Inv X' ([(s2.heap.objs.size,o)] ++ pinsAt fp s5.heap) σ9 H9 s9 -> tn (i + 1) s9.heap /\ ∀ b ∈ fp,H9 b = none:=fun {s9 H9 o σ9} I9=>by
     refine ⟨T.keep _ _ _ st5 fun b hb o' e=>(I9.pin (b,o') (List.mem_append_right _ (List.mem_append_right _ (mem_pinsAt hb e)))).1,fun b hb=>?_⟩
     obtain ⟨o',e,_⟩:=T.obj _ _ st5 b hb
     exact (I9.pin (b,o') (List.mem_append_right _ (List.mem_append_right _ (mem_pinsAt hb e)))).2.1
    cases ok with
    | false=>
     rw [if_neg Bool.false_ne_true]
     have q7':(compL nt (evD call pc) (evD call pe) env (ds.drop (i + 1))).Good (fun rest=>Gd (done ++ rest)) (XW X H):=by
      rw [if_neg Bool.false_ne_true] at q7; exact q7
     obtain ⟨t7,f7⟩:=tn7 I7
     exact ⟨ds.length - (i + 1),by omega,i + 1,lo',H7,its,k,ys,done,I7.unpinned,l6,t7,f7,(sm.trans s45).trans s57,hv,hr.mono (s45.trans s57),by omega,by omega,rfl,q7'⟩
    | true=>
     rw [if_pos rfl]
     rw [if_pos rfl] at q7
     replace q7:=Rs.good_bind.mp q7
     refine thn (helt X' C' _ s7 _ _ (fun v8 H8=>Same H7 H8 /\ ∃ y,Rep X.K H8 y v8 /\ (compL nt (evD call pc) (evD call pe) env (ds.drop (i + 1))).Good (fun rest=>Gd (done ++ (y :: rest))) (XW X H)) I7
      ⟨new ++ env,rd6.mono s57,Rs.good_calm (q7.mono (fun y hy v8 H8 s78 r8=>⟨s78,y,r8,Rs.good_bind.mp hy⟩) fun c z=>z)⟩) fun u8 s8 ⟨v8,H8,I8,r8,s78,y,ry,q8⟩=>?_
     have e8:=(I8.pin (s2.heap.objs.size,listObj its k) (by simp)).1
     have hlen:its.length <= lineD:=by
      have h1:=hv.length
      have h2:=hr.length
      omega
     refine call_meets F.slot_list_append ⟨_,e8,rfl⟩ F.entry_list_append (F.args_list_append_2 _ _) (PySem.list_append s2.heap.objs.size its.toArray k u8 (by rw [List.size_toArray,sizeLine_eq]; exact hlen)) ⟨e8,?_⟩
     have q9:=PySem.IsL.update e8 (fun x=>x.push u8)
     have hpush:its.toArray.push u8 = (its ++ [u8]).toArray:=by simp
     rw [hpush] at q9
     obtain ⟨k9,q9⟩:∃ k9,(s8.heap.update s2.heap.objs.size (Obj.mapSeq fun x=>x.push u8)).get? s2.heap.objs.size = some (listObj (its ++ [u8]) k9):=⟨_,q9⟩
     have nacc:=(I8.pin (s2.heap.objs.size,listObj its k) (by simp)).2
     have I8u:L2.Inv X' (pinsAt fp s5.heap) (lo' ++ σ) H8 s8:=I8.pins_of fun p hp=>I8.pin p (List.mem_append_right _ (List.mem_append_right _ hp))
     have I9:L2.Inv X' (pinsAt fp s5.heap) (lo' ++ σ) H8 { s8 with heap:=s8.heap.update s2.heap.objs.size (Obj.mapSeq fun x=>x.push u8),toks:=s8.toks }:=by
      refine I8u.turned (it:=s2.heap.objs.size) (fun b o hb e=>(Heap.get?_update_other s8.heap _ (Ne.symm hb)).trans e) nacc.1 nacc.2.1 (.inr (Nat.le_refl _)) (fun x c e=>?_) (fun p hp=>?_)
      ·rcases cf_from _ _ _ _ _ e with q | ⟨q,_⟩
       ·obtain ⟨v0,o0,h0,_⟩:=I2.cell x c (sub x c q)
        exact Nat.ne_of_lt (hlt c o0 h0)
       ·rw [hC] at q; exact Nat.ne_of_gt (Nat.lt_of_lt_of_le (Nat.lt_succ_of_lt (Nat.lt_succ_self _)) q)
      ·have hp':p ∈ pinsAt fp s5.heap:=by simpa [X',cxComp] using hp
       exact Nat.ne_of_lt (fpl _ (of_pinsAt hp').1)
     have I10:L2.Inv X' ([(s2.heap.objs.size,listObj (its ++ [u8]) k9)] ++ pinsAt fp s5.heap) (lo' ++ σ) H8 { s8 with heap:=s8.heap.update s2.heap.objs.size (Obj.mapSeq fun x=>x.push u8),toks:=s8.toks }:=
      I9.pins_of fun p hp=>(List.mem_append.mp hp).elim (fun z=>by
       have e:p = (s2.heap.objs.size,listObj (its ++ [u8]) k9):=by simpa using z
       subst e
       exact ⟨q9,nacc.1,nacc.2.1,nacc.2.2.1,fun v z=>(by cases z)⟩) fun z=>I9.pin p (List.mem_append_right _ z)
     obtain ⟨t10,f10⟩:=tn7 I10
     refine ⟨ds.length - (i + 1),by omega,i + 1,lo',H8,its ++ [u8],_,ys ++ [v8],done ++ [y],I10.unpinned,l6,t10,f10,((sm.trans s45).trans s57).trans s78,hv.append (.cons r8 .nil),(hr.mono ((s45.trans s57).trans s78)).append (Reps.one ry),?_,by omega,rfl,?_⟩
     ·rw [List.length_append,List.length_singleton]; omega
     ·simpa using q8
  ·-- the end
   have hie:i = ds.length:=by omega
   subst hie
   rw [List.drop_length] at hg
   simp only [compL] at hg
   have hg':Gd done:=by
    have hg2:Gd (done ++ []):=hg
    simpa using hg2
   refine thn (T.done X' rfl rfl rfl C'.calm ds.length _ s' (lo ++ σ) H' X'.xe I' (stat fr) st (hW H' sm).2.1) fun r' s4 ⟨hr',I5⟩=>?_
   subst hr'
   obtain ⟨m',hn',_⟩:=I5.loc
   have nacc:=I5.pin (s2.heap.objs.size,listObj its k) (by simp)
   have hlen:ys.length <= sizeLine:=by
    have h2:=hr.length
    rw [sizeLine_eq]
    have h3:lineD = 16777216:=rfl
    omega
   have HC:H' Hh.objs.size = none:=I5.free
   have okH:HOk X.prog X.w (upd H' s2.heap.objs.size (.lst ys)) s4.heap:=by
    intro b o e
    by_cases hb:b = s2.heap.objs.size
    ·subst hb
     rw [upd_same] at e
     cases e
     exact ⟨hlen,its,k,hv,nacc.1⟩
    ·rw [upd_ne hb] at e
     have ok5:ObjOk X.prog X.w H' s4.heap b o:=I5.hok b o e
     refine ok5.stay (fun c w' hc q=>q) (fun c q=>?_) fun c xs q=>?_
     ·by_cases hcb:c = s2.heap.objs.size
      ·subst hcb; rw [nacc.2.1] at q; cases q
      ·rw [upd_ne hcb]; exact q
     ·by_cases hcb:c = s2.heap.objs.size
      ·subst hcb; rw [nacc.2.1] at q; cases q
      ·rw [upd_ne hcb]; exact q
   have un:Un (frs X.stack) fp H2 (upd H' s2.heap.objs.size (.lst ys)) s2.heap s4.heap:=by
    have U:Un (frs X.stack) fp H2 H' s2.heap s4.heap:=I5.base
    have ne1:∀ b o,s2.heap.get? b = some o -> b ≠ s2.heap.objs.size:=fun b o e=>Nat.ne_of_lt (hlt b o e)
    have neH:∀ b u,H2 b = some u -> b ≠ s2.heap.objs.size:=fun b u e z=>by rw [z,I2.hok.fresh (Nat.le_refl _)] at e; cases e
    refine ⟨U.keep,U.slot,fun b o e n h2=>?_,U.there,fun b xs e=>?_,fun b o u e=>?_,fun b ps' e=>?_⟩
    ·rw [upd_ne (ne1 b o e)]; exact U.free b o e n h2
    ·rw [upd_ne (neH b _ e)]; exact U.tups b xs e
    ·rw [upd_ne (neH b _ e)]; exact U.frzs b o u e
    ·rw [upd_ne (neH b _ e)]; exact U.tbls b ps' e
   have If:L2.Inv X pins σ (upd H' s2.heap.objs.size (.lst ys)) s4:=I2.call' (ch:=fp) I5.os un okH I5.bare fun b hb=>by
    obtain ⟨_,f1',f2',f3',f4',f5'⟩:=f2 b hb
    exact ⟨f3',f1',f4',f5'⟩
   have sH:Same H' (upd H' s2.heap.objs.size (.lst ys)):=fun b o e=>by
    rw [upd_ne (ne_of_none e nacc.2.1)]; exact e
   have hCn:upd H' s2.heap.objs.size (.lst ys) Hh.objs.size = none:=by
    rw [upd_ne (by rw [hC]; exact Nat.succ_ne_self _)]; exact HC
   exact hok s2.heap.objs.size ys _ Hh.objs.size m' s4 done If hn' (I2.fpOk (by rw [hC]; exact Nat.le_succ _) hCn) upd_same (s02.free (I2.hok.fresh (Nat.le_refl _))) ((s02.trans sm).trans sH) (hr.mono sH) hg'
 exact codeAny_compStart_list (loop _ rfl) (T.self _ 0 _ _ _ (T.keep _ _ _ st2 fun b hb o e=>old b o e) (loop _ rfl))
theorem comp_wish {nt:Nat} {ps pc pe:Px} {σ:L2.St} {H:Hp} {env:Fm} {Q:VK} (r:ReadOk X.K H σ env) (hG:(evD call (.comp nt ps pc pe) env).Good (OutF X H Q) (XW X H)) :
  tW X call ps σ H fun J H'=>∃ ds,Walk X.K J H' ds /\ Same H H' /\ ds.length <= lineD /\ (compL nt (evD call pc) (evD call pe) env ds).Good (fun ys=>OutF X H Q (.lst ys)) (XW X H):=by
 simp only [evD] at hG
 refine ⟨env,r,(Rs.good_bind.mp hG).imp fun d hd=>?_⟩
 cases d with
 | lst ds=>
  simp only [D.asL,Rs.bind_ok] at hd
  split at hd
  ·rename_i hz
   exact ⟨ds,rfl,fun J H' s1 w _=>⟨ds,w,s1,hz,Rs.good_bind.mp hd⟩⟩
  ·exact hd.elim
 | _=>exact hd.elim
theorem let_go {pins:List (Addr × Obj)} {s:Shared} {σ:L2.St} {H:Hp} {Cd:Addr} {h':Heap} (I:L2.Inv X pins σ H s) (f:FpOk X pins H Cd) (hsb:Heap.SameBut Cd s.heap h'):L2.Inv X pins σ H { s with heap:=h' }:=by
 obtain ⟨f0,f1,f2,f3,f4,f5⟩:=f
 exact I.turned (t':=s.toks) (fun b o hb e=>(hsb.2 b hb).trans e) f0 f1 f3 f4 f5
theorem pF_comp {elt tg iter:Expr} {ifs:List Expr} {pos:Pos} {nt:Nat} {ps pc pe:Px} (C:Ctx X G N nm) (h:ScOk N nm ls sc) (hsrc:PI X tg iter (tW X call ps))
  (htg:∀ X',Ctx X' G (ls ++ hidN ls N) sc.names -> TgOk X' tg nt ls.length) (hif:∀ X',Ctx X' G (ls ++ hidN ls N) sc.names -> PIf X' ifs (tT X' call pc)) (helt:∀ X',Ctx X' G (ls ++ hidN ls N) sc.names -> PE X' elt (tI X' call pe))
  (hs:∀ x,foldedSetIterable iter X.env x = pure x:=by intro _; rfl):PE X (.ListComp elt [⟨tg,iter,ifs,0⟩] sc pos) (tF X call (.comp nt ps pc pe)):=by
 intro pins s σ H Q I ⟨env,r,hG⟩
 rw [eval_ListComp]
 refine wpAny_comprehension_free (use:=none) rfl hs (closure_eq (h.cells C I.ok)) h.kind (fun y hy e=>((h.at hy).2.2 e).1) (comp_core (RR0:=fun acc C=>compPost (model X.prog X.w) X.A X.xe none (EP X pins σ Q) acc C) C h hsrc htg hif helt I r (comp_wish r hG) ?_)
 intro acc ys Hf Cd m s4 dn If hn f ha h0 sm rs hg
 refine ⟨m,hn,fun h' hsb=>⟨.ref acc,Hf,let_go If f hsb,rfl,?_⟩⟩
 obtain ⟨ds',e',hQ⟩:=hg
 cases e'
 exact hQ acc ys Hf sm h0 ha rs
theorem ps_setComp {elt tg iter:Expr} {ifs:List Expr} {pos spos py:Pos} {nt i:Nat} {y:Str} {ps pc pe:Px} (C:Ctx X G N nm) (h:ScOk N nm ls sc) (hi:X.N[i]? = some y) (hy:locB nm y = true) (hsrc:PI X tg iter (tW X call ps))
  (htg:∀ X',Ctx X' G (ls ++ hidN ls N) sc.names -> TgOk X' tg nt ls.length) (hif:∀ X',Ctx X' G (ls ++ hidN ls N) sc.names -> PIf X' ifs (tT X' call pc)) (helt:∀ X',Ctx X' G (ls ++ hidN ls N) sc.names -> PE X' elt (tI X' call pe))
  (hs:∀ x,foldedSetIterable iter X.env x = pure x:=by intro _; rfl):PS X (.Assign [.Name y py] (.ListComp elt [⟨tg,iter,ifs,0⟩] sc pos) spos) (tAsg (tF X call (.comp nt ps pc pe)) (gName i)):=by
 obtain ⟨hloc,hfn⟩:=C.sto y hy
 have nd:X.N.Nodup:=by rw [C.hN]; exact C.nd
 have sw:∃ b,swapsWith (.ListComp elt [⟨tg,iter,ifs,0⟩] sc pos) (some (.Name y py)) spos.line X.env = pure b:=⟨_,rfl⟩
 obtain ⟨b,sw⟩:=sw
 cases b with
 | false=>exact ps_set nd hi hloc (pF_comp C h hsrc htg hif helt hs) sw hfn
 | true=>
  intro pins s σ H D I ⟨env,r,hG⟩
  rw [exec_Assign_Name_used _ _ _ _ sw]
  refine wpAny_bind (wpAny_standAt (wpAny_bind ?_))
  show wpAny _ X.A (do let _ <- comprehension (.ListComp elt [⟨tg,iter,ifs,0⟩] sc pos) sc X.env _ (newList []) false (eval iter X.env) (some (assign (.Name y py) X.env))) _ _ s
  refine wpAny_bind (wpAny_mono (wpAny_comprehension_free (use:=some (assign (.Name y py) X.env)) (Q:=fun _ s'=>SP X pins D .next s') rfl hs (closure_eq (h.cells C I.ok)) h.kind (fun y hy e=>((h.at hy).2.2 e).1)
   (comp_core (RR0:=fun acc C=>compPost (model X.prog X.w) X.A X.xe (some (assign (.Name y py) X.env)) (fun _ s'=>SP X pins D .next s') acc C) C h hsrc htg hif helt I r (comp_wish r hG) ?_)) (fun _ s' hq=>wpAny_pure (wpAny_pure hq)) fun _ _ e=>e)
  intro acc ys Hf Cd m s4 dn If hn f ha h0 sm rs hg
  show wpAny _ X.A (assign (.Name y py) X.env (.ref acc)) _ _ s4
  refine wpAny_assign_Name (store_ok2 If nd hi hloc (v:=.ref acc) rfl (fun s5 I5 ⟨ad,sb,had⟩=>?_) hfn)
  have hne:Cd ≠ ad:=by
   rcases had with q | q
   ·rw [q]; exact f.2.1
   ·exact Ne.symm (f.2.2.2.2.1 y ad q)
  refine ⟨m,hn.sameBut sb hne,fun h' hsb=>⟨_,Hf,let_go I5 f hsb,?_⟩⟩
  obtain ⟨ds',e',hQ⟩:=hg
  cases e'
  exact hQ acc ys Hf sm h0 ha rs
end
end Rd
namespace Rd
open PySem PySem.Spec PyProof.Rows L2 Pu
open PySem.SeqAt (EqAt RcAt RcNeAt)
theorem list_addW (l b:Addr) (items items2:Array Value) (n n2:Nat) (dd dd2:Option Addr) (sl sl2:Array (Option Value)) (hc0:items.size + items2.size <= sizeLine) :
  Meets (Builtin.«list.__add__» ⟨[.ref l,.ref b],[]⟩) (fun _ R s=>s.heap.get? l = some { cls:=.type "list",dict:=dd,data:=.seq items n,slots:=sl } /\ s.heap.get? b = some { cls:=.type "list",dict:=dd2,data:=.seq items2 n2,slots:=sl2 } /\ R (.ok (.ret (Value.ref s.heap.objs.size))) { s with heap:=s.heap.push { cls:=Value.type "list",data:=Data.seq (items ++ items2) },toks:=s.toks }):=
 .of_wp fun prog w A R s h=>by
  obtain ⟨hp,g,d,tk,os⟩:=s; obtain ⟨hl,hb,h⟩:=h; have f1:=AutoSeq1.idx_int; have f2:=AutoSeq1.sub_tuple_tuple; have f3:=AutoSeq1.sub_list_list; have f4:=AutoSeq1.sub_tuple_list; have f5:=AutoSeq1.sub_list_tuple
  wp_walk using AutoSeq1.wpAny_loadPart' hl,AutoSeq1.wpAny_loadPart' hb; exact ⟨_,rfl,h⟩
theorem add_listW {prog:Program} {w:World} {A:Around} {E:Value -> Shared -> Prop} {s:Shared} {l b:Addr} {items items2:Array Value} {Q:Value -> Shared -> Prop} (hl:s.heap.IsList l items) (hb:s.heap.IsList b items2)
  (h:Q (.ref s.heap.objs.size) { s with heap:=s.heap.push { cls:=.type "list",data:=.seq (items ++ items2) } }) (hsz:items.size + items2.size <= sizeLine):wpAny (model prog w) A (binaryOp .Add (.ref l) (.ref b)) Q E s:=by
 obtain ⟨⟨cls,dd,data,sl⟩,ho,hc,n,hd⟩:=id hl
 obtain ⟨⟨cls2,dd2,data2,sl2⟩,ho2,hc2,n2,hd2⟩:=id hb
 simp only at hc hd hc2 hd2
 subst hc hd hc2 hd2
 exact concat_meets ⟨_,ho,rfl⟩ ⟨_,ho2,rfl⟩ PySem.noFill_list_add PySem.seq_list_add F.slot_list_add F.entry_list_add (F.args_list_add_2 _ _) (list_addW l b items items2 n n2 dd dd2 sl sl2 hsz) ⟨ho,ho2,h⟩
theorem add_tup0 {prog:Program} {w:World} {A:Around} {E:Value -> Shared -> Prop} {s:Shared} {t b:Addr} {ws:List Value} {Q:Value -> Shared -> Prop} (ht:IsTup s.heap t ([]:List Value).toArray) (hb:IsTup s.heap b ws.toArray)
  (h:Q (.ref b) s):wpAny (model prog w) A (binaryOp .Add (.ref t) (.ref b)) Q E s:=by
 obtain ⟨⟨cls,dd,data,sl⟩,ho,hc,n,hd⟩:=id ht
 obtain ⟨⟨cls2,dd2,data2,sl2⟩,ho2,hc2,n2,hd2⟩:=id hb
 simp only at hc hd hc2 hd2
 subst hc hd hc2 hd2
 exact concat_meets ⟨_,ho,rfl⟩ ⟨_,ho2,rfl⟩ noFill_tuple_add seq_tuple_add PySem.F.slot_tuple_add PySem.F.entry_tuple_add (PySem.F.args_tuple_add_2 _ _)
   (tuple_addW0 t b ([]:List Value).toArray ws.toArray n n2 dd dd2 sl sl2 (by simp)) ⟨ho,ho2,h⟩
section
variable {X:Cx}
theorem lt_line {n:Nat} (h:n <= lineD):n <= sizeLine:=by rw [sizeLine_eq]; exact h
theorem opD_add:OpR X (binaryOp .Add) (rD2 X .add):=by
 intro pins s σ H x y v u Q I rx ry ⟨dx,dy,r1,r2,h⟩
 cases dx <;> cases dy <;> first
  | exact (show False from h).elim
  | exact op_add pins s σ H x y v u Q I rx ry ⟨_,_,r1,r2,Out.now h rfl⟩
  | skip
 ·simp only [op2] at h
  split at h
  ·rename_i hz
   exact op_add_str pins s σ H x y v u Q I rx ry ⟨_,_,r1,r2,lt_line hz,Out.now h rfl⟩
  ·exact h.elim
 ·rename_i ds es
  simp only [op2] at h
  split at h
  ·rename_i hz
   obtain ⟨a,xs,rfl,h1,h2⟩:=r1
   obtain ⟨b,ys,rfl,h3,h4⟩:=r2
   have l1:=h2.length
   have l2:=h4.length
   by_cases hx:xs = []
   ·subst hx
    have hd:ds = []:=h2.nil_iff.mp rfl
    subst hd
    cases rx
    cases ry
    obtain ⟨its,q1,p1,_⟩:=I.tuple h1
    obtain ⟨its2,q2,p2,_⟩:=I.tuple h3
    cases q1
    exact add_tup0 p1 p2 ⟨.ref b,H,I,rfl,Out.now h ⟨b,ys,rfl,h3,h4⟩⟩
   ·refine op_catT pins s σ H _ _ v u Q I rx ry ⟨a,b,xs,ys,rfl,rfl,h1,h3,hx,lt_line (by rw [l1,l2]; exact hz),fun hy=>?_,fun hy p hp=>?_⟩
    ·have he:es = []:=h4.nil_iff.mp hy
     subst he
     exact Out.now h ⟨a,xs,rfl,h1,by simpa using h2⟩
    ·obtain ⟨s1,q1⟩:=laidT (K:=X.K) hp (h2.append h4)
     exact h _ _ s1 q1
  ·exact h.elim
 ·rename_i ds es
  simp only [op2] at h
  split at h
  ·rename_i hz
   obtain ⟨a,xs,rfl,h1,h2⟩:=r1
   obtain ⟨b,ys,rfl,h3,h4⟩:=r2
   have l1:=h2.length
   have l2:=h4.length
   cases rx
   cases ry
   obtain ⟨its,q1,p1,_⟩:=I.list h1
   obtain ⟨its2,q2,p2,_⟩:=I.list h3
   have l3:=q1.length
   have l4:=q2.length
   have hz':xs.length + ys.length <= sizeLine:=lt_line (by rw [l1,l2]; exact hz)
   refine add_listW p1.isList p2.isList ?_ (by rw [List.size_toArray,List.size_toArray]; omega)
   have ea:its.toArray ++ its2.toArray = (its ++ its2).toArray:=by simp
   rw [ea]
   obtain ⟨s1,w1⟩:=laidL (K:=X.K) (xs:=xs ++ ys) I.fresh (h2.append h4)
   exact ⟨.ref _,_,I.lnew (t':=s.toks) (q1.append q2) (by rw [List.length_append]; exact hz'),rfl,h _ _ s1 w1⟩
  ·exact h.elim
theorem opD_sub:OpR X (binaryOp .Sub) (rD2 X .sub):=by
 intro pins s σ H x y v u Q I rx ry ⟨dx,dy,r1,r2,h⟩
 cases dx <;> cases dy <;> first
  | exact (show False from h).elim
  | exact op_sub pins s σ H x y v u Q I rx ry ⟨_,_,r1,r2,Out.now h rfl⟩
theorem rep_size {α:Type} (xs:Array α):∀ (n:Nat) (acc:Array α),((List.replicate n xs).foldl (· ++ ·) acc).size = acc.size + n * xs.size
 | 0,acc=>by simp
 | n + 1,acc=>by
  rw [List.replicate_succ,List.foldl_cons,rep_size xs n,Array.size_append,Nat.succ_mul]
  omega
theorem opD_mul:OpR X (binaryOp .Mult) (rD2 X .mul):=by
 intro pins s σ H x y v u Q I rx ry ⟨dx,dy,r1,r2,h⟩
 cases dx <;> cases dy <;> first
  | exact (show False from h).elim
  | skip
 ·rename_i i j
  simp only [op2] at h
  split at h
  ·rename_i hz
   refine op_mul pins s σ H x y v u Q I rx ry ⟨i,j,r1,r2,?_,Out.now h rfl⟩
   simp only [smallI,Bool.or_eq_true,Bool.and_eq_true,decide_eq_true_eq] at hz
   exact hz
  ·exact h.elim
 ·rename_i i j
  simp only [op2] at h
  split at h
  ·rename_i hz
   obtain ⟨h1,h2,h3,h4⟩:=hz
   have e1:x = V.str i:=r1
   have e2:y = V.int j:=r2
   subst e1 e2
   obtain ⟨t,rfl⟩:=rx
   obtain ⟨t',rfl⟩:=ry
   have hm:i.length * j.toNat <= 1000 * 1000:=Nat.mul_le_mul h4 (by omega)
   have hk:PySem.Builtin.Str.tooLong (i.length * j.toNat) = false:=by
    unfold PySem.Builtin.Str.tooLong
    rw [decide_eq_false]
    have:=sizeLine_eq
    omega
   have hg:(j == 1 || i.length == 0) = false:=by
    rw [Bool.or_eq_false_iff,beq_eq_false_iff_ne,beq_eq_false_iff_ne]
    omega
   refine P.mul_str ?_ (fun _ _ q=>?_) (fun _ _=>hk) ?_
   ·rw [decide_eq_false (by omega),decide_eq_false (by omega)]; rfl
   ·have:(1000:Int) <= (2 ^ 63 - 1) / j:=by
     refine (Int.le_ediv_iff_mul_le (by omega)).mpr ?_
     omega
    omega
   ·rw [if_neg (by omega),if_neg (by rw [hg]; exact Bool.false_ne_true)]
    refine ⟨?_,⟨.str (repS i j),H,I.tok _,⟨_,rfl⟩,Out.now h rfl⟩⟩
    have e:(⟨(List.replicate j.toNat i.cps).foldl (· ++ ·) #[]⟩:Str).length = i.length * j.toNat:=by
     show ((List.replicate j.toNat i.cps).foldl (· ++ ·) #[]).size = _
     rw [rep_size,Nat.mul_comm]
     simp [Str.length]
    rw [e]
    have:=sizeLine_eq
    omega
  ·exact h.elim
theorem opD_fdiv:OpR X (binaryOp .FloorDiv) (rD2 X .fdiv):=by
 intro pins s σ H x y v u Q I rx ry ⟨dx,dy,r1,r2,h⟩
 cases dx <;> cases dy <;> first
  | exact (show False from h).elim
  | skip
 rename_i i j
 simp only [op2] at h
 split at h
 ·rename_i hz
  exact op_fdiv pins s σ H x y v u Q I rx ry ⟨i,j,r1,r2,hz,Out.now h rfl⟩
 ·exact h.elim
theorem opD_mod:OpR X (binaryOp .Mod) (rD2 X .mod):=by
 intro pins s σ H x y v u Q I rx ry ⟨dx,dy,r1,r2,h⟩
 cases dx <;> cases dy <;> first
  | exact (show False from h).elim
  | skip
 rename_i i j
 simp only [op2] at h
 split at h
 ·rename_i hz
  exact op_mod pins s σ H x y v u Q I rx ry ⟨i,j,r1,r2,hz,Out.now h rfl⟩
 ·exact h.elim
theorem opD_eq (hu:X.A.units + 64 < cLine):OpR X (compareOp .Eq) (rD2 X .eq):=by
 intro pins s σ H x y v u Q I rx ry ⟨dx,dy,r1,r2,h⟩
 have h':(if (okDep dx && okDep dy) = true then Rs.ok (.bl (dx.eqv dy)) else .stuck:Rs D).Good (Out X H Q) (XW X H):=by
  cases dx <;> cases dy <;> exact h
 split at h'
 ·rename_i hd
  simp only [okDep,Bool.and_eq_true,decide_eq_true_eq] at hd
  exact (eqAll I 20 X.A dx dy hd.1 (by omega) (by omega) r1 r2 rx ry (by omega)).1 X.prog X.w X.xe _ ⟨.bl _,H,I,rfl,Out.now h' rfl⟩
 ·exact h'.elim
theorem opD_ne (hu:X.A.units + 64 < cLine):OpR X (compareOp .NotEq) (rD2 X .ne):=by
 intro pins s σ H x y v u Q I rx ry ⟨dx,dy,r1,r2,h⟩
 have h':(if (okDep dx && okDep dy) = true then Rs.ok (.bl (!dx.eqv dy)) else .stuck:Rs D).Good (Out X H Q) (XW X H):=by
  cases dx <;> cases dy <;> exact h
 split at h'
 ·rename_i hd
  simp only [okDep,Bool.and_eq_true,decide_eq_true_eq] at hd
  exact (eqAll I 20 X.A dx dy hd.1 (by omega) (by omega) r1 r2 rx ry (by omega)).2.1 X.prog X.w X.xe _ ⟨.bl _,H,I,rfl,Out.now h' rfl⟩
 ·exact h'.elim
theorem opD_lt:OpR X (compareOp .Lt) (rD2 X .lt):=by
 intro pins s σ H x y v u Q I rx ry ⟨dx,dy,r1,r2,h⟩
 cases dx <;> cases dy <;> first
  | exact (show False from h).elim
  | exact op_lt pins s σ H x y v u Q I rx ry ⟨_,_,r1,r2,Out.now h rfl⟩
  | exact op_lt_str pins s σ H x y v u Q I rx ry ⟨_,_,r1,r2,Out.now h rfl⟩
theorem opD_le:OpR X (compareOp .LtE) (rD2 X .le):=by
 intro pins s σ H x y v u Q I rx ry ⟨dx,dy,r1,r2,h⟩
 cases dx <;> cases dy <;> first
  | exact (show False from h).elim
  | exact op_le pins s σ H x y v u Q I rx ry ⟨_,_,r1,r2,Out.now h rfl⟩
theorem opD_gt:OpR X (compareOp .Gt) (rD2 X .gt):=by
 intro pins s σ H x y v u Q I rx ry ⟨dx,dy,r1,r2,h⟩
 cases dx <;> cases dy <;> first
  | exact (show False from h).elim
  | exact op_gt pins s σ H x y v u Q I rx ry ⟨_,_,r1,r2,Out.now h rfl⟩
theorem opD_ge:OpR X (compareOp .GtE) (rD2 X .ge):=by
 intro pins s σ H x y v u Q I rx ry ⟨dx,dy,r1,r2,h⟩
 cases dx <;> cases dy <;> first
  | exact (show False from h).elim
  | exact op_ge pins s σ H x y v u Q I rx ry ⟨_,_,r1,r2,Out.now h rfl⟩
theorem dep_in:∀ {ds:List D} {j:Nat} {d:D},ds[j]? = some d -> d.dep <= deps ds
 | [],_,_,h=>by simp at h
 | a :: ds,0,d,h=>by simp at h; subst h; simp only [deps]; omega
 | a :: ds,j + 1,d,h=>by
  have:=dep_in (ds:=ds) (j:=j) (d:=d) (by simpa using h)
  simp only [deps]; omega
open Classical in
def eU (ds:List D) (its:List Value) (d:D) (y:Value):Bool:=decide (∃ (j:Nat) (d':D),its[j]? = some y /\ ds[j]? = some d' /\ d'.eqv d = true)
open Classical in
theorem eU_at {pins:List (Addr × Obj)} {σ:L2.St} {H:Hp} {s:Shared} (I:L2.Inv X pins σ H s) {ds:List D} {xs:List V} {its:List Value} (hr:Reps X.K H ds xs) (hv:Vals xs its) (pd:deps ds < 1000) {d d':D} {j:Nat} {y:Value} (h1:its[j]? = some y) (h2:ds[j]? = some d') :
  eU ds its d y = d'.eqv d:=by
 have same:∀ k d'',its[k]? = some y -> ds[k]? = some d'' -> d'' = d':=fun k d'' k1 k2=>by
  obtain ⟨x1,e1,r1⟩:=hr.get h2
  obtain ⟨x2,e2,r2⟩:=hr.get k2
  obtain ⟨u1,f1,w1⟩:=hv.get e1
  obtain ⟨u2,f2,w2⟩:=hv.get e2
  rw [h1] at f1; cases f1
  rw [k1] at f2; cases f2
  have:=w1.inj w2
  subst this
  exact Rep.inj I _ (Nat.lt_of_le_of_lt (dep_in k2) pd) (Nat.lt_of_le_of_lt (dep_in h2) pd) r2 r1
 cases e:d'.eqv d with
 | true=>exact decide_eq_true ⟨j,d',h1,h2,e⟩
 | false=>
  refine decide_eq_false ?_
  rintro ⟨k,d'',k1,k2,k3⟩
  rw [same k d'' k1 k2,e] at k3
  cases k3
open Classical in
theorem eU_any {pins:List (Addr × Obj)} {σ:L2.St} {H:Hp} {s:Shared} (I:L2.Inv X pins σ H s) {ds:List D} {xs:List V} {its:List Value} (hr:Reps X.K H ds xs) (hv:Vals xs its) (pd:deps ds < 1000) (d:D):its.toArray.any (eU ds its d) = ds.any fun d'=>d'.eqv d:=by
 have l1:=hv.length
 have l2:=hr.length
 rw [show its.toArray.any (eU ds its d) = its.any (eU ds its d) by simp,Bool.eq_iff_iff,List.any_eq_true,List.any_eq_true]
 constructor
 ·rintro ⟨y,hy,e⟩
  obtain ⟨j,d',_,k2,k3⟩:=of_decide_eq_true e
  exact ⟨d',List.mem_of_getElem? k2,k3⟩
 ·rintro ⟨d',hd,e⟩
  obtain ⟨j,hj⟩:=List.getElem?_of_mem hd
  have hjl:j < its.length:=by
   have:=(List.getElem?_eq_some_iff.mp hj).1
   omega
  refine ⟨its[j],List.getElem_mem hjl,?_⟩
  rw [eU_at I hr hv pd (List.getElem?_eq_getElem hjl) hj]
  exact e
theorem in_seq {pins:List (Addr × Obj)} {σ:L2.St} {H:Hp} {s:Shared} (hu:X.A.units + 64 < cLine) (I:L2.Inv X pins σ H s) {ds:List D} {xs:List V} {its:List Value} (hr:Reps X.K H ds xs) (hv:Vals xs its) {d:D} {x:V} {v:Value} (rd:Rep X.K H d x) (rx:RelV x v) (hd:deps ds <= 20) (hdd:d.dep <= 20) :
  ∀ y,y ∈ its.toArray -> EqAt X.A.in1 s y v (eU ds its d y):=by
 intro y hy
 have hy':y ∈ its:=by simpa using hy
 obtain ⟨j,hj⟩:=List.getElem?_of_mem hy'
 have l1:=hv.length
 have l2:=hr.length
 have hjl:=(List.getElem?_eq_some_iff.mp hj).1
 have hdj:ds[j]? = some (ds.getD j .non):=by
  rw [List.getD_eq_getElem?_getD,List.getElem?_eq_getElem (by omega)]
  rfl
 rw [eU_at I hr hv (by omega) hj hdj]
 obtain ⟨x1,e1,r1⟩:=hr.get hdj
 obtain ⟨u1,f1,w1⟩:=hv.get e1
 rw [hj] at f1
 cases f1
 exact (eqAll I 20 X.A.in1 _ d (dep_get hd) (Nat.lt_of_le_of_lt (dep_get hd) (by decide)) (by omega) r1 rd w1 rx (by show X.A.units + 1 + 20 + 1 < cLine; omega)).2.2
theorem one_sign {x:Str} (h:x.cps = #[x.cps.getD 0 0]):x = ⟨#[x.cps.getD 0 0]⟩:=by
 obtain ⟨c⟩:=x
 show Str.mk c = _
 rw [<- h]
theorem opD_in (hu:X.A.units + 64 < cLine):OpR X (compareOp .In) (rD2 X .isin):=by
 intro pins s σ H x y v u Q I rx ry ⟨dx,dy,r1,r2,h⟩
 cases dy with
 | str z=>
  cases dx with
  | str w=>
   simp only [op2] at h
   split at h
   ·rename_i hc
    refine op_in_str pins s σ H x y v u Q I rx ry ⟨w,z,r1,r2,?_⟩
    have e:=PySem.StrLaws.found_one z (w.cps.getD 0 0)
    rw [<- one_sign hc] at e
    rw [e]
    exact Out.now h rfl
   ·exact h.elim
  | _=>exact (show False from h).elim
 | tup ds=>
  have h':(if (okDep (.tup ds) && okDep dx) = true then Rs.ok (.bl (ds.any fun d=>d.eqv dx)) else .stuck:Rs D).Good (Out X H Q) (XW X H):=by
   cases dx <;> exact h
  split at h'
  ·rename_i hc
   have hc':deps ds + 1 <= 20 /\ dx.dep <= 20:=by simpa [okDep,D.dep] using hc
   obtain ⟨a,xs,rfl,h1,h2⟩:=r2
   cases ry
   obtain ⟨its,rv,p,_⟩:=I.tuple h1
   refine SeqAt.in_tupleAt (eU ds its dx) p (in_seq hu I h2 rv r1 rx (by omega) hc'.2) ⟨.bl _,H,I,rfl,?_⟩
   rw [eU_any I h2 rv (by omega)]
   exact Out.now h' rfl
  ·exact h'.elim
 | lst ds=>
  have h':(if (okDep (.lst ds) && okDep dx) = true then Rs.ok (.bl (ds.any fun d=>d.eqv dx)) else .stuck:Rs D).Good (Out X H Q) (XW X H):=by
   cases dx <;> exact h
  split at h'
  ·rename_i hc
   have hc':deps ds + 1 <= 20 /\ dx.dep <= 20:=by simpa [okDep,D.dep] using hc
   obtain ⟨a,xs,rfl,h1,h2⟩:=r2
   cases ry
   obtain ⟨its,rv,p,_⟩:=I.list h1
   refine SeqAt.in_listAt (eU ds its dx) p.isList (in_seq hu I h2 rv r1 rx (by omega) hc'.2) ⟨.bl _,H,I,rfl,?_⟩
   rw [eU_any I h2 rv (by omega)]
   exact Out.now h' rfl
  ·exact h'.elim
 | _=>cases dx <;> exact (show False from h).elim
theorem opD_notin (hu:X.A.units + 64 < cLine):OpR X (compareOp .NotIn) (rD2 X .notin):=by
 intro pins s σ H x y v u Q I rx ry ⟨dx,dy,r1,r2,h⟩
 cases dy with
 | str z=>
  cases dx with
  | str w=>
   simp only [op2] at h
   split at h
   ·rename_i hc
    refine op_notin_str pins s σ H x y v u Q I rx ry ⟨w,z,r1,r2,?_⟩
    have e:=PySem.StrLaws.found_one z (w.cps.getD 0 0)
    rw [<- one_sign hc] at e
    rw [e]
    exact Out.now h rfl
   ·exact h.elim
  | _=>exact (show False from h).elim
 | tup ds=>
  have h':(if (okDep (.tup ds) && okDep dx) = true then Rs.ok (.bl (!ds.any fun d=>d.eqv dx)) else .stuck:Rs D).Good (Out X H Q) (XW X H):=by
   cases dx <;> exact h
  split at h'
  ·rename_i hc
   have hc':deps ds + 1 <= 20 /\ dx.dep <= 20:=by simpa [okDep,D.dep] using hc
   obtain ⟨a,xs,rfl,h1,h2⟩:=r2
   cases ry
   obtain ⟨its,rv,p,_⟩:=I.tuple h1
   refine SeqAt.notIn_tupleAt (eU ds its dx) p (in_seq hu I h2 rv r1 rx (by omega) hc'.2) ⟨.bl _,H,I,rfl,?_⟩
   rw [eU_any I h2 rv (by omega)]
   exact Out.now h' rfl
  ·exact h'.elim
 | lst ds=>
  have h':(if (okDep (.lst ds) && okDep dx) = true then Rs.ok (.bl (!ds.any fun d=>d.eqv dx)) else .stuck:Rs D).Good (Out X H Q) (XW X H):=by
   cases dx <;> exact h
  split at h'
  ·rename_i hc
   have hc':deps ds + 1 <= 20 /\ dx.dep <= 20:=by simpa [okDep,D.dep] using hc
   obtain ⟨a,xs,rfl,h1,h2⟩:=r2
   cases ry
   obtain ⟨its,rv,p,_⟩:=I.list h1
   refine SeqAt.notIn_listAt (eU ds its dx) p.isList (in_seq hu I h2 rv r1 rx (by omega) hc'.2) ⟨.bl _,H,I,rfl,?_⟩
   rw [eU_any I h2 rv (by omega)]
   exact Out.now h' rfl
  ·exact h'.elim
 | _=>cases dx <;> exact (show False from h).elim
theorem atD_rep {K:PySem.W.Frag} {H:Hp} {ds:List D} {xs:List V} {i:Int} {d:D} (hr:Reps K H ds xs) (h:atD ds i = some d):∃ x,atI xs i = some x /\ Rep K H d x:=by
 have l:=hr.length
 unfold atD at h
 unfold atI
 have e:L2.ixN xs.length i = ixn ds.length i:=by rw [l]; rfl
 rw [e]
 cases q:ixn ds.length i with
 | none=>rw [q] at h; cases h
 | some j=>
  rw [q] at h
  exact hr.get h
theorem opD_ix:IxR X (rD2 X .idx):=by
 intro value slice pins s σ H x y v u Q I rx ry ⟨dx,dy,r1,r2,h⟩ hs
 cases dx <;> cases dy <;> first
  | exact (show False from h).elim
  | skip
 ·rename_i z i
  simp only [op2] at h
  split at h
  ·rename_i hz
   cases q:atD z.cps.toList i with
   | none=>rw [q] at h; exact h.elim
   | some c=>
    rw [q] at h
    exact ix_str value slice pins s σ H x y v u Q I rx ry ⟨z,i,c,r1,r2,lt_line hz,q,Out.now h rfl⟩ hs
  ·exact h.elim
 ·rename_i ds i
  simp only [op2] at h
  cases q:atD ds i with
  | none=>rw [q] at h; exact h.elim
  | some d=>
   rw [q] at h
   obtain ⟨a,xs,rfl,h1,h2⟩:=r1
   obtain ⟨w,k1,k2⟩:=atD_rep h2 q
   exact ix_tup value slice pins s σ H _ y v u Q I rx ry ⟨a,xs,i,w,rfl,r2,h1,k1,Out.now h k2⟩ hs
 ·rename_i ds i
  simp only [op2] at h
  cases q:atD ds i with
  | none=>rw [q] at h; exact h.elim
  | some d=>
   rw [q] at h
   obtain ⟨a,xs,rfl,h1,h2⟩:=r1
   obtain ⟨w,k1,k2⟩:=atD_rep h2 q
   exact ix_list value slice pins s σ H _ y v u Q I rx ry ⟨a,xs,i,w,rfl,r2,h1,k1,Out.now h k2⟩ hs
end
end Rd
namespace HT
open PySem PyProof.Rows
theorem getItem_tuple_all {prog:Program} {w:World} {A:Around} {E:Value -> Shared -> Prop} {s:Shared} {t sl:Addr} {items:Array Value} {vl vu:Value} {lo hi:Option Int} {Q:Value -> Shared -> Prop} (ht:IsTup s.heap t items) (hs:s.heap.IsSliceOf sl vl vu .none) (pl:IsPart vl lo) (pu:IsPart vu hi)
  (hw:sIx items.size 0 lo = 0 /\ sIx items.size items.size hi = items.size) (h:Q (.ref t) s):wpAny (model prog w) A (getItem (.ref t) (.ref sl)) Q E s:=by
 obtain ⟨os,hos,hcs,hds⟩:=id hs
 have hTs:s.TypeIs (.ref sl) "slice":=⟨os,hos,hcs⟩
 unfold getItem
 try with_reducible refine wpAny_holding ?_
 first | refine wpAny_bind (wpAny_pure ?_) | skip
 refine wpAny_bind (wpAny_sequenceKey ht.typeIs (by decide) ?_)
 refine wpAny_bind (wpAny_callSpecial?_slot (name:=Str.ofString "__getitem__") ht.typeIs PyProof.Rows.slot_tuple_getitem
  (wpAny_call_entry PyProof.Rows.slot_tuple_getitem ht.typeIs entry_tuple_getitem ?_ (args_tuple_getitem _ _)))
 show wpAny _ _ (Builtin.Tuple.tupleItemsOf (.ref t) >>= _) _ _ s
 refine wpAny_bind (tupleItemsOf_ ht ?_)
 refine wpAny_bind (wpAny_typeOf hTs ?_)
 rw [if_pos (by decide)]
 refine wpAny_bind (sliceApplied_gen hs pl pu ?_)
 have hyes:(((sIx items.size 0 lo:Nat):Int) == 0 && (1:Int) == 1 && (sIx items.size items.size hi - sIx items.size 0 lo) == items.size) = true:=by
  rw [hw.1,hw.2]; simp
 show wpAny _ _ (if (((sIx items.size 0 lo:Nat):Int) == 0 && (1:Int) == 1 && (sIx items.size items.size hi - sIx items.size 0 lo) == items.size) = true then _ else _) _ _ s
 rw [if_pos hyes]
 have hex:∀ {Q':Bool -> Shared -> Prop},Q' true s -> wpAny (model prog w) A.in1 (Builtin.Tuple.tupleIsExact (.ref t)) Q' E s:=fun {Q'} q=>by
  obtain ⟨o,ho,hc,n,hd⟩:=id ht
  unfold Builtin.Tuple.tupleIsExact
  refine wpAny_bind (wpAny_typeOf (T:="tuple") ⟨o,ho,hc⟩ ?_)
  exact wpAny_pure q
 first
  | exact wpAny_bind (hex (by simp only [if_true]; exact wpAny_bind (wpAny_rule (wpAny_pure ⟨_,rfl,wpAny_pure h⟩))))
  | exact wpAny_bind (wpAny_of_in1 (hex (by simp only [if_true]; exact wpAny_bind (wpAny_rule (wpAny_pure ⟨_,rfl,wpAny_pure h⟩)))))
end HT
namespace Rd
open PySem PySem.Spec PyProof.Rows L2 Pu
open PySem.SeqAt (EqAt RcAt RcNeAt)
section
variable {X:Cx} {call:CallD} {e a b c:Expr} {es:List Expr} {p pa pb pc pl ph:Px} {pos:Pos}
theorem cutV_rep {K:PySem.W.Frag} {H:Hp} {ds:List D} {xs:List V} {lo hi:Option Int} (hr:Reps K H ds xs):Reps K H (cutD ds lo hi) (cutV xs lo hi):=by
 have l:=hr.length
 have e:cutV xs lo hi = (xs.drop (six ds.length 0 lo)).take (six ds.length ds.length hi - six ds.length 0 lo):=by
  unfold cutV; rw [l]; rfl
 rw [e]
 exact (hr.drop _).take _
def rSlD (X:Cx):V -> Option Int -> Option Int -> Hp -> VK -> Prop:=fun x lo hi H Q=>∃ d,Rep X.K H d x /\ (match d with
 | .tup ds=>Rs.ok (.tup (cutD ds lo hi))
 | .lst ds=>.ok (.lst (cutD ds lo hi))
 | _=>.stuck:Rs D).Good (Out X H Q) (XW X H)
theorem slD:SlR X (rSlD X):=by
 intro pins s σ H x v vl vu lo hi sl Q I rx hs pl pu ⟨d,r,h⟩
 cases d with
 | tup ds=>
  obtain ⟨a,xs,rfl,h1,h2⟩:=r
  by_cases hw:HT.sIx xs.length 0 lo = 0 /\ HT.sIx xs.length xs.length hi = xs.length
  ·cases rx
   obtain ⟨its,r,ht,hz⟩:=I.tuple h1
   have hlen:its.toArray.size = xs.length:=by rw [List.size_toArray]; exact r.length.symm
   refine ⟨"tuple",_,PyProof.Rows.slot_tuple_getitem.lookup,ht.typeIs,HT.getItem_tuple_all ht hs pl pu (by rw [hlen]; exact hw) ⟨.ref a,H,I,rfl,Out.now h ⟨a,xs,rfl,h1,?_⟩⟩⟩
   have e:=cutV_rep (lo:=lo) (hi:=hi) h2
   have e2:cutV xs lo hi = xs:=by unfold cutV; rw [hw.1,hw.2]; simp
   rw [e2] at e
   exact e
  ·refine sl_tup pins s σ H _ v vl vu lo hi sl Q I rx hs pl pu ⟨a,xs,rfl,h1,hw,fun p hp=>?_⟩
   obtain ⟨s1,q1⟩:=laidT (K:=X.K) hp (cutV_rep (lo:=lo) (hi:=hi) h2)
   exact h _ _ s1 q1
 | lst ds=>
  obtain ⟨a,xs,rfl,h1,h2⟩:=r
  refine sl_list pins s σ H _ v vl vu lo hi sl Q I rx hs pl pu ⟨a,xs,rfl,h1,fun p hp=>?_⟩
  obtain ⟨s1,q1⟩:=laidL (K:=X.K) hp (cutV_rep (lo:=lo) (hi:=hi) h2)
  exact h _ _ s1 q1
 | _=>exact h.elim
def tO (X:Cx) (call:CallD) (p:Px):TO:=fun σ H Q=>∃ env,ReadOk X.K H σ env /\ ((evD call p env).bind D.bound).Good (fun o=>∀ H',Same H H' -> Q o H') (XW X H)
theorem pO_none:PO X none (tO X call (.con .non)):=fun pins s σ H Q I ⟨env,r,h⟩=>po_none pins s σ H Q I (h H (Same.refl H))
theorem pO_some (h:PE X e (tI X call p)):PO X (some e) (tO X call (.un .asI p)):=fun pins s σ H Q I ⟨env,r,hg⟩=>po_some h pins s σ H Q I (by
 simp only [evD,Rs.bind_assoc] at hg
 refine ⟨env,r,(Rs.good_bind.mp hg).imp fun d hd v H' s1 rv=>?_⟩
 cases d with
 | int i=>exact ⟨i,rv,hd H' s1⟩
 | _=>exact (show False from hd).elim)
theorem pI_slice {lo hi:Option Expr} {p2:Pos} (he:PE X e (tI X call pa)) (hl:PO X lo (tO X call pl)) (hu:PO X hi (tO X call ph)):PE X (.Subscript e (.Slice lo hi none p2) pos) (tI X call (.sl pa pl ph)):=by
 refine PE.weak (pe_slice slD he hl hu) fun σ H Q ⟨env,r,h⟩=>?_
 simp only [evD] at h
 refine tI.then r h fun d v H1 s1 rv r1 h1=>?_
 rw [<- Rs.bind_assoc] at h1
 refine ⟨env,r1,(Rs.good_bind.mp h1).imp fun l h2 H2 s2=>?_⟩
 rw [<- Rs.bind_assoc] at h2
 refine ⟨env,r1.mono s2,((Rs.good_bind.mp h2).imp fun u h3 H3 s3=>?_).mono (fun _ x=>x) fun c x=>x.mono s2⟩
 refine ⟨d,rv.mono (s2.trans s3),?_⟩
 have h4:=h3.mono (fun d' (o:Out X H1 Q d')=>o.mono (s2.trans s3)) fun c (x:XW X H1 c)=>x.mono (s2.trans s3)
 cases d <;> exact h4
theorem tF.of {σ:L2.St} {H:Hp} {Q:VK} (h:tI X call p σ H Q) (hl:∀ env d,ReadOk X.K H σ env -> evD call p env = .ok d -> ∃ ds,d = .lst ds):tF X call p σ H Q:=by
 obtain ⟨env,r,h⟩:=h
 refine ⟨env,r,?_⟩
 cases q:evD call p env with
 | ok d=>
  rw [q] at h
  obtain ⟨ds,rfl⟩:=hl env d r q
  exact ⟨ds,rfl,fun l xs H' s h1 h2 h3=>h _ _ s ⟨l,xs,rfl,SqL.of h2,h3⟩⟩
 | ex c=>rw [q] at h; exact h
 | stuck=>rw [q] at h; exact h
def isL:Px -> Bool
 | .comp _ _ _ _=>true
 | .dis _=>true
 | _=>false
theorem isL_lst {env:Fm} {d:D} (h:isL p = true) (e:evD call p env = .ok d):∃ ds,d = .lst ds:=by
 cases p with
 | comp nt a b c=>
  simp only [evD] at e
  cases q:evD call a env with
  | ok d'=>
   rw [q] at e
   cases d' with
   | lst ds=>
    simp only [Rs.bind_ok,D.asL] at e
    split at e
    ·cases q2:compL nt (evD call b) (evD call c) env ds with
     | ok ys=>rw [q2] at e; cases e; exact ⟨ys,rfl⟩
     | ex c=>rw [q2] at e; cases e
     | stuck=>rw [q2] at e; cases e
    ·cases e
   | _=>cases e
  | ex c=>rw [q] at e; cases e
  | stuck=>rw [q] at e; cases e
 | dis a=>
  simp only [evD] at e
  cases q:evD call a env with
  | ok d'=>
   rw [q] at e
   cases d' with
   | lst ds=>
    simp only [Rs.bind_ok,D.asL] at e
    split at e
    ·cases e; exact ⟨ds,rfl⟩
    ·cases e
   | _=>cases e
  | ex c=>rw [q] at e; cases e
  | stuck=>rw [q] at e; cases e
 | _=>cases h
theorem pI_fresh (h:PE X e (tF X call p)) (hl:isL p = true:=by rfl):PE X e (tI X call p):=PE.weak h fun σ H Q hq=>tF.of hq fun env d _ q=>isL_lst hl q
theorem pF_dis (h:PA X es (tA X call p)):PE X (.List es pos) (tF X call (.dis p)):=by
 refine PE.weak (pe_lst h) fun σ H Q ⟨env,r,h⟩=>?_
 simp only [evD] at h
 refine ⟨env,r,(Rs.good_bind.mp h).imp fun d hd=>?_⟩
 cases d with
 | lst ds=>
  simp only [D.asL,Rs.bind_ok] at hd
  refine ⟨ds,rfl,fun vs H' s rs=>?_⟩
  split at hd
  ·rename_i hz
   refine ⟨by rw [rs.length,sizeLine_eq]; exact hz,fun a ha=>?_⟩
   obtain ⟨s2,r2⟩:=laidL ha rs
   obtain ⟨ds',e',hQ⟩:=hd
   cases e'
   exact hQ a vs _ (s.trans s2) (s.free ha) upd_same (rs.mono s2)
  ·exact hd.elim
 | _=>exact hd.elim
def rC1 (X:Cx) (o:O1):List V -> Hp -> VK -> Prop:=fun xs H Q=>∃ x d,xs = [x] /\ Rep X.K H d x /\ (op1 o d).Good (Out X H Q) (XW X H)
theorem tC1 {o:O1} {σ:L2.St} {H:Hp} {Q:VK} (h:tI X call (.un o pa) σ H Q):tCB (rC1 X o) (tA X call (.cons pa .nil)) σ H Q:=by
 obtain ⟨env,r,h⟩:=h
 simp only [evD] at h
 refine ⟨env,r,?_⟩
 simp only [evD]
 refine Rs.good_bind.mpr ((Rs.good_bind.mp h).imp fun d hd=>?_)
 simp only [Rs.bind_ok,D.asL]
 refine ⟨[d],rfl,fun vs H' s rs=>?_⟩
 obtain ⟨x,r',e',h1,h2⟩:=rs
 cases h2
 subst e'
 exact ⟨x,d,rfl,h1,hd.mono (fun _ o=>o.mono s) fun _ x=>x.mono s⟩
section
variable {G:Gw} {N:List Str} {nm:List (Str × NameKind)} {x:Str} {id T:String} {p1:Pos}
theorem pI_fun {o:O1} (C:Ctx X G N nm) (hc:CallR X (.builtin id) (rC1 X o)) (ha:PE X a (tI X call pa)) (hg:gloB nm x = true) (hm:G.mg x = none) (hv:bootBuiltins x = some (.builtin id)) (hn:x ≠ "__name__") (hdb:(x == ("__debug__" : Str)) = false)
  (hs:starEach [a] X.env = (false,eval a X.env) :: starEach [] X.env:=by rfl):PE X (.Call (.Name x p1) [a] [] pos) (tI X call (.un o pa)):=
 PE.weak (pe_callB hc (C.glo _ hg) (by rw [C.mg]; exact hm) hv (pA_cons ha pA_nil hs) hn hdb hs rfl) fun σ H Q h=>tC1 h
theorem pI_ty {o:O1} (C:Ctx X G N nm) (hc:CallR X (.type T) (rC1 X o)) (ha:PE X a (tI X call pa)) (hg:gloB nm x = true) (hm:G.mg x = none) (hv:bootBuiltins x = some (.type T)) (hn:x ≠ "__name__") (hdb:(x == ("__debug__" : Str)) = false)
  (hs:starEach [a] X.env = (false,eval a X.env) :: starEach [] X.env:=by rfl):PE X (.Call (.Name x p1) [a] [] pos) (tI X call (.un o pa)):=
 PE.weak (pe_callTy hc (C.glo _ hg) (by rw [C.mg]; exact hm) hv (pA_cons ha pA_nil hs) hn hdb hs rfl) fun σ H Q h=>tC1 h
end
theorem cD_len:CallR X (.builtin "len") (rC1 X .len):=by
 intro pins s σ H xs us Q I rv ⟨x,d,e,r,h⟩
 subst e
 cases d with
 | str z=>
  simp only [op1] at h
  split at h
  ·rename_i hz
   exact call_len_str pins s σ H _ us Q I rv ⟨z,by rw [show x = V.str z from r],lt_line hz,Out.now h rfl⟩
  ·exact h.elim
 | tup ds=>
  obtain ⟨a,ys,rfl,h1,h2⟩:=r
  exact call_len_seq pins s σ H _ us Q I rv ⟨a,ys,rfl,.inr h1,by rw [h2.length]; exact Out.now h rfl⟩
 | lst ds=>
  obtain ⟨a,ys,rfl,h1,h2⟩:=r
  exact call_len_seq pins s σ H _ us Q I rv ⟨a,ys,rfl,.inl h1,by rw [h2.length]; exact Out.now h rfl⟩
 | _=>exact (show False from h).elim
theorem cD_tuple:CallR X (.type "tuple") (rC1 X .tuple):=by
 intro pins s σ H xs us Q I rv ⟨x,d,e,r,h⟩
 subst e
 cases d with
 | tup ds=>
  obtain ⟨a,ys,rfl,h1,h2⟩:=r
  exact call_tuple_of pins s σ H _ us Q I rv ⟨a,ys,rfl,.inr ⟨h1,Out.now h ⟨a,ys,rfl,h1,h2⟩⟩⟩
 | lst ds=>
  obtain ⟨a,ys,rfl,h1,h2⟩:=r
  refine call_tuple_of pins s σ H _ us Q I rv ⟨a,ys,rfl,.inl ⟨h1,fun l hl=>?_⟩⟩
  obtain ⟨s1,q1⟩:=laidT (K:=X.K) hl h2
  exact h _ _ s1 q1
 | _=>exact (show False from h).elim
theorem bls_rep {K:PySem.W.Frag} {H:Hp}:∀ {ds:List D} {bs:List Bool} {xs:List V},blsOf ds = some bs -> Reps K H ds xs -> xs = bs.map V.bl
 | [],_,_,h,r=>by
  simp only [blsOf] at h
  cases h
  cases r
  rfl
 | d :: ds,bs,_,h,⟨x,r,e,h1,h2⟩=>by
  subst e
  cases d with
  | bl b=>
   simp only [blsOf] at h
   cases q:blsOf ds with
   | none=>rw [q] at h; cases h
   | some bs'=>
    rw [q] at h
    cases h
    have:=bls_rep q h2
    subst this
    cases h1
    rfl
  | _=>simp [blsOf] at h
theorem range_all {bs:List Bool}:(List.range bs.length).all (fun i=>bs.getD i false) = bs.all id:=by
 induction bs with
 | nil=>rfl
 | cons b bs ih=>
  rw [List.length_cons,List.range_succ_eq_map,List.all_cons,List.all_map]
  simp only [List.all_cons,<- ih]
  rfl
theorem range_any {bs:List Bool}:(List.range bs.length).any (fun i=>bs.getD i false) = bs.any id:=by
 induction bs with
 | nil=>rfl
 | cons b bs ih=>
  rw [List.length_cons,List.range_succ_eq_map,List.any_cons,List.any_map]
  simp only [List.any_cons,<- ih]
  rfl
theorem bls_walk {pins:List (Addr × Obj)} {σ:L2.St} {H:Hp} {s:Shared} (hcalm:X.calm = true) (I:L2.Inv X pins σ H s) {a:Addr} {bs:List Bool} (h1:SqL X.K H a (bs.map V.bl)) {Q:Value -> Shared -> Prop} {g:Bool} {tr:Nat -> Bool}
  (hq:∀ h' tk,(∀ b o,s.heap.get? b = some o -> h'.get? b = some o) -> Q (.bool g) { s with heap:=h',toks:=tk }) :
  wpAny (model X.prog X.w) X.A.in1 (pyIter (.ref a)) (fun it s₂=>∃ I fp wr n P St tr,it = .ref I /\ Walks X.prog X.w X.A.in1 I fp wr n P St /\ St 0 s₂.heap /\ TruthOf X.prog X.w X.A.in1 P tr /\ n = bs.length /\ tr = (fun i=>bs.getD i false) /\
   ∀ h' tk,(∀ b o,b ∉ wr -> s₂.heap.get? b = some o -> h'.get? b = some o) -> Q (.bool g) { s₂ with heap:=h',toks:=tk }) X.xe s:=by
 obtain ⟨its,rv,p,hz⟩:=I.list h1
 have hh:X.A.in1.handled = none:=by show X.A.handled = none; exact I.ok.hd hcalm
 refine wpAny_pyIter_list p.isList ?_
 obtain ⟨o,ho,_⟩:=p.isList
 have hlt:a < s.heap.objs.size:=Heap.lt_size ho
 refine ⟨s.heap.objs.size,_,_,_,_,_,fun i=>bs.getD i false,rfl,Walks.list hh s.heap.objs.size a (Nat.ne_of_lt hlt) its.toArray,⟨⟨_,Heap.get?_push_size _ rfl,rfl,rfl⟩,p.isList.push _⟩,?_,?_,rfl,fun h' tk k=>?_⟩
 ·intro i v Q' E' s' hv q
  have hv':its[i]? = some v:=by simpa using hv
  have hl:=rv.length
  have hi:i < its.length:=(List.getElem?_eq_some_iff.mp hv').1
  have hbi:(bs.map V.bl)[i]? = some (V.bl (bs.getD i false)):=by
   rw [List.getElem?_map,List.getD_eq_getElem?_getD,List.getElem?_eq_getElem (by rw [List.length_map] at hl; omega)]
   rfl
  obtain ⟨u,e1,e2⟩:=rv.get hbi
  rw [hv'] at e1
  cases e1
  cases e2
  exact wpAny_truthy_bool q
 ·have hl:=rv.length
  rw [List.length_map] at hl
  rw [List.size_toArray]
  exact hl.symm
 ·refine hq h' tk fun b o e=>k b o ?_ (Heap.get?_push_of_some _ e)
  intro hb
  have:b = s.heap.objs.size:=by simpa using hb
  rw [this] at e
  exact Nat.lt_irrefl _ (Heap.lt_size e)
theorem cD_all (hcalm:X.calm = true):CallR X (.builtin "all") (rC1 X .all):=by
 intro pins s σ H xs us Q I rv ⟨x,d,e,r,h⟩
 subst e
 cases d with
 | lst ds=>
  simp only [op1] at h
  cases q:blsOf ds with
  | none=>rw [q] at h; exact h.elim
  | some bs=>
   rw [q] at h
   obtain ⟨a,ys,rfl,h1,h2⟩:=r
   have:=bls_rep q h2
   subst this
   obtain ⟨u,rfl,rx⟩:=vals1 rv
   cases rx
   refine call_all_walk (thn (bls_walk (g:=bs.all id) (tr:=fun _=>true) hcalm I h1 (Q:=EP X pins σ Q) fun h' tk k=>⟨.bl _,H,I.kept k,rfl,Out.now h rfl⟩) fun it s2 ⟨I',fp,wr,n,Pz,Sz,tr,e1,W,st,tt,e2,e3,hq⟩=>?_)
   subst e2; subst e3
   refine ⟨I',fp,wr,_,Pz,Sz,_,e1,W,st,tt,fun h' tk k=>?_⟩
   rw [range_all]
   exact hq h' tk k
 | _=>exact (show False from h).elim
theorem cD_any (hcalm:X.calm = true):CallR X (.builtin "any") (rC1 X .any):=by
 intro pins s σ H xs us Q I rv ⟨x,d,e,r,h⟩
 subst e
 cases d with
 | lst ds=>
  simp only [op1] at h
  cases q:blsOf ds with
  | none=>rw [q] at h; exact h.elim
  | some bs=>
   rw [q] at h
   obtain ⟨a,ys,rfl,h1,h2⟩:=r
   have:=bls_rep q h2
   subst this
   obtain ⟨u,rfl,rx⟩:=vals1 rv
   cases rx
   refine call_any_walk (thn (bls_walk (g:=bs.any id) (tr:=fun _=>true) hcalm I h1 (Q:=EP X pins σ Q) fun h' tk k=>⟨.bl _,H,I.kept k,rfl,Out.now h rfl⟩) fun it s2 ⟨I',fp,wr,n,Pz,Sz,tr,e1,W,st,tt,e2,e3,hq⟩=>?_)
   subst e2; subst e3
   refine ⟨I',fp,wr,_,Pz,Sz,_,e1,W,st,tt,fun h' tk k=>?_⟩
   rw [range_any]
   exact hq h' tk k
 | _=>exact (show False from h).elim
theorem tI.un1 {o:O1} {σ:L2.St} {H:Hp} {Q:VK} {Q':VK} (h:tI X call (.un o pa) σ H Q) (hk:∀ d v H',Same H H' -> Rep X.K H' d v -> (op1 o d).Good (Out X H' Q) (XW X H') -> Q' v H'):tI X call pa σ H Q':=by
 obtain ⟨env,r,h⟩:=h
 simp only [evD] at h
 exact tI.then r h fun d v H' s rv _ hd=>hk d v H' s rv hd
theorem rep_non {K:PySem.W.Frag} {H:Hp} {d:D} {v:V} (r:Rep K H d v):op1 .isN d = .ok (.bl (decide (v = .non))) /\ op1 .notN d = .ok (.bl (!decide (v = .non))):=by
 cases d with
 | non=>cases r; exact ⟨rfl,rfl⟩
 | bl b=>cases r; exact ⟨rfl,rfl⟩
 | int b=>cases r; exact ⟨rfl,rfl⟩
 | str b=>cases r; exact ⟨rfl,rfl⟩
 | tup ds=>obtain ⟨a,xs,rfl,_,_⟩:=r; exact ⟨rfl,rfl⟩
 | lst ds=>obtain ⟨a,xs,rfl,_,_⟩:=r; exact ⟨rfl,rfl⟩
 | dct t z ks vs=>obtain ⟨a,xs,rfl,_,_⟩:=r; exact ⟨rfl,rfl⟩
 | exc c=>obtain ⟨a,o,C,rfl,_⟩:=r; exact ⟨rfl,rfl⟩
 | fn x i=>obtain ⟨f,rfl,_⟩:=r; exact ⟨rfl,rfl⟩
theorem pI_notN {j p'} (ha:PE X a (tI X call pa)):PE X (.Compare a [.IsNot] [.Constant .none j p'] pos) (tI X call (.un .notN pa)):=
 PE.weak (pe_cmp (pc_notN ha)) fun σ H Q h=>h.un1 fun d v H' s rv hd=>by rw [(rep_non rv).2] at hd; exact Out.now hd rfl
theorem pT_isN {j p'} (ha:PE X a (tI X call pa)):PT X (.Compare a [.Is] [.Constant .none j p'] pos) (tT X call (.un .isN pa)):=
 PT.weak (pt_cmp (pc_isN ha)) fun σ H Q h=>h.asTest.un1 fun d v H' s rv hd=>by rw [(rep_non rv).1] at hd; exact Out.now hd rfl
theorem pT_notN {j p'} (ha:PE X a (tI X call pa)):PT X (.Compare a [.IsNot] [.Constant .none j p'] pos) (tT X call (.un .notN pa)):=
 PT.weak (pt_cmp (pc_notN ha)) fun σ H Q h=>h.asTest.un1 fun d v H' s rv hd=>by rw [(rep_non rv).2] at hd; exact Out.now hd rfl
theorem pI_neg (ha:PE X a (tI X call pa)):PE X (.UnaryOp .USub a pos) (tI X call (.un .neg pa)):=by
 refine PE.weak (pe_un un_neg ha) fun σ H Q h=>h.un1 fun d v H' s rv hd=>?_
 cases d with
 | int i=>exact ⟨i,rv,Out.now hd rfl⟩
 | _=>exact (show False from hd).elim
end
end Rd
namespace Rd
open PySem PySem.Spec PyProof.Rows L2 Pu
def itName (t:Bool):String:=if t then "tuple_iterator" else "list_iterator"
def IsIt (t:Bool) (h:Heap) (it a:Addr) (i:Nat):Prop:=∃ o,h.get? it = some o /\ o.cls = .type (itName t) /\ o.data = .fields #[.ref a,.int i 0]
def IsSq (t:Bool) (h:Heap) (a:Addr) (items:Array Value):Prop:=match t with
 | true=>h.IsTuple a items
 | false=>h.IsList a items
theorem IsIt.stay {t:Bool} {h h':Heap} {it a:Addr} {i:Nat} (x:IsIt t h it a i) (k:∀ o,h.get? it = some o -> h'.get? it = some o):IsIt t h' it a i:=let ⟨o,e,r⟩:=x; ⟨o,k o e,r⟩
theorem IsSq.stay {t:Bool} {h h':Heap} {a:Addr} {items:Array Value} (x:IsSq t h a items) (k:∀ o,h.get? a = some o -> h'.get? a = some o):IsSq t h' a items:=by
 cases t
 ·exact let ⟨o,e,r⟩:=(show h.IsList a items from x); (show h'.IsList a items from ⟨o,k o e,r⟩)
 ·exact let ⟨o,e,r⟩:=(show h.IsTuple a items from x); (show h'.IsTuple a items from ⟨o,k o e,r⟩)
theorem IsIt.lt {t:Bool} {h:Heap} {it a:Addr} {i:Nat} (x:IsIt t h it a i):it < h.objs.size:=let ⟨_,e,_⟩:=x; Heap.lt_size e
section
variable {prog:Program} {w:World} {A:Around} {E:Value -> Shared -> Prop} {s:Shared} {t:Bool} {it a:Addr} {i:Nat} {items:Array Value}
theorem nextOf_item {x:Value} {Q:Value -> Shared -> Prop} (hit:IsIt t s.heap it a i) (hl:IsSq t s.heap a items) (hx:items[i]? = some x)
  (hQ:∀ h',IsIt t h' it a (i + 1) -> Heap.SameBut it s.heap h' -> Q x { s with heap:=h' }):wpAny (model prog w) A (Builtin.SmallTypes.nextOf (.ref it)) Q E s:=by
 cases t with
 | false=>exact wpAny_nextOf_list_item (l:=a) (i:=i) hit hl hx hQ
 | true=>
  obtain ⟨o,ho,hc,hd⟩:=id hit
  obtain ⟨ol,hol,_,nl,hdl⟩:=(show s.heap.IsTuple a items from hl)
  have ty:s.TypeIs (.ref it) "tuple_iterator":=⟨o,ho,hc⟩
  unfold Builtin.SmallTypes.nextOf
  refine wpAny_bind (wpAny_callSpecial?_slot (name:=Str.ofString "__next__") ty F.slot_tuple_iterator_next (wpAny_call_entry F.slot_tuple_iterator_next ty F.entry_tuple_iterator_next ?_ (F.args_tuple_iterator_next_1 _)))
  show wpAny _ _ (field (.ref it) 0 >>= _) _ _ s; refine wpAny_bind (wpAny_field ho hd (x:=.ref a) rfl ?_)
  show wpAny _ _ (if (Value.ref a == Value.none) = true then _ else _) _ _ s; rw [if_neg (show ¬ ((Value.ref a == Value.none) = true) from Bool.false_ne_true)]
  show wpAny _ _ (field (.ref it) 1 >>= _) _ _ s; refine wpAny_bind (wpAny_field ho hd (x:=.int i 0) rfl ?_)
  show wpAny _ _ (seqItems? (.ref a) >>= _) _ _ s; refine wpAny_bind (wpAny_seqItems hol hdl ?_)
  simp only [Int.toNat_natCast,hx]; refine wpAny_bind (wpAny_setField ho hd (by simp) (wpAny_pure ⟨x,rfl,wpAny_pure (hQ _ ?_ (Heap.SameBut.update ..))⟩))
  refine ⟨_,Heap.get?_update_self _ ho (Obj.isFreed_of_fields (Obj.data_mapFields hd _)),(Obj.cls_mapFields ..).trans hc,?_⟩
  rw [Obj.data_mapFields hd]; simp [rawInt]
theorem nextOf_end {Q:Value -> Shared -> Prop} (hh:A.handled = none) (hit:IsIt t s.heap it a i) (hl:IsSq t s.heap a items) (hx:items[i]? = none)
  (hE:∀ h' e,Heap.ExtBut it s.heap h' -> (∃ o,h'.get? e = some o /\ o.cls = .type "StopIteration") -> E (.ref e) { s with heap:=h' }):wpAny (model prog w) A (Builtin.SmallTypes.nextOf (.ref it)) Q E s:=by
 cases t with
 | false=>exact wpAny_nextOf_list_end hh (l:=a) (i:=i) hit hl hx hE
 | true=>
  obtain ⟨o,ho,hc,hd⟩:=id hit
  obtain ⟨ol,hol,_,nl,hdl⟩:=(show s.heap.IsTuple a items from hl)
  have ty:s.TypeIs (.ref it) "tuple_iterator":=⟨o,ho,hc⟩
  unfold Builtin.SmallTypes.nextOf
  refine wpAny_bind (wpAny_callSpecial?_slot (name:=Str.ofString "__next__") ty F.slot_tuple_iterator_next (wpAny_call_entry F.slot_tuple_iterator_next ty F.entry_tuple_iterator_next ?_ (F.args_tuple_iterator_next_1 _)))
  show wpAny _ _ (field (.ref it) 0 >>= _) _ _ s; refine wpAny_bind (wpAny_field ho hd (x:=.ref a) rfl ?_)
  show wpAny _ _ (if (Value.ref a == Value.none) = true then _ else _) _ _ s; rw [if_neg (show ¬ ((Value.ref a == Value.none) = true) from Bool.false_ne_true)]
  show wpAny _ _ (field (.ref it) 1 >>= _) _ _ s; refine wpAny_bind (wpAny_field ho hd (x:=.int i 0) rfl ?_)
  show wpAny _ _ (seqItems? (.ref a) >>= _) _ _ s; refine wpAny_bind (wpAny_seqItems hol hdl ?_)
  simp only [Int.toNat_natCast,hx]; refine wpAny_bind (wpAny_rule (wpAny_bind (wpAny_setField ho hd (by simp) ?_)))
  show wpAny _ _ (newExc (.type "StopIteration") [] >>= _) _ _ _; refine wpAny_bind ?_
  simp only [newExc,newTuple]; refine wpAny_bind (wpAny_newObj_type ?_ (by size_fits))
  refine wpAny_bind (m:=firstArgMember _ _) (wpAny_of_eq (a:=Value.none) (by first | rfl | (simp only [firstArgMember]; rfl)) (wpAny_newObj_type ?_ (by size_fits)))
  simp only [raiseNew]; refine wpAny_bind (wpAny_handled ?_); first | rw [show A.in1.handled = none from hh] | rw [hh]
  refine wpAny_bind (wpAny_pure (wpAny_throw ?_)); exact hE _ _ (((Heap.SameBut.update ..).extBut.push _).push _) ⟨_,Heap.get?_push_size _ rfl,rfl⟩
end
theorem draws_sq {prog:Program} {w:World} {A:Around} (hh:A.handled = none) (t:Bool) (it a:Addr) (hne:a ≠ it) (items:Array Value) :
  Draws prog w A it [it,a] items.size (fun i v=>items[i]? = some v) (fun i h=>IsIt t h it a i /\ IsSq t h a items) where
 live:=fun _ _ st=>let ⟨o,ho,_⟩:=st.1; ⟨o,ho⟩
 frame:=fun _ _ _ st hk=>⟨st.1.stay fun o e=>hk it (by simp) o e,st.2.stay fun o e=>hk a (by simp) o e⟩
 item:=fun i s Q E hi st hQ=>nextOf_item st.1 st.2 (x:=items[i]) (by simp [hi]) fun h' hit' hs'=>hQ _ h' s.toks (by simp [hi]) ⟨hit',st.2.stay fun o e=>hs'.extBut a o hne e⟩ hs'
 done:=fun s Q E st hE=>nextOf_end hh st.1 st.2 (by simp) hE
def Sq (K:PySem.W.Frag) (t:Bool) (H:Hp) (a:Addr) (xs:List V):Prop:=match t with
 | true=>SqT K H a xs
 | false=>SqL K H a xs
theorem Sq.same {K:PySem.W.Frag} {t:Bool} {H H':Hp} {a:Addr} {xs:List V} (e:Same H H') (h:Sq K t H a xs):Sq K t H' a xs:=by
 cases t
 ·exact Same.seq e (show SqL K H a xs from h)
 ·exact SqT.same e (show SqT K H a xs from h)
section
variable {X:Cx} {pins:List (Addr × Obj)} {σ:L2.St} {H:Hp} {s:Shared} {t:Bool} {a:Addr} {xs ys:List V}
theorem sq_here (I:L2.Inv X pins σ H s) (h:Sq X.K t H a xs):∃ its:List Value,Vals xs its /\ IsSq t s.heap a its.toArray /\ xs.length <= sizeLine:=by
 cases t
 ·obtain ⟨its,r,p,z⟩:=I.list h; exact ⟨its,r,p.isList,z⟩
 ·obtain ⟨its,r,p,z⟩:=I.tuple h; exact ⟨its,r,p,z⟩
theorem sq_inj (I:L2.Inv X pins σ H s) (h:Sq X.K t H a xs) (h':Sq X.K t H a ys):xs = ys:=by
 cases t
 ·exact I.list_inj h h'
 ·exact I.tuple_inj h h'
theorem sq_ne (I:L2.Inv X pins σ H s) (h:Sq X.K t H a xs) {b:Addr} {o:Obj} (e:s.heap.get? b = some o) (hc:o.cls ≠ .type "list") (hc2:o.cls ≠ .type "tuple"):a ≠ b:=by
 rintro rfl
 obtain ⟨its,_,p,_⟩:=sq_here I h
 cases t
 ·obtain ⟨o',e',c',_⟩:=(show s.heap.IsList a _ from p); rw [e] at e'; cases e'; exact hc c'
 ·obtain ⟨o',e',c',_⟩:=(show s.heap.IsTuple a _ from p); rw [e] at e'; cases e'; exact hc2 c'
end
def Ite (K:PySem.W.Frag) (t:Bool) (a:Addr):It:=
 ⟨fun i H=>∃ xs x,Sq K t H a xs /\ xs[i]? = some x,fun i H x H'=>∃ T v,H T = none /\ x = .ref T /\ H' = upd H T (.tup [.int i,v]) /\ ∀ xs,Sq K t H a xs -> xs[i]? = some v,fun i H=>∃ xs,Sq K t H a xs /\ xs.length = i⟩
theorem turned_all {X:Cx} {pins:List (Addr × Obj)} {σ:L2.St} {H:Hp} {s:Shared} {h':Heap} {tk:Nat} {ch:List Addr} (I:L2.Inv X pins σ H s) (hf:∀ b ∈ ch,FpOk X pins H b) (k:∀ b o,b ∉ ch -> s.heap.get? b = some o -> h'.get? b = some o) :
  L2.Inv X pins σ H { s with heap:=h',toks:=tk }:=by
 refine I.step (g':=s.gens) (d':=s.drawn) (ch:=ch) (fun b hb=>?_) (fun b o _ _ hc e _=>k b o hc e) (fun b o _ _ hc e _=>⟨o.slots,k b o hc e⟩) (fun _ _ _ _ n=>n) (fun b o hc e=>⟨o,k b o hc e⟩) (fun _ _ e=>e) (fun _ _ _ e=>e) (fun b ps e=>⟨#[],by rw [e]; simp⟩) (fun m hm=>?_) (fun b u e=>?_) I.bare
 ·obtain ⟨_,f1,_,f3,f4,f5⟩:=hf b hb
  exact ⟨f3,f1,f4,f5⟩
 ·obtain ⟨o,es,ep,ho,r⟩:=hm
  exact ⟨o,es,ep,k _ o (fun hb=>(hf _ hb).2.1 rfl) ho,r⟩
 ·refine (I.hok b u e).stay (fun c v hc q=>k c v ?_ q) (fun _ q=>q) fun _ _ q=>q
  intro hb
  have hn:=(hf c hb).1
  rcases hc with z | z
  ·rw [<- z,hn] at e; cases e
  ·rw [hn] at z; cases z
theorem turned_laid {X:Cx} {pins:List (Addr × Obj)} {σ:L2.St} {H:Hp} {s:Shared} {h':Heap} {tk:Nat} {ch:List Addr} {a:Addr} {o:HO} (I:L2.Inv X pins σ H s) (hf:∀ b ∈ ch,FpOk X pins H b) (k:∀ b o,b ∉ ch -> s.heap.get? b = some o -> h'.get? b = some o)
  (hp:s.heap.objs.size <= a) (new:ObjOk X.prog X.w (upd H a o) h' a o):L2.Inv X pins σ (upd H a o) { s with heap:=h',toks:=tk }:=by
 have hn:H a = none:=I.hok.fresh hp
 have ne1:∀ b u,H b = some u -> b ≠ a:=fun b u e z=>by rw [z,hn] at e; cases e
 have ne2:∀ b ob,s.heap.get? b = some ob -> b ≠ a:=fun b ob e=>Nat.ne_of_lt (Nat.lt_of_lt_of_le (Heap.lt_size e) hp)
 refine I.step (g':=s.gens) (d':=s.drawn) (ch:=ch) (fun b hb=>?_) (fun b o _ _ hc e _=>k b o hc e) (fun b o _ _ hc e _=>⟨o.slots,k b o hc e⟩) (fun b ob _ e n=>by rw [upd_ne (ne2 b ob e)]; exact n) (fun b o hc e=>⟨o,k b o hc e⟩)
  (fun b xs e=>by rw [upd_ne (ne1 b _ e)]; exact e) (fun b ob u e=>by rw [upd_ne (ne1 b _ e)]; exact e) (fun b ps e=>⟨#[],by rw [upd_ne (ne1 b _ e),e]; simp⟩) (fun m hm=>?_) (fun b u e=>?_) I.bare
 ·obtain ⟨_,f1,_,f3,f4,f5⟩:=hf b hb
  exact ⟨f3,f1,f4,f5⟩
 ·obtain ⟨o,es,ep,ho,r⟩:=hm
  exact ⟨o,es,ep,k _ o (fun hb=>(hf _ hb).2.1 rfl) ho,r⟩
 ·by_cases hb:b = a
  ·subst hb
   rw [upd_same] at e
   cases e
   exact new
  ·rw [upd_ne hb] at e
   refine (I.hok b u e).stay (fun c v hc q=>k c v ?_ q) (fun c q=>?_) fun c xs q=>?_
   ·intro hcb
    have hn':=(hf c hcb).1
    rcases hc with z | z
    ·rw [<- z,hn'] at e; cases e
    ·rw [hn'] at z; cases z
   ·rw [upd_ne (ne1 c _ q)]; exact q
   ·rw [upd_ne (ne1 c _ q)]; exact q
theorem turn_enum {P:Program} {w:World} {K:PySem.W.Frag} {elts:List Expr} {k:Nat} {tpos:Pos} (t:Bool) (a it e:Addr) (hne:e ≠ it) :
  Turn P w K (.Tuple elts k tpos) (Ite K t a) [e,it] e (fun i h=>(∃ old,IsEnum h e it i old) /\ IsIt t h it a i) where
 mem:=by simp
 obj:=fun i h st b hb=>by
  obtain ⟨⟨old,he⟩,o,ho,hc,hd⟩:=st
  rcases List.mem_cons.mp hb with rfl | hb
  ·exact ⟨_,he,fun v z=>by cases z⟩
  ·have e:b = it:=by simpa using hb
   subst e
   exact ⟨o,ho,fun v z=>by rw [hd] at z; cases z⟩
 keep:=fun i h h' st q=>⟨let ⟨old,he⟩:=st.1; ⟨old,q e (by simp) _ he⟩,st.2.stay fun o x=>q it (by simp) o x⟩
 item:=by
  intro X hP hw hK hc i pins s σ H E I hf st hg
  subst hP hw hK
  obtain ⟨xs,x,hq,hx⟩:=hg
  obtain ⟨its,rv,p,hz⟩:=sq_here I hq
  obtain ⟨u,hu,ru⟩:=rv.get hx
  obtain ⟨⟨old,he⟩,hit⟩:=st
  obtain ⟨o,ho,hoc,hod⟩:=id hit
  have na:a ≠ it:=sq_ne I hq ho (by rw [hoc]; cases t <;> simp [itName]) (by rw [hoc]; cases t <;> simp [itName])
  have nae:a ≠ e:=sq_ne I hq he (by simp) (by simp)
  have hlt:i < its.toArray.size:=by
   have:=(List.getElem?_eq_some_iff.mp hu).1
   simpa using this
  have D:=draws_sq (prog:=X.prog) (w:=X.w) (A:=X.A.in1) (show X.A.in1.handled = none from I.ok.hd hc) t it a na its.toArray
  refine wpAny_pyNext_enum_itemD D he ⟨hit,p⟩ hlt hne (by simp [hne,Ne.symm nae]) fun y h' tk hP ho' hs' hT hsz hk=>?_
  have hy:y = u:=by
   have e1:its.toArray[i]? = some y:=hP
   have e2:its.toArray[i]? = some u:=by simpa using hu
   rw [e1] at e2; exact Option.some.inj e2
  subst hy
  refine ⟨_,rfl,wpAny_letOwnedTupleGo_enum ho' fun h2 he2 hsb2=>?_⟩
  have hel:e < s.heap.objs.size:=Heap.lt_size he
  have hil:it < s.heap.objs.size:=hit.lt
  have keep2:∀ b o,b ∉ [e,it] -> s.heap.get? b = some o -> h2.get? b = some o:=fun b o hb q=>by
   have h1:b ≠ e:=fun z=>hb (by simp [z])
   have h3:b ≠ it:=fun z=>hb (by simp [z])
   exact (hsb2.2 b h1).trans (hk b o h1 h3 q)
  have hT2:h2.get? s.heap.objs.size = some { cls:=.type "tuple",data:=.seq #[.int i tk,y] }:=(hsb2.2 _ (Nat.ne_of_gt hel)).trans hT
  have hfr:H s.heap.objs.size = none:=I.hok.fresh (Nat.le_refl _)
  have I2:L2.Inv X pins σ (upd H s.heap.objs.size (.tup [.int i,x])) { s with heap:=h2,toks:=tk + 1 }:=
   turned_laid I hf keep2 (Nat.le_refl _) ⟨⟨by rw [sizeLine_eq]; show 2 <= _; decide,fun o q=>by rw [hT2] at q; cases q; rfl⟩,[.int i tk,y],.cons ⟨tk,rfl⟩ (.cons ru .nil),_,hT2,rfl,_,rfl⟩
  refine ⟨.ref s.heap.objs.size,_,I2,rfl,⟨s.heap.objs.size,x,hfr,rfl,rfl,fun zs hzs=>by rw [sq_inj I hzs hq]; exact hx⟩,⟨⟨_,by simpa using he2⟩,hs'.1.stay fun o q=>(hsb2.2 it hne.symm).trans q⟩,fun b hb=>?_⟩
  rcases List.mem_cons.mp hb with rfl | hb
  ·rw [upd_ne (Nat.ne_of_lt hel)]; exact (hf b (by simp)).1
  ·have e:b = it:=by simpa using hb
   subst e
   rw [upd_ne (Nat.ne_of_lt hil)]; exact (hf b (by simp)).1
 done:=by
  intro X hP hw hK hc i pins s σ H E I hf st hg
  subst hP hw hK
  obtain ⟨xs,hq,hx⟩:=hg
  obtain ⟨its,rv,p,hz⟩:=sq_here I hq
  obtain ⟨⟨old,he⟩,hit⟩:=st
  obtain ⟨o,ho,hoc,hod⟩:=id hit
  have na:a ≠ it:=sq_ne I hq ho (by rw [hoc]; cases t <;> simp [itName]) (by rw [hoc]; cases t <;> simp [itName])
  have hl:=rv.length
  have hin:i = its.toArray.size:=by rw [List.size_toArray,<- hl,hx]
  have D:=draws_sq (prog:=X.prog) (w:=X.w) (A:=X.A.in1) (show X.A.in1.handled = none from I.ok.hd hc) t it a na its.toArray
  refine wpAny_pyNext_enum_endD D he (by rw [<- hin]; exact ⟨hit,p⟩) fun h' hx'=>⟨rfl,turned_all (tk:=s.toks) I hf fun b o hb q=>hx' b o (fun z=>hb (by simp [z])) q⟩
 self:=fun A i s Q E st h=>let ⟨⟨old,he⟩,_⟩:=st; wpAny_pyIter_enum he h
end Rd
namespace Rd
open PySem PySem.Spec PyProof.Rows L2 Pu
structure Apart (z TI TO i1 i2:Addr):Prop where
 all:[z,TI,TO,i1,i2].Nodup
theorem Apart.ne {z TI TO i1 i2:Addr} (D:Apart z TI TO i1 i2):TI ≠ z /\ TO ≠ z /\ i1 ≠ z /\ i2 ≠ z /\ TI ≠ TO /\ TI ≠ i1 /\ TI ≠ i2 /\ TO ≠ i1 /\ TO ≠ i2 /\ i1 ≠ i2:=by
 have h:=D.all
 simp only [List.nodup_cons,List.mem_cons,List.not_mem_nil,or_false,not_or] at h
 obtain ⟨⟨a1,a2,a3,a4⟩,⟨b1,b2,b3⟩,⟨c1,c2⟩,d1,_⟩:=h
 exact ⟨Ne.symm a1,Ne.symm a2,Ne.symm a3,Ne.symm a4,b1,b2,b3,c1,c2,d1⟩
section
variable {prog:Program} {w:World} {A:Around} {E:Value -> Shared -> Prop} {s:Shared} {z TI TO i1 i2 l1 l2:Addr} {t1 t2:Bool} {k:Nat} {xs ys:Array Value} {x y a b:Value}
theorem zipNext {Q:Value -> Shared -> Prop} (D:Apart z TI TO i1 i2) (hz:IsZip s.heap z TI TO .none) (hTI:IsPair s.heap TI (.ref i1) (.ref i2)) (hTO:IsPair s.heap TO a b) (h1:IsIt t1 s.heap i1 l1 k) (h2:IsIt t2 s.heap i2 l2 k)
  (hl1:IsSq t1 s.heap l1 xs) (hl2:IsSq t2 s.heap l2 ys) (n1:l1 ∉ [z,TO,i1,i2]) (n2:l2 ∉ [z,TO,i1,i2]) (hx:xs[k]? = some x) (hy:ys[k]? = some y)
  (hQ:∀ h',IsZip h' z TI TO (rawInt s.heap.objs.size) -> IsPair h' TO x y -> IsIt t1 h' i1 l1 (k + 1) -> IsIt t2 h' i2 l2 (k + 1) -> IsPair h' s.heap.objs.size x y -> (∀ c o,c ∉ [z,TO,i1,i2] -> s.heap.get? c = some o -> h'.get? c = some o) -> Q (.ref s.heap.objs.size) { s with heap:=h' }) :
  wpAny (model prog w) A (Builtin.«zip.__next__» ⟨[.ref z],[]⟩) (fun fin s'=>∃ v,fin = .done (.ret v) /\ Q v s') E s:=by
 obtain ⟨d1,d2,d3,d4,d5,d6,d7,d8,d9,d10⟩:=D.ne
 simp only [List.mem_cons,List.not_mem_nil,or_false,not_or] at n1 n2
 obtain ⟨m1,m2,m3,m4⟩:=n1
 obtain ⟨o1,o2,o3,o4⟩:=n2
 show wpAny _ _ (field (.ref z) 2 >>= _) _ _ _; refine wpAny_bind (wpAny_field hz rfl (x:=.bool false) rfl ?_)
 show wpAny _ _ (field (.ref z) 3 >>= _) _ _ _; refine wpAny_bind (wpAny_field hz rfl (x:=.ref TI) rfl (wpAny_bind (wpAny_seqItems hTI rfl ?_)))
 show wpAny _ _ (Builtin.SmallTypes.ownedTupleIsFree (.ref z) >>= _) _ _ _; refine wpAny_bind ?_; unfold Builtin.SmallTypes.ownedTupleIsFree
 refine wpAny_bind (wpAny_field hz rfl (x:=.none) rfl (wpAny_pure ?_)); simp only [if_true]
 refine wpAny_bind (wpAny_rule (wpAny_bind (wpAny_field hz rfl (x:=.ref TO) rfl (wpAny_bind (wpAny_setField_rec hz (by simp) fun g1 hz1 s1=>?_)))))
 replace hz1:IsZip g1 z TI TO .ellipsis:=hz1
 refine wpAny_bind ?_; simp only [List.zipIdx_cons,List.zipIdx_nil,List.forIn_cons,List.forIn_nil]
 refine wpAny_bind (wpAny_bind (wpAny_onRaise ?_)); show wpAny _ _ (Builtin.SmallTypes.nextOf (.ref i1) >>= _) _ _ _
 refine wpAny_bind (nextOf_item (h1.stay fun o e=>s1.extBut _ _ d3 e) (hl1.stay fun o e=>s1.extBut _ _ m1 e) hx fun g2 k1 s2=>wpAny_pure ?_)
 have hTO2:IsPair g2 TO a b:=s2.extBut _ _ d8 (s1.extBut _ _ d2 hTO)
 refine wpAny_bind (wpAny_seqItems hTO2 rfl (wpAny_bind (wpAny_updateSeq_pair hTO2 fun g3 hTO3 s3=>?_)))
 replace hTO3:IsPair g3 TO x b:=hTO3
 refine wpAny_bind (wpAny_letGo (wpAny_pure ?_))
 refine wpAny_bind (wpAny_bind (wpAny_onRaise ?_)); show wpAny _ _ (Builtin.SmallTypes.nextOf (.ref i2) >>= _) _ _ _
 refine wpAny_bind (nextOf_item (h2.stay fun o e=>s3.extBut _ _ (Ne.symm d9) (s2.extBut _ _ (Ne.symm d10) (s1.extBut _ _ d4 e))) (hl2.stay fun o e=>s3.extBut _ _ o2 (s2.extBut _ _ o3 (s1.extBut _ _ o1 e))) hy fun g4 k2 s4=>wpAny_pure ?_)
 have hTO4:IsPair g4 TO x b:=s4.extBut _ _ d9 hTO3
 refine wpAny_bind (wpAny_seqItems hTO4 rfl (wpAny_bind (wpAny_updateSeq_pair hTO4 fun g5 hTO5 s5=>?_)))
 replace hTO5:IsPair g5 TO x y:=hTO5
 refine wpAny_bind (wpAny_letGo (wpAny_pure (wpAny_pure (wpAny_bind (wpAny_seqItems hTO5 rfl (wpAny_bind (wpAny_newTuple ?_)))))))
 have hsz:g5.objs.size = s.heap.objs.size:=by rw [s5.1,s4.1,s3.1,s2.1,s1.1]
 have hz5:IsZip g5 z TI TO .ellipsis:=s5.extBut _ _ (Ne.symm d2) (s4.extBut _ _ (Ne.symm d4) (s3.extBut _ _ (Ne.symm d2) (s2.extBut _ _ (Ne.symm d3) hz1)))
 have kp:∀ c o,c ∉ [z,TO,i1,i2] -> s.heap.get? c = some o -> g5.get? c = some o:=fun c o hc e=>by
  simp only [List.mem_cons,List.not_mem_nil,or_false,not_or] at hc
  exact s5.extBut _ _ hc.2.1 (s4.extBut _ _ hc.2.2.2 (s3.extBut _ _ hc.2.1 (s2.extBut _ _ hc.2.2.1 (s1.extBut _ _ hc.1 e))))
 have e1:IsIt t1 g5 i1 l1 (k + 1):=k1.stay fun o e=>s5.extBut _ _ (Ne.symm d8) (s4.extBut _ _ d10 (s3.extBut _ _ (Ne.symm d8) e))
 have e2:IsIt t2 g5 i2 l2 (k + 1):=k2.stay fun o e=>s5.extBut _ _ (Ne.symm d9) e
 have zl:z < g5.objs.size:=Heap.lt_size hz5
 show wpAny _ _ (Builtin.SmallTypes.ownedTupleHandOut (.ref z) (.ref g5.objs.size) >>= _) _ _ _; refine wpAny_bind ?_; unfold Builtin.SmallTypes.ownedTupleHandOut
 have hz6:IsZip (g5.push { cls:=.type "tuple",data:=.seq #[x,y] }) z TI TO .ellipsis:=Heap.get?_push_of_some _ hz5
 refine wpAny_bind (wpAny_setField_rec hz6 (by simp) fun g7 hz7 s7=>?_)
 replace hz7:IsZip g7 z TI TO (rawInt g5.objs.size):=hz7
 refine wpAny_setField_rec hz7 (by simp) fun g8 hz8 s8=>?_
 replace hz8:IsZip g8 z TI TO (rawInt g5.objs.size):=hz8
 have up:∀ c o,c ≠ z -> g5.get? c = some o -> g8.get? c = some o:=fun c o hc e=>s8.extBut _ _ hc (s7.extBut _ _ hc (Heap.get?_push_of_some _ e))
 have hT8:IsPair g8 g5.objs.size x y:=s8.extBut _ _ (Nat.ne_of_gt zl) (s7.extBut _ _ (Nat.ne_of_gt zl) (Heap.get?_push_size _ rfl))
 rw [hsz] at hz8 hT8
 refine wpAny_pure ⟨_,rfl,?_⟩; show Q (.ref g5.objs.size) _; rw [hsz]
 exact hQ g8 hz8 (up _ _ d2 hTO5) (e1.stay fun o e=>up _ o d3 e) (e2.stay fun o e=>up _ o d4 e) hT8 fun c o hc e=>up c o (fun q=>hc (by simp [q])) (kp c o hc e)
theorem zipEnd {Q:Fin -> Shared -> Prop} (hh:A.handled = none) (D:Apart z TI TO i1 i2) (hz:IsZip s.heap z TI TO .none) (hTI:IsPair s.heap TI (.ref i1) (.ref i2)) (hTO:IsPair s.heap TO a b) (h1:IsIt t1 s.heap i1 l1 k) (h2:IsIt t2 s.heap i2 l2 k)
  (hl1:IsSq t1 s.heap l1 xs) (hl2:IsSq t2 s.heap l2 ys) (n1:l1 ∉ [z,TO,i1,i2]) (n2:l2 ∉ [z,TO,i1,i2]) (hend:xs[k]? = none \/ ys[k]? = none)
  (hE:∀ h' e,(∀ c o,c ∉ [z,TO,i1,i2] -> s.heap.get? c = some o -> h'.get? c = some o) -> (∃ o,h'.get? e = some o /\ o.cls = .type "StopIteration") -> E (.ref e) { s with heap:=h' }) :
  wpAny (model prog w) A (Builtin.«zip.__next__» ⟨[.ref z],[]⟩) Q E s:=by
 obtain ⟨d1,d2,d3,d4,d5,d6,d7,d8,d9,d10⟩:=D.ne
 simp only [List.mem_cons,List.not_mem_nil,or_false,not_or] at n1 n2
 obtain ⟨m1,m2,m3,m4⟩:=n1
 obtain ⟨o1,o2,o3,o4⟩:=n2
 show wpAny _ _ (field (.ref z) 2 >>= _) _ _ _; refine wpAny_bind (wpAny_field hz rfl (x:=.bool false) rfl ?_)
 show wpAny _ _ (field (.ref z) 3 >>= _) _ _ _; refine wpAny_bind (wpAny_field hz rfl (x:=.ref TI) rfl (wpAny_bind (wpAny_seqItems hTI rfl ?_)))
 show wpAny _ _ (Builtin.SmallTypes.ownedTupleIsFree (.ref z) >>= _) _ _ _; refine wpAny_bind ?_; unfold Builtin.SmallTypes.ownedTupleIsFree
 refine wpAny_bind (wpAny_field hz rfl (x:=.none) rfl (wpAny_pure ?_)); simp only [if_true]
 refine wpAny_bind (wpAny_rule (wpAny_bind (wpAny_field hz rfl (x:=.ref TO) rfl (wpAny_bind (wpAny_setField_rec hz (by simp) fun g1 hz1 s1=>?_)))))
 replace hz1:IsZip g1 z TI TO .ellipsis:=hz1
 refine wpAny_bind ?_; simp only [List.zipIdx_cons,List.zipIdx_nil,List.forIn_cons,List.forIn_nil]
 refine wpAny_bind (wpAny_bind (wpAny_onRaise ?_)); show wpAny _ _ (Builtin.SmallTypes.nextOf (.ref i1) >>= _) _ _ _
 have hc4:∀ c,c ∉ [z,TO,i1,i2] -> c ≠ z /\ c ≠ TO /\ c ≠ i1 /\ c ≠ i2:=fun c hc=>by simpa [not_or] using hc
 cases hx:xs[k]? with
 | none=>
  refine wpAny_bind (nextOf_end hh (h1.stay fun o e=>s1.extBut _ _ d3 e) (hl1.stay fun o e=>s1.extBut _ _ m1 e) hx fun g2 e s2 he=>?_)
  obtain ⟨oe,hoe,hce⟩:=he
  have hz2:IsZip g2 z TI TO .ellipsis:=s2 _ _ (Ne.symm d3) hz1
  have hez:e ≠ z:=fun q=>by subst q; rw [hz2] at hoe; cases hoe; simp at hce
  exact wpAny_setField_rec hz2 (by simp) fun g3 _ s3=>hE g3 e (fun c o hc q=>s3.extBut _ _ (hc4 c hc).1 (s2 _ _ (hc4 c hc).2.2.1 (s1.extBut _ _ (hc4 c hc).1 q))) ⟨oe,s3.extBut _ _ hez hoe,hce⟩
 | some x=>
  have hy:ys[k]? = none:=by rcases hend with q | q; (· rw [hx] at q; cases q); exact q
  refine wpAny_bind (nextOf_item (h1.stay fun o e=>s1.extBut _ _ d3 e) (hl1.stay fun o e=>s1.extBut _ _ m1 e) hx fun g2 k1 s2=>wpAny_pure ?_)
  have hTO2:IsPair g2 TO a b:=s2.extBut _ _ d8 (s1.extBut _ _ d2 hTO)
  refine wpAny_bind (wpAny_seqItems hTO2 rfl (wpAny_bind (wpAny_updateSeq_pair hTO2 fun g3 hTO3 s3=>wpAny_bind (wpAny_letGo (wpAny_pure ?_)))))
  refine wpAny_bind (wpAny_bind (wpAny_onRaise ?_)); show wpAny _ _ (Builtin.SmallTypes.nextOf (.ref i2) >>= _) _ _ _
  refine wpAny_bind (nextOf_end hh (h2.stay fun o e=>s3.extBut _ _ (Ne.symm d9) (s2.extBut _ _ (Ne.symm d10) (s1.extBut _ _ d4 e))) (hl2.stay fun o e=>s3.extBut _ _ o2 (s2.extBut _ _ o3 (s1.extBut _ _ o1 e))) hy fun g4 e s4 he=>?_)
  obtain ⟨oe,hoe,hce⟩:=he
  have hz4:IsZip g4 z TI TO .ellipsis:=s4 _ _ (Ne.symm d4) (s3.extBut _ _ (Ne.symm d2) (s2.extBut _ _ (Ne.symm d3) hz1))
  have hez:e ≠ z:=fun q=>by subst q; rw [hz4] at hoe; cases hoe; simp at hce
  exact wpAny_setField_rec hz4 (by simp) fun g5 _ s5=>hE g5 e (fun c o hc q=>s5.extBut _ _ (hc4 c hc).1 (s4 _ _ (hc4 c hc).2.2.2 (s3.extBut _ _ (hc4 c hc).2.1 (s2.extBut _ _ (hc4 c hc).2.2.1 (s1.extBut _ _ (hc4 c hc).1 q))))) ⟨oe,s5.extBut _ _ hez hoe,hce⟩
end
theorem sq_notin {X:Cx} {pins:List (Addr × Obj)} {σ:L2.St} {H:Hp} {s:Shared} {t:Bool} {l b:Addr} {zs:List V} (I:L2.Inv X pins σ H s) (h:Sq X.K t H l zs) (hf:FpOk X pins H b):l ≠ b:=by
 rintro rfl
 have mod:∀ o,X.K.lookup l = some o -> False:=fun o e=>by
  have e1:=I.mod.kin l o e
  rcases hf.2.2.2.1 with q | q
  ·exact I.ok.noex l o e1 q
  ·exact absurd (Nat.lt_of_lt_of_le (Heap.lt_size (I.ok.bs l o e1).1) q) (Nat.lt_irrefl _)
 have rd:∀ u,Rd H l u -> False:=fun u q=>by
  rcases q with q | ⟨o,q⟩ <;> (rw [hf.1] at q; cases q)
 cases t
 ·rcases (show SqL X.K H l zs from h) with q | ⟨o,_,_,q,_⟩
  ·exact rd _ q
  ·exact mod o q
 ·rcases (show SqT X.K H l zs from h) with q | ⟨_,o,_,_,_,q,_⟩
  ·exact rd _ (.inl q)
  ·exact mod o q
def Itz (K:PySem.W.Frag) (t1 t2:Bool) (l1 l2:Addr):It:=
 ⟨fun i H=>∃ xs ys x y,Sq K t1 H l1 xs /\ Sq K t2 H l2 ys /\ xs[i]? = some x /\ ys[i]? = some y,
  fun i H x H'=>∃ T u v,H T = none /\ x = .ref T /\ H' = upd H T (.tup [u,v]) /\ (∀ xs,Sq K t1 H l1 xs -> xs[i]? = some u) /\ ∀ ys,Sq K t2 H l2 ys -> ys[i]? = some v,
  fun i H=>∃ xs ys,Sq K t1 H l1 xs /\ Sq K t2 H l2 ys /\ (xs[i]? = none \/ ys[i]? = none)⟩
def ZipSt (z TI TO i1 i2 l1 l2:Addr) (t1 t2:Bool) (i:Nat) (h:Heap):Prop:=IsZip h z TI TO .none /\ IsPair h TI (.ref i1) (.ref i2) /\ (∃ a b,IsPair h TO a b) /\ IsIt t1 h i1 l1 i /\ IsIt t2 h i2 l2 i
theorem turn_zip {P:Program} {w:World} {K:PySem.W.Frag} {elts:List Expr} {k:Nat} {tpos:Pos} (t1 t2:Bool) (l1 l2 z TI TO i1 i2:Addr) (D:Apart z TI TO i1 i2) :
  Turn P w K (.Tuple elts k tpos) (Itz K t1 t2 l1 l2) [z,TI,TO,i1,i2] z (ZipSt z TI TO i1 i2 l1 l2 t1 t2) where
 mem:=by simp
 obj:=fun i h st b hb=>by
  obtain ⟨h1,h2,⟨a,c,h3⟩,⟨o4,h4,_,h4'⟩,⟨o5,h5,_,h5'⟩⟩:=st
  simp only [List.mem_cons,List.not_mem_nil,or_false] at hb
  rcases hb with rfl | rfl | rfl | rfl | rfl
  ·exact ⟨_,h1,fun v q=>by cases q⟩
  ·exact ⟨_,h2,fun v q=>by cases q⟩
  ·exact ⟨_,h3,fun v q=>by cases q⟩
  ·exact ⟨_,h4,fun v q=>by rw [h4'] at q; cases q⟩
  ·exact ⟨_,h5,fun v q=>by rw [h5'] at q; cases q⟩
 keep:=fun i h h' st q=>let ⟨h1,h2,⟨a,c,h3⟩,h4,h5⟩:=st; ⟨q z (by simp) _ h1,q TI (by simp) _ h2,⟨a,c,q TO (by simp) _ h3⟩,h4.stay fun o e=>q i1 (by simp) o e,h5.stay fun o e=>q i2 (by simp) o e⟩
 item:=by
  intro X hP hw hK hc i pins s σ H E I hf st hg
  subst hP hw hK
  obtain ⟨xs,ys,x,y,q1,q2,hx,hy⟩:=hg
  obtain ⟨its,rv,p1,_⟩:=sq_here I q1
  obtain ⟨its2,rv2,p2,_⟩:=sq_here I q2
  obtain ⟨u,hu,ru⟩:=rv.get hx
  obtain ⟨v,hv,rw2⟩:=rv2.get hy
  obtain ⟨hz,hTI,⟨a,b,hTO⟩,j1,j2⟩:=st
  have tracked:∀ {t:Bool} {l:Addr} {zs:List V},Sq X.K t H l zs -> l ∉ [z,TO,i1,i2]:=fun {t l zs} q hb=>
   sq_notin I q (hf l (by simp only [List.mem_cons,List.not_mem_nil,or_false] at hb ⊢; rcases hb with e | e | e | e <;> simp [e])) rfl
  have hT:s.TypeIs (.ref z) "zip":=⟨_,hz,rfl⟩
  unfold pyNext
  refine wpAny_bind (wpAny_attempt (wpAny_callSpecial?_slot (name:=Str.ofString "__next__") hT F.slot_zip_next (wpAny_call_entry F.slot_zip_next hT F.entry_zip_next
   (zipNext D hz hTI hTO j1 j2 p1 p2 (tracked q1) (tracked q2) (x:=u) (y:=v) (by simpa using hu) (by simpa using hv) fun h' a1 a2 a3 a4 a5 a6=>wpAny_pure ?_) (F.args_zip_next_1 _))))
  refine ⟨_,rfl,wpAny_letOwnedTupleGo_zip a1 fun h2 b1 b2=>?_⟩
  obtain ⟨d1,d2,d3,d4,_⟩:=D.ne
  have zl:z < s.heap.objs.size:=Heap.lt_size hz
  have kp:∀ c o,c ∉ [z,TI,TO,i1,i2] -> s.heap.get? c = some o -> h2.get? c = some o:=fun c o hc e=>by
   simp only [List.mem_cons,List.not_mem_nil,or_false,not_or] at hc
   exact (b2.2 c hc.1).trans (a6 c o (by simp [hc]) e)
  have hT2:IsPair h2 s.heap.objs.size u v:=(b2.2 _ (Nat.ne_of_gt zl)).trans a5
  have I2:L2.Inv X pins σ (upd H s.heap.objs.size (.tup [x,y])) { s with heap:=h2,toks:=s.toks }:=
   turned_laid I hf kp (Nat.le_refl _) ⟨⟨by rw [sizeLine_eq]; show 2 <= _; decide,fun o q=>by rw [show h2.get? s.heap.objs.size = some _ from hT2] at q; cases q; rfl⟩,[u,v],.cons ru (.cons rw2 .nil),_,hT2,rfl,_,rfl⟩
  have hTI2:IsPair h2 TI (.ref i1) (.ref i2):=(b2.2 _ d1).trans (a6 TI _ (by obtain ⟨_,_,_,_,d5,d6,d7,_⟩:=D.ne; simp [d1,d5,d6,d7]) hTI)
  refine ⟨.ref s.heap.objs.size,_,I2,rfl,⟨s.heap.objs.size,x,y,I.hok.fresh (Nat.le_refl _),rfl,rfl,fun zs q=>by rw [sq_inj I q q1]; exact hx,fun zs q=>by rw [sq_inj I q q2]; exact hy⟩,
   ⟨b1,hTI2,⟨u,v,(b2.2 _ d2).trans a2⟩,a3.stay fun o e=>(b2.2 _ d3).trans e,a4.stay fun o e=>(b2.2 _ d4).trans e⟩,fun b hb=>?_⟩
  have hbl:b < s.heap.objs.size:=by
   simp only [List.mem_cons,List.not_mem_nil,or_false] at hb
   rcases hb with rfl | rfl | rfl | rfl | rfl
   ·exact zl
   ·exact Heap.lt_size hTI
   ·exact Heap.lt_size hTO
   ·exact j1.lt
   ·exact j2.lt
  rw [upd_ne (Nat.ne_of_lt hbl)]
  exact (hf b hb).1
 done:=by
  intro X hP hw hK hc i pins s σ H E I hf st hg
  subst hP hw hK
  obtain ⟨xs,ys,q1,q2,hx⟩:=hg
  obtain ⟨its,rv,p1,_⟩:=sq_here I q1
  obtain ⟨its2,rv2,p2,_⟩:=sq_here I q2
  obtain ⟨hz,hTI,⟨a,b,hTO⟩,j1,j2⟩:=st
  have tracked:∀ {t:Bool} {l:Addr} {zs:List V},Sq X.K t H l zs -> l ∉ [z,TO,i1,i2]:=fun {t l zs} q hb=>
   sq_notin I q (hf l (by simp only [List.mem_cons,List.not_mem_nil,or_false] at hb ⊢; rcases hb with e | e | e | e <;> simp [e])) rfl
  have hT:s.TypeIs (.ref z) "zip":=⟨_,hz,rfl⟩
  unfold pyNext
  refine wpAny_bind (wpAny_attempt (wpAny_callSpecial?_slot (name:=Str.ofString "__next__") hT F.slot_zip_next (wpAny_call_entry F.slot_zip_next hT F.entry_zip_next
   (zipEnd (show X.A.in1.handled = none from I.ok.hd hc) D hz hTI hTO j1 j2 p1 p2 (tracked q1) (tracked q2) ?_ fun h' e hk he=>?_) (F.args_zip_next_1 _))))
  ·rcases hx with q | q
   ·exact .inl (by simpa using rv.none_of q)
   ·exact .inr (by simpa using rv2.none_of q)
  ·obtain ⟨o,ho,hoc⟩:=he
   refine wpAny_bind (wpAny_isInstance (T:="StopIteration") (b:=true) ⟨o,ho,hoc⟩ isSubtype_stop (wpAny_pure ⟨rfl,turned_all (tk:=s.toks) I hf fun c o hc e=>hk c o ?_ e⟩))
   simp only [List.mem_cons,List.not_mem_nil,or_false,not_or] at hc ⊢
   exact ⟨hc.1,hc.2.2.1,hc.2.2.2⟩
 self:=fun A i s Q E st h=>wpAny_pyIter_zip st.1 h
abbrev itObj (t:Bool) (l:Addr):Obj:={ cls:=.type (itName t),data:=.fields #[.ref l,.int 0 0] }
theorem pyIter_sq {prog:Program} {w:World} {A:Around} {E:Value -> Shared -> Prop} {s:Shared} {t:Bool} {l:Addr} {xs:Array Value} {Q:Value -> Shared -> Prop} (h:IsSq t s.heap l xs) (hQ:Q (.ref s.heap.objs.size) { s with heap:=s.heap.push (itObj t l) }):wpAny (model prog w) A (pyIter (.ref l)) Q E s:=by
 cases t
 ·exact wpAny_pyIter_list (show s.heap.IsList l xs from h) hQ
 ·exact wpAny_pyIter_tuple (show s.heap.IsTuple l xs from h) hQ
theorem IsSq.push {t:Bool} {h:Heap} {a:Addr} {xs:Array Value} (x:IsSq t h a xs) (o:Obj):IsSq t (h.push o) a xs:=x.stay fun _ e=>Heap.get?_push_of_some _ e
abbrev zh1 (h:Heap) (t:Bool) (l:Addr):Heap:=h.push (itObj t l)
abbrev zh3 (h:Heap) (t1 t2:Bool) (l1 l2:Addr):Heap:=(zh1 (zh1 h t1 l1) t2 l2).push { cls:=.type "tuple",data:=.seq #[.ref h.objs.size,.ref (zh1 h t1 l1).objs.size] }
abbrev zh4 (h:Heap) (t1 t2:Bool) (l1 l2:Addr):Heap:=(zh3 h t1 t2 l1 l2).push { cls:=.type "tuple",data:=.seq #[.none,.none] }
abbrev zipOb (a b:Addr):Obj:={ cls:=.type "zip",data:=.fields #[.none,.bool false,.bool false,.ref a,.ref b] }
abbrev zh5 (h:Heap) (t1 t2:Bool) (l1 l2:Addr):Heap:=(zh4 h t1 t2 l1 l2).push (zipOb (zh1 (zh1 h t1 l1) t2 l2).objs.size (zh3 h t1 t2 l1 l2).objs.size)
theorem zip_new (l1 l2:Addr) (xs ys:Array Value) (t1 t2:Bool) :
  Meets (Builtin.«zip.__new__» ⟨[.type "zip",.ref l1,.ref l2],[]⟩) (fun _ R s=>IsSq t1 s.heap l1 xs /\ IsSq t2 s.heap l2 ys /\ R (.ok (.ret (.ref (zh4 s.heap t1 t2 l1 l2).objs.size))) { s with heap:=zh5 s.heap t1 t2 l1 l2 }):=
 .of_wp fun prog w A R s h=>by
  obtain ⟨hp,g,d,tk,os⟩:=s; obtain ⟨hl1,hl2,h⟩:=h
  have hsub:=sub_zip
  have hL1:IsSq t1 (Shared.heap ⟨hp,g,d,tk,os⟩) l1 xs:=hl1
  have hL2:IsSq t2 (Shared.heap ⟨hp.push (itObj t1 l1),g,d,tk,os⟩) l2 ys:=hl2.push _
  wp_walk using pyIter_sq hL1,pyIter_sq hL2
  exact ⟨_,rfl,h⟩
end Rd
namespace Rd
open PySem PySem.Spec PyProof.Rows L2 Pu
open AutoSeq1 (wpAny_loadPart')
theorem en_newT (l:Addr) (items:Array Value) (n:Nat) (dct:Option Addr) (sl:Array (Option Value)) :
  Meets (Builtin.«enumerate.__new__» ⟨[.type "enumerate",.ref l],[]⟩) (fun _ R s=>s.heap.get? l = some { cls:=.type "tuple",dict:=dct,data:=.seq items n,slots:=sl } /\
   R (.ok (.ret (.ref (s.heap.push (itObj true l)).objs.size))) { s with heap:=(s.heap.push (itObj true l)).push { cls:=.type "enumerate",data:=.fields #[.none,.bool false,.ref s.heap.objs.size,rawInt 0,.none,.none] } }):=
 .of_wp fun prog w A R s h=>by
  obtain ⟨hp,g,d,tk,os⟩:=s; obtain ⟨hl,h⟩:=h
  have hsub:=sub_enumerate
  have hL:IsSq true (Shared.heap ⟨hp,g,d,tk,os⟩) l items:=(show Heap.IsTuple hp l items from ⟨_,hl,rfl,n,rfl⟩)
  wp_walk using wpAny_loadPart' hl
  refine wpAny_stack_any fun st=>wpAny_pure ?_
  split
  ·rename_i c _ _ _ _ _
   cases (c == Value.type "enumerate") <;> (wp_walk using wpAny_loadPart' hl,pyIter_sq hL; exact ⟨_,rfl,h⟩)
  ·wp_walk using wpAny_loadPart' hl,pyIter_sq hL; exact ⟨_,rfl,h⟩
section
variable {prog:Program} {w:World} {A:Around} {E:Value -> Shared -> Prop} {s:Shared}
theorem call_enum {t:Bool} {l:Addr} {items:Array Value} {Q:Value -> Shared -> Prop} (hL:IsSq t s.heap l items)
  (h:∀ h',IsEnum h' (s.heap.objs.size + 1) s.heap.objs.size 0 .none -> IsIt t h' s.heap.objs.size l 0 -> (∀ b o,s.heap.get? b = some o -> h'.get? b = some o) -> Q (.ref (s.heap.objs.size + 1)) { s with heap:=h' }) :
  wpAny (model prog w) A (PySem.call (.type "enumerate") [.ref l]) Q E s:=by
 cases t with
 | false=>exact call_enumerate_list (show s.heap.IsList l items from hL) fun h' a b _ d=>h h' a b d
 | true=>
  obtain ⟨⟨c,dct,dt,sl⟩,hl,hc,n,hd⟩:=(show s.heap.IsTuple l items from hL)
  replace hc:c = .type "tuple":=hc
  replace hd:dt = .seq items n:=hd
  subst hc hd
  refine callType_new F.called_enumerate (by decide) (F.typeCall_enumerate_1 _) (F.newCall_enumerate_1 _) (fun obj=>F.args_object_init_2 obj _) F.entry_enumerate_new (en_newT l items n dct sl) ⟨hl,?_⟩
  have hz:(s.heap.push (itObj true l)).objs.size = s.heap.objs.size + 1:=Heap.size_push ..
  have he:IsEnum ((s.heap.push (itObj true l)).push { cls:=.type "enumerate",data:=.fields #[.none,.bool false,.ref s.heap.objs.size,rawInt 0,.none,.none] }) (s.heap.objs.size + 1) s.heap.objs.size 0 .none:=by
   have q:=Heap.get?_push_size (s.heap.push (itObj true l)) (o:={ cls:=.type "enumerate",data:=.fields #[.none,.bool false,.ref s.heap.objs.size,rawInt 0,.none,.none] }) rfl
   rw [hz] at q; exact q
  show _ /\ _
  rw [hz]
  exact ⟨⟨_,he,rfl⟩,h _ he ⟨_,Heap.get?_push_of_some _ (Heap.get?_push_size _ rfl),rfl,rfl⟩ fun b o x=>Heap.get?_push_of_some _ (Heap.get?_push_of_some _ x)⟩
theorem call_zipW {t1 t2:Bool} {l1 l2:Addr} {xs ys:Array Value} {Q:Value -> Shared -> Prop} (hl1:IsSq t1 s.heap l1 xs) (hl2:IsSq t2 s.heap l2 ys)
  (h:∀ h',ZipSt (s.heap.objs.size + 4) (s.heap.objs.size + 2) (s.heap.objs.size + 3) s.heap.objs.size (s.heap.objs.size + 1) l1 l2 t1 t2 0 h' -> (∀ c o,s.heap.get? c = some o -> h'.get? c = some o) -> Q (.ref (s.heap.objs.size + 4)) { s with heap:=h' }) :
  wpAny (model prog w) A (PySem.call (.type "zip") [.ref l1,.ref l2]) Q E s:=by
 refine callType_new F.called_zip (by decide) (F.typeCall_zip_2 _ _) (F.newCall_zip_2 _ _) (fun obj=>F.args_object_init_3 obj _ _) F.entry_zip_new (zip_new l1 l2 xs ys t1 t2) ⟨hl1,hl2,?_⟩
 have z1:(zh1 s.heap t1 l1).objs.size = s.heap.objs.size + 1:=Heap.size_push ..
 have z2:(zh1 (zh1 s.heap t1 l1) t2 l2).objs.size = s.heap.objs.size + 2:=by rw [Heap.size_push,z1]
 have z3:(zh3 s.heap t1 t2 l1 l2).objs.size = s.heap.objs.size + 3:=by rw [Heap.size_push,z2]
 have z4:(zh4 s.heap t1 t2 l1 l2).objs.size = s.heap.objs.size + 4:=by rw [Heap.size_push,z3]
 have p1:∀ (g:Heap) (o o':Obj) (b:Addr),g.get? b = some o -> (g.push o').get? b = some o:=fun g o o' b e=>Heap.get?_push_of_some _ e
 have g5:(zh5 s.heap t1 t2 l1 l2).get? (zh4 s.heap t1 t2 l1 l2).objs.size = some _:=Heap.get?_push_size _ rfl
 have g4:(zh5 s.heap t1 t2 l1 l2).get? (zh3 s.heap t1 t2 l1 l2).objs.size = some _:=p1 _ _ _ _ (Heap.get?_push_size _ rfl)
 have g3:(zh5 s.heap t1 t2 l1 l2).get? (zh1 (zh1 s.heap t1 l1) t2 l2).objs.size = some _:=p1 _ _ _ _ (p1 _ _ _ _ (Heap.get?_push_size _ rfl))
 have g2:(zh5 s.heap t1 t2 l1 l2).get? (zh1 s.heap t1 l1).objs.size = some _:=p1 _ _ _ _ (p1 _ _ _ _ (p1 _ _ _ _ (Heap.get?_push_size _ rfl)))
 have g1:(zh5 s.heap t1 t2 l1 l2).get? s.heap.objs.size = some _:=p1 _ _ _ _ (p1 _ _ _ _ (p1 _ _ _ _ (p1 _ _ _ _ (Heap.get?_push_size _ rfl))))
 show _ /\ _
 rw [z2,z3,z4] at g5
 rw [z1,z2] at g3
 rw [z3] at g4
 rw [z1] at g2
 rw [z4]
 exact ⟨⟨_,g5,rfl⟩,h _ ⟨g5,g3,⟨_,_,g4⟩,⟨_,g1,rfl,rfl⟩,⟨_,g2,rfl,rfl⟩⟩ fun c o x=>p1 _ _ _ _ (p1 _ _ _ _ (p1 _ _ _ _ (p1 _ _ _ _ (p1 _ _ _ _ x))))⟩
end
theorem rep_sq {K:PySem.W.Frag} {H:Hp} {d:D} {v:V} {ds:List D} (r:Rep K H d v) (h:d = .tup ds \/ d = .lst ds):∃ t a xs,v = .ref a /\ Sq K t H a xs /\ Reps K H ds xs:=by
 rcases h with rfl | rfl
 ·obtain ⟨a,xs,e,h1,h2⟩:=r; exact ⟨true,a,xs,e,h1,h2⟩
 ·obtain ⟨a,xs,e,h1,h2⟩:=r; exact ⟨false,a,xs,e,h1,h2⟩
theorem enumFrom_get:∀ (ds:List D) (k i:Nat),(enumFrom k ds)[i]? = (ds[i]?).map fun d=>.tup [.int ((k + i:Nat):Int),d]
 | [],_,_=>by simp [enumFrom]
 | d :: ds,k,0=>by simp [enumFrom]
 | d :: ds,k,i + 1=>by
  have:=enumFrom_get ds (k + 1) i
  simp only [enumFrom,List.getElem?_cons_succ,this]
  rw [show k + 1 + i = k + (i + 1) by omega]
theorem enumFrom_len:∀ (ds:List D) (k:Nat),(enumFrom k ds).length = ds.length
 | [],_=>rfl
 | d :: ds,k=>by simp [enumFrom,enumFrom_len ds]
theorem zipD_get:∀ (as bs:List D) (i:Nat) (a b:D),as[i]? = some a -> bs[i]? = some b -> (zipD as bs)[i]? = some (.tup [a,b])
 | a :: as,b :: bs,0,_,_,h,h'=>by simp at h h'; simp [zipD,h,h']
 | a :: as,b :: bs,i + 1,_,_,h,h'=>by simpa [zipD] using zipD_get as bs i _ _ (by simpa using h) (by simpa using h')
 | [],_,_,_,_,h,_=>by simp at h
 | _ :: _,[],_,_,_,_,h'=>by simp at h'
theorem zipD_len:∀ (as bs:List D),(zipD as bs).length = min as.length bs.length
 | [],_=>by simp [zipD]
 | _ :: _,[]=>by simp [zipD]
 | a :: as,b :: bs=>by simp [zipD,zipD_len as bs]
section
variable {X:Cx} {pins:List (Addr × Obj)} {σ:L2.St} {H:Hp} {s:Shared}
theorem walk_enum (I:L2.Inv X pins σ H s) {t:Bool} {a:Addr} {xs:List V} {ds:List D} (h1:Sq X.K t H a xs) (h2:Reps X.K H ds xs):Walk X.K (Ite X.K t a) H (enumFrom 0 ds):=by
 intro H' sm
 have l:=h2.length
 have h1':=Sq.same sm h1
 have h2':=h2.mono sm
 refine ⟨fun i hi=>?_,⟨xs,h1',by rw [enumFrom_len]; exact l⟩,fun i x H'' hi ⟨T,v,hT,e1,e2,hv⟩=>?_⟩
 ·rw [enumFrom_len] at hi
  exact ⟨xs,xs[i]'(by omega),h1',List.getElem?_eq_getElem (by omega)⟩
 ·subst e1; subst e2
  obtain ⟨d,hd,rd⟩:=h2'.get' (hv xs h1')
  obtain ⟨s1,r1⟩:=laidT (K:=X.K) (ds:=[.int i,d]) (xs:=[.int i,v]) hT ⟨_,_,rfl,rfl,_,_,rfl,rd,rfl⟩
  refine ⟨s1,_,by rw [enumFrom_get,hd]; rfl,?_⟩
  simpa using r1
theorem walk_zip (I:L2.Inv X pins σ H s) {t1 t2:Bool} {a b:Addr} {xs ys:List V} {ds es:List D} (h1:Sq X.K t1 H a xs) (h2:Reps X.K H ds xs) (h3:Sq X.K t2 H b ys) (h4:Reps X.K H es ys):Walk X.K (Itz X.K t1 t2 a b) H (zipD ds es):=by
 intro H' sm
 have l:=h2.length
 have l':=h4.length
 have h1':=Sq.same sm h1
 have h3':=Sq.same sm h3
 refine ⟨fun i hi=>?_,⟨xs,ys,h1',h3',?_⟩,fun i x H'' hi ⟨T,u,v,hT,e1,e2,hu,hv⟩=>?_⟩
 ·rw [zipD_len] at hi
  exact ⟨xs,ys,xs[i]'(by omega),ys[i]'(by omega),h1',h3',List.getElem?_eq_getElem (by omega),List.getElem?_eq_getElem (by omega)⟩
 ·rw [zipD_len]
  by_cases hh:ds.length <= es.length
  ·exact .inl (List.getElem?_eq_none (by omega))
  ·exact .inr (List.getElem?_eq_none (by omega))
 ·subst e1; subst e2
  obtain ⟨d,hd,rd⟩:=(h2.mono sm).get' (hu xs h1')
  obtain ⟨e,he,re⟩:=(h4.mono sm).get' (hv ys h3')
  obtain ⟨s1,r1⟩:=laidT (K:=X.K) (ds:=[d,e]) (xs:=[u,v]) hT ⟨_,_,rfl,rd,_,_,rfl,re,rfl⟩
  exact ⟨s1,_,zipD_get _ _ _ _ _ hd he,r1⟩
theorem walk_tup {a:Addr} {xs:List V} {ds:List D} {K:PySem.W.Frag} (h1:SqT K H a xs) (h2:Reps K H ds xs) (inj:∀ H' ys,Same H H' -> SqT K H' a ys -> True):Walk K (Itt K a) H ds:=by
 intro H' sm
 have l:=h2.length
 have h1':=SqT.same sm h1
 refine ⟨fun i hi=>⟨xs,xs[i]'(by omega),h1',List.getElem?_eq_getElem (by omega)⟩,⟨xs,h1',by omega⟩,fun i x H'' hi ⟨e,hx⟩=>?_⟩
 subst e
 obtain ⟨d,hd,rd⟩:=(h2.mono sm).get' (hx xs h1')
 exact ⟨Same.refl _,d,hd,rd⟩
theorem walk_lst {a:Addr} {xs:List V} {ds:List D} {K:PySem.W.Frag} (h1:SqL K H a xs) (h2:Reps K H ds xs):Walk K (Itl K a) H ds:=by
 intro H' sm
 have l:=h2.length
 have h1':=Same.seq sm h1
 refine ⟨fun i hi=>⟨xs,xs[i]'(by omega),h1',List.getElem?_eq_getElem (by omega)⟩,⟨xs,h1',by omega⟩,fun i x H'' hi ⟨e,hx⟩=>?_⟩
 subst e
 obtain ⟨d,hd,rd⟩:=(h2.mono sm).get' (hx xs h1')
 exact ⟨Same.refl _,d,hd,rd⟩
theorem walk_range {lo:Int} {n:Nat} {K:PySem.W.Frag}:Walk K (Itr lo n) H (upTo lo n):=by
 intro H' sm
 have l:(upTo lo n).length = n:=by simp [Pu.upTo]
 refine ⟨fun i hi=>by rw [l] at hi; exact hi,by show n <= _; rw [l]; exact Nat.le_refl _,fun i x H'' hi ⟨e,hx⟩=>?_⟩
 subst e
 refine ⟨Same.refl _,.int (lo + i),?_,hx⟩
 rw [l] at hi
 simp [Pu.upTo,List.getElem?_range hi]
def Its (x:Str):It:=⟨fun i _=>i < x.cps.size,fun i H v H'=>H' = H /\ ∃ c,x.cps[i]? = some c /\ v = .str ⟨#[c]⟩,fun i _=>i = x.cps.size⟩
theorem walk_str {x:Str} {K:PySem.W.Frag}:Walk K (Its x) H (chars x):=by
 intro H' sm
 have l:(chars x).length = x.cps.size:=by simp [chars]
 refine ⟨fun i hi=>by rw [l] at hi; exact hi,l,fun i v H'' hi ⟨e,c,hc,hv⟩=>?_⟩
 subst e
 refine ⟨Same.refl _,.str ⟨#[c]⟩,?_,hv⟩
 unfold chars
 rw [List.getElem?_map,Array.getElem?_toList,hc]
 rfl
theorem strWalks {P:Program} {w:World} {A:Around} (hh:A.handled = none) (I:Addr) (x:Str) (t:Tok):Walks P w A I [I] [I] x.cps.size (SignAt x) (fun i h=>h.IsStrIter I (strIterType x) x t i):=by
 cases ha:x.cps.all (· < 128)
 ·rw [show strIterType x = "str_iterator" by simp [strIterType,ha]]; exact Walks.strWide hh I x t
 ·rw [show strIterType x = "str_ascii_iterator" by simp [strIterType,ha]]; exact Walks.strAscii hh I x t
theorem turn_str {P:Program} {w:World} {K:PySem.W.Frag} {y:Str} {px:Pos} (x:Str) (t:Tok) (I:Addr):Turn P w K (.Name y px) (Its x) [I] I (fun i h=>h.IsStrIter I (strIterType x) x t i) where
 mem:=by simp
 obj:=fun i h st b hb=>by
  have e:b = I:=by simpa using hb
  subst e
  obtain ⟨o,h1,_,h3⟩:=st
  exact ⟨o,h1,fun v q=>by rw [h3] at q; cases q⟩
 keep:=fun i h h' st k=>let ⟨o,h1,h2⟩:=st; ⟨o,k I (by simp) o h1,h2⟩
 item:=by
  intro X hP hw hK hc i pins s σ H E Iv hf st hg
  subst hP hw hK
  refine (strWalks (Iv.ok.hd hc) I x t).item i s _ _ hg st fun v h' tk hv st' kk=>?_
  obtain ⟨c,u,hcc,rfl⟩:=hv
  have I1:L2.Inv X pins σ H { s with heap:=h',toks:=tk }:=turned_all Iv hf fun b o hb e=>kk b o hb e
  exact ⟨_,rfl,wpAny_pure ⟨.str ⟨#[c]⟩,H,I1,⟨u,rfl⟩,⟨rfl,c,hcc,rfl⟩,st',fun b hb=>(hf b hb).1⟩⟩
 done:=by
  intro X hP hw hK hc i pins s σ H E Iv hf st hg
  subst hP hw hK
  have e:i = x.cps.size:=hg
  subst e
  exact (strWalks (Iv.ok.hd hc) I x t).done s _ _ st fun h' tk kk=>⟨rfl,turned_all Iv hf fun b o hb e=>kk b o hb e⟩
 self:=fun A i s Q E st h=>by
  cases ha:x.cps.all (· < 128)
  ·rw [show strIterType x = "str_iterator" by simp [strIterType,ha]] at st; exact wpAny_pyIter_striter_wide st h
  ·rw [show strIterType x = "str_ascii_iterator" by simp [strIterType,ha]] at st; exact wpAny_pyIter_striter_ascii st h
end
theorem ok_lst {K:PySem.W.Frag} {a:Addr}:ItOk (Itl K a):=fun L i H x H' _ ⟨e,h⟩=>⟨by rw [e],fun xs q=>h xs (hid_same.seq q)⟩
theorem ok_tup {K:PySem.W.Frag} {a:Addr}:ItOk (Itt K a):=fun L i H x H' _ ⟨e,h⟩=>⟨by rw [e],fun xs q=>h xs (SqT.same hid_same q)⟩
theorem ok_range {lo:Int} {n:Nat}:ItOk (Itr lo n):=fun L i H x H' _ ⟨e,h⟩=>⟨by rw [e],h⟩
theorem ok_str {x:Str}:ItOk (Its x):=fun L i H v H' _ ⟨e,h⟩=>⟨by rw [e],h⟩
theorem not_mem_of_free {L:List Addr} {H:Hp} {T:Addr} (hL:Ows L H) (h:H T = none):T ∉ L:=fun hm=>by
 obtain ⟨o,e,_⟩:=hL T hm
 rw [h] at e; cases e
theorem ok_enum {K:PySem.W.Frag} {t:Bool} {a:Addr}:ItOk (Ite K t a):=fun L i H x H' hL ⟨T,v,h1,h2,h3,h4⟩=>by
 have hT:=not_mem_of_free hL h1
 exact ⟨T,v,by rw [hid_in hT]; exact h1,h2,by rw [h3,hid_upd hT],fun xs q=>h4 xs (Sq.same hid_same q)⟩
theorem ok_zip {K:PySem.W.Frag} {t1 t2:Bool} {a b:Addr}:ItOk (Itz K t1 t2 a b):=fun L i H x H' hL ⟨T,u,v,h1,h2,h3,h4,h5⟩=>by
 have hT:=not_mem_of_free hL h1
 exact ⟨T,u,v,by rw [hid_in hT]; exact h1,h2,by rw [h3,hid_upd hT],fun xs q=>h4 xs (Sq.same hid_same q),fun xs q=>h5 xs (Sq.same hid_same q)⟩
section
variable {X:Cx} {call:CallD} {G:Gw} {N:List Str} {nm:List (Str × NameKind)} {a b l:Expr} {p pa pb:Px} {pos p1:Pos} {tg:Expr}
theorem pW_val {y:Str} {px:Pos} (hl:PE X l (tI X call p)):PI X (.Name y px) l (tW X call (.walk p)):=by
 intro pins s σ H R I ⟨env,r,h⟩
 simp only [evD] at h
 refine thn (hl pins s σ H (fun v H'=>∃ d ds,Rep X.K H' d v /\ d.walk = .ok ds /\ Same H H' /\ ∀ J H2,Same H H2 -> Walk X.K J H2 ds -> ItOk J -> R J H2) I ⟨env,r,(Rs.good_bind.mp h).imp fun d hd v H' s1 rv=>?_⟩) fun v s1 ⟨x,H1,I1,r1,d,ds,rd,hw,s2,hR⟩=>?_
 ·cases q:d.walk with
  | ok ds=>
   rw [q] at hd
   obtain ⟨ds',e,hR⟩:=hd
   cases e
   exact ⟨d,ds,rv,q,s1,hR⟩
  | ex c=>exact (walk_ex q).elim
  | stuck=>rw [q] at hd; exact hd.elim
 cases d with
 | tup es=>
  cases hw
  obtain ⟨a,xs,rfl,h1,h2⟩:=rd
  cases r1
  obtain ⟨its,rv,pt,hz⟩:=I1.tuple h1
  refine wpAny_pyIter_tuple (show s1.heap.IsTuple a its.toArray from pt) ⟨s1.heap.objs.size,[s1.heap.objs.size],_,_,H1,rfl,I1.kept (t':=s1.toks) fun b o e=>Heap.get?_push_of_some _ e,turn_tuple a _,⟨_,Heap.get?_push_size _ rfl,rfl,rfl⟩,fun b hb=>?_,hR _ _ s2 (walk_tup h1 h2 fun _ _ _ _=>trivial) ok_tup⟩
  have e:b = s1.heap.objs.size:=by simpa using hb
  subst e; exact I1.fpOk (Nat.le_refl _) (I1.hok.fresh (Nat.le_refl _))
 | lst es=>
  cases hw
  obtain ⟨a,xs,rfl,h1,h2⟩:=rd
  cases r1
  obtain ⟨its,rv,pt,hz⟩:=I1.list h1
  refine wpAny_pyIter_list pt.isList ⟨s1.heap.objs.size,[s1.heap.objs.size],_,_,H1,rfl,I1.kept (t':=s1.toks) fun b o e=>Heap.get?_push_of_some _ e,turn_list a _,⟨_,Heap.get?_push_size _ rfl,rfl,rfl⟩,fun b hb=>?_,hR _ _ s2 (walk_lst h1 h2) ok_lst⟩
  have e:b = s1.heap.objs.size:=by simpa using hb
  subst e; exact I1.fpOk (Nat.le_refl _) (I1.hok.fresh (Nat.le_refl _))
 | str z=>
  cases hw
  have hx:x = V.str z:=rd
  subst hx
  obtain ⟨t,rfl⟩:=r1
  refine wpAny_pyIter_strU ⟨s1.heap.objs.size,[s1.heap.objs.size],_,_,H1,rfl,I1.kept (t':=s1.toks) fun b o e=>Heap.get?_push_of_some _ e,turn_str z t _,⟨_,Heap.get?_push_size _ rfl,rfl,rfl⟩,fun b hb=>?_,hR _ _ s2 walk_str ok_str⟩
  have e:b = s1.heap.objs.size:=by simpa using hb
  subst e; exact I1.fpOk (Nat.le_refl _) (I1.hok.fresh (Nat.le_refl _))
 | _=>cases hw
theorem pW_valT {elts:List Expr} {k:Nat} {tp:Pos} (hl:PE X l (tI X call p)):PI X (.Tuple elts k tp) l (tW X call (.walk (.un .rows p))):=by
 intro pins s σ H R I ⟨env,r,h⟩
 simp only [evD,Rs.bind_assoc] at h
 refine thn (hl pins s σ H (fun v H'=>∃ d ds,Rep X.K H' d v /\ (d = .tup ds \/ d = .lst ds) /\ Same H H' /\ ∀ J H2,Same H H2 -> Walk X.K J H2 ds -> ItOk J -> R J H2) I ⟨env,r,(Rs.good_bind.mp h).imp fun d hd v H' s1 rv=>?_⟩) fun v s1 ⟨x,H1,I1,r1,d,ds,rd,hw,s2,hR⟩=>?_
 ·cases d with
  | tup ds=>
   obtain ⟨ds',e,hR⟩:=hd
   cases e
   exact ⟨_,ds,rv,.inl rfl,s1,hR⟩
  | lst ds=>
   obtain ⟨ds',e,hR⟩:=hd
   cases e
   exact ⟨_,ds,rv,.inr rfl,s1,hR⟩
  | _=>exact (show False from hd).elim
 rcases hw with rfl | rfl
 ·obtain ⟨a,xs,rfl,h1,h2⟩:=rd
  cases r1
  obtain ⟨its,rv,pt,hz⟩:=I1.tuple h1
  refine wpAny_pyIter_tuple (show s1.heap.IsTuple a its.toArray from pt) ⟨s1.heap.objs.size,[s1.heap.objs.size],_,_,H1,rfl,I1.kept (t':=s1.toks) fun b o e=>Heap.get?_push_of_some _ e,turn_tuple a _,⟨_,Heap.get?_push_size _ rfl,rfl,rfl⟩,fun b hb=>?_,hR _ _ s2 (walk_tup h1 h2 fun _ _ _ _=>trivial) ok_tup⟩
  have e:b = s1.heap.objs.size:=by simpa using hb
  subst e; exact I1.fpOk (Nat.le_refl _) (I1.hok.fresh (Nat.le_refl _))
 ·obtain ⟨a,xs,rfl,h1,h2⟩:=rd
  cases r1
  obtain ⟨its,rv,pt,hz⟩:=I1.list h1
  refine wpAny_pyIter_list pt.isList ⟨s1.heap.objs.size,[s1.heap.objs.size],_,_,H1,rfl,I1.kept (t':=s1.toks) fun b o e=>Heap.get?_push_of_some _ e,turn_list a _,⟨_,Heap.get?_push_size _ rfl,rfl,rfl⟩,fun b hb=>?_,hR _ _ s2 (walk_lst h1 h2) ok_lst⟩
  have e:b = s1.heap.objs.size:=by simpa using hb
  subst e; exact I1.fpOk (Nat.le_refl _) (I1.hok.fresh (Nat.le_refl _))
theorem pW_range1 (C:Ctx X G N nm) (ha:PE X a (tI X call pa)) (hg:gloB nm "range" = true) (hm:G.mg "range" = none) (hs:starEach [a] X.env = [(false,eval a X.env)]:=by rfl):PI X tg (.Call (.Name "range" p1) [a] [] pos) (tW X call (.un .range pa)):=by
 intro pins s σ H R I ⟨env,r,h⟩
 simp only [evD] at h
 refine pi_range1 (C.glo _ hg) (by rw [C.mg]; exact hm) (pA_cons (call:=call) ha pA_nil hs) hs pins s σ H R I ⟨env,r,?_⟩
 simp only [evD]
 refine Rs.good_bind.mpr ((Rs.good_bind.mp h).imp fun d hd=>?_)
 cases d with
 | int i=>
  simp only [op1] at hd
  split at hd
  ·rename_i hz
   simp only [midI,Bool.and_eq_true,decide_eq_true_eq] at hz
   obtain ⟨ds',e,hR⟩:=hd
   cases e
   refine ⟨[.int i],rfl,fun vs H' s1 rs=>?_⟩
   obtain ⟨v,r',e1,h1,h2⟩:=rs
   cases h2; cases h1; subst e1
   exact ⟨i,rfl,hz.1,hz.2,hR _ _ s1 walk_range ok_range⟩
  ·exact hd.elim
 | _=>exact (show False from hd).elim
theorem pW_enum {elts:List Expr} {k:Nat} {tp:Pos} (C:Ctx X G N nm) (ha:PE X a (tI X call pa)) (hg:gloB nm "enumerate" = true) (hm:G.mg "enumerate" = none) (hs:starEach [a] X.env = [(false,eval a X.env)]:=by rfl) :
  PI X (.Tuple elts k tp) (.Call (.Name "enumerate" p1) [a] [] pos) (tW X call (.un .enum pa)):=by
 intro pins s σ H R I ⟨env,r,h⟩
 simp only [evD] at h
 refine Call_ (ld_blt I (C.glo _ hg) (by rw [C.mg]; exact hm) boot_enumerate (PyProof.Rows.callWith_type1 (thn (pA_cons (call:=call) ha pA_nil hs pos pins s σ H (fun vs H'=>∃ d ds v,vs = [v] /\ Rep X.K H' d v /\ (d = .tup ds \/ d = .lst ds) /\ Same H H' /\ ∀ J H2,Same H H2 -> Walk X.K J H2 (enumFrom 0 ds) -> ItOk J -> R J H2) I ⟨env,r,?_⟩) fun us s1 ⟨vs,H1,I1,r1,d,ds,v,e1,rd,hw,s2,hR⟩=>?_) hs rfl))
 ·simp only [evD]
  refine Rs.good_bind.mpr ((Rs.good_bind.mp h).imp fun d hd=>?_)
  refine ⟨[d],rfl,fun vs H' s1 rs=>?_⟩
  obtain ⟨v,r',e1,h1,h2⟩:=rs
  cases h2; subst e1
  cases d with
  | tup ds=>
   obtain ⟨ds',e,hR⟩:=hd
   cases e
   exact ⟨_,ds,v,rfl,h1,.inl rfl,s1,hR⟩
  | lst ds=>
   obtain ⟨ds',e,hR⟩:=hd
   cases e
   exact ⟨_,ds,v,rfl,h1,.inr rfl,s1,hR⟩
  | _=>exact (show False from hd).elim
 subst e1
 obtain ⟨t,l,xs,rfl,q1,q2⟩:=rep_sq rd hw
 obtain ⟨u,rfl,ru⟩:=vals1 r1
 cases ru
 obtain ⟨its,rv,pt,hz⟩:=sq_here I1 q1
 refine call_enum pt fun h' he hit kp=>wpAny_pyIter_enum he ⟨s1.heap.objs.size + 1,[s1.heap.objs.size + 1,s1.heap.objs.size],_,_,H1,rfl,I1.kept (t':=s1.toks) kp,turn_enum t l s1.heap.objs.size (s1.heap.objs.size + 1) (Nat.succ_ne_self _),⟨⟨_,he⟩,hit⟩,fun b hb=>?_,hR _ _ s2 (walk_enum I1 q1 q2) ok_enum⟩
 have hb':s1.heap.objs.size <= b:=by
  simp only [List.mem_cons,List.not_mem_nil,or_false] at hb
  rcases hb with rfl | rfl
  ·exact Nat.le_succ _
  ·exact Nat.le_refl _
 exact I1.fpOk hb' (I1.hok.fresh hb')
theorem pW_zip {elts:List Expr} {k:Nat} {tp:Pos} (C:Ctx X G N nm) (ha:PE X a (tI X call pa)) (hb:PE X b (tI X call pb)) (hg:gloB nm "zip" = true) (hm:G.mg "zip" = none) (hs:starEach [a,b] X.env = (false,eval a X.env) :: starEach [b] X.env:=by rfl)
  (hs2:starEach [b] X.env = [(false,eval b X.env)]:=by rfl):PI X (.Tuple elts k tp) (.Call (.Name "zip" p1) [a,b] [] pos) (tW X call (.bi .zip pa pb)):=by
 intro pins s σ H R I ⟨env,r,h⟩
 simp only [evD] at h
 refine Call_ (ld_blt I (C.glo _ hg) (by rw [C.mg]; exact hm) boot_zip (PyProof.Rows.callWith_type1 (thn (pA_cons (call:=call) ha (pA_cons hb pA_nil hs2) hs pos pins s σ H (fun vs H'=>∃ d ds v d' es v',vs = [v,v'] /\ Rep X.K H' d v /\ (d = .tup ds \/ d = .lst ds) /\ Rep X.K H' d' v' /\ (d' = .tup es \/ d' = .lst es) /\ Same H H' /\ ∀ J H2,Same H H2 -> Walk X.K J H2 (zipD ds es) -> ItOk J -> R J H2) I ⟨env,r,?_⟩)
  fun us s1 ⟨vs,H1,I1,r1,d,ds,v,d',es,v',e1,rd,hw,rd',hw',s2,hR⟩=>?_) hs (by rw [hs2]; rfl)))
 ·simp only [evD]
  refine Rs.good_bind.mpr ((Rs.good_bind.mp h).imp fun d hd=>?_)
  refine Rs.good_bind.mpr ((Rs.good_bind.mpr ((Rs.good_bind.mp hd).imp fun d' hd'=>?_)))
  refine ⟨[d,d'],rfl,fun vs H' s1 rs=>?_⟩
  obtain ⟨v,r',e1,h1,v',r'',e2,h2,h3⟩:=rs
  cases h3; subst e2; subst e1
  cases d <;> cases d' <;> first
   | exact (show False from hd').elim
   | (obtain ⟨ds',e,hR⟩:=hd'; cases e; exact ⟨_,_,v,_,_,v',rfl,h1,.inl rfl,h2,.inl rfl,s1,hR⟩)
   | (obtain ⟨ds',e,hR⟩:=hd'; cases e; exact ⟨_,_,v,_,_,v',rfl,h1,.inl rfl,h2,.inr rfl,s1,hR⟩)
   | (obtain ⟨ds',e,hR⟩:=hd'; cases e; exact ⟨_,_,v,_,_,v',rfl,h1,.inr rfl,h2,.inl rfl,s1,hR⟩)
   | (obtain ⟨ds',e,hR⟩:=hd'; cases e; exact ⟨_,_,v,_,_,v',rfl,h1,.inr rfl,h2,.inr rfl,s1,hR⟩)
 subst e1
 obtain ⟨t,l,xs,rfl,q1,q2⟩:=rep_sq rd hw
 obtain ⟨t',l',ys,rfl,q3,q4⟩:=rep_sq rd' hw'
 obtain ⟨u,u',rfl,ru,ru'⟩:=vals2 r1
 cases ru; cases ru'
 obtain ⟨its,rv,pt,hz⟩:=sq_here I1 q1
 obtain ⟨its2,rv2,pt2,hz2⟩:=sq_here I1 q3
 have ap:Apart (s1.heap.objs.size + 4) (s1.heap.objs.size + 2) (s1.heap.objs.size + 3) s1.heap.objs.size (s1.heap.objs.size + 1):=⟨by simp [List.nodup_cons]⟩
 refine call_zipW pt pt2 fun h' st kp=>wpAny_pyIter_zip st.1 ⟨s1.heap.objs.size + 4,_,_,_,H1,rfl,I1.kept (t':=s1.toks) kp,turn_zip t t' l l' _ _ _ _ _ ap,st,fun b hb=>?_,hR _ _ s2 (walk_zip I1 q1 q2 q3 q4) ok_zip⟩
 have hb':s1.heap.objs.size <= b:=by
  simp only [List.mem_cons,List.not_mem_nil,or_false] at hb
  rcases hb with rfl | rfl | rfl | rfl | rfl <;> first | exact Nat.le_refl _ | exact Nat.le_add_right _ _
 exact I1.fpOk hb' (I1.hok.fresh hb')
end
end Rd
namespace Rd
open PySem PySem.Spec PyProof.Rows L2 Pu
def uni (L:List Addr) (H H1:Hp):Hp:=fun a=>if a ∈ L then H a else H1 a
section
variable {L L':List Addr} {H H' H1:Hp} {a:Addr} {o:HO}
theorem uni_in (h:a ∉ L):uni L H H1 a = H1 a:=by unfold uni; rw [if_neg h]
theorem uni_out (h:a ∈ L):uni L H H1 a = H a:=by unfold uni; rw [if_pos h]
theorem hid_uni (h:∀ a ∈ L,H1 a = none):hid L (uni L H H1) = H1:=by
 funext a
 by_cases q:a ∈ L
 ·rw [hid_out q,h a q]
 ·rw [hid_in q,uni_in q]
theorem uni_same (s:Same (hid L H) H1):Same H (uni L H H1):=fun a o h=>by
 by_cases q:a ∈ L
 ·rw [uni_out q]; exact h
 ·rw [uni_in q]; exact s a o (by rw [hid_in q]; exact h)
theorem Ows.tup {K:PySem.W.Frag} (h:Ows L H):Tups K H (hid L H):=by
 have nin:∀ b o,H b = some o -> ¬ Chgb o -> b ∉ L:=fun b o e nc hm=>by
  obtain ⟨u,e1,c⟩:=h b hm
  rw [e] at e1; cases e1; exact nc c
 refine ⟨fun b xs q=>?_,fun b o u q=>by rw [hid_in (nin b _ q fun z=>z)]; exact q⟩
 rcases q with q | q
 ·exact .inl (by rw [hid_in (nin b _ q fun z=>z)]; exact q)
 ·exact .inr q
end
section
variable {X:Cx} {pins ps:List (Addr × Obj)} {σ σ':L2.St} {H H1:Hp} {s s':Shared} {L:List Addr}
theorem Inv.obj (I:L2.Inv X pins σ H s) {a:Addr} {o:HO} (h:H a = some o) (hc:Chgb o):∃ ob,s.heap.get? a = some ob /\ ∀ v,ob.data ≠ .cell v:=by
 have:=I.hok a o h
 cases o with
 | lst xs=>obtain ⟨_,its,n,_,e⟩:=this; exact ⟨_,e,fun v z=>by cases z⟩
 | dK kvs=>obtain ⟨_,_,vs,_,ob,es,ep,e,c,d,_⟩:=this; exact ⟨ob,e,fun v z=>by rw [d] at z; cases z⟩
 | dT kvs=>obtain ⟨_,_,xs,_,ob,es,ep,e,c,d,_⟩:=this; exact ⟨ob,e,fun v z=>by rw [d] at z; cases z⟩
 | _=>exact hc.elim
theorem pins_for (I:L2.Inv X pins σ H s):∀ L,Ows L H -> ∃ ps:List (Addr × Obj),ps.map (·.1) = L /\ ∀ p ∈ ps,s.heap.get? p.1 = some p.2 /\ ∀ v,p.2.data ≠ .cell v
 | [],_=>⟨[],rfl,by simp⟩
 | a :: L,h=>by
  obtain ⟨o,e,c⟩:=h a (by simp)
  obtain ⟨ob,e1,e2⟩:=Inv.obj I e c
  obtain ⟨ps,e3,e4⟩:=pins_for I L fun b hb=>h b (by simp [hb])
  refine ⟨(a,ob) :: ps,by simp [e3],fun p hp=>?_⟩
  rcases List.mem_cons.mp hp with rfl | hp
  ·exact ⟨e1,e2⟩
  ·exact e4 p hp
theorem Inv.fsFree (I:L2.Inv X pins σ H s) {b:Addr} (hb:b ∈ X.fs):H b = none:=by
 obtain ⟨_,o,ho,_⟩:=I.ok.funs.mem hb
 exact I.base.free b o ho (I.ok.frf b hb) fun z=>I.ok.exfs b z hb
theorem Inv.hide (I:L2.Inv X pins σ H s) (hL:Ows L H):∃ ps:List (Addr × Obj),ps.map (·.1) = L /\ (∀ p ∈ ps,s.heap.get? p.1 = some p.2) /\ L2.Inv X (ps ++ pins) σ (hid L H) s:=by
 obtain ⟨ps,e1,e2⟩:=pins_for I L hL
 have hin:∀ p ∈ ps,p.1 ∈ L:=fun p hp=>by rw [<- e1]; exact List.mem_map_of_mem hp
 have nin:∀ b o,H b = some o -> ¬ Chgb o -> b ∉ L:=fun b o e nc hm=>by
  obtain ⟨u,e3,c⟩:=hL b hm
  rw [e] at e3; cases e3; exact nc c
 have hn:∀ b,H b = none -> hid L H b = none:=fun b e=>by unfold hid; split <;> first | rfl | exact e
 refine ⟨ps,e1,fun p hp=>(e2 p hp).1,?_⟩
 exact {
  ok:=I.ok,os:=I.os,bare:=I.bare
  base:=⟨I.base.keep,I.base.slot,fun b o q n x=>hn b (I.base.free b o q n x),I.base.there,fun b xs q=>by
    have:=I.base.tups b xs q
    rw [hid_in (nin b _ this fun z=>z)]; exact this,
   fun b o u q=>by
    have:=I.base.frzs b o u q
    rw [hid_in (nin b _ this fun z=>z)]; exact this,
   fun b qs q=>by
    obtain ⟨m,this⟩:=I.base.tbls b qs q
    exact ⟨m,by rw [hid_in (nin b _ this fun z=>z)]; exact this⟩⟩
  loc:=I.loc,cell:=I.cell,free:=hn _ I.free,freeC:=fun x c e=>hn _ (I.freeC x c e)
  pin:=fun p hp=>by
   have hp':p ∈ ps \/ p ∈ X.pn ++ pins:=by
    simp only [List.mem_append] at hp ⊢
    rcases hp with h | h | h
    ·exact .inr (.inl h)
    ·exact .inl h
    ·exact .inr (.inr h)
   rcases hp' with hp | hp
   ·obtain ⟨o,e3,_⟩:=hL p.1 (hin p hp)
    refine ⟨(e2 p hp).1,hid_out (hin p hp),fun z=>?_,fun z=>?_,(e2 p hp).2⟩
    ·rw [z,I.free] at e3; cases e3
    ·rw [Inv.fsFree I z] at e3; cases e3
   ·obtain ⟨q1,q2,q3⟩:=I.pin p hp
    exact ⟨q1,hn _ q2,q3⟩
  hok:=fun a o e=>by
   obtain ⟨h1,h2⟩:=hid_some e
   exact (I.hok a o h2).stay (fun _ _ _ q=>q) (fun b q=>by rw [hid_in (nin b _ q fun z=>z)]; exact q) fun b xs q=>by rw [hid_in (nin b _ q fun z=>z)]; exact q
  len:=I.len }
theorem Inv.unhide (I:L2.Inv X pins σ H s) (hL:Ows L H) (e1:ps.map (·.1) = L) (e2:∀ p ∈ ps,s.heap.get? p.1 = some p.2) (sm:Same (hid L H) H1) (I':L2.Inv X (ps ++ pins) σ' H1 s'):(∀ a ∈ L,H1 a = none) /\ L2.Inv X pins σ' (uni L H H1) s':=by
 have nin:∀ b o,H b = some o -> ¬ Chgb o -> b ∉ L:=fun b o e nc hm=>by
  obtain ⟨u,e3,c⟩:=hL b hm
  rw [e] at e3; cases e3; exact nc c
 have pinL:∀ a ∈ L,∃ ob,s.heap.get? a = some ob /\ s'.heap.get? a = some ob /\ H1 a = none:=fun a ha=>by
  rw [<- e1] at ha
  obtain ⟨p,hp,rfl⟩:=List.mem_map.mp ha
  obtain ⟨q1,q2,_⟩:=I'.pin p (by simp [hp])
  exact ⟨p.2,e2 p hp,q1,q2⟩
 have hnL:∀ b,H b = none -> b ∉ L:=fun b e hm=>by
  obtain ⟨o,e3,_⟩:=hL b hm
  rw [e] at e3; cases e3
 have tp:∀ b xs,H b = some (.tup xs) -> uni L H H1 b = some (.tup xs):=fun b xs q=>by
  have hb:=nin b _ q fun z=>z
  rw [uni_in hb]; exact sm b _ (by rw [hid_in hb]; exact q)
 refine ⟨fun a ha=>let ⟨_,_,_,h⟩:=pinL a ha; h,?_⟩
 exact {
  ok:=I.ok,os:=I'.os,bare:=I'.bare
  base:=⟨I'.base.keep,I'.base.slot,fun b o q n x=>by rw [uni_in (hnL b (I.base.free b o q n x))]; exact I'.base.free b o q n x,I'.base.there,
   fun b xs q=>by rw [uni_in (nin b _ (I.base.tups b xs q) fun z=>z)]; exact I'.base.tups b xs q,
   fun b o u q=>by rw [uni_in (nin b _ (I.base.frzs b o u q) fun z=>z)]; exact I'.base.frzs b o u q,
   fun b qs q=>by
    obtain ⟨m,this⟩:=I.base.tbls b qs q
    rw [uni_in (nin b _ this fun z=>z)]; exact I'.base.tbls b qs q⟩
  loc:=I'.loc,cell:=I'.cell
  free:=by rw [uni_in (hnL _ I.free)]; exact I'.free
  freeC:=fun x c e=>by rw [uni_in (hnL _ (I.freeC x c e))]; exact I'.freeC x c e
  pin:=fun p hp=>by
   obtain ⟨q1,q2,q3⟩:=I'.pin p (by
    simp only [List.mem_append] at hp ⊢
    rcases hp with h | h
    ·exact .inl h
    ·exact .inr (.inr h))
   exact ⟨q1,by rw [uni_in (hnL _ (I.pin p hp).2.1)]; exact q2,q3⟩
  hok:=fun a o e=>by
   by_cases ha:a ∈ L
   ·rw [uni_out ha] at e
    obtain ⟨u,e3,hc⟩:=hL a ha
    rw [e] at e3; cases e3
    obtain ⟨ob,h1,h2,_⟩:=pinL a ha
    have:=I.hok a o e
    have tr:∀ {x:Obj},s.heap.get? a = some x -> s'.heap.get? a = some x:=fun {x} q=>by rw [h1] at q; cases q; exact h2
    cases o with
    | lst xs=>obtain ⟨z,its,n,r,q⟩:=this; exact ⟨z,its,n,r,tr q⟩
    | dK kvs=>obtain ⟨z,y,vs,r,ob,es,ep,q,c⟩:=this; exact ⟨z,y,vs,r,ob,es,ep,tr q,c⟩
    | dT kvs=>obtain ⟨z,y,xs,r,ob,es,ep,q,c⟩:=this; exact ⟨z,y,xs,Paired.mapP r fun p q z=>⟨z.1,tp _ _ z.2.1,z.2.2⟩,ob,es,ep,tr q,c⟩
    | _=>exact hc.elim
   ·rw [uni_in ha] at e
    have nz:∀ b o,H1 b = some o -> b ∉ L:=fun b o q hm=>by
     obtain ⟨_,_,_,h⟩:=pinL b hm
     rw [q] at h; cases h
    exact (I'.hok a o e).stay (fun _ _ _ q=>q) (fun b q=>by rw [uni_in (nz b _ q)]; exact q) fun b xs q=>by rw [uni_in (nz b _ q)]; exact q
  len:=I'.len }
end
def OutH (X:Cx) (L:List Addr) (H:Hp) (Q:VK) (d:D):Prop:=∀ v H',Same H H' -> (∀ a ∈ L,H' a = H a) -> Rep X.K (hid L H') d v -> Q v H'
def tH (X:Cx) (call:CallD) (p:Px):TE:=fun σ H Q=>∃ env L,Ows L H /\ ReadOk X.K (hid L H) σ env /\ (evD call p env).Good (OutH X L H Q) (XW X (hid L H))
def OutFH (X:Cx) (L:List Addr) (H:Hp) (Q:VK) (d:D):Prop:=∃ ds,d = .lst ds /\ ∀ l xs H',Same H H' -> (∀ a ∈ L,H' a = H a) -> H l = none -> H' l = some (.lst xs) -> Reps X.K (hid L H') ds xs -> Q (.ref l) H'
def tFH (X:Cx) (call:CallD) (p:Px):TE:=fun σ H Q=>∃ env L,Ows L H /\ ReadOk X.K (hid L H) σ env /\ (evD call p env).Good (OutFH X L H Q) (XW X (hid L H))
section
variable {X:Cx} {call:CallD} {e:Expr} {p:Px}
theorem pe_hid (he:PE X e (tI X call p)):PE X e (tH X call p):=by
 intro pins s σ H Q I ⟨env,L,hL,r,h⟩
 obtain ⟨ps,e1,e2,I'⟩:=Inv.hide I hL
 refine wpAny_mono (he (ps ++ pins) s σ (hid L H) (fun v H1=>Same (hid L H) H1 /\ ((∀ a ∈ L,H1 a = none) -> Q v (uni L H H1))) I' ⟨env,r,h.mono (fun d hd v H1 s1 rv=>⟨s1,fun hn=>hd v _ (uni_same s1) (fun a ha=>uni_out ha) ?_⟩) fun c z=>z⟩)
  (fun u s1 ⟨v,H1,I1,rv,sm,q⟩=>?_) fun _ _ z=>z
 ·rw [hid_uni hn]; exact rv
 ·obtain ⟨hn,I2⟩:=Inv.unhide I hL e1 e2 sm I1
  exact ⟨v,_,I2,rv,q hn⟩
end
def tWH (X:Cx) (call:CallD) (p:Px):TI:=fun σ H R=>∃ env L,Ows L H /\ ReadOk X.K (hid L H) σ env /\ (evD call p env).Good (fun d=>∃ ds,d = .lst ds /\ ∀ J H',Same H H' -> (∀ a ∈ L,H' a = H a) -> Walk X.K J (hid L H') ds -> ItOk J -> R J H') (XW X (hid L H))
section
variable {X:Cx} {call:CallD} {tg iter:Expr} {p:Px}
theorem pi_hid (hi:PI X tg iter (tW X call p)):PI X tg iter (tWH X call p):=by
 intro pins s σ H R I ⟨env,L,hL,r,h⟩
 obtain ⟨ps,e1,e2,I'⟩:=Inv.hide I hL
 refine wpAny_mono (hi (ps ++ pins) s σ (hid L H) (fun J H1=>Same (hid L H) H1 /\ ((∀ a ∈ L,H1 a = none) -> R J (uni L H H1))) I' ⟨env,r,h.mono (fun d ⟨ds,ed,hd⟩=>⟨ds,ed,fun J H1 s1 w ok=>⟨s1,fun hn=>hd J _ (uni_same s1) (fun a ha=>uni_out ha) ?_ ok⟩⟩) fun c z=>z⟩)
  (fun v s1 q1=>wpAny_mono q1 (fun itv s2 ⟨it,fp,tn,J,H1,e3,I1,T,t0,hf,sm,q⟩=>?_) fun _ _ z=>z) fun _ _ z=>z
 ·rw [hid_uni hn]; exact w
 ·obtain ⟨hn,I2⟩:=Inv.unhide I hL e1 e2 sm I1
  refine ⟨it,fp,tn,J,_,e3,I2,T,t0,fun b hb=>?_,q hn⟩
  obtain ⟨f0,f1,f2,f3,f4,f5⟩:=hf b hb
  have hbL:b ∉ L:=fun hm=>by
   rw [<- e1] at hm
   obtain ⟨p,hp,rfl⟩:=List.mem_map.mp hm
   exact f5 p (by simp [hp]) rfl
  exact ⟨by rw [uni_in hbL]; exact f0,f1,f2,f3,f4,fun p hp=>f5 p (by
   simp only [List.mem_append] at hp ⊢
   rcases hp with h | h
   ·exact .inl h
   ·exact .inr (.inr h))⟩
end
end Rd
namespace Rd
open PySem PySem.Spec PyProof.Rows L2 Pu
def owA (env:Fm) (σ:L2.St) (i:Nat):Option Addr:=match env[i]?,σ[i]? with
 | some (some _),some (some (.ref l))=>some l
 | _,_=>none
def Ow (M:List Nat) (env:Fm) (σ:L2.St):List Addr:=M.filterMap (owA env σ)
theorem owA_iff {env:Fm} {σ:L2.St} {i:Nat} {l:Addr}:owA env σ i = some l ↔ ∃ d,env[i]? = some (some d) /\ σ[i]? = some (some (.ref l)):=by
 unfold owA
 constructor
 ·intro h
  split at h
  ·rename_i d m h1 h2; cases h; exact ⟨d,h1,h2⟩
  ·cases h
 ·rintro ⟨d,h1,h2⟩
  rw [h1,h2]
theorem mem_Ow {M:List Nat} {env:Fm} {σ:L2.St} {l:Addr}:l ∈ Ow M env σ ↔ ∃ i ∈ M,∃ d,env[i]? = some (some d) /\ σ[i]? = some (some (.ref l)):=by
 unfold Ow
 rw [List.mem_filterMap]
 constructor
 ·rintro ⟨i,hi,h⟩; exact ⟨i,hi,owA_iff.mp h⟩
 ·rintro ⟨i,hi,h⟩; exact ⟨i,hi,owA_iff.mpr h⟩
theorem Ow_congr {M:List Nat} {env env':Fm} {σ σ':L2.St} (h:∀ i ∈ M,owA env σ i = owA env' σ' i):Ow M env σ = Ow M env' σ':=by
 unfold Ow
 induction M with
 | nil=>rfl
 | cons i M ih=>simp only [List.filterMap_cons,h i (.head _),ih fun j hj=>h j (.tail _ hj)]
theorem owA_set {env:Fm} {σ:L2.St} {i j:Nat} {s:Option D} {t:Option V} (h:j ≠ i):owA (env.set i s) (σ.set i t) j = owA env σ j:=by
 unfold owA
 rw [List.getElem?_set_ne (Ne.symm h),List.getElem?_set_ne (Ne.symm h)]
theorem Ow_set {M:List Nat} {env:Fm} {σ:L2.St} {i:Nat} {s:Option D} {t:Option V} (h:i ∉ M):Ow M (env.set i s) (σ.set i t) = Ow M env σ:=Ow_congr fun j hj=>owA_set fun e=>h (e ▸ hj)
def OwnIs (K:PySem.W.Frag) (Hh H:Hp) (l:Addr):D -> Prop
 | .lst ds=>∃ xs,H l = some (.lst xs) /\ Reps K Hh ds xs
 | .dct t z ks vs=>z = false /\ ∃ xs,DK H l t false ks xs /\ Reps K Hh vs xs
 | _=>False
theorem OwnIs.mono {K:PySem.W.Frag} {Hh Hh' H H':Hp} {l:Addr} {d:D} (h:OwnIs K Hh H l d) (e:Same Hh Hh') (k:∀ o,H l = some o -> H' l = some o):OwnIs K Hh' H' l d:=by
 cases d with
 | lst ds=>obtain ⟨xs,h1,h2⟩:=h; exact ⟨xs,k _ h1,h2.mono e⟩
 | dct t z ks vs=>obtain ⟨hz,xs,h1,h2⟩:=h; exact ⟨hz,xs,h1.mono k,h2.mono e⟩
 | _=>exact h.elim
theorem OwnIs.chg {K:PySem.W.Frag} {Hh H:Hp} {l:Addr} {d:D} (h:OwnIs K Hh H l d):∃ o,H l = some o /\ Chgb o:=by
 cases d with
 | lst ds=>obtain ⟨xs,h1,h2⟩:=h; exact ⟨_,h1,trivial⟩
 | dct t z ks vs=>
  obtain ⟨hz,xs,h1,h2⟩:=h
  cases t <;> obtain ⟨kvs,h3,_⟩:=h1
  ·exact ⟨_,h3,trivial⟩
  ·exact ⟨_,h3,trivial⟩
 | _=>exact h.elim
theorem OwnIs.rep {K:PySem.W.Frag} {Hh H:Hp} {l:Addr} {d:D} (h:OwnIs K Hh H l d) (e:Same Hh H):Rep K H d (.ref l):=by
 cases d with
 | lst ds=>obtain ⟨xs,h1,h2⟩:=h; exact ⟨l,xs,rfl,SqL.of h1,h2.mono e⟩
 | dct t z ks vs=>obtain ⟨rfl,xs,h1,h2⟩:=h; exact ⟨l,xs,rfl,h1,h2.mono e⟩
 | _=>exact h.elim
structure EnvOk (K:PySem.W.Frag) (M:List Nat) (H0 H:Hp) (σ:L2.St) (env:Fm):Prop where
 same:Same H0 H
 len:σ.length = env.length
 read:∀ (i:Nat) (d:D),i ∉ M -> env[i]? = some (some d) -> ∃ v,σ[i]? = some (some v) /\ Rep K (hid (Ow M env σ) H) d v
 own:∀ (i:Nat) (d:D),i ∈ M -> env[i]? = some (some d) -> ∃ l,σ[i]? = some (some (.ref l)) /\ H0 l = none /\ OwnIs K (hid (Ow M env σ) H) H l d
 apart:∀ (i j:Nat) (l:Addr) (d d':D),i ∈ M -> j ∈ M -> i ≠ j -> env[i]? = some (some d) -> env[j]? = some (some d') -> σ[i]? = some (some (.ref l)) -> σ[j]? ≠ some (some (.ref l))
structure Fz (L:List Addr) (H:Hp) (L':List Addr) (H':Hp):Prop where
 keep:∀ a o,H a = some o -> a ∉ L -> H' a = some o
 own:∀ l ∈ L',l ∈ L \/ H l = none
section
variable {L L1 L2:List Addr} {H H1 H2:Hp}
theorem Fz.of (s:Same H H1) (h:∀ l ∈ L1,l ∈ L \/ H l = none):Fz L H L1 H1:=⟨fun a o e _=>s a o e,h⟩
theorem Fz.sm (s:Same H H1):Fz L H L H1:=.of s fun _ h=>.inl h
theorem Fz.trans (a:Fz L H L1 H1) (b:Fz L1 H1 L2 H2):Fz L H L2 H2 where
 keep:=fun c o e hn=>b.keep c o (a.keep c o e hn) fun hm=>by
  rcases a.own c hm with h | h
  ·exact hn h
  ·rw [e] at h; cases h
 own:=fun l hl=>by
  rcases b.own l hl with h | h
  ·exact a.own l h
  ·by_cases hm:l ∈ L
   ·exact .inl hm
   ·cases q:H l with
    | none=>exact .inr rfl
    | some o=>rw [a.keep l o q hm] at h; cases h
theorem Fz.hid (a:Fz L H L1 H1):Same (hid L H) (hid L1 H1):=hid_mono fun b o e hn=>⟨a.keep b o e hn,fun hm=>by
 rcases a.own b hm with h | h
 ·exact hn h
 ·rw [e] at h; cases h⟩
end
section
variable {K:PySem.W.Frag} {M:List Nat} {H0 H H':Hp} {σ:L2.St} {env:Fm}
theorem EnvOk.ows (e:EnvOk K M H0 H σ env):Ows (Ow M env σ) H:=fun a ha=>by
 obtain ⟨i,hi,d,h1,h2⟩:=mem_Ow.mp ha
 obtain ⟨l,h3,_,h4⟩:=e.own i d hi h1
 rw [h2] at h3; cases h3
 exact h4.chg
theorem EnvOk.same0 (e:EnvOk K M H0 H σ env):Same H0 (hid (Ow M env σ) H):=fun a o h=>by
 have hn:a ∉ Ow M env σ:=fun ha=>by
  obtain ⟨i,hi,d,h1,h2⟩:=mem_Ow.mp ha
  obtain ⟨l,h3,h0,_⟩:=e.own i d hi h1
  rw [h2] at h3; cases h3
  rw [h] at h0; cases h0
 rw [hid_in hn]; exact e.same a o h
theorem EnvOk.readOk (e:EnvOk K M H0 H σ env):ReadOk K H σ env:=fun i d h=>by
 by_cases hi:i ∈ M
 ·obtain ⟨l,h1,_,h2⟩:=e.own i d hi h
  exact ⟨_,h1,h2.rep hid_same⟩
 ·obtain ⟨v,h1,h2⟩:=e.read i d hi h
  exact ⟨v,h1,h2.mono hid_same⟩
theorem EnvOk.readHid (e:EnvOk K M H0 H σ env):ReadOk K (hid (Ow M env σ) H) σ (blankD M 0 env):=fun i d h=>by
 rw [blank_get] at h
 cases q:env[i]? with
 | none=>rw [q] at h; cases h
 | some s=>
  rw [q] at h
  simp only [Option.map_some,Nat.zero_add,Option.some.injEq] at h
  split at h
  ·cases h
  ·rename_i hi
   subst h
   exact e.read i d hi q
theorem EnvOk.grow (e:EnvOk K M H0 H σ env) (s:Same H H'):EnvOk K M H0 H' σ env where
 same:=e.same.trans s
 len:=e.len
 read:=fun i d hi h=>let ⟨v,h1,h2⟩:=e.read i d hi h; ⟨v,h1,h2.mono (Fz.sm s).hid⟩
 own:=fun i d hi h=>let ⟨l,h1,h0,h2⟩:=e.own i d hi h; ⟨l,h1,h0,h2.mono (Fz.sm s).hid (s l)⟩
 apart:=e.apart
theorem set_get {α:Type} {l:List α} {i j:Nat} {a b:α} (h:(l.set i a)[j]? = some b):(j = i /\ b = a /\ i < l.length) \/ (j ≠ i /\ l[j]? = some b):=by
 by_cases q:j = i
 ·subst q
  by_cases hl:j < l.length
  ·rw [List.getElem?_set_self hl] at h; cases h; exact .inl ⟨rfl,rfl,hl⟩
  ·rw [List.getElem?_eq_none (by rw [List.length_set]; omega)] at h; cases h
 ·rw [List.getElem?_set_ne (Ne.symm q)] at h; exact .inr ⟨q,h⟩
theorem EnvOk.put (e:EnvOk K M H0 H σ env) {i:Nat} {d:D} {v:V} (hM:i ∉ M) (r:Rep K (hid (Ow M env σ) H) d v):EnvOk K M H0 H (σ.set i (some v)) (env.set i (some d)) where
 same:=e.same
 len:=by rw [List.length_set,List.length_set]; exact e.len
 read:=fun j d' hj h=>by
  rw [Ow_set hM]
  rcases set_get h with ⟨rfl,hd,hl⟩ | ⟨hn,h⟩
  ·cases hd; exact ⟨v,List.getElem?_set_self (by rw [e.len]; exact hl),r⟩
  ·rw [List.getElem?_set_ne (Ne.symm hn)]; exact e.read j d' hj h
 own:=fun j d' hj h=>by
  rw [Ow_set hM]
  rcases set_get h with ⟨rfl,_,_⟩ | ⟨hn,h⟩
  ·exact absurd hj hM
  ·rw [List.getElem?_set_ne (Ne.symm hn)]; exact e.own j d' hj h
 apart:=fun j k l d1 d2 hj hk hn h1 h2 h3=>by
  have n1:j ≠ i:=fun z=>hM (z ▸ hj)
  have n2:k ≠ i:=fun z=>hM (z ▸ hk)
  rw [List.getElem?_set_ne (Ne.symm n1)] at h1 h3
  rw [List.getElem?_set_ne (Ne.symm n2)] at h2 ⊢
  exact e.apart j k l d1 d2 hj hk hn h1 h2 h3
theorem Ow_put {i:Nat} {d:D} {l:Addr} (b:Addr) (h:b ∈ Ow M (env.set i (some d)) (σ.set i (some (.ref l)))):b = l \/ b ∈ Ow M env σ:=by
 obtain ⟨j,hj,d',h1,h2⟩:=mem_Ow.mp h
 by_cases q:j = i
 ·subst q
  by_cases hl:j < σ.length
  ·rw [List.getElem?_set_self hl] at h2; cases h2; exact .inl rfl
  ·rw [List.getElem?_eq_none (by rw [List.length_set]; omega)] at h2; cases h2
 ·rw [List.getElem?_set_ne (Ne.symm q)] at h1 h2
  exact .inr (mem_Ow.mpr ⟨j,hj,d',h1,h2⟩)
theorem EnvOk.putOwn (e:EnvOk K M H0 H σ env) (s:Same H H') {i:Nat} {d:D} {l:Addr} (h0:H l = none) (hl:∀ Hh,Tups K H' Hh -> OwnIs K Hh H' l d) :
  EnvOk K M H0 H' (σ.set i (some (.ref l))) (env.set i (some d)) /\ Fz (Ow M env σ) H (Ow M (env.set i (some d)) (σ.set i (some (.ref l)))) H':=by
 have fz:Fz (Ow M env σ) H (Ow M (env.set i (some d)) (σ.set i (some (.ref l)))) H':=.of s fun b hb=>by
  rcases Ow_put b hb with rfl | h
  ·exact .inr h0
  ·exact .inl h
 have ows:Ows (Ow M (env.set i (some d)) (σ.set i (some (.ref l)))) H':=fun b hb=>by
  rcases Ow_put b hb with rfl | h
  ·exact (hl H' (Tups.of (Same.refl _))).chg
  ·obtain ⟨o,h1,h2⟩:=e.ows b h; exact ⟨o,s _ _ h1,h2⟩
 refine ⟨{
  same:=e.same.trans s
  len:=by rw [List.length_set,List.length_set]; exact e.len
  read:=fun j d' hj h=>?_
  own:=fun j d' hj h=>?_
  apart:=fun j k m d1 d2 hj hk hn h1 h2 h3 h4=>?_ },fz⟩
 ·rcases set_get h with ⟨rfl,hd,hz⟩ | ⟨hn,h⟩
  ·cases hd
   exact ⟨.ref l,List.getElem?_set_self (by rw [e.len]; exact hz),(hl _ ows.tup).rep hid_same |> fun r=>by
    have ho:l ∉ Ow M (env.set j (some d)) (σ.set j (some (.ref l))):=fun hm=>by
     obtain ⟨k,hk,d2,k1,k2⟩:=mem_Ow.mp hm
     by_cases q:k = j
     ·exact hj (q ▸ hk)
     ·rw [List.getElem?_set_ne (Ne.symm q)] at k1 k2
      obtain ⟨l',g1,_,g3⟩:=e.own k d2 hk k1
      rw [k2] at g1; cases g1
      obtain ⟨o,g4,_⟩:=g3.chg
      rw [h0] at g4; cases g4
    have:=hl _ (ows.tup)
    cases d with
    | lst ds=>obtain ⟨xs,q1,q2⟩:=this; exact ⟨l,xs,rfl,SqL.of (by rw [hid_in ho]; exact q1),q2⟩
    | dct t z ks vs=>obtain ⟨rfl,xs,q1,q2⟩:=this; exact ⟨l,xs,rfl,q1.mono fun o q=>by rw [hid_in ho]; exact q,q2⟩
    | _=>exact this.elim⟩
  ·obtain ⟨v,g1,g2⟩:=e.read j d' hj h
   exact ⟨v,by rw [List.getElem?_set_ne (Ne.symm hn)]; exact g1,g2.mono fz.hid⟩
 ·rcases set_get h with ⟨rfl,hd,hz⟩ | ⟨hn,h⟩
  ·cases hd; exact ⟨l,List.getElem?_set_self (by rw [e.len]; exact hz),e.same.free h0,hl _ ows.tup⟩
  ·obtain ⟨m,g1,g0,g2⟩:=e.own j d' hj h
   exact ⟨m,by rw [List.getElem?_set_ne (Ne.symm hn)]; exact g1,g0,g2.mono fz.hid (s m)⟩
 ·have old:∀ q dq,q ∈ M -> q ≠ i -> env[q]? = some (some dq) -> σ[q]? ≠ some (some (.ref l)):=fun q dq hq hqi hqe hqs=>by
   obtain ⟨l',g1,_,g3⟩:=e.own q dq hq hqe
   rw [g1] at hqs; cases hqs
   obtain ⟨o,g4,_⟩:=g3.chg
   rw [h0] at g4; cases g4
  rcases set_get h1 with ⟨q1,_,hz⟩ | ⟨n1,k1⟩
  ·rw [q1,List.getElem?_set_self (by rw [e.len]; exact hz)] at h3
   cases h3
   rcases set_get h2 with ⟨q,_,_⟩ | ⟨n2,k2⟩
   ·exact hn (q1.trans q.symm)
   ·rw [List.getElem?_set_ne (Ne.symm n2)] at h4
    exact old k d2 hk n2 k2 h4
  ·rw [List.getElem?_set_ne (Ne.symm n1)] at h3
   rcases set_get h2 with ⟨q2,_,hz⟩ | ⟨n2,k2⟩
   ·rw [q2,List.getElem?_set_self (by rw [e.len]; exact hz)] at h4
    cases h4
    exact old j d1 hj n1 k1 h3
   ·rw [List.getElem?_set_ne (Ne.symm n2)] at h4
    exact e.apart j k m d1 d2 hj hk hn k1 k2 h3 h4
theorem hid_upd_out {L:List Addr} {l:Addr} {o:HO} (h:l ∈ L):hid L (upd H l o) = hid L H:=by
 funext b
 by_cases q:b ∈ L
 ·rw [hid_out q,hid_out q]
 ·rw [hid_in q,hid_in q,upd_ne (fun z:b = l=>q (by rw [z]; exact h))]
theorem EnvOk.change (e:EnvOk K M H0 H σ env) {i:Nat} {l:Addr} {d d':D} {o:HO} (hi:i ∈ M) (he:env[i]? = some (some d)) (hs:σ[i]? = some (some (.ref l))) (new:OwnIs K (hid (Ow M env σ) H) (upd H l o) l d') :
  EnvOk K M H0 (upd H l o) σ (env.set i (some d')) /\ Fz (Ow M env σ) H (Ow M (env.set i (some d')) σ) (upd H l o):=by
 have hl:l ∈ Ow M env σ:=mem_Ow.mpr ⟨i,hi,d,he,hs⟩
 obtain ⟨l',h1,h0,h2⟩:=e.own i d hi he
 rw [hs] at h1; cases h1
 have iσ:i < env.length:=(List.getElem?_eq_some_iff.mp he).1
 have ow:Ow M (env.set i (some d')) σ = Ow M env σ:=Ow_congr fun j hj=>by
  by_cases q:j = i
  ·subst q
   rw [owA_iff.mpr ⟨d,he,hs⟩]
   exact owA_iff.mpr ⟨d',List.getElem?_set_self iσ,hs⟩
  ·unfold owA
   rw [List.getElem?_set_ne (Ne.symm q)]
 have hh:hid (Ow M (env.set i (some d')) σ) (upd H l o) = hid (Ow M env σ) H:=by rw [ow,hid_upd_out hl]
 refine ⟨⟨fun b ob q=>?_,by rw [List.length_set]; exact e.len,fun j dj hj h=>?_,fun j dj hj h=>?_,fun j k m d1 d2 hj hk hn h1 h2 h3=>?_⟩,⟨fun a ob q hn=>?_,fun b hb=>.inl (by rw [ow] at hb; exact hb)⟩⟩
 ·rw [upd_ne (ne_of_none q h0)]; exact e.same b ob q
 ·rw [hh]
  rcases set_get h with ⟨rfl,_,_⟩ | ⟨hn,h⟩
  ·exact absurd hi hj
  ·exact e.read j dj hj h
 ·rw [hh]
  rcases set_get h with ⟨rfl,hd,_⟩ | ⟨hn,h⟩
  ·cases hd; exact ⟨l,hs,h0,new⟩
  ·obtain ⟨m,g1,g0,g2⟩:=e.own j dj hj h
   have hne:m ≠ l:=fun z=>e.apart i j l _ _ hi hj (Ne.symm hn) he h hs (z ▸ g1)
   exact ⟨m,g1,g0,g2.mono (Same.refl _) fun ob q=>by rw [upd_ne hne]; exact q⟩
 ·have back:∀ (q:Nat) (dq:D),(env.set i (some d'))[q]? = some (some dq) -> ∃ dq',env[q]? = some (some dq'):=fun q dq hq=>by
   rcases set_get hq with ⟨rfl,_,_⟩ | ⟨_,hq⟩
   ·exact ⟨_,he⟩
   ·exact ⟨dq,hq⟩
  obtain ⟨e1,k1⟩:=back j d1 h1
  obtain ⟨e2,k2⟩:=back k d2 h2
  exact e.apart j k m e1 e2 hj hk hn k1 k2 h3
 ·rw [upd_ne (fun z:a = l=>hn (by rw [z]; exact hl))]; exact q
end
def Chg (m:Bool) (L:List Addr) (H:Hp) (L':List Addr) (H':Hp):Prop:=Fz L H L' H' /\ (m = false -> Same H H')
section
variable {m n:Bool} {L L1 L2:List Addr} {H H1 H2:Hp}
theorem Chg.of (s:Same H H1):Chg m L H L H1:=⟨Fz.sm s,fun _=>s⟩
theorem Chg.trans (a:Chg m L H L1 H1) (b:Chg n L1 H1 L2 H2):Chg (m || n) L H L2 H2:=⟨a.1.trans b.1,fun h=>by
 simp only [Bool.or_eq_false_iff] at h
 exact (a.2 h.1).trans (b.2 h.2)⟩
theorem Chg.weak (a:Chg m L H L1 H1) (h:n = false -> m = false):Chg n L H L1 H1:=⟨a.1,fun q=>a.2 (h q)⟩
end
def OutS (X:Cx) (M:List Nat) (H0:Hp) (L:List Addr) (H:Hp) (m:Bool) (D:Ends) (r:Fw × Fm):Prop:=match r.1 with
 | .nx=>∀ σ' H',EnvOk X.K M H0 H' σ' r.2 -> Chg m L H (Ow M r.2 σ') H' -> D.nx σ' H'
 | .rt d=>∀ v H',Same H0 H' -> Rep X.K H' d v -> D.rt v H'
 | .bk=>∀ σ' H',EnvOk X.K M H0 H' σ' r.2 -> Chg m L H (Ow M r.2 σ') H' -> D.bk σ' H'
 | .ct=>∀ σ' H',EnvOk X.K M H0 H' σ' r.2 -> Chg m L H (Ow M r.2 σ') H' -> D.ct σ' H'
def tS (X:Cx) (call:CallD) (M:List Nat) (H0:Hp) (p:Sx):TS:=fun D σ H=>∃ env,EnvOk X.K M H0 H σ env /\ (exD call p env).Good (OutS X M H0 (Ow M env σ) H (mutS p) D) (XW X H0)
theorem OutS.after {X:Cx} {M:List Nat} {H0 H H1:Hp} {L L1:List Addr} {m n k:Bool} {D:Ends} {r:Fw × Fm} (h:OutS X M H0 L H k D r) (c:Chg m L H L1 H1) (hk:k = false -> m = false /\ n = false):OutS X M H0 L1 H1 n D r:=by
 obtain ⟨f,e⟩:=r
 have tr:∀ {L':List Addr} {H':Hp},Chg n L1 H1 L' H' -> Chg k L H L' H':=fun c2=>(c.trans c2).weak fun q=>by obtain ⟨a,b⟩:=hk q; rw [a,b]; rfl
 cases f with
 | nx=>exact fun σ' H' e' c'=>h σ' H' e' (tr c')
 | rt d=>exact h
 | bk=>exact fun σ' H' e' c'=>h σ' H' e' (tr c')
 | ct=>exact fun σ' H' e' c'=>h σ' H' e' (tr c')
section
variable {X:Cx} {call:CallD} {M:List Nat} {H0:Hp} {e c:Expr} {p pc:Px} {a b:Sx} {pos:Pos} {st:Stmt} {rest sa sb:List Stmt}
theorem PS.weak {t t':TS} (h:PS X st t) (hm:∀ D σ H,t' D σ H -> t D σ H):PS X st t':=fun pins s σ H D I hw=>h pins s σ H D I (hm D σ H hw)
theorem PSs.weak {sts:List Stmt} {t t':TS} (h:PSs X sts t) (hm:∀ D σ H,t' D σ H -> t D σ H):PSs X sts t':=fun pins s σ H D I hw=>h pins s σ H D I (hm D σ H hw)
theorem sS_nil:PSs X [] (tS X call M H0 .skip):=PSs.weak pss_nil fun D σ H ⟨env,e,h⟩=>h σ H e (Chg.of (Same.refl H))
theorem sS_one (h:PS X st (tS X call M H0 a)):PSs X [st] (tS X call M H0 a):=pss_one h
theorem sS_cons (h1:PS X st (tS X call M H0 a)) (h2:PSs X rest (tS X call M H0 b)):PSs X (st :: rest) (tS X call M H0 (.seq a b)):=by
 refine PSs.weak (pss_cons h1 h2) fun D σ H ⟨env,e,h⟩=>⟨env,e,?_⟩
 simp only [exD] at h
 refine (Rs.good_bind.mp h).imp fun r hr=>?_
 obtain ⟨f,env2⟩:=r
 have wk:mutS (.seq a b) = false -> mutS a = false:=fun q=>by simp only [mutS,Bool.or_eq_false_iff] at q; exact q.1
 cases f with
 | nx=>
  intro σ' H' e' c'
  refine ⟨env2,e',hr.imp fun r2 h2=>h2.after c' fun q=>?_⟩
  simp only [mutS,Bool.or_eq_false_iff] at q
  exact q
 | rt d=>exact hr
 | bk=>exact fun σ' H' e' c'=>hr σ' H' e' (c'.weak wk)
 | ct=>exact fun σ' H' e' c'=>hr σ' H' e' (c'.weak wk)
theorem sS_ret (he:PE X e (tI X call p)):PS X (.Return (some e) pos) (tS X call M H0 (.ret p)):=by
 refine PS.weak (ps_ret he) fun D σ H ⟨env,e,h⟩=>⟨env,e.readOk,?_⟩
 simp only [exD] at h
 exact (Rs.good_bind.mp h).mono (fun d hd v H' s r=>hd v H' (e.same.trans s) r) fun c z=>z.mono e.same
theorem sS_if (hc:PT X c (tT X call pc)) (ha:PSs X sa (tS X call M H0 a)) (hb:PSs X sb (tS X call M H0 b)):PS X (.If c sa sb pos) (tS X call M H0 (.ite pc a b)):=by
 refine PS.weak (ps_if hc ha hb) fun D σ H ⟨env,e,h⟩=>⟨env,e.readOk,?_⟩
 simp only [exD] at h
 refine (Rs.good_bind.mp h).mono (fun d hd=>?_) fun c z=>z.mono e.same
 cases d with
 | bl k=>
  refine ⟨k,rfl,fun H' s=>?_⟩
  have fix:∀ {q:Sx},(mutS (.ite pc a b) = false -> mutS q = false) -> (exD call q env).Good (OutS X M H0 (Ow M env σ) H (mutS (.ite pc a b)) D) (XW X H0) -> tS X call M H0 q D σ H':=fun hm hg=>
   ⟨env,e.grow s,hg.imp fun r hr=>hr.after (m:=false) (Chg.of s) fun z=>⟨rfl,hm z⟩⟩
  cases k with
  | true=>exact iteT (fix (fun z=>by simp only [mutS,Bool.or_eq_false_iff] at z; exact z.1) hd)
  | false=>exact iteF (fix (fun z=>by simp only [mutS,Bool.or_eq_false_iff] at z; exact z.2) hd)
 | _=>exact hd.elim
section
variable {G:Gw} {N:List Str} {nm:List (Str × NameKind)} {x:Str} {i:Nat} {px:Pos}
theorem set_sep (hM:i ∉ M) (hsp:sepP M p = true) {D:Ends} {σ:L2.St} {H:Hp} (h:tS X call M H0 (.set false i p) D σ H):tAsg (tH X call p) (gName i) D σ H:=by
 obtain ⟨env,e,h⟩:=h
 simp only [exD,Bool.false_and,Bool.false_eq_true,if_false] at h
 refine ⟨blankD M 0 env,Ow M env σ,e.ows,e.readHid,?_⟩
 rw [evD_blank call env hsp]
 exact (Rs.good_bind.mp h).mono (fun d hd v H' s k r=>hd _ _ ((e.grow s).put hM r) (by rw [Ow_set hM]; exact Chg.of s)) fun c z=>z.mono e.same0
theorem set_imm (hM:i ∉ M) {D:Ends} {σ:L2.St} {H:Hp} (h:tS X call M H0 (.set true i p) D σ H):tAsg (tI X call p) (gName i) D σ H:=by
 obtain ⟨env,e,h⟩:=h
 simp only [exD,Bool.true_and] at h
 refine ⟨env,e.readOk,(Rs.good_bind.mp h).mono (fun d hd v H' s r=>?_) fun c z=>z.mono e.same⟩
 split at hd
 ·exact hd.elim
 ·rename_i q
  have him:d.imm = true:=by simpa using q
  exact hd _ _ ((e.grow s).put hM (Rep.tups (e.grow s).ows.tup d him r)) (by rw [Ow_set hM]; exact Chg.of s)
theorem own_any {D:Ends} {σ:L2.St} {H:Hp} (h:tS X call M H0 (.own i p) D σ H):tAsg (tF X call p) (gName i) D σ H:=by
 obtain ⟨env,e,h⟩:=h
 simp only [exD] at h
 refine ⟨env,e.readOk,(Rs.good_bind.mp h).mono (fun d hd=>?_) fun c z=>z.mono e.same⟩
 cases d with
 | lst ds=>
  simp only at hd
  split at hd
  ·exact hd.elim
  ·rename_i q
   have him:imms ds = true:=by simpa using q
   refine ⟨ds,rfl,fun l xs H' s q0 q1 q2=>?_⟩
   obtain ⟨e2,f2⟩:=e.putOwn s (i:=i) (d:=.lst ds) q0 fun Hh tp=>⟨xs,q1,Reps.tups tp ds him q2⟩
   exact hd _ _ e2 ⟨f2,fun _=>s⟩
 | _=>exact hd.elim
theorem sS_set (C:Ctx X G N nm) (hi:N[i]? = some x) (hx:locB nm x = true) (hM:i ∉ M) (hsp:sepP M p = true) (he:PE X e (tI X call p)) (hs:swapsWith e (some (.Name x px)) pos.line X.env = pure false:=by rfl) :
  PS X (.Assign [.Name x px] e pos) (tS X call M H0 (.set false i p)):=by
 obtain ⟨h1,h2⟩:=C.sto x hx
 exact PS.weak (ps_set (by rw [C.hN]; exact C.nd) (by rw [C.hN]; exact hi) h1 (pe_hid he) hs h2) fun D σ H h=>set_sep hM hsp h
theorem sS_setM (C:Ctx X G N nm) (hi:N[i]? = some x) (hx:locB nm x = true) (hM:i ∉ M) (he:PE X e (tI X call p)) (hs:swapsWith e (some (.Name x px)) pos.line X.env = pure false:=by rfl) :
  PS X (.Assign [.Name x px] e pos) (tS X call M H0 (.set true i p)):=by
 obtain ⟨h1,h2⟩:=C.sto x hx
 exact PS.weak (ps_set (by rw [C.hN]; exact C.nd) (by rw [C.hN]; exact hi) h1 he hs h2) fun D σ H h=>set_imm hM h
theorem sS_own (C:Ctx X G N nm) (hi:N[i]? = some x) (hx:locB nm x = true) (he:PE X e (tF X call p)) (hs:swapsWith e (some (.Name x px)) pos.line X.env = pure false:=by rfl) :
  PS X (.Assign [.Name x px] e pos) (tS X call M H0 (.own i p)):=by
 obtain ⟨h1,h2⟩:=C.sto x hx
 exact PS.weak (ps_set (by rw [C.hN]; exact C.nd) (by rw [C.hN]; exact hi) h1 he hs h2) fun D σ H h=>own_any h
end
end
end Rd
namespace Rd
open PySem PySem.Spec PyProof.Rows L2 Pu
def gS (X:Cx) (M:List Nat) (H0:Hp) (ts:List Nat) (nt:Nat):TG:=fun v σ H Q=>∃ env d new,EnvOk X.K M H0 H σ env /\ Rep X.K (hid (Ow M env σ) H) d v /\ bindT nt d = .ok new /\ ∀ σ',EnvOk X.K M H0 H σ' (setAll ts new env) -> Ow M (setAll ts new env) σ' = Ow M env σ -> Q σ' H
section
variable {X:Cx} {call:CallD} {M:List Nat} {H0:Hp} {G:Gw} {N:List Str} {nm:List (Str × NameKind)} {x y z:Str} {i j l k:Nat} {pos p1 p2 p3:Pos}
theorem gS_one (C:Ctx X G N nm) (hi:N[i]? = some x) (hx:locB nm x = true) (hM:i ∉ M):PG X (.Name x pos) (gS X M H0 [i] 0):=by
 obtain ⟨h1,h2⟩:=C.sto x hx
 intro pins s σ H v u Q I r ⟨env,d,new,e,rd,hb,h⟩
 refine pg_name (pos:=pos) (i:=i) (by rw [C.hN]; exact C.nd) (by rw [C.hN]; exact hi) h1 h2 pins s σ H v u Q I r ?_
 simp only [bindT,if_true] at hb
 cases hb
 exact h _ (e.put hM rd) (Ow_set hM)
theorem gS_two (C:Ctx X G N nm) (hi:N[i]? = some x) (hx:locB nm x = true) (hM:i ∉ M) (hj:N[j]? = some y) (hy:locB nm y = true) (hM2:j ∉ M):PG X (.Tuple [.Name x p1,.Name y p2] k pos) (gS X M H0 [i,j] 2):=by
 obtain ⟨h1,h2⟩:=C.sto x hx
 obtain ⟨h3,h4⟩:=C.sto y hy
 intro pins s σ H v u Q I r ⟨env,d,new,e,rd,hb,h⟩
 refine pg_tup (pos:=pos) C.calm (pgs_cons (pg_name (i:=i) (pos:=p1) (by rw [C.hN]; exact C.nd) (by rw [C.hN]; exact hi) h1 h2) (pgs_cons (pg_name (i:=j) (pos:=p2) (by rw [C.hN]; exact C.nd) (by rw [C.hN]; exact hj) h3 h4) pgs_nil)) rfl rfl pins s σ H v u Q I r ?_
 unfold bindT at hb
 rw [if_neg (by decide)] at hb
 cases d with
 | tup ds=>
  dsimp only at hb
  split at hb
  ·rename_i hd
   cases hb
   obtain ⟨a,xs,rfl,hq,hr⟩:=rd
   match ds,hd with
   | [d0,d1],_=>
    obtain ⟨x0,r0,e0,k0,x1,r1,e1,k1,e2⟩:=hr
    subst e1; subst e2; subst e0
    exact ⟨a,[x0,x1],rfl,SqT.same hid_same hq,rfl,x0,[x1],rfl,x1,[],rfl,rfl,h _ ((e.put hM k0).put hM2 (by rw [Ow_set hM]; exact k1)) (by rw [show setAll [i,j] ([d0,d1].map some) env = (env.set i (some d0)).set j (some d1) from rfl,Ow_set hM2,Ow_set hM])⟩
  ·cases hb
 | _=>cases hb
theorem gS_three (C:Ctx X G N nm) (hi:N[i]? = some x) (hx:locB nm x = true) (hM:i ∉ M) (hj:N[j]? = some y) (hy:locB nm y = true) (hM2:j ∉ M) (hl:N[l]? = some z) (hz:locB nm z = true) (hM3:l ∉ M):PG X (.Tuple [.Name x p1,.Name y p2,.Name z p3] k pos) (gS X M H0 [i,j,l] 3):=by
 obtain ⟨h1,h2⟩:=C.sto x hx
 obtain ⟨h3,h4⟩:=C.sto y hy
 obtain ⟨h5,h6⟩:=C.sto z hz
 intro pins s σ H v u Q I r ⟨env,d,new,e,rd,hb,h⟩
 refine pg_tup (pos:=pos) C.calm (pgs_cons (pg_name (i:=i) (pos:=p1) (by rw [C.hN]; exact C.nd) (by rw [C.hN]; exact hi) h1 h2) (pgs_cons (pg_name (i:=j) (pos:=p2) (by rw [C.hN]; exact C.nd) (by rw [C.hN]; exact hj) h3 h4) (pgs_cons (pg_name (i:=l) (pos:=p3) (by rw [C.hN]; exact C.nd) (by rw [C.hN]; exact hl) h5 h6) pgs_nil))) rfl rfl pins s σ H v u Q I r ?_
 unfold bindT at hb
 rw [if_neg (by decide)] at hb
 cases d with
 | tup ds=>
  dsimp only at hb
  split at hb
  ·rename_i hd
   cases hb
   obtain ⟨a,xs,rfl,hq,hr⟩:=rd
   match ds,hd with
   | [d0,d1,d2],_=>
    obtain ⟨x0,r0,e0,k0,x1,r1,e1,k1,x2,r2,e2,k2,e3⟩:=hr
    subst e3; subst e2; subst e1; subst e0
    exact ⟨a,[x0,x1,x2],rfl,SqT.same hid_same hq,rfl,x0,[x1,x2],rfl,x1,[x2],rfl,x2,[],rfl,rfl,h _ (((e.put hM k0).put hM2 (by rw [Ow_set hM]; exact k1)).put hM3 (by rw [Ow_set hM2,Ow_set hM]; exact k2))
     (by rw [show setAll [i,j,l] ([d0,d1,d2].map some) env = ((env.set i (some d0)).set j (some d1)).set l (some d2) from rfl,Ow_set hM3,Ow_set hM2,Ow_set hM])⟩
  ·cases hb
 | _=>cases hb
theorem for_core {body:Sx} {ts:List Nat} {nt:Nat} {D:Ends} {σ:L2.St} {H H1:Hp} {env:Fm} {ds:List Pu.D} {J:It} (e:EnvOk X.K M H0 H1 σ env) (s1:Same H H1)
  (wk:∀ L' H',Chg (mutS body) (Ow M env σ) H1 L' H' -> Ows L' H' -> (∀ i,i < ds.length -> J.go i H') /\ J.stop ds.length H' /\ ∀ i x H'',i < ds.length -> J.yld i H' x H'' -> Same H' H'' /\ ∃ d,ds[i]? = some d /\ Rep X.K (hid L' H'') d x)
  (h:(forL ts nt (exD call body) ds env).Good (OutS X M H0 (Ow M env σ) H (mutS body) D) (XW X H0)) :
  ∃ W:Nat -> Nat -> L2.St -> Hp -> Prop,(∃ m,W 0 m σ H1) /\ ∀ i m σ H,W i m σ H -> (J.stop i H /\ D.nx σ H) \/ (J.go i H /\ ∃ Nn:L2.St -> Hp -> Prop,(∀ σ' H',Nn σ' H' -> ∃ m',m' < m /\ W (i + 1) m' σ' H') /\
   ∀ x H',J.yld i H x H' -> gS X M H0 ts nt x σ H' fun σ2 H2=>tS X call M H0 body { D with nx:=Nn,ct:=Nn,bk:=D.nx } σ2 H2):=by
 refine ⟨fun i m σ' H'=>∃ env',EnvOk X.K M H0 H' σ' env' /\ Chg (mutS body) (Ow M env σ) H1 (Ow M env' σ') H' /\ i <= ds.length /\ m = ds.length - i /\ (forL ts nt (exD call body) (ds.drop i) env').Good (OutS X M H0 (Ow M env σ) H (mutS body) D) (XW X H0),
  ⟨ds.length,env,e,Chg.of (Same.refl _),Nat.zero_le _,rfl,by simpa using h⟩,?_⟩
 rintro i m σ' H' ⟨env',e',c',hi,rfl,hg⟩
 obtain ⟨w1,w2,w3⟩:=wk _ H' c' e'.ows
 have cH:∀ {L':List Addr} {Hz:Hp},Chg (mutS body) (Ow M env σ) H1 L' Hz -> Chg (mutS body) (Ow M env σ) H L' Hz:=fun z=>((Chg.of (m:=false) s1).trans z).weak fun q=>by rw [q]; rfl
 by_cases hlt:i < ds.length
 ·refine .inr ⟨w1 i hlt,fun σ2 H2=>∃ m',m' < ds.length - i /\ ∃ env',EnvOk X.K M H0 H2 σ2 env' /\ Chg (mutS body) (Ow M env σ) H1 (Ow M env' σ2) H2 /\ i + 1 <= ds.length /\ m' = ds.length - (i + 1) /\ (forL ts nt (exD call body) (ds.drop (i + 1)) env').Good (OutS X M H0 (Ow M env σ) H (mutS body) D) (XW X H0),fun σ2 H2 q=>q,fun x H2 hy=>?_⟩
  obtain ⟨s2,d,hd,rd⟩:=w3 i x H2 hlt hy
  rw [drop_cons hd] at hg
  simp only [forL] at hg
  replace hg:=Rs.good_bind.mp hg
  cases hb:bindT nt d with
  | stuck=>rw [hb] at hg; exact hg.elim
  | ex c=>exact (bindT_ex hb).elim
  | ok new=>
   rw [hb] at hg
   refine ⟨env',d,new,e'.grow s2,rd,hb,fun σ3 e3 ow3=>⟨setAll ts new env',e3,(Rs.good_bind.mp hg).imp fun r hr=>?_⟩⟩
   have c2:Chg (mutS body) (Ow M env σ) H1 (Ow M env' σ') H2:=(c'.trans (n:=false) (Chg.of s2)).weak fun q=>by rw [q]; rfl
   have cc:∀ {L':List Addr} {Hz:Hp},Chg (mutS body) (Ow M (setAll ts new env') σ3) H2 L' Hz -> Chg (mutS body) (Ow M env σ) H1 L' Hz:=fun z=>by
    rw [ow3] at z
    exact (c2.trans z).weak fun q=>by rw [q]; rfl
   obtain ⟨f,env4⟩:=r
   cases f with
   | nx=>exact fun σ4 H4 e4 c4=>⟨_,by omega,env4,e4,cc c4,by omega,rfl,hr⟩
   | ct=>exact fun σ4 H4 e4 c4=>⟨_,by omega,env4,e4,cc c4,by omega,rfl,hr⟩
   | bk=>exact fun σ4 H4 e4 c4=>hr σ4 H4 e4 (cH (cc c4))
   | rt d=>exact hr
 ·have he:i = ds.length:=by omega
  subst he
  rw [List.drop_length] at hg
  exact .inl ⟨w2,hg σ' H' e' (cH c')⟩
variable {tg iter:Expr} {body:List Stmt} {src:Px} {sb:Sx} {ts:List Nat} {nt:Nat}
theorem sS_for (C:Ctx X G N nm) (hp:PassesOwn (model X.prog X.w) X.A X.env X.xe) (hi:PI X tg iter (tW X call src)) (hg:PG X tg (gS X M H0 ts nt)) (hb:PSs X body (tS X call M H0 sb)) (hsp:sepP M src = true)
  (hs:∀ x,foldedSetIterable iter X.env x = pure x:=by intro _; rfl):PS X (.For tg iter body [] pos) (tS X call M H0 (.loop false ts nt src sb)):=by
 refine PS.weak (ps_for hp C.calm (pi_hid hi) hg hb hs) fun D σ H ⟨env,e,h⟩=>⟨blankD M 0 env,Ow M env σ,e.ows,e.readHid,?_⟩
 simp only [exD] at h
 rw [evD_blank call env hsp]
 refine (Rs.good_bind.mp h).mono (fun d hd=>?_) fun c z=>z.mono e.same0
 cases d with
 | lst ds=>
  simp only [Pu.D.asL,Rs.bind_ok,Bool.false_and,Bool.false_eq_true,if_false] at hd
  refine ⟨ds,rfl,fun J H' s1 kk w ok=>for_core (call:=call) (e.grow s1) s1 (fun L' Hz q ow=>?_) hd⟩
  have sh:Same (hid (Ow M env σ) H') (hid L' Hz):=q.1.hid
  obtain ⟨a1,a2,a3⟩:=w Hz (sh.trans hid_same)
  refine ⟨a1,a2,fun i x H'' hi hy=>⟨(a3 i x H'' hi hy).1,?_⟩⟩
  have hy':=ok L' i Hz x H'' ow hy
  exact ((w _ sh).2.2 i x _ hi hy').2
 | _=>exact hd.elim
theorem sS_while {c:Expr} {pc:Px} {n:Nat} (hp:PassesOwn (model X.prog X.w) X.A X.env X.xe) (hc:PT X c (tT X call pc)) (hb:PSs X body (tS X call M H0 sb)):PS X (.While c body [] pos) (tS X call M H0 (.whl n pc sb)):=by
 refine PS.weak (ps_while hp hc hb) fun D σ H ⟨env,e,h⟩=>?_
 simp only [exD] at h
 have hm:mutS (.whl n pc sb) = mutS sb:=rfl
 rw [hm] at h
 refine ⟨fun m σ' H'=>∃ env',EnvOk X.K M H0 H' σ' env' /\ Chg (mutS sb) (Ow M env σ) H (Ow M env' σ') H' /\ (whlL (evD call pc) (exD call sb) m env').Good (OutS X M H0 (Ow M env σ) H (mutS sb) D) (XW X H0),⟨n,env,e,Chg.of (Same.refl _),h⟩,?_⟩
 rintro m σ' H' ⟨env',e',c',hg⟩
 cases m with
 | zero=>exact hg.elim
 | succ m=>
  simp only [whlL] at hg
  refine ⟨env',e'.readOk,(Rs.good_bind.mp hg).mono (fun d hd=>?_) fun c z=>z.mono e'.same⟩
  cases d with
  | bl k=>
   refine ⟨k,rfl,fun H2 s2=>?_⟩
   have c2:Chg (mutS sb) (Ow M env σ) H (Ow M env' σ') H2:=(c'.trans (n:=false) (Chg.of s2)).weak fun q=>by rw [q]; rfl
   have cc:∀ {L':List Addr} {Hz:Hp},Chg (mutS sb) (Ow M env' σ') H2 L' Hz -> Chg (mutS sb) (Ow M env σ) H L' Hz:=fun z=>(c2.trans z).weak fun q=>by rw [q]; rfl
   cases k with
   | true=>
    refine iteT ⟨fun σ3 H3=>∃ env3,EnvOk X.K M H0 H3 σ3 env3 /\ Chg (mutS sb) (Ow M env σ) H (Ow M env3 σ3) H3 /\ (whlL (evD call pc) (exD call sb) m env3).Good (OutS X M H0 (Ow M env σ) H (mutS sb) D) (XW X H0),fun σ3 H3 q=>⟨m,by omega,q⟩,env',e'.grow s2,(Rs.good_bind.mp hd).imp fun r hr=>?_⟩
    obtain ⟨f,env4⟩:=r
    cases f with
    | nx=>exact fun σ4 H4 e4 c4=>⟨env4,e4,cc c4,hr⟩
    | ct=>exact fun σ4 H4 e4 c4=>⟨env4,e4,cc c4,hr⟩
    | bk=>exact fun σ4 H4 e4 c4=>hr σ4 H4 e4 (cc c4)
    | rt d=>exact hr
   | false=>exact iteF (hd σ' H2 (e'.grow s2) c2)
  | _=>exact hd.elim
end
end Rd
namespace Rd
open PySem PySem.Spec PyProof.Rows L2 Pu
def spI (K:PySem.W.Frag) (mg:Str -> Option Value) (call:CallD) (fi:Nat):Sp:=fun vs H Q E=>∃ ds,Reps K H ds vs /\ (call fi ds).Good (fun d=>∀ v H',Same H H' -> Rep K H' d v -> Q v H') (fun c=>∀ C H',mg c = some (.ref C) -> Same H H' -> E (.ref C) none H')
theorem Room.out {k:Nat} {A:Around} (r:Room k A.in1.in1):Room k A:=⟨r.hd,r.dp,by have:=r.un; simp only [Around.in1] at this; omega⟩
structure Callee (G:Gw) (call:CallD) (fi:Nat) (x:Str):Prop where
 ex:∃ (kk:Nat) (f:Addr) (fd:FuncData) (ps:List Str),FnOk G.prog G.w G.K G.mg G.base (CXr G.prog G.w) kk f fd ps (spI G.K G.mg call fi) /\ Room kk G.A.in1.in1 /\ G.mg x = some (.ref f) /\ PySem.W.keepIn G.K (.ref f) = true /\ Binds G.K fd ps []
section
variable {X:Cx} {call:CallD} {G:Gw} {N:List Str} {nm:List (Str × NameKind)} {e:Expr} {es:List Expr} {p:Px} {pos p1:Pos} {x:Str} {fi:Nat}
theorem pI_call (C:Ctx X G N nm) (hc:Callee G call fi x) (hg:gloB nm x = true) (hdb:(x == ("__debug__" : Str)) = false) (ha:PA X (e :: es) (tA X call p)) (he:starEach (e :: es) X.env = (false,eval e X.env) :: starEach es X.env:=by rfl)
  (hpl:(backTo pos (starEach es X.env)).any (·.1) = false:=by rfl):PE X (.Call (.Name x p1) (e :: es) [] pos) (tI X call (.call fi p)):=by
 obtain ⟨kk,f,fd,ps,F,hr,hm,hk,hb⟩:=hc.ex
 have hr:=Room.out hr
 have hG:=C.g
 subst hG
 have hp:Passes (CXr X.prog X.w) X (fun cls _ H'=>∀ C,cls = .ref C -> XE X C H'):=fun pins σ H s e s' I hc=>by
  obtain ⟨a,C,H',rfl,F,hE⟩:=fly_call I hc
  exact hE C rfl a s' F
 refine PE.weak (pe_call F hr (C.glo x hg) hm hk hb .nil hp ha hdb he hpl) fun σ H Q ⟨env,r,h⟩=>⟨env,r,?_⟩
 simp only [evD] at h
 refine (Rs.good_bind.mp h).imp fun d hd=>?_
 cases d with
 | lst ds=>
  simp only [D.asL,Rs.bind_ok] at hd
  refine ⟨ds,rfl,fun vs H' s rs=>?_⟩
  show spI X.K X.mg call fi (vs ++ []) H' Q _
  rw [List.append_nil]
  exact ⟨ds,rs,hd.mono (fun d o v H2 s2 rv=>o v H2 (s.trans s2) rv) fun c z C H2 hm2 s2 C' e=>by cases e; exact z C H2 hm2 (s.trans s2)⟩
 | _=>exact hd.elim
end
theorem start_get {n:Nat} {ds:List D} {i:Nat} {d:D} (h:(startD n ds)[i]? = some (some d)):ds[i]? = some d:=by
 unfold startD at h
 by_cases hi:i < ds.length
 ·rw [List.getElem?_append_left (by simpa using hi),List.getElem?_map] at h
  cases q:ds[i]? with
  | none=>rw [q] at h; cases h
  | some d'=>rw [q] at h; cases h; rfl
 ·rw [List.getElem?_append_right (by simpa using hi),List.getElem?_replicate] at h
  split at h <;> cases h
section
variable {P:Program} {w:World} {K:PySem.W.Frag} {mg:Str -> Option Value} {base:Heap} {defs:List DefD} {fi k:Nat} {d:DefD}
theorem env_start {H:Hp} {N:List Str} {ds:List D} {vs:List V} {M:List Nat} (hs:d.slots = N.length) (hl:ds.length <= N.length) (hM:∀ i ∈ M,ds.length <= i) (r:Reps K H ds vs):EnvOk K M H H (L2.start N vs) (startD d.slots ds):=by
 have l:=r.length
 have get:∀ (i:Nat) (dd:D),(startD d.slots ds)[i]? = some (some dd) -> ∃ v,(L2.start N vs)[i]? = some (some v) /\ Rep K H dd v:=fun i dd h=>by
  have h':=start_get h
  obtain ⟨v,h1,h2⟩:=r.get h'
  refine ⟨v,?_,h2⟩
  have hi:i < vs.length:=(List.getElem?_eq_some_iff.mp h1).1
  unfold L2.start
  rw [List.getElem?_append_left (by simpa using hi),List.getElem?_map,h1]
  rfl
 have no:∀ (i:Nat) (dd:D),i ∈ M -> (startD d.slots ds)[i]? = some (some dd) -> False:=fun i dd hi h=>by
  have h':=start_get h
  have:=(List.getElem?_eq_some_iff.mp h').1
  have:=hM i hi
  omega
 have ow:Ow M (startD d.slots ds) (L2.start N vs) = []:=by
  cases q:Ow M (startD d.slots ds) (L2.start N vs) with
  | nil=>rfl
  | cons b t=>
   obtain ⟨i,hi,dd,h1,_⟩:=mem_Ow.mp (show b ∈ Ow M (startD d.slots ds) (L2.start N vs) by rw [q]; simp)
   exact (no i dd hi h1).elim
 refine ⟨Same.refl H,?_,fun i dd _ h=>by rw [ow,hid_nil]; exact get i dd h,fun i dd hi h=>(no i dd hi h).elim,fun i j l d1 d2 hi _ _ h=>(no i d1 hi h).elim⟩
 unfold L2.start startD
 rw [List.length_append,List.length_append,List.length_map,List.length_map,List.length_replicate,List.length_replicate,hs,l]
structure HX (X:Cx) (nm:List (Str × NameKind)):Prop where
 sc:X.env.scope.names = nm
 pass:PassesOwn (model X.prog X.w) X.A X.env X.xe
 stk:X.stack = X.env :: X.outer
 frm:X.env.frame = some X.env.locals
 ex:X.ex = []
theorem fn_ok {j:Nat} {x qual:Str} {st:Stmt} {f:Addr} {fd:FuncData} {N ps:List Str} {M:List Nat} (F:Fun K x qual st f fd) (S:FnScope N ps (defScope st)) (hd:defs[fi]? = some d) (hs:d.slots = N.length) (hp:d.params = ps.length) (hM:∀ i ∈ M,ps.length <= i) (hpN:ps.length <= N.length)
  (hbody:∀ (X:Cx) (A:Around) (H0:Hp),Ctx X ⟨P,w,K,mg,base,A⟩ N (defScope st).names -> Room j A -> HX X (defScope st).names -> PSs X (defBody st) (tS X (runD defs k) M H0 d.body)) :
  FnOk P w K mg base (CXr P w) (j + 1) f fd ps (spI K mg (runD defs (k + 1)) fi):=by
 have unf:∀ ds,runD defs (k + 1) fi ds = if ds.length = d.params then answerD (exD (runD defs k) d.body (startD d.slots ds)) else .stuck:=fun ds=>by
  simp only [runD,hd]
 obtain ⟨oc,od,kV,doc,pm,an,cdv,ct,osl,rfl,lk,hcd⟩:=F.ex
 refine fn_of lk hcd S (fun vs H Q E h=>?_) (fun A outer s H vs Q E hr h=>?_)
 ·obtain ⟨ds,r,g⟩:=h
  rw [unf] at g
  split at g
  ·rename_i q
   rw [r.length,q,hp]
  ·exact g.elim
 ·obtain ⟨ds,r,g⟩:=h
  rw [unf] at g
  split at g
  ·rename_i q
   have C:Ctx (cxOf (CXr P w) P w K mg base N qual (defScope st) f cdv A outer s H E) ⟨P,w,K,mg,base,A.deeper (envOfC qual (defScope st) s.heap.objs.size f cdv)⟩ N (defScope st).names:={
    g:=rfl
    hN:=rfl
    nd:=S.nd
    vis:=fun y hy=>by
     show Vis (defScope st) y
     unfold visB at hy
     split at hy
     ·rename_i z; exact .inl z
     ·rename_i z; exact .inr (.inl z)
     ·rename_i z; exact .inr (.inr z)
     ·cases hy
    cel:=fun y hy=>by
     show (defScope st).names.lookup y = some .cell \/ (defScope st).names.lookup y = some .free
     unfold celB at hy
     split at hy
     ·rename_i z; exact .inl z
     ·rename_i z; exact .inr z
     ·cases hy
    glo:=fun y hy=>by
     show (defScope st).names.lookup y = some .globalImplicit
     unfold gloB at hy
     split at hy
     ·rename_i z; exact z
     ·cases hy
    sto:=fun y hy=>by
     show Loc (defScope st) y /\ (true = true \/ _)
     unfold locB at hy
     split at hy
     ·rename_i z; exact ⟨.inl z,.inl rfl⟩
     ·rename_i z; exact ⟨.inr z,.inl rfl⟩
     ·cases hy
    calm:=rfl
    un:=hr.units }
   refine ⟨_,hbody _ _ H C hr ⟨rfl,PassesOwn.leaving,rfl,rfl,rfl⟩,startD d.slots ds,env_start hs (by omega) (fun i hi=>by have:=hM i hi; omega) r,?_⟩
   cases q2:exD (runD defs k) d.body (startD d.slots ds) with
   | ok r2=>
    rw [q2] at g
    obtain ⟨fl,env2⟩:=r2
    cases fl with
    | nx=>exact fun σ' H' e' _=>g .non H' e'.same rfl
    | rt dd=>exact fun v H' s' r'=>g v H' s' r'
    | bk=>exact g.elim
    | ct=>exact g.elim
   | ex c=>
    rw [q2] at g
    exact fun C2 H2 hm s2 a s' F=>xe_leave F (g C2 H2 hm s2)
   | stuck=>rw [q2] at g; exact g.elim
  ·exact g.elim
theorem fn_zero {f:Addr} {fd:FuncData} {ps:List Str}:FnOk P w K mg base (CXr P w) 0 f fd ps (spI K mg (runD defs 0) fi):=
 ⟨fun vs H Q E ⟨_,_,h⟩=>h.elim,fun A outer s H args us vs Q E _ _ _ _ ⟨_,_,h⟩=>h.elim⟩
end
section
variable {X:Cx} {call:CallD} {M:List Nat} {H0:Hp} {e:Expr} {p:Px} {pos:Pos} {G:Gw} {N:List Str} {nm:List (Str × NameKind)} {x:Str} {i:Nat} {px:Pos}
open PySem.AutoSeq1 in
theorem extend_seq (t:Bool) (l:Addr) (items:Array Value) (n:Nat) (b:Addr) (items2:Array Value) (hs0:¬(!items.isEmpty && Builtin.List.listTooLong (items.size + items2.size)) = true) (hs1:items.size <= sizeLine) (hs2:items.size + items2.size <= sizeLine + 1) :
  Meets (Builtin.«list.extend» ⟨[.ref l,.ref b],[]⟩) (fun _ R s=>s.heap.get? l = some { cls:=.type "list",dict:=none,data:=.seq items n,slots:=#[] } /\ (∃ dd n2 sl,s.heap.get? b = some { cls:=.type (if t then "tuple" else "list"),dict:=dd,data:=.seq items2 n2,slots:=sl }) /\ R (.ok (.ret Value.none)) { s with heap:=s.heap.update l (Obj.mapSeq fun x=>x ++ items2),toks:=s.toks }):=
 .of_wp fun prog w A R s h=>by
  obtain ⟨hp,g,d,tk,os⟩:=s; obtain ⟨hl,⟨dd,n2,sl,hb⟩,h⟩:=h; have f1:=AutoSeq1.idx_int; have f2:=AutoSeq1.sub_tuple_tuple; have f3:=AutoSeq1.sub_list_list; have f4:=AutoSeq1.sub_tuple_list; have f5:=AutoSeq1.sub_list_tuple
  have hz':(items ++ items2).size <= sizeLine + 1:=by rw [Array.size_append]; exact hs2
  cases t with
  | true=>
   simp only [if_true] at hb
   wp_walk using (wpAny_updateSeq hl rfl (hz:=hs1) (_hz':=hz')),wpAny_loadPart' hl,wpAny_loadPart' hb; exact ⟨_,rfl,h⟩
  | false=>
   simp only [Bool.false_eq_true,if_false] at hb
   wp_walk using (wpAny_updateSeq hl rfl (hz:=hs1) (_hz':=hz')),wpAny_loadPart' hl,wpAny_loadPart' hb; exact ⟨_,rfl,h⟩
def rExtS (K:PySem.W.Frag):V -> List V -> Hp -> VK -> Prop:=fun x vs H Q=>∃ l b xs zs,x = .ref l /\ vs = [.ref b] /\ H l = some (.lst xs) /\ (SqL K H b zs \/ SqT K H b zs) /\ xs.length + zs.length <= sizeLine /\ Q .non (upd H l (.lst (xs ++ zs)))
theorem mt_extS:MtM X "list.extend" (rExtS X.K):=by
 intro pins s σ H x vs v us Q I rx rv h
 obtain ⟨l,b,xs,zs,rfl,rfl,hH,hB,hz,q⟩:=h
 cases rx
 obtain ⟨u,rfl,ru⟩:=rv.one
 cases ru
 obtain ⟨z,its,n,r,hl,e⟩:=I.lstM hH
 obtain ⟨t,its2,r2,hb⟩:∃ (t:Bool) (its2:List Value),Vals zs its2 /\ ∃ dd n2 sl,s.heap.get? b = some { cls:=.type (if t then "tuple" else "list"),dict:=dd,data:=.seq its2.toArray n2,slots:=sl }:=by
  rcases hB with h | h
  ·obtain ⟨its2,r2,⟨o,n2,e2,c2,d2,k2⟩,_⟩:=I.list h
   obtain ⟨c,dd,da,sl⟩:=o
   simp only at c2 k2
   subst c2; subst k2
   exact ⟨false,its2,r2,dd,n2,sl,e2⟩
  ·obtain ⟨its2,r2,⟨o,e2,c2,n2,k2⟩,_⟩:=I.tuple h
   obtain ⟨c,dd,da,sl⟩:=o
   simp only at c2 k2
   subst c2; subst k2
   exact ⟨true,its2,r2,dd,n2,sl,e2⟩
 have hl2:=r2.length
 have hsz:its.toArray.size + its2.toArray.size <= sizeLine:=by rw [List.size_toArray,List.size_toArray]; omega
 have hlong:¬ (!its.toArray.isEmpty && Builtin.List.listTooLong (its.toArray.size + its2.toArray.size)) = true:=by
  rw [notLongL hsz,Bool.and_false]
  exact Bool.false_ne_true
 refine call_meets F.slot_list_extend ⟨_,e,rfl⟩ F.entry_list_extend (F.args_list_extend_2 _ _)
  (extend_seq t l its.toArray n b its2.toArray hlong (by rw [List.size_toArray]; omega) (by omega)) ⟨e,hb,?_⟩
 refine ⟨.non,_,I.lset (its':=its ++ its2) hH e (by simp) (r.append r2) ?_,rfl,q⟩
 rw [List.length_append]
 omega
theorem ext_slot {m:Bool} (hM:i ∈ M) {D:Ends} {σ:L2.St} {H:Hp} (h:tS X call M H0 (.ext m i p) D σ H) :
  ∃ env l xs,EnvOk X.K M H0 H σ env /\ σ[i]? = some (some (.ref l)) /\ H l = some (.lst xs) /\ (evD call p env).Good (fun d=>∃ es,d = .lst es /\ (m = true -> imms es = true) /\ ∀ zs H1,Same H H1 -> Reps X.K (hid (Ow M env σ) H1) es zs -> ∃ ys,H1 l = some (.lst ys) /\ ys.length + zs.length <= sizeLine /\ D.nx σ (upd H1 l (.lst (ys ++ zs)))) (XW X H0):=by
 obtain ⟨env,e,h⟩:=h
 simp only [exD] at h
 cases q:env[i]? with
 | none=>rw [q] at h; exact h.elim
 | some o=>
  rw [q] at h
  cases o with
  | none=>exact h.elim
  | some d=>
   cases d with
   | lst ds=>
    obtain ⟨l,hσ,h0,xs,hl,hr⟩:=e.own i _ hM q
    refine ⟨env,l,xs,e,hσ,hl,(Rs.good_bind.mp h).imp fun d hd=>?_⟩
    cases d with
    | lst es=>
     simp only [Pu.D.asL,Rs.bind_ok] at hd
     split at hd
     ·exact hd.elim
     ·rename_i hz
      simp only [Bool.or_eq_true,not_or,Bool.not_eq_true,Bool.and_eq_false_iff] at hz
      have hz2:ds.length + es.length <= lineD:=by simpa using hz.2
      refine ⟨es,rfl,fun hm=>?_,fun zs H1 s1 r1=>⟨xs,s1 _ _ hl,by rw [hr.length,r1.length,sizeLine_eq]; exact hz2,?_⟩⟩
      ·rcases hz.1 with z | z
       ·rw [hm] at z; cases z
       ·simpa using z
      ·obtain ⟨e2,f2⟩:=(e.grow s1).change (d':=.lst (ds ++ es)) (o:=.lst (xs ++ zs)) hM q hσ ⟨_,upd_same,(hr.mono (Fz.sm s1).hid).append r1⟩
       exact hd σ _ e2 ⟨(Fz.sm s1).trans f2,fun z=>by cases z⟩
    | _=>exact hd.elim
   | _=>exact h.elim
theorem sS_ext {apos:Pos} (C:Ctx X G N nm) (hi:N[i]? = some x) (hx:visB nm x = true) (hd1:(x == ("__debug__" : Str)) = false) (hd2:(x == ("__classdict__" : Str)) = false) (hM:i ∈ M) (hsp:sepP M p = true) (he:PE X e (tI X call p))
  (hl:(apos.endLine == pos.line) = true) {pos':Pos} (hs:starEach [e] X.env = (false,eval e X.env) :: starEach [] X.env:=by rfl):PS X (.Expr (.Call (.Attribute (.Name x px) "extend" apos) [e] [] pos) pos') (tS X call M H0 (.ext false i (.walk (.un .rows p)))):=by
 refine PS.weak (ps_expr (pe_bm PySem.F.plainAttrs_list PySem.F.slot_list_extend PySem.F.type_list_extend mt_extS (pe_var (by rw [C.hN]; exact hi) (C.vis x hx) hd1 hd2) (pa_cons (pe_hid he) pa_nil hs) rfl (by rw [hs]; rfl) hl hs rfl) rfl) fun D σ H h=>?_
 obtain ⟨env,l,xs,e,hσ,hl,g⟩:=ext_slot hM h
 simp only [evD,Rs.bind_assoc] at g
 refine ⟨.ref l,hσ,.inl ⟨rfl,xs,SqL.of hl⟩,blankD M 0 env,Ow M env σ,e.ows,e.readHid,?_⟩
 rw [evD_blank call env hsp]
 refine (Rs.good_bind.mp g).mono (fun d hd v H1 s1 kk r1=>?_) fun c z=>z.mono e.same0
 simp only [tNil]
 cases d with
 | tup es=>
  obtain ⟨es',e1,_,hd⟩:=hd
  cases e1
  obtain ⟨b,zs,rfl,q1,q2⟩:=r1
  obtain ⟨ys,g1,g2,g3⟩:=hd zs H1 s1 q2
  exact ⟨l,b,ys,zs,rfl,rfl,g1,.inr (SqT.same hid_same q1),g2,g3⟩
 | lst es=>
  obtain ⟨es',e1,_,hd⟩:=hd
  cases e1
  obtain ⟨b,zs,rfl,q1,q2⟩:=r1
  obtain ⟨ys,g1,g2,g3⟩:=hd zs H1 s1 q2
  exact ⟨l,b,ys,zs,rfl,rfl,g1,.inl (hid_same.seq q1),g2,g3⟩
 | _=>exact (show False from hd).elim
end
end Rd
namespace Rd
open PySem PySem.Spec PyProof.Rows L2 Pu
section
variable {X:Cx} {call:CallD} {a b:Expr} {pa pb:Px} {pos p1 p2:Pos} {G:Gw} {N:List Str} {nm:List (Str × NameKind)}
theorem mD_starts:MtR X "str.startswith" (fun x xs H Q=>∃ y,xs = [y] /\ rD2 X .starts x y H Q):=by
 intro pins s σ H x xs v us Q I rx rv ⟨y,e,dx,dy,r1,r2,h⟩
 subst e
 obtain ⟨u,rfl,ru⟩:=vals1 rv
 cases dx <;> cases dy <;> first
  | exact (show False from h).elim
  | skip
 rename_i z w
 have e1:x = V.str z:=r1
 have e2:y = V.str w:=r2
 subst e1; subst e2
 obtain ⟨t,rfl⟩:=rx
 obtain ⟨t',rfl⟩:=ru
 refine call_meets F.slot_str_startswith (typeIs_str _ _ _) F.entry_str_startswith (F.args_str_startswith_2 _ _) (gives_str_startswith z w t t').meets ?_
 exact ⟨.bl _,H,I,rfl,Out.now h rfl⟩
theorem pI_starts {apos:Pos} {dc:D} (ha:PE X a (tI X call pa)) (hb:PE X b (tI X call (.con dc))) (hstr:True) (hl:(apos.endLine == pos.line) = true) (hbase:attributeBase a "startswith" X.env (eval a X.env) = eval a X.env:=by rfl)
  (hs:starEach [b] X.env = (false,eval b X.env) :: starEach [] X.env:=by rfl):PE X (.Call (.Attribute a "startswith" apos) [b] [] pos) (tI X call (.bi .starts pa (.con dc))):=by
 refine PE.weak (pe_bm F.plainAttrs_str F.slot_str_startswith F.type_str_startswith mD_starts ha (pa_cons hb pa_nil hs) hbase (by rw [hs]; rfl) hl hs rfl) fun σ H Q h=>?_
 obtain ⟨env,r,h⟩:=h
 simp only [evD] at h
 refine tI.then r h fun dx x H1 s1 r1 q1 h1=>?_
 simp only [Rs.bind_ok] at h1
 have ty:∃ z,dx = .str z:=by
  cases dx <;> cases dc <;> first | exact (show False from h1).elim | exact ⟨_,rfl⟩
 obtain ⟨z,rfl⟩:=ty
 refine ⟨by rw [show x = V.str z from r1]; rfl,env,q1,?_⟩
 intro y H2 s2 r2
 exact ⟨y,rfl,.str z,dc,r1.mono s2,r2,h1.mono (fun _ o=>o.mono s2) fun _ q=>q.mono s2⟩
end
example (K:PySem.W.Frag):PySem.W.kitOne K (.type "str") (.type "tuple") = some false:=by
 first | rfl | decide | (unfold PySem.W.kitOne PySem.W.kitCls; simp)
end Rd
namespace Rd
open PySem PySem.Spec PyProof.Rows L2 Pu
section
variable {X:Cx} {call:CallD} {a b:Expr} {pa pb:Px} {pos p1 p2:Pos} {G:Gw} {N:List Str} {nm:List (Str × NameKind)}
theorem globT {K:PySem.W.Frag} {a:Addr} {y:Str} (hy:PySem.W.nsIn K mainGlobals y = some (some (.ref a))) {its:List Value} {n:Nat} {sl:Array (Option Value)} {ds:List D} {xs:List V} (v:K.lookup a = some ⟨.type "tuple",none,.seq its.toArray n,sl⟩) (hz:its.length <= 1000) (r:Vals xs its) (rs:∀ H,Reps K H ds xs) (H:Hp):Rep K H (.tup ds) (.ref a):=
 ⟨a,xs,rfl,.inr ⟨y,_,its.toArray,n,hy,v,rfl,rfl,rfl,lt_line (Nat.le_trans (by simpa using hz) (by decide)),by simpa using r⟩,rs H⟩
variable {M:List Nat} {H0:Hp}
end
end Rd
namespace Rd
open PySem PySem.Spec PyProof.Rows L2 Pu
section
variable {prog:Program} {w:World}
def keysAre (es:List (Int × Value)):List Str:=es.map fun e=>strOf e.2
def TS (prog:Program) (w:World) (lb:Bool) (h:Heap) (a:Addr) (ks:List Str):Prop:=
 ∃ o es ep t,(h.get? a = some o /\ o.ExactSet /\ o.data = .set es ep t) /\ ElemsOf (PySem.strKind prog w) es.toList /\ (t.fits es.size = true /\ es.size < scanBound) /\ t.led = lb /\ (es.size ≠ 0 -> t.plain = false) /\ (keysAre es.toList).Perm ks /\ ks.Nodup
theorem TS.there {lb:Bool} {h:Heap} {a:Addr} {ks:List Str} (x:TS prog w lb h a ks):∃ o,h.get? a = some o:=let ⟨o,_,_,_,⟨e,_⟩,_⟩:=x; ⟨o,e⟩
theorem is_str {k:Str} {v:Value} (h:(PySem.strKind prog w).is k v = true):∃ t,v = .str k t:=Value.isStrOf_shape h
theorem key_of {es:List (Int × Value)} (h:ElemsOf (PySem.strKind prog w) es) (k:Str):k ∈ keysAre es ↔ ∃ e ∈ es,(PySem.strKind prog w).is k e.2 = true:=by
 unfold keysAre
 rw [List.mem_map]
 constructor
 ·rintro ⟨e,he,rfl⟩
  obtain ⟨⟨k',hk,_⟩,_⟩:=h e he
  obtain ⟨t,q⟩:=is_str hk
  refine ⟨e,he,?_⟩
  rw [q] at hk ⊢
  exact hk
 ·rintro ⟨e,he,hk⟩
  obtain ⟨t,q⟩:=is_str hk
  exact ⟨e,he,by rw [q]; rfl⟩
end
section
variable {prog:Program} {w:World} {A:Around} {E:Value -> Shared -> Prop} {s:Shared}
end
end Rd
namespace Rd
open PySem PySem.Spec PyProof.Rows L2 Pu
section
variable {prog:Program} {w:World} {A:Around} {R:Result -> Shared -> Prop} {I:Addr} {fp wr:List Addr} {G:Array GenState -> Array GenState -> Prop} {n:Nat} {P:Nat -> Value -> Prop} {St:Nat -> Shared -> Prop} {lb:Bool}
end
section
variable {prog:Program} {w:World} {A:Around} {E:Value -> Shared -> Prop} {s:Shared}
abbrev byT (w:World):Bool:=w.params.followText "set-order"
end
end Rd
namespace Rd
open PySem PySem.Spec PyProof.Rows L2 Pu
section
variable {prog:Program} {w:World} {A:Around} {E:Value -> Shared -> Prop} {s:Shared}
end
end Rd
namespace Rd
open PySem PySem.Spec PyProof.Rows L2 Pu
section
variable {prog:Program} {w:World} {A:Around} {E:Value -> Shared -> Prop} {s:Shared} {a it:Addr} {o:Obj} {es:Array (Int × Value)} {ep:Nat} {t:SetTable}
end
end Rd
namespace Rd
open PySem PySem.Spec PyProof.Rows L2 Pu
section
variable {prog:Program} {w:World} {A:Around} {E:Value -> Shared -> Prop} {s:Shared} {a it:Addr} {o:Obj} {es:Array (Int × Value)} {ep:Nat} {t:SetTable}
end
end Rd
namespace Rd
open PySem PySem.Spec PyProof.Rows L2 Pu
section
variable {prog:Program} {w:World} {A:Around} {E:Value -> Shared -> Prop} {s:Shared} {a:Addr}
end
end Rd
namespace Rd
open PySem PySem.Spec PyProof.Rows L2 Pu
section
variable {prog:Program} {w:World} {A:Around} {E:Value -> Shared -> Prop} {s:Shared} {a:Addr}
end
def SetO (X:Cx) (a:Addr) (ks:List Str):HO:=.ext fun h=>TS X.prog X.w (!byT X.w) h a ks
section
variable {X:Cx}
variable {call:CallD} {a:Expr} {pa:Px} {pos p1 p2 p3:Pos} {G:Gw} {N:List Str} {nm:List (Str × NameKind)}
end
end Rd
namespace Rd
open PySem PySem.Spec PyProof.Rows L2 Pu
def plainN (x:Str):Bool:=!(x == ("__debug__" : Str)) && !(x == ("__classdict__" : Str))
def chkV (N:List Str) (nm:List (Str × NameKind)) (i:Nat) (x:Str):Bool:=(N[i]? == some x) && visB nm x && plainN x
def chkS (N:List Str) (nm:List (Str × NameKind)) (i:Nat) (x:Str):Bool:=(N[i]? == some x) && locB nm x && plainN x
def chkG (nm:List (Str × NameKind)) (x:Str):Bool:=gloB nm x && plainN x
section
variable {X:Cx} {call:CallD} {G:Gw} {N:List Str} {nm:List (Str × NameKind)} {e a b c:Expr} {es:List Expr} {p pa pb pc pl ph:Px} {pos p1 p2 p3:Pos} {x y:Str}
theorem plainN.d (h:plainN x = true):(x == ("__debug__" : Str)) = false /\ (x == ("__classdict__" : Str)) = false:=by
 simpa [plainN] using h
theorem vV (C:Ctx X G N nm) {i:Nat} (h:chkV N nm i x = true):PE X (.Name x pos) (tI X call (.var i)):=by
 simp only [chkV,Bool.and_eq_true,beq_iff_eq] at h
 obtain ⟨d1,d2⟩:=plainN.d h.2
 exact pI_var (by rw [C.hN]; exact h.1.1) (C.vis x h.1.2) d1 d2
def GlobC (G:Gw) (x:Str) (d:D):Prop:=∃ v u,G.mg x = some u /\ RelV v u /\ ∀ H,Rep G.K H d v
theorem vG (C:Ctx X G N nm) {d:D} (hk:GlobC G x d) (h:chkG nm x = true):PE X (.Name x pos) (tI X call (.con d)):=by
 simp only [chkG,Bool.and_eq_true] at h
 obtain ⟨d1,d2⟩:=plainN.d h.2
 obtain ⟨v,u,h1,h2,h3⟩:=hk
 exact pI_glob (C.glo x h.1) ⟨v,u,by rw [C.mg]; exact h1,h2,fun H=>by rw [C.K]; exact h3 H⟩ d1
theorem cF (C:Ctx X G N nm) {fi:Nat} (hc:Callee G call fi x) (h:chkG nm x = true) (ha:PA X (e :: es) (tA X call p)) (he:starEach (e :: es) X.env = (false,eval e X.env) :: starEach es X.env:=by rfl) (hpl:(backTo pos (starEach es X.env)).any (·.1) = false:=by rfl) :
  PE X (.Call (.Name x p1) (e :: es) [] pos) (tI X call (.call fi p)):=by
 simp only [chkG,Bool.and_eq_true] at h
 exact pI_call C hc h.1 (plainN.d h.2).1 ha he hpl
theorem cLen (C:Ctx X G N nm) (hm:G.mg "len" = none) (ha:PE X a (tI X call pa)) (hg:gloB nm "len" = true) (hs:starEach [a] X.env = (false,eval a X.env) :: starEach [] X.env:=by rfl):PE X (.Call (.Name "len" p1) [a] [] pos) (tI X call (.un .len pa)):=pI_fun C cD_len ha hg hm PySem.boot_len (by decide +kernel) (by decide +kernel) hs
theorem cAll (C:Ctx X G N nm) (hm:G.mg "all" = none) (ha:PE X a (tI X call pa)) (hg:gloB nm "all" = true) (hs:starEach [a] X.env = (false,eval a X.env) :: starEach [] X.env:=by rfl):PE X (.Call (.Name "all" p1) [a] [] pos) (tI X call (.un .all pa)):=pI_fun C (cD_all C.calm) ha hg hm boot_all (by decide +kernel) (by decide +kernel) hs
theorem cAny (C:Ctx X G N nm) (hm:G.mg "any" = none) (ha:PE X a (tI X call pa)) (hg:gloB nm "any" = true) (hs:starEach [a] X.env = (false,eval a X.env) :: starEach [] X.env:=by rfl):PE X (.Call (.Name "any" p1) [a] [] pos) (tI X call (.un .any pa)):=pI_fun C (cD_any C.calm) ha hg hm boot_any (by decide +kernel) (by decide +kernel) hs
theorem cTuple (C:Ctx X G N nm) (hm:G.mg "tuple" = none) (ha:PE X a (tI X call pa)) (hg:gloB nm "tuple" = true) (hs:starEach [a] X.env = (false,eval a X.env) :: starEach [] X.env:=by rfl):PE X (.Call (.Name "tuple" p1) [a] [] pos) (tI X call (.un .tuple pa)):=pI_ty C cD_tuple ha hg hm PyProof.Rows.boot_tuple (by decide +kernel) (by decide +kernel) hs
theorem eEq (C:Ctx X G N nm) (ha:PE X a (tI X call pa)) (hb:PE X b (tI X call pb)):PE X (.Compare a [.Eq] [b] pos) (tI X call (.bi .eq pa pb)):=pI_cmp (opD_eq C.un) ha hb (nomark _)
theorem eGt (ha:PE X a (tI X call pa)) (hb:PE X b (tI X call pb)):PE X (.Compare a [.Gt] [b] pos) (tI X call (.bi .gt pa pb)):=pI_cmp opD_gt ha hb (nomark _)
theorem eGe (ha:PE X a (tI X call pa)) (hb:PE X b (tI X call pb)):PE X (.Compare a [.GtE] [b] pos) (tI X call (.bi .ge pa pb)):=pI_cmp opD_ge ha hb (nomark _)
theorem eIn (C:Ctx X G N nm) (ha:PE X a (tI X call pa)) (hb:PE X b (tI X call pb)) (hm:behindInMarks .In b = false:=by rfl):PE X (.Compare a [.In] [b] pos) (tI X call (.bi .isin pa pb)):=pI_cmp (opD_in C.un) ha hb hm
theorem tEq (C:Ctx X G N nm) (ha:PE X a (tI X call pa)) (hb:PE X b (tI X call pb)):PT X (.Compare a [.Eq] [b] pos) (tT X call (.bi .eq pa pb)):=pT_cmp (opD_eq C.un) ha hb (nomark _)
theorem tNe (C:Ctx X G N nm) (ha:PE X a (tI X call pa)) (hb:PE X b (tI X call pb)):PT X (.Compare a [.NotEq] [b] pos) (tT X call (.bi .ne pa pb)):=pT_cmp (opD_ne C.un) ha hb (nomark _)
theorem tLt (ha:PE X a (tI X call pa)) (hb:PE X b (tI X call pb)):PT X (.Compare a [.Lt] [b] pos) (tT X call (.bi .lt pa pb)):=pT_cmp opD_lt ha hb (nomark _)
theorem tGt (ha:PE X a (tI X call pa)) (hb:PE X b (tI X call pb)):PT X (.Compare a [.Gt] [b] pos) (tT X call (.bi .gt pa pb)):=pT_cmp opD_gt ha hb (nomark _)
theorem tIn (C:Ctx X G N nm) (ha:PE X a (tI X call pa)) (hb:PE X b (tI X call pb)) (hm:behindInMarks .In b = false:=by rfl):PT X (.Compare a [.In] [b] pos) (tT X call (.bi .isin pa pb)):=pT_cmp (opD_in C.un) ha hb hm
theorem tNi (C:Ctx X G N nm) (ha:PE X a (tI X call pa)) (hb:PE X b (tI X call pb)) (hm:behindInMarks .NotIn b = false:=by rfl):PT X (.Compare a [.NotIn] [b] pos) (tT X call (.bi .notin pa pb)):=pT_cmp (opD_notin C.un) ha hb hm
theorem eIx (ha:PE X a (tI X call pa)) (hb:PE X b (tI X call pb)) (hs:PlainIx b:=by intro _ _; rfl):PE X (.Subscript a b pos) (tI X call (.bi .idx pa pb)):=pI_ix opD_ix ha hb hs
theorem eAdd (ha:PE X a (tI X call pa)) (hb:PE X b (tI X call pb)):PE X (.BinOp a .Add b pos) (tI X call (.bi .add pa pb)):=pI_bin opD_add ha hb
theorem eSub (ha:PE X a (tI X call pa)) (hb:PE X b (tI X call pb)):PE X (.BinOp a .Sub b pos) (tI X call (.bi .sub pa pb)):=pI_bin opD_sub ha hb
theorem eMul (ha:PE X a (tI X call pa)) (hb:PE X b (tI X call pb)):PE X (.BinOp a .Mult b pos) (tI X call (.bi .mul pa pb)):=pI_bin opD_mul ha hb
theorem eMod (ha:PE X a (tI X call pa)) (hb:PE X b (tI X call pb)):PE X (.BinOp a .Mod b pos) (tI X call (.bi .mod pa pb)):=pI_bin opD_mod ha hb
theorem eDiv (ha:PE X a (tI X call pa)) (hb:PE X b (tI X call pb)):PE X (.BinOp a .FloorDiv b pos) (tI X call (.bi .fdiv pa pb)):=pI_bin opD_fdiv ha hb
theorem gOne (C:Ctx X G N nm) (h:chkS N nm 0 x = true):TgOk X (.Name x pos) 0 1:=by
 simp only [chkS,Bool.and_eq_true,beq_iff_eq] at h
 obtain ⟨h1,h2⟩:=C.sto x h.1.2
 exact tg_one (by rw [C.hN]; exact h.1.1) (by rw [C.hN]; exact C.nd) h1 h2
theorem gTwo {k:Nat} (C:Ctx X G N nm) (h:chkS N nm 0 x = true) (h':chkS N nm 1 y = true):TgOk X (.Tuple [.Name x p1,.Name y p2] k pos) 2 2:=by
 simp only [chkS,Bool.and_eq_true,beq_iff_eq] at h h'
 obtain ⟨h1,h2⟩:=C.sto x h.1.2
 obtain ⟨h3,h4⟩:=C.sto y h'.1.2
 exact tg_two (by rw [C.hN]; exact h.1.1) (by rw [C.hN]; exact h'.1.1) (by rw [C.hN]; exact C.nd) h1 h2 h3 h4 C.calm
def scB (N:List Str) (nm:List (Str × NameKind)) (ls:List Str) (sc:Scope):Bool:=(sc.kind == .function) && decide (ls ++ hidN ls N).Nodup && scOkB N nm ls sc.names && N.all (fun n=>!ls.contains n || (sc.names.lookup (dum n)).isNone)
theorem scO {ls:List Str} {sc:Scope} (h:scB N nm ls sc = true):ScOk N nm ls sc:=by
 simp only [scB,Bool.and_eq_true,beq_iff_eq,decide_eq_true_eq] at h
 refine ⟨h.1.1.1,h.1.1.2,h.1.2,fun n hn hc=>?_⟩
 have:=List.all_eq_true.mp h.2 n hn
 simp only [hc,Bool.not_true,Bool.false_or,Option.isNone_iff_eq_none] at this
 exact this
variable {M:List Nat} {H0:Hp} {i j l:Nat} {px:Pos}
def chkA (N:List Str) (nm:List (Str × NameKind)) (M:List Nat) (i:Nat) (x:Str):Bool:=chkS N nm i x && !M.contains i
theorem chkA.at (h:chkA N nm M i x = true):N[i]? = some x /\ locB nm x = true /\ i ∉ M:=by
 simp only [chkA,chkS,Bool.and_eq_true,beq_iff_eq,Bool.not_eq_true',List.contains_eq_mem,decide_eq_false_iff_not] at h
 exact ⟨h.1.1.1,h.1.1.2,h.2⟩
def chkO (N:List Str) (nm:List (Str × NameKind)) (M:List Nat) (i:Nat) (x:Str):Bool:=chkS N nm i x && M.contains i && visB nm x
theorem chkO.at (h:chkO N nm M i x = true):N[i]? = some x /\ locB nm x = true /\ plainN x = true /\ i ∈ M /\ visB nm x = true:=by
 simp only [chkO,chkS,Bool.and_eq_true,beq_iff_eq,List.contains_eq_mem,decide_eq_true_eq] at h
 exact ⟨h.1.1.1.1,h.1.1.1.2,h.1.1.2,h.1.2,h.2⟩
theorem aSet (C:Ctx X G N nm) (h:chkA N nm M i x = true) (he:PE X e (tI X call p)) (hsp:sepP M p = true:=by rfl) (hs:swapsWith e (some (.Name x px)) pos.line X.env = pure false:=by rfl):PS X (.Assign [.Name x px] e pos) (tS X call M H0 (.set false i p)):=by
 obtain ⟨h1,h2,h3⟩:=chkA.at h
 exact sS_set C h1 h2 h3 hsp he hs
theorem aSetM (C:Ctx X G N nm) (h:chkA N nm M i x = true) (he:PE X e (tI X call p)) (hs:swapsWith e (some (.Name x px)) pos.line X.env = pure false:=by rfl):PS X (.Assign [.Name x px] e pos) (tS X call M H0 (.set true i p)):=by
 obtain ⟨h1,h2,h3⟩:=chkA.at h
 exact sS_setM C h1 h2 h3 he hs
theorem aOwn (C:Ctx X G N nm) (h:chkO N nm M i x = true) (he:PE X e (tF X call p)) (hs:swapsWith e (some (.Name x px)) pos.line X.env = pure false:=by rfl):PS X (.Assign [.Name x px] e pos) (tS X call M H0 (.own i p)):=by
 obtain ⟨h1,h2,h3,h4,h5⟩:=chkO.at h
 exact sS_own C h1 h2 he hs
section
variable {elt tg iter:Expr} {ifs:List Expr} {ps pe:Px} {nt:Nat} {ls:List Str} {sc:Scope}
theorem ps_hid {st:Stmt} (h:PS X st (tAsg (tF X call p) (gName i))):PS X st (tAsg (tFH X call p) (gName i)):=by
 intro pins s σ H D I ⟨env,L,hL,r,g⟩
 obtain ⟨ps,e1,e2,I'⟩:=Inv.hide I hL
 refine wpAny_mono (h (ps ++ pins) s σ (hid L H) ⟨fun σ' H1=>Same (hid L H) H1 /\ ((∀ a ∈ L,H1 a = none) -> D.nx σ' (uni L H H1)),fun _ _=>False,fun _ _=>False,fun _ _=>False⟩ I' ⟨env,r,g.mono (fun d ⟨ds,ed,hd⟩=>⟨ds,ed,fun l xs H1 s1 h0 h1 rv=>⟨s1,fun hn=>?_⟩⟩) fun c z=>z⟩)
  (fun f s1 q=>?_) fun _ _ z=>z
 ·have hl:l ∉ L:=fun hm=>by rw [hn l hm] at h1; cases h1
  exact hd l xs _ (uni_same s1) (fun a ha=>uni_out ha) (by rw [hid_in hl] at h0; exact h0) (by rw [uni_in hl]; exact h1) (by rw [hid_uni hn]; exact rv)
 ·cases f with
  | next=>
   obtain ⟨σ',H1,I1,sm,q⟩:=q
   obtain ⟨hn,I2⟩:=Inv.unhide I hL e1 e2 sm I1
   exact ⟨σ',_,I2,q hn⟩
  | brk=>obtain ⟨_,_,_,q⟩:=q; exact q.elim
  | cont=>obtain ⟨_,_,_,q⟩:=q; exact q.elim
  | ret u=>obtain ⟨_,_,_,_,_,q⟩:=q; exact q.elim
theorem setF_sep (hM:i ∉ M) (hsp:sepP M p = true) (hl:isL p = true) {D:Ends} {σ:L2.St} {H:Hp} (h:tS X call M H0 (.set false i p) D σ H):tAsg (tFH X call p) (gName i) D σ H:=by
 obtain ⟨env,L,k1,k2,k3⟩:=set_sep hM hsp h
 refine ⟨env,L,k1,k2,?_⟩
 cases q:evD call p env with
 | ok d=>
  rw [q] at k3
  obtain ⟨ds,rfl⟩:=isL_lst hl q
  refine ⟨ds,rfl,fun l xs H1 s1 kk h0 h1 rv=>k3 _ _ s1 kk ?_⟩
  have hl':l ∉ L:=fun hm=>by
   obtain ⟨o,e3,_⟩:=k1 l hm
   rw [h0] at e3; cases e3
  exact ⟨l,xs,rfl,SqL.of (by rw [hid_in hl']; exact h1),rv⟩
 | ex c=>rw [q] at k3; exact k3
 | stuck=>rw [q] at k3; exact k3.elim
def tgN:Expr -> List Str
 | .Name x _=>[x]
 | .Tuple es _ _=>es.filterMap fun e=>match e with
  | .Name x _=>some x
  | _=>none
 | _=>[]
abbrev cN (tg:Expr) (N:List Str):List Str:=tgN tg ++ hidN (tgN tg) N
theorem aSetC (C:Ctx X G N nm) (h:chkA N nm M i x = true) (hsc:scB N nm (tgN tg) sc = true) (hsrc:PI X tg iter (tW X call ps)) (htg:∀ X',Ctx X' G (cN tg N) sc.names -> TgOk X' tg nt (tgN tg).length) (hif:∀ X',Ctx X' G (cN tg N) sc.names -> PIf X' ifs (tT X' call pc))
  (helt:∀ X',Ctx X' G (cN tg N) sc.names -> PE X' elt (tI X' call pe)) (hsp:sepP M (.comp nt ps pc pe) = true:=by rfl) (hs:∀ x,foldedSetIterable iter X.env x = pure x:=by intro _; rfl):PS X (.Assign [.Name x px] (.ListComp elt [⟨tg,iter,ifs,0⟩] sc p1) pos) (tS X call M H0 (.set false i (.comp nt ps pc pe))):=by
 obtain ⟨h1,h2,h3⟩:=chkA.at h
 exact PS.weak (ps_hid (ps_setComp C (scO hsc) (by rw [C.hN]; exact h1) h2 hsrc htg hif helt hs)) fun D σ H q=>setF_sep h3 hsp rfl q
theorem fComp (C:Ctx X G N nm) (hsc:scB N nm (tgN tg) sc = true) (hsrc:PI X tg iter (tW X call ps)) (htg:∀ X',Ctx X' G (cN tg N) sc.names -> TgOk X' tg nt (tgN tg).length) (hif:∀ X',Ctx X' G (cN tg N) sc.names -> PIf X' ifs (tT X' call pc))
  (helt:∀ X',Ctx X' G (cN tg N) sc.names -> PE X' elt (tI X' call pe)) (hs:∀ x,foldedSetIterable iter X.env x = pure x:=by intro _; rfl):PE X (.ListComp elt [⟨tg,iter,ifs,0⟩] sc pos) (tF X call (.comp nt ps pc pe)):=pF_comp C (scO hsc) hsrc htg hif helt hs
end
theorem aExt {apos pos':Pos} (C:Ctx X G N nm) (h:chkO N nm M i x = true) (he:PE X e (tI X call p)) (hl:(apos.endLine == pos.line) = true) (hsp:sepP M p = true:=by rfl) (hs:starEach [e] X.env = (false,eval e X.env) :: starEach [] X.env:=by rfl) :
  PS X (.Expr (.Call (.Attribute (.Name x px) "extend" apos) [e] [] pos) pos') (tS X call M H0 (.ext false i (.walk (.un .rows p)))):=by
 obtain ⟨h1,h2,h3,h4,h5⟩:=chkO.at h
 obtain ⟨d1,d2⟩:=plainN.d h3
 exact sS_ext C h1 h5 d1 d2 h4 hsp he hl hs
theorem lOne (C:Ctx X G N nm) (h:chkA N nm M i x = true):PG X (.Name x pos) (gS X M H0 [i] 0):=by
 obtain ⟨h1,h2,h3⟩:=chkA.at h
 exact gS_one C h1 h2 h3
theorem lTwo {k:Nat} (C:Ctx X G N nm) (h:chkA N nm M i x = true) (h':chkA N nm M j y = true):PG X (.Tuple [.Name x p1,.Name y p2] k pos) (gS X M H0 [i,j] 2):=by
 obtain ⟨h1,h2,h3⟩:=chkA.at h
 obtain ⟨g1,g2,g3⟩:=chkA.at h'
 exact gS_two C h1 h2 h3 g1 g2 g3
theorem lThree {k:Nat} {z:Str} (C:Ctx X G N nm) (h:chkA N nm M i x = true) (h':chkA N nm M j y = true) (h'':chkA N nm M l z = true):PG X (.Tuple [.Name x p1,.Name y p2,.Name z p3] k pos) (gS X M H0 [i,j,l] 3):=by
 obtain ⟨h1,h2,h3⟩:=chkA.at h
 obtain ⟨g1,g2,g3⟩:=chkA.at h'
 obtain ⟨k1,k2,k3⟩:=chkA.at h''
 exact gS_three C h1 h2 h3 g1 g2 g3 k1 k2 k3
end
end Rd
namespace Rd
open PySem PySem.Spec PyProof.Rows L2 Pu
section
variable {X:Cx} {ps:List (Addr × Obj)} {σ:L2.St} {H:Hp} {s:Shared} {B h1 h2:Heap}
end
section
variable {X:Cx} {pins:List (Addr × Obj)} {σ σ':L2.St} {H:Hp} {s:Shared} {h':Heap}
end
structure ExcC (G:Gw) (x:Str):Prop where
 ex:∃ C,PySem.W.nsIn G.K mainGlobals x = some (some (.ref C)) /\ G.mg x = some (.ref C) /\ ∃ bs nid iid Bn,PySem.W.excIn G.K C bs nid = true /\ ExcBaseFacts Bn nid iid bs
section
variable {X:Cx} {pins:List (Addr × Obj)} {σ:L2.St} {H:Hp} {s:Shared} {E:Value -> Shared -> Prop} {A:Around}
end
section
variable {X:Cx} {pins:List (Addr × Obj)} {H:Hp} {s:Shared} {E:Value -> Shared -> Prop} {C CR a:Addr} {rn en y:Str} {np hp py pe p2:Pos} {je j:Nat} {D:Ends}
end
end Rd
namespace Rd
open PySem PySem.Spec PyProof.Rows L2 Pu
structure Takes (G:Gw) (rn:Str) (cs:List Str):Prop where
 ex:∃ CR,G.mg rn = some (.ref CR) /\ ∀ c ∈ cs,∃ C,PySem.W.nsIn G.K mainGlobals c = some (some (.ref C)) /\ G.mg c = some (.ref C) /\ PySem.W.exmOne G.K (.ref C) (.ref CR) = some true
section
variable {X:Cx} {call:CallD} {G:Gw} {N:List Str} {nm:List (Str × NameKind)} {e:Expr} {p:Px} {x y en rn:Str} {i j je:Nat} {H0:Hp} {cs:List Str} {px p1 np hp py pe p2 pos:Pos}
end
end Rd
namespace Rd
open PySem PySem.Spec PyProof.Rows L2 Pu
def tM (X:Cx) (call:CallD) (p:Px):TE:=fun σ H Q=>∃ env,ReadOk X.K H σ env /\ ((evD call p env).bind fun d=>if msgOk d then .ok d else .stuck).Good (fun d=>∀ v H',Same H H' -> Q v H') (XW X H)
section
variable {X:Cx} {call:CallD} {G:Gw} {N:List Str} {nm:List (Str × NameKind)} {e:Expr} {p:Px} {x:Str} {i j:Nat} {M:List Nat} {H0:Hp} {np cpos pos:Pos}
theorem sS_raise (C:Ctx X G N nm) (hc:ExcC G x) (hg:chkG nm x = true) (he:PE X e (tM X call p)) (hs:starEach [e] X.env = (false,eval e X.env) :: starEach [] X.env:=by rfl) :
  PS X (.Raise (some (.Call (.Name x np) [e] [] cpos)) none pos) (tS X call M H0 (.raise x p)):=by
 obtain ⟨Cc,g1,g2,bs,nid,iid,Bn,hq,FB⟩:=hc.ex
 simp only [chkG,Bool.and_eq_true] at hg
 have hmg:X.mg x = some (.ref Cc):=by rw [C.mg]; exact g2
 refine PS.weak (ps_raise C.calm (C.glo x hg.1) hmg (by rw [C.K]; exact hq) FB he (plainN.d hg.2).1 hs) fun D σ H ⟨env,e0,h⟩=>⟨env,e0.readOk,?_⟩
 simp only [exD] at h
 cases q:evD call p env with
 | ok d=>
  rw [q] at h
  simp only [Rs.bind_ok] at h ⊢
  by_cases hm:msgOk d = true
  ·rw [if_pos hm] at h ⊢
   exact fun v H' s=>⟨rfl,fun a s' F=>h Cc H' hmg (e0.same.trans s) a s' F⟩
  ·rw [if_neg hm] at h
   exact h.elim
 | ex c=>rw [q] at h; exact (show XW X H0 c from h).mono e0.same
 | stuck=>rw [q] at h; exact h.elim
def PJ (X:Cx) (call:CallD) (vs:List Expr) (p:Px):Prop:=∀ (pins:List (Addr × Obj)) (s:Shared) (σ:L2.St) (H:Hp) (env:Fm) (acc:Str) (Q:Str -> Shared -> Prop) (ds:List D),L2.Inv X pins σ H s -> ReadOk X.K H σ env -> evD call p env = .ok (.lst ds) -> ds.all txtOk = true ->
 acc.length + 20000 * vs.length <= 16000000 -> (∀ out s1 H1,L2.Inv X pins σ H1 s1 -> Same H H1 -> out.length <= acc.length + 20000 * vs.length -> Q out s1) -> Joins (model X.prog X.w) X.A X.xe (evalEach vs X.env) acc Q s
theorem strLen_app (x y:Str):(x ++ y).length = x.length + y.length:=PySem.strLen_append x y
theorem hex_len:∀ c < 256,(Nat.toDigits 16 c).length <= 2:=by decide +kernel
theorem reprChar_len (q c:Nat) (hc:c < 256):(Builtin.Str.reprChar q c).length <= 10:=by
 have:=hex_len c hc
 unfold Builtin.Str.reprChar
 repeat' split
 all_goals first | omega | (simp; done) | (simp; omega)
theorem repr_len (x:Str) (hx:∀ c ∈ x.cps.toList,c < 256):(reprText x).length <= 10 * x.length + 2:=by
 have fold:∀ (l:List Nat) (acc:Array Nat),(∀ c ∈ l,c < 256) -> (l.foldl (fun out c=>out ++ (Builtin.Str.reprChar (reprQuote x) c).toArray) acc).size <= acc.size + 10 * l.length:=by
  intro l
  induction l with
  | nil=>intro acc _; simp
  | cons c l ih=>
   intro acc hl
   have h1:=ih (acc ++ (Builtin.Str.reprChar (reprQuote x) c).toArray) fun c hc=>hl c (List.mem_cons_of_mem _ hc)
   have h2:=reprChar_len (reprQuote x) c (hl c (List.mem_cons_self ..))
   simp only [List.foldl_cons,List.length_cons,Array.size_append,List.size_toArray] at h1 ⊢
   omega
 have h:=fold x.cps.toList #[reprQuote x] hx
 show ((x.cps.foldl _ #[reprQuote x]).push (reprQuote x)).size <= 10 * x.cps.size + 2
 rw [Array.size_push,<- Array.foldl_toList]
 simp only [Array.length_toList,List.size_toArray,List.length_singleton] at h ⊢
 omega
theorem pj_nil:PJ X call [] .nil:=fun pins s σ H env acc Q ds I r he hd hl k=>k acc s H I (Same.refl H) (by simp)
theorem pj_con {z:Str} {k:Nat} {vs:List Expr} (h:PJ X call vs p) (hz:z.length <= 20000):PJ X call (.Constant (.str z) k pos :: vs) p:=by
 intro pins s σ H env acc Q ds I r he hd hl kk
 refine Calls.Constant_str ⟨z,_,rfl,?_,?_⟩
 ·rw [strLen_app]
  simp only [List.length_cons] at hl
  show _ <= 16777216
  omega
 ·refine h pins _ σ H env (acc ++ z) Q ds (I.tok _) r he hd (by rw [strLen_app]; simp only [List.length_cons] at hl; omega) fun out s1 H1 I1 s1' ho=>kk out s1 H1 I1 s1' ?_
  rw [strLen_app] at ho
  simp only [List.length_cons]
  omega
theorem pj_rep {vs:List Expr} (he:PE X e (tI X call (.var i))) (h:PJ X call vs p):PJ X call (.FormattedValue e 114 none pos :: vs) (.cons (.var i) p):=by
 intro pins s σ H env acc Q ds I r hev hd hl kk
 simp only [evD] at hev
 cases q:evD call (.var i) env with
 | ok d=>
  have q':=q
  simp only [evD] at q'
  rw [q'] at hev
  simp only [Rs.bind_ok] at hev
  cases q2:evD call p env with
  | ok d2=>
   rw [q2] at hev
   cases d2 with
   | lst es=>
    simp only [Pu.D.asL,Rs.bind_ok] at hev
    cases hev
    simp only [List.all_cons,Bool.and_eq_true] at hd
    cases d with
    | str z=>
     have hz2:z.length <= 1000 /\ ∀ c ∈ z.cps.toList,c < 256:=by
      have h0:=hd.1
      simp only [txtOk,Bool.and_eq_true,decide_eq_true_eq,List.all_eq_true] at h0
      exact h0
     have hz:=hz2.1
     have hrl:=repr_len z hz2.2
     refine wpAny_FormattedValue_repr (wpAny_mono (he pins s σ H (fun v H'=>v = .str z /\ Same H H') I ⟨env,r,by rw [q]; exact fun v H' s1 rv=>⟨rv,s1⟩⟩) (fun u s1 ⟨v,H1,I1,rv,hv,sm⟩=>?_) fun _ _ z=>z)
     subst hv
     obtain ⟨t,rfl⟩:=rv
     refine wpAny_pyReprObj_gives (typeIs_str _ _ _) PySem.F.slot_str_repr PySem.F.entry_str_repr (PySem.F.args_str_repr_1 _) (gives_str_repr z t) ?_ rfl (by show _ <= 16777216; omega)
     have fin:∀ t' tk,∃ y t,(Value.str (reprText z) t':Value) = .str y t /\ (acc ++ y).length <= sizeLine /\ Joins (model X.prog X.w) X.A X.xe (evalEach vs X.env) (acc ++ y) Q { s1 with toks:=tk }:=fun t' tk=>by
      refine ⟨reprText z,t',rfl,?_,?_⟩
      ·rw [strLen_app]
       simp only [List.length_cons] at hl
       show _ <= 16777216
       omega
      ·refine h pins _ σ H1 env (acc ++ reprText z) Q es (I1.tok tk) (r.mono sm) q2 hd.2 (by rw [strLen_app]; simp only [List.length_cons] at hl; omega) fun out s2 H2 I2 s2' ho=>kk out s2 H2 I2 (sm.trans s2') ?_
       rw [strLen_app] at ho
       simp only [List.length_cons]
       omega
     exact formatField_str (s:={ s1 with toks:=s1.toks + 1 }) (fun t' tk=>fin t' tk) (by show _ <= 16777216; omega)
    | _=>simp [txtOk] at hd
   | _=>cases hev
  | ex c=>rw [q2] at hev; cases hev
  | stuck=>rw [q2] at hev; cases hev
 | ex c=>
  have q':=q
  simp only [evD] at q'
  rw [q'] at hev; cases hev
 | stuck=>
  have q':=q
  simp only [evD] at q'
  rw [q'] at hev; cases hev
def varsP:Px -> Bool
 | .nil=>true
 | .cons (.var _) p=>varsP p
 | _=>false
theorem varsP_ev (call:CallD):∀ {p:Px} {env:Fm},varsP p = true -> evD call p env = .stuck \/ ∃ ds,evD call p env = .ok (.lst ds)
 | .nil,env,_=>.inr ⟨[],rfl⟩
 | .cons (.var i) p,env,h=>by
  have ih:=varsP_ev call (p:=p) (env:=env) h
  simp only [evD]
  cases env[i]? with
  | none=>exact .inl rfl
  | some o=>
   cases o with
   | none=>exact .inl rfl
   | some d=>
    rcases ih with q | ⟨ds,q⟩
    ·rw [q]; exact .inl rfl
    ·rw [q]; exact .inr ⟨d :: ds,rfl⟩
theorem m_join {v1 v2:Expr} {vs:List Expr} (h:PJ X call (v1 :: v2 :: vs) p) (hv:varsP p = true) (hl:20000 * (v1 :: v2 :: vs).length <= 16000000):PE X (.JoinedStr (v1 :: v2 :: vs) pos) (tM X call p):=by
 intro pins s σ H Q I ⟨env,r,g⟩
 rcases varsP_ev call (env:=env) hv with q | ⟨ds,q⟩
 ·rw [q] at g; exact g.elim
 rw [q] at g
 simp only [Rs.bind_ok] at g
 by_cases hm:msgOk (.lst ds) = true
 ·rw [if_pos hm] at g
  refine wpAny_JoinedStr (h pins s σ H env Str.empty _ ds I r q hm (by show 0 + _ <= _; omega) fun out s1 H1 I1 sm ho=>⟨?_,.str out,H1,I1.tok _,⟨_,rfl⟩,g _ _ sm⟩)
  have:Str.empty.length = 0:=rfl
  show _ <= 16777216
  omega
 ·rw [if_neg hm] at g
  exact g.elim
end
end Rd
namespace Rd
open PySem PySem.Spec PyProof.Rows L2 Pu
section
variable {X:Cx} {call:CallD} {a b:Expr} {pa pb:Px} {pos p1 p2:Pos} {G:Gw} {N:List Str} {nm:List (Str × NameKind)}
theorem idx_spec:∀ {ds:List D} {x:D} {n:Nat},idxD x ds = some n -> (∃ d,ds[n]? = some d /\ d.eqv x = true) /\ ∀ m d,m < n -> ds[m]? = some d -> d.eqv x = false
 | [],x,n,h=>by simp [idxD] at h
 | d :: ds,x,n,h=>by
  unfold idxD at h
  split at h
  ·rename_i q
   cases h
   exact ⟨⟨d,rfl,q⟩,fun m d' hm=>absurd hm (Nat.not_lt_zero _)⟩
  ·rename_i q
   rw [Option.map_eq_some_iff] at h
   obtain ⟨k,hk,rfl⟩:=h
   obtain ⟨⟨d',h1,h2⟩,h3⟩:=idx_spec hk
   refine ⟨⟨d',by simpa using h1,h2⟩,fun m d'' hm he=>?_⟩
   cases m with
   | zero=>simp at he; subst he; simpa using q
   | succ m=>exact h3 m d'' (by omega) (by simpa using he)
end
end Rd
namespace Rd
open PySem PySem.Spec PyProof.Rows L2 Pu
section
open PySem.W PySem.Calls
variable {prog:Program} {w:World} {A:Around} {E:Value -> Shared -> Prop} {K:Frag} {x D:Addr}
structure ExKit (K:Frag) (D:Addr):Prop where
 g:findIn K (.ref D) "__getattribute__" = some (some (.builtin "BaseException.__getattribute__"))
 n:findIn K (.ref D) "__getattr__" = some none
 b:mroIn K D (.type "BaseException") = some true
 d:hasDictIn K D = true
 a:findIn K (.ref D) "__class__" = some (some (.builtin "object.__class__"))
 s:specialIn K (.builtin "object.__class__") "__get__" = some (some (.builtin "getset_descriptor.__get__"))
 t:takesIn K (.builtin "object.__class__") = some true
 m:mroIn K D (.type "object") = some true
end
structure IsaC (G:Gw) (t:Str) (cs:List Str):Prop where
 ex:∃ (u:Value) (v:V),RelV v u /\ (G.mg t = some u \/ (G.mg t = none /\ bootBuiltins t = some u /\ t ≠ "__name__")) /\ ∀ c ∈ cs,∃ C,PySem.W.nsIn G.K mainGlobals c = some (some (.ref C)) /\ ExKit G.K C /\ PySem.W.kitOne G.K (.ref C) u = some (t == Str.ofString "ValueError" || c == t)
section
variable {X:Cx} {call:CallD} {a:Expr} {pa:Px} {pos p1 p2:Pos} {G:Gw} {N:List Str} {nm:List (Str × NameKind)} {t:Str} {cs:List Str}
end
end Rd
namespace Rd
open PySem PySem.Spec PyProof.Rows L2 Pu
theorem key_eqv (a b:L2.Key):(keyV a).eqv (keyV b) = decide (a = b):=by
 cases a with
 | inl m=>cases b with
  | inl n=>by_cases h:m = n <;> simp [keyV,D.eqv,h]
  | inr y=>simp [keyV,D.eqv]
 | inr x=>cases b with
  | inl n=>simp [keyV,D.eqv]
  | inr y=>by_cases h:x = y <;> simp [keyV,D.eqv,h]
theorem key_flat {d:D} (h:keyD false d = true):∃ k,d = keyV k:=by
 cases d with
 | int i=>exact ⟨.inl i,rfl⟩
 | str x=>exact ⟨.inr x,rfl⟩
 | _=>simp [keyD,keyB] at h
theorem key_val {K:PySem.W.Frag} {H:Hp} {k:L2.Key} {y:V} (r:Rep K H (keyV k) y):y = kV k:=by
 cases k with
 | inl n=>cases r; rfl
 | inr x=>cases r; rfl
def tkeyV (k:List L2.Key):D:=.tup (k.map keyV)
theorem keys_eqv:∀ a b:List L2.Key,eqvs (a.map keyV) (b.map keyV) = decide (a = b)
 | [],[]=>rfl
 | [],_ :: _=>by simp [eqvs]
 | _ :: _,[]=>by simp [eqvs]
 | x :: a,y :: b=>by
  simp only [List.map_cons,eqvs,key_eqv,keys_eqv a b,List.cons.injEq,Bool.decide_and]
theorem tkey_eqv (a b:List L2.Key):(tkeyV a).eqv (tkeyV b) = decide (a = b):=by
 show eqvs _ _ = _
 exact keys_eqv a b
theorem keys_of:∀ {ds:List D},ds.all keyB = true -> ∃ k:List L2.Key,ds = k.map keyV
 | [],_=>⟨[],rfl⟩
 | d :: ds,h=>by
  simp only [List.all_cons,Bool.and_eq_true] at h
  obtain ⟨k,rfl⟩:=keys_of h.2
  obtain ⟨a,rfl⟩:=key_flat (d:=d) (by cases d <;> first | rfl | (simp [keyB] at h))
  exact ⟨a :: k,rfl⟩
theorem keys_val {K:PySem.W.Frag} {H:Hp}:∀ {k:List L2.Key} {ys:List V},Reps K H (k.map keyV) ys -> ys = k.map kV
 | [],_,h=>h
 | a :: k,ys,h=>by
  obtain ⟨x,r,rfl,h1,h2⟩:=h
  rw [key_val h1,keys_val h2]; rfl
def NoKT (K:PySem.W.Frag):Prop:=∀ (y:Str) (b:Addr) (k:List L2.Key) (o:Obj) (its:Array Value) (n:Nat),PySem.W.nsIn K mainGlobals y = some (some (.ref b)) -> K.lookup b = some o -> o.cls = .type "tuple" -> o.data = .seq its n -> ((k.map keyV).all keyI || (k.map keyV).all keyS) = true -> Vals (k.map kV) its.toList -> False
theorem ints_of {ds:List D} (h:(ds.all keyI || ds.all keyS) = true):∃ k:List L2.Key,ds = k.map keyV:=keys_of (by
 rcases Bool.or_eq_true _ _ ▸ h with h | h
 ·exact List.all_eq_true.mpr fun d hd=>by
   have:=List.all_eq_true.mp h d hd
   cases d <;> first | rfl | (simp [keyI] at this)
 ·exact List.all_eq_true.mpr fun d hd=>by
   have:=List.all_eq_true.mp h d hd
   cases d <;> first | rfl | (simp [keyS] at this))
theorem tkey_at {K:PySem.W.Frag} {H:Hp} {d:D} {y:V} (hK:NoKT K) (hk:keyD true d = true) (r:Rep K H d y):∃ b k,y = .ref b /\ d = tkeyV k /\ H b = some (.tup (k.map kV)):=by
 cases d with
 | tup ds=>
  have hk:(ds.all keyI || ds.all keyS) = true:=by simpa only [keyD,Bool.true_and] using hk
  obtain ⟨k0,rfl⟩:=ints_of hk
  obtain ⟨b,xs,rfl,h1,h2⟩:=r
  have:=keys_val h2
  subst this
  rcases h1 with h1 | ⟨y,o,its,n,q0,q1,q2,_,q3,q4,q5⟩
  ·exact ⟨b,_,rfl,rfl,h1⟩
  ·exact (hK y b k0 o its n q0 q1 q2 q3 hk q5).elim
 | _=>simp [keyD,keyB] at hk
section
variable {κ:Type} [DecidableEq κ] {g:κ -> D}
theorem look_of (hg:∀ a b,(g a).eqv (g b) = decide (a = b)) {K:PySem.W.Frag} {H:Hp} {k:κ}:∀ {kvs:List (κ × V)} {vs:List D},Reps K H vs (kvs.map (·.2)) -> match lookD (g k) (kvs.map fun p=>g p.1) vs with
  | some d=>∃ v,valV kvs k = some v /\ Rep K H d v
  | none=>valV kvs k = none
 | [],vs,h=>by
  cases vs with
  | nil=>rfl
  | cons _ _=>obtain ⟨_,_,e,_⟩:=h; cases e
 | p :: kvs,vs,h=>by
  cases vs with
  | nil=>cases h
  | cons d vs=>
   obtain ⟨x,r,e,h1,h2⟩:=h
   simp only [List.map_cons,List.cons.injEq] at e
   obtain ⟨rfl,rfl⟩:=e
   simp only [List.map_cons,lookD,hg]
   by_cases q:p.1 = k
   ·simp only [q,decide_true,if_true]
    exact ⟨p.2,valV_pos q,h1⟩
   ·simp only [q,decide_false,Bool.false_eq_true,if_false]
    have ih:=look_of hg (k:=k) h2
    rw [valV_neg q]; exact ih
theorem any_of (hg:∀ a b,(g a).eqv (g b) = decide (a = b)) {k:κ} (kvs:List (κ × V)):((kvs.map fun p=>g p.1).any fun d=>d.eqv (g k)) = (valV kvs k).isSome:=by
 rw [<- valV_any,List.any_map]
 simp only [Function.comp_def,hg]
theorem put_of (hg:∀ a b,(g a).eqv (g b) = decide (a = b)) {K:PySem.W.Frag} {H:Hp} {k:κ} {v:V} {d:D} (hd:Rep K H d v) {kvs:List (κ × V)} {vs:List D} (h:Reps K H vs (kvs.map (·.2))) :
  (putD (g k) d (kvs.map fun p=>g p.1) vs).1 = (putK kvs k v).map (fun p=>g p.1) /\ Reps K H (putD (g k) d (kvs.map fun p=>g p.1) vs).2 ((putK kvs k v).map (·.2)):=by
 have ea:=any_of hg (k:=k) kvs
 rw [<- valV_any] at ea
 unfold putD putK
 rw [ea]
 by_cases q:(kvs.any fun kv=>decide (kv.1 = k)) = true
 ·rw [if_pos q,if_pos q]
  refine ⟨?_,?_⟩
  ·show kvs.map _ = _
   rw [List.map_map]
   refine List.map_congr_left fun p _=>?_
   show g p.1 = g (if p.1 = k then (p.1,v) else p).1
   split <;> rfl
  ·clear q ea
   show Reps K H (setD _ _ _ _) _
   induction kvs generalizing vs with
   | nil=>
    cases vs with
    | nil=>rfl
    | cons _ _=>obtain ⟨_,_,e,_⟩:=h; cases e
   | cons p kvs ih=>
    cases vs with
    | nil=>cases h
    | cons u vs=>
     obtain ⟨x,r,e,h1,h2⟩:=h
     simp only [List.map_cons,List.cons.injEq] at e
     obtain ⟨rfl,rfl⟩:=e
     simp only [List.map_cons,setD,hg]
     refine ⟨_,_,rfl,?_,ih h2⟩
     by_cases hp:p.1 = k
     ·simp only [hp,decide_true,if_true]; exact hd
     ·simp only [hp,decide_false,Bool.false_eq_true,if_false]; exact h1
 ·rw [if_neg q,if_neg q]
  refine ⟨by simp,?_⟩
  simp only [List.map_append,List.map_cons,List.map_nil]
  exact h.append (Reps.one hd)
end
theorem dk_k {H:Hp} {a:Addr} {z:Bool} {ks:List D} {xs:List V} (h:DK H a false z ks xs):∃ kvs:List (L2.Key × V),Rd H a (.dK kvs) /\ ks = kvs.map (fun p=>keyV p.1) /\ xs = kvs.map (·.2):=by
 cases z <;> obtain ⟨kvs,h1,h2⟩:=h
 ·exact ⟨kvs,.inl h1,h2⟩
 ·exact ⟨kvs,.inr h1,h2⟩
theorem dk_t {H:Hp} {a:Addr} {z:Bool} {ks:List D} {xs:List V} (h:DK H a true z ks xs):∃ kvs:List (List L2.Key × V),Rd H a (.dT kvs) /\ ks = kvs.map (fun p=>tkeyV p.1) /\ xs = kvs.map (·.2):=by
 cases z <;> obtain ⟨kvs,h1,h2⟩:=h
 ·exact ⟨kvs,.inl h1,h2⟩
 ·exact ⟨kvs,.inr h1,h2⟩
section
variable {prog:Program} {w:World} {κ:Type} [DecidableEq κ] {kd:HeapKind prog w κ} {A:Around} {E:Value -> Shared -> Prop} {s:Shared} {d:Addr} {xs:List (κ × Addr × Value)}
theorem size_lenH (hd:(d == sysModules) = false):MeetsIn prog w (Builtin.«dict.__len__» ⟨[.ref d],[]⟩) (fun _ R s=>∃ xs,s.heap.DictOfH kd d xs /\ R (.ok (.ret (.int xs.length s.toks))) { s with toks:=s.toks + 1 }):=
 .of_wp fun A R s ⟨xs,⟨o,es,ep,ho,hc,hdat,hk,_⟩,h⟩=>by
  (show wpAny _ _ (dictSize d >>= _) _ _ s); (unfold dictSize); (refine wpAny_bind (wpAny_bind (wpAny_dictEntries ho hdat (wpAny_pure ?_))))
  (show wpAny _ _ (Builtin.Dict.pendingCount d >>= _) _ _ s); (refine wpAny_bind (wpAny_pendingCount_other hd ?_)); (refine wpAny_ret_mkInt ?_)
  rw [Nat.add_zero,size_of_entries hk]; exact h
theorem body_lenH {Q:Value -> Shared -> Prop} (hd:(d == sysModules) = false) (hm:s.heap.DictOfH kd d xs) (hz:(xs.length:Int) < 2 ^ 63) (h:Q (.int xs.length (s.toks + 1)) { s with toks:=s.toks + 1 + 1 }) :
  wpAny (model prog w) A (Builtin.«len» ⟨[.ref d],[]⟩) (fun fin s'=>∃ r,fin = .done (.ret r) /\ Q r s') E s:=by
 (unfold Builtin.«len»); (refine wpAny_bind (m:=oneArg "len" _) (wpAny_pure ?_))
 refine wpAny_bind (m:=callSpecial? (.ref d) (Str.ofString "__len__")) (wpAny_callSpecial?_slot (name:=Str.ofString "__len__") hm.typeIs F.slot_dict_len (call_meetsIn F.slot_dict_len hm.typeIs F.entry_dict_len (F.args_dict_len_1 _) (size_lenH (kd:=kd) hd) ⟨xs,hm,?_⟩))
 (show wpAny _ _ _ _ _ { s with toks:=s.toks + 1 }); (refine wpAny_bind (wpAny_holding (wpAny_pure ?_))); (refine wpAny_bind (wpAny_letGo ?_))
 (show wpAny _ _ (if ((xs.length:Nat):Int) < 0 then _ else _) _ _ _); (rw [if_neg (by omega)]); (show wpAny _ _ (if ((xs.length:Nat):Int) ≥ 2 ^ 63 then _ else _) _ _ _); (rw [if_neg (by omega)])
 exact wpAny_bind (wpAny_mkInt (wpAny_pure ⟨_,rfl,h⟩))
theorem dict_lenH {Q:Value -> Shared -> Prop} (hd:(d == sysModules) = false) (hm:s.heap.DictOfH kd d xs) (hz:(xs.length:Int) < 2 ^ 63) (h:Q (.int xs.length (s.toks + 1)) { s with toks:=s.toks + 1 + 1 }):wpAny (model prog w) A (PySem.call (.builtin "len") [.ref d]) Q E s:=
 Calls.call_function_entry kind_len plain_len entry_len (args_len1 _) (body_lenH hd hm hz h)
end
section
variable {X:Cx} {call:CallD} {G:Gw} {N:List Str} {nm:List (Str × NameKind)} {e a b:Expr} {p pa pb:Px} {pos p1:Pos} {x:Str} {i:Nat} {M:List Nat} {H0:Hp} {px:Pos}
theorem dget_of {H:Hp} {t z:Bool} {ks vs:List D} {dy:D} {x y:V} (hK:t = true -> NoKT X.K) (r1:Rep X.K H (.dct t z ks vs) x) (r2:Rep X.K H dy y) (hk:keyD t dy = true):∃ l o,x = .ref l /\ DGet H l y o /\ (ks.any fun d=>d.eqv dy) = o.isSome /\ ∀ d,lookD dy ks vs = some d -> ∃ v,o = some v /\ Rep X.K H d v:=by
 obtain ⟨l,xs,rfl,h1,h2⟩:=r1
 cases t with
 | false=>
  obtain ⟨kvs,g1,rfl,rfl⟩:=dk_k h1
  obtain ⟨k,rfl⟩:=key_flat hk
  have:=key_val r2
  subst this
  refine ⟨l,valV kvs k,rfl,.inl ⟨kvs,k,g1,rfl,rfl⟩,any_of key_eqv kvs,fun d hd=>?_⟩
  have:=look_of key_eqv (k:=k) h2
  rw [hd] at this
  exact this
 | true=>
  obtain ⟨kvs,g1,rfl,rfl⟩:=dk_t h1
  obtain ⟨b,k,rfl,rfl,hb⟩:=tkey_at (hK rfl) hk r2
  refine ⟨l,valV kvs k,rfl,.inr ⟨kvs,k,b,g1,rfl,hb,rfl⟩,any_of tkey_eqv kvs,fun d hd=>?_⟩
  have:=look_of tkey_eqv (k:=k) h2
  rw [hd] at this
  exact this
theorem eDGet (C:Ctx X G N nm) {t':Bool} (hK:t' = true -> NoKT G.K) (ha:PE X a (tI X call pa)) (hb:PE X b (tI X call pb)) (hs:NoSl b:=by intro _ _; rfl):PE X (.Subscript a b pos) (tI X call (.bi (.dGet t') pa pb)):=by
 have hu:=C.un
 refine PE.weak (pe_dget (by omega) ha hb hs) fun σ H Q ⟨env,r,h⟩=>?_
 simp only [evD] at h
 refine tI.then r h fun dx x H1 s1 r1 q1 h1=>?_
 refine tI.then q1 h1 fun dy y H2 s2 r2 q2 h2=>?_
 cases dx with
 | dct t z ks vs=>
  simp only [op2] at h2
  split at h2
  ·rename_i hk
   obtain ⟨rfl,hk⟩:=hk
   obtain ⟨l,o,e1,g,_,hl⟩:=dget_of (by rw [C.K]; exact hK) (r1.mono s2) r2 hk
   cases q:lookD dy ks vs with
   | none=>rw [q] at h2; exact h2.elim
   | some d=>
    rw [q] at h2
    obtain ⟨v,e2,rv⟩:=hl d q
    subst e2
    exact ⟨l,v,e1,g,Out.now h2 rv⟩
  ·exact h2.elim
 | _=>cases dy <;> exact (show False from h2).elim
theorem dt_len {pins:List (Addr × Obj)} {σ:L2.St} {H:Hp} {s:Shared} {a:Addr} {kvs:List (List L2.Key × V)} {A:Around} {E:Value -> Shared -> Prop} {Q:Value -> Shared -> Prop} (I:Inv X pins σ H s) (e:Rd H a (.dT kvs)) (h:∀ t s',Inv X pins σ H s' -> Q (.int kvs.length t) s'):wpAny (model X.prog X.w) A (PySem.call (.builtin "len") [.ref a]) Q E s:=by
 obtain ⟨z,hd,xs,rel,dd⟩:=dt_rd I.hok e
 refine dict_lenH hd dd (by rw [<- Paired.length rel]; rw [sizeLine_eq] at z; omega) ?_
 rw [<- Paired.length rel]
 exact h _ _ (I.tok _)
theorem cD_dlen:CallR X (.builtin "len") (fun xs H Q=>∃ x d,xs = [x] /\ Rep X.K H d x /\ (op1 .dLen d).Good (Out X H Q) (XW X H)):=by
 intro pins s σ H xs us Q I rv ⟨x,d,e,r,h⟩
 subst e
 obtain ⟨u,rfl,ru⟩:=vals1 rv
 cases d with
 | dct t z ks vs=>
  obtain ⟨l,xs,rfl,h1,h2⟩:=r
  cases ru
  cases t with
  | false=>
   obtain ⟨kvs,g1,rfl,rfl⟩:=dk_k h1
   refine d_len I g1 fun t s' I'=>⟨.int kvs.length,H,I',⟨t,rfl⟩,?_⟩
   simp only [op1,List.length_map] at h
   exact Out.now h rfl
  | true=>
   obtain ⟨kvs,g1,rfl,rfl⟩:=dk_t h1
   refine dt_len I g1 fun t s' I'=>⟨.int kvs.length,H,I',⟨t,rfl⟩,?_⟩
   simp only [op1,List.length_map] at h
   exact Out.now h rfl
 | _=>exact (show False from h).elim
theorem cDLen (C:Ctx X G N nm) (hm:G.mg "len" = none) (ha:PE X a (tI X call pa)) (hg:gloB nm "len" = true) (hs:starEach [a] X.env = (false,eval a X.env) :: starEach [] X.env:=by rfl):PE X (.Call (.Name "len" p1) [a] [] pos) (tI X call (.un .dLen pa)):=pI_fun C cD_dlen ha hg hm PySem.boot_len (by decide +kernel) (by decide +kernel) hs
theorem aOwnDT (C:Ctx X G N nm) (h:chkO N nm M i x = true) (hs:swapsWith (.Dict [] [] p1) (some (.Name x px)) pos.line X.env = pure false:=by rfl):PS X (.Assign [.Name x px] (.Dict [] [] p1) pos) (tS X call M H0 (.ownD true i)):=by
 obtain ⟨h1,h2,h3,h4,h5⟩:=chkO.at h
 obtain ⟨k1,k2⟩:=C.sto x h2
 refine PS.weak (ps_set (by rw [C.hN]; exact C.nd) (by rw [C.hN]; exact h1) k1 pe_dnewT hs k2) fun D σ H ⟨env,e,h⟩=>?_
 simp only [exD] at h
 intro l h0
 have s:Same H (upd H l (.dT [])):=fun b o q=>by rw [upd_ne (ne_of_none q h0)]; exact q
 obtain ⟨e2,f2⟩:=e.putOwn s (i:=i) (d:=.dct true false [] []) h0 fun Hh tp=>⟨rfl,[],⟨[],upd_same,rfl,rfl⟩,rfl⟩
 exact h _ _ e2 ⟨f2,fun _=>s⟩
theorem aPut {b v:Expr} {pk pv:Px} {ps:Pos} (C:Ctx X G N nm) {t':Bool} (hK:t' = true -> NoKT G.K) (h:chkO N nm M i x = true) (hb:PE X b (tI X call pk)) (hv:PE X v (tI X call pv)) (h1:sepP M pk = true:=by rfl) (h2:sepP M pv = true:=by rfl)
  (hs:swapsWith v (some (.Subscript (.Name x px) b ps)) pos.line X.env = pure false:=by rfl):PS X (.Assign [.Subscript (.Name x px) b ps] v pos) (tS X call M H0 (.put false t' i pk pv)):=by
 obtain ⟨g1,g2,g3,g4,g5⟩:=chkO.at h
 obtain ⟨d1,d2⟩:=plainN.d g3
 have hu:=C.un
 refine PS.weak (ps_dput (by omega) (pe_var (by rw [C.hN]; exact g1) (C.vis x g5) d1 d2) (pe_hid hb) (pe_hid hv) hs) fun D σ H ⟨env,e,h⟩=>?_
 simp only [exD] at h
 cases q:env[i]? with
 | none=>rw [q] at h; exact h.elim
 | some o=>
  rw [q] at h
  cases o with
  | none=>exact h.elim
  | some d=>
   cases d with
   | dct t z ks vs=>
    cases z with
    | true=>exact h.elim
    | false=>
     simp only at h
     obtain ⟨l,hσ,h0,hz,xs,hl,hr⟩:=e.own i _ g4 q
     refine ⟨blankD M 0 env,Ow M env σ,e.ows,e.readHid,?_⟩
     rw [evD_blank call env h2]
     refine (Rs.good_bind.mp h).mono (fun dv hdv v H1 s1 k1 r1=>?_) fun c z=>z.mono e.same0
     have e1:=e.grow s1
     refine ⟨.ref l,hσ,blankD M 0 env,Ow M env σ,e1.ows,e1.readHid,?_⟩
     rw [evD_blank call env h1]
     refine (Rs.good_bind.mp hdv).mono (fun dk hdk y H2 s2 k2 r2=>?_) fun c z=>z.mono e1.same0
     split at hdk
     ·exact hdk.elim
     ·rename_i hc
      simp only [Bool.false_and,Bool.false_or,Bool.or_eq_true,not_or,Bool.not_eq_true',Bool.not_eq_true,Bool.not_eq_false,decide_eq_false_iff_not,Decidable.not_not,beq_iff_eq,beq_eq_false_iff_ne,ne_eq] at hc
      obtain ⟨⟨htt,hc1⟩,hc2⟩:=hc
      have hc:=And.intro hc1 hc2
      subst htt
      have e2:=e1.grow s2
      have f2:Same (hid (Ow M env σ) H) (hid (Ow M env σ) H2):=(Fz.sm (s1.trans s2)).hid
      have f3:Same (hid (Ow M env σ) H1) (hid (Ow M env σ) H2):=(Fz.sm s2).hid
      have fin:∀ ob,OwnIs X.K (hid (Ow M env σ) H2) (upd H2 l ob) l (.dct t false (putD dk dv ks vs).1 (putD dk dv ks vs).2) -> D.nx σ (upd H2 l ob):=fun ob nw=>by
       obtain ⟨e3,f4⟩:=e2.change (o:=ob) g4 q hσ nw
       exact hdk _ _ e3 ⟨(Fz.sm (s1.trans s2)).trans f4,fun z=>by cases z⟩
      cases t with
      | true=>
       obtain ⟨b',k,rfl,rfl,hb'⟩:=tkey_at (by rw [C.K]; exact hK rfl) hc.1 r2
       obtain ⟨kvs,w1,rfl,rfl⟩:=hl
       have w2:H2 l = some (.dT kvs):=s2 _ _ (s1 _ _ w1)
       have hlen:kvs.length < 1000:=by simpa using hc.2
       have hb2:H2 b' = some (.tup (k.map kV)):=hid_same _ _ hb'
       refine ⟨l,_,rfl,DPut.t (k:=k) w2 hb2 (by show _ < 16777216; omega),fin _ ?_⟩
       obtain ⟨p1,p2⟩:=put_of tkey_eqv (k:=k) (r1.mono f3) (hr.mono f2)
       exact ⟨rfl,_,⟨_,upd_same,p1,rfl⟩,p2⟩
      | false=>
       obtain ⟨k,rfl⟩:=key_flat hc.1
       have hy:=key_val r2
       subst hy
       obtain ⟨kvs,w1,rfl,rfl⟩:=hl
       have w2:H2 l = some (.dK kvs):=s2 _ _ (s1 _ _ w1)
       have hlen:kvs.length < 1000:=by simpa using hc.2
       refine ⟨l,_,rfl,DPut.k (k:=k) w2 (by show _ < 16777216; omega),fin _ ?_⟩
       obtain ⟨p1,p2⟩:=put_of key_eqv (k:=k) (r1.mono f3) (hr.mono f2)
       exact ⟨rfl,_,⟨_,upd_same,p1,rfl⟩,p2⟩
   | _=>exact h.elim
end
end Rd
namespace Rd
open PySem PySem.Spec PyProof.Rows L2 Pu
section
variable {X:Cx} {pins:List (Addr × Obj)} {σ:L2.St} {H:Hp} {s:Shared} {l:Addr}
theorem freezeK (I:L2.Inv X pins σ H s) {kvs:List (L2.Key × V)} (e:H l = some (.dK kvs)):∃ o,L2.Inv X pins σ (upd H l (.frz o (.dK kvs))) s:=by
 obtain ⟨z,hd,vs,rel,dd⟩:=dk_of I.hok e
 obtain ⟨o,es,ep,ho,_⟩:=id dd
 exact ⟨o,I.write (t':=s.toks) (x:=l) (e:=l) (h':=s.heap) (by rw [e]; exact True.intro) (.inl rfl) (fun _ _ _ q=>q) ⟨o,ho⟩ ⟨ho,z,hd,vs,rel,dd⟩⟩
theorem freezeT (I:L2.Inv X pins σ H s) {kvs:List (List L2.Key × V)} (e:H l = some (.dT kvs)):∃ o,L2.Inv X pins σ (upd H l (.frz o (.dT kvs))) s:=by
 obtain ⟨z,hd,xs,rel,o,es,ep,ho,h2,h3,h4,h5⟩:=(show ObjOk X.prog X.w H s.heap l (.dT kvs) from I.hok l _ e)
 refine ⟨o,I.write (t':=s.toks) (x:=l) (e:=l) (h':=s.heap) (by rw [e]; exact True.intro) (.inl rfl) (fun _ _ _ q=>q) ⟨o,ho⟩ ⟨ho,z,hd,xs,KT.keeps rel fun b ys q=>?_,o,es,ep,ho,h2,h3,h4,h5⟩⟩
 rw [upd_ne (ne_of q e (fun z=>nomatch z))]
 exact q
end
section
variable {X:Cx} {call:CallD} {G:Gw} {N:List Str} {nm:List (Str × NameKind)} {e a b:Expr} {p pa pb:Px} {pos p1 p2:Pos} {x:Str} {i:Nat} {M:List Nat} {H0:Hp} {px:Pos}
theorem aRetF (C:Ctx X G N nm) (h:chkO N nm M i x = true):PS X (.Return (some (.Name x px)) pos) (tS X call M H0 (.retF i)):=by
 obtain ⟨g1,g2,g3,g4,g5⟩:=chkO.at h
 obtain ⟨d1,d2⟩:=plainN.d g3
 intro pins s σ H D I ⟨env,e,h⟩
 simp only [exD] at h
 cases q:env[i]? with
 | none=>rw [q] at h; exact h.elim
 | some o=>
  rw [q] at h
  cases o with
  | none=>exact h.elim
  | some d=>
   cases d with
   | dct t z ks vs=>
    cases z with
    | true=>exact h.elim
    | false=>
     obtain ⟨l,hσ,h0,hz,xs,hl,hr⟩:=e.own i _ g4 q
     have hlo:l ∈ Ow M env σ:=mem_Ow.mpr ⟨i,g4,_,q,hσ⟩
     have fin:∀ ob,Rep X.K (upd H l ob) (.dct t true ks vs) (.ref l) -> D.rt (.ref l) (upd H l ob):=fun ob r=>h _ _ (fun b o' hb=>by rw [upd_ne (ne_of_none hb h0)]; exact e.same b o' hb) r
     have rr:∀ ob,Reps X.K (upd H l ob) vs xs:=fun ob=>hr.mono fun b o' hb=>by
      by_cases z:b ∈ Ow M env σ
      ·rw [hid_out z] at hb; cases hb
      ·rw [hid_in z] at hb
       rw [upd_ne (fun k:b = l=>z (k ▸ hlo))]; exact hb
     refine wpAny_mono (ps_ret (pe_var (by rw [C.hN]; exact g1) (C.vis x g5) d1 d2) pins s σ H ⟨fun _ _=>False,fun v H'=>v = .ref l /\ H' = H,fun _ _=>False,fun _ _=>False⟩ I ⟨.ref l,hσ,rfl,rfl⟩) (fun f s1 r=>?_) fun _ _ z=>z
     cases f with
     | next=>obtain ⟨_,_,_,z⟩:=r; exact z.elim
     | brk=>obtain ⟨_,_,_,z⟩:=r; exact z.elim
     | cont=>obtain ⟨_,_,_,z⟩:=r; exact z.elim
     | ret u=>
      obtain ⟨v,σ',H',I',rv,rfl,rfl⟩:=r
      cases t with
      | false=>
       obtain ⟨kvs,w1,rfl,rfl⟩:=hl
       obtain ⟨o,I2⟩:=freezeK I' w1
       exact ⟨.ref l,σ',_,I2,rv,fin _ ⟨l,_,rfl,⟨kvs,⟨o,upd_same⟩,rfl,rfl⟩,rr _⟩⟩
      | true=>
       obtain ⟨kvs,w1,rfl,rfl⟩:=hl
       obtain ⟨o,I2⟩:=freezeT I' w1
       exact ⟨.ref l,σ',_,I2,rv,fin _ ⟨l,_,rfl,⟨kvs,⟨o,upd_same⟩,rfl,rfl⟩,rr _⟩⟩
   | _=>exact h.elim
theorem aAug (C:Ctx X G N nm) (h:chkA N nm M i x = true) (he:PE X e (tI X call p)) (hv:visB nm x = true):PS X (.AugAssign (.Name x px) .Add e pos) (tS X call M H0 (.set true i (.bi .addI (.var i) p))):=by
 obtain ⟨h1,h2,h3⟩:=chkA.at h
 obtain ⟨k1,k2⟩:=C.sto x h2
 refine PS.weak (ps_aug (by rw [C.hN]; exact C.nd) (by rw [C.hN]; exact h1) k1 he ip_add k2) fun D σ H ⟨env,e,h⟩=>?_
 simp only [exD,evD] at h
 cases q:env[i]? with
 | none=>rw [q] at h; exact h.elim
 | some o=>
  rw [q] at h
  cases o with
  | none=>exact h.elim
  | some d=>
   simp only [Rs.bind_ok,Rs.bind_assoc] at h
   obtain ⟨v,hσ,rv⟩:=e.readOk i d q
   refine ⟨v,hσ,env,e.readOk,(Rs.good_bind.mp h).mono (fun dy hy y H1 s1 ry=>?_) fun c z=>z.mono e.same⟩
   cases d with
   | int k=>
    cases dy with
    | int j=>
     cases rv; cases ry
     refine ⟨k,j,rfl,rfl,?_⟩
     have hy':OutS X M H0 (Ow M env σ) H false D (.nx,env.set i (some (.int (k + j)))):=hy
     have e1:=(e.grow s1).put (i:=i) (d:=.int (k + j)) (v:=.int (k + j)) h3 rfl
     refine hy' _ _ e1 ?_
     have:Ow M (env.set i (some (.int (k + j)))) (σ.set i (some (.int (k + j)))) = Ow M env σ:=Ow_set h3
     rw [this]
     exact Chg.of s1
    | _=>exact (show False from hy).elim
   | _=>cases dy <;> exact (show False from hy).elim
end
end Rd
namespace Rd
open PySem PySem.Spec PyProof.Rows L2 Pu
def swB (M M2 is:List Nat):Bool:=(M ++ M2).all fun i=>is.contains i || (M.contains i && M2.contains i)
theorem swB.at {M M2 is:List Nat} (h:swB M M2 is = true) {i:Nat} (hi:i ∉ is):i ∈ M ↔ i ∈ M2:=by
 have k:∀ j ∈ M ++ M2,j ∉ is -> j ∈ M /\ j ∈ M2:=fun j hj hn=>by
  have:=List.all_eq_true.mp h j hj
  simp only [Bool.or_eq_true,Bool.and_eq_true,List.contains_iff_mem] at this
  exact this.resolve_left hn
 exact ⟨fun q=>(k i (by simp [q]) hi).2,fun q=>(k i (by simp [q]) hi).1⟩
section
variable {X:Cx} {call:CallD} {M M2 is:List Nat} {H0:Hp} {e:Expr} {p:Px} {b:Sx} {pos:Pos} {rest:List Stmt}
end
end Rd
namespace Rd
open PySem PySem.Spec PyProof.Rows L2
open Sem (wp)
section
variable {prog:Program} {w:World} {A:Around} {R:Result -> Shared -> Prop} {I d:Addr} {fp wr:List Addr} {n:Nat} {P:Nat -> Value -> Prop} {St:Nat -> Heap -> Prop} {κ:Type} [DecidableEq κ] {knd:KeyKind prog w κ}
end
end Rd
namespace Rd
open PySem PySem.Spec PyProof.Rows L2 Pu
section
variable {X:Cx}
end
section
variable {X:Cx} {call:CallD} {G:Gw} {N:List Str} {nm:List (Str × NameKind)} {a:Expr} {pa:Px} {pos p1:Pos}
end
end Rd
namespace Rd
open PySem PySem.Spec PyProof.Rows L2 Pu
section
variable {prog:Program} {w:World} {A:Around} {E:Value -> Shared -> Prop} {s:Shared}
theorem collect_range {Q:List Value -> Shared -> Prop} {r:Addr} {a b c:Int} {t u v:Tok} {n:Nat} (hh:A.handled = none) (hr:IsRange s.heap r a b c t u v) (hsmall:Builtin.Range.small a b c = true)
  (hn:Builtin.Range.rangeSize a b c = n) (hlen:n <= 2 ^ 24)
  (hQ:∀ h' tk (acc:Array Value),(∀ b o',s.heap.get? b = some o' -> h'.get? b = some o') -> ItemsOf (fun i v=>∃ t,v = .int (a + i * c) t) acc n -> Q acc.toList { s with heap:=h',toks:=tk }) :
  wpAny (model prog w) A (collect (.ref r)) Q E s:=by
 unfold collect
 refine wpAny_bind (wpAny_runValue (codeAny_builtin F.entry_proto_collect ?_))
 rw [Around.under_plainId F.plain_proto_collect _]
 show wpAny _ A.in1 (newList [] >>= fun l=>again (.builtin "list.__iadd__" ⟨[l,.ref r],[]⟩)) _ _ s
 refine wpAny_bind (wpAny_newObj_type ?_)
 refine wpAny_pure ⟨plainId_quiet F.plain_list_iadd _,codeAny_builtin F.entry_list_iadd ?_⟩
 rw [Around.under_plainId F.plain_list_iadd _]
 show wpAny _ A.in1 (Builtin.List.listExtendWith (.ref s.heap.objs.size) (.ref r) (.ref s.heap.objs.size)) _ _ _
 have hS:(s.heap.push { cls:=.type "list",data:=.seq ([]:List Value).toArray }).get? s.heap.objs.size = some { cls:=.type "list",data:=.seq #[] 0 }:=Heap.get?_push_size _ rfl
 have fin':∀ h' tk (acc:Array Value) (c':Nat),(∀ b o',s.heap.get? b = some o' -> h'.get? b = some o') -> h'.get? s.heap.objs.size = some { cls:=.type "list",dict:=none,data:=.seq acc c',slots:=#[] } -> ItemsOf (fun i v=>∃ t,v = .int (a + i * c) t) acc n ->
   wpAny (model prog w) A (match Value.ref s.heap.objs.size with
   | Value.ref a=>do
    match (<- load a).data with
     | Data.seq xs _=>pure xs.toList
     | _=>unsupported "internal:collect"
   | _=>unsupported "internal:collect") Q E { s with heap:=h',toks:=tk }:=by
  intro h' tk acc c' hk hS' hacc
  show wpAny _ A (load s.heap.objs.size >>= _) _ _ _
  exact wpAny_bind (wpAny_load hS' (wpAny_pure (hQ h' tk acc hk hacc)))
 refine wpAny_mono (wpAny_extend_range (A:=A) (R:=fun r' s'=>∃ h' tk acc c',r' = Except.ok (Flow.ret (Value.ref s.heap.objs.size)) /\ s' = { s with heap:=h',toks:=tk } /\ (∀ b o',s.heap.get? b = some o' -> h'.get? b = some o') /\ h'.get? s.heap.objs.size = some { cls:=.type "list",dict:=none,data:=.seq acc c',slots:=#[] } /\ ItemsOf (fun i v=>∃ t,v = .int (a + i * c) t) acc n)
  (s:={ s with heap:=s.heap.push { cls:=.type "list",data:=.seq ([]:List Value).toArray } }) hh (Heap.get?_push_of_some _ hr) hsmall hn hlen _ _ 0 hS fun h' tk acc c' hk hS' hacc=>⟨h',tk,acc,c',rfl,rfl,fun b o' e=>hk b o' (Nat.ne_of_lt (Heap.lt_size e)) (Heap.get?_push_of_some _ e),hS',hacc⟩) (fun fin s' h=>?_) (fun e s' h=>?_)
 ·cases fin with
  | done f=>
   obtain ⟨h',tk,acc,c',e,rfl,hk,hS',hacc⟩:=h
   cases e
   exact fin' h' tk acc c' hk hS' hacc
  | again c'=>exact ⟨h.1,codeAny_mono h.2 fun r s'' hr=>by obtain ⟨h',tk,acc,c2,rfl,rfl,hk,hS',hacc⟩:=hr; exact fin' h' tk acc c2 hk hS' hacc⟩
 ·obtain ⟨_,_,_,_,e,_⟩:=h; cases e
end
theorem meets_tuple_range (r:Addr) (a b c:Int) (t u v:Tok) (n:Nat) (hsmall:Builtin.Range.small a b c = true) (hn:Builtin.Range.rangeSize a b c = n) (hlen:n <= 2 ^ 24) :
  Meets (Builtin.«tuple.__new__» ⟨[.type "tuple",.ref r],[]⟩)
   (fun A R s=>A.handled = none /\ IsRange s.heap r a b c t u v /\ ∀ (h':Heap) tk (acc:Array Value),(∀ b o',s.heap.get? b = some o' -> h'.get? b = some o') -> ItemsOf (fun i v=>∃ t,v = .int (a + i * c) t) acc n -> R (.ok (.ret (.ref h'.objs.size))) { s with heap:=h'.push { cls:=.type "tuple",data:=.seq acc },toks:=tk }):=
 .of_wp fun prog w A R s h=>by
  obtain ⟨hp,g,d,tk,os⟩:=s; obtain ⟨hh,ht,h⟩:=h
  have hsub:=sub_tuple_self
  have hinit:=init_tuple_lookup
  have hmh:=madeHere_tuple
  have hT:Shared.TypeIs ⟨hp,g,d,tk,os⟩ (.ref r) "range":=⟨_,ht,rfl⟩
  wp_walk using wpAny_loadPart' ht,wpAny_typeOf hT,collect_range (show A.in1.handled = none from hh) ht hsmall hn hlen
  intro h' tk' acc hk hacc
  have hl:acc.size = n:=hacc.1
  show wpAny _ _ (Builtin.Tuple.tupleExact acc.toList.toArray >>= fun v=>ret v) _ _ _
  unfold Builtin.Tuple.tupleExact
  refine wpAny_bind (wpAny_newObj_type ?_ (by show acc.toList.toArray.size <= sizeLine; rw [sizeLine_eq]; simp only [List.size_toArray,Array.length_toList]; omega))
  refine wpAny_pure ⟨_,rfl,?_⟩
  have e:acc.toList.toArray = acc:=by simp
  rw [e]
  exact h h' tk' acc hk hacc
section
variable {prog:Program} {w:World} {A:Around} {E:Value -> Shared -> Prop} {s:Shared}
theorem call_tuple_range {Q:Value -> Shared -> Prop} {r:Addr} {a b c:Int} {t u v:Tok} {n:Nat} (hh:A.handled = none) (hr:IsRange s.heap r a b c t u v) (hsmall:Builtin.Range.small a b c = true)
  (hn:Builtin.Range.rangeSize a b c = n) (hlen:n <= 2 ^ 24)
  (h:∀ (h':Heap) tk (acc:Array Value),(∀ b o',s.heap.get? b = some o' -> h'.get? b = some o') -> ItemsOf (fun i v=>∃ t,v = .int (a + i * c) t) acc n -> Q (.ref h'.objs.size) { s with heap:=h'.push { cls:=.type "tuple",data:=.seq acc },toks:=tk }) :
  wpAny (model prog w) A (call (.type "tuple") [.ref r]) Q E s:=
 callType_new F.called_tuple (by decide) (F.typeCall_tuple_1 _) (F.newCall_tuple_1 _) (fun obj=>F.args_object_init_2 obj _) F.entry_tuple_new
  (meets_tuple_range r a b c t u v n hsmall hn hlen) ⟨hh,hr,fun h' tk acc hk hacc=>⟨⟨_,Heap.get?_push_size _ rfl,rfl⟩,h h' tk acc hk hacc⟩⟩
end
section
variable {X:Cx} {call:CallD} {G:Gw} {N:List Str} {nm:List (Str × NameKind)} {a:Expr} {pa:Px} {pos p1 p2 p3:Pos}
theorem paired_of {α β:Type} {R:α -> β -> Prop}:∀ {xs:List α} {us:List β},xs.length = us.length -> (∀ (j:Nat) x u,xs[j]? = some x -> us[j]? = some u -> R x u) -> Paired R xs us
 | [],[],_,_=>.nil
 | x :: xs,u :: us,h,k=>.cons (k 0 x u rfl rfl) (paired_of (by simpa using h) fun j x u a b=>k (j + 1) x u (by simpa using a) (by simpa using b))
theorem call_rngR:CallR X (.type "range") (fun xs H Q=>∃ i:Int,xs = [V.int i] /\ ∀ p,H p = none -> Q (.ref p) (upd H p (.rng 0 i))):=by
 intro pins s σ H xs us Q I rv ⟨i,e,h⟩
 subst e
 obtain ⟨u,rfl,⟨t,rfl⟩⟩:=vals1 rv
 refine call_range_1 ?_
 have hf:=I.hok.fresh (Nat.le_refl s.heap.objs.size)
 exact ⟨.ref s.heap.objs.size,_,I.laid (o:=.rng 0 i) (fun b u e=>Heap.get?_push_of_some _ e) (Nat.le_refl _) ⟨_,_,_,Heap.get?_push_size _ rfl⟩,rfl,h _ hf⟩
theorem upTo_reps {K:PySem.W.Frag} {H:Hp}:∀ (n k:Nat),Reps K H ((List.range' k n).map fun (j:Nat)=>D.int ((0:Int) + (j:Int))) ((List.range' k n).map fun (j:Nat)=>V.int ((0:Int) + (j:Int)))
 | 0,_=>rfl
 | n + 1,k=>by
  rw [List.range'_succ]
  exact ⟨_,_,rfl,rfl,upTo_reps n (k + 1)⟩
theorem call_tupR (hcalm:X.calm = true):CallR X (.type "tuple") (fun xs H Q=>∃ p i,xs = [V.ref p] /\ H p = some (.rng 0 i) /\ 0 <= i /\ i <= 1000 /\ Out X H Q (.tup (Pu.upTo 0 i.toNat))):=by
 intro pins s σ H xs us Q I rv ⟨p,i,e,hp,h0,h1,h⟩
 subst e
 obtain ⟨u,rfl,rx⟩:=vals1 rv
 cases rx
 obtain ⟨t,u,v,hr⟩:=I.hok p _ hp
 have hsz:Builtin.Range.rangeSize 0 i 1 = (i.toNat:Int):=by
  unfold Builtin.Range.rangeSize
  simp
  omega
 refine call_tuple_range (n:=i.toNat) (I.ok.hd hcalm) hr (small_one (by omega) (by omega) (by omega) (by omega)) hsz (by omega) fun h' tk acc hk hacc=>?_
 have hl:acc.toList.length = i.toNat:=by rw [Array.length_toList]; exact hacc.1
 have hit:Vals ((List.range' 0 i.toNat).map fun (j:Nat)=>V.int ((0:Int) + (j:Int))) acc.toList:=by
  refine paired_of (by simp [hl]) fun j x u hx hu=>?_
  obtain ⟨t,rfl⟩:=hacc.2 j u (by simpa using hu)
  rw [List.getElem?_map] at hx
  cases q:(List.range' 0 i.toNat)[j]? with
  | none=>rw [q] at hx; cases hx
  | some y=>
   rw [q] at hx
   cases hx
   have:y = j:=by
    rw [List.getElem?_range'] at q
    ·simpa using q.symm
    ·have:=(List.getElem?_eq_some_iff.mp q).1; simpa using this
   subst this
   exact ⟨t,by simp⟩
 have I1:L2.Inv X pins σ H { s with heap:=h',toks:=tk }:=I.kept hk
 have hfr:=I1.hok.fresh (Nat.le_refl h'.objs.size)
 obtain ⟨s1,q1⟩:=laidT (K:=X.K) hfr (upTo_reps i.toNat 0)
 refine ⟨.ref h'.objs.size,_,I1.laid (t':=tk) (o:=.tup ((List.range' 0 i.toNat).map fun (j:Nat)=>V.int ((0:Int) + (j:Int)))) (fun b u e=>Heap.get?_push_of_some _ e) (Nat.le_refl _) ⟨⟨?_,nodict⟩,acc.toList,hit,⟨_,Heap.get?_push_size _ rfl,rfl,0,by simp⟩⟩,rfl,h _ _ s1 ?_⟩
 ·rw [sizeLine_eq]; simp; omega
 ·unfold Pu.upTo; rw [List.range_eq_range']; exact q1
theorem eRngT (C:Ctx X G N nm) (ht:G.mg "tuple" = none) (hr:G.mg "range" = none) (ha:PE X a (tI X call pa)) (hg:gloB nm "tuple" = true) (hg2:gloB nm "range" = true)
  (hs:starEach [a] X.env = (false,eval a X.env) :: starEach [] X.env:=by rfl):PE X (.Call (.Name "tuple" p1) [.Call (.Name "range" p2) [a] [] p3] [] pos) (tI X call (.un .rngT pa)):=by
 have h1:PE X (.Call (.Name "range" p2) [a] [] p3) _:=pe_callTy call_rngR (C.glo _ hg2) (by rw [C.mg]; exact hr) boot_range (pA_cons ha pA_nil hs) (by decide +kernel) (by decide +kernel) hs rfl
 refine PE.weak (pe_callTy (call_tupR C.calm) (C.glo _ hg) (by rw [C.mg]; exact ht) PyProof.Rows.boot_tuple (pa_cons h1 pa_nil rfl) (by decide +kernel) (by decide +kernel) rfl rfl) fun σ H Q h=>?_
 obtain ⟨env,r,h⟩:=h
 simp only [evD] at h
 refine ⟨env,r,?_⟩
 simp only [evD]
 refine Rs.good_bind.mpr ((Rs.good_bind.mp h).imp fun d hd=>?_)
 simp only [Rs.bind_ok,D.asL]
 refine ⟨[d],rfl,fun vs H' s rs=>?_⟩
 obtain ⟨x,r',e',h1,h2⟩:=rs
 cases h2
 subst e'
 cases d with
 | int i=>
  cases h1
  simp only [op1] at hd
  split at hd
  ·rename_i q
   have sm:∀ p,H' p = none -> Same H' (upd H' p (.rng 0 i)):=fun p hp b ob e=>by rw [upd_ne (ne_of_none e hp)]; exact e
   exact ⟨i,rfl,fun p hp=>⟨p,i,rfl,upd_same,q.1,q.2,Out.mono hd (s.trans (sm p hp))⟩⟩
  ·exact hd.elim
 | _=>exact hd.elim
end
end Rd
namespace Rd
open PySem PySem.Spec PyProof.Rows L2 Pu
section
variable {X:Cx} {call:CallD} {G:Gw} {N:List Str} {nm:List (Str × NameKind)} {k v:Expr} {pk pv:Px} {pos:Pos}
theorem eDsp1 (C:Ctx X G N nm) (hK:NoKT G.K) (hk:PE X k (tI X call pk)) (hv:PE X v (tI X call pv)):PE X (.Dict [some k] [v] pos) (tI X call (.dsp true (.cons pk .nil) (.cons pv .nil))):=by
 intro pins s σ H Q I ⟨env,r,h⟩
 simp only [evD,Rs.bind_assoc,dspD] at h
 have hn:=I.hok.fresh (Nat.le_refl s.heap.objs.size)
 have I1:=I.laid (a:=s.heap.objs.size) (o:=.dT []) (h':=s.heap.push { cls:=.type "dict",data:=.dict #[] }) (t':=s.toks) (fun _ _ q=>Heap.get?_push_of_some _ q) (Nat.le_refl _) (dt_empty s.heap I.big)
 have eH:hid [s.heap.objs.size] (upd H s.heap.objs.size (.dT [])) = H:=by
  funext c
  by_cases q:c = s.heap.objs.size
  ·rw [hid_out (by simp [q]),q,hn]
  ·rw [hid_in (by simpa using q),upd_ne q]
 have hL:Ows [s.heap.objs.size] (upd H s.heap.objs.size (.dT [])):=fun c hc=>by
  have:c = s.heap.objs.size:=by simpa using hc
  exact ⟨.dT [],by rw [this]; exact upd_same,True.intro⟩
 obtain ⟨ps,g1,g2,I2⟩:=Rd.Inv.hide I1 hL
 rw [eH] at I2
 refine wpAny_Dict_any rfl rfl (by simp) (by simp) ?_
 refine pairTrees_cons_walk (thn (hk (ps ++ pins) _ σ H (fun x H1=>∃ d,Same H H1 /\ Rep X.K H1 d x /\ ((evD call pv env).bind fun y=>if keyD true d then .ok (.dct true true [d] [y]) else .stuck).Good (Out X H Q) (XW X H)) I2 ⟨env,r,?_⟩) fun u s1 ⟨x,H1,J1,rx,d,e1,e3,e4⟩=>?_)
 ·refine (Rs.good_bind.mp h).mono (fun d hd x H1 sm rx=>⟨d,sm,rx,?_⟩) fun c hc=>hc
  simpa only [Rs.bind_ok,D.asL] using hd
 refine thn (hv (ps ++ pins) s1 σ H1 (fun y H2=>∃ dv,Same H1 H2 /\ Rep X.K H2 dv y /\ (if keyD true d then Rs.ok (D.dct true true [d] [dv]) else .stuck).Good (Out X H Q) (XW X H)) J1 ⟨env,r.mono e1,?_⟩) fun w2 s2 ⟨y,H2,J2,ry,dv,f1,f2,f3⟩=>?_
 ·exact (Rs.good_bind.mp e4).mono (fun dv hd y H2 sm ry=>⟨dv,sm,ry,hd⟩) fun c hc=>hc.mono e1
 refine pairTrees_nil_walk ?_
 obtain ⟨u1,J3⟩:=Rd.Inv.unhide I1 hL g1 g2 (by rw [eH]; exact e1.trans f1) J2
 have hp0:=u1 s.heap.objs.size (by simp)
 have hp2:uni [s.heap.objs.size] (upd H s.heap.objs.size (.dT [])) H2 s.heap.objs.size = some (.dT []):=by rw [uni_out (by simp)]; exact upd_same
 split at f3
 ·rename_i hkd
  have hKX:NoKT X.K:=by rw [C.K]; exact hK
  obtain ⟨b,ks,rfl,rfl,hb⟩:=tkey_at hKX hkd e3
  cases (show u = Value.ref b from rx)
  have hb1:=f1 _ _ hb
  have nb:b ≠ s.heap.objs.size:=ne_of_none hb1 hp0
  have hb2:uni [s.heap.objs.size] (upd H s.heap.objs.size (.dT [])) H2 b = some (.tup (ks.map kV)):=by rw [uni_in (by simpa using nb)]; exact hb1
  obtain ⟨z,hd,xs,rel,dd⟩:=dt_of J3.hok hp2
  cases rel
  unfold storeAll
  rw [List.forIn_cons]
  refine wpAny_bind (wpAny_bind (wpAny_dictSet_heap (hsz:=Nat.zero_le _) (show (tupleKind (mixKind X.prog X.w)).room X.A from Nat.lt_of_le_of_lt (Nat.le_add_right _ _) C.un) (L2.key_of J3.hok hb2) dd fun h' dd' hs=>wpAny_pure ?_))
  show wpAny _ _ (forIn [] PUnit.unit _) _ _ _
  rw [List.forIn_nil]
  refine wpAny_pure ?_
  obtain ⟨q,es,ep,hq,h2,h3,h4,_,h5⟩:=dd'
  have st:storedH [] ks b w2 = [(ks,b,w2)]:=rfl
  rw [st] at h4 h5
  have hob:ObjOk X.prog X.w (upd (uni [s.heap.objs.size] (upd H s.heap.objs.size (.dT [])) H2) s.heap.objs.size (.frz q (.dT [(ks,y)]))) h' s.heap.objs.size (.frz q (.dT [(ks,y)])):=
   ⟨hq,by rw [sizeLine_eq]; show 1 <= _; decide,hd,[(ks,b,w2)],.cons ⟨rfl,by rw [upd_ne nb]; exact hb2,ry⟩ .nil,q,es,ep,hq,h2,h3,h4,h5⟩
  have I3:=d_write (t':=s2.toks + (tupleKind (mixKind X.prog X.w)).draws ks) J3 (by rw [hp2]; exact True.intro) hs ⟨q,hq⟩ hob
  have s2':Same H2 (upd (uni [s.heap.objs.size] (upd H s.heap.objs.size (.dT [])) H2) s.heap.objs.size (.frz q (.dT [(ks,y)]))):=fun c ob e=>by
   have nc:=ne_of_none e hp0
   rw [upd_ne nc,uni_in (by simpa using nc)]; exact e
  exact ⟨.ref s.heap.objs.size,_,I3,rfl,f3 _ _ ((e1.trans f1).trans s2') ⟨_,_,rfl,⟨[(ks,y)],⟨q,upd_same⟩,rfl,rfl⟩,Reps.one (f2.mono s2')⟩⟩
 ·exact f3.elim
end
end Rd
namespace Rd
open PySem PySem.Spec PyProof.Rows L2 Pu
def simpP:Px -> Bool
 | .var _=>true
 | .con _=>true
 | _=>false
def simpsP:Px -> Bool
 | .nil=>true
 | .cons a p=>simpP a && simpsP p
 | _=>false
theorem simpP_ev (call:CallD) {p:Px} {env:Fm} (h:simpP p = true):evD call p env = .stuck \/ ∃ d,evD call p env = .ok d:=by
 cases p with
 | var i=>
  simp only [evD]
  cases env[i]? with
  | none=>exact .inl rfl
  | some o=>cases o with
   | none=>exact .inl rfl
   | some d=>exact .inr ⟨d,rfl⟩
 | con d=>exact .inr ⟨d,rfl⟩
 | _=>cases h
theorem simpsP_ev (call:CallD):∀ {p:Px} {env:Fm},simpsP p = true -> evD call p env = .stuck \/ ∃ ds,evD call p env = .ok (.lst ds)
 | .nil,env,_=>.inr ⟨[],rfl⟩
 | .cons a p,env,h=>by
  simp only [simpsP,Bool.and_eq_true] at h
  simp only [evD]
  rcases simpP_ev call (env:=env) h.1 with q | ⟨d,q⟩
  ·rw [q]; exact .inl rfl
  ·rcases simpsP_ev call (p:=p) (env:=env) h.2 with q2 | ⟨ds,q2⟩
   ·rw [q,q2]; exact .inl rfl
   ·rw [q,q2]; exact .inr ⟨d :: ds,rfl⟩
section
variable {X:Cx} {call:CallD} {e:Expr} {p pe:Px} {pos:Pos}
def PJV (X:Cx) (call:CallD) (vs:List Expr) (p:Px):Prop:=∀ (pins:List (Addr × Obj)) (s:Shared) (σ:L2.St) (H:Hp) (env:Fm) (acc:Str) (Q:Str -> Shared -> Prop) (ds:List D) (y:Str),L2.Inv X pins σ H s -> ReadOk X.K H σ env -> evD call p env = .ok (.lst ds) -> joinD ds = some y ->
 acc.length + y.length <= 1000000 -> (∀ s1 H1,L2.Inv X pins σ H1 s1 -> Same H H1 -> Q (acc ++ y) s1) -> Joins (model X.prog X.w) X.A X.xe (evalEach vs X.env) acc Q s
theorem app_empty (x:Str):x ++ Str.empty = x:=by
 cases x with | mk c=>show Str.mk (c ++ #[]) = _; simp
theorem app_assoc (x y z:Str):x ++ y ++ z = x ++ (y ++ z):=by
 cases x with | mk a=>cases y with | mk b=>cases z with | mk c=>exact congrArg Str.mk (Array.append_assoc ..)
theorem pjv_nil:PJV X call [] .nil:=fun pins s σ H env acc Q ds y I r he hy hl k=>by
 cases he
 cases hy
 have:=k s H I (Same.refl H)
 rw [app_empty] at this
 exact this
theorem joinD_cons {d:D} {ds:List D} {y:Str} (h:joinD (d :: ds) = some y):∃ a b,pieceD d = some a /\ joinD ds = some b /\ y = a ++ b:=by
 unfold joinD at h
 split at h
 ·rename_i a b e1 e2
  split at h
  ·cases h; exact ⟨a,b,e1,e2,rfl⟩
  ·cases h
 ·cases h
theorem pjv_cons {vs:List Expr} (he:PE X e (tI X call pe)) (hs:simpP pe = true) (h:PJV X call vs p):PJV X call (.FormattedValue e (-1) none pos :: vs) (.cons pe p):=by
 intro pins s σ H env acc Q ds y I r hev hy hl kk
 simp only [evD] at hev
 rcases simpP_ev call (env:=env) hs with q | ⟨d,q⟩
 ·rw [q] at hev; cases hev
 rw [q] at hev
 simp only [Rs.bind_ok] at hev
 cases q2:evD call p env with
 | ex c=>rw [q2] at hev; cases hev
 | stuck=>rw [q2] at hev; cases hev
 | ok d2=>
  rw [q2] at hev
  cases d2 with
  | lst es=>
   simp only [Pu.D.asL,Rs.bind_ok] at hev
   cases hev
   obtain ⟨a,b,e1,e2,rfl⟩:=joinD_cons hy
   rw [strLen_app] at hl
   have rest:∀ (s1:Shared) H1,L2.Inv X pins σ H1 s1 -> Same H H1 -> Joins (model X.prog X.w) X.A X.xe (evalEach vs X.env) (acc ++ a) Q s1:=fun s1 H1 I1 sm=>
    h pins s1 σ H1 env (acc ++ a) Q es b I1 (r.mono sm) q2 e2 (by rw [strLen_app]; omega) fun s2 H2 I2 sm2=>by
     rw [app_assoc]; exact kk s2 H2 I2 (sm.trans sm2)
   have hz:(acc ++ a).length <= sizeLine:=by rw [strLen_app,sizeLine_eq]; omega
   refine wpAny_FormattedValue_plain (wpAny_mono (he pins s σ H (fun v H'=>Rep X.K H' d v /\ Same H H') I ⟨env,r,by rw [q]; exact fun v H' s1 rv=>⟨rv,s1⟩⟩) (fun u s1 ⟨v,H1,I1,rv,hv,sm⟩=>?_) fun _ _ z=>z)
   cases d with
   | str z=>
    cases hv
    obtain ⟨t,rfl⟩:=rv
    simp only [pieceD] at e1
    split at e1
    ·rename_i hz0
     cases e1
     exact formatField_str (fun t' tk=>⟨_,t',rfl,hz,rest _ H1 (I1.tok tk) sm⟩) (by rw [sizeLine_eq]; omega)
    ·cases e1
   | int i=>
    cases hv
    obtain ⟨t,rfl⟩:=rv
    simp only [pieceD] at e1
    split at e1
    ·rename_i hz0
     cases e1
     refine formatField_int_small ?_ ⟨_,_,rfl,hz,rest _ H1 (I1.tok _) sm⟩
     by_cases h0:i.natAbs = 0
     ·rw [h0]; decide
     ·exact Nat.lt_of_lt_of_le ((Nat.log2_lt h0).mpr hz0) (by decide)
    ·cases e1
   | _=>simp [pieceD] at e1
  | _=>cases hev
theorem eFst {v1 v2:Expr} {vs:List Expr} (h:PJV X call (v1 :: v2 :: vs) p) (hv:simpsP p = true):PE X (.JoinedStr (v1 :: v2 :: vs) pos) (tI X call (.un .join p)):=by
 intro pins s σ H Q I ⟨env,r,g⟩
 simp only [evD] at g
 rcases simpsP_ev call (env:=env) hv with q | ⟨ds,q⟩
 ·rw [q] at g; exact g.elim
 rw [q] at g
 simp only [Rs.bind_ok,op1] at g
 cases hj:joinD ds with
 | none=>rw [hj] at g; exact g.elim
 | some y=>
  rw [hj] at g
  have hy:y.length <= 2000:=by
   cases ds with
   | nil=>cases hj; decide
   | cons d ds=>
    unfold joinD at hj
    split at hj
    ·split at hj
     ·rename_i hz; cases hj; rw [strLen_app]; exact hz
     ·cases hj
    ·cases hj
  refine wpAny_JoinedStr (h pins s σ H env Str.empty _ ds y I r q hj (by show 0 + _ <= _; omega) fun s1 H1 I1 sm=>⟨?_,.str _,H1,I1.tok _,⟨_,rfl⟩,?_⟩)
  ·rw [strLen_app]; show 0 + _ <= 16777216; omega
  ·have e0:Str.empty ++ y = y:=by cases y with | mk c=>show Str.mk (#[] ++ c) = _; simp
   rw [e0]
   exact g _ _ sm rfl
end
end Rd
namespace Rd
open PySem PySem.Spec PyProof.Rows L2 Pu
section
variable {prog:Program} {w:World} {A:Around} {E:Value -> Shared -> Prop} {s:Shared} {it d:Addr} {od:Obj} {es:Array DictEntry} {ep i:Nat} {ok ov:Value}
theorem itm_next {e:DictEntry} {Q:Option Value -> Shared -> Prop} (hit:IsItemIter s.heap it d i es.size ep ok ov) (hod:s.heap.get? d = some od) (hdd:od.data = .dict es ep) (hx:es[i]? = some e)
  (hQ:∀ h',IsItemIterOut h' it d (i + 1) es.size ep e.key e.val s.heap.objs.size -> h'.get? s.heap.objs.size = some { cls:=.type "tuple",data:=.seq #[e.key,e.val] } ->
   (∀ b o,b ≠ it -> s.heap.get? b = some o -> h'.get? b = some o) -> Q (some (.ref s.heap.objs.size)) { s with heap:=h' }) :
  wpAny (model prog w) A (pyNext (.ref it)) Q E s:=by
 obtain ⟨hp,g,dr,tk,os⟩:=s
 have hT:Shared.TypeIs ⟨hp,g,dr,tk,os⟩ (.ref it) "dict_itemiterator":=⟨_,hit,rfl⟩
 have own:Builtin.Dict_items.ownsTuple "dict_itemiterator" = true:=by decide
 unfold pyNext
 refine wpAny_bind (wpAny_attempt (wpAny_callSpecial?_slot (name:=Str.ofString "__next__") hT F.slot_dict_itemiterator_next (wpAny_call_entry F.slot_dict_itemiterator_next hT F.entry_dict_itemiterator_next ?_ (F.args_dict_itemiterator_next_1 _))))
 refine wpAny_bind (wpAny_pure (wpAny_bind (wpAny_bind ?_)))
 refine wpAny_bind (wpAny_typeNameOfWhole_itemiter hT (wpAny_pure (wpAny_bind (wpAny_fieldsOf hit rfl ?_)))); simp only [own,if_true]
 show wpAny _ _ (if (Value.ref d == Value.none) = true then _ else _) _ _ _; rw [if_neg (show ¬ ((Value.ref d == Value.none) = true) from Bool.false_ne_true)]
 refine wpAny_bind (wpAny_pure (wpAny_bind (wpAny_dictEntries hod hdd ?_))); rw [if_neg (by simp)]
 refine wpAny_bind (wpAny_pure (wpAny_bind (wpAny_dictEpoch hod hdd ?_))); rw [if_neg (by simp)]; refine wpAny_pure ?_
 simp only [show ¬ ((i:Int) < 0) from by omega,if_false,Int.toNat_natCast,hx]
 refine wpAny_bind (wpAny_bind (wpAny_typeNameOfWhole_itemiter hT (wpAny_pure (wpAny_bind (wpAny_isOneOf_itemiter hT ?_)))))
 show wpAny _ _ (setField (.ref it) 3 (rawInt ((i:Int) + 1)) >>= _) _ _ ⟨hp,g,dr,tk,os⟩
 refine wpAny_bind (wpAny_setField_rec hit (by simp) fun h1 he1 hs1=>?_)
 replace hs1:Heap.SameBut it hp h1:=hs1
 replace he1:IsItemIter h1 it d (i + 1) es.size ep ok ov:=by
  unfold IsItemIter; rw [show ((i + 1:Nat):Int) = (i:Int) + 1 by omega]; simpa [rawInt] using he1
 have hT1:Shared.TypeIs ⟨h1,g,dr,tk,os⟩ (.ref it) "dict_itemiterator":=⟨_,he1,rfl⟩
 refine wpAny_bind (wpAny_holding (wpAny_bind (wpAny_isOneOf_itemiter hT1 (wpAny_bind (wpAny_isOneOf_itemiter hT1 ?_)))))
 show wpAny _ _ (Builtin.Dict_items.pairFromOwner (.ref it) 6 e.key e.val) _ _ ⟨h1,g,dr,tk,os⟩; unfold Builtin.Dict_items.pairFromOwner
 refine wpAny_bind (wpAny_newTuple ?_)
 have z1:h1.objs.size = hp.objs.size:=hs1.1
 have il:it < hp.objs.size:=Heap.lt_size hit
 have ne:hp.objs.size ≠ it:=Nat.ne_of_gt il
 show wpAny _ _ (Builtin.Dict_items.ownedTupleIsFree (.ref it) >>= _) _ _ ⟨h1.push { cls:=.type "tuple",data:=.seq #[e.key,e.val] },g,dr,tk,os⟩
 have ht2:(h1.push { cls:=.type "tuple",data:=.seq #[e.key,e.val] }).get? hp.objs.size = some { cls:=.type "tuple",data:=.seq #[e.key,e.val] }:=by rw [<- z1]; exact Heap.get?_push_size _ rfl
 have he2:IsItemIter (h1.push { cls:=.type "tuple",data:=.seq #[e.key,e.val] }) it d (i + 1) es.size ep ok ov:=Heap.get?_push_of_some _ he1
 have k2:∀ b o,b ≠ it -> hp.get? b = some o -> (h1.push { cls:=.type "tuple",data:=.seq #[e.key,e.val] }).get? b = some o:=fun b o hb q=>Heap.get?_push_of_some _ (hs1.extBut b o hb q)
 rw [z1]
 generalize h1.push { cls:=.type "tuple",data:=.seq #[e.key,e.val] } = h2 at ht2 he2 k2 ⊢
 refine wpAny_bind ?_; unfold Builtin.Dict_items.ownedTupleIsFree
 refine wpAny_bind (wpAny_field he2 rfl (x:=.none) rfl (wpAny_pure ?_)); simp only [if_true]
 refine wpAny_bind (wpAny_field he2 rfl (x:=ok) rfl (wpAny_bind (wpAny_field he2 rfl (x:=ov) rfl ?_)))
 refine wpAny_bind (wpAny_setField_rec he2 (by simp) fun h3 he3 hs3=>wpAny_bind (wpAny_setField_rec (show IsItemIter h3 it d (i + 1) es.size ep e.key ov from he3) (by simp) fun h4 he4 hs4=>?_))
 refine wpAny_bind (wpAny_setField_rec (show IsItemIter h4 it d (i + 1) es.size ep e.key e.val from he4) (by simp) fun h5 he5 hs5=>?_)
 refine wpAny_bind (wpAny_setField_rec (show IsItemIterOut h5 it d (i + 1) es.size ep e.key e.val hp.objs.size from he5) (by simp) fun h6 he6 hs6=>?_)
 have kk:∀ b o,b ≠ it -> h2.get? b = some o -> h6.get? b = some o:=fun b o hb q=>
  (show Heap.SameBut it h5 h6 from hs6).extBut b o hb ((show Heap.SameBut it h4 h5 from hs5).extBut b o hb ((show Heap.SameBut it h3 h4 from hs4).extBut b o hb ((show Heap.SameBut it h2 h3 from hs3).extBut b o hb q)))
 exact wpAny_bind (wpAny_letGo (wpAny_pure (wpAny_pure ⟨_,rfl,wpAny_pure (hQ h6 he6 (kk _ _ ne ht2) fun b o hb q=>kk b o hb (k2 b o hb q))⟩)))
theorem itm_end {Q:Option Value -> Shared -> Prop} (hh:A.handled = none) (hit:IsItemIter s.heap it d i es.size ep ok ov) (hod:s.heap.get? d = some od) (hdd:od.data = .dict es ep) (hx:es[i]? = none)
  (hQ:∀ h',(∀ b o,b ≠ it -> s.heap.get? b = some o -> h'.get? b = some o) -> Q none { s with heap:=h' }) :
  wpAny (model prog w) A (pyNext (.ref it)) Q E s:=by
 obtain ⟨hp,g,dr,tk,os⟩:=s
 have hT:Shared.TypeIs ⟨hp,g,dr,tk,os⟩ (.ref it) "dict_itemiterator":=⟨_,hit,rfl⟩
 have own:Builtin.Dict_items.ownsTuple "dict_itemiterator" = true:=by decide
 unfold pyNext
 refine wpAny_bind (wpAny_attempt (wpAny_callSpecial?_slot (name:=Str.ofString "__next__") hT F.slot_dict_itemiterator_next (wpAny_call_entry F.slot_dict_itemiterator_next hT F.entry_dict_itemiterator_next ?_ (F.args_dict_itemiterator_next_1 _))))
 refine wpAny_bind (wpAny_pure (wpAny_bind (wpAny_bind ?_)))
 refine wpAny_bind (wpAny_typeNameOfWhole_itemiter hT (wpAny_pure (wpAny_bind (wpAny_fieldsOf hit rfl ?_)))); simp only [own,if_true]
 show wpAny _ _ (if (Value.ref d == Value.none) = true then _ else _) _ _ _; rw [if_neg (show ¬ ((Value.ref d == Value.none) = true) from Bool.false_ne_true)]
 refine wpAny_bind (wpAny_pure (wpAny_bind (wpAny_dictEntries hod hdd ?_))); rw [if_neg (by simp)]
 refine wpAny_bind (wpAny_pure (wpAny_bind (wpAny_dictEpoch hod hdd ?_))); rw [if_neg (by simp)]; refine wpAny_pure ?_
 simp only [show ¬ ((i:Int) < 0) from by omega,if_false,Int.toNat_natCast,hx]
 refine wpAny_bind (wpAny_bind (wpAny_typeNameOfWhole_itemiter hT (wpAny_pure ?_)))
 show wpAny _ _ (setField (.ref it) 2 .none >>= _) _ _ ⟨hp,g,dr,tk,os⟩
 refine wpAny_bind (wpAny_setField_rec hit (by simp) fun h1 he1 hs1=>?_)
 replace hs1:Heap.SameBut it hp h1:=hs1
 show wpAny _ _ (newExc (.type "StopIteration") [] >>= _) _ _ ⟨h1,g,dr,tk,os⟩
 refine wpAny_bind ?_; simp only [newExc,newTuple]
 refine wpAny_bind (wpAny_newObj_type (wpAny_bind (m:=firstArgMember _ _) (wpAny_of_eq (a:=Value.none) (by first | rfl | (simp only [firstArgMember]; rfl)) (wpAny_newObj_type ?_ (by size_fits)))) (by size_fits))
 simp only [raiseNew]
 refine wpAny_bind (wpAny_handled ?_); rw [show A.in1.handled = none from hh]
 refine wpAny_bind (wpAny_pure (wpAny_throw ?_))
 refine wpAny_bind (wpAny_isInstance (T:="StopIteration") (b:=true) ⟨_,Heap.get?_push_size _ rfl,rfl⟩ isSubtype_stop ?_)
 exact wpAny_pure (hQ _ ((hs1.extBut.push _).push _))
end
end Rd
namespace Rd
open PySem PySem.Spec PyProof.Rows L2 Pu
theorem keys_reps {K:PySem.W.Frag} {H:Hp}:∀ c:List L2.Key,Reps K H (c.map keyV) (c.map kV)
 | []=>rfl
 | a :: c=>⟨_,_,rfl,by cases a <;> rfl,keys_reps c⟩
section
variable {prog:Program} {w:World} {A:Around} {E:Value -> Shared -> Prop} {s:Shared} {d:Addr} {od:Obj} {es:Array DictEntry} {ep:Nat}
theorem itm_view {Q:Value -> Shared -> Prop} (ho:s.heap.get? d = some od) (hc:od.cls = .type "dict") (hd:(d == sysModules) = false)
  (h:Q (.ref s.heap.objs.size) { s with heap:=s.heap.push { cls:=.type "dict_items",data:=.fields #[.ref d] } }):wpAny (model prog w) A (call (.builtin "dict.items") [.ref d]) Q E s:=by
 have hT:s.TypeIs (.ref d) "dict":=⟨od,ho,hc⟩
 refine wpAny_call_entry F.slot_dict_items hT F.entry_dict_items ?_ (F.args_dict_items_1 _)
 unfold Builtin.«dict.items»
 refine wpAny_bind ?_; unfold Builtin.Dict.noArgs
 refine wpAny_bind (wpAny_notOrdered_dict hT ?_); show wpAny _ _ (pure d) _ _ s; refine wpAny_pure ?_
 show wpAny _ _ (Builtin.Dict.showsAll d >>= _) _ _ s; unfold Builtin.Dict.showsAll; rw [if_neg (by rw [hd]; exact Bool.false_ne_true)]
 exact wpAny_bind (wpAny_pure (wpAny_bind (wpAny_newObj_type (wpAny_pure ⟨_,rfl,h⟩))))
theorem itm_iter {v:Addr} {Q:Value -> Shared -> Prop} (hv:s.heap.IsItemsView v d) (ho:s.heap.get? d = some od) (hdat:od.data = .dict es ep)
  (hQ:Q (.ref s.heap.objs.size) { s with heap:=s.heap.push { cls:=.type "dict_itemiterator",data:=.fields #[.none,.bool false,.ref d,.int 0 0,.int es.size 0,.int ep 0,.none,.none] } }):wpAny (model prog w) A (pyIter (.ref v)) Q E s:=by
 obtain ⟨ov,hov,hcv,hdv⟩:=id hv
 have own:Builtin.Dict_items.ownsTuple "dict_itemiterator" = true:=by decide
 refine wpAny_pyIter_slot hv.typeIs F.slot_dict_items_iter (wpAny_call_entry F.slot_dict_items_iter hv.typeIs F.entry_dict_items_iter ?_ (F.args_dict_items_iter_1 _))
 unfold Builtin.«dict_items.__iter__»
 refine wpAny_bind (wpAny_pure (wpAny_bind ?_)); unfold Builtin.Dict_items.dictOf
 refine wpAny_bind (wpAny_field hov hdv (x:=.ref d) rfl (wpAny_pure (wpAny_bind ?_))); unfold Builtin.Dict_items.newIterator
 refine wpAny_bind (wpAny_dictEntries ho hdat (wpAny_bind (wpAny_dictEpoch ho hdat ?_))); simp only [own,if_true]
 refine wpAny_newObj_type (wpAny_pure ⟨_,rfl,"dict_itemiterator",_,⟨_,Heap.get?_push_size _ rfl,rfl⟩,F.slot_dict_itemiterator_next.lookup,?_⟩) (by simp only [sizeOk,Builtin.Dict_items.ownedTupleFields,List.size_toArray,List.length_append,List.length_cons,List.length_nil,sizeLine_eq]; omega)
 simpa [rawInt,Builtin.Dict_items.ownedTupleFields] using hQ
end
def DKo (H:Hp) (d:Addr) (t:Bool) (o:Obj) (ks:List D) (xs:List V):Prop:=match t with
 | true=>∃ kvs:List (List L2.Key × V),H d = some (.frz o (.dT kvs)) /\ ks = kvs.map (fun p=>tkeyV p.1) /\ xs = kvs.map (·.2)
 | false=>∃ kvs:List (L2.Key × V),H d = some (.frz o (.dK kvs)) /\ ks = kvs.map (fun p=>keyV p.1) /\ xs = kvs.map (·.2)
theorem DKo.of {H:Hp} {d:Addr} {t:Bool} {ks:List D} {xs:List V} (h:DK H d t true ks xs):∃ o,DKo H d t o ks xs:=by
 cases t <;> obtain ⟨kvs,⟨o,q⟩,e1,e2⟩:=h <;> exact ⟨o,kvs,q,e1,e2⟩
theorem DKo.same {H H':Hp} {d:Addr} {t:Bool} {o:Obj} {ks:List D} {xs:List V} (s:Same H H') (h:DKo H d t o ks xs):DKo H' d t o ks xs:=by
 cases t <;> obtain ⟨kvs,q,e1,e2⟩:=h <;> exact ⟨kvs,s _ _ q,e1,e2⟩
theorem DKo.inj {H:Hp} {d:Addr} {t:Bool} {o o':Obj} {ks ks':List D} {xs xs':List V} (h:DKo H d t o ks xs) (h':DKo H d t o' ks' xs'):ks = ks' /\ xs = xs':=by
 cases t <;> obtain ⟨kvs,q,e1,e2⟩:=h <;> obtain ⟨kvs',q',e1',e2'⟩:=h' <;> rw [q] at q' <;> cases q' <;> exact ⟨e1.trans e1'.symm,e2.trans e2'.symm⟩
theorem DKo.len {H:Hp} {d:Addr} {t:Bool} {o:Obj} {ks:List D} {xs:List V} (h:DKo H d t o ks xs):ks.length = xs.length:=by
 cases t <;> obtain ⟨kvs,_,rfl,rfl⟩:=h <;> simp
def Iti (K:PySem.W.Frag) (t:Bool) (d:Addr) (o:Obj):It:=
 ⟨fun i H=>∃ ks xs,DKo H d t o ks xs /\ i < xs.length,
  fun i H x H'=>∃ T kv y,H T = none /\ x = .ref T /\ H' = upd H T (.tup [kv,y]) /\ ∀ ks xs,DKo H d t o ks xs -> xs[i]? = some y /\ ∃ k,ks[i]? = some k /\ Rep K H k kv /\ ∀ b,kv = .ref b -> ∃ zs,H b = some (.tup zs),
  fun i H=>∃ ks xs,DKo H d t o ks xs /\ xs.length = i⟩
theorem ok_itm {K:PySem.W.Frag} {t:Bool} {d:Addr} {o:Obj}:ItOk (Iti K t d o):=fun L i H x H' hL ⟨T,kv,y,h1,h2,h3,h4⟩=>by
 have hT:=not_mem_of_free hL h1
 refine ⟨T,kv,y,by rw [hid_in hT]; exact h1,h2,by rw [h3,hid_upd hT],fun ks xs q=>?_⟩
 obtain ⟨g1,k,g2,g3,g4⟩:=h4 ks xs (q.same hid_same)
 have nb:∀ b,kv = .ref b -> b ∉ L:=fun b e hb=>by
  obtain ⟨zs,hz⟩:=g4 b e
  obtain ⟨o,ho,hc⟩:=hL b hb
  rw [hz] at ho; cases ho; exact hc
 refine ⟨g1,k,g2,?_,fun b e=>let ⟨zs,hz⟩:=g4 b e; ⟨zs,by rw [hid_in (nb b e)]; exact hz⟩⟩
 have hk:(∃ c,k = keyV c) \/ ∃ c,k = tkeyV c:=by
  cases t <;> obtain ⟨kvs,_,rfl,rfl⟩:=q
  ·rw [List.getElem?_map] at g2
   cases e:kvs[i]? with
   | none=>rw [e] at g2; cases g2
   | some p=>rw [e] at g2; cases g2; exact .inl ⟨_,rfl⟩
  ·rw [List.getElem?_map] at g2
   cases e:kvs[i]? with
   | none=>rw [e] at g2; cases g2
   | some p=>rw [e] at g2; cases g2; exact .inr ⟨_,rfl⟩
 rcases hk with ⟨c,rfl⟩ | ⟨c,rfl⟩
 ·cases c <;> exact g3
 ·obtain ⟨b,xs2,rfl,q1,q2⟩:=g3
  refine ⟨b,xs2,rfl,?_,?_⟩
  ·rcases q1 with q1 | q1
   ·exact .inl (by rw [hid_in (nb b rfl)]; exact q1)
   ·exact .inr q1
  ·have:=keys_val q2
   subst this
   exact keys_reps c
theorem paired_get {α β:Type} {R:α -> β -> Prop}:∀ {xs:List α} {us:List β} {i:Nat} {x:α},Paired R xs us -> xs[i]? = some x -> ∃ u,us[i]? = some u /\ R x u
 | _,_,_,_,.nil,e=>by simp at e
 | _,_,0,_,.cons r t,e=>by simp at e; subst e; exact ⟨_,rfl,r⟩
 | _,_,i + 1,_,.cons r t,e=>by
  obtain ⟨u,h1,h2⟩:=paired_get (i:=i) t (by simpa using e)
  exact ⟨u,by simpa using h1,h2⟩
section
variable {X:Cx} {pins:List (Addr × Obj)} {σ:L2.St} {H:Hp} {s:Shared} {d:Addr} {t:Bool} {o:Obj} {ks:List D} {xs:List V}
theorem entry_at (I:L2.Inv X pins σ H s) (h:DKo H d t o ks xs):s.heap.get? d = some o /\ o.cls = .type "dict" /\ o.dict = none /\ (d == sysModules) = false /\ ∃ es ep,o.data = .dict es ep /\ es.size = xs.length /\
  ∀ i,i < xs.length -> ∃ e k kv y,es[i]? = some e /\ ks[i]? = some k /\ xs[i]? = some y /\ RelV y e.val /\ RelV kv e.key /\ Rep X.K H k kv /\ ∀ b,kv = .ref b -> ∃ zs,H b = some (.tup zs):=by
 cases t with
 | true=>
  obtain ⟨kvs,q,rfl,rfl⟩:=h
  obtain ⟨g0,g1,g2,ys,g3,o',es,ep,g4,g5,g6,g7,g8⟩:=I.hok d _ q
  rw [g0] at g4; cases g4
  have hl:es.size = kvs.length:=by
   have:=congrArg List.length g7
   rw [List.length_map,<- Paired.length g3] at this
   simpa using this
  refine ⟨g0,g5.1,g5.2.1,g2,es,ep,g6,by simp [hl],fun i hi=>?_⟩
  have hi':i < kvs.length:=by simpa using hi
  obtain ⟨⟨k,b,v⟩,e1,e2,e3,e4⟩:=paired_get g3 (List.getElem?_eq_getElem hi')
  have ee:es[i]? = some (entryOfKey (tupleKind (mixKind X.prog X.w)) (k,b,v)):=by
   rw [<- Array.getElem?_toList,g7,List.getElem?_map,e1]; rfl
  refine ⟨_,tkeyV (kvs[i]).1,.ref b,(kvs[i]).2,ee,by simp [hi'],by simp [hi'],e4,rfl,?_,fun b' z=>by cases z; exact ⟨_,e3⟩⟩
  exact ⟨b,_,rfl,.inl e3,keys_reps _⟩
 | false=>
  obtain ⟨kvs,q,rfl,rfl⟩:=h
  obtain ⟨g0,g1,g2,ys,g3,o',es,ep,g4,g5,g6,g7,g8,g9⟩:=I.hok d _ q
  rw [g0] at g4; cases g4
  have hl:es.size = kvs.length:=by
   have:=g8.length
   rw [<- Paired.length g3] at this
   simpa using this
  refine ⟨g0,g5.1,g5.2.1,g2,es,ep,g6,by simp [hl],fun i hi=>?_⟩
  have hi':i < kvs.length:=by simpa using hi
  obtain ⟨⟨k,v⟩,e1,e2,e3⟩:=paired_get g3 (List.getElem?_eq_getElem hi')
  have hie:i < es.size:=by omega
  obtain ⟨hk,hv⟩:=g8.get? (e:=es[i]) (by simp [hie]) e1
  have rk:RelV (kV (kvs[i]).1) es[i].key:=by
   rw [e2]
   rcases keyIs_shape hk with ⟨j,t,z1,z2⟩ | ⟨y,t,z1,z2⟩
   ·rw [z1,z2]; exact ⟨t,rfl⟩
   ·rw [z1,z2]; exact ⟨t,rfl⟩
  refine ⟨es[i],keyV (kvs[i]).1,kV (kvs[i]).1,(kvs[i]).2,by simp [hie],by simp [hi'],by simp [hi'],by rw [hv]; exact e3,rk,by cases (kvs[i]).1 <;> rfl,fun b z=>?_⟩
  cases hz:(kvs[i]).1 <;> rw [hz] at z <;> cases z
end
theorem itm_entry:entryFor table "dict_itemiterator.__iter__" = some Builtin.«dict_keyiterator.__iter__»:=entryFor_alias (id':="dict_keyiterator.__iter__") (by kernel_rfl) (by first | rfl | decide +kernel) (by decide +kernel) (by kernel_rfl)
theorem turn_itm {P:Program} {w:World} {K:PySem.W.Frag} {elts:List Expr} {k:Nat} {tpos:Pos} (t:Bool) (d it:Addr) (o:Obj) (es:Array DictEntry) (ep:Nat) (hod:o.data = .dict es ep) :
  Turn P w K (.Tuple elts k tpos) (Iti K t d o) [it] it (fun i h=>∃ ok ov,IsItemIter h it d i es.size ep ok ov) where
 mem:=by simp
 obj:=fun i h ⟨ok,ov,st⟩ b hb=>by
  have e:b = it:=by simpa using hb
  subst e
  exact ⟨_,st,fun v z=>by cases z⟩
 keep:=fun i h h' ⟨ok,ov,st⟩ q=>⟨ok,ov,q it (by simp) _ st⟩
 item:=by
  intro X hP hw hK hc i pins s σ H E I hf ⟨ok,ov,st⟩ ⟨ks,xs,hq,hi⟩
  subst hP hw hK
  obtain ⟨g0,_,_,_,es',ep',g1,g2,g3⟩:=entry_at I hq
  rw [hod] at g1; cases g1
  obtain ⟨e,k',kv,y,e1,e2,e3,e4,e5,e6,e7⟩:=g3 i hi
  refine itm_next st g0 hod e1 fun h' he hT hk=>⟨_,rfl,wpAny_letOwnedTupleGo_items he fun h2 he2 hsb2=>?_⟩
  have hil:it < s.heap.objs.size:=Heap.lt_size st
  have keep2:∀ b o,b ∉ [it] -> s.heap.get? b = some o -> h2.get? b = some o:=fun b o hb q=>by
   have h1:b ≠ it:=fun z=>hb (by simp [z])
   exact (hsb2.2 b h1).trans (hk b o h1 q)
  have hT2:h2.get? s.heap.objs.size = some { cls:=.type "tuple",data:=.seq #[e.key,e.val] }:=(hsb2.2 _ (Nat.ne_of_gt hil)).trans hT
  have hfr:H s.heap.objs.size = none:=I.hok.fresh (Nat.le_refl _)
  have I2:L2.Inv X pins σ (upd H s.heap.objs.size (.tup [kv,y])) { s with heap:=h2,toks:=s.toks }:=
   turned_laid I hf keep2 (Nat.le_refl _) ⟨⟨by rw [sizeLine_eq]; show 2 <= _; decide,fun o q=>by rw [hT2] at q; cases q; rfl⟩,[e.key,e.val],.cons e5 (.cons e4 .nil),_,hT2,rfl,_,rfl⟩
  refine ⟨.ref s.heap.objs.size,_,I2,rfl,⟨s.heap.objs.size,kv,y,hfr,rfl,rfl,fun ks' xs' hq'=>?_⟩,⟨_,_,he2⟩,fun b hb=>?_⟩
  ·obtain ⟨rfl,rfl⟩:=hq.inj hq'
   exact ⟨e3,k',e2,e6,e7⟩
  ·have e:b = it:=by simpa using hb
   subst e
   rw [upd_ne (Nat.ne_of_lt hil)]; exact (hf b (by simp)).1
 done:=by
  intro X hP hw hK hc i pins s σ H E I hf ⟨ok,ov,st⟩ ⟨ks,xs,hq,hi⟩
  subst hP hw hK
  obtain ⟨g0,_,_,_,es',ep',g1,g2,g3⟩:=entry_at I hq
  rw [hod] at g1; cases g1
  exact itm_end (I.ok.hd hc) st g0 hod (by simp [g2,hi]) fun h' hx'=>⟨rfl,turned_all (tk:=s.toks) I hf fun b o hb q=>hx' b o (fun z=>hb (by simp [z])) q⟩
 self:=fun A i s Q E ⟨ok,ov,st⟩ h=>by
  have hT:s.TypeIs (.ref it) "dict_itemiterator":=⟨_,st,rfl⟩
  refine wpAny_pyIter_slot hT F.slot_dict_itemiterator_iter (wpAny_call_entry F.slot_dict_itemiterator_iter hT itm_entry ?_ (F.args_dict_itemiterator_iter_1 _))
  show wpAny _ _ (ret (.ref it)) _ _ s
  exact wpAny_pure ⟨_,rfl,"dict_itemiterator",_,hT,F.slot_dict_itemiterator_next.lookup,h⟩
theorem walk_itm {K:PySem.W.Frag} {H:Hp} {t:Bool} {d:Addr} {o:Obj} {ks vs:List D} {xs:List V} (h1:DKo H d t o ks xs) (h2:Reps K H vs xs):Walk K (Iti K t d o) H (zipD ks vs):=by
 intro H' sm
 have l:=h2.length
 have l2:=h1.len
 have h1':=h1.same sm
 have h2':=h2.mono sm
 have lz:∀ (a b:List D),a.length = b.length -> (zipD a b).length = b.length:=by
  intro a
  induction a with
  | nil=>intro b e; cases b with
   | nil=>rfl
   | cons _ _=>simp at e
  | cons x a ih=>intro b e; cases b with
   | nil=>simp at e
   | cons y b=>simp [zipD,ih b (by simpa using e)]
 have gz:∀ (a b:List D) (i:Nat) (x y:D),a[i]? = some x -> b[i]? = some y -> (zipD a b)[i]? = some (.tup [x,y]):=by
  intro a
  induction a with
  | nil=>intro b i x y e; simp at e
  | cons z a ih=>intro b i x y e1 e2; cases b with
   | nil=>simp at e2
   | cons u b=>cases i with
    | zero=>simp at e1 e2; subst e1 e2; rfl
    | succ i=>simp only [List.getElem?_cons_succ] at e1 e2; simp only [zipD,List.getElem?_cons_succ]; exact ih b i x y e1 e2
 have lz':(zipD ks vs).length = xs.length:=by rw [lz ks vs (by omega)]; omega
 refine ⟨fun i hi=>⟨ks,xs,h1',by omega⟩,⟨ks,xs,h1',lz'.symm⟩,fun i x H'' hi ⟨T,kv,y,hT,e1,e2,hv⟩=>?_⟩
 subst e1; subst e2
 obtain ⟨g1,k,g2,g3,_⟩:=hv ks xs h1'
 obtain ⟨dv,hd,rd⟩:=h2'.get' g1
 obtain ⟨s1,r1⟩:=laidT (K:=K) (ds:=[k,dv]) (xs:=[kv,y]) hT ⟨_,_,rfl,g3,_,_,rfl,rd,rfl⟩
 exact ⟨s1,_,gz ks vs i k dv g2 hd,r1⟩
section
variable {X:Cx} {call:CallD} {G:Gw} {N:List Str} {nm:List (Str × NameKind)} {a:Expr} {pa:Px} {pos ap tp:Pos} {elts:List Expr} {kk:Nat}
theorem pW_items (ha:PE X a (tI X call pa)) (hb:attributeBase a "items" X.env (eval a X.env) = eval a X.env:=by rfl) (hl:(ap.endLine == pos.line) = true:=by rfl) :
  PI X (.Tuple elts kk tp) (.Call (.Attribute a "items" ap) [] [] pos) (tW X call (.un .items pa)):=by
 intro pins s σ H R I ⟨env,r,h⟩
 simp only [evD] at h
 refine wpAny_Call_method hb rfl hl PySem.F.plainAttrs_dict PySem.F.slot_dict_items PySem.F.type_dict_items (thn (ha pins s σ H (fun v H'=>∃ t ks vs d xs,v = .ref d /\ DK H' d t true ks xs /\ Reps X.K H' vs xs /\ Same H H' /\ ∀ J H2,Same H H2 -> Walk X.K J H2 (zipD ks vs) -> ItOk J -> R J H2) I ⟨env,r,?_⟩) fun u s1 ⟨v,H1,I1,ru,t,ks,vs,d,xs,e1,q1,q2,s2,hR⟩=>?_)
 ·refine (Rs.good_bind.mp h).imp fun dd hd v H' s1 rv=>?_
  cases dd with
  | dct t z ks vs=>
   cases z with
   | true=>
    obtain ⟨ds,e,hR⟩:=hd
    cases e
    obtain ⟨d,xs,rfl,q1,q2⟩:=rv
    exact ⟨t,ks,vs,d,xs,rfl,q1,q2,s1,hR⟩
   | false=>exact (show False from hd).elim
  | _=>exact (show False from hd).elim
 subst e1
 cases (show u = Value.ref d from ru)
 obtain ⟨o,q3⟩:=DKo.of q1
 obtain ⟨g0,gc,gd,gm,es,ep,g1,g2,g3⟩:=entry_at I1 q3
 refine ⟨⟨o,g0,gc⟩,fun b e=>by cases e; exact ⟨o,g0,gd⟩,?_⟩
 refine Calls.callWith_builtin rfl (PySem.evalArgs_none ?_)
 refine itm_view g0 gc gm ?_
 refine itm_iter ⟨_,Heap.get?_push_size _ rfl,rfl,rfl⟩ (Heap.get?_push_of_some _ g0) g1 ?_
 have kp:∀ b ob,s1.heap.get? b = some ob -> ((s1.heap.push { cls:=.type "dict_items",data:=.fields #[.ref d] }).push { cls:=.type "dict_itemiterator",data:=.fields #[.none,.bool false,.ref d,.int 0 0,.int es.size 0,.int ep 0,.none,.none] }).get? b = some ob:=fun b ob q=>Heap.get?_push_of_some _ (Heap.get?_push_of_some _ q)
 refine ⟨_,[_],_,_,H1,rfl,I1.kept (t':=s1.toks) kp,turn_itm t d _ o es ep g1,⟨.none,.none,Heap.get?_push_size _ rfl⟩,fun b hb=>?_,hR _ _ s2 (walk_itm q3 q2) ok_itm⟩
 have hb':s1.heap.objs.size <= b:=by
  have e:b = (s1.heap.push { cls:=.type "dict_items",data:=.fields #[.ref d] }).objs.size:=by simpa using hb
  rw [e,Heap.size_push]; exact Nat.le_succ _
 exact I1.fpOk hb' (I1.hok.fresh hb')
end
end Rd
namespace Rd
open PySem PySem.Spec PyProof.Rows L2 Pu
section
variable {X:Cx} {call:CallD} {v:Expr} {vs:List Expr} {pv pvs:Px} {pos:Pos}
end
end Rd
namespace Rd
open PySem PySem.Spec PyProof.Rows L2 Pu
section
variable {prog:Program} {w:World} {A:Around} {E:Value -> Shared -> Prop} {s:Shared} {l I S:Addr} {vs:List Value} {R:Result -> Shared -> Prop} {Q:Value -> Shared -> Prop}
end
section
variable {X:Cx} {call:CallD} {G:Gw} {N:List Str} {nm:List (Str × NameKind)} {a:Expr} {pa:Px} {pos p1 p2 p3 q1 q2:Pos}
theorem Vals.back {xs:List V} {us:List Value} {i:Nat} {u:Value} (r:Vals xs us) (h:us[i]? = some u):∃ x,xs[i]? = some x /\ RelV x u:=by
 cases q:xs[i]? with
 | none=>rw [r.none_of q] at h; cases h
 | some x=>
  obtain ⟨u',h1,h2⟩:=r.get q
  rw [h1] at h; cases h
  exact ⟨x,rfl,h2⟩
theorem cw_kw {M:Model} {A:Around} {E:Value -> Shared -> Prop} {s:Shared} {id:String} {args:List (Bool × Sem Value)} {kws:List (Option Str × Sem Value)} {Q:Value -> Shared -> Prop} (hplain:args.any (·.1) = false) (hk:kws.any (·.1.isNone) = false)
  (h:wpAny M A (evalArgs (.builtin id) true args kws) (fun a s₁=>wpAny M A (PySem.call (.builtin id) a.pos a.kw) Q E s₁) E s) :
  wpAny M A (callWith pos (.builtin id) [] args kws) Q E s:=by
 unfold callWith
 refine wpAny_bind (wpAny_holding (wpAny_mono h (fun a s₁ h₁=>wpAny_bind (wpAny_standAt ?_)) fun _ _ x=>x))
 simp only [hplain,hk,Bool.or_false]
 refine wpAny_bind (wpAny_pure ?_)
 exact wpAny_bind (wpAny_mono h₁ (fun r s₂ hr=>wpAny_bind (wpAny_holding (wpAny_point (wpAny_pure hr)))) fun _ _ x=>x)
theorem back_ {M:Model} {A:Around} {E:Value -> Shared -> Prop} {s:Shared} {m:Sem Value} {Q:Value -> Shared -> Prop} (h:wpAny M A m Q E s):wpAny M A (do let v <- m; standAt pos; pure v) Q E s:=
 wpAny_bind (wpAny_mono h (fun v s₁ h₁=>wpAny_bind (wpAny_standAt (wpAny_pure h₁))) fun _ _ x=>x)
end
end Rd
namespace Rd
open PySem PySem.Spec PyProof.Rows L2 Pu
theorem dk {p:Prop} (h:p:=by decide +kernel):p:=h
section
variable {X:Cx} {call:CallD} {M:List Nat} {H0:Hp} {G:Gw} {N:List Str} {nm:List (Str × NameKind)} {e tg a:Expr} {p pa:Px} {pos p1 p2 p3:Pos} {ts:List Nat} {nt:Nat}
end
end Rd
namespace Rd
open PySem PySem.Spec PyProof.Rows L2 Pu
section
variable {X:Cx} {call:CallD} {G:Gw} {N:List Str} {nm:List (Str × NameKind)} {e:Expr} {es:List Expr} {p:Px} {pos p1:Pos} {x:Str}
end
end Rd
namespace Rd
open PySem PySem.Spec PyProof.Rows L2 Pu
section
variable {X:Cx} {call:CallD} {G:Gw} {N:List Str} {nm:List (Str × NameKind)} {pos px ps:Pos} {x:Str} {M:List Nat} {H0:Hp} {i:Nat} {b v:Expr} {pk pv:Px}
theorem Reps.set {K:PySem.W.Frag} {H:Hp}:∀ {ds:List D} {xs:List V} (j:Nat) {d:D} {v:V},Reps K H ds xs -> Rep K H d v -> Reps K H (ds.set j d) (xs.set j v)
 | [],_,_,_,_,h,_=>by cases h; exact rfl
 | a :: ds,_,0,d,v,⟨y,r,e1,h1,h2⟩,hv=>by subst e1; exact ⟨v,r,rfl,hv,h2⟩
 | a :: ds,_,j + 1,d,v,⟨y,r,e1,h1,h2⟩,hv=>by subst e1; exact ⟨y,r.set j v,rfl,h1,Reps.set j h2 hv⟩
end
end Rd
namespace Rd
open PySem PySem.Spec PyProof.Rows L2 Pu
section
variable {X:Cx} {call:CallD} {G:Gw} {N:List Str} {nm:List (Str × NameKind)} {pos p1:Pos} {a:Expr} {pa:Px}
end
end Rd
namespace Rd
open PySem PySem.Spec PyProof.Rows L2 Pu
section
variable {X:Cx} {call:CallD} {G:Gw} {N:List Str} {nm:List (Str × NameKind)} {pos px pt:Pos} {x y:Str} {M:List Nat} {H0:Hp} {i t:Nat} {b v:Expr} {pk pv:Px} {apos cpos:Pos}
end
end Rd
namespace Rd
open PySem PySem.Spec PyProof.Rows L2 Pu
section
variable {X:Cx} {call:CallD} {G:Gw} {N:List Str} {nm:List (Str × NameKind)} {k v:Expr} {pk pv:Px} {pos px p1:Pos} {M:List Nat} {H0:Hp} {i:Nat} {x:Str}
end
end Rd
namespace Rd
open PySem PySem.Spec PyProof.Rows L2 Pu
section
variable {prog:Program} {w:World} {A:Around} {E:Value -> Shared -> Prop} {s:Shared} {it d:Addr} {od:Obj} {es:Array DictEntry} {ep i:Nat}
end
section
variable {prog:Program} {w:World} {κ:Type} [DecidableEq κ] {kd:HeapKind prog w κ} {A:Around} {E:Value -> Shared -> Prop} {s:Shared} {d:Addr} {xs:List (κ × Addr × Value)} {od:Obj} {es:Array DictEntry} {ep:Nat}
end
section
variable {X:Cx} {call:CallD} {G:Gw} {N:List Str} {nm:List (Str × NameKind)} {a:Expr} {pa:Px} {pos p1:Pos}
end
end Rd
namespace Rd
open PySem PySem.Spec PyProof.Rows L2 Pu
def insI (lt:Nat -> Nat -> Bool) (x:Nat):List Nat -> List Nat
 | []=>[x]
 | y :: ys=>if lt y x then y :: insI lt x ys else x :: y :: ys
def sortI (lt:Nat -> Nat -> Bool):List Nat -> List Nat
 | []=>[]
 | x :: xs=>insI lt x (sortI lt xs)
def vecs (m:Nat):Nat -> List (List Nat)
 | 0=>[[]]
 | n + 1=>(vecs m n).flatMap fun v=>(List.range m).map (· :: v)
def ltV (v:List Nat) (i j:Nat):Bool:=Nat.blt (v.getD i 0) (v.getD j 0)
def rankOf (v:List Nat) (x:Nat):Nat:=(v.filter fun y=>Nat.blt y x).length
def canon (v:List Nat):Bool:=v.all fun x=>Nat.beq (rankOf v x) x
def sameN:List Nat -> List Nat -> Bool
 | [],[]=>true
 | x :: xs,y :: ys=>Nat.beq x y && sameN xs ys
 | _,_=>false
theorem sameN_eq:∀ {a b:List Nat},sameN a b = true -> a = b
 | [],[],_=>rfl
 | [],_ :: _,h=>by cases h
 | _ :: _,[],h=>by cases h
 | x :: xs,y :: ys,h=>by
  simp only [sameN,Bool.and_eq_true] at h
  rw [Nat.eq_of_beq_eq_true h.1,sameN_eq h.2]
def chkTr (n:Nat):PySem.W.KasT (Array Nat) -> List (List Nat) -> Bool
 | .ret p,vs=>vs.all fun v=>sameN p.toList (sortI (ltV v) (List.range n))
 | .ask i j k,vs=>match vs with
  | []=>true
  | _ :: _=>Nat.blt i n && Nat.blt j n && chkTr n (k true) (vs.filter fun v=>ltV v i j) && chkTr n (k false) (vs.filter fun v=>!ltV v i j)
def chkN (n:Nat):Bool:=chkTr n (PySem.W.kas_sort n) ((vecs n n).filter canon)
theorem chk2:chkN 2 = true:=by decide +kernel
theorem chk3:chkN 3 = true:=by decide +kernel
theorem chk4:chkN 4 = true:=by decide +kernel
theorem chk5:chkN 5 = true:=by decide +kernel
def runO (n:Nat) (lt:Nat -> Nat -> Bool):PySem.W.KasT (Array Nat) -> Option (List Nat)
 | .ret p=>some p.toList
 | .ask i j k=>if i < n /\ j < n then runO n lt (k (lt i j)) else none
theorem chkTr_run {n:Nat}:∀ (t:PySem.W.KasT (Array Nat)) (vs:List (List Nat)),chkTr n t vs = true -> ∀ v ∈ vs,runO n (ltV v) t = some (sortI (ltV v) (List.range n)):=fun t=>by
 induction t with
 | ret p=>
  intro vs h v hv
  simp only [chkTr,List.all_eq_true] at h
  simp only [runO]
  rw [sameN_eq (h v hv)]
 | ask i j k ih=>
  intro vs h v hv
  cases vs with
  | nil=>cases hv
  | cons x vs=>
   simp only [chkTr,Bool.and_eq_true] at h
   obtain ⟨⟨⟨h1,h2⟩,h3⟩,h4⟩:=h
   have h1:i < n:=by simpa [Nat.blt_eq] using h1
   have h2:j < n:=by simpa [Nat.blt_eq] using h2
   simp only [runO,h1,h2,and_self,if_true]
   cases q:ltV v i j with
   | true=>exact ih true _ h3 v (List.mem_filter.mpr ⟨hv,q⟩)
   | false=>exact ih false _ h4 v (List.mem_filter.mpr ⟨hv,by simp [q]⟩)
theorem runO_congr {n:Nat} {lt lt':Nat -> Nat -> Bool} (h:∀ i j,i < n -> j < n -> lt i j = lt' i j):∀ t:PySem.W.KasT (Array Nat),runO n lt t = runO n lt' t:=fun t=>by
 induction t with
 | ret p=>rfl
 | ask i j k ih=>
  simp only [runO]
  by_cases q:i < n /\ j < n
  ·rw [if_pos q,if_pos q,h i j q.1 q.2]; exact ih _
  ·rw [if_neg q,if_neg q]
theorem insI_mem {lt:Nat -> Nat -> Bool} {x z:Nat}:∀ {ys:List Nat},z ∈ insI lt x ys -> z = x \/ z ∈ ys
 | [],h=>.inl (by simpa [insI] using h)
 | y :: ys,h=>by
  simp only [insI] at h
  split at h
  ·rcases List.mem_cons.mp h with h | h
   ·exact .inr (by simp [h])
   ·rcases insI_mem h with h | h
    ·exact .inl h
    ·exact .inr (by simp [h])
  ·rcases List.mem_cons.mp h with h | h
   ·exact .inl h
   ·exact .inr h
theorem sortI_mem {lt:Nat -> Nat -> Bool} {z:Nat}:∀ {ys:List Nat},z ∈ sortI lt ys -> z ∈ ys
 | [],h=>h
 | y :: ys,h=>by
  rcases insI_mem h with h | h
  ·simp [h]
  ·exact List.mem_cons_of_mem _ (sortI_mem h)
theorem sortI_len {lt:Nat -> Nat -> Bool}:∀ ys:List Nat,(sortI lt ys).length = ys.length
 | []=>rfl
 | y :: ys=>by
  have ins:∀ zs:List Nat,(insI lt y zs).length = zs.length + 1:=fun zs=>by
   induction zs with
   | nil=>rfl
   | cons z zs ih=>simp only [insI]; split <;> simp [ih]
  simp [sortI,ins,sortI_len ys]
theorem insI_congr {n:Nat} {lt lt':Nat -> Nat -> Bool} (h:∀ i j,i < n -> j < n -> lt i j = lt' i j) {x:Nat} (hx:x < n):∀ {ys:List Nat},(∀ y ∈ ys,y < n) -> insI lt x ys = insI lt' x ys
 | [],_=>rfl
 | y :: ys,hy=>by
  simp only [insI]
  rw [h y x (hy y (by simp)) hx,insI_congr h hx fun z hz=>hy z (by simp [hz])]
theorem sortI_congr {n:Nat} {lt lt':Nat -> Nat -> Bool} (h:∀ i j,i < n -> j < n -> lt i j = lt' i j):∀ {ys:List Nat},(∀ y ∈ ys,y < n) -> sortI lt ys = sortI lt' ys
 | [],_=>rfl
 | y :: ys,hy=>by
  have hy':∀ z ∈ ys,z < n:=fun z hz=>hy z (by simp [hz])
  simp only [sortI]
  rw [sortI_congr h hy',insI_congr h (hy y (by simp)) fun z hz=>hy' z (sortI_mem hz)]
theorem lex_irr:∀ a:List Int,lexI a a = false
 | []=>rfl
 | x :: a=>by simp [lexI,lex_irr a]
theorem lex_trans:∀ {a b c:List Int},lexI a b = true -> lexI b c = true -> lexI a c = true
 | [],_,c,h,h'=>by
  cases c with
  | nil=>cases ‹List Int› <;> cases h'
  | cons=>rfl
 | x :: a,[],_,h,_=>by cases h
 | x :: a,y :: b,[],_,h'=>by cases h'
 | x :: a,y :: b,z :: c,h,h'=>by
  simp only [lexI] at h h' ⊢
  by_cases e1:x = y
  ·subst e1
   by_cases e2:x = z
   ·subst e2; simp only [if_true] at h h' ⊢; exact lex_trans h h'
   ·simp only [e2,if_false] at h' ⊢; exact h'
  ·simp only [e1,if_false,decide_eq_true_eq] at h
   by_cases e2:y = z
   ·subst e2; simp [e1,h]
   ·simp only [e2,if_false,decide_eq_true_eq] at h'
    have:x ≠ z:=by omega
    simp only [this,if_false,decide_eq_true_eq]; omega
theorem lex_tot:∀ {a b:List Int},lexI a b = false -> lexI b a = false -> a = b
 | [],[],_,_=>rfl
 | [],_ :: _,h,_=>by cases h
 | _ :: _,[],_,h=>by cases h
 | x :: a,y :: b,h,h'=>by
  simp only [lexI] at h h'
  by_cases e:x = y
  ·subst e
   simp only [if_true] at h h'
   rw [lex_tot h h']
  ·have e':y ≠ x:=fun z=>e z.symm
   simp only [e,e',if_false,decide_eq_false_iff_not] at h h'
   omega
theorem cnt_le {α:Type} {p q:α -> Bool}:∀ (l:List α),(∀ x ∈ l,p x = true -> q x = true) -> (l.filter p).length <= (l.filter q).length
 | [],_=>Nat.le_refl _
 | x :: l,h=>by
  have ih:=cnt_le l fun y hy=>h y (by simp [hy])
  have hx:=h x (by simp)
  simp only [List.filter_cons]
  cases hp:p x <;> cases hq:q x <;> simp_all <;> omega
theorem cnt_lt {α:Type} {p q:α -> Bool}:∀ (l:List α),(∀ x ∈ l,p x = true -> q x = true) -> ∀ a ∈ l,p a = false -> q a = true -> (l.filter p).length < (l.filter q).length
 | x :: l,h,a,ha,h1,h2=>by
  have hx:=h x (by simp)
  have hl:∀ y ∈ l,p y = true -> q y = true:=fun y hy=>h y (by simp [hy])
  simp only [List.filter_cons]
  rcases List.mem_cons.mp ha with e | e
  ·subst e
   have:=cnt_le l hl
   simp only [h1,h2,Bool.false_eq_true,if_false,if_true,List.length_cons]; omega
  ·have ih:=cnt_lt l hl a e h1 h2
   cases hp:p x <;> cases hq:q x <;> simp_all <;> omega
def rk (ks:List (List Int)) (k:List Int):Nat:=(ks.filter fun y=>lexI y k).length
theorem rk_lt {ks:List (List Int)} {a b:List Int} (ha:a ∈ ks):Nat.blt (rk ks a) (rk ks b) = lexI a b:=by
 have hn:∀ m n:Nat,Nat.blt m n = decide (m < n):=fun m n=>by rw [Bool.eq_iff_iff]; simp [Nat.blt_eq]
 rw [hn]
 cases h:lexI a b with
 | true=>exact decide_eq_true (cnt_lt ks (fun y _ hy=>lex_trans hy h) a ha (lex_irr a) h)
 | false=>
  refine decide_eq_false (Nat.not_lt.mpr ?_)
  cases h':lexI b a with
  | true=>exact cnt_le ks fun y _ hy=>lex_trans hy h'
  | false=>rw [lex_tot h h']; exact Nat.le_refl _
theorem mem_vecs {m:Nat}:∀ {n:Nat} {v:List Nat},v.length = n -> (∀ x ∈ v,x < m) -> v ∈ vecs m n
 | 0,[],_,_=>by simp [vecs]
 | 0,_ :: _,h,_=>by cases h
 | n + 1,[],h,_=>by cases h
 | n + 1,x :: v,h,hx=>by
  simp only [vecs,List.mem_flatMap]
  exact ⟨v,mem_vecs (by simpa using h) fun y hy=>hx y (by simp [hy]),List.mem_map.mpr ⟨x,List.mem_range.mpr (hx x (by simp)),rfl⟩⟩
theorem rk_canon (ks:List (List Int)):ks.map (rk ks) ∈ (vecs ks.length ks.length).filter canon:=by
 refine List.mem_filter.mpr ⟨mem_vecs (by simp) fun x hx=>?_,?_⟩
 ·obtain ⟨k,hk,rfl⟩:=List.mem_map.mp hx
  have:=cnt_lt (p:=fun y=>lexI y k) (q:=fun _=>true) ks (fun _ _ _=>rfl) k hk (lex_irr k) rfl
  rw [List.filter_eq_self.mpr (fun _ _=>rfl)] at this
  exact this
 ·simp only [canon,List.all_eq_true]
  intro x hx
  obtain ⟨k,hk,rfl⟩:=List.mem_map.mp hx
  have:rankOf (ks.map (rk ks)) (rk ks k) = rk ks k:=by
   simp only [rankOf,List.filter_map,List.length_map]
   exact congrArg List.length (List.filter_congr fun y hy=>rk_lt hy)
  rw [this]
  exact Nat.beq_refl _
def ltK (ks:List (List Int)) (i j:Nat):Bool:=lexI (ks.getD i []) (ks.getD j [])
theorem ltV_rk {ks:List (List Int)} {i j:Nat} (hi:i < ks.length) (hj:j < ks.length):ltV (ks.map (rk ks)) i j = ltK ks i j:=by
 have g:∀ i,i < ks.length -> (ks.map (rk ks)).getD i 0 = rk ks (ks.getD i []):=fun i hi=>by
  rw [List.getD_eq_getElem?_getD,List.getD_eq_getElem?_getD,List.getElem?_map,List.getElem?_eq_getElem hi]; rfl
 have hm:ks.getD i [] ∈ ks:=by
  rw [List.getD_eq_getElem?_getD,List.getElem?_eq_getElem hi]; exact List.getElem_mem hi
 rw [ltV,g i hi,g j hj,rk_lt hm]; rfl
theorem tree_is (ks:List (List Int)) (h2:2 <= ks.length) (h5:ks.length <= 5):runO ks.length (ltK ks) (PySem.W.kas_sort ks.length) = some (sortI (ltK ks) (List.range ks.length)):=by
 have hc:chkN ks.length = true:=by
  generalize ks.length = n at h2 h5
  match n,h2,h5 with
  | 2,_,_=>exact chk2
  | 3,_,_=>exact chk3
  | 4,_,_=>exact chk4
  | 5,_,_=>exact chk5
  | n + 6,_,h=>exact absurd h (by omega)
 have:=chkTr_run _ _ hc _ (rk_canon ks)
 rw [runO_congr (lt':=ltK ks) (fun i j hi hj=>ltV_rk hi hj),sortI_congr (lt':=ltK ks) (n:=ks.length) (fun i j hi hj=>ltV_rk hi hj) (fun y hy=>by simpa using hy)] at this
 exact this
theorem sort_map (ks:List (List Int)) (ds:List D):∀ ys:List Nat,sortK (ys.map fun i=>(ks.getD i [],ds.getD i .non)) = (sortI (ltK ks) ys).map fun i=>(ks.getD i [],ds.getD i .non)
 | []=>rfl
 | y :: ys=>by
  have ins:∀ zs:List Nat,insK (ks.getD y [],ds.getD y .non) (zs.map fun i=>(ks.getD i [],ds.getD i .non)) = (insI (ltK ks) y zs).map fun i=>(ks.getD i [],ds.getD i .non):=fun zs=>by
   induction zs with
   | nil=>rfl
   | cons z zs ih=>
    simp only [List.map_cons,insK,insI,ltK] at ih ⊢
    split <;> simp_all
  simp only [List.map_cons,sortK,sortI]
  rw [sort_map ks ds ys,ins]
theorem zip_range (ks:List (List Int)) (ds:List D) (h:ks.length = ds.length):ks.zip ds = (List.range ks.length).map fun i=>(ks.getD i [],ds.getD i .non):=by
 apply List.ext_getElem
 ·simp [h]
 ·intro i h1 h2
  simp only [List.length_zip,h,Nat.min_self] at h1
  simp only [List.getElem_zip,List.getElem_map,List.getElem_range,List.getD_eq_getElem?_getD]
  rw [List.getElem?_eq_getElem (by omega),List.getElem?_eq_getElem (by omega)]; rfl
theorem kas_walk {J:Shared -> Prop} {cmp:Nat -> Nat -> (Bool -> Shared -> Prop) -> Shared -> Prop} {n:Nat} {lt:Nat -> Nat -> Bool} (hask:∀ i j,i < n -> j < n -> ∀ (C:Bool -> Shared -> Prop) s,J s -> (∀ s',J s' -> C (lt i j) s') -> cmp i j C s) :
  ∀ (t:PySem.W.KasT (Array Nat)) (l:List Nat) (Q:Array Nat -> Shared -> Prop) (s:Shared),runO n lt t = some l -> J s -> (∀ p s',p.toList = l -> J s' -> Q p s') -> PySem.W.KasT.kasWp cmp t Q s:=fun t=>by
 induction t with
 | ret p=>
  intro l Q s h hs hq
  simp only [runO,Option.some.injEq] at h
  exact hq p s h hs
 | ask i j k ih=>
  intro l Q s h hs hq
  simp only [runO] at h
  split at h
  ·rename_i q
   exact hask i j q.1 q.2 _ s hs fun s' hs'=>ih _ l Q s' h hs' hq
  ·cases h
end Rd
namespace Rd
open PySem PySem.Spec PyProof.Rows L2 Pu
open PySem.SeqAt (EqAt)
section
variable {X:Cx} {pins:List (Addr × Obj)} {σ:L2.St} {H:Hp} {s:Shared}
def in2 (X:Cx):Cx:={ X with A:=X.A.in1.in1,xe:=fun _ _=>False }
theorem ok_in2 (o:X.Ok):(in2 X).Ok:=⟨o.mod,o.kind,o.glob,o.blt,o.above,o.inj,o.has,o.cab,o.hd,o.frames,o.stk,o.exf,o.bs,o.bsz,o.noex,o.exfs,o.funs,o.frf⟩
theorem inv_in2 (I:L2.Inv X pins σ H s):L2.Inv (in2 X) pins σ H s:=⟨ok_in2 I.ok,I.os,I.bare,I.base,I.loc,I.cell,I.free,I.freeC,I.pin,I.hok,I.len⟩
theorem inv_out2 (o:X.Ok) (I:L2.Inv (in2 X) pins σ H s):L2.Inv X pins σ H s:=⟨o,I.os,I.bare,I.base,I.loc,I.cell,I.free,I.freeC,I.pin,I.hok,I.len⟩
theorem inv_adopt {a:Addr} {o:HO} (I:L2.Inv X pins σ H s) (f:FpOk X pins H a) (new:ObjOk X.prog X.w (upd H a o) s.heap a o):L2.Inv X pins σ (upd H a o) s:=by
 obtain ⟨f0,f1,f2,f3,f4,f5⟩:=f
 have ne:∀ {b u},H b = some u -> b ≠ a:=fun e z=>by rw [z,f0] at e; cases e
 have up:∀ {b u},H b = some u -> upd H a o b = some u:=fun e=>by rw [upd_ne (ne e)]; exact e
 exact I.step (h':=s.heap) (H':=upd H a o) (g':=s.gens) (d':=s.drawn) (t':=s.toks) (ch:=[a]) (fun b hb=>by rw [List.mem_singleton.mp hb]; exact ⟨f3,f1,f4,f5⟩) (fun b o _ _ _ e _=>e) (fun b o _ _ _ e _=>⟨o.slots,e⟩)
  (fun b o hc e n=>by rw [upd_ne (by simpa using hc)]; exact n) (fun b o _ e=>⟨o,e⟩) (fun b xs e=>up e) (fun b o u e=>up e) (fun b ps e=>⟨#[],by rw [up e]; simp⟩) (fun m hm=>hm) (fun b u e=>by
   by_cases q:b = a
   ·subst q
    rw [upd_same] at e
    cases e
    exact new
   ·rw [upd_ne q] at e
    exact (I.hok b u e).stay (fun _ _ _ q=>q) (fun c q=>up q) fun c xs q=>up q) I.bare
theorem fp_mono {H':Hp} {a:Addr} (f:FpOk X pins H a) (h:H' a = none):FpOk X pins H' a:=⟨h,f.2⟩
theorem inv_put {a:Addr} {f:Obj -> Obj} (I:L2.Inv X pins σ H s) (h:FpOk X pins H a):L2.Inv X pins σ H { s with heap:=s.heap.update a f }:=
 I.turned (it:=a) (t':=s.toks) (fun b o hb e=>(Heap.get?_update_other _ _ (Ne.symm hb)).trans e) h.1 h.2.1 h.2.2.2.1 h.2.2.2.2.1 h.2.2.2.2.2
end
def lexZ (fin:Bool):List (Int × Int) -> Bool
 | []=>fin
 | (p,q) :: r=>if p = q then lexZ fin r else decide (p < q)
theorem lexZ_is:∀ a b:List Int,lexZ (decide (a.length < b.length)) (a.zip b) = lexI a b
 | [],[]=>rfl
 | [],_ :: b=>by simp [lexZ,lexI]
 | _ :: a,[]=>by simp [lexZ,lexI]
 | x :: a,y :: b=>by
  have:=lexZ_is a b
  simp only [List.zip_cons_cons,lexZ,lexI,List.length_cons,Nat.add_lt_add_iff_right]
  rw [this]
def IntVs (vs:List Value) (is:List Int):Prop:=∃ ts:List Tok,ts.length = is.length /\ vs = (is.zip ts).map fun p=>.int p.1 p.2
theorem int_cons {v:Value} {vs:List Value} {i:Int} {is:List Int} (h:IntVs (v :: vs) (i :: is)):(∃ t,v = .int i t) /\ IntVs vs is:=by
 obtain ⟨ts,hl,e⟩:=h
 cases ts with
 | nil=>cases hl
 | cons t ts=>
  simp only [List.zip_cons_cons,List.map_cons,List.cons.injEq] at e
  exact ⟨⟨t,e.1⟩,ts,by simpa using hl,e.2⟩
theorem int_len {vs:List Value} {is:List Int} (h:IntVs vs is):vs.length = is.length:=by
 obtain ⟨ts,hl,rfl⟩:=h
 simp [hl]
section
variable {prog:Program} {w:World} {A:Around} {s:Shared}
theorem lex_run {fin:Bool} {Q:Bool -> Shared -> Prop}:∀ (xs ys:List Value) (is js:List Int) (i:Nat),IntVs xs is -> IntVs ys js -> Q (lexZ fin (is.zip js)) s -> PySem.W.KatLex prog w A true fin Q (xs.zip ys) i s
 | [],ys,is,js,i,h1,h2,hq=>by
  have:is = []:=List.length_eq_zero_iff.mp (int_len h1).symm
  subst this
  exact PySem.W.kat_nil hq
 | x :: xs,[],is,js,i,h1,h2,hq=>by
  have:js = []:=List.length_eq_zero_iff.mp (int_len h2).symm
  subst this
  rw [List.zip_nil_right] at hq ⊢
  exact PySem.W.kat_nil hq
 | x :: xs,y :: ys,[],js,i,h1,h2,hq=>by cases int_len h1
 | x :: xs,y :: ys,_ :: _,[],i,h1,h2,hq=>by cases int_len h2
 | x :: xs,y :: ys,p :: is,q :: js,i,h1,h2,hq=>by
  obtain ⟨⟨t,rfl⟩,g1⟩:=int_cons h1
  obtain ⟨⟨u,rfl⟩,g2⟩:=int_cons h2
  rw [List.zip_cons_cons] at hq ⊢
  simp only [lexZ] at hq
  refine PySem.W.kat_cons (EqAt.int_int p t q u prog w _ _ ?_)
  by_cases e:p = q
  ·rw [if_pos e] at hq
   rw [show (p == q) = true by simp [e]]
   exact PySem.W.kat_go (fun _=>lex_run xs ys is js (i + 1) g1 g2 hq) fun z=>by cases z
  ·rw [if_neg e] at hq
   rw [show (p == q) = false by simp [e]]
   refine PySem.W.kat_go (fun z=>by cases z) fun _=>?_
   show wpAny (model prog w) A (oneLt' (true && i == 0) (.int p t) (.int q u)) Q _ s
   cases i with
   | zero=>exact PySem.W.kat_lt_int hq
   | succ i=>exact PySem.W.kat_one _ _ (CmpOf.ints_lt (prog:=prog) (w:=w) (A:=A) (P:=fun i v=>∃ t,v = .int (if i = 0 then p else q) t) (fun i=>if i = 0 then p else q) (fun i v h=>h) 0 1 _ _ _ _ _ ⟨t,rfl⟩ ⟨u,rfl⟩ hq)
end
theorem intsOf_some:∀ {ds:List D} {is:List Int},intsOf ds = some is -> ds = is.map D.int
 | [],_,h=>by cases h; rfl
 | d :: ds,_,h=>by
  cases d with
  | int i=>
   simp only [intsOf,Option.map_eq_some_iff] at h
   obtain ⟨r,e,rfl⟩:=h
   rw [intsOf_some e]; rfl
  | _=>cases h
theorem reps_ints {K:PySem.W.Frag} {H:Hp}:∀ {is:List Int} {xs:List V} {us:List Value},Reps K H (is.map D.int) xs -> Vals xs us -> IntVs us is
 | [],xs,us,h,v=>by
  cases h
  have:=v.length
  rw [List.length_eq_zero_iff.mp this.symm]
  exact ⟨[],rfl,rfl⟩
 | i :: is,xs,us,h,v=>by
  obtain ⟨x,r,rfl,h1,h2⟩:=h
  cases h1
  cases v with
  | cons r1 r2=>
   obtain ⟨t,rfl⟩:=r1
   obtain ⟨ts,hl,rfl⟩:=reps_ints h2 r2
   exact ⟨t :: ts,by simp [hl],rfl⟩
theorem keysOf_len:∀ {ds:List D} {ks:List (List Int)},keysOf ds = some ks -> ks.length = ds.length
 | [],_,h=>by cases h; rfl
 | d :: ds,_,h=>by
  cases d with
  | tup xs=>
   simp only [keysOf] at h
   split at h
   ·rename_i k r h1 h2
    cases h
    simp [keysOf_len h2]
   ·cases h
  | _=>cases h
theorem keysOf_get:∀ {ds:List D} {ks:List (List Int)} {i:Nat},keysOf ds = some ks -> i < ks.length -> ds[i]? = some (.tup ((ks.getD i []).map D.int))
 | [],_,_,h,hi=>by cases h; cases hi
 | d :: ds,_,i,h,hi=>by
  cases d with
  | tup xs=>
   simp only [keysOf] at h
   split at h
   ·rename_i k r h1 h2
    cases h
    cases i with
    | zero=>simp [intsOf_some h1]
    | succ i=>
     have:=keysOf_get (i:=i) h2 (by simpa using hi)
     simpa using this
   ·cases h
  | _=>cases h
theorem mapR_len {f:D -> Rs D}:∀ {ds ks:List D},mapR f ds = .ok ks -> ks.length = ds.length
 | [],_,h=>by cases h; rfl
 | d :: ds,ks,h=>by
  simp only [mapR] at h
  cases q:f d with
  | ok y=>
   rw [q] at h
   cases q2:mapR f ds with
   | ok ys=>rw [q2] at h; cases h; simp [mapR_len q2]
   | ex c=>rw [q2] at h; cases h
   | stuck=>rw [q2] at h; cases h
  | ex c=>rw [q] at h; cases h
  | stuck=>rw [q] at h; cases h
theorem mapR_get {f:D -> Rs D}:∀ {ds ks:List D} {i:Nat} {d:D},mapR f ds = .ok ks -> ds[i]? = some d -> ∃ k,ks[i]? = some k /\ f d = .ok k
 | [],_,_,_,_,e=>by simp at e
 | d :: ds,ks,i,d',h,e=>by
  simp only [mapR] at h
  cases q:f d with
  | ok y=>
   rw [q] at h
   cases q2:mapR f ds with
   | ok ys=>
    rw [q2] at h
    cases h
    cases i with
    | zero=>cases e; exact ⟨y,rfl,q⟩
    | succ i=>
     obtain ⟨k,h1,h2⟩:=mapR_get q2 (by simpa using e)
     exact ⟨k,by simpa using h1,h2⟩
   | ex c=>rw [q2] at h; cases h
   | stuck=>rw [q2] at h; cases h
  | ex c=>rw [q] at h; cases h
  | stuck=>rw [q] at h; cases h
section
variable {X:Cx} {call:CallD} {pins:List (Addr × Obj)} {σ:L2.St} {H:Hp} {s:Shared} {fi kk:Nat} {f a kS:Addr} {fd:FuncData} {ps:List Str}
theorem key_turn (F:FnOk X.prog X.w X.K X.mg X.base (CXr X.prog X.w) kk f fd ps (spI X.K X.mg call fi)) (hr:Room kk X.A.in1.in1) (hb:Binds X.K fd ps []) (I:L2.Inv (in2 X) pins σ H s) {y:V} {u:Value} {d k:D} (ry:RelV y u) (rd:Rep X.K H d y) (hc:call fi [d] = .ok k) :
  wpAny (model X.prog X.w) X.A.in1.in1 (PySem.call (.ref f) [u]) (EP (in2 X) pins σ fun v H'=>Same H H' /\ Rep X.K H' k v) (fun _ _=>False) s:=by
 have hp:Passes (CXr X.prog X.w) (in2 X) (fun _ _ _=>False):=fun pins σ H s e s' I hc=>by
  obtain ⟨a,C,H',rfl,F,hE⟩:=fly_call (X:=in2 X) I hc
  exact hE
 refine run_fn (X:=in2 X) (vs:=[y]) F hr hb .nil hp I (.cons ry .nil) ?_
 refine ⟨[d],⟨y,[],rfl,rd,rfl⟩,?_⟩
 rw [hc]
 exact fun v H' sm rv=>⟨sm,rv⟩
def KeySt (X:Cx) (pins:List (Addr × Obj)) (σ:L2.St) (H0:Hp) (a kS:Addr) (e1:Nat) (kds:List D) (i:Nat) (s:Shared):Prop:=
 ∃ (H:Hp) (ks:List Value) (kvs:List V) (e:Nat),L2.Inv (in2 X) pins σ H s /\ FpOk (in2 X) pins H a /\ FpOk (in2 X) pins H kS /\ s.heap.get? a = some (seqObj "list" #[] e1) /\ s.heap.get? kS = some (seqObj "list" ks.toArray e) /\ Vals kvs ks /\ Reps X.K H (kds.take i) kvs /\ Same H0 H
theorem key_step {H0:Hp} {e1:Nat} {ds kds:List D} {ys:List V} {its:List Value} (F:FnOk X.prog X.w X.K X.mg X.base (CXr X.prog X.w) kk f fd ps (spI X.K X.mg call fi)) (hr:Room kk X.A.in1.in1) (hb:Binds X.K fd ps []) (hne:kS ≠ a) (hv:Vals ys its) (hR:Reps X.K H0 ds ys) (hm:mapR (fun d=>call fi [d]) ds = .ok kds) (hl:ds.length <= 60)
  {j:Nat} {x:Value} (hx:its[j]? = some x) (K:KeySt X pins σ H0 a kS e1 kds j s) {Q:Value -> Shared -> Prop}
  (hQ:∀ (k:Value) (s':Shared),(∃ (ks:List Value) (e:Nat),s'.heap.get? kS = some (seqObj "list" ks.toArray e) /\ ks.length <= 60 /\ KeySt X pins σ H0 a kS e1 kds (j + 1) { s' with heap:=s'.heap.update kS (Obj.mapSeq fun x=>x.push k) }) -> Q k s') :
  wpAny (model X.prog X.w) X.A.in1.in1 (PySem.call (.ref f) [x]) Q (fun _ _=>False) s:=by
 obtain ⟨H,ks,kvs,e,I,fa,fk,ha,hk,rv,rr,sm⟩:=K
 obtain ⟨y,hy,ry⟩:=Vals.back hv hx
 obtain ⟨d,hd,rd⟩:=hR.get' hy
 obtain ⟨k,hkd,hc⟩:=mapR_get hm hd
 have hf:∀ b ∈ [a,kS],FpOk (in2 X) pins H b:=fun b hb=>by
  rcases List.mem_cons.mp hb with rfl | hb
  ·exact fa
  ·rw [List.mem_singleton.mp hb]; exact fk
 have I1:=I.pinned hf (fun b hb=>by
  rcases List.mem_cons.mp hb with rfl | hb
  ·exact ⟨_,ha,fun v z=>by cases z⟩
  ·rw [List.mem_singleton.mp hb]; exact ⟨_,hk,fun v z=>by cases z⟩)
 refine thn (key_turn F hr hb I1 ry (rd.mono sm) hc) fun u s1 ⟨v,H1,I2,rv1,sm1,rk1⟩=>?_
 have pa:=I2.pin (a,_) (List.mem_append_right _ (List.mem_append_right _ (mem_pinsAt (by simp) ha)))
 have pk:=I2.pin (kS,_) (List.mem_append_right _ (List.mem_append_right _ (mem_pinsAt (by simp) hk)))
 have hlen:ks.length <= 60:=by
  have h1:=rv.length
  have h2:=rr.length
  have h3:=mapR_len hm
  rw [List.length_take] at h2
  omega
 have fk1:=fp_mono fk pk.2.1
 obtain ⟨e',he'⟩:∃ e',(s1.heap.update kS (Obj.mapSeq fun x=>x.push u)).get? kS = some (seqObj "list" (ks ++ [u]).toArray e'):=⟨_,by
  rw [show (ks ++ [u]).toArray = ks.toArray.push u by simp]
  exact get?_update_seq pk.1 fun x=>x.push u⟩
 refine hQ u s1 ⟨ks,e,pk.1,hlen,H1,ks ++ [u],kvs ++ [v],e',inv_put I2.unpinned fk1,fp_mono fa pa.2.1,fk1,(Heap.get?_update_other _ _ hne).trans pa.1,he',rv.append (.cons rv1 .nil),?_,sm.trans sm1⟩
 ·have:kds.take (j + 1) = kds.take j ++ [k]:=by
   rw [List.take_succ,hkd]; rfl
  rw [this]
  exact (rr.mono sm1).append (Reps.one rk1)
theorem li_items {M:Model} {A:Around} {E:Value -> Shared -> Prop} {c:String} {xs:Array Value} {n:Nat} {Q:Array Value -> Shared -> Prop} (h:s.heap.get? a = some (seqObj c xs n)) (hq:Q xs s):wpAny M A (Builtin.List.listItems (.ref a)) Q E s:=by
 unfold Builtin.List.listItems
 exact wpAny_bind (wpAny_seqItems h rfl (wpAny_pure hq))
theorem li_epoch {M:Model} {A:Around} {E:Value -> Shared -> Prop} {c:String} {xs:Array Value} {n:Nat} {Q:Nat -> Shared -> Prop} (h:s.heap.get? a = some (seqObj c xs n)) (hq:Q n s):wpAny M A (seqEpoch a) Q E s:=by
 unfold seqEpoch
 exact wpAny_bind (wpAny_load h (wpAny_pure hq))
theorem key_objs (I:L2.Inv (in2 X) pins σ H s):∀ {kds:List D} {is:List (List Int)} {kvs:List V} {ks:List Value},keysOf kds = some is -> Reps X.K H kds kvs -> Vals kvs ks -> ∀ (i:Nat),i < ks.length -> ∃ (b:Addr) (o:Obj) (us:List Value) (n:Nat),ks[i]? = some (.ref b) /\ s.heap.get? b = some o /\ o.cls = .type "tuple" /\ o.data = .seq us.toArray n /\ IntVs us (is.getD i []):=fun {kds is kvs ks} hk rr rv i hi=>by
 have l1:=rv.length
 have l2:=rr.length
 have l3:=keysOf_len hk
 have hd:=keysOf_get (i:=i) hk (by omega)
 obtain ⟨x,hx,rx⟩:=rr.get hd
 obtain ⟨b,xs,rfl,h1,h2⟩:=rx
 obtain ⟨u,hu,ru⟩:=rv.get hx
 cases ru
 obtain ⟨us,o,n,r,e,c,_,dd,_⟩:=I.tupleD h1
 exact ⟨b,o,us,n,hu,e,c,dd,reps_ints h2 r⟩
theorem kat_of {h:Heap}:∀ {ks:List Value} {is:List (List Int)},ks.length = is.length -> (∀ k ∈ is,k ≠ []) -> (∀ (i:Nat),i < ks.length -> ∃ (b:Addr) (o:Obj) (us:List Value) (n:Nat),ks[i]? = some (.ref b) /\ h.get? b = some o /\ o.cls = .type "tuple" /\ o.data = .seq us.toArray n /\ IntVs us (is.getD i [])) -> ∃ fs:List Value,fs.length = ks.length /\ PySem.W.KatTups h ks fs /\ ∀ v ∈ fs,∃ i t,v = .int i t
 | [],is,hl,_,_=>⟨[],rfl,PySem.W.KatTups.nil,fun v hv=>by cases hv⟩
 | k :: ks,[],hl,_,_=>by cases hl
 | k :: ks,i0 :: is,hl,hn,h0=>by
  obtain ⟨fs,e1,e2,e3⟩:=kat_of (ks:=ks) (is:=is) (by simpa using hl) (fun x hx=>hn x (by simp [hx])) fun i hi=>by
   have:=h0 (i + 1) (by simpa using hi)
   simpa using this
  obtain ⟨b,o,us,n,q1,q2,q3,q4,q5⟩:=h0 0 (by simp)
  simp only [List.getElem?_cons_zero,Option.some.injEq,List.getD_cons_zero] at q1 q5
  subst q1
  cases us with
  | nil=>exact absurd (List.length_eq_zero_iff.mp (int_len q5).symm) (hn i0 (by simp))
  | cons u us=>
   cases i0 with
   | nil=>exact absurd rfl (hn [] (by simp))
   | cons z zs=>
    obtain ⟨⟨t,rfl⟩,_⟩:=int_cons q5
    exact ⟨.int z t :: fs,by simp [e1],PySem.W.KatTups.cons q2 q3 q4 (by simp) e2,fun v hv=>(List.mem_cons.mp hv).elim (fun e=>⟨z,t,e⟩) (e3 v)⟩
theorem perm_vals {ys:List V} {its:List Value} (hv:Vals ys its):∀ (l:List Nat),(∀ i ∈ l,i < its.length) -> Vals (l.map fun i=>ys.getD i .non) (l.map fun i=>its.getD i .none)
 | [],_=>.nil
 | i :: l,h=>by
  have hi:=h i (by simp)
  have e:its[i]? = some (its.getD i .none):=by rw [List.getD_eq_getElem?_getD,List.getElem?_eq_getElem hi]; rfl
  obtain ⟨y,hy,ry⟩:=Vals.back hv e
  have e2:ys.getD i .non = y:=by rw [List.getD_eq_getElem?_getD,hy]; rfl
  rw [List.map_cons,List.map_cons,e2]
  exact .cons ry (perm_vals hv l fun j hj=>h j (by simp [hj]))
theorem perm_reps {K:PySem.W.Frag} {ds:List D} {ys:List V} (hr:Reps K H ds ys):∀ (l:List Nat),(∀ i ∈ l,i < ds.length) -> Reps K H (l.map fun i=>ds.getD i .non) (l.map fun i=>ys.getD i .non)
 | [],_=>rfl
 | i :: l,h=>by
  have hi:=h i (by simp)
  have e:ds[i]? = some (ds.getD i .non):=by rw [List.getD_eq_getElem?_getD,List.getElem?_eq_getElem hi]; rfl
  obtain ⟨y,hy,ry⟩:=hr.get e
  have e2:ys.getD i .non = y:=by rw [List.getD_eq_getElem?_getD,hy]; rfl
  rw [List.map_cons,List.map_cons,e2]
  exact ⟨y,_,rfl,ry,perm_reps hr l fun j hj=>h j (by simp [hj])⟩
theorem srt_end {H0:Hp} {e1:Nat} {ds kds:List D} {is:List (List Int)} {ys:List V} {its:List Value} (hne:kS ≠ a) (hv:Vals ys its) (hR:Reps X.K H0 ds ys) (hk:keysOf kds = some is) (hkl:kds.length = ds.length) (h2:2 <= ds.length) (h5:ds.length <= 5) (hn:∀ k ∈ is,k ≠ [])
  (K:KeySt X pins σ H0 a kS e1 kds ds.length s) {P:PySem.Fin -> Shared -> Prop} {E:Value -> Shared -> Prop}
  (hP:∀ (s':Shared) (H1:Hp) (out:List Value) (outV:List V) (c:Nat),L2.Inv (in2 X) pins σ H1 s' -> FpOk (in2 X) pins H1 a -> s'.heap.get? a = some (seqObj "list" out.toArray c) -> Vals outV out -> Reps X.K H1 ((sortK (is.zip ds)).map (·.2)) outV -> Same H0 H1 -> P (.done (.ret .none)) s') :
  wpAny (model X.prog X.w) X.A.in1.in1 (Builtin.List.listItems (.ref kS) >>= fun keys=>ksk_end a false its.toArray e1 (.ref kS) keys) P E s:=by
 obtain ⟨H,ks,kvs,e,I,fa,fk,ha,hks,rv,rr,sm⟩:=K
 rw [List.take_of_length_le (by omega)] at rr
 have l1:=rv.length
 have l2:=rr.length
 have l3:=keysOf_len hk
 have l4:=hv.length
 have l5:=hR.length
 have objs:=key_objs I hk rr rv
 obtain ⟨fs,f1,f2,f3⟩:=kat_of (ks:=ks) (is:=is) (by omega) hn objs
 refine wpAny_bind (li_items hks ?_)
 unfold ksk_end
 have hsz:¬ its.toArray.size < 2:=by rw [List.size_toArray]; omega
 simp only [Bool.false_eq_true,if_false,if_neg hsz]
 refine wpAny_bind (PySem.W.kat_kind (T:=.type "int") f2 (by omega) (fun v hv A Q E s _ hq=>?_) (by decide +kernel) ?_)
 ·obtain ⟨i,t,rfl⟩:=f3 v hv
  exact wpAny_pure hq
 rw [show ((Value.type "int" != Value.type "tuple"):Bool) = true by decide +kernel]
 have tr:=tree_is is (by omega) (by omega)
 rw [show is.length = its.length by omega] at tr
 refine wpAny_bind (wpAny_mono (PySem.W.kat_run (vs:=its) (ks:=ks) (G:=fun p s'=>p.toList = sortI (ltK is) (List.range its.length) /\ s' = s) (Q:=fun st' s'=>s' = s /\ failedOf st' = none /\ (arrOf st').map (fun x=>x.2) = ((sortI (ltK is) (List.range its.length)).map fun i=>its.getD i .none).toArray) (by omega) (by omega) (by omega) (fun p st' s' hp harr hfail ⟨hG,hs⟩=>⟨hs,hfail,?_⟩) ?_) (fun r s' hq=>?_) fun _ _ x=>x)
 ·rw [harr,<- hG]
  apply Array.toList_inj.mp
  simp only [Array.toList_map,List.map_map]
  refine List.map_congr_left fun i _=>?_
  show (PySem.W.kas_item (ks.toArray.zip its.toArray) i).2 = _
  rw [PySem.W.kat_item (by omega)]
 ·refine kas_walk (J:=fun s'=>s' = s) (n:=its.length) (lt:=ltK is) (fun i j hi hj C s1 hs hC=>?_) _ _ _ _ tr rfl fun p s' hp hs=>⟨hp,hs⟩
  subst hs
  obtain ⟨b,o,us,n,q1,q2,q3,q4,q5⟩:=objs i (by omega)
  obtain ⟨b',o',us',n',r1,r2,r3,r4,r5⟩:=objs j (by omega)
  show wpAny _ _ (keyLt' (tuples' true) (ks.getD i .none) (ks.getD j .none)) C _ s1
  rw [List.getD_eq_getElem?_getD,q1,List.getD_eq_getElem?_getD,r1]
  refine PySem.W.kat_lt q2 q4 r2 r4 (lex_run _ _ _ _ 0 q5 r5 ?_)
  rw [List.size_toArray,List.size_toArray,int_len q5,int_len r5,lexZ_is]
  exact hC s1 rfl
 ·obtain ⟨⟨⟩,st⟩:=r
  obtain ⟨rfl,hfail,harr⟩:=hq
  have hl:∀ i ∈ sortI (ltK is) (List.range its.length),i < its.length:=fun i hi=>by simpa using sortI_mem hi
  show wpAny _ _ (ksk_tail a false e1 (.ref kS) st) P E s'
  unfold ksk_tail
  simp only [harr,hfail]
  refine wpAny_bind (wpAny_updateSeq hks rfl ?_ (by rw [List.size_toArray,sizeLine_eq]; omega) (by simp))
  refine wpAny_bind (wpAny_letGo ?_)
  have I2:=inv_put (f:=Obj.mapSeq fun _=>#[]) I fk
  have ha2:(s'.heap.update kS (Obj.mapSeq fun _=>#[])).get? a = some (seqObj "list" #[] e1):=(Heap.get?_update_other _ _ hne).trans ha
  refine wpAny_bind (li_epoch ha2 ?_)
  refine wpAny_bind (wpAny_updateSeq ha2 rfl ?_ (by simp) ?_)
  ·obtain ⟨c,hc⟩:∃ c,((s'.heap.update kS (Obj.mapSeq fun _=>#[])).update a (Obj.mapSeq fun _=>((sortI (ltK is) (List.range its.length)).map fun i=>its.getD i .none).toArray)).get? a = some (seqObj "list" ((sortI (ltK is) (List.range its.length)).map fun i=>its.getD i .none).toArray c):=⟨_,get?_update_seq ha2 _⟩
   rw [if_neg (by simp)]
   rw [hfail]
   show wpAny _ _ (ret .none) P E _
   refine wpAny_pure ?_
   refine hP _ H _ _ c (inv_put I2 fa) fa hc (perm_vals hv _ hl) ?_ sm
   rw [zip_range is ds (by omega),sort_map,List.map_map,show is.length = its.length by omega]
   exact perm_reps (hR.mono sm) _ fun i hi=>by have:=hl i hi; omega
  ·show (List.toArray _).size <= _
   rw [List.size_toArray,List.length_map,sizeLine_eq]
   have:(sortI (ltK is) (List.range its.length)).length = its.length:=by rw [sortI_len,List.length_range]
   omega
theorem srt_tree {H0:Hp} {n:Nat} {ds kds:List D} {is:List (List Int)} {ys:List V} {its:List Value} (F:FnOk X.prog X.w X.K X.mg X.base (CXr X.prog X.w) kk f fd ps (spI X.K X.mg call fi)) (hr:Room kk X.A.in1.in1) (hb:Binds X.K fd ps []) (hv:Vals ys its) (hR:Reps X.K H0 ds ys) (hm:mapR (fun d=>call fi [d]) ds = .ok kds) (hk:keysOf kds = some is)
  (h2:2 <= ds.length) (h5:ds.length <= 5) (hn:∀ k ∈ is,k ≠ []) (I:L2.Inv (in2 X) pins σ H0 s) (fa:FpOk (in2 X) pins H0 a) (ha:s.heap.get? a = some (seqObj "list" its.toArray n)) {P:PySem.Fin -> Shared -> Prop} {E:Value -> Shared -> Prop}
  (hP:∀ (s':Shared) (H1:Hp) (out:List Value) (outV:List V) (c:Nat),L2.Inv (in2 X) pins σ H1 s' -> FpOk (in2 X) pins H1 a -> s'.heap.get? a = some (seqObj "list" out.toArray c) -> Vals outV out -> Reps X.K H1 ((sortK (is.zip ds)).map (·.2)) outV -> Same H0 H1 -> P (.done (.ret .none)) s') :
  wpAny (model X.prog X.w) X.A.in1.in1 (ksk_tree a (.ref f) false) P E s:=by
 have l4:=hv.length
 have l5:=hR.length
 have hkl:=mapR_len hm
 unfold ksk_tree
 refine wpAny_bind (li_items ha ?_)
 refine wpAny_bind (wpAny_updateSeq ha rfl ?_ (by rw [List.size_toArray,sizeLine_eq]; omega) (by simp))
 have I1:=inv_put (f:=Obj.mapSeq fun _=>#[]) I fa
 obtain ⟨e1,ha1⟩:∃ e1,(s.heap.update a (Obj.mapSeq fun _=>#[])).get? a = some (seqObj "list" #[] e1):=⟨_,get?_update_seq ha _⟩
 refine wpAny_bind (li_epoch ha1 ?_)
 refine wpAny_bind (wpAny_newTuple ?_ (by simp only [List.toList_toArray]; rw [sizeLine_eq]; omega))
 refine wpAny_bind (wpAny_newList ?_ (Nat.zero_le _))
 refine wpAny_holding ?_
 generalize hh1:(s.heap.update a (Obj.mapSeq fun _=>#[])).push { cls:=.type "tuple",data:=.seq its.toArray.toList.toArray } = h1
 have I2:L2.Inv (in2 X) pins σ H0 { s with heap:=h1 }:=by
  rw [<- hh1]
  exact I1.kept (t':=s.toks) fun b o e=>Heap.get?_push_of_some _ e
 have ha2:h1.get? a = some (seqObj "list" #[] e1):=by rw [<- hh1]; exact Heap.get?_push_of_some _ ha1
 have fk:FpOk (in2 X) pins H0 h1.objs.size:=I2.fpOk (Nat.le_refl _) I2.fresh
 have hne:h1.objs.size ≠ a:=Nat.ne_of_gt (Heap.lt_size ha2)
 have I3:L2.Inv (in2 X) pins σ H0 { s with heap:=h1.push { cls:=.type "list",data:=.seq ([]:List Value).toArray } }:=I2.kept (t':=s.toks) fun b o e=>Heap.get?_push_of_some _ e
 have hks:(h1.push { cls:=.type "list",data:=.seq ([]:List Value).toArray }).get? h1.objs.size = some (seqObj "list" ([]:List Value).toArray 0):=Heap.get?_push_size _ rfl
 unfold ksk_rest
 refine wpAny_bind (wpAny_rule ?_)
 rw [<- Array.forIn_toList]
 refine wpAny_bind (ksk_fold (KeySt X pins σ H0 a h1.objs.size e1 kds) _ 0 _ ⟨H0,[],[],0,I3,fa,fk,Heap.get?_push_of_some _ ha2,hks,.nil,by simp [Reps],Same.refl _⟩ (fun j x s' hx K=>?_) fun s' K=>?_)
 ·rw [Nat.zero_add] at K ⊢
  refine wpAny_bind (wpAny_attempt (wpAny_mono (key_step F hr hb hne hv hR hm (by omega) (by simpa using hx) K (Q:=fun k s'=>∃ (ks:List Value) (e:Nat),s'.heap.get? h1.objs.size = some (seqObj "list" ks.toArray e) /\ ks.length <= 60 /\ KeySt X pins σ H0 a h1.objs.size e1 kds (j + 1) { s' with heap:=s'.heap.update h1.objs.size (Obj.mapSeq fun x=>x.push k) }) fun k s' h=>h) (fun k s' ⟨ks,e,hk,hlen,K'⟩=>?_) fun _ _ z=>z.elim))
  refine wpAny_bind (wpAny_updateSeq hk rfl ?_ (by rw [List.size_toArray,sizeLine_eq]; omega) (by rw [Array.size_push,List.size_toArray,sizeLine_eq]; omega))
  exact wpAny_pure ⟨rfl,K'⟩
 ·rw [Nat.zero_add,show its.toArray.toList.length = ds.length by rw [List.toList_toArray]; omega] at K
  exact srt_end hne hv hR hk hkl h2 h5 hn K hP
theorem srt_call {x:V} {u:Value} {d:D} {Q:VK} (o:X.Ok) (F:FnOk X.prog X.w X.K X.mg X.base (CXr X.prog X.w) kk f fd ps (spI X.K X.mg call fi)) (hr:Room kk X.A.in1.in1) (hb:Binds X.K fd ps []) (I:L2.Inv X pins σ H s) (rx:RelV x u) (rd:Rep X.K H d x)
  (h:((op1 .rows d).bind fun x=>x.walk.bind fun ds=>(mapR (fun d=>call fi [d]) ds).calm.bind fun ks=>match keysOf ks with
   | some is=>if 2 <= ds.length /\ ds.length <= 5 /\ is.all (fun k=>!k.isEmpty) = true then Rs.ok (D.lst ((sortK (is.zip ds)).map (·.2))) else .stuck
   | none=>.stuck).Good (Out X H Q) (XW X H)) :
  wpAny (model X.prog X.w) X.A (PySem.call (.builtin "sorted") [u] [(Str.ofString "key",.ref f)]) (EP X pins σ Q) X.xe s:=by
 have key:∀ (ds:List D) (ys:List V) (its:List Value) (b:Addr) (T:String) (ob:Obj) (nb:Nat),u = .ref b -> (T = "list" \/ T = "tuple") -> s.heap.get? b = some ob -> ob.cls = .type T -> ob.data = .seq its.toArray nb -> Vals ys its -> Reps X.K H ds ys -> ((mapR (fun d=>call fi [d]) ds).calm.bind fun ks=>match keysOf ks with
   | some is=>if 2 <= ds.length /\ ds.length <= 5 /\ is.all (fun k=>!k.isEmpty) = true then Rs.ok (D.lst ((sortK (is.zip ds)).map (·.2))) else .stuck
   | none=>.stuck).Good (Out X H Q) (XW X H) -> wpAny (model X.prog X.w) X.A (PySem.call (.builtin "sorted") [u] [(Str.ofString "key",.ref f)]) (EP X pins σ Q) X.xe s:=by
  intro ds ys its b T ob nb hu hT hob hcl hda hv hR h
  subst hu
  cases hm:mapR (fun d=>call fi [d]) ds with
  | ex c=>rw [hm] at h; exact h.elim
  | stuck=>rw [hm] at h; exact h.elim
  | ok kds=>
   rw [hm] at h
   simp only [Rs.calm_ok,Rs.bind_ok] at h
   cases hk:keysOf kds with
   | none=>rw [hk] at h; exact h.elim
   | some is=>
    rw [hk] at h
    simp only at h
    split at h
    ·rename_i hc
     obtain ⟨h2,h5,hall⟩:=hc
     have hn:∀ k ∈ is,k ≠ []:=fun k hk' e=>by
      have:=List.all_eq_true.mp hall k hk'
      rw [e] at this
      cases this
     have l4:=hv.length
     have l5:=hR.length
     refine call_function_entry_kw kind_sorted plain_sorted entry_sorted (ksk_s1 _ _) ?_
     unfold Builtin.«sorted»
     refine wpAny_bind (m:=checkCount "sorted" 1 1 _) (wpAny_pure (wpAny_bind (wpAny_collect_seq b hT hob hcl hda (fun h' kp=>?_) (by rw [List.size_toArray,sizeLine_eq]; omega))))
     simp only [List.toList_toArray]
     have I1:L2.Inv X pins σ H { s with heap:=h' }:=I.kept (t':=s.toks) kp
     refine wpAny_bind (wpAny_newList ?_ (by rw [sizeLine_eq]; omega))
     have I2:L2.Inv X pins σ H { s with heap:=h'.push { cls:=.type "list",data:=.seq its.toArray } }:=I1.kept (t':=s.toks) fun b o e=>Heap.get?_push_of_some _ e
     have fa:FpOk X pins H h'.objs.size:=I1.fpOk (Nat.le_refl _) I1.fresh
     have ha:(h'.push { cls:=.type "list",data:=.seq its.toArray }).get? h'.objs.size = some (seqObj "list" its.toArray 0):=Heap.get?_push_size _ rfl
     refine wpAny_bind (wpAny_holding (wpAny_call_entry_kw slot_list_sort ⟨_,ha,rfl⟩ entry_list_sort ?_ (ksk_l1 _ _)))
     rw [ksk_t1]
     refine srt_tree F hr hb hv hR hm hk h2 h5 hn (inv_in2 I2) fa ha fun s' H1 out outV c I3 fa3 hc rv3 rr3 sm3=>⟨_,rfl,?_⟩
     refine wpAny_pure ⟨_,rfl,?_⟩
     have lo:=rv3.length
     have lo2:=rr3.length
     have hlen:((sortK (is.zip ds)).map (·.2)).length <= 5:=by
      have hkl:=mapR_len hm
      have l3:=keysOf_len hk
      rw [zip_range is ds (by omega),sort_map,List.map_map,List.length_map,sortI_len,List.length_range]
      omega
     obtain ⟨s1,q1⟩:=laidL (K:=X.K) fa3.1 rr3
     exact ⟨.ref h'.objs.size,_,inv_adopt (inv_out2 o I3) fa3 (show ObjOk X.prog X.w _ s'.heap _ (.lst outV) from ⟨by rw [sizeLine_eq]; omega,out,c,rv3,hc⟩),rfl,h _ _ (sm3.trans s1) q1⟩
    ·exact h.elim
 cases d with
 | tup ds=>
  obtain ⟨b,ys,rfl,h1,hR⟩:=rd
  cases rx
  obtain ⟨its,ob,nb,hv,e,hc,_,hd,_⟩:=I.tupleD h1
  exact key ds ys its b "tuple" ob nb rfl (.inr rfl) e hc hd hv hR h
 | lst ds=>
  obtain ⟨b,ys,rfl,h1,hR⟩:=rd
  cases rx
  obtain ⟨its,hv,⟨ob,nb,e,hc,_,hd⟩,_⟩:=I.list h1
  exact key ds ys its b "list" ob nb rfl (.inl rfl) e hc hd hv hR h
 | _=>exact (show False from h).elim
end
section
variable {X:Cx} {call:CallD} {G:Gw} {N:List Str} {nm:List (Str × NameKind)} {a:Expr} {pa:Px} {pos p1 p2 q1:Pos} {x:Str} {fi:Nat}
theorem cSrt (C:Ctx X G N nm) (hm:G.mg "sorted" = none) (hc:Callee G call fi x) (ha:PE X a (tI X call pa)) (hg:gloB nm "sorted" = true) (hg2:chkG nm x = true) (hs:starEach [a] X.env = (false,eval a X.env) :: starEach [] X.env:=by rfl) :
  PE X (.Call (.Name "sorted" p1) [a] [⟨some (Str.ofString "key"),.Name x p2,q1⟩] pos) (tI X call (.sortK fi (.un .rows pa))):=by
 intro pins s σ H Q I ⟨env,r,h⟩
 simp only [evD,Rs.bind_assoc] at h
 simp only [chkG,Bool.and_eq_true] at hg2
 obtain ⟨kk,f,fd,ps,F,hr,hm2,hk,hb⟩:=hc.ex
 have hG:=C.g
 subst hG
 refine wpAny_Call_Name_kw (ld_blt I (C.glo _ hg) (by rw [C.mg]; exact hm) PyProof.Rows.boot_sorted ?_ (by decide +kernel) (by decide +kernel))
 rw [hs]
 refine cw_kw rfl rfl ?_
 show wpAny _ _ (evalArgs (.builtin "sorted") true ((false,eval a X.env) :: []) [(some (Str.ofString "key"),do let v <- eval (.Name x p2) X.env; standAt pos; pure v)]) _ _ s
 refine evalArgs_kw rfl (Calls.spliced_cons ?_)
 refine thn (ha pins s σ H (fun x H1=>∃ d,Same H H1 /\ Rep X.K H1 d x /\ _) I ⟨env,r,(Rs.good_bind.mp h).mono (fun d hd x H1 sm rx=>⟨d,sm,rx,hd⟩) fun c hc=>hc⟩) fun u s1 ⟨y,H1,I1,rx,d,sm,rd,hd⟩=>?_
 refine Calls.spliced_nil ?_
 refine wpAny_evalAll_cons (back_ (ld_glob I1 (C.glo _ hg2.1) hm2 (wpAny_evalAll_nil ?_) (plainN.d hg2.2).1))
 exact srt_call I1.ok F hr hb I1 rx rd (hd.mono (fun d' hd'=>hd'.mono sm) fun c hc=>hc.mono sm)
end
end Rd
namespace Rd
open PySem PySem.Spec PyProof.Rows L2 Pu
open PySem.SeqAt (EqAt)
section
variable {X:Cx} {call:CallD} {a b:Expr} {pa pb:Px} {pos p1 p2:Pos} {G:Gw} {N:List Str} {nm:List (Str × NameKind)}
theorem range_find {M:Model} {A:Around} {E:Value -> Shared -> Prop} {s:Shared} {body:Nat -> Option PySem.Fin × Unit -> Sem (ForInStep (Option PySem.Fin × Unit))} {R:Option PySem.Fin × Unit -> Shared -> Prop} {j n:Nat} (hj:j < n)
  (hno:∀ k,k < j -> wpAny M A (body k (none,())) (fun r s'=>r = .yield (none,()) /\ s' = s) E s) (hyes:wpAny M A (body j (none,())) (fun r s'=>∃ fin,r = .done (some fin,()) /\ R (some fin,()) s') E s):∀ (r k:Nat),k + r = n -> k <= j -> wpAny M A (forIn (List.range' k r 1) (none,()) body) R E s:=by
 intro r
 induction r with
 | zero=>intro k hk hkj; omega
 | succ r ih=>
  intro k hk hkj
  rw [List.range'_succ,List.forIn_cons]
  by_cases q:k = j
  ·subst q
   refine wpAny_bind (wpAny_mono hyes (fun r s' h=>?_) fun _ _ x=>x)
   obtain ⟨fin,rfl,h⟩:=h
   exact wpAny_pure h
  ·refine wpAny_bind (wpAny_mono (hno k (by omega)) (fun r s' h=>?_) fun _ _ x=>x)
   obtain ⟨rfl,rfl⟩:=h
   exact ih (k + 1) (by omega) (by omega)
theorem idxT_run {prog:Program} {w:World} {A:Around} {E:Value -> Shared -> Prop} {s:Shared} {l:Addr} {o:Obj} {its:List Value} {n:Nat} {u:Value} {e:Value -> Bool} {j:Nat} {Q:PySem.Fin -> Shared -> Prop} (ho:s.heap.get? l = some o) (hd:o.data = .seq its.toArray n) (heq:∀ y,y ∈ its.toArray -> EqAt A s y u (e y))
  (hj:j < its.length) (h1:e its[j] = true) (h2:∀ m (hm:m < its.length),m < j -> e its[m] = false) (hQ:Q (.done (.ret (.int j s.toks))) { s with toks:=s.toks + 1 }):wpAny (model prog w) A (Builtin.«tuple.index» ⟨[.ref l,u],[]⟩) Q E s:=by
 unfold Builtin.«tuple.index»
 refine wpAny_bind (wpAny_of_eq (show selfAndSome "tuple.index" "index" 1 3 ⟨[.ref l,u],[]⟩ = pure (.ref l,[u]) from rfl) ?_)
 refine wpAny_bind (wpAny_tupleItemsOf ho hd ?_)
 refine wpAny_bind (wpAny_pure ?_)
 refine wpAny_bind (wpAny_pure ?_)
 show wpAny _ _ (forIn (Std.Legacy.Range.mk 0 (min its.toArray.size its.toArray.size) 1 (by decide)) _ _ >>= _) _ _ _
 refine wpAny_bind ?_
 rw [Std.Legacy.Range.forIn_eq_forIn_range']
 have hsz:(Std.Legacy.Range.size ⟨0,min its.toArray.size its.toArray.size,1,by decide⟩) = its.length:=by simp [Std.Legacy.Range.size]
 show wpAny _ _ (forIn (List.range' 0 (Std.Legacy.Range.size ⟨0,min its.toArray.size its.toArray.size,1,by decide⟩) 1) _ _) _ _ _
 rw [hsz]
 have hg:∀ k (hk:k < its.length),its.toArray[k]? = some its[k]:=fun k hk=>by simp [hk]
 refine range_find hj (fun k hk=>?_) ?_ its.length 0 (by omega) (by omega)
 ·simp only [hg k (by omega)]
  refine wpAny_bind (heq its[k] (by simp) prog w _ _ ?_)
  rw [h2 k (by omega) hk,if_neg (by decide)]
  exact wpAny_pure ⟨rfl,rfl⟩
 ·simp only [hg j hj]
  refine wpAny_bind (heq its[j] (by simp) prog w _ _ ?_)
  rw [h1,if_pos rfl]
  refine wpAny_bind (wpAny_bind (wpAny_mkInt (wpAny_pure ?_)))
  exact wpAny_pure ⟨_,rfl,wpAny_pure hQ⟩
theorem mD_indexT (hu:X.A.units + 64 < cLine):MtR X "tuple.index" (fun x xs H Q=>∃ y,xs = [y] /\ ∃ ds dy,Rep X.K H (.tup ds) x /\ Rep X.K H dy y /\ (op2 .indexT (.tup ds) dy).Good (Out X H Q) (XW X H)):=by
 intro pins s σ H x xs v us Q I rx rv ⟨y,e,ds,dy,r1,r2,h⟩
 subst e
 obtain ⟨u,rfl,ru⟩:=vals1 rv
 simp only [op2] at h
 split at h
 ·rename_i hc
  simp only [okDep,Bool.and_eq_true,decide_eq_true_eq] at hc
  have hdep:deps ds + 1 <= 20:=hc.1.1
  cases q:idxD dy ds with
  | none=>rw [q] at h; exact h.elim
  | some j=>
   rw [q] at h
   obtain ⟨⟨d',g1,g2⟩,g3⟩:=idx_spec q
   obtain ⟨l,zs,rfl,h1,h2⟩:=r1
   cases rx
   obtain ⟨its,o,n,rvv,e1,c1,_,k1,_⟩:=I.tupleD h1
   have l1:=rvv.length
   have l2:=h2.length
   have hj:j < ds.length:=(List.getElem?_eq_some_iff.mp g1).1
   have at_:∀ (m:Nat) (hm:m < its.length),eU ds its dy its[m] = (ds[m]'(by omega)).eqv dy:=fun m hm=>
    eU_at I h2 rvv (by omega) (d:=dy) (j:=m) (List.getElem?_eq_getElem hm) (List.getElem?_eq_getElem (by omega:m < ds.length))
   refine wpAny_call_entry F.slot_tuple_index ⟨_,e1,c1⟩ F.entry_tuple_index (idxT_run (e:=eU ds its dy) (j:=j) e1 k1 (in_seq hu I h2 rvv r2 ru (by omega) hc.1.2) (by omega) ?_ ?_ ?_) (F.args_tuple_index_2 _ _)
   ·rw [at_ j (by omega)]
    have:ds[j] = d':=by rw [List.getElem?_eq_getElem hj] at g1; simpa using g1
    rw [this]; exact g2
   ·intro m hm hlt
    rw [at_ m hm]
    exact g3 m _ hlt (List.getElem?_eq_getElem (by omega))
   ·exact ⟨_,rfl,.int _,H,I.tok _,⟨_,rfl⟩,Out.now h rfl⟩
 ·exact h.elim
theorem pe_bmT {o e:Expr} {to:TE} {t:TA} {name:Str} {apos cpos:Pos} {id:String} {r:V -> List V -> Hp -> VK -> Prop} (slot:Slot "tuple" name id) (hty:typeOf (.builtin id) = pure (.type "method_descriptor")) (hm:MtR X id r) (ho:PE X o to) (ha:PA X [e] t)
  (hbase:attributeBase o name X.env (eval o X.env) = eval o X.env) (hline:(apos.endLine == cpos.line) = true) (hs:starEach [e] X.env = (false,eval e X.env) :: starEach [] X.env) :
  PE X (.Call (.Attribute o name apos) [e] [] cpos) (fun σ H Q=>to σ H fun x H1=>(∃ p xs,x = .ref p /\ SqT X.K H1 p xs) /\ t σ H1 fun xs H2=>r x xs H2 Q):=by
 intro pins s σ H Q I h
 refine wpAny_Call_method_late hbase (by rw [hs]; rfl) hline rfl (thn (ho pins s σ H _ I h) fun v s1 ⟨x,H1,I1,r1,ty,q1⟩=>?_)
 obtain ⟨p,xs,rfl,hT⟩:=ty
 cases r1
 obtain ⟨its,ob,n,_,e1,c1,d1,_,_⟩:=I1.tupleD hT
 refine ⟨"tuple",id,F.plainAttrs_tuple,slot,hty,⟨_,e1,c1⟩,fun a z=>by cases z; exact ⟨ob,e1,d1⟩,?_⟩
 have hA:=ha cpos pins s1 σ H1 _ I1 q1
 rw [hs] at hA ⊢
 refine Calls.callWith_builtin rfl (Calls.evalArgs_plain ?_)
 exact thn hA fun us s2 ⟨vs,H2,I2,r2,q2⟩=>hm pins s2 σ H2 (.ref p) vs (.ref p) us Q I2 rfl r2 q2
theorem cIdxT {apos:Pos} (C:Ctx X G N nm) (ha:PE X a (tI X call pa)) (hb:PE X b (tI X call pb)) (hn:noEx pb = true) (hl:(apos.endLine == pos.line) = true) (hbase:attributeBase a "index" X.env (eval a X.env) = eval a X.env:=by rfl) (hs:starEach [b] X.env = (false,eval b X.env) :: starEach [] X.env:=by rfl) :
  PE X (.Call (.Attribute a "index" apos) [b] [] pos) (tI X call (.bi .indexT pa pb)):=by
 refine PE.weak (pe_bmT F.slot_tuple_index F.type_tuple_index (mD_indexT C.un) ha (pa_cons hb pa_nil hs) hbase hl hs) fun σ H Q h=>?_
 obtain ⟨env,r,h⟩:=h
 simp only [evD] at h
 refine tI.then r h fun dx x H1 s1 r1 q1 h1=>?_
 cases hb':evD call pb env with
 | ex c=>exact absurd hb' (noEx_ev call pb env c hn)
 | stuck=>rw [hb'] at h1; exact h1.elim
 | ok dy=>
  rw [hb'] at h1
  simp only [Rs.bind_ok] at h1
  cases dx with
  | tup ds=>
   obtain ⟨l,xs,rfl,g1,g2⟩:=(show _ from r1)
   refine ⟨⟨l,xs,rfl,g1⟩,env,q1,?_⟩
   rw [hb']
   intro y H2 s2 r2
   exact ⟨y,rfl,ds,dy,r1.mono s2,r2,h1.mono (fun _ o=>o.mono s2) fun _ q=>q.mono s2⟩
  | _=>exact (show False from h1).elim
end
end Rd
namespace Rd
open PySem PySem.Spec PyProof.Rows L2 Pu
def sp0 (K:PySem.W.Frag) (call:CallD) (fi:Nat):Sp:=fun vs H Q _=>∃ ds,Reps K H ds vs /\ (call fi ds).Good (fun d=>∀ v H',Same H H' -> Rep K H' d v -> Q v H') (fun _=>False)
theorem sp0_of {K:PySem.W.Frag} {mg:Str -> Option Value} {call:CallD} {fi:Nat} (vs:List V) (H:Hp) (Q:VK) (E:XK) (h:sp0 K call fi vs H Q E):spI K mg call fi vs H Q E:=by
 obtain ⟨ds,r,g⟩:=h
 exact ⟨ds,r,g.mono (fun _ z=>z) fun _ z=>z.elim⟩
theorem law_wish0 {K:PySem.W.Frag} {H:Hp} {a:Addr} {ns:List Int} {call:CallD} {fi:Nat} (h:SqL K H a (ns.map V.int)) (hv:call fi [.lst (ns.map .int)] = .ok (.bl true)):sp0 K call fi [.ref a] H (fun v _=>v = .bl true) fun _ _ _=>False:=by
 have rs:∀ ns:List Int,Reps K H (ns.map .int) (ns.map V.int):=fun ns=>by
  induction ns with
  | nil=>rfl
  | cons n ns ih=>exact ⟨.int n,ns.map V.int,rfl,rfl,ih⟩
 refine ⟨[.lst (ns.map .int)],Reps.one ⟨a,_,rfl,h,rs ns⟩,?_⟩
 rw [hv]
 exact fun v H' _ r=>r
theorem noCX {P:Program} {w:World} {H:Hp} {s:Shared} {e:Value} {s':Shared} (h:CXr P w [] H s (fun _ _ _=>False) e s'):False:=by
 obtain ⟨_,_,_,_,_,_,_,_,_,_,_,_,_,z⟩:=h
 exact z
def keyVal:Value -> Bool
 | .int _ _=>true
 | _=>false
def keyTxt:Value -> Bool
 | .str x _=>!banD x
 | _=>false
def noKTB (K:PySem.W.Frag):Bool:=match K.lookup mainGlobals with
 | some ⟨_,_,.dict es _,_⟩=>es.toList.all fun e=>match e.val with
  | .ref a=>(match K.lookup a with
   | some ⟨.type t,_,.seq its _,_⟩=>!(t == "tuple") || !(its.toList.all keyVal || its.toList.all keyTxt)
   | _=>true)
  | _=>true
 | _=>true
theorem keyVals:∀ {k:List L2.Key} {its:List Value},Vals (k.map kV) its -> its.all keyVal = (k.map keyV).all keyI /\ its.all keyTxt = (k.map keyV).all keyS
 | [],_,h=>by cases h; exact ⟨rfl,rfl⟩
 | a :: k,its,h=>by
  rw [List.map_cons] at h
  cases h with
  | cons r t=>
   obtain ⟨e1,e2⟩:=keyVals t
   rw [List.all_cons,List.all_cons,List.map_cons,List.all_cons,List.all_cons,e1,e2]
   cases a with
   | inl n=>obtain ⟨u,rfl⟩:=(show ∃ t,_ = Value.int n t from r); exact ⟨rfl,rfl⟩
   | inr x=>obtain ⟨u,rfl⟩:=(show ∃ t,_ = Value.str x t from r); exact ⟨rfl,rfl⟩
theorem noKT_of {K:PySem.W.Frag} (h:noKTB K = true):NoKT K:=fun y b k o its n h0 h1 h2 h3 h5 h4=>by
 unfold noKTB at h
 unfold PySem.W.nsIn at h0
 split at h0
 ·rename_i es _ _ hm
  rw [hm] at h
  split at h0
  ·rename_i e he
   simp only [Option.some.injEq] at h0
   have:=List.all_eq_true.mp h e (List.mem_of_find?_eq_some he)
   obtain ⟨oc,od,odat,osl⟩:=o
   simp only at h2 h3
   subst h2 h3
   simp only [h0,h1,(keyVals h4).1,(keyVals h4).2,h5] at this
   simp at this
  ·split at h0 <;> simp at h0
 ·cases h0
end Rd
namespace Rd
open PySem PySem.Spec PyProof.Rows L2 Pu
def scChk (N P:List Str) (sc:Scope):Bool:=(sc.kind == .function) && !sc.isCoroutine && !sc.isGenerator && decide N.Nodup && (N.take P.length == P) && P.all (fun x=>sc.names.lookup x == some .local || sc.names.lookup x == some .cell) && sc.names.all fun y=>!(y.2 == .free)
theorem sc_of {N P:List Str} {sc:Scope} (h:scChk N P sc = true):FnScope N P sc:=by
 simp only [scChk,Bool.and_eq_true,beq_iff_eq,Bool.not_eq_true',decide_eq_true_eq,List.all_eq_true,Bool.or_eq_true,beq_eq_false_iff_ne] at h
 obtain ⟨⟨⟨⟨⟨⟨h1,h2⟩,h3⟩,h4⟩,h5⟩,h6⟩,h7⟩:=h
 exact ⟨h1,h2,h3,h4,h5,h6,h7⟩
structure DefIn (K:PySem.W.Frag) (n:Str) (s:Stmt) (f:Addr) (fd:FuncData):Prop where
 a:PySem.W.nsIn K mainGlobals n = some (some (.ref f))
 F:Fun K n n s f fd
theorem def_mk {K:PySem.W.Frag} {n:Str} {s:Stmt} {f:Addr} {od an:Option Addr} {sl:Array (Option Value)} {oc kV dc pm cd ct:Value} (a:PySem.W.nsIn K mainGlobals n = some (some (.ref f))) (l:K.lookup f = some ⟨oc,od,.func (PySem.W.fnOf n n (defArgs s) (defBody s) (defScope s) .none kV dc pm an cd ct),sl⟩) (c:PySem.W.codeIn K cd n = true) (k:PySem.W.keepIn K (.ref f) = true):DefIn K n s f (PySem.W.fnOf n n (defArgs s) (defBody s) (defScope s) .none kV dc pm an cd ct):=⟨a,fun_mk l c k⟩
structure Def1 (K:PySem.W.Frag) (mg:Str -> Option Value) (x:Str) (st:Stmt) (ps:List Str) (f:Addr) (fd:FuncData):Prop where
 F:Fun K x x st f fd
 b:Binds K fd ps []
 g:mg x = some (.ref f)
end Rd
namespace Pu
open PySem
section
variable (i j:Int) (x y:Str) (xs ys:List D) (a b:D) (p q:Bool)
@[simp] theorem o_neg:op1 .neg (.int i) = .ok (.int (-i)):=rfl
@[simp] theorem o_not:op1 .not (.bl p) = .ok (.bl !p):=rfl
@[simp] theorem o_truthB:op1 .truth (.bl p) = .ok (.bl p):=rfl
@[simp] theorem o_lenT:op1 .len (.tup xs) = .ok (.int xs.length):=rfl
@[simp] theorem o_lenL:op1 .len (.lst xs) = .ok (.int xs.length):=rfl
@[simp] theorem o_tupL:op1 .tuple (.lst xs) = .ok (.tup xs):=rfl
@[simp] theorem o_tupT:op1 .tuple (.tup xs) = .ok (.tup xs):=rfl
@[simp] theorem o_listL:op1 .list (.lst xs) = .ok (.lst xs):=rfl
@[simp] theorem o_listT:op1 .list (.tup xs) = .ok (.lst xs):=rfl
@[simp] theorem o_enumT:op1 .enum (.tup xs) = .ok (.lst (enumFrom 0 xs)):=rfl
@[simp] theorem o_enumL:op1 .enum (.lst xs) = .ok (.lst (enumFrom 0 xs)):=rfl
@[simp] theorem o_rowsL:op1 .rows (.lst xs) = .ok (.lst xs):=rfl
@[simp] theorem o_rowsT:op1 .rows (.tup xs) = .ok (.tup xs):=rfl
@[simp] theorem walk_lst':D.walk (.lst xs) = .ok xs:=rfl
@[simp] theorem walk_tup':D.walk (.tup xs) = .ok xs:=rfl
@[simp] theorem o_asI:op1 .asI (.int i) = .ok (.int i):=rfl
@[simp] theorem o_asT:op1 .asT (.tup xs) = .ok (.tup xs):=rfl
@[simp] theorem o_isNn:op1 .isN .non = .ok (.bl true):=rfl
@[simp] theorem o_isNl:op1 .isN (.lst xs) = .ok (.bl false):=rfl
@[simp] theorem o_notNn:op1 .notN .non = .ok (.bl false):=rfl
@[simp] theorem o_notNl:op1 .notN (.lst xs) = .ok (.bl true):=rfl
theorem o_range (n:Nat) (h:n <= 1000):op1 .range (.int n) = .ok (.lst (upTo 0 n)):=by
 have:midI n = true:=by
  simp only [midI,Bool.and_eq_true,decide_eq_true_eq]
  omega
 simp [op1,this]
@[simp] theorem o_add:op2 .add (.int i) (.int j) = .ok (.int (i + j)):=rfl
@[simp] theorem o_sub:op2 .sub (.int i) (.int j) = .ok (.int (i - j)):=rfl
@[simp] theorem o_mul (h:smallI i || smallI j):op2 .mul (.int i) (.int j) = .ok (.int (i * j)):=by simp only [op2,h,if_true]
theorem o_addT (h:xs.length + ys.length <= lineD):op2 .add (.tup xs) (.tup ys) = .ok (.tup (xs ++ ys)):=by simp only [op2,h,if_true]
@[simp] theorem o_lt:op2 .lt (.int i) (.int j) = .ok (.bl (decide (i < j))):=rfl
@[simp] theorem o_le:op2 .le (.int i) (.int j) = .ok (.bl (decide (i <= j))):=rfl
@[simp] theorem o_gt:op2 .gt (.int i) (.int j) = .ok (.bl (decide (j < i))):=rfl
@[simp] theorem o_ge:op2 .ge (.int i) (.int j) = .ok (.bl (decide (j <= i))):=rfl
theorem o_eq (h:a.dep <= 20) (h':b.dep <= 20):op2 .eq a b = .ok (.bl (a.eqv b)):=by simp [op2,okDep,h,h']
@[simp] theorem o_eqS:op2 .eq (.str x) (.str y) = .ok (.bl (x == y)):=rfl
@[simp] theorem o_neS:op2 .ne (.str x) (.str y) = .ok (.bl (!(x == y))):=rfl
@[simp] theorem o_eqI:op2 .eq (.int i) (.int j) = .ok (.bl (i == j)):=rfl
@[simp] theorem o_neI:op2 .ne (.int i) (.int j) = .ok (.bl (!(i == j))):=rfl
@[simp] theorem o_eqB:op2 .eq (.bl p) (.bl q) = .ok (.bl (p == q)):=rfl
@[simp] theorem o_neB:op2 .ne (.bl p) (.bl q) = .ok (.bl (!(p == q))):=rfl
@[simp] theorem o_idxT:op2 .idx (.tup xs) (.int i) = Rs.ofOpt (atD xs i):=rfl
@[simp] theorem o_idxL:op2 .idx (.lst xs) (.int i) = Rs.ofOpt (atD xs i):=rfl
@[simp] theorem o_zipTT:op2 .zip (.tup xs) (.tup ys) = .ok (.lst (zipD xs ys)):=rfl
theorem o_inT (h:deps xs <= 19) (h':a.dep <= 20):op2 .isin a (.tup xs) = .ok (.bl (xs.any fun d=>d.eqv a)):=by
 have:okDep (.tup xs) = true:=by simp [okDep,D.dep,h]
 have h2:okDep a = true:=by simp [okDep,h']
 cases a <;> simp_all [op2]
theorem atN (n:Nat) (h:n < xs.length):atD xs (n:Int) = some xs[n]:=by
 have h2:(n:Int) < xs.length:=by omega
 have h3:(0:Int) <= n:=by omega
 simp [atD,ixn,h2,h3,h]
@[simp] theorem ofSome {α:Type} (a:α):Rs.ofOpt (some a) = .ok a:=rfl
end
section
variable (call:CallD) (env:Fm)
@[simp] theorem e_var (i:Nat):evD call (.var i) env = match env[i]? with
  | some (some d)=>.ok d
  | _=>.stuck:=rfl
@[simp] theorem e_con (d:D):evD call (.con d) env = .ok d:=rfl
@[simp] theorem e_un (o:O1) (a:Px):evD call (.un o a) env = (evD call a env).bind (op1 o):=rfl
@[simp] theorem e_bi (o:O2) (a b:Px):evD call (.bi o a b) env = (evD call a env).bind fun x=>(evD call b env).bind fun y=>op2 o x y:=rfl
@[simp] theorem e_and (a b:Px):evD call (.and a b) env = (evD call a env).bind fun x=>match x with
  | .bl true=>evD call b env
  | .bl false=>.ok (.bl false)
  | _=>.stuck:=rfl
@[simp] theorem e_or (a b:Px):evD call (.or a b) env = (evD call a env).bind fun x=>match x with
  | .bl true=>.ok (.bl true)
  | .bl false=>evD call b env
  | _=>.stuck:=rfl
@[simp] theorem e_ite (c a b:Px):evD call (.ite c a b) env = (evD call c env).bind fun x=>match x with
  | .bl true=>evD call a env
  | .bl false=>evD call b env
  | _=>.stuck:=rfl
@[simp] theorem e_nil:evD call .nil env = .ok (.lst []):=rfl
@[simp] theorem e_cons (a as:Px):evD call (.cons a as) env = (evD call a env).bind fun x=>(evD call as env).bind fun y=>y.asL.bind fun ds=>.ok (.lst (x :: ds)):=rfl
@[simp] theorem e_tup (as:Px):evD call (.tup as) env = (evD call as env).bind fun y=>y.asL.bind fun ds=>if ds.length <= lineD then .ok (.tup ds) else .stuck:=rfl
@[simp] theorem e_dis (as:Px):evD call (.dis as) env = (evD call as env).bind fun y=>y.asL.bind fun ds=>if ds.length <= lineD then .ok (.lst ds) else .stuck:=rfl
@[simp] theorem e_call (f:Nat) (as:Px):evD call (.call f as) env = (evD call as env).bind fun y=>y.asL.bind fun ds=>call f ds:=rfl
@[simp] theorem e_sl (a lo hi:Px):evD call (.sl a lo hi) env = (evD call a env).bind fun x=>(evD call lo env).bind fun l=>l.bound.bind fun l=>(evD call hi env).bind fun h=>h.bound.bind fun h=>match x with
  | .tup ds=>.ok (.tup (cutD ds l h))
  | .lst ds=>.ok (.lst (cutD ds l h))
  | _=>.stuck:=rfl
@[simp] theorem e_walk (a:Px):evD call (.walk a) env = (evD call a env).bind fun x=>x.walk.bind fun ds=>.ok (.lst ds):=rfl
theorem e_comp (nt:Nat) (src c e:Px):evD call (.comp nt src c e) env = (evD call src env).bind fun s=>s.asL.bind fun ds=>if ds.length <= lineD then (compL nt (evD call c) (evD call e) env ds).bind fun ys=>.ok (.lst ys) else .stuck:=rfl
end
@[simp] theorem asL_lst (ds:List D):D.asL (.lst ds) = .ok ds:=rfl
@[simp] theorem bound_non:D.bound .non = .ok none:=rfl
@[simp] theorem bound_int (i:Int):D.bound (.int i) = .ok (some i):=rfl
section
variable (call:CallD) (env:Fm)
@[simp] theorem ans_nx:answerD (.ok (.nx,env)) = .ok .non:=rfl
@[simp] theorem ans_rt (d:D):answerD (.ok (.rt d,env)) = .ok d:=rfl
@[simp] theorem ans_stuck:answerD .stuck = .stuck:=rfl
@[simp] theorem ans_ex (c:Str):answerD (.ex c) = .ex c:=rfl
@[simp] theorem x_skip:exD call .skip env = .ok (.nx,env):=rfl
@[simp] theorem x_seq (a b:Sx):exD call (.seq a b) env = (exD call a env).bind fun r=>match r with
  | (.nx,env2)=>exD call b env2
  | r=>.ok r:=rfl
@[simp] theorem x_set (m:Bool) (i:Nat) (e:Px):exD call (.set m i e) env = (evD call e env).bind fun d=>if m && !d.imm then .stuck else .ok (.nx,env.set i (some d)):=rfl
@[simp] theorem x_own (i:Nat) (e:Px):exD call (.own i e) env = (evD call e env).bind fun d=>match d with
  | .lst ds=>if !imms ds then .stuck else .ok (.nx,env.set i (some (.lst ds)))
  | _=>.stuck:=rfl
@[simp] theorem x_app (m:Bool) (i:Nat) (e:Px):exD call (.app m i e) env = match env[i]? with
  | some (some (.lst ds))=>(evD call e env).bind fun d=>if (m && !d.imm) || !decide (ds.length < lineD) then .stuck else .ok (.nx,env.set i (some (.lst (ds ++ [d]))))
  | _=>.stuck:=rfl
@[simp] theorem x_ext (m:Bool) (i:Nat) (e:Px):exD call (.ext m i e) env = match env[i]? with
  | some (some (.lst ds))=>(evD call e env).bind fun y=>y.asL.bind fun es=>if (m && !imms es) || !decide (ds.length + es.length <= lineD) then .stuck else .ok (.nx,env.set i (some (.lst (ds ++ es))))
  | _=>.stuck:=rfl
@[simp] theorem x_ownD (t:Bool) (i:Nat):exD call (.ownD t i) env = .ok (.nx,env.set i (some (.dct t false [] []))):=rfl
@[simp] theorem x_retF (i:Nat):exD call (.retF i) env = match env[i]? with
  | some (some (.dct t false ks vs))=>.ok (.rt (.dct t true ks vs),env)
  | _=>.stuck:=rfl
@[simp] theorem x_put (m t':Bool) (i:Nat) (k v:Px):exD call (.put m t' i k v) env = match env[i]? with
  | some (some (.dct t false ks vs))=>(evD call v env).bind fun y=>(evD call k env).bind fun x=>if (m && !y.imm) || !(t == t') || !keyD t x || !decide (ks.length < 1000) then .stuck else .ok (.nx,env.set i (some (.dct t false (putD x y ks vs).1 (putD x y ks vs).2)))
  | _=>.stuck:=rfl
@[simp] theorem x_raise (c:Str) (p:Px):exD call (.raise c p) env = (evD call p env).bind fun d=>if msgOk d then .ex c else .stuck:=rfl
@[simp] theorem x_tryC (i:Nat) (e:Px) (j:Nat) (cs:List Str):exD call (.tryC i e j cs) env = catchC j cs env ((evD call e env).bind fun d=>.ok (.nx,env.set i (some d))):=rfl
@[simp] theorem x_mov (i j:Nat):exD call (.mov i j) env = match env[j]? with
  | some (some (.lst ds))=>.ok (.nx,(env.set i (some (.lst ds))).set j none)
  | _=>.stuck:=rfl
theorem x_whl (n:Nat) (c:Px) (b:Sx):exD call (.whl n c b) env = whlL (evD call c) (exD call b) n env:=rfl
@[simp] theorem x_eff (e:Px):exD call (.eff e) env = (evD call e env).bind fun _=>.ok (.nx,env):=rfl
@[simp] theorem x_ret (e:Px):exD call (.ret e) env = (evD call e env).bind fun d=>.ok (.rt d,env):=rfl
@[simp] theorem x_retN:exD call .retN env = .ok (.rt .non,env):=rfl
@[simp] theorem x_ite (c:Px) (a b:Sx):exD call (.ite c a b) env = (evD call c env).bind fun x=>match x with
  | .bl true=>exD call a env
  | .bl false=>exD call b env
  | _=>.stuck:=rfl
@[simp] theorem x_loop (m:Bool) (ts:List Nat) (nt:Nat) (src:Px) (body:Sx):exD call (.loop m ts nt src body) env = (evD call src env).bind fun s=>s.asL.bind fun ds=>if m && (mutS body || !imms ds) then .stuck else forL ts nt (exD call body) ds env:=rfl
@[simp] theorem x_brk:exD call .brk env = .ok (.bk,env):=rfl
@[simp] theorem x_cnt:exD call .cnt env = .ok (.ct,env):=rfl
end
theorem deps_int (ns:List Int):deps (ns.map D.int) = 0:=by
 induction ns with
 | nil=>rfl
 | cons a t ih=>simp [deps,D.dep,ih]
theorem compL_nil (nt:Nat) (c e:Fm -> Rs D) (env:Fm):compL nt c e env [] = .ok []:=rfl
theorem compL_cons (nt:Nat) (c e:Fm -> Rs D) (env:Fm) (d:D) (ds:List D) {new:Fm} (hb:bindT nt d = .ok new) {p:Bool} (hc:c (new ++ env) = .ok (.bl p)) {y:D} (he:p = true -> e (new ++ env) = .ok y)
  {ys:List D} (hr:compL nt c e env ds = .ok ys):compL nt c e env (d :: ds) = .ok (if p then y :: ys else ys):=by
 cases p <;> simp [compL,hb,hc,hr,he]
theorem upTo_eq (n:Nat):upTo 0 n = (List.range' 0 n).map fun k:Nat=>D.int k:=by
 simp [upTo,List.range_eq_range']
end Pu
namespace Pu
open PySem
section
variable (call:CallD) (env:Fm)
theorem a_guard {c:Px} {p:Bool} (e:Px) (rest:Sx) (hc:evD call c env = .ok (.bl p)):answerD (exD call (.seq (.ite c (.ret e) .skip) rest) env) = if p then evD call e env else answerD (exD call rest env):=by
 rw [x_seq,x_ite,hc]
 cases p with
 | true=>
  simp only [Rs.bind_ok,x_ret,if_true]
  cases evD call e env <;> rfl
 | false=>simp
theorem a_set {i:Nat} {e:Px} {d:D} (rest:Sx) (hd:evD call e env = .ok d):answerD (exD call (.seq (.set false i e) rest) env) = answerD (exD call rest (env.set i (some d))):=by
 rw [x_seq,x_set,hd]
 rfl
theorem a_next {a:Sx} {env2:Fm} (rest:Sx) (h:exD call a env = .ok (.nx,env2)):answerD (exD call (.seq a rest) env) = answerD (exD call rest env2):=by
 rw [x_seq,h]
 rfl
theorem e_bi2 {o:O2} {a b:Px} {x y z:D} (ha:evD call a env = .ok x) (hb:evD call b env = .ok y) (ho:op2 o x y = .ok z):evD call (.bi o a b) env = .ok z:=by
 rw [e_bi,ha,Rs.bind_ok,hb,Rs.bind_ok,ho]
theorem e_un2 {o:O1} {a:Px} {x z:D} (ha:evD call a env = .ok x) (ho:op1 o x = .ok z):evD call (.un o a) env = .ok z:=by
 rw [e_un,ha,Rs.bind_ok,ho]
end
mutual
def D.small:D -> Bool
 | .str x=>decide (x.length <= 1000)
 | .tup ds=>decide (ds.length <= 1000) && smalls ds
 | .lst ds=>decide (ds.length <= 1000) && smalls ds
 | _=>true
def smalls:List D -> Bool
 | []=>true
 | d :: ds=>D.small d && smalls ds
end
theorem le_line {n:Nat} (h:n <= 1000):n <= lineD:=Nat.le_trans h (by decide)
theorem e_call2 (call:CallD) (env:Fm) {f:Nat} {as:Px} {ds:List D} {r:Rs D} (h:evD call as env = .ok (.lst ds)) (hf:call f ds = r):evD call (.call f as) env = r:=by
 rw [e_call,h]
 exact hf
theorem ext_run (call:CallD) (env:Fm) {i:Nat} {e:Px} {ds es:List D} (hi:env[i]? = some (some (.lst ds))) (he:evD call e env = .ok (.lst es)) (hl:ds.length + es.length <= 1000) :
  exD call (.ext false i e) env = .ok (.nx,env.set i (some (.lst (ds ++ es)))):=by
 rw [x_ext,hi]
 simp only [he,Rs.bind_ok,asL_lst,Bool.false_and,Bool.false_or,decide_eq_true (le_line hl),Bool.not_true,Bool.false_eq_true,if_false]
def twice (l:List Str):Bool:=decide ((sortS l).length < l.length)
end Pu
namespace Pu
open PySem
theorem compL_filter {α:Type} (c e:Fm -> Rs D) (env:Fm) (f:α -> D) (p:α -> Bool) (g:α -> D):∀ rs:List α,(∀ r ∈ rs,c (some (f r) :: env) = .ok (.bl (p r)) /\ (p r = true -> e (some (f r) :: env) = .ok (g r))) -> compL 0 c e env (rs.map f) = .ok ((rs.filter p).map g)
 | [],_=>rfl
 | r :: rs,h=>by
  have ih:=compL_filter c e env f p g rs fun x hx=>h x (by simp [hx])
  have h1:=h r (by simp)
  have:=compL_cons 0 c e env (f r) (rs.map f) (new:=[some (f r)]) rfl h1.1 h1.2 ih
  rw [List.map_cons,this]
  cases hp:p r <;> simp [List.filter_cons,hp]
theorem e_compF {α:Type} (call:CallD) (env:Fm) {src c e:Px} {rs:List α} (f:α -> D) (p:α -> Bool) (g:α -> D) (hs:evD call src env = .ok (.lst (rs.map f))) (hl:rs.length <= 1000)
  (h:∀ r ∈ rs,evD call c (some (f r) :: env) = .ok (.bl (p r)) /\ (p r = true -> evD call e (some (f r) :: env) = .ok (g r))):evD call (.comp 0 src c e) env = .ok (.lst ((rs.filter p).map g)):=by
 rw [e_comp,hs,Rs.bind_ok,asL_lst,Rs.bind_ok,if_pos (by rw [List.length_map]; exact le_line hl),compL_filter _ _ env f p g rs h]; rfl
mutual
theorem eqv_rf:∀ d:D,d.dep <= 900 -> d.eqv d = true
 | .non,_=>rfl
 | .bl b,_=>by simp [D.eqv]
 | .int i,_=>by simp [D.eqv]
 | .str x,_=>by simp [D.eqv]
 | .tup ds,h=>by
  simp only [D.dep] at h
  simp [D.eqv,eqvs_rf ds (by omega)]
 | .lst ds,h=>by
  simp only [D.dep] at h
  simp [D.eqv,eqvs_rf ds (by omega)]
 | .dct _ _ _ _,h=>by simp only [D.dep] at h; omega
 | .exc _,h=>by simp only [D.dep] at h; omega
 | .fn _ _,h=>by simp only [D.dep] at h; omega
theorem eqvs_rf:∀ ds:List D,deps ds <= 900 -> eqvs ds ds = true
 | [],_=>rfl
 | d :: ds,h=>by
  simp only [deps] at h
  simp [eqvs,eqv_rf d (by omega),eqvs_rf ds (by omega)]
end
section
variable (call:CallD) (env:Fm)
end
theorem range_at (n:Nat) (h:n <= 1000):op1 .range (.int (n:Int)) = .ok (.lst ((List.range' 0 n).map fun k:Nat=>D.int k)):=by
 rw [o_range n h,upTo_eq]
end Pu
namespace K92
open PySem.Str (ofString)
open PySem Pu
def b_has_rest:Sx:=(.ret (.and (.bi .gt (.un .len (.var 0)) (.con (.int 0))) (.bi .eq (.bi .idx (.bi .idx (.var 0) (.un .neg (.con (.int 1)))) (.con (.int 0))) (.con (.str (ofString "rest"))))))
def b_writes_number:Sx:=(.seq (.ite (.or (.bi .eq (.var 0) (.con (.str (ofString "")))) (.un .not (.un .truth (.un .all (.comp 0 (.walk (.var 0)) (.con (.bl true)) (.bi .isin (.var 0) (.con (.str (ofString "0123456789"))))))))) (.ret (.con (.bl false))) .skip)
  (.ret (.or (.bi .eq (.var 0) (.con (.str (ofString "0")))) (.un .not (.bi .starts (.var 0) (.con (.str (ofString "0"))))))))
def b_lets_by:Sx:=(.seq (.ite (.bi .eq (.bi .idx (.var 0) (.con (.int 0))) (.con (.str (ofString "word")))) (.ret (.bi .eq (.var 1) (.bi .idx (.var 0) (.con (.int 1))))) .skip)
  (.seq (.ite (.bi .eq (.bi .idx (.var 0) (.con (.int 0))) (.con (.str (ofString "one")))) (.ret (.bi .isin (.var 1) (.bi .idx (.var 0) (.con (.int 2))))) .skip)
  (.seq (.ite (.bi .eq (.bi .idx (.var 0) (.con (.int 0))) (.con (.str (ofString "number")))) (.ret (.call 1 (.cons (.var 1) .nil))) .skip)
  (.ret (.con (.bl true))))))
def b_has_fitting_length:Sx:=(.seq (.ite (.un .truth (.call 0 (.cons (.var 0) .nil))) (.ret (.bi .ge (.var 1) (.bi .sub (.un .len (.var 0)) (.con (.int 1))))) .skip)
  (.ret (.bi .eq (.var 1) (.un .len (.var 0)))))
def b_does_match:Sx:=(.seq (.ite (.un .not (.un .truth (.call 3 (.cons (.var 0) (.cons (.un .len (.var 1)) .nil))))) (.ret (.con (.bl false))) .skip)
  (.ret (.un .all (.comp 2 (.bi .zip (.var 0) (.var 1)) (.con (.bl true)) (.call 2 (.cons (.var 0) (.cons (.var 1) .nil)))))))
def b_number_of:Sx:=(.seq (.loop false [2,3] 2 (.un .enum (.var 0)) (.ite (.bi .eq (.bi .idx (.var 3) (.con (.int 0))) (.var 1)) (.ret (.var 2)) .skip))
  (.raise (ofString "NoRow") (.cons (.var 1) .nil)))
def b_all_rows:Sx:=(.ret (.comp 0 (.walk (.var 0)) (.un .truth (.call 4 (.cons (.bi .idx (.var 0) (.con (.int 1))) (.cons (.var 2) .nil)))) (.bi .idx (.var 0) (.con (.int 0)))))
def b_first:Sx:=(.seq (.set false 2 (.call 6 (.cons (.var 0) (.cons (.var 1) .nil))))
  (.ret (.ite (.bi .gt (.un .len (.var 2)) (.con (.int 0))) (.bi .idx (.var 2) (.con (.int 0))) (.con .non))))
def b_rank:Sx:=(.ret (.un .tuple (.comp 0 (.walk (.bi .idx (.var 0) (.con (.int 1)))) (.con (.bl true)) (.bi .indexT (.con (.tup [(.str (ofString "word")),(.str (ofString "one")),(.str (ofString "number")),(.str (ofString "any")),(.str (ofString "rest"))])) (.bi .idx (.var 0) (.con (.int 0)))))))
def b_by_ranks:Sx:=(.ret (.un .tuple (.sortK 8 (.un .rows (.var 0)))))
def b_best:Sx:=(.ret (.call 7 (.cons (.call 9 (.cons (.var 0) .nil)) (.cons (.var 1) .nil))))
def b_part_at:Sx:=(.seq (.ite (.bi .lt (.var 1) (.un .len (.var 0))) (.ret (.bi .idx (.var 0) (.var 1))) .skip)
  (.ret (.ite (.un .truth (.call 0 (.cons (.var 0) .nil))) (.bi .idx (.var 0) (.un .neg (.con (.int 1)))) (.con .non))))
def b_parts_at:Sx:=(.ret (.comp 0 (.walk (.var 0)) (.con (.bl true)) (.call 11 (.cons (.var 0) (.cons (.var 2) .nil)))))
def b_can_pass:Sx:=(.ret (.and (.un .notN (.var 0)) (.call 2 (.cons (.var 0) (.cons (.var 1) .nil)))))
def b_named_words:Sx:=(.seq (.ite (.un .isN (.var 0)) (.ret (.con .non)) .skip)
  (.seq (.ite (.bi .eq (.bi .idx (.var 0) (.con (.int 0))) (.con (.str (ofString "word")))) (.ret (.tup (.cons (.bi .idx (.var 0) (.con (.int 1))) .nil))) .skip)
  (.ret (.ite (.bi .eq (.bi .idx (.var 0) (.con (.int 0))) (.con (.str (ofString "one")))) (.bi .idx (.var 0) (.con (.int 2))) (.con .non)))))
def b_all_named:Sx:=(.seq (.own 1 (.dis .nil))
  (.seq (.loop false [2] 0 (.walk (.var 0)) (.seq (.set false 3 (.call 14 (.cons (.var 2) .nil)))
  (.ite (.un .notN (.var 3)) (.ext false 1 (.walk (.un .rows (.var 3)))) .skip)))
  (.ret (.var 1))))
def b_new_word:Sx:=(.seq (.set false 2 (.con (.int 0)))
  (.seq (.whl 64 (.bi .isin (.un .join (.cons (.var 0) (.cons (.var 2) .nil))) (.var 1)) (.set true 2 (.bi .addI (.var 2) (.con (.int 1)))))
  (.ret (.un .join (.cons (.var 0) (.cons (.var 2) .nil))))))
def b_words_to_try:Sx:=(.seq (.ite (.bi .isin (.con .non) (.var 0)) (.ret (.dis .nil)) .skip)
  (.seq (.loop false [2] 0 (.walk (.var 0)) (.seq (.set false 3 (.call 14 (.cons (.var 2) .nil)))
  (.ite (.un .notN (.var 3)) (.ret (.comp 0 (.walk (.var 3)) (.un .truth (.un .all (.comp 0 (.walk (.var 1)) (.con (.bl true)) (.call 2 (.cons (.var 0) (.cons (.var 1) .nil)))))) (.var 0))) .skip)))
  (.seq (.set false 4 (.ite (.bi .isin (.con (.str (ofString "number"))) (.comp 0 (.walk (.var 0)) (.con (.bl true)) (.bi .idx (.var 0) (.con (.int 0))))) (.con (.str (ofString ""))) (.con (.str (ofString "x")))))
  (.ret (.dis (.cons (.call 16 (.cons (.var 4) (.cons (.call 15 (.cons (.var 1) .nil)) .nil))) .nil))))))
def b_takes_all_behind:Sx:=(.ret (.and (.call 0 (.cons (.var 0) .nil)) (.call 3 (.cons (.var 0) (.cons (.var 1) .nil)))))
def b_one_word_on:Sx:=(.seq (.set false 4 (.comp 0 (.walk (.var 2)) (.con (.bl true)) (.call 18 (.cons (.var 0) (.cons (.bi .add (.var 4) (.con (.int 1))) .nil)))))
  (.seq (.set false 5 (.call 12 (.cons (.var 2) (.cons (.var 3) .nil))))
  (.seq (.ownD true 6)
  (.seq (.loop false [7] 0 (.walk (.call 17 (.cons (.call 12 (.cons (.var 1) (.cons (.var 3) .nil))) (.cons (.var 5) .nil)))) (.seq (.set false 8 (.comp 0 (.walk (.var 5)) (.con (.bl true)) (.call 13 (.cons (.var 0) (.cons (.var 8) .nil)))))
  (.loop false [9,10] 2 (.un .items (.var 0)) (.seq (.set false 11 (.un .tuple (.comp 0 (.walk (.var 9)) (.un .truth (.bi .idx (.var 9) (.var 0))) (.var 0))))
  (.ite (.un .not (.un .truth (.un .any (.comp 0 (.walk (.var 11)) (.con (.bl true)) (.bi .idx (.var 5) (.var 0)))))) (.put false true 6 (.var 11) (.bi .add (.var 10) (.tup (.cons (.var 7) .nil)))) .skip)))))
  (.retF 6)))))
def b_ended:Sx:=(.seq (.set false 3 (.comp 0 (.walk (.var 1)) (.con (.bl true)) (.call 3 (.cons (.var 0) (.cons (.var 3) .nil)))))
  (.seq (.loop false [4,5] 2 (.un .items (.var 0)) (.ite (.un .not (.un .truth (.un .any (.comp 0 (.walk (.var 4)) (.con (.bl true)) (.bi .idx (.var 4) (.var 0)))))) (.ret (.var 5)) .skip))
  (.ret (.con .non))))
def b_shortest:Sx:=(.seq (.set false 2 (.dsp true (.cons (.un .rngT (.un .len (.var 1))) .nil) (.cons (.tup .nil) .nil)))
  (.seq (.set false 3 (.con (.int 0)))
  (.seq (.whl 64 (.bi .gt (.un .dLen (.var 2)) (.con (.int 0))) (.seq (.ite (.un .truth (.un .all (.comp 0 (.walk (.var 0)) (.con (.bl true)) (.call 3 (.cons (.var 0) (.cons (.var 4) .nil)))))) (.seq (.set false 4 (.call 20 (.cons (.var 2) (.cons (.var 1) (.cons (.var 3) .nil)))))
  (.ite (.un .notN (.var 4)) (.ret (.var 4)) .skip)) .skip)
  (.seq (.set false 2 (.call 19 (.cons (.var 2) (.cons (.var 0) (.cons (.var 1) (.cons (.var 3) .nil))))))
  (.set true 3 (.bi .addI (.var 3) (.con (.int 1)))))))
  (.ret (.con .non)))))
def b_common:Sx:=(.ret (.call 21 (.cons (.dis (.cons (.var 0) (.cons (.var 1) .nil))) (.cons (.dis .nil) .nil))))
def b_uncovered:Sx:=(.ret (.call 21 (.cons (.dis (.cons (.var 0) .nil)) (.cons (.var 1) .nil))))
def b_patterns_of:Sx:=(.ret (.comp 0 (.walk (.var 0)) (.con (.bl true)) (.bi .idx (.var 0) (.con (.int 1)))))
def b_reaching:Sx:=(.seq (.set false 2 (.call 5 (.cons (.var 0) (.cons (.var 1) .nil))))
  (.ret (.call 23 (.cons (.bi .idx (.bi .idx (.var 0) (.var 2)) (.con (.int 1))) (.cons (.call 24 (.cons (.sl (.var 0) (.con .non) (.un .asI (.var 2))) .nil)) .nil)))))
def b_unreached:Sx:=(.ret (.comp 0 (.walk (.var 0)) (.un .isN (.call 25 (.cons (.var 1) (.cons (.bi .idx (.var 0) (.con (.int 0))) .nil)))) (.bi .idx (.var 0) (.con (.int 0)))))
def b_without_unreached:Sx:=(.seq (.set false 1 (.call 26 (.cons (.var 0) .nil)))
  (.ret (.un .tuple (.comp 0 (.walk (.var 0)) (.bi .notin (.bi .idx (.var 0) (.con (.int 0))) (.var 2)) (.var 0)))))
def b_law_cell:Sx:=(.seq (.ite (.bi .lt (.var 1) (.un .len (.var 0))) (.ret (.bi .idx (.var 0) (.var 1))) .skip)
  (.seq (.ite (.bi .eq (.var 0) (.dis .nil)) (.ret (.con (.int 0))) .skip)
  (.ret (.bi .add (.bi .mul (.bi .idx (.var 0) (.bi .mod (.var 1) (.un .len (.var 0)))) (.con (.int 31))) (.var 1)))))
def b_law_pick:Sx:=(.seq (.set false 3 (.bi .mod (.bi .mul (.bi .add (.call 28 (.cons (.var 0) (.cons (.var 1) .nil))) (.bi .mul (.con (.int 6151)) (.bi .add (.var 1) (.con (.int 1))))) (.con (.int 40692))) (.con (.int 2147483399))))
  (.ret (.bi .mod (.bi .mod (.bi .add (.bi .mul (.var 3) (.var 3)) (.bi .fdiv (.var 3) (.con (.int 31)))) (.con (.int 2147483629))) (.var 2))))
def b_law:Sx:=(.seq (.set false 1 (.bi .idx (.dis (.cons (.con (.str (ofString "7"))) (.cons (.con (.str (ofString "0"))) (.cons (.con (.str (ofString "55"))) .nil)))) (.call 29 (.cons (.var 0) (.cons (.con (.int 0)) (.cons (.con (.int 3)) .nil))))))
  (.seq (.own 2 (.dis (.cons (.tup (.cons (.con (.str (ofString "n"))) (.cons (.tup (.cons (.tup (.cons (.con (.str (ofString "number"))) (.cons (.con (.str (ofString "x"))) .nil))) .nil)) .nil))) (.cons (.tup (.cons (.con (.str (ofString "o"))) (.cons (.tup (.cons (.tup (.cons (.con (.str (ofString "one"))) (.cons (.con (.str (ofString "x"))) (.cons (.tup (.cons (.var 1) .nil)) .nil)))) .nil)) .nil))) (.cons (.tup (.cons (.con (.str (ofString "y"))) (.cons (.tup (.cons (.tup (.cons (.con (.str (ofString "any"))) (.cons (.con (.str (ofString "x"))) .nil))) .nil)) .nil))) .nil)))))
  (.seq (.ext false 2 (.walk (.un .rows (.dis (.cons (.tup (.cons (.con (.str (ofString "r"))) (.cons (.tup (.cons (.tup (.cons (.con (.str (ofString "rest"))) (.cons (.con (.str (ofString "x"))) .nil))) .nil)) .nil))) .nil)))))
  (.seq (.set false 3 (.call 29 (.cons (.var 0) (.cons (.con (.int 1)) (.cons (.con (.int 4)) .nil)))))
  (.seq (.set true 4 (.un .tuple (.bi .add (.sl (.var 2) (.un .asI (.var 3)) (.con .non)) (.sl (.var 2) (.con .non) (.un .asI (.var 3))))))
  (.seq (.ite (.bi .ne (.comp 0 (.walk (.tup (.cons (.tup (.cons (.var 1) .nil)) (.cons (.tup (.cons (.con (.str (ofString "8"))) .nil)) (.cons (.tup (.cons (.con (.str (ofString "a"))) .nil)) (.cons (.tup .nil) .nil)))))) (.con (.bl true)) (.call 10 (.cons (.var 5) (.cons (.var 0) .nil)))) (.dis (.cons (.con (.str (ofString "o"))) (.cons (.con (.str (ofString "n"))) (.cons (.con (.str (ofString "y"))) (.cons (.con (.str (ofString "r"))) .nil)))))) (.ret (.con (.bl false))) .skip)
  (.seq (.ite (.or (.bi .ne (.comp 2 (.walk (.un .rows (.call 9 (.cons (.var 4) .nil)))) (.con (.bl true)) (.var 0)) (.dis (.cons (.con (.str (ofString "o"))) (.cons (.con (.str (ofString "n"))) (.cons (.con (.str (ofString "y"))) (.cons (.con (.str (ofString "r"))) .nil)))))) (.bi .ne (.call 7 (.cons (.var 4) (.cons (.tup (.cons (.var 1) .nil)) .nil))) (.bi .idx (.bi .idx (.var 4) (.con (.int 0))) (.con (.int 0))))) (.ret (.con (.bl false))) .skip)
  (.seq (.set false 5 (.un .tuple (.comp 0 (.un .range (.call 29 (.cons (.var 0) (.cons (.con (.int 2)) (.cons (.con (.int 4)) .nil))))) (.con (.bl true)) (.tup (.cons (.con (.str (ofString "word"))) (.cons (.bi .idx (.con (.str (ofString "ab"))) (.bi .mod (.var 0) (.con (.int 2)))) .nil))))))
  (.seq (.loop false [6] 0 (.un .range (.con (.int 3))) (.seq (.set false 7 (.bi .add (.var 5) (.un .tuple (.comp 0 (.un .range (.var 6)) (.con (.bl true)) (.tup (.cons (.con (.str (ofString "any"))) (.cons (.bi .idx (.con (.str (ofString "xyz"))) (.var 0)) .nil)))))))
  (.seq (.set false 8 (.call 22 (.cons (.bi .add (.var 5) (.tup (.cons (.tup (.cons (.con (.str (ofString "rest"))) (.cons (.con (.str (ofString "r"))) .nil))) .nil))) (.cons (.var 7) .nil))))
  (.seq (.ite (.or (.un .isN (.var 8)) (.or (.bi .ne (.un .len (.var 8)) (.un .len (.var 7))) (.un .not (.un .truth (.call 4 (.cons (.var 7) (.cons (.var 8) .nil))))))) (.ret (.con (.bl false))) .skip)
  (.ite (.and (.bi .gt (.var 6) (.con (.int 0))) (.un .notN (.call 22 (.cons (.var 5) (.cons (.var 7) .nil))))) (.ret (.con (.bl false))) .skip)))))
  (.seq (.set false 9 (.tup (.cons (.tup (.cons (.con (.str (ofString "p"))) (.cons (.bi .add (.var 5) (.tup (.cons (.tup (.cons (.con (.str (ofString "rest"))) (.cons (.con (.str (ofString "r"))) .nil))) .nil))) .nil))) (.cons (.tup (.cons (.con (.str (ofString "q"))) (.cons (.bi .add (.var 5) (.tup (.cons (.tup (.cons (.con (.str (ofString "any"))) (.cons (.con (.str (ofString "x"))) .nil))) .nil))) .nil))) (.cons (.tup (.cons (.con (.str (ofString "t"))) (.cons (.tup (.cons (.tup (.cons (.con (.str (ofString "word"))) (.cons (.con (.str (ofString "c"))) .nil))) (.cons (.tup (.cons (.con (.str (ofString "rest"))) (.cons (.con (.str (ofString "r"))) .nil))) .nil))) .nil))) .nil)))))
  (.seq (.set false 10 (.bi .add (.dis (.cons (.con (.str (ofString "q"))) .nil)) (.ite (.bi .eq (.var 5) (.tup .nil)) (.dis (.cons (.con (.str (ofString "t"))) .nil)) (.dis .nil))))
  (.seq (.set false 11 (.comp 0 (.walk (.var 9)) (.bi .notin (.bi .idx (.var 0) (.con (.int 0))) (.var 11)) (.var 0)))
  (.seq (.ite (.or (.bi .ne (.call 26 (.cons (.var 9) .nil)) (.var 10)) (.bi .ne (.call 27 (.cons (.var 9) .nil)) (.un .tuple (.var 11)))) (.ret (.con (.bl false))) .skip)
  (.seq (.set false 12 (.tup (.cons (.tup (.cons (.con (.str (ofString "q"))) (.cons (.bi .add (.var 5) (.tup (.cons (.tup (.cons (.con (.str (ofString "any"))) (.cons (.con (.str (ofString "x"))) .nil))) .nil))) .nil))) (.cons (.tup (.cons (.con (.str (ofString "p"))) (.cons (.bi .add (.var 5) (.tup (.cons (.tup (.cons (.con (.str (ofString "rest"))) (.cons (.con (.str (ofString "r"))) .nil))) .nil))) .nil))) .nil))))
  (.seq (.ite (.or (.bi .ne (.call 26 (.cons (.var 12) .nil)) (.dis .nil)) (.bi .ne (.un .len (.call 25 (.cons (.var 12) (.cons (.con (.str (ofString "q"))) .nil)))) (.bi .add (.un .len (.var 5)) (.con (.int 1))))) (.ret (.con (.bl false))) .skip)
  (.ret (.bi .eq (.un .len (.call 25 (.cons (.var 12) (.cons (.con (.str (ofString "p"))) .nil)))) (.un .len (.var 5)))))))))))))))))))
def defs:List DefD:=[⟨1,1,b_has_rest⟩,⟨1,1,b_writes_number⟩,⟨2,2,b_lets_by⟩,⟨2,2,b_has_fitting_length⟩,⟨2,2,b_does_match⟩,⟨4,2,b_number_of⟩,⟨2,2,b_all_rows⟩,⟨3,2,b_first⟩,⟨1,1,b_rank⟩,⟨1,1,b_by_ranks⟩,⟨2,2,b_best⟩,⟨2,2,b_part_at⟩,⟨2,2,b_parts_at⟩,⟨2,2,b_can_pass⟩,⟨1,1,b_named_words⟩,⟨4,1,b_all_named⟩,⟨3,2,b_new_word⟩,⟨5,2,b_words_to_try⟩,⟨2,2,b_takes_all_behind⟩,⟨12,4,b_one_word_on⟩,⟨6,3,b_ended⟩,⟨5,2,b_shortest⟩,⟨2,2,b_common⟩,⟨2,2,b_uncovered⟩,⟨1,1,b_patterns_of⟩,⟨3,2,b_reaching⟩,⟨1,1,b_unreached⟩,⟨2,1,b_without_unreached⟩,⟨2,2,b_law_cell⟩,⟨4,3,b_law_pick⟩,⟨13,1,b_law⟩]
theorem r_has_rest (call:Nat) (x0:D):runD defs (call + 1) 0 [x0] = answerD (exD (runD defs call) b_has_rest [some x0]):=rfl
theorem r_writes_number (call:Nat) (x0:D):runD defs (call + 1) 1 [x0] = answerD (exD (runD defs call) b_writes_number [some x0]):=rfl
theorem r_lets_by (call:Nat) (x0 x1:D):runD defs (call + 1) 2 [x0,x1] = answerD (exD (runD defs call) b_lets_by [some x0,some x1]):=rfl
theorem r_has_fitting_length (call:Nat) (x0 x1:D):runD defs (call + 1) 3 [x0,x1] = answerD (exD (runD defs call) b_has_fitting_length [some x0,some x1]):=rfl
theorem r_does_match (call:Nat) (x0 x1:D):runD defs (call + 1) 4 [x0,x1] = answerD (exD (runD defs call) b_does_match [some x0,some x1]):=rfl
theorem r_number_of (call:Nat) (x0 x1:D):runD defs (call + 1) 5 [x0,x1] = answerD (exD (runD defs call) b_number_of [some x0,some x1,none,none]):=rfl
theorem r_all_rows (call:Nat) (x0 x1:D):runD defs (call + 1) 6 [x0,x1] = answerD (exD (runD defs call) b_all_rows [some x0,some x1]):=rfl
theorem r_first (call:Nat) (x0 x1:D):runD defs (call + 1) 7 [x0,x1] = answerD (exD (runD defs call) b_first [some x0,some x1,none]):=rfl
theorem r_rank (call:Nat) (x0:D):runD defs (call + 1) 8 [x0] = answerD (exD (runD defs call) b_rank [some x0]):=rfl
theorem r_by_ranks (call:Nat) (x0:D):runD defs (call + 1) 9 [x0] = answerD (exD (runD defs call) b_by_ranks [some x0]):=rfl
theorem r_best (call:Nat) (x0 x1:D):runD defs (call + 1) 10 [x0,x1] = answerD (exD (runD defs call) b_best [some x0,some x1]):=rfl
theorem r_part_at (call:Nat) (x0 x1:D):runD defs (call + 1) 11 [x0,x1] = answerD (exD (runD defs call) b_part_at [some x0,some x1]):=rfl
theorem r_parts_at (call:Nat) (x0 x1:D):runD defs (call + 1) 12 [x0,x1] = answerD (exD (runD defs call) b_parts_at [some x0,some x1]):=rfl
theorem r_can_pass (call:Nat) (x0 x1:D):runD defs (call + 1) 13 [x0,x1] = answerD (exD (runD defs call) b_can_pass [some x0,some x1]):=rfl
theorem r_named_words (call:Nat) (x0:D):runD defs (call + 1) 14 [x0] = answerD (exD (runD defs call) b_named_words [some x0]):=rfl
theorem r_all_named (call:Nat) (x0:D):runD defs (call + 1) 15 [x0] = answerD (exD (runD defs call) b_all_named [some x0,none,none,none]):=rfl
theorem r_new_word (call:Nat) (x0 x1:D):runD defs (call + 1) 16 [x0,x1] = answerD (exD (runD defs call) b_new_word [some x0,some x1,none]):=rfl
theorem r_words_to_try (call:Nat) (x0 x1:D):runD defs (call + 1) 17 [x0,x1] = answerD (exD (runD defs call) b_words_to_try [some x0,some x1,none,none,none]):=rfl
theorem r_takes_all_behind (call:Nat) (x0 x1:D):runD defs (call + 1) 18 [x0,x1] = answerD (exD (runD defs call) b_takes_all_behind [some x0,some x1]):=rfl
theorem r_one_word_on (call:Nat) (x0 x1 x2 x3:D):runD defs (call + 1) 19 [x0,x1,x2,x3] = answerD (exD (runD defs call) b_one_word_on [some x0,some x1,some x2,some x3,none,none,none,none,none,none,none,none]):=rfl
theorem r_ended (call:Nat) (x0 x1 x2:D):runD defs (call + 1) 20 [x0,x1,x2] = answerD (exD (runD defs call) b_ended [some x0,some x1,some x2,none,none,none]):=rfl
theorem r_shortest (call:Nat) (x0 x1:D):runD defs (call + 1) 21 [x0,x1] = answerD (exD (runD defs call) b_shortest [some x0,some x1,none,none,none]):=rfl
theorem r_common (call:Nat) (x0 x1:D):runD defs (call + 1) 22 [x0,x1] = answerD (exD (runD defs call) b_common [some x0,some x1]):=rfl
theorem r_uncovered (call:Nat) (x0 x1:D):runD defs (call + 1) 23 [x0,x1] = answerD (exD (runD defs call) b_uncovered [some x0,some x1]):=rfl
theorem r_patterns_of (call:Nat) (x0:D):runD defs (call + 1) 24 [x0] = answerD (exD (runD defs call) b_patterns_of [some x0]):=rfl
theorem r_reaching (call:Nat) (x0 x1:D):runD defs (call + 1) 25 [x0,x1] = answerD (exD (runD defs call) b_reaching [some x0,some x1,none]):=rfl
theorem r_unreached (call:Nat) (x0:D):runD defs (call + 1) 26 [x0] = answerD (exD (runD defs call) b_unreached [some x0]):=rfl
theorem r_without_unreached (call:Nat) (x0:D):runD defs (call + 1) 27 [x0] = answerD (exD (runD defs call) b_without_unreached [some x0,none]):=rfl
theorem r_law_cell (call:Nat) (x0 x1:D):runD defs (call + 1) 28 [x0,x1] = answerD (exD (runD defs call) b_law_cell [some x0,some x1]):=rfl
theorem r_law_pick (call:Nat) (x0 x1 x2:D):runD defs (call + 1) 29 [x0,x1,x2] = answerD (exD (runD defs call) b_law_pick [some x0,some x1,some x2,none]):=rfl
theorem r_law (call:Nat) (x0:D):runD defs (call + 1) 30 [x0] = answerD (exD (runD defs call) b_law [some x0,none,none,none,none,none,none,none,none,none,none,none,none]):=rfl
end K92
namespace K92
open PySem.Str (ofString)
open PySem Pu
abbrev S (x:String):Str:=ofString x
abbrev ofN (ns:List Int):D:=.lst (ns.map .int)
theorem cell (ns:List Int) (k:Int) (hk:0 <= k):∃ v:Int,∀ c,runD defs (c + 1) 28 [ofN ns,.int k] = .ok (.int v):=by
 obtain ⟨k,rfl⟩:=Int.eq_ofNat_of_zero_le hk
 by_cases h:k < ns.length
 ·refine ⟨ns[k],fun c=>?_⟩
  have hi:atD (ns.map D.int) k = some (.int ns[k]):=by
   have:=atN (ns.map D.int) k (by simpa using h)
   rw [this]
   simp
  simp [r_law_cell,b_law_cell,h,hi]
 ·have hl:¬ ((k:Int) < (ns.length:Int)):=by omega
  by_cases h0:ns = []
  ·subst h0
   have hl:¬ ((k:Int) < 0):=by omega
   have e:op2 .eq (ofN []) (.lst []) = .ok (.bl true):=rfl
   refine ⟨0,fun c=>?_⟩
   simp [r_law_cell,b_law_cell,hl,e,lineD]
  ·have hp:0 < ns.length:=by
    cases ns with
    | nil=>exact absurd rfl h0
    | cons a t=>simp
   have hm:k % ns.length < ns.length:=Nat.mod_lt _ hp
   refine ⟨ns[k % ns.length] * 31 + k,fun c=>?_⟩
   have hq:((k:Int) % (ns.length:Int)) = ((k % ns.length:Nat):Int):=by omega
   have hi:atD (ns.map D.int) ((k:Int) % (ns.length:Int)) = some (.int ns[k % ns.length]):=by
    rw [hq]
    have:=atN (ns.map D.int) (k % ns.length) (by simpa using hm)
    rw [this]
    simp
   have he:D.eqv (.lst (ns.map D.int)) (.lst []) = false:=by
    cases ns with
    | nil=>exact absurd rfl h0
    | cons a t=>simp [D.eqv,eqvs]
   have he2:op2 .eq (.lst (ns.map D.int)) (.lst []) = .ok (.bl false):=by
    rw [o_eq _ _ (by simp [D.dep,deps_int]) (by simp [D.dep,deps]),he]
   have hmod:op2 .mod (.int k) (.int ns.length) = .ok (.int ((k:Int) % (ns.length:Int))):=by
    have:0 < (ns.length:Int):=by omega
    simp [op2,hp]
   simp [r_law_cell,b_law_cell,he2,lineD,hl,hi,hmod,smallI]
theorem pick (ns:List Int) (k m:Int) (hk:0 <= k) (hm:0 < m):∃ r:Nat,(r:Int) < m /\ ∀ c,runD defs (c + 2) 29 [ofN ns,.int k,.int m] = .ok (.int r):=by
 obtain ⟨v,hv⟩:=cell ns k hk
 let d:Int:=(v + 6151 * (k + 1)) * 40692 % 2147483399
 have d0:0 <= d:=Int.emod_nonneg _ (by decide)
 have d1:d < 2147483399:=Int.emod_lt_of_pos _ (by decide)
 have r0:0 <= (d * d + d / 31) % 2147483629 % m:=Int.emod_nonneg _ (by omega)
 have r1:(d * d + d / 31) % 2147483629 % m < m:=Int.emod_lt_of_pos _ (by omega)
 refine ⟨((d * d + d / 31) % 2147483629 % m).toNat,by omega,fun c=>?_⟩
 have hs:smallI d = true:=by
  simp only [smallI,Bool.and_eq_true,decide_eq_true_eq]
  omega
 rw [Int.toNat_of_nonneg r0]
 have hc:(v + 6151 * (k + 1)) * 40692 % 2147483399 = d:=rfl
 have h6:smallI 6151 = true:=by decide
 have h4:smallI 40692 = true:=by decide
 have q1:∀ i:Int,op2 .mod (.int i) (.int 2147483399) = .ok (.int (i % 2147483399)):=fun i=>by simp [op2]
 have q2:∀ i:Int,op2 .mod (.int i) (.int 2147483629) = .ok (.int (i % 2147483629)):=fun i=>by simp [op2]
 have q3:∀ i:Int,op2 .mod (.int i) (.int m) = .ok (.int (i % m)):=fun i=>by simp [op2,hm]
 have q4:∀ i:Int,op2 .fdiv (.int i) (.int 31) = .ok (.int (i / 31)):=fun i=>by simp [op2]
 simp [r_law_pick,b_law_pick,hv,h6,h4,hc,hs,q1,q2,q3,q4]
theorem ofString_inj (a b:String):ofString a = ofString b ↔ a = b:=by
 constructor
 ·intro h
  rw [Str.ofString_eq_toList,Str.ofString_eq_toList] at h
  have h2:=congrArg (fun s:Str=>s.cps.toList) h
  simp only [List.toList_toArray] at h2
  have h3:a.toList = b.toList:=by
   refine List.map_inj_right (f:=Char.toNat) ?_ |>.mp h2
   intro x y hxy
   exact Char.ext (UInt32.toNat_inj.mp hxy)
  exact String.toList_inj.mp h3
 ·rintro rfl
  rfl
@[simp] theorem sb (a b:String):(ofString a == ofString b) = decide (a = b):=by
 by_cases h:a = b
 ·subst h
  simp
 ·have:ofString a ≠ ofString b:=fun e=>h ((ofString_inj a b).mp e)
  simp [h,this]
end K92
namespace K92
open PySem.Str (ofString)
open PySem Pu
def p0:Sx:=(.set false 1 (.bi .idx (.dis (.cons (.con (.str (S "7"))) (.cons (.con (.str (S "0"))) (.cons (.con (.str (S "55"))) .nil)))) (.call 29 (.cons (.var 0) (.cons (.con (.int 0)) (.cons (.con (.int 3)) .nil))))))
def p1:Sx:=(.own 2 (.dis (.cons (.tup (.cons (.con (.str (S "n"))) (.cons (.tup (.cons (.tup (.cons (.con (.str (S "number"))) (.cons (.con (.str (S "x"))) .nil))) .nil)) .nil))) (.cons (.tup (.cons (.con (.str (S "o"))) (.cons (.tup (.cons (.tup (.cons (.con (.str (S "one"))) (.cons (.con (.str (S "x"))) (.cons (.tup (.cons (.var 1) .nil)) .nil)))) .nil)) .nil))) (.cons (.tup (.cons (.con (.str (S "y"))) (.cons (.tup (.cons (.tup (.cons (.con (.str (S "any"))) (.cons (.con (.str (S "x"))) .nil))) .nil)) .nil))) .nil)))))
def p2:Sx:=(.ext false 2 (.walk (.un .rows (.dis (.cons (.tup (.cons (.con (.str (S "r"))) (.cons (.tup (.cons (.tup (.cons (.con (.str (S "rest"))) (.cons (.con (.str (S "x"))) .nil))) .nil)) .nil))) .nil)))))
def p3:Sx:=(.set false 3 (.call 29 (.cons (.var 0) (.cons (.con (.int 1)) (.cons (.con (.int 4)) .nil)))))
def p4:Sx:=(.set true 4 (.un .tuple (.bi .add (.sl (.var 2) (.un .asI (.var 3)) (.con .non)) (.sl (.var 2) (.con .non) (.un .asI (.var 3))))))
def c5:Px:=(.bi .ne (.comp 0 (.walk (.tup (.cons (.tup (.cons (.var 1) .nil)) (.cons (.tup (.cons (.con (.str (S "8"))) .nil)) (.cons (.tup (.cons (.con (.str (S "a"))) .nil)) (.cons (.tup .nil) .nil)))))) (.con (.bl true)) (.call 10 (.cons (.var 5) (.cons (.var 0) .nil)))) (.dis (.cons (.con (.str (S "o"))) (.cons (.con (.str (S "n"))) (.cons (.con (.str (S "y"))) (.cons (.con (.str (S "r"))) .nil))))))
def p5:Sx:=(.ite c5 (.ret (.con (.bl false))) .skip)
def c6:Px:=(.or (.bi .ne (.comp 2 (.walk (.un .rows (.call 9 (.cons (.var 4) .nil)))) (.con (.bl true)) (.var 0)) (.dis (.cons (.con (.str (S "o"))) (.cons (.con (.str (S "n"))) (.cons (.con (.str (S "y"))) (.cons (.con (.str (S "r"))) .nil)))))) (.bi .ne (.call 7 (.cons (.var 4) (.cons (.tup (.cons (.var 1) .nil)) .nil))) (.bi .idx (.bi .idx (.var 4) (.con (.int 0))) (.con (.int 0)))))
def p6:Sx:=(.ite c6 (.ret (.con (.bl false))) .skip)
def p7:Sx:=(.set false 5 (.un .tuple (.comp 0 (.un .range (.call 29 (.cons (.var 0) (.cons (.con (.int 2)) (.cons (.con (.int 4)) .nil))))) (.con (.bl true)) (.tup (.cons (.con (.str (S "word"))) (.cons (.bi .idx (.con (.str (S "ab"))) (.bi .mod (.var 0) (.con (.int 2)))) .nil))))))
def p8:Sx:=(.loop false [6] 0 (.un .range (.con (.int 3))) (.seq (.set false 7 (.bi .add (.var 5) (.un .tuple (.comp 0 (.un .range (.var 6)) (.con (.bl true)) (.tup (.cons (.con (.str (S "any"))) (.cons (.bi .idx (.con (.str (S "xyz"))) (.var 0)) .nil))))))) (.seq (.set false 8 (.call 22 (.cons (.bi .add (.var 5) (.tup (.cons (.tup (.cons (.con (.str (S "rest"))) (.cons (.con (.str (S "r"))) .nil))) .nil))) (.cons (.var 7) .nil)))) (.seq (.ite (.or (.un .isN (.var 8)) (.or (.bi .ne (.un .len (.var 8)) (.un .len (.var 7))) (.un .not (.un .truth (.call 4 (.cons (.var 7) (.cons (.var 8) .nil))))))) (.ret (.con (.bl false))) .skip) (.ite (.and (.bi .gt (.var 6) (.con (.int 0))) (.un .notN (.call 22 (.cons (.var 5) (.cons (.var 7) .nil))))) (.ret (.con (.bl false))) .skip)))))
def p9:Sx:=(.set false 9 (.tup (.cons (.tup (.cons (.con (.str (S "p"))) (.cons (.bi .add (.var 5) (.tup (.cons (.tup (.cons (.con (.str (S "rest"))) (.cons (.con (.str (S "r"))) .nil))) .nil))) .nil))) (.cons (.tup (.cons (.con (.str (S "q"))) (.cons (.bi .add (.var 5) (.tup (.cons (.tup (.cons (.con (.str (S "any"))) (.cons (.con (.str (S "x"))) .nil))) .nil))) .nil))) (.cons (.tup (.cons (.con (.str (S "t"))) (.cons (.tup (.cons (.tup (.cons (.con (.str (S "word"))) (.cons (.con (.str (S "c"))) .nil))) (.cons (.tup (.cons (.con (.str (S "rest"))) (.cons (.con (.str (S "r"))) .nil))) .nil))) .nil))) .nil)))))
def p10:Sx:=(.set false 10 (.bi .add (.dis (.cons (.con (.str (S "q"))) .nil)) (.ite (.bi .eq (.var 5) (.tup .nil)) (.dis (.cons (.con (.str (S "t"))) .nil)) (.dis .nil))))
def p11:Sx:=(.set false 11 (.comp 0 (.walk (.var 9)) (.bi .notin (.bi .idx (.var 0) (.con (.int 0))) (.var 11)) (.var 0)))
def p12:Sx:=(.ite (.or (.bi .ne (.call 26 (.cons (.var 9) .nil)) (.var 10)) (.bi .ne (.call 27 (.cons (.var 9) .nil)) (.un .tuple (.var 11)))) (.ret (.con (.bl false))) .skip)
def p13:Sx:=(.set false 12 (.tup (.cons (.tup (.cons (.con (.str (S "q"))) (.cons (.bi .add (.var 5) (.tup (.cons (.tup (.cons (.con (.str (S "any"))) (.cons (.con (.str (S "x"))) .nil))) .nil))) .nil))) (.cons (.tup (.cons (.con (.str (S "p"))) (.cons (.bi .add (.var 5) (.tup (.cons (.tup (.cons (.con (.str (S "rest"))) (.cons (.con (.str (S "r"))) .nil))) .nil))) .nil))) .nil))))
def p14:Sx:=(.ite (.or (.bi .ne (.call 26 (.cons (.var 12) .nil)) (.dis .nil)) (.bi .ne (.un .len (.call 25 (.cons (.var 12) (.cons (.con (.str (S "q"))) .nil)))) (.bi .add (.un .len (.var 5)) (.con (.int 1))))) (.ret (.con (.bl false))) .skip)
def p15:Sx:=(.ret (.bi .eq (.un .len (.call 25 (.cons (.var 12) (.cons (.con (.str (S "p"))) .nil)))) (.un .len (.var 5))))
def bB:Sx:=(.seq p8 (.seq p9 (.seq p10 (.seq p11 (.seq p12 (.seq p13 (.seq p14 p15)))))))
theorem law_eq:b_law = (.seq p0 (.seq p1 (.seq p2 (.seq p3 (.seq p4 (.seq p5 (.seq p6 (.seq p7 bB)))))))):=rfl
def isB (b:Bool):Rs D -> Bool
 | .ok (.bl x)=>x == b
 | _=>false
theorem isB_eq {b:Bool}:∀ {r:Rs D},isB b r = true -> r = .ok (.bl b)
 | .ok (.bl x),h=>by rw [show x = b by simpa [isB] using h]
 | .ok (.str _),h=>by cases h
 | .ok (.int _),h=>by cases h
 | .ok .non,h=>by cases h
 | .ok (.tup _),h=>by cases h
 | .ok (.lst _),h=>by cases h
 | .ok (.dct ..),h=>by cases h
 | .ok (.exc _),h=>by cases h
 | .ok (.fn ..),h=>by cases h
 | .ex _,h=>by cases h
 | .stuck,h=>by cases h
def wsW:List Str:=[S "7",S "0",S "55"]
def rowsW (w:Str):List D:=[.tup [.str (S "n"),.tup [.tup [.str (S "number"),.str (S "x")]]],.tup [.str (S "o"),.tup [.tup [.str (S "one"),.str (S "x"),.tup [.str w]]]],.tup [.str (S "y"),.tup [.tup [.str (S "any"),.str (S "x")]]],.tup [.str (S "r"),.tup [.tup [.str (S "rest"),.str (S "x")]]]]
def tabW (w:Str) (t:Nat):D:=.tup ((rowsW w).drop t ++ (rowsW w).take t)
def ab (k:Nat):Str:=if k % 2 = 0 then S "a" else S "b"
def aheadD (r:Nat):D:=.tup ((List.range' 0 r).map fun k=>.tup [.str (S "word"),.str (ab k)])
def okA (x0:Option D) (w:Str) (t:Nat):Bool:=isB false (evD (runD defs 9) c5 [x0,some (.str w),some (.lst (rowsW w)),some (.int t),some (tabW w t),none,none,none,none,none,none,none,none]) && isB false (evD (runD defs 9) c6 [x0,some (.str w),some (.lst (rowsW w)),some (.int t),some (tabW w t),none,none,none,none,none,none,none,none])
def okB (x0 x1 x2 x3 x4:Option D) (r:Nat):Bool:=isB true (answerD (exD (runD defs 9) bB [x0,x1,x2,x3,x4,some (aheadD r),none,none,none,none,none,none,none]))
theorem allA (x0:Option D):(wsW.all fun w=>(List.range' 0 4).all fun t=>okA x0 w t) = true:=by kernel_rfl
theorem allB (x0 x1 x2 x3 x4:Option D):((List.range' 0 4).all fun r=>okB x0 x1 x2 x3 x4 r) = true:=by kernel_rfl
theorem w_at (r:Nat) (h:(r:Int) < 3):∃ w ∈ wsW,atD [D.str (S "7"),D.str (S "0"),D.str (S "55")] (r:Int) = some (.str w):=by
 match r,h with
 | 0,_=>exact ⟨S "7",by simp [wsW],rfl⟩
 | 1,_=>exact ⟨S "0",by simp [wsW],rfl⟩
 | 2,_=>exact ⟨S "55",by simp [wsW],rfl⟩
 | k + 3,h=>exact absurd h (by omega)
theorem s1 (call:CallD) (x0:Option D) (w:Str):exD call p1 [x0,some (.str w),none,none,none,none,none,none,none,none,none,none,none] = .ok (.nx,[x0,some (.str w),some (.lst ((rowsW w).take 3)),none,none,none,none,none,none,none,none,none,none]):=rfl
theorem s2 (call:CallD) (x0:Option D) (w:Str):exD call p2 [x0,some (.str w),some (.lst ((rowsW w).take 3)),none,none,none,none,none,none,none,none,none,none] = .ok (.nx,[x0,some (.str w),some (.lst (rowsW w)),none,none,none,none,none,none,none,none,none,none]):=ext_run _ _ (i:=2) (ds:=(rowsW w).take 3) (es:=(rowsW w).drop 3) rfl rfl (by simp [rowsW])
theorem s4 (call:CallD) (x0:Option D) (w:Str) (t:Nat) (ht:t < 4):exD call p4 [x0,some (.str w),some (.lst (rowsW w)),some (.int t),none,none,none,none,none,none,none,none,none] = .ok (.nx,[x0,some (.str w),some (.lst (rowsW w)),some (.int t),some (tabW w t),none,none,none,none,none,none,none,none]):=by
 match t,ht with
 | 0,_=>rfl
 | 1,_=>rfl
 | 2,_=>rfl
 | 3,_=>rfl
 | k + 4,h=>exact absurd h (by omega)
theorem ahead (ns:List Int) (x1 x2 x3 x4:Option D) {r:Nat} (hr:r < 4) (e:runD defs 9 29 [ofN ns,.int 2,.int 4] = .ok (.int r)):exD (runD defs 9) p7 [some (ofN ns),x1,x2,x3,x4,none,none,none,none,none,none,none,none] = .ok (.nx,[some (ofN ns),x1,x2,x3,x4,some (aheadD r),none,none,none,none,none,none,none]):=by
 have hc:evD (runD defs 9) (.comp 0 (.un .range (.call 29 (.cons (.var 0) (.cons (.con (.int 2)) (.cons (.con (.int 4)) .nil))))) (.con (.bl true)) (.tup (.cons (.con (.str (S "word"))) (.cons (.bi .idx (.con (.str (S "ab"))) (.bi .mod (.var 0) (.con (.int 2)))) .nil)))) [some (ofN ns),x1,x2,x3,x4,none,none,none,none,none,none,none,none] = .ok (.lst ((List.range' 0 r).map fun k=>.tup [.str (S "word"),.str (ab k)])):=by
  refine (e_compF _ _ (rs:=List.range' 0 r) (fun k:Nat=>D.int k) (fun _=>true) (fun k=>.tup [.str (S "word"),.str (ab k)]) (e_un2 _ _ (e_call2 _ _ (ds:=[ofN ns,.int 2,.int 4]) rfl e) (range_at r (by omega))) (by rw [List.length_range']; omega) fun k hk=>⟨rfl,fun _=>?_⟩).trans (by rw [List.filter_eq_self.mpr fun _ _=>rfl])
  have hk:k < 4:=by have:=(List.mem_range'_1.mp hk).2; omega
  match k,hk with
  | 0,_=>rfl
  | 1,_=>rfl
  | 2,_=>rfl
  | 3,_=>rfl
  | k + 4,h=>exact absurd h (by omega)
 rw [p7,x_set,e_un2 _ _ (z:=aheadD r) hc (by simp [op1,aheadD,lineD])]
 rfl
theorem law_true (ns:List Int) (_:Nat):runD defs 10 30 [ofN ns] = .ok (.bl true):=by
 obtain ⟨r0,h0,e0⟩:=pick ns 0 3 (by decide) (by decide)
 obtain ⟨r1,h1,e1⟩:=pick ns 1 4 (by decide) (by decide)
 obtain ⟨r2,h2,e2⟩:=pick ns 2 4 (by decide) (by decide)
 obtain ⟨w,hw,hat⟩:=w_at r0 h0
 have hA:=List.all_eq_true.mp (List.all_eq_true.mp (allA (some (ofN ns))) w hw) r1 (List.mem_range'_1.mpr ⟨by omega,by omega⟩)
 simp only [okA,Bool.and_eq_true] at hA
 have hB:=List.all_eq_true.mp (allB (some (ofN ns)) (some (.str w)) (some (.lst (rowsW w))) (some (.int r1)) (some (tabW w r1))) r2 (List.mem_range'_1.mpr ⟨by omega,by omega⟩)
 rw [r_law,law_eq]
 show answerD (exD (runD defs 9) _ [some (ofN ns),none,none,none,none,none,none,none,none,none,none,none,none]) = _
 rw [p0,a_set _ _ (d:=.str w) _ (e_bi2 _ _ (x:=.lst [D.str (S "7"),D.str (S "0"),D.str (S "55")]) (y:=.int r0) rfl (e_call2 _ _ (ds:=[ofN ns,.int 0,.int 3]) rfl (e0 7)) (by rw [o_idxL,hat]; rfl))]
 simp only [List.set]
 rw [a_next _ _ _ (s1 ..),a_next _ _ _ (s2 ..),p3,a_set _ _ (d:=.int r1) _ (e_call2 _ _ (ds:=[ofN ns,.int 1,.int 4]) rfl (e1 7))]
 simp only [List.set]
 rw [a_next _ _ _ (s4 _ _ _ _ (by omega)),p5,a_guard _ _ (p:=false) _ _ (isB_eq hA.1),if_neg (by decide),p6,a_guard _ _ (p:=false) _ _ (isB_eq hA.2),if_neg (by decide),a_next _ _ _ (ahead ns _ _ _ _ (by omega) (e2 7))]
 exact isB_eq hB
end K92
namespace K92
open PySem.Str (ofString)
open PySem PySem.Spec PyProof.Rows L2 Pu Rd
abbrev row:Program:=PySem.Challenge.pw_routeboard_k92_whole_edges_by_hand
def stAt (i:Nat):Stmt:=row.main.body.getD i (.Pass ⟨0,0,0,0⟩)
abbrev s_has_rest:Stmt:=stAt 5
abbrev N_has_rest:List Str:=[(ofString "pattern")]
abbrev s_writes_number:Stmt:=stAt 6
abbrev N_writes_number:List Str:=[(ofString "word")]
abbrev s_lets_by:Stmt:=stAt 7
abbrev N_lets_by:List Str:=[(ofString "part"),(ofString "word")]
abbrev s_has_fitting_length:Stmt:=stAt 8
abbrev N_has_fitting_length:List Str:=[(ofString "pattern"),(ofString "many")]
abbrev s_does_match:Stmt:=stAt 9
abbrev N_does_match:List Str:=[(ofString "pattern"),(ofString "address")]
abbrev s_number_of:Stmt:=stAt 12
abbrev N_number_of:List Str:=[(ofString "table"),(ofString "label"),(ofString "at"),(ofString "row")]
abbrev s_all_rows:Stmt:=stAt 13
abbrev N_all_rows:List Str:=[(ofString "table"),(ofString "address")]
abbrev s_first:Stmt:=stAt 14
abbrev N_first:List Str:=[(ofString "table"),(ofString "address"),(ofString "labels")]
abbrev s_rank:Stmt:=stAt 15
abbrev N_rank:List Str:=[(ofString "row")]
abbrev s_by_ranks:Stmt:=stAt 16
abbrev N_by_ranks:List Str:=[(ofString "table")]
abbrev s_best:Stmt:=stAt 17
abbrev N_best:List Str:=[(ofString "table"),(ofString "address")]
abbrev s_part_at:Stmt:=stAt 19
abbrev N_part_at:List Str:=[(ofString "pattern"),(ofString "at")]
abbrev s_parts_at:Stmt:=stAt 20
abbrev N_parts_at:List Str:=[(ofString "patterns"),(ofString "at")]
abbrev s_can_pass:Stmt:=stAt 21
abbrev N_can_pass:List Str:=[(ofString "part"),(ofString "word")]
abbrev s_named_words:Stmt:=stAt 22
abbrev N_named_words:List Str:=[(ofString "part")]
abbrev s_all_named:Stmt:=stAt 23
abbrev N_all_named:List Str:=[(ofString "parts"),(ofString "words"),(ofString "part"),(ofString "named")]
abbrev s_new_word:Stmt:=stAt 24
abbrev N_new_word:List Str:=[(ofString "start"),(ofString "words"),(ofString "number")]
abbrev s_words_to_try:Stmt:=stAt 25
abbrev N_words_to_try:List Str:=[(ofString "wanted"),(ofString "unwanted"),(ofString "part"),(ofString "named"),(ofString "start")]
abbrev s_takes_all_behind:Stmt:=stAt 26
abbrev N_takes_all_behind:List Str:=[(ofString "pattern"),(ofString "many")]
abbrev s_one_word_on:Stmt:=stAt 27
abbrev N_one_word_on:List Str:=[(ofString "reached"),(ofString "wanted"),(ofString "unwanted"),(ofString "at"),(ofString "lost"),(ofString "parts"),(ofString "further"),(ofString "word"),(ofString "passing"),(ofString "left"),(ofString "address"),(ofString "still")]
abbrev s_ended:Stmt:=stAt 28
abbrev N_ended:List Str:=[(ofString "reached"),(ofString "unwanted"),(ofString "many"),(ofString "matching"),(ofString "left"),(ofString "address")]
abbrev s_shortest:Stmt:=stAt 29
abbrev N_shortest:List Str:=[(ofString "wanted"),(ofString "unwanted"),(ofString "reached"),(ofString "many"),(ofString "address")]
abbrev s_common:Stmt:=stAt 31
abbrev N_common:List Str:=[(ofString "one"),(ofString "other")]
abbrev s_uncovered:Stmt:=stAt 32
abbrev N_uncovered:List Str:=[(ofString "pattern"),(ofString "others")]
abbrev s_patterns_of:Stmt:=stAt 33
abbrev N_patterns_of:List Str:=[(ofString "rows")]
abbrev s_reaching:Stmt:=stAt 34
abbrev N_reaching:List Str:=[(ofString "table"),(ofString "label"),(ofString "at")]
abbrev s_unreached:Stmt:=stAt 35
abbrev N_unreached:List Str:=[(ofString "table")]
abbrev s_without_unreached:Stmt:=stAt 36
abbrev N_without_unreached:List Str:=[(ofString "table"),(ofString "hidden")]
abbrev s_law_cell:Stmt:=stAt 38
abbrev N_law_cell:List Str:=[(ofString "_law_script"),(ofString "_law_k")]
abbrev s_law_pick:Stmt:=stAt 39
abbrev N_law_pick:List Str:=[(ofString "_law_script"),(ofString "_law_k"),(ofString "_law_many"),(ofString "_law_drawn")]
abbrev s_law:Stmt:=stAt 40
abbrev N_law:List Str:=[(ofString "_law_script"),(ofString "_law_word"),(ofString "_law_rows"),(ofString "_law_turn"),(ofString "_law_table"),(ofString "_law_ahead"),(ofString "_law_more"),(ofString "_law_long"),(ofString "_law_told"),(ofString "_law_some"),(ofString "_law_due"),(ofString "_law_rest"),(ofString "_law_other")]
structure Env (G:Gw) (call:CallD):Prop where
 f_has_rest:Callee G call 0 (ofString "has_rest")
 f_writes_number:Callee G call 1 (ofString "writes_number")
 f_lets_by:Callee G call 2 (ofString "lets_by")
 f_has_fitting_length:Callee G call 3 (ofString "has_fitting_length")
 f_does_match:Callee G call 4 (ofString "does_match")
 f_number_of:Callee G call 5 (ofString "number_of")
 f_all_rows:Callee G call 6 (ofString "all_rows")
 f_first:Callee G call 7 (ofString "first")
 f_rank:Callee G call 8 (ofString "rank")
 f_by_ranks:Callee G call 9 (ofString "by_ranks")
 f_best:Callee G call 10 (ofString "best")
 f_part_at:Callee G call 11 (ofString "part_at")
 f_parts_at:Callee G call 12 (ofString "parts_at")
 f_can_pass:Callee G call 13 (ofString "can_pass")
 f_named_words:Callee G call 14 (ofString "named_words")
 f_all_named:Callee G call 15 (ofString "all_named")
 f_new_word:Callee G call 16 (ofString "new_word")
 f_words_to_try:Callee G call 17 (ofString "words_to_try")
 f_takes_all_behind:Callee G call 18 (ofString "takes_all_behind")
 f_one_word_on:Callee G call 19 (ofString "one_word_on")
 f_ended:Callee G call 20 (ofString "ended")
 f_shortest:Callee G call 21 (ofString "shortest")
 f_common:Callee G call 22 (ofString "common")
 f_uncovered:Callee G call 23 (ofString "uncovered")
 f_patterns_of:Callee G call 24 (ofString "patterns_of")
 f_reaching:Callee G call 25 (ofString "reaching")
 f_unreached:Callee G call 26 (ofString "unreached")
 f_without_unreached:Callee G call 27 (ofString "without_unreached")
 f_law_cell:Callee G call 28 (ofString "_law_cell")
 f_law_pick:Callee G call 29 (ofString "_law_pick")
 f_law:Callee G call 30 (ofString "law")
 b_all:G.mg (ofString "all") = none
 b_any:G.mg (ofString "any") = none
 b_enumerate:G.mg (ofString "enumerate") = none
 b_len:G.mg (ofString "len") = none
 b_range:G.mg (ofString "range") = none
 b_sorted:G.mg (ofString "sorted") = none
 b_tuple:G.mg (ofString "tuple") = none
 b_zip:G.mg (ofString "zip") = none
 c_FIGURES:GlobC G (ofString "FIGURES") (.str (ofString "0123456789"))
 c_RANKED_KINDS:GlobC G (ofString "RANKED_KINDS") (.tup [(.str (ofString "word")),(.str (ofString "one")),(.str (ofString "number")),(.str (ofString "any")),(.str (ofString "rest"))])
 k_T:NoKT G.K
 x_NoRow:ExcC G (ofString "NoRow")
section
variable {X:Cx} {G:Gw} {call:CallD} {H0:Hp}
set_option hygiene false in
local macro_rules
| `(tactic| sleep 1)=>`(tactic| first
 | with_reducible refine @vV _ _ _ _ _ _ _ C _ ?_
 | with_reducible refine @pA_cons _ _ _ _ _ _ ?_ ?_ ?_
 | with_reducible refine @pA_nil _ _
 | with_reducible refine @pI_int _ _ _ _ _
 | with_reducible refine @pI_str _ _ _ _ _
 | with_reducible refine @pI_bl _ _ _ _ _
 | with_reducible refine @pI_non _ _ _ _
 | with_reducible refine @sS_one _ _ _ _ _ _ ?_
 | with_reducible refine @sS_cons _ _ _ _ _ _ _ _ ?_ ?_
 | with_reducible refine @sS_nil _ _ _ _
 | with_reducible refine @sS_ret _ _ _ _ _ _ _ ?_
 | with_reducible refine @sS_if _ _ _ _ _ _ _ _ _ _ _ ?_ ?_ ?_
 | with_reducible refine @cF _ _ _ _ _ _ _ _ _ _ _ C _ ?_ ?_ ?_ ?_ ?_
 | with_reducible refine @eIx _ _ _ _ _ _ _ ?_ ?_ ?_
 | with_reducible refine @pI_slice _ _ _ _ _ _ _ _ _ _ ?_ ?_ ?_
 | with_reducible refine @eAdd _ _ _ _ _ _ _ ?_ ?_
 | with_reducible refine @eSub _ _ _ _ _ _ _ ?_ ?_
 | with_reducible refine @eMul _ _ _ _ _ _ _ ?_ ?_
 | with_reducible refine @eMod _ _ _ _ _ _ _ ?_ ?_
 | with_reducible refine @eDiv _ _ _ _ _ _ _ ?_ ?_
 | with_reducible refine @pI_tup _ _ _ _ _ _ ?_
 | with_reducible refine @cSrt _ _ _ _ _ _ _ _ _ _ _ _ _ C ?_ ?_ ?_ ?_ ?_ ?_
 | with_reducible refine @cIdxT _ _ _ _ _ _ _ _ _ _ _ C ?_ ?_ ?_ ?_ ?_ ?_
 | with_reducible refine @aExt _ _ _ _ _ _ _ _ _ _ _ _ _ _ _ C ?_ ?_ ?_ ?_ ?_
 | with_reducible refine @aOwn _ _ _ _ _ _ _ _ _ _ _ _ _ C ?_ ?_ ?_
 | with_reducible refine @aSetC _ _ _ _ _ _ _ _ _ _ _ _ _ _ _ _ _ _ _ _ _ C ?_ ?_ ?_ ?_ ?_ ?_ ?_ ?_
 | with_reducible refine @aSet _ _ _ _ _ _ _ _ _ _ _ _ _ C ?_ ?_ ?_ ?_
 | with_reducible refine @cAll _ _ _ _ _ _ _ _ _ C E.b_all ?_ ?_ ?_
 | with_reducible refine @cAny _ _ _ _ _ _ _ _ _ C E.b_any ?_ ?_ ?_
 | with_reducible refine @cLen _ _ _ _ _ _ _ _ _ C E.b_len ?_ ?_ ?_
 | with_reducible refine @cTuple _ _ _ _ _ _ _ _ _ C E.b_tuple ?_ ?_ ?_
 | with_reducible refine @eEq _ _ _ _ _ _ _ _ _ _ C ?_ ?_
 | with_reducible refine @eGe _ _ _ _ _ _ _ ?_ ?_
 | with_reducible refine @eGt _ _ _ _ _ _ _ ?_ ?_
 | with_reducible refine @eIn _ _ _ _ _ _ _ _ _ _ C ?_ ?_ ?_
 | with_reducible refine @fComp _ _ _ _ _ _ _ _ _ _ _ _ _ _ _ C ?_ ?_ ?_ ?_ ?_ ?_
 | with_reducible refine @pF_dis _ _ _ _ _ ?_
 | with_reducible refine @pI_and _ _ _ _ _ _ _ _ ?_ ?_
 | with_reducible refine @pI_if _ _ _ _ _ _ _ _ _ ?_ ?_ ?_
 | with_reducible refine @pI_neg _ _ _ _ _ ?_
 | with_reducible refine @pI_not _ _ _ _ _ ?_
 | with_reducible refine @pI_notN _ _ _ _ _ _ _ ?_
 | with_reducible refine @pI_one _ _ _ _ _ _ ?_
 | with_reducible refine @pI_or _ _ _ _ _ _ _ _ ?_ ?_
 | with_reducible refine @pI_starts _ _ _ _ _ _ _ _ ?_ ?_ ?_ ?_ ?_ ?_
 | with_reducible refine @pO_none _ _
 | with_reducible refine @pO_some _ _ _ _ ?_
 | with_reducible refine @pT_isN _ _ _ _ _ _ _ ?_
 | with_reducible refine @pT_not _ _ _ _ _ ?_
 | with_reducible refine @pT_notN _ _ _ _ _ _ _ ?_
 | with_reducible refine @pW_and _ _ _ _ _ _ _ _ ?_ ?_
 | with_reducible refine @pW_enum _ _ _ _ _ _ _ _ _ _ _ _ C ?_ ?_ ?_ ?_
 | with_reducible refine @pW_one _ _ _ _ _ _ ?_
 | with_reducible refine @pW_or _ _ _ _ _ _ _ _ ?_ ?_
 | with_reducible refine @pW_range1 _ _ _ _ _ _ _ _ _ _ C ?_ ?_ ?_ ?_
 | with_reducible refine @pW_val _ _ _ _ _ _ ?_
 | with_reducible refine @pW_valT _ _ _ _ _ _ _ ?_
 | with_reducible refine @pW_zip _ _ _ _ _ _ _ _ _ _ _ _ _ _ C ?_ ?_ ?_ ?_ ?_ ?_
 | with_reducible refine @pif_nil _ _
 | with_reducible refine @pif_one _ _ _ _ ?_
 | with_reducible refine @sS_for _ _ _ _ _ _ _ _ _ _ _ _ _ _ _ C ?_ ?_ ?_ ?_ ?_ ?_
 | with_reducible refine @tEq _ _ _ _ _ _ _ _ _ _ C ?_ ?_
 | with_reducible refine @tGt _ _ _ _ _ _ _ ?_ ?_
 | with_reducible refine @tIn _ _ _ _ _ _ _ _ _ _ C ?_ ?_ ?_
 | with_reducible refine @tLt _ _ _ _ _ _ _ ?_ ?_
 | with_reducible refine @tNe _ _ _ _ _ _ _ _ _ _ C ?_ ?_
 | with_reducible refine @tNi _ _ _ _ _ _ _ _ _ _ C ?_ ?_ ?_
 | with_reducible refine @vG _ _ _ _ _ _ _ C _ ?_ ?_
 | with_reducible refine @aSetM _ _ _ _ _ _ _ _ _ _ _ _ _ C ?_ ?_ ?_
 | with_reducible refine @sS_while _ _ _ _ _ _ _ _ _ _ ?_ ?_ ?_
 | with_reducible refine @sS_raise _ _ _ _ _ _ _ _ _ _ _ _ _ C ?_ ?_ ?_ ?_
 | with_reducible refine @m_join _ _ _ _ _ _ _ ?_ ?_ ?_
 | with_reducible refine @pj_nil _ _
 | with_reducible refine @pj_con _ _ _ _ _ _ _ ?_ ?_
 | with_reducible refine @pj_rep _ _ _ _ _ _ _ ?_ ?_
 | with_reducible refine @cDLen _ _ _ _ _ _ _ _ _ C E.b_len ?_ ?_ ?_
 | with_reducible refine @aPut _ _ _ _ _ _ _ _ _ _ _ _ _ _ _ _ C _ ?_ ?_ ?_ ?_ ?_ ?_ ?_
 | with_reducible refine @aOwnDT _ _ _ _ _ _ _ _ _ _ _ _ C ?_ ?_
 | with_reducible refine @aRetF _ _ _ _ _ _ _ _ _ _ _ C ?_
 | with_reducible refine @aAug _ _ _ _ _ _ _ _ _ _ _ _ _ C ?_ ?_ ?_
 | with_reducible refine @eRngT _ _ _ _ _ _ _ _ _ _ _ C ?_ ?_ ?_ ?_ ?_ ?_
 | with_reducible refine @eDsp1 _ _ _ _ _ _ _ _ _ _ C ?_ ?_ ?_
 | with_reducible refine @pjv_nil _ _
 | with_reducible refine @pjv_cons _ _ _ _ _ _ _ ?_ ?_ ?_
 | with_reducible refine @eFst _ _ _ _ _ _ _ ?_ ?_
 | with_reducible refine @pW_items _ _ _ _ _ _ _ _ _ ?_ ?_ ?_
 | with_reducible refine @pI_fresh _ _ _ _ ?_ ?_
 | with_reducible refine @pT_val _ _ _ _ ?_ ?_
 | with_reducible refine @PW.pt _ _ _ ?_
 | ((with_reducible show _ = _); first | exact dk | exact rfl | (first | exact E.b_all | exact E.b_any | exact E.b_enumerate | exact E.b_len | exact E.b_range | exact E.b_sorted | exact E.b_tuple | exact E.b_zip))
 | ((with_reducible show True); exact True.intro)
 | ((with_reducible show _ = true -> NoKT _); first | (intro _; exact E.k_T) | (intro z; cases z))
 | ((with_reducible show NoKT _); exact E.k_T)
 | ((with_reducible show ExcC _ _); first | exact E.x_NoRow)
 | ((with_reducible show Takes _ _ _); fail)
 | ((with_reducible show IsaC _ _ _); fail)
 | with_reducible intro _ C
 | ((with_reducible intro _); exact rfl)
 | ((with_reducible show _ ≠ _); exact dk)
 | ((with_reducible show _ <= _); exact dk)
 | ((with_reducible show PlainIx _); intro _ _; exact rfl)
 | ((with_reducible show NoSl _); intro _ _; exact rfl)
 | ((with_reducible show OpR _ _ _); first | exact opD_le | exact opD_lt | exact opD_ge | exact opD_gt)
 | ((with_reducible show Callee _ _ _ _); first | exact E.f_has_rest | exact E.f_writes_number | exact E.f_lets_by | exact E.f_has_fitting_length | exact E.f_does_match | exact E.f_number_of | exact E.f_all_rows | exact E.f_first | exact E.f_rank | exact E.f_by_ranks | exact E.f_best | exact E.f_part_at | exact E.f_parts_at | exact E.f_can_pass | exact E.f_named_words | exact E.f_all_named | exact E.f_new_word | exact E.f_words_to_try | exact E.f_takes_all_behind | exact E.f_one_word_on | exact E.f_ended | exact E.f_shortest | exact E.f_common | exact E.f_uncovered | exact E.f_patterns_of | exact E.f_reaching | exact E.f_unreached | exact E.f_without_unreached | exact E.f_law_cell | exact E.f_law_pick | exact E.f_law)
 | ((with_reducible show GlobC _ _ _); first | exact E.c_FIGURES | exact E.c_RANKED_KINDS)
 | ((with_reducible show TgOk _ _ _ _); first | exact gOne C dk | exact gTwo C dk dk)
 | ((with_reducible show PG _ _ _); first | exact lOne C dk | exact lTwo C dk dk | exact lThree C dk dk dk)
 | with_reducible exact hx.pass)
theorem d_has_rest (E:Env G call) (C:Ctx X G N_has_rest (defScope s_has_rest).names) (hx:HX X (defScope s_has_rest).names):PSs X (defBody s_has_rest) (tS X call [] H0 b_has_rest):=by
 conv=>(arg 2; whnf)
 conv=>(arg 3; arg 5; whnf)
 repeat' sleep 1
theorem d_writes_number (E:Env G call) (C:Ctx X G N_writes_number (defScope s_writes_number).names) (hx:HX X (defScope s_writes_number).names):PSs X (defBody s_writes_number) (tS X call [] H0 b_writes_number):=by
 conv=>(arg 2; whnf)
 conv=>(arg 3; arg 5; whnf)
 repeat' sleep 1
theorem d_lets_by (E:Env G call) (C:Ctx X G N_lets_by (defScope s_lets_by).names) (hx:HX X (defScope s_lets_by).names):PSs X (defBody s_lets_by) (tS X call [] H0 b_lets_by):=by
 conv=>(arg 2; whnf)
 conv=>(arg 3; arg 5; whnf)
 repeat' sleep 1
theorem d_has_fitting_length (E:Env G call) (C:Ctx X G N_has_fitting_length (defScope s_has_fitting_length).names) (hx:HX X (defScope s_has_fitting_length).names):PSs X (defBody s_has_fitting_length) (tS X call [] H0 b_has_fitting_length):=by
 conv=>(arg 2; whnf)
 conv=>(arg 3; arg 5; whnf)
 repeat' sleep 1
theorem d_does_match (E:Env G call) (C:Ctx X G N_does_match (defScope s_does_match).names) (hx:HX X (defScope s_does_match).names):PSs X (defBody s_does_match) (tS X call [] H0 b_does_match):=by
 conv=>(arg 2; whnf)
 conv=>(arg 3; arg 5; whnf)
 repeat' sleep 1
theorem d_number_of (E:Env G call) (C:Ctx X G N_number_of (defScope s_number_of).names) (hx:HX X (defScope s_number_of).names):PSs X (defBody s_number_of) (tS X call [] H0 b_number_of):=by
 conv=>(arg 2; whnf)
 conv=>(arg 3; arg 5; whnf)
 repeat' sleep 1
theorem d_all_rows (E:Env G call) (C:Ctx X G N_all_rows (defScope s_all_rows).names) (hx:HX X (defScope s_all_rows).names):PSs X (defBody s_all_rows) (tS X call [] H0 b_all_rows):=by
 conv=>(arg 2; whnf)
 conv=>(arg 3; arg 5; whnf)
 repeat' sleep 1
theorem d_first (E:Env G call) (C:Ctx X G N_first (defScope s_first).names) (hx:HX X (defScope s_first).names):PSs X (defBody s_first) (tS X call [] H0 b_first):=by
 conv=>(arg 2; whnf)
 conv=>(arg 3; arg 5; whnf)
 repeat' sleep 1
theorem d_rank (E:Env G call) (C:Ctx X G N_rank (defScope s_rank).names) (hx:HX X (defScope s_rank).names):PSs X (defBody s_rank) (tS X call [] H0 b_rank):=by
 conv=>(arg 2; whnf)
 conv=>(arg 3; arg 5; whnf)
 repeat' sleep 1
theorem d_by_ranks (E:Env G call) (C:Ctx X G N_by_ranks (defScope s_by_ranks).names) (hx:HX X (defScope s_by_ranks).names):PSs X (defBody s_by_ranks) (tS X call [] H0 b_by_ranks):=by
 conv=>(arg 2; whnf)
 conv=>(arg 3; arg 5; whnf)
 repeat' sleep 1
theorem d_best (E:Env G call) (C:Ctx X G N_best (defScope s_best).names) (hx:HX X (defScope s_best).names):PSs X (defBody s_best) (tS X call [] H0 b_best):=by
 conv=>(arg 2; whnf)
 conv=>(arg 3; arg 5; whnf)
 repeat' sleep 1
theorem d_part_at (E:Env G call) (C:Ctx X G N_part_at (defScope s_part_at).names) (hx:HX X (defScope s_part_at).names):PSs X (defBody s_part_at) (tS X call [] H0 b_part_at):=by
 conv=>(arg 2; whnf)
 conv=>(arg 3; arg 5; whnf)
 repeat' sleep 1
theorem d_parts_at (E:Env G call) (C:Ctx X G N_parts_at (defScope s_parts_at).names) (hx:HX X (defScope s_parts_at).names):PSs X (defBody s_parts_at) (tS X call [] H0 b_parts_at):=by
 conv=>(arg 2; whnf)
 conv=>(arg 3; arg 5; whnf)
 repeat' sleep 1
theorem d_can_pass (E:Env G call) (C:Ctx X G N_can_pass (defScope s_can_pass).names) (hx:HX X (defScope s_can_pass).names):PSs X (defBody s_can_pass) (tS X call [] H0 b_can_pass):=by
 conv=>(arg 2; whnf)
 conv=>(arg 3; arg 5; whnf)
 repeat' sleep 1
theorem d_named_words (E:Env G call) (C:Ctx X G N_named_words (defScope s_named_words).names) (hx:HX X (defScope s_named_words).names):PSs X (defBody s_named_words) (tS X call [] H0 b_named_words):=by
 conv=>(arg 2; whnf)
 conv=>(arg 3; arg 5; whnf)
 repeat' sleep 1
theorem d_all_named (E:Env G call) (C:Ctx X G N_all_named (defScope s_all_named).names) (hx:HX X (defScope s_all_named).names):PSs X (defBody s_all_named) (tS X call [1] H0 b_all_named):=by
 conv=>(arg 2; whnf)
 conv=>(arg 3; arg 5; whnf)
 repeat' sleep 1
theorem d_new_word (E:Env G call) (C:Ctx X G N_new_word (defScope s_new_word).names) (hx:HX X (defScope s_new_word).names):PSs X (defBody s_new_word) (tS X call [] H0 b_new_word):=by
 conv=>(arg 2; whnf)
 conv=>(arg 3; arg 5; whnf)
 repeat' sleep 1
theorem d_words_to_try (E:Env G call) (C:Ctx X G N_words_to_try (defScope s_words_to_try).names) (hx:HX X (defScope s_words_to_try).names):PSs X (defBody s_words_to_try) (tS X call [] H0 b_words_to_try):=by
 conv=>(arg 2; whnf)
 conv=>(arg 3; arg 5; whnf)
 repeat' sleep 1
theorem d_takes_all_behind (E:Env G call) (C:Ctx X G N_takes_all_behind (defScope s_takes_all_behind).names) (hx:HX X (defScope s_takes_all_behind).names):PSs X (defBody s_takes_all_behind) (tS X call [] H0 b_takes_all_behind):=by
 conv=>(arg 2; whnf)
 conv=>(arg 3; arg 5; whnf)
 repeat' sleep 1
theorem d_one_word_on (E:Env G call) (C:Ctx X G N_one_word_on (defScope s_one_word_on).names) (hx:HX X (defScope s_one_word_on).names):PSs X (defBody s_one_word_on) (tS X call [6] H0 b_one_word_on):=by
 conv=>(arg 2; whnf)
 conv=>(arg 3; arg 5; whnf)
 repeat' sleep 1
theorem d_ended (E:Env G call) (C:Ctx X G N_ended (defScope s_ended).names) (hx:HX X (defScope s_ended).names):PSs X (defBody s_ended) (tS X call [] H0 b_ended):=by
 conv=>(arg 2; whnf)
 conv=>(arg 3; arg 5; whnf)
 repeat' sleep 1
theorem d_shortest (E:Env G call) (C:Ctx X G N_shortest (defScope s_shortest).names) (hx:HX X (defScope s_shortest).names):PSs X (defBody s_shortest) (tS X call [] H0 b_shortest):=by
 conv=>(arg 2; whnf)
 conv=>(arg 3; arg 5; whnf)
 repeat' sleep 1
theorem d_common (E:Env G call) (C:Ctx X G N_common (defScope s_common).names) (hx:HX X (defScope s_common).names):PSs X (defBody s_common) (tS X call [] H0 b_common):=by
 conv=>(arg 2; whnf)
 conv=>(arg 3; arg 5; whnf)
 repeat' sleep 1
theorem d_uncovered (E:Env G call) (C:Ctx X G N_uncovered (defScope s_uncovered).names) (hx:HX X (defScope s_uncovered).names):PSs X (defBody s_uncovered) (tS X call [] H0 b_uncovered):=by
 conv=>(arg 2; whnf)
 conv=>(arg 3; arg 5; whnf)
 repeat' sleep 1
theorem d_patterns_of (E:Env G call) (C:Ctx X G N_patterns_of (defScope s_patterns_of).names) (hx:HX X (defScope s_patterns_of).names):PSs X (defBody s_patterns_of) (tS X call [] H0 b_patterns_of):=by
 conv=>(arg 2; whnf)
 conv=>(arg 3; arg 5; whnf)
 repeat' sleep 1
theorem d_reaching (E:Env G call) (C:Ctx X G N_reaching (defScope s_reaching).names) (hx:HX X (defScope s_reaching).names):PSs X (defBody s_reaching) (tS X call [] H0 b_reaching):=by
 conv=>(arg 2; whnf)
 conv=>(arg 3; arg 5; whnf)
 repeat' sleep 1
theorem d_unreached (E:Env G call) (C:Ctx X G N_unreached (defScope s_unreached).names) (hx:HX X (defScope s_unreached).names):PSs X (defBody s_unreached) (tS X call [] H0 b_unreached):=by
 conv=>(arg 2; whnf)
 conv=>(arg 3; arg 5; whnf)
 repeat' sleep 1
theorem d_without_unreached (E:Env G call) (C:Ctx X G N_without_unreached (defScope s_without_unreached).names) (hx:HX X (defScope s_without_unreached).names):PSs X (defBody s_without_unreached) (tS X call [] H0 b_without_unreached):=by
 conv=>(arg 2; whnf)
 conv=>(arg 3; arg 5; whnf)
 repeat' sleep 1
theorem d_law_cell (E:Env G call) (C:Ctx X G N_law_cell (defScope s_law_cell).names) (hx:HX X (defScope s_law_cell).names):PSs X (defBody s_law_cell) (tS X call [] H0 b_law_cell):=by
 conv=>(arg 2; whnf)
 conv=>(arg 3; arg 5; whnf)
 repeat' sleep 1
theorem d_law_pick (E:Env G call) (C:Ctx X G N_law_pick (defScope s_law_pick).names) (hx:HX X (defScope s_law_pick).names):PSs X (defBody s_law_pick) (tS X call [] H0 b_law_pick):=by
 conv=>(arg 2; whnf)
 conv=>(arg 3; arg 5; whnf)
 repeat' sleep 1
theorem d_law (E:Env G call) (C:Ctx X G N_law (defScope s_law).names) (hx:HX X (defScope s_law).names):PSs X (defBody s_law) (tS X call [2] H0 b_law):=by
 conv=>(arg 2; whnf)
 conv=>(arg 3; arg 5; whnf)
 repeat' sleep 1
end
end K92
namespace K92
open PySem.Str (ofString)
open PySem PySem.Spec PyProof.Rows L2 Pu Rd
abbrev P_has_rest:List Str:=[(ofString "pattern")]
abbrev P_writes_number:List Str:=[(ofString "word")]
abbrev P_lets_by:List Str:=[(ofString "part"),(ofString "word")]
abbrev P_has_fitting_length:List Str:=[(ofString "pattern"),(ofString "many")]
abbrev P_does_match:List Str:=[(ofString "pattern"),(ofString "address")]
abbrev P_number_of:List Str:=[(ofString "table"),(ofString "label")]
abbrev P_all_rows:List Str:=[(ofString "table"),(ofString "address")]
abbrev P_first:List Str:=[(ofString "table"),(ofString "address")]
abbrev P_rank:List Str:=[(ofString "row")]
abbrev P_by_ranks:List Str:=[(ofString "table")]
abbrev P_best:List Str:=[(ofString "table"),(ofString "address")]
abbrev P_part_at:List Str:=[(ofString "pattern"),(ofString "at")]
abbrev P_parts_at:List Str:=[(ofString "patterns"),(ofString "at")]
abbrev P_can_pass:List Str:=[(ofString "part"),(ofString "word")]
abbrev P_named_words:List Str:=[(ofString "part")]
abbrev P_all_named:List Str:=[(ofString "parts")]
abbrev P_new_word:List Str:=[(ofString "start"),(ofString "words")]
abbrev P_words_to_try:List Str:=[(ofString "wanted"),(ofString "unwanted")]
abbrev P_takes_all_behind:List Str:=[(ofString "pattern"),(ofString "many")]
abbrev P_one_word_on:List Str:=[(ofString "reached"),(ofString "wanted"),(ofString "unwanted"),(ofString "at")]
abbrev P_ended:List Str:=[(ofString "reached"),(ofString "unwanted"),(ofString "many")]
abbrev P_shortest:List Str:=[(ofString "wanted"),(ofString "unwanted")]
abbrev P_common:List Str:=[(ofString "one"),(ofString "other")]
abbrev P_uncovered:List Str:=[(ofString "pattern"),(ofString "others")]
abbrev P_patterns_of:List Str:=[(ofString "rows")]
abbrev P_reaching:List Str:=[(ofString "table"),(ofString "label")]
abbrev P_unreached:List Str:=[(ofString "table")]
abbrev P_without_unreached:List Str:=[(ofString "table")]
abbrev P_law_cell:List Str:=[(ofString "_law_script"),(ofString "_law_k")]
abbrev P_law_pick:List Str:=[(ofString "_law_script"),(ofString "_law_k"),(ofString "_law_many")]
abbrev P_law:List Str:=[(ofString "_law_script")]
section
variable {P:Program} {w:World} {K:PySem.W.Frag} {mg:Str -> Option Value} {base:Heap} {f0 f1 f2 f3 f4 f5 f6 f7 f8 f9 f10 f11 f12 f13 f14 f15 f16 f17 f18 f19 f20 f21 f22 f23 f24 f25 f26 f27 f28 f29 f30:Addr} {g0 g1 g2 g3 g4 g5 g6 g7 g8 g9 g10 g11 g12 g13 g14 g15 g16 g17 g18 g19 g20 g21 g22 g23 g24 g25 g26 g27 g28 g29 g30:FuncData}
abbrev Ok (P:Program) (w:World) (K:PySem.W.Frag) (mg:Str -> Option Value) (base:Heap) (k:Nat) (f:Addr) (g:FuncData) (ps:List Str) (i:Nat):Prop:=FnOk P w K mg base (CXr P w) (3 * k) f g ps (spI K mg (runD defs k) i)
theorem all_ok (h0:Def1 K mg (ofString "has_rest") s_has_rest P_has_rest f0 g0)
 (h1:Def1 K mg (ofString "writes_number") s_writes_number P_writes_number f1 g1)
 (h2:Def1 K mg (ofString "lets_by") s_lets_by P_lets_by f2 g2)
 (h3:Def1 K mg (ofString "has_fitting_length") s_has_fitting_length P_has_fitting_length f3 g3)
 (h4:Def1 K mg (ofString "does_match") s_does_match P_does_match f4 g4)
 (h5:Def1 K mg (ofString "number_of") s_number_of P_number_of f5 g5)
 (h6:Def1 K mg (ofString "all_rows") s_all_rows P_all_rows f6 g6)
 (h7:Def1 K mg (ofString "first") s_first P_first f7 g7)
 (h8:Def1 K mg (ofString "rank") s_rank P_rank f8 g8)
 (h9:Def1 K mg (ofString "by_ranks") s_by_ranks P_by_ranks f9 g9)
 (h10:Def1 K mg (ofString "best") s_best P_best f10 g10)
 (h11:Def1 K mg (ofString "part_at") s_part_at P_part_at f11 g11)
 (h12:Def1 K mg (ofString "parts_at") s_parts_at P_parts_at f12 g12)
 (h13:Def1 K mg (ofString "can_pass") s_can_pass P_can_pass f13 g13)
 (h14:Def1 K mg (ofString "named_words") s_named_words P_named_words f14 g14)
 (h15:Def1 K mg (ofString "all_named") s_all_named P_all_named f15 g15)
 (h16:Def1 K mg (ofString "new_word") s_new_word P_new_word f16 g16)
 (h17:Def1 K mg (ofString "words_to_try") s_words_to_try P_words_to_try f17 g17)
 (h18:Def1 K mg (ofString "takes_all_behind") s_takes_all_behind P_takes_all_behind f18 g18)
 (h19:Def1 K mg (ofString "one_word_on") s_one_word_on P_one_word_on f19 g19)
 (h20:Def1 K mg (ofString "ended") s_ended P_ended f20 g20)
 (h21:Def1 K mg (ofString "shortest") s_shortest P_shortest f21 g21)
 (h22:Def1 K mg (ofString "common") s_common P_common f22 g22)
 (h23:Def1 K mg (ofString "uncovered") s_uncovered P_uncovered f23 g23)
 (h24:Def1 K mg (ofString "patterns_of") s_patterns_of P_patterns_of f24 g24)
 (h25:Def1 K mg (ofString "reaching") s_reaching P_reaching f25 g25)
 (h26:Def1 K mg (ofString "unreached") s_unreached P_unreached f26 g26)
 (h27:Def1 K mg (ofString "without_unreached") s_without_unreached P_without_unreached f27 g27)
 (h28:Def1 K mg (ofString "_law_cell") s_law_cell P_law_cell f28 g28)
 (h29:Def1 K mg (ofString "_law_pick") s_law_pick P_law_pick f29 g29)
 (h30:Def1 K mg (ofString "law") s_law P_law f30 g30)
 (z0:mg (ofString "all") = none)
 (z1:mg (ofString "any") = none)
 (z2:mg (ofString "enumerate") = none)
 (z3:mg (ofString "len") = none)
 (z4:mg (ofString "range") = none)
 (z5:mg (ofString "sorted") = none)
 (z6:mg (ofString "tuple") = none)
 (z7:mg (ofString "zip") = none)
 (y0:∃ u,mg (ofString "FIGURES") = some u /\ ∃ v,RelV v u /\ ∀ H,Rep K H (.str (ofString "0123456789")) v)
 (y1:∃ u,mg (ofString "RANKED_KINDS") = some u /\ ∃ v,RelV v u /\ ∀ H,Rep K H (.tup [(.str (ofString "word")),(.str (ofString "one")),(.str (ofString "number")),(.str (ofString "any")),(.str (ofString "rest"))]) v)
 (xT:NoKT K)
 (xx0:∀ A,ExcC ⟨P,w,K,mg,base,A⟩ (ofString "NoRow")):∀ k,Ok P w K mg base k f0 g0 P_has_rest 0 /\ Ok P w K mg base k f1 g1 P_writes_number 1 /\ Ok P w K mg base k f2 g2 P_lets_by 2 /\ Ok P w K mg base k f3 g3 P_has_fitting_length 3 /\ Ok P w K mg base k f4 g4 P_does_match 4 /\ Ok P w K mg base k f5 g5 P_number_of 5 /\ Ok P w K mg base k f6 g6 P_all_rows 6 /\ Ok P w K mg base k f7 g7 P_first 7 /\ Ok P w K mg base k f8 g8 P_rank 8 /\ Ok P w K mg base k f9 g9 P_by_ranks 9 /\ Ok P w K mg base k f10 g10 P_best 10 /\ Ok P w K mg base k f11 g11 P_part_at 11 /\ Ok P w K mg base k f12 g12 P_parts_at 12 /\ Ok P w K mg base k f13 g13 P_can_pass 13 /\ Ok P w K mg base k f14 g14 P_named_words 14 /\ Ok P w K mg base k f15 g15 P_all_named 15 /\ Ok P w K mg base k f16 g16 P_new_word 16 /\ Ok P w K mg base k f17 g17 P_words_to_try 17 /\ Ok P w K mg base k f18 g18 P_takes_all_behind 18 /\ Ok P w K mg base k f19 g19 P_one_word_on 19 /\ Ok P w K mg base k f20 g20 P_ended 20 /\ Ok P w K mg base k f21 g21 P_shortest 21 /\ Ok P w K mg base k f22 g22 P_common 22 /\ Ok P w K mg base k f23 g23 P_uncovered 23 /\ Ok P w K mg base k f24 g24 P_patterns_of 24 /\ Ok P w K mg base k f25 g25 P_reaching 25 /\ Ok P w K mg base k f26 g26 P_unreached 26 /\ Ok P w K mg base k f27 g27 P_without_unreached 27 /\ Ok P w K mg base k f28 g28 P_law_cell 28 /\ Ok P w K mg base k f29 g29 P_law_pick 29 /\ Ok P w K mg base k f30 g30 P_law 30:=by
 intro k
 induction k with
 | zero=>exact ⟨fn_zero,fn_zero,fn_zero,fn_zero,fn_zero,fn_zero,fn_zero,fn_zero,fn_zero,fn_zero,fn_zero,fn_zero,fn_zero,fn_zero,fn_zero,fn_zero,fn_zero,fn_zero,fn_zero,fn_zero,fn_zero,fn_zero,fn_zero,fn_zero,fn_zero,fn_zero,fn_zero,fn_zero,fn_zero,fn_zero,fn_zero⟩
 | succ k ih=>
  obtain ⟨i0,i1,i2,i3,i4,i5,i6,i7,i8,i9,i10,i11,i12,i13,i14,i15,i16,i17,i18,i19,i20,i21,i22,i23,i24,i25,i26,i27,i28,i29,i30⟩:=ih
  have env:∀ A,Room (3 * k + 2) A -> Env ⟨P,w,K,mg,base,A⟩ (runD defs k):=fun A hr=>{
   f_has_rest:=⟨⟨3 * k,f0,g0,_,i0,hr.in1.in1,h0.g,h0.F.kp,h0.b⟩⟩
   f_writes_number:=⟨⟨3 * k,f1,g1,_,i1,hr.in1.in1,h1.g,h1.F.kp,h1.b⟩⟩
   f_lets_by:=⟨⟨3 * k,f2,g2,_,i2,hr.in1.in1,h2.g,h2.F.kp,h2.b⟩⟩
   f_has_fitting_length:=⟨⟨3 * k,f3,g3,_,i3,hr.in1.in1,h3.g,h3.F.kp,h3.b⟩⟩
   f_does_match:=⟨⟨3 * k,f4,g4,_,i4,hr.in1.in1,h4.g,h4.F.kp,h4.b⟩⟩
   f_number_of:=⟨⟨3 * k,f5,g5,_,i5,hr.in1.in1,h5.g,h5.F.kp,h5.b⟩⟩
   f_all_rows:=⟨⟨3 * k,f6,g6,_,i6,hr.in1.in1,h6.g,h6.F.kp,h6.b⟩⟩
   f_first:=⟨⟨3 * k,f7,g7,_,i7,hr.in1.in1,h7.g,h7.F.kp,h7.b⟩⟩
   f_rank:=⟨⟨3 * k,f8,g8,_,i8,hr.in1.in1,h8.g,h8.F.kp,h8.b⟩⟩
   f_by_ranks:=⟨⟨3 * k,f9,g9,_,i9,hr.in1.in1,h9.g,h9.F.kp,h9.b⟩⟩
   f_best:=⟨⟨3 * k,f10,g10,_,i10,hr.in1.in1,h10.g,h10.F.kp,h10.b⟩⟩
   f_part_at:=⟨⟨3 * k,f11,g11,_,i11,hr.in1.in1,h11.g,h11.F.kp,h11.b⟩⟩
   f_parts_at:=⟨⟨3 * k,f12,g12,_,i12,hr.in1.in1,h12.g,h12.F.kp,h12.b⟩⟩
   f_can_pass:=⟨⟨3 * k,f13,g13,_,i13,hr.in1.in1,h13.g,h13.F.kp,h13.b⟩⟩
   f_named_words:=⟨⟨3 * k,f14,g14,_,i14,hr.in1.in1,h14.g,h14.F.kp,h14.b⟩⟩
   f_all_named:=⟨⟨3 * k,f15,g15,_,i15,hr.in1.in1,h15.g,h15.F.kp,h15.b⟩⟩
   f_new_word:=⟨⟨3 * k,f16,g16,_,i16,hr.in1.in1,h16.g,h16.F.kp,h16.b⟩⟩
   f_words_to_try:=⟨⟨3 * k,f17,g17,_,i17,hr.in1.in1,h17.g,h17.F.kp,h17.b⟩⟩
   f_takes_all_behind:=⟨⟨3 * k,f18,g18,_,i18,hr.in1.in1,h18.g,h18.F.kp,h18.b⟩⟩
   f_one_word_on:=⟨⟨3 * k,f19,g19,_,i19,hr.in1.in1,h19.g,h19.F.kp,h19.b⟩⟩
   f_ended:=⟨⟨3 * k,f20,g20,_,i20,hr.in1.in1,h20.g,h20.F.kp,h20.b⟩⟩
   f_shortest:=⟨⟨3 * k,f21,g21,_,i21,hr.in1.in1,h21.g,h21.F.kp,h21.b⟩⟩
   f_common:=⟨⟨3 * k,f22,g22,_,i22,hr.in1.in1,h22.g,h22.F.kp,h22.b⟩⟩
   f_uncovered:=⟨⟨3 * k,f23,g23,_,i23,hr.in1.in1,h23.g,h23.F.kp,h23.b⟩⟩
   f_patterns_of:=⟨⟨3 * k,f24,g24,_,i24,hr.in1.in1,h24.g,h24.F.kp,h24.b⟩⟩
   f_reaching:=⟨⟨3 * k,f25,g25,_,i25,hr.in1.in1,h25.g,h25.F.kp,h25.b⟩⟩
   f_unreached:=⟨⟨3 * k,f26,g26,_,i26,hr.in1.in1,h26.g,h26.F.kp,h26.b⟩⟩
   f_without_unreached:=⟨⟨3 * k,f27,g27,_,i27,hr.in1.in1,h27.g,h27.F.kp,h27.b⟩⟩
   f_law_cell:=⟨⟨3 * k,f28,g28,_,i28,hr.in1.in1,h28.g,h28.F.kp,h28.b⟩⟩
   f_law_pick:=⟨⟨3 * k,f29,g29,_,i29,hr.in1.in1,h29.g,h29.F.kp,h29.b⟩⟩
   f_law:=⟨⟨3 * k,f30,g30,_,i30,hr.in1.in1,h30.g,h30.F.kp,h30.b⟩⟩
   b_all:=z0
   b_any:=z1
   b_enumerate:=z2
   b_len:=z3
   b_range:=z4
   b_sorted:=z5
   b_tuple:=z6
   b_zip:=z7
   c_FIGURES:=by obtain ⟨u,e,v,r,g⟩:=y0; exact ⟨v,u,e,r,g⟩
   c_RANKED_KINDS:=by obtain ⟨u,e,v,r,g⟩:=y1; exact ⟨v,u,e,r,g⟩
   k_T:=xT
   x_NoRow:=xx0 A
  }
  exact ⟨fn_ok (j:=3 * k + 2) h0.F (sc_of (by decide +kernel)) rfl rfl rfl (by decide) (by decide) fun X A H0 C hr hx=>@d_has_rest _ _ _ _ (env A hr) C hx,
   fn_ok (j:=3 * k + 2) h1.F (sc_of (by decide +kernel)) rfl rfl rfl (by decide) (by decide) fun X A H0 C hr hx=>@d_writes_number _ _ _ _ (env A hr) C hx,
   fn_ok (j:=3 * k + 2) h2.F (sc_of (by decide +kernel)) rfl rfl rfl (by decide) (by decide) fun X A H0 C hr hx=>@d_lets_by _ _ _ _ (env A hr) C hx,
   fn_ok (j:=3 * k + 2) h3.F (sc_of (by decide +kernel)) rfl rfl rfl (by decide) (by decide) fun X A H0 C hr hx=>@d_has_fitting_length _ _ _ _ (env A hr) C hx,
   fn_ok (j:=3 * k + 2) h4.F (sc_of (by decide +kernel)) rfl rfl rfl (by decide) (by decide) fun X A H0 C hr hx=>@d_does_match _ _ _ _ (env A hr) C hx,
   fn_ok (j:=3 * k + 2) h5.F (sc_of (by decide +kernel)) rfl rfl rfl (by decide) (by decide) fun X A H0 C hr hx=>@d_number_of _ _ _ _ (env A hr) C hx,
   fn_ok (j:=3 * k + 2) h6.F (sc_of (by decide +kernel)) rfl rfl rfl (by decide) (by decide) fun X A H0 C hr hx=>@d_all_rows _ _ _ _ (env A hr) C hx,
   fn_ok (j:=3 * k + 2) h7.F (sc_of (by decide +kernel)) rfl rfl rfl (by decide) (by decide) fun X A H0 C hr hx=>@d_first _ _ _ _ (env A hr) C hx,
   fn_ok (j:=3 * k + 2) h8.F (sc_of (by decide +kernel)) rfl rfl rfl (by decide) (by decide) fun X A H0 C hr hx=>@d_rank _ _ _ _ (env A hr) C hx,
   fn_ok (j:=3 * k + 2) h9.F (sc_of (by decide +kernel)) rfl rfl rfl (by decide) (by decide) fun X A H0 C hr hx=>@d_by_ranks _ _ _ _ (env A hr) C hx,
   fn_ok (j:=3 * k + 2) h10.F (sc_of (by decide +kernel)) rfl rfl rfl (by decide) (by decide) fun X A H0 C hr hx=>@d_best _ _ _ _ (env A hr) C hx,
   fn_ok (j:=3 * k + 2) h11.F (sc_of (by decide +kernel)) rfl rfl rfl (by decide) (by decide) fun X A H0 C hr hx=>@d_part_at _ _ _ _ (env A hr) C hx,
   fn_ok (j:=3 * k + 2) h12.F (sc_of (by decide +kernel)) rfl rfl rfl (by decide) (by decide) fun X A H0 C hr hx=>@d_parts_at _ _ _ _ (env A hr) C hx,
   fn_ok (j:=3 * k + 2) h13.F (sc_of (by decide +kernel)) rfl rfl rfl (by decide) (by decide) fun X A H0 C hr hx=>@d_can_pass _ _ _ _ (env A hr) C hx,
   fn_ok (j:=3 * k + 2) h14.F (sc_of (by decide +kernel)) rfl rfl rfl (by decide) (by decide) fun X A H0 C hr hx=>@d_named_words _ _ _ _ (env A hr) C hx,
   fn_ok (j:=3 * k + 2) h15.F (sc_of (by decide +kernel)) rfl rfl rfl (by decide) (by decide) fun X A H0 C hr hx=>@d_all_named _ _ _ _ (env A hr) C hx,
   fn_ok (j:=3 * k + 2) h16.F (sc_of (by decide +kernel)) rfl rfl rfl (by decide) (by decide) fun X A H0 C hr hx=>@d_new_word _ _ _ _ (env A hr) C hx,
   fn_ok (j:=3 * k + 2) h17.F (sc_of (by decide +kernel)) rfl rfl rfl (by decide) (by decide) fun X A H0 C hr hx=>@d_words_to_try _ _ _ _ (env A hr) C hx,
   fn_ok (j:=3 * k + 2) h18.F (sc_of (by decide +kernel)) rfl rfl rfl (by decide) (by decide) fun X A H0 C hr hx=>@d_takes_all_behind _ _ _ _ (env A hr) C hx,
   fn_ok (j:=3 * k + 2) h19.F (sc_of (by decide +kernel)) rfl rfl rfl (by decide) (by decide) fun X A H0 C hr hx=>@d_one_word_on _ _ _ _ (env A hr) C hx,
   fn_ok (j:=3 * k + 2) h20.F (sc_of (by decide +kernel)) rfl rfl rfl (by decide) (by decide) fun X A H0 C hr hx=>@d_ended _ _ _ _ (env A hr) C hx,
   fn_ok (j:=3 * k + 2) h21.F (sc_of (by decide +kernel)) rfl rfl rfl (by decide) (by decide) fun X A H0 C hr hx=>@d_shortest _ _ _ _ (env A hr) C hx,
   fn_ok (j:=3 * k + 2) h22.F (sc_of (by decide +kernel)) rfl rfl rfl (by decide) (by decide) fun X A H0 C hr hx=>@d_common _ _ _ _ (env A hr) C hx,
   fn_ok (j:=3 * k + 2) h23.F (sc_of (by decide +kernel)) rfl rfl rfl (by decide) (by decide) fun X A H0 C hr hx=>@d_uncovered _ _ _ _ (env A hr) C hx,
   fn_ok (j:=3 * k + 2) h24.F (sc_of (by decide +kernel)) rfl rfl rfl (by decide) (by decide) fun X A H0 C hr hx=>@d_patterns_of _ _ _ _ (env A hr) C hx,
   fn_ok (j:=3 * k + 2) h25.F (sc_of (by decide +kernel)) rfl rfl rfl (by decide) (by decide) fun X A H0 C hr hx=>@d_reaching _ _ _ _ (env A hr) C hx,
   fn_ok (j:=3 * k + 2) h26.F (sc_of (by decide +kernel)) rfl rfl rfl (by decide) (by decide) fun X A H0 C hr hx=>@d_unreached _ _ _ _ (env A hr) C hx,
   fn_ok (j:=3 * k + 2) h27.F (sc_of (by decide +kernel)) rfl rfl rfl (by decide) (by decide) fun X A H0 C hr hx=>@d_without_unreached _ _ _ _ (env A hr) C hx,
   fn_ok (j:=3 * k + 2) h28.F (sc_of (by decide +kernel)) rfl rfl rfl (by decide) (by decide) fun X A H0 C hr hx=>@d_law_cell _ _ _ _ (env A hr) C hx,
   fn_ok (j:=3 * k + 2) h29.F (sc_of (by decide +kernel)) rfl rfl rfl (by decide) (by decide) fun X A H0 C hr hx=>@d_law_pick _ _ _ _ (env A hr) C hx,
   fn_ok (j:=3 * k + 2) h30.F (sc_of (by decide +kernel)) rfl rfl rfl (by decide) (by decide) fun X A H0 C hr hx=>@d_law _ _ _ _ (env A hr) C hx⟩
end
theorem all_mk {l:PySem.W.OpenLaw} {w:World} {K:PySem.W.Frag} {h:Heap} {mg:Str -> Option Value} {fa f0 f1 f2 f3 f4 f5 f6 f7 f8 f9 f10 f11 f12 f13 f14 f15 f16 f17 f18 f19 f20 f21 f22 f23 f24 f25 f26 f27 f28 f29 f30:Addr} {g0 g1 g2 g3 g4 g5 g6 g7 g8 g9 g10 g11 g12 g13 g14 g15 g16 g17 g18 g19 g20 g21 g22 g23 g24 g25 g26 g27 g28 g29 g30:FuncData} (X:K.In h) (G:h.Ns mainGlobals mg) (hfa:mg "law" = some (.ref fa))
  (d0:DefIn K (ofString "has_rest") s_has_rest f0 g0)
  (d1:DefIn K (ofString "writes_number") s_writes_number f1 g1)
  (d2:DefIn K (ofString "lets_by") s_lets_by f2 g2)
  (d3:DefIn K (ofString "has_fitting_length") s_has_fitting_length f3 g3)
  (d4:DefIn K (ofString "does_match") s_does_match f4 g4)
  (d5:DefIn K (ofString "number_of") s_number_of f5 g5)
  (d6:DefIn K (ofString "all_rows") s_all_rows f6 g6)
  (d7:DefIn K (ofString "first") s_first f7 g7)
  (d8:DefIn K (ofString "rank") s_rank f8 g8)
  (d9:DefIn K (ofString "by_ranks") s_by_ranks f9 g9)
  (d10:DefIn K (ofString "best") s_best f10 g10)
  (d11:DefIn K (ofString "part_at") s_part_at f11 g11)
  (d12:DefIn K (ofString "parts_at") s_parts_at f12 g12)
  (d13:DefIn K (ofString "can_pass") s_can_pass f13 g13)
  (d14:DefIn K (ofString "named_words") s_named_words f14 g14)
  (d15:DefIn K (ofString "all_named") s_all_named f15 g15)
  (d16:DefIn K (ofString "new_word") s_new_word f16 g16)
  (d17:DefIn K (ofString "words_to_try") s_words_to_try f17 g17)
  (d18:DefIn K (ofString "takes_all_behind") s_takes_all_behind f18 g18)
  (d19:DefIn K (ofString "one_word_on") s_one_word_on f19 g19)
  (d20:DefIn K (ofString "ended") s_ended f20 g20)
  (d21:DefIn K (ofString "shortest") s_shortest f21 g21)
  (d22:DefIn K (ofString "common") s_common f22 g22)
  (d23:DefIn K (ofString "uncovered") s_uncovered f23 g23)
  (d24:DefIn K (ofString "patterns_of") s_patterns_of f24 g24)
  (d25:DefIn K (ofString "reaching") s_reaching f25 g25)
  (d26:DefIn K (ofString "unreached") s_unreached f26 g26)
  (d27:DefIn K (ofString "without_unreached") s_without_unreached f27 g27)
  (d28:DefIn K (ofString "_law_cell") s_law_cell f28 g28)
  (d29:DefIn K (ofString "_law_pick") s_law_pick f29 g29)
  (d30:DefIn K (ofString "law") s_law f30 g30)
  (z0:PySem.W.nsIn K mainGlobals (ofString "all") = some none)
  (z1:PySem.W.nsIn K mainGlobals (ofString "any") = some none)
  (z2:PySem.W.nsIn K mainGlobals (ofString "enumerate") = some none)
  (z3:PySem.W.nsIn K mainGlobals (ofString "len") = some none)
  (z4:PySem.W.nsIn K mainGlobals (ofString "range") = some none)
  (z5:PySem.W.nsIn K mainGlobals (ofString "sorted") = some none)
  (z6:PySem.W.nsIn K mainGlobals (ofString "tuple") = some none)
  (z7:PySem.W.nsIn K mainGlobals (ofString "zip") = some none)
  {t0:Tok} (y0:PySem.W.nsIn K mainGlobals (ofString "FIGURES") = some (some (.str (ofString "0123456789") t0)))
  {ya1:Addr} {yn1:Nat} {ys1:Array (Option Value)} {t1_0 t1_1 t1_2 t1_3 t1_4:Tok} (y1:PySem.W.nsIn K mainGlobals (ofString "RANKED_KINDS") = some (some (.ref ya1))) (v1:K.lookup ya1 = some ⟨.type "tuple",none,.seq #[.str (ofString "word") t1_0,.str (ofString "one") t1_1,.str (ofString "number") t1_2,.str (ofString "any") t1_3,.str (ofString "rest") t1_4] yn1,ys1⟩)
  (gT:noKTB K = true)
  {C_NoRow:Addr}
  (ec_NoRow:PySem.W.nsIn K mainGlobals (ofString "NoRow") = some (some (.ref C_NoRow)))
  (xc_NoRow:PySem.W.excIn K C_NoRow [.type "ValueError",.type "Exception",.type "BaseException",.type "object"] "ValueError.__new__" = true)
  : ∃ fd:FuncData,(∀ (s:Shared) (v:Value),BindsTo s fd ⟨[v],[]⟩ [((ofString "_law_script"),v)]) /\ ∀ base:Heap,K.In base -> base.Ns mainGlobals mg -> FnOk l.prog w K mg base (CXr l.prog w) 30 fa fd P_law (sp0 K (runD defs 10) 30):=by
 have e:=hfa.symm.trans (PySem.W.mg_of X G d30.a)
 cases e
 have b0:=d0.F.binds (ps:=P_has_rest) fun _ _ _ _ _ _ us hl=>match us,hl with | [_],_=>rfl
 have b1:=d1.F.binds (ps:=P_writes_number) fun _ _ _ _ _ _ us hl=>match us,hl with | [_],_=>rfl
 have b2:=d2.F.binds (ps:=P_lets_by) fun _ _ _ _ _ _ us hl=>match us,hl with | [_,_],_=>rfl
 have b3:=d3.F.binds (ps:=P_has_fitting_length) fun _ _ _ _ _ _ us hl=>match us,hl with | [_,_],_=>rfl
 have b4:=d4.F.binds (ps:=P_does_match) fun _ _ _ _ _ _ us hl=>match us,hl with | [_,_],_=>rfl
 have b5:=d5.F.binds (ps:=P_number_of) fun _ _ _ _ _ _ us hl=>match us,hl with | [_,_],_=>rfl
 have b6:=d6.F.binds (ps:=P_all_rows) fun _ _ _ _ _ _ us hl=>match us,hl with | [_,_],_=>rfl
 have b7:=d7.F.binds (ps:=P_first) fun _ _ _ _ _ _ us hl=>match us,hl with | [_,_],_=>rfl
 have b8:=d8.F.binds (ps:=P_rank) fun _ _ _ _ _ _ us hl=>match us,hl with | [_],_=>rfl
 have b9:=d9.F.binds (ps:=P_by_ranks) fun _ _ _ _ _ _ us hl=>match us,hl with | [_],_=>rfl
 have b10:=d10.F.binds (ps:=P_best) fun _ _ _ _ _ _ us hl=>match us,hl with | [_,_],_=>rfl
 have b11:=d11.F.binds (ps:=P_part_at) fun _ _ _ _ _ _ us hl=>match us,hl with | [_,_],_=>rfl
 have b12:=d12.F.binds (ps:=P_parts_at) fun _ _ _ _ _ _ us hl=>match us,hl with | [_,_],_=>rfl
 have b13:=d13.F.binds (ps:=P_can_pass) fun _ _ _ _ _ _ us hl=>match us,hl with | [_,_],_=>rfl
 have b14:=d14.F.binds (ps:=P_named_words) fun _ _ _ _ _ _ us hl=>match us,hl with | [_],_=>rfl
 have b15:=d15.F.binds (ps:=P_all_named) fun _ _ _ _ _ _ us hl=>match us,hl with | [_],_=>rfl
 have b16:=d16.F.binds (ps:=P_new_word) fun _ _ _ _ _ _ us hl=>match us,hl with | [_,_],_=>rfl
 have b17:=d17.F.binds (ps:=P_words_to_try) fun _ _ _ _ _ _ us hl=>match us,hl with | [_,_],_=>rfl
 have b18:=d18.F.binds (ps:=P_takes_all_behind) fun _ _ _ _ _ _ us hl=>match us,hl with | [_,_],_=>rfl
 have b19:=d19.F.binds (ps:=P_one_word_on) fun _ _ _ _ _ _ us hl=>match us,hl with | [_,_,_,_],_=>rfl
 have b20:=d20.F.binds (ps:=P_ended) fun _ _ _ _ _ _ us hl=>match us,hl with | [_,_,_],_=>rfl
 have b21:=d21.F.binds (ps:=P_shortest) fun _ _ _ _ _ _ us hl=>match us,hl with | [_,_],_=>rfl
 have b22:=d22.F.binds (ps:=P_common) fun _ _ _ _ _ _ us hl=>match us,hl with | [_,_],_=>rfl
 have b23:=d23.F.binds (ps:=P_uncovered) fun _ _ _ _ _ _ us hl=>match us,hl with | [_,_],_=>rfl
 have b24:=d24.F.binds (ps:=P_patterns_of) fun _ _ _ _ _ _ us hl=>match us,hl with | [_],_=>rfl
 have b25:=d25.F.binds (ps:=P_reaching) fun _ _ _ _ _ _ us hl=>match us,hl with | [_,_],_=>rfl
 have b26:=d26.F.binds (ps:=P_unreached) fun _ _ _ _ _ _ us hl=>match us,hl with | [_],_=>rfl
 have b27:=d27.F.binds (ps:=P_without_unreached) fun _ _ _ _ _ _ us hl=>match us,hl with | [_],_=>rfl
 have b28:=d28.F.binds (ps:=P_law_cell) fun _ _ _ _ _ _ us hl=>match us,hl with | [_,_],_=>rfl
 have b29:=d29.F.binds (ps:=P_law_pick) fun _ _ _ _ _ _ us hl=>match us,hl with | [_,_,_],_=>rfl
 have b30:=d30.F.binds (ps:=P_law) fun _ _ _ _ _ _ us hl=>match us,hl with | [_],_=>rfl
 have X0:∀ base A,ExcC ⟨l.prog,w,K,mg,base,A⟩ (ofString "NoRow"):=fun base A=>⟨⟨C_NoRow,ec_NoRow,PySem.W.mg_of X G ec_NoRow,_,_,_,_,xc_NoRow,PySem.F.excBase_ValueError⟩⟩
 refine ⟨g30,?_,fun base _ _=>?_⟩
 ·obtain ⟨_,_,_,_,_,_,_,_,_,e,_⟩:=d30.F.ex
  subst e
  exact fun s v=>.of_eq rfl
 have A:=all_ok (P:=l.prog) (w:=w) (base:=base) ⟨d0.F,b0,PySem.W.mg_of X G d0.a⟩ ⟨d1.F,b1,PySem.W.mg_of X G d1.a⟩ ⟨d2.F,b2,PySem.W.mg_of X G d2.a⟩ ⟨d3.F,b3,PySem.W.mg_of X G d3.a⟩ ⟨d4.F,b4,PySem.W.mg_of X G d4.a⟩ ⟨d5.F,b5,PySem.W.mg_of X G d5.a⟩ ⟨d6.F,b6,PySem.W.mg_of X G d6.a⟩ ⟨d7.F,b7,PySem.W.mg_of X G d7.a⟩ ⟨d8.F,b8,PySem.W.mg_of X G d8.a⟩ ⟨d9.F,b9,PySem.W.mg_of X G d9.a⟩ ⟨d10.F,b10,PySem.W.mg_of X G d10.a⟩ ⟨d11.F,b11,PySem.W.mg_of X G d11.a⟩ ⟨d12.F,b12,PySem.W.mg_of X G d12.a⟩ ⟨d13.F,b13,PySem.W.mg_of X G d13.a⟩ ⟨d14.F,b14,PySem.W.mg_of X G d14.a⟩ ⟨d15.F,b15,PySem.W.mg_of X G d15.a⟩ ⟨d16.F,b16,PySem.W.mg_of X G d16.a⟩ ⟨d17.F,b17,PySem.W.mg_of X G d17.a⟩ ⟨d18.F,b18,PySem.W.mg_of X G d18.a⟩ ⟨d19.F,b19,PySem.W.mg_of X G d19.a⟩ ⟨d20.F,b20,PySem.W.mg_of X G d20.a⟩ ⟨d21.F,b21,PySem.W.mg_of X G d21.a⟩ ⟨d22.F,b22,PySem.W.mg_of X G d22.a⟩ ⟨d23.F,b23,PySem.W.mg_of X G d23.a⟩ ⟨d24.F,b24,PySem.W.mg_of X G d24.a⟩ ⟨d25.F,b25,PySem.W.mg_of X G d25.a⟩ ⟨d26.F,b26,PySem.W.mg_of X G d26.a⟩ ⟨d27.F,b27,PySem.W.mg_of X G d27.a⟩ ⟨d28.F,b28,PySem.W.mg_of X G d28.a⟩ ⟨d29.F,b29,PySem.W.mg_of X G d29.a⟩ ⟨d30.F,b30,PySem.W.mg_of X G d30.a⟩ (PySem.W.mg_none_of X G z0) (PySem.W.mg_none_of X G z1) (PySem.W.mg_none_of X G z2) (PySem.W.mg_none_of X G z3) (PySem.W.mg_none_of X G z4) (PySem.W.mg_none_of X G z5) (PySem.W.mg_none_of X G z6) (PySem.W.mg_none_of X G z7) ⟨_,PySem.W.mg_of X G y0,.str (ofString "0123456789"),⟨_,rfl⟩,fun H=>rfl⟩ ⟨_,PySem.W.mg_of X G y1,.ref ya1,rfl,fun H=>Rd.globT y1 (ds:=[(.str (ofString "word")),(.str (ofString "one")),(.str (ofString "number")),(.str (ofString "any")),(.str (ofString "rest"))]) (xs:=[.str (ofString "word"),.str (ofString "one"),.str (ofString "number"),.str (ofString "any"),.str (ofString "rest")]) v1 (by simp) (.cons ⟨_,rfl⟩ (.cons ⟨_,rfl⟩ (.cons ⟨_,rfl⟩ (.cons ⟨_,rfl⟩ (.cons ⟨_,rfl⟩ .nil))))) (fun H=>⟨_,_,rfl,rfl,_,_,rfl,rfl,_,_,rfl,rfl,_,_,rfl,rfl,_,_,rfl,rfl,rfl⟩) H⟩  (noKT_of gT) (X0 base) 10
 exact (A.2.2.2.2.2.2.2.2.2.2.2.2.2.2.2.2.2.2.2.2.2.2.2.2.2.2.2.2.2.2).imp sp0_of
end K92
def PySem.W.Fast.tw152366056777777842:=0
def PySem.W.Fast.tw13868861629586153480:=0
def PySem.W.Fast.tw14314050345161993301:=0
def PySem.W.Fast.tw13261424128910031733:=0
def PySem.W.Fast.tw13725614668131419989:=0
def PySem.W.Fast.tw9097178684972764103:=0
def PySem.W.Fast.tw12091214499743352649:=0
def PySem.W.Fast.tw1700314964001008072:=0
def PySem.W.Fast.tw1886093260342512474:=0
def PySem.W.Fast.tw4476704859934114754:=0
def PySem.W.Fast.tw16771559115735487383:=0
def PySem.W.Fast.tw12245279037377728277:=0
def PySem.W.Fast.tw15223528277618753798:=0
def PySem.W.Fast.tw1639034493173798140:=0
def PySem.W.Fast.tw1355082972424718558:=0
def PySem.W.Fast.tw8929875694160054635:=0
def PySem.W.Fast.tw7130092642827947577:=0
def PySem.W.Fast.tw15557148127023244642:=0
def PySem.W.Fast.tw12326062542957887073:=0
def PySem.W.Fast.tw12813368405916146955:=0
def PySem.W.Fast.tw8795178334331348000:=0
def PySem.W.Fast.tw7505804182610993699:=0
def PySem.W.Fast.tw8819295036884778589:=0
def PySem.W.Fast.tw3588230119889835933:=0
def PySem.W.Fast.tw16826759504230668256:=0
def PySem.W.Fast.tw17265711340565947252:=0
def PySem.W.Fast.tw352094383609135995:=0
def PySem.W.Fast.tw15909598576755918457:=0
def PySem.W.Fast.tw14380590699317668977:=0
def PySem.W.Fast.tw122150681778638177:=0
def PySem.W.Fast.tw12513504669003347662:=0
def PySem.W.Fast.tw16672783046866423416:=0
def PySem.W.Fast.tw2022083642326657171:=0
def PySem.W.Fast.tw1364832351635171535:=0
def PySem.W.Fast.tw15192763631667842971:=0
def PySem.W.Fast.tw17410724820334247232:=0
def PySem.W.Fast.tw1635134256918783040:=0
def PySem.W.Fast.tw10807403343699476546:=0
def PySem.W.Fast.tw17702628345432132911:=0
def PySem.W.Fast.tw16719331197217486739:=0
def PySem.W.Fast.tw2229444162393377235:=0
def PySem.W.Fast.tw13424189721118560780:=0
def PySem.W.Fast.tw7455229692999822752:=0
def PySem.W.Fast.tw1562190128004703672:=0
def PySem.W.Fast.tw4230225610741764659:=0
def PySem.W.Fast.tw4288100280101745170:=0
def PySem.W.Fast.tw18277927672129010708:=0
def PySem.W.Fast.tw6396085694566633745:=0
def PySem.W.Fast.tw15404984474233225453:=0
def PySem.W.Fast.tw11426334525685440602:=0
def PySem.W.Fast.tw15970682284469938080:=0
def PySem.W.Fast.tw6887163230630717057:=0
def PySem.W.Fast.tw1770180119393911365:=0
def PySem.W.Fast.tw13271277171584183595:=0
def PySem.W.Fast.tw3253882457219736563:=0
def PySem.W.Fast.tw16576506582270727153:=0
def PySem.W.Fast.tw1373801604093668341:=0
def PySem.W.Fast.tw14163599432170952069:=0
def PySem.W.Fast.tw12550256822658664038:=0
def PySem.W.Fast.tw4971765631288659521:=0
def PySem.W.Fast.tw13846748239051118963:=0
def PySem.W.Fast.tw3788437295858990248:=0
open PySem PySem.W PyProof.Rows
theorem PySem.Challenge.cw_routeboard_k92_whole_edges_by_hand_holds : PySem.Challenge.rw_routeboard_k92_whole_edges_by_hand.Holds := by
 w_on; o_law; k_head; (case hw=>w_witness2)
 k_fill
 refine L2.walk_of (l:=PySem.Challenge.rw_routeboard_k92_whole_edges_by_hand) (n:=63) (k:=30) (x:=(Str.ofString "_law_script")) (CX:=fun w=>Rd.CXr PySem.Challenge.rw_routeboard_k92_whole_edges_by_hand.prog w) (sp:=fun w=>Rd.sp0 _ (Pu.runD K92.defs 10) 30) rfl (by decide) rfl ⟨rfl,by decide,by decide⟩ (fun w h Y=>PySem.W.kIn_of Y) ?F (fun w H a ns hl _ hS=>Rd.law_wish0 hS (K92.law_true ns 0)) fun _ _ _ _ _ z=>Rd.noCX z
 case F=>
  intro w mg fa h KX G hmg
  refine' K92.all_mk KX G hmg ?d0 ?d1 ?d2 ?d3 ?d4 ?d5 ?d6 ?d7 ?d8 ?d9 ?d10 ?d11 ?d12 ?d13 ?d14 ?d15 ?d16 ?d17 ?d18 ?d19 ?d20 ?d21 ?d22 ?d23 ?d24 ?d25 ?d26 ?d27 ?d28 ?d29 ?d30 ?z0 ?z1 ?z2 ?z3 ?z4 ?z5 ?z6 ?z7 ?y0 ?y1 ?v1 ?gT ?ec_NoRow ?xc_NoRow
  (case d0=>exact Rd.def_mk (by k_is) (by k_is) (by k_is) (by k_is))
  (case d1=>exact Rd.def_mk (by k_is) (by k_is) (by k_is) (by k_is))
  (case d2=>exact Rd.def_mk (by k_is) (by k_is) (by k_is) (by k_is))
  (case d3=>exact Rd.def_mk (by k_is) (by k_is) (by k_is) (by k_is))
  (case d4=>exact Rd.def_mk (by k_is) (by k_is) (by k_is) (by k_is))
  (case d5=>exact Rd.def_mk (by k_is) (by k_is) (by k_is) (by k_is))
  (case d6=>exact Rd.def_mk (by k_is) (by k_is) (by k_is) (by k_is))
  (case d7=>exact Rd.def_mk (by k_is) (by k_is) (by k_is) (by k_is))
  (case d8=>exact Rd.def_mk (by k_is) (by k_is) (by k_is) (by k_is))
  (case d9=>exact Rd.def_mk (by k_is) (by k_is) (by k_is) (by k_is))
  (case d10=>exact Rd.def_mk (by k_is) (by k_is) (by k_is) (by k_is))
  (case d11=>exact Rd.def_mk (by k_is) (by k_is) (by k_is) (by k_is))
  (case d12=>exact Rd.def_mk (by k_is) (by k_is) (by k_is) (by k_is))
  (case d13=>exact Rd.def_mk (by k_is) (by k_is) (by k_is) (by k_is))
  (case d14=>exact Rd.def_mk (by k_is) (by k_is) (by k_is) (by k_is))
  (case d15=>exact Rd.def_mk (by k_is) (by k_is) (by k_is) (by k_is))
  (case d16=>exact Rd.def_mk (by k_is) (by k_is) (by k_is) (by k_is))
  (case d17=>exact Rd.def_mk (by k_is) (by k_is) (by k_is) (by k_is))
  (case d18=>exact Rd.def_mk (by k_is) (by k_is) (by k_is) (by k_is))
  (case d19=>exact Rd.def_mk (by k_is) (by k_is) (by k_is) (by k_is))
  (case d20=>exact Rd.def_mk (by k_is) (by k_is) (by k_is) (by k_is))
  (case d21=>exact Rd.def_mk (by k_is) (by k_is) (by k_is) (by k_is))
  (case d22=>exact Rd.def_mk (by k_is) (by k_is) (by k_is) (by k_is))
  (case d23=>exact Rd.def_mk (by k_is) (by k_is) (by k_is) (by k_is))
  (case d24=>exact Rd.def_mk (by k_is) (by k_is) (by k_is) (by k_is))
  (case d25=>exact Rd.def_mk (by k_is) (by k_is) (by k_is) (by k_is))
  (case d26=>exact Rd.def_mk (by k_is) (by k_is) (by k_is) (by k_is))
  (case d27=>exact Rd.def_mk (by k_is) (by k_is) (by k_is) (by k_is))
  (case d28=>exact Rd.def_mk (by k_is) (by k_is) (by k_is) (by k_is))
  (case d29=>exact Rd.def_mk (by k_is) (by k_is) (by k_is) (by k_is))
  (case d30=>exact Rd.def_mk (by k_is) (by k_is) (by k_is) (by k_is))
  (case z0=>k_is)
  (case z1=>k_is)
  (case z2=>k_is)
  (case z3=>k_is)
  (case z4=>k_is)
  (case z5=>k_is)
  (case z6=>k_is)
  (case z7=>k_is)
  (case y0=>k_is)
  (case y1=>k_is)
  (case v1=>k_is)
  (case gT=>kernel_rfl)
  (case ec_NoRow=>k_is)
  (case xc_NoRow=>k_exc)
